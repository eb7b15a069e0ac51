import PyProof.Rows.All
import Wide.All
import OpenK.AllK
import Wide.FinOn
import Lean
import PyProof.EqAt
import PyProof.EqKinds
import PyProof.TupleCall
import PyProof.AttrMissHeap
import PySem.Challenge.RW_sealchain_k27_called_in
set_option Elab.async false
set_option linter.all false
set_option maxRecDepth 100000
set_option maxHeartbeats 40000000
theorem mY {α:Type _}{a:α}(l:List α) {k:List α}(h:a∈k):a∈l++k:=List.mem_append_right l h
theorem mZ {α:Type _}(b:α) {a:α}{l:List α}(h:a∈l):a∈b::l:=List.mem_cons_of_mem b h
theorem mX {α:Type _}{a:α}{l:List α}:a∈a::l:=List.mem_cons_self
theorem oX {α β:Type _}{o:Option α}{f:α->Option β}{b:β}(h:o.bind f=some b):∃a,o=some a/\f a=some b:=Option.bind_eq_some_iff.mp h
theorem oY {α β:Type _}{f:α->β}{o:Option α}{b:β}(h:o.map f=some b):∃a,o=some a/\f a=b:=Option.map_eq_some_iff.mp h
def wX:=@PySem.wpAny_bind
def wY:=@PySem.wpAny_pure
namespace L2
open PySem PySem.Spec PyProof.Rows
abbrev Key:=Sum Int Str
def p7:Key->Value->Bool
 | .inl k,v=>Value.isInt k v
 | .inr x,v=>Value.isStrOf x v
def Hi (w:World):Key->Int
 | .inl k=>hashInt k
 | .inr x=>hashStr w x
theorem bZ:∀ {k:Key}{v:Value},p7 k v=true->(∃i t,k=Sum.inl i/\v=Value.int i t)∨(∃x t,k=Sum.inr x/\v=Value.str x t)
 | .inl i,v,h=>by
  obtain⟨t,e⟩:=Value.isInt_shape (k:=i) (v:=v) h
  exact .inl ⟨i,t,rfl,e⟩
 | .inr x,v,h=>by
  obtain⟨t,e⟩:=Value.isStrOf_shape (x:=x) (v:=v) h
  exact .inr ⟨x,t,rfl,e⟩
theorem yw (i:Int) (t:Tok):p7 (.inl i) (.int i t)=true:=by simp[p7,Value.isInt]
theorem yx (x:Str) (t:Tok):p7 (.inr x) (.str x t)=true:=by simp[p7,Value.isStrOf]
theorem DW (a b:Int):decide ((Sum.inl a:Key)=Sum.inl b)=(a == b):=by
 by_cases e:a=b
 ·subst e;simp
 ·have h:¬(Sum.inl a:Key)=Sum.inl b:=λq=>e (Sum.inl.inj q)
  rw[decide_eq_false h]
  exact(beq_eq_false_iff_ne.mpr e).symm
theorem DX (a b:Str):decide ((Sum.inr a:Key)=Sum.inr b)=decide (a=b):=by
 by_cases e:a=b
 ·subst e;simp
 ·have h:¬(Sum.inr a:Key)=Sum.inr b:=λq=>e (Sum.inr.inj q)
  rw[decide_eq_false h,decide_eq_false e]
theorem DY (a:Int) (b:Str):decide ((Sum.inl a:Key)=Sum.inr b)=false:=decide_eq_false (λq=>nomatch q)
theorem DZ (a:Str) (b:Int):decide ((Sum.inr a:Key)=Sum.inl b)=false:=decide_eq_false (λq=>nomatch q)
def ce (prog:Program) (w:World):PySem.KeyKind prog w Key where
 is:=p7
 hash:=Hi w
 inj:=λv a b ha hb=>by
  rcases bZ ha with ⟨i,t,rfl,rfl⟩|⟨x,t,rfl,rfl⟩
  ·rcases bZ hb with ⟨j,u,rfl,e⟩|⟨y,u,rfl,e⟩
   ·injection e with e1 _;rw[e1]
   ·exact nomatch e
  ·rcases bZ hb with ⟨j,u,rfl,e⟩|⟨y,u,rfl,e⟩
   ·exact nomatch e
   ·injection e with e1 _;rw[e1]
 byValue:=λk v h=>by
  rcases bZ h with ⟨i,t,rfl,rfl⟩|⟨x,t,rfl,rfl⟩<;>rfl
 pyHash:=λhv h=>by
  rcases bZ hv with ⟨i,t,rfl,rfl⟩|⟨x,t,rfl,rfl⟩
  ·exact wpAny_pyHash_int h
  ·exact wpAny_pyHash_str h
 eqBool:=λhu hv h=>by
  rcases bZ hu with ⟨i,t,rfl,rfl⟩|⟨x,t,rfl,rfl⟩
  ·rcases bZ hv with ⟨j,u,rfl,rfl⟩|⟨y,u,rfl,rfl⟩
   ·rw[DW]at h;exact wpAny_eqBool_int h
   ·rw[DY]at h;exact SeqAt.EqAt.int_str i t y u _ _ _ _ h
  ·rcases bZ hv with ⟨j,u,rfl,rfl⟩|⟨y,u,rfl,rfl⟩
   ·rw[DZ]at h;exact SeqAt.EqAt.str_int x t j u _ _ _ _ h
   ·rw[DX]at h;exact wpAny_eqBool_str h
 «strs»:=λk x t v h=>by
  rcases bZ h with ⟨i,u,rfl,e⟩|⟨y,u,rfl,e⟩
  ·exact nomatch e
  ·injection e with e1 _
   subst e1
   cases v<;>rfl
theorem sA (prog:Program) (w:World) (i:Int) (t:Tok):(ce prog w).is (.inl i) (.int i t)=true:=yw i t
theorem sC (prog:Program) (w:World) (x:Str) (t:Tok):(ce prog w).is (.inr x) (.str x t)=true:=yx x t
inductive V where
 | non|bl (b:Bool)|int (i:Int)|str (x:Str)|byt (b:Array UInt8)|flt (b:UInt64)|ref (a:Addr)|ty (n:String)
 deriving DecidableEq
def aT:V->Value->Prop
 | .non,u=>u=Value.none
 | .bl b,u=>u=Value.bool b
 | .int i,u=>∃t,u=Value.int i t
 | .str x,u=>∃t,u=Value.str x t
 | .byt b,u=>∃t,u=Value.bytes b t
 | .flt b,u=>∃t,u=Value.float b t
 | .ref a,u=>u=Value.ref a
 | .ty n,u=>u=Value.type n
abbrev aX:List V->List Value->Prop:=Paired aT
theorem aX.length {xs:List V}{us:List Value}(r:aX xs us):xs.length=us.length:=Paired.length r
theorem aX.get:∀ {xs:List V}{us:List Value}{i:Nat}{x:V},aX xs us->xs[i]? = some x->∃u,us[i]? = some u/\aT x u
 | _,_,_,_,.nil,e=>by simp at e
 | _,_,0,_,.cons r _,e=>by simp at e;subst e;exact⟨_,rfl,r⟩
 | _,_,i+1,x,.cons _ t,e=>by
  obtain⟨u,h1,h2⟩:=aX.get (i:=i) (x:=x) t (by simpa using e)
  exact⟨u,by simpa using h1,h2⟩
theorem aX.set {x:V}{u:Value}(r:aT x u):∀ {xs:List V}{us:List Value}(i:Nat),aX xs us->aX (xs.set i x) (us.set i u)
 | _,_,_,.nil=>.nil
 | _,_,0,.cons _ t=>.cons r t
 | _,_,i+1,.cons q t=>.cons q (aX.set r i t)
theorem aX.append:∀ {xs ys:List V}{us ws:List Value},aX xs us->aX ys ws->aX (xs++ys) (us++ws)
 | _,_,_,_,.nil,s=>s
 | _,_,_,_,.cons r t,s=>.cons r (aX.append t s)
theorem aX.take:∀ {xs:List V}{us:List Value}(n:Nat),aX xs us->aX (xs.take n) (us.take n)
 | _,_,0,_=>.nil
 | _,_,_+1,.nil=>.nil
 | _,_,n+1,.cons r t=>.cons r (aX.take n t)
theorem aX.drop:∀ {xs:List V}{us:List Value}(n:Nat),aX xs us->aX (xs.drop n) (us.drop n)
 | _,_,0,r=>r
 | _,_,_+1,.nil=>.nil
 | _,_,n+1,.cons _ t=>aX.drop n t
theorem aX.none_of:∀ {xs:List V}{us:List Value}{i:Nat},aX xs us->xs[i]? = none->us[i]? = none:=λ{xs us i} r e=>by
 have h1:=r.length
 have h2:xs.length<=i:=List.getElem?_eq_none_iff.mp e
 exact List.getElem?_eq_none_iff.mpr (by omega)
def mv:Option V->Option Value->Prop
 | some v,some u=>aT v u
 | none,none=>True
 | _,_=>False
def KV {κ:Type}:List (κ×V)->List (κ×Value)->Prop:=Paired λ(p:κ×V) (q:κ×Value)=>p.1=q.1/\aT p.2 q.2
def kV:Key->V
 | .inl i=>.int i
 | .inr x=>.str x
inductive HO where
  | lst (xs:List V)
  | tup (xs:List V)
  | dK (kvs:List (Key×V)) (ob:Obj)|dT (kvs:List (List Key×V))
  | set (S:Int->Bool) (n:Nat)
  | ins (C dx:Addr) (fs:List (Str×V))
  | own (x:Addr)
  | xd (fs:List (Str×V))
  | met (f x:Addr)
  | rng (lo hi:Int)
  | frz (o:Obj) (u:HO)
  | tbl (q:Str)
  | ext (φ:Heap->Prop)
abbrev Hp:=Addr->Option HO
def upd (H:Hp) (a:Addr) (o:HO):Hp:=λb=>if b=a then some o else H b
theorem aJ {H:Hp}{a:Addr}{o:HO}:upd H a o a=some o:=by unfold upd;rw[if_pos rfl]
theorem aL {H:Hp}{a b:Addr}{o:HO}(h:b≠a):upd H a o b=H b:=by unfold upd;rw[if_neg h]
theorem BA {H:Hp}{a:Addr}{o u:HO}:upd (upd H a o) a u=upd H a u:=by
 funext b;unfold upd;split<;>rfl
theorem FI {H:Hp}{a b:Addr}{o u:HO}(h:H a=some o) (h':H b=some u) (d:o≠u):a≠b:=by
 intro e;subst e;rw[h]at h';exact d (Option.some.inj h')
theorem aS {H:Hp}{a b:Addr}{o:HO}(h:H a=some o) (h':H b=none):a≠b:=by
 intro e;subst e;rw[h]at h';cases h'
section
variable (P:Program) (w:World)
def bH (H:Hp) (h:Heap) (a:Addr):HO->Prop
 | .lst xs=>xs.length<=sizeLine/\∃(its:List Value) (n:Nat),aX xs its/\h.get? a=some { cls:=.type "list",data:=.seq its.toArray n }
 | .tup xs=>xs.length<=sizeLine/\∃its:List Value,aX xs its/\IsTup h a its.toArray
 | .dK kvs ob=>h.get? a=some ob/\kvs.length<=sizeLine/\(a == sysModules)=false/\∃vs,KV kvs vs/\h.DictOf (ce P w) a vs
 | .dT kvs=>kvs.length<=sizeLine/\(a == sysModules)=false/\∃xs:List (List Key×Addr×Value),
   Paired (λ(p:List Key×V) (q:List Key×Addr×Value)=>p.1=q.1/\H q.2.1=some (.tup (p.1.map kV))/\aT p.2 q.2.2) kvs xs /\
   ∃o es ep,h.get? a=some o/\o.ExactDict/\o.data=.dict es ep/\es.toList=xs.map (entryOfKey (tupleKind (ce P w)))/\(xs.map (·.1)).Nodup
 | .set S n=>h.SetOf (intKind P w) a S n
 | .ins C dx fs=>H dx=some (.own a)/\fs.length<=1000/\dx≠a/\h.get? a=some (PySem.W.instObj C dx) /\
   ∃mA,h.Ns1 dx mA/\(∀f,mv (fs.lookup f) (mA f))/\PySem.Within mA (fs.map (·.1))
 | .own _=>∃o,h.get? a=some o
 | .xd fs=>∃mA,h.Ns1 a mA/\∀f,mv (fs.lookup f) (mA f)
 | .rng lo hi=>∃t u v,h.get? a=some { cls:=.type "range",data:=.fields #[.int lo t,.int hi u,.int 1 v] }
 | .frz o u=>h.get? a=some o/\bH H h a u
 | .tbl q=>∃ps:Array Value,h.get? a=some { cls:=.none,data:=.fields ps }/\TriplesOk ps.toList/\∀pos cv,codeAmong pos ps.toList=some cv->∃(c:Addr) (oc:Obj) (u:HO) (vs:Array Value) (t:Tok),cv=.ref c/\H c=some (.frz oc u)/\oc.data=.fields vs/\vs[1]? = some (.str q t)
 | .met f x=>h.get? a=some (PySem.W.methodObj (.ref f) (.ref x))
 | .ext φ=>φ h/\(∃o,h.get? a=some o)/\∀h1 h2:Heap,φ h1->(∀o,h1.get? a=some o->h2.get? a=some o)->φ h2
def HOk (H:Hp) (h:Heap):Prop:=∀a o,H a=some o->bH P w H h a o
end
section
variable {P:Program}{w:World}{H H':Hp}{h h':Heap}{a:Addr}{o:HO}
theorem bH.lt (x:bH P w H h a o):a<h.objs.size:=by
 cases o with
 | lst xs=>obtain⟨_,_,_,_,e⟩:=x;exact Heap.lt_size e
 | tup xs=>obtain⟨_,_,_,p⟩:=x;exact p.lt
 | dK kvs ob=>exact Heap.lt_size (And.left x)
 | dT kvs=>obtain⟨_,_,_,_,o,_,_,e,_⟩:=x;exact Heap.lt_size e
 | set S n=>obtain⟨o,_,_,_,e,_⟩:=x;exact Heap.lt_size e
 | ins C dx fs=>obtain⟨_,_,_,e,_⟩:=x;exact Heap.lt_size e
 | own y=>obtain⟨_,e⟩:=x;exact Heap.lt_size e
 | xd fs=>obtain⟨_,⟨_,_,_,e,_⟩,_⟩:=x;exact Heap.lt_size e
 | rng lo hi=>obtain⟨_,_,_,e⟩:=x;exact Heap.lt_size e
 | frz ob u=>obtain⟨e,_⟩:=x;exact Heap.lt_size e
 | tbl q=>obtain⟨_,e,_⟩:=x;exact Heap.lt_size e
 | met f y=>exact Heap.lt_size (show h.get? a=some _ from x)
 | ext φ=>obtain⟨_,⟨_,e⟩,_⟩:=x;exact Heap.lt_size e
theorem Paired.mapP {α β:Type}{F G:α->β->Prop}:∀ {l₁:List α}{l₂:List β},Paired F l₁ l₂->(∀a b,F a b->G a b)->Paired G l₁ l₂
 | _,_,.nil,_=>.nil
 | _,_,.cons r t,f=>.cons (f _ _ r) (Paired.mapP t f)
theorem bH.stay (x:bH P w H h a o) (k:∀b u,(b=a∨H b=some (.own a))->h.get? b=some u->h'.get? b=some u)
  (ho:∀b,H b=some (.own a)->H' b=some (.own a)) (ht:∀b xs,H b=some (.tup xs)->H' b=some (.tup xs)) (hf:∀b o u,H b=some (.frz o u)->H' b=some (.frz o u)):bH P w H' h' a o:=by
 induction o with
 | lst xs=>obtain⟨z,its,n,r,e⟩:=x;exact⟨z,its,n,r,k _ _ (.inl rfl) e⟩
 | tup xs=>obtain⟨z,its,r,ob,e,c⟩:=x;exact⟨z,its,r,ob,k _ _ (.inl rfl) e,c⟩
 | dK kvs ob0=>obtain⟨g,z,y,vs,r,ob,es,ep,e,c⟩:=x;exact⟨k _ _ (.inl rfl) g,z,y,vs,r,ob,es,ep,k _ _ (.inl rfl) e,c⟩
 | dT kvs =>
  obtain⟨z,y,xs,r,ob,es,ep,e,c⟩:=x
  exact⟨z,y,xs,Paired.mapP r λp q z=>⟨z.1,ht _ _ z.2.1,z.2.2⟩,ob,es,ep,k _ _ (.inl rfl) e,c⟩
 | set S n=>obtain⟨ob,es,ep,t,e,c⟩:=x;exact⟨ob,es,ep,t,k _ _ (.inl rfl) e,c⟩
 | ins C dx fs =>
  obtain⟨d,z,ne,e,mA,⟨od,es,ep,e2,c⟩,r⟩:=x
  exact⟨ho _ d,z,ne,k _ _ (.inl rfl) e,mA,⟨od,es,ep,k _ _ (.inr d) e2,c⟩,r⟩
 | own y=>obtain⟨ob,e⟩:=x;exact⟨ob,k _ _ (.inl rfl) e⟩
 | xd fs=>obtain⟨mA,⟨od,es,ep,e,c⟩,r⟩:=x;exact⟨mA,⟨od,es,ep,k _ _ (.inl rfl) e,c⟩,r⟩
 | rng lo hi=>obtain⟨t,u,v,e⟩:=x;exact⟨t,u,v,k _ _ (.inl rfl) e⟩
 | frz ob u ih=>obtain⟨e,q⟩:=x;exact⟨k _ _ (.inl rfl) e,ih q⟩
 | tbl q=>obtain⟨ps,e,t,c⟩:=x;exact⟨ps,k a _ (.inl rfl) e,t,λpos cv z=>let ⟨d,oc,u,vs,tk,z1,z2,z3⟩:=c pos cv z;⟨d,oc,u,vs,tk,z1,hf _ _ _ z2,z3⟩⟩
 | met f y =>
  have e:h.get? a=some (PySem.W.methodObj (.ref f) (.ref y)):=x
  show h'.get? a=some (PySem.W.methodObj (.ref f) (.ref y))
  exact k a _ (.inl rfl) e
 | ext φ=>obtain⟨p,⟨o,e⟩,st⟩:=x;exact⟨st _ _ p λo q=>k _ _ (.inl rfl) q,⟨o,k _ _ (.inl rfl) e⟩,st⟩
theorem HOk.lt (x:HOk P w H h) (e:H a=some o):a<h.objs.size:=(x a o e).lt
theorem HOk.fresh (x:HOk P w H h) (e:h.objs.size<=a):H a=none:=by
 cases q:H a with
 | none=>rfl
 | some u=>exact absurd (Nat.lt_of_lt_of_le (x.lt q) e) (Nat.lt_irrefl _)
theorem HOk.kept (x:HOk P w H h) (k:∀b u,h.get? b=some u->h'.get? b=some u):HOk P w H h':=λa o e =>
 (x a o e).stay (λb u _ q=>k b u q) (λ_ q=>q) (λ_ _ q=>q) λ_ _ _ q=>q
theorem HOk.laid (x:HOk P w H h) (k:∀b u,h.get? b=some u->h'.get? b=some u) (hp:h.objs.size<=a) (new:bH P w (upd H a o) h' a o):HOk P w (upd H a o) h':=λb u e=>by
 have hn:=x.fresh hp
 by_cases hb:b=a
 ·subst hb;rw[aJ]at e;cases e;exact new
 ·rw[aL hb]at e
  exact(x b u e).stay (λc v _ q=>k c v q) (λc q=>by rw[aL (aS q hn)];exact q) (λc xs q=>by rw[aL (aS q hn)];exact q) λc o xs q=>by rw[aL (aS q hn)];exact q
end
def Rd (H:Hp) (a:Addr) (u:HO):Prop:=H a=some u ∨ ∃o,H a=some (.frz o u)
theorem Rd.of {H:Hp}{a:Addr}{u:HO}(h:H a=some u):Rd H a u:=.inl h
theorem Rd.ok {P:Program}{w:World}{H:Hp}{h:Heap}{a:Addr}{u:HO}(r:Rd H a u) (x:HOk P w H h):bH P w H h a u:=by
 rcases r with r|⟨o,r⟩
 ·exact x a u r
 ·obtain⟨_,q⟩:=x a _ r
  exact q
def Mut:Option HO->Prop
 | some (.lst _)=>True
 | some (.dK _ _)=>True
 | some (.dT _)=>True
 | some (.set _ _)=>True
 | some (.ins _ _ _)=>True
 | some (.ext _)=>True
 | _=>False
section
variable {P:Program}{w:World}{H:Hp}{h h':Heap}{x e:Addr}{o':HO}
theorem HOk.write (ok:HOk P w H h) (mu:Mut (H x)) (he:e=x∨H e=some (.own x)) (k:∀b u,b≠e->h.get? b=some u->h'.get? b=some u) (heo:∃u,h'.get? e=some u)
  (new:bH P w (upd H x o') h' x o'):HOk P w (upd H x o') h':=λb u q=>by
 have nown:∀c y,H c=some (.own y)->c≠x:=λc y r z=>by subst z;rw[r]at mu;exact mu
 have ntup:∀c xs,H c=some (.tup xs)->c≠x:=λc xs r z=>by subst z;rw[r]at mu;exact mu
 by_cases hb:b=x
 ·subst hb;rw[aJ]at q;cases q;exact new
 ·rw[aL hb]at q
  by_cases hbe:b=e
  ·have q':H b=some (.own x):=by
    rcases he with z|z
    ·exact absurd (hbe.trans z) hb
    ·rw[hbe];exact z
   rw[q]at q';cases q'
   obtain⟨v,hv⟩:=heo
   exact⟨v,by rw[hbe];exact hv⟩
  ·refine(ok b u q).stay (λc v hc r=>k c v ?_ r) (λc r=>by rw[aL (nown c b r)];exact r) (λc xs r=>by rw[aL (ntup c xs r)];exact r) λc o xs r=>by rw[aL (λz=>by subst z;rw[r]at mu;exact mu)];exact r
   rcases hc with rfl|hc
   ·exact hbe
   ·rintro rfl
    rcases he with z|z
    ·exact nown c b hc z
    ·rw[hc]at z;cases z;exact hb rfl
end
structure Un (fs ex:List Addr) (H H':Hp) (h h':Heap):Prop where
 keep:∀b o,h.get? b=some o->H b=none->b∉fs->b∉ex->h'.get? b=some o
 slot:∀b o,h.get? b=some o->H b=none->b∈fs->b∉ex->∃sl,h'.get? b=some { o with slots:=sl }
 free:∀b o,h.get? b=some o->H b=none->b∉ex->H' b=none
 there:∀b o,h.get? b=some o->b∉ex->∃o',h'.get? b=some o'
 tups:∀b xs,H b=some (.tup xs)->H' b=some (.tup xs)
 frzs:∀b o u,H b=some (.frz o u)->H' b=some (.frz o u)
 tbls:∀b q,H b=some (.tbl q)->H' b=some (.tbl q)
section
variable {fs fs' ex ex':List Addr}{H H1 H2:Hp}{h h1 h2 h':Heap}{a x e:Addr}{o:HO}
theorem Un.any (u:Un fs ex H H1 h h1) {b:Addr}{ob:Obj}(q:h.get? b=some ob) (n:H b=none) (hx:b∉ex):∃sl,h1.get? b=some { ob with slots:=sl }:=by
 by_cases hb:b∈fs
 ·exact u.slot b ob q n hb hx
 ·exact⟨ob.slots,u.keep b ob q n hb hx⟩
theorem Un.trans (a:Un fs ex H H1 h h1) (b:Un fs ex H1 H2 h1 h2):Un fs ex H H2 h h2 where
 keep:=λc ob q n hc hx=>b.keep c ob (a.keep c ob q n hc hx) (a.free c ob q n hx) hc hx
 slot:=λc ob q n hc hx=>by
  obtain⟨sl,e1⟩:=a.slot c ob q n hc hx
  obtain⟨sl',e2⟩:=b.slot c _ e1 (a.free c ob q n hx) hc hx
  exact⟨sl',e2⟩
 free:=λc ob q n hx=>by
  obtain⟨o',e1⟩:=a.there c ob q hx
  exact b.free c o' e1 (a.free c ob q n hx) hx
 there:=λc ob q hx=>by
  obtain⟨o',e1⟩:=a.there c ob q hx
  exact b.there c o' e1 hx
 tups:=λc xs q=>b.tups c xs (a.tups c xs q)
 frzs:=λc ob xs q=>b.frzs c ob xs (a.frzs c ob xs q)
 tbls:=λc ps q=>b.tbls c ps (a.tbls c ps q)
theorem Un.kept (k:∀b u,h.get? b=some u->h'.get? b=some u):Un fs ex H H h h' :=
 ⟨λb ob q _ _ _=>k b ob q,λb ob q _ _ _=>⟨ob.slots,k b ob q⟩,λ_ _ _ n _=>n,λb ob q _=>⟨ob,k b ob q⟩,λ_ _ q=>q,λ_ _ _ q=>q,λ_ _ q=>q⟩
theorem Un.refl:Un fs ex H H h h:=Un.kept λ_ _ q=>q
theorem Un.laid (k:∀b u,h.get? b=some u->h'.get? b=some u) (hp:h.objs.size<=a) (hn:H a=none):Un fs ex H (upd H a o) h h' where
 keep:=λb u q _ _ _=>k b u q
 slot:=λb u q _ _ _=>⟨u.slots,k b u q⟩
 free:=λb u q n _=>by rw[aL (Nat.ne_of_lt (Nat.lt_of_lt_of_le (Heap.lt_size q) hp))];exact n
 there:=λb u q _=>⟨u,k b u q⟩
 tups:=λb xs q=>by rw[aL (aS q hn)];exact q
 frzs:=λb u xs q=>by rw[aL (aS q hn)];exact q
 tbls:=λb ps q=>by rw[aL (aS q hn)];exact q
theorem Un.write (mu:Mut (H x)) (he:e=x∨H e=some (.own x)) (k:∀b u,b≠e->h.get? b=some u->h'.get? b=some u) (heo:∃u,h'.get? e=some u):Un fs ex H (upd H x o) h h':=by
 have hx:∀b,H b=none->b≠x:=λb n z=>by subst z;rw[n]at mu;exact mu
 have hb:∀b,H b=none->b≠e:=λb n z=>by
  subst z
  rcases he with r|r
  ·exact hx b n r
  ·rw[n]at r;cases r
 have hm:∀b u,H b=some u->¬Mut (some u)->b≠x:=λb u q nm z=>by subst z;rw[q]at mu;exact nm mu
 refine⟨λb u q n _ _=>k b u (hb b n) q,λb u q n _ _=>⟨u.slots,k b u (hb b n) q⟩,λb u q n _=>by rw[aL (hx b n)];exact n,λb u q _=>?_,
  λb xs q=>by rw[aL (hm b _ q λz=>z)];exact q,λb u xs q=>by rw[aL (hm b _ q λz=>z)];exact q,λb ps q=>by rw[aL (hm b _ q λz=>z)];exact q⟩
 by_cases hbe:b=e
 ·subst hbe;exact heo
 ·exact⟨u,k b u hbe q⟩
end
def trk (h:Heap) (H:Hp):List Addr:=(List.range h.objs.size).filter λa=>(H a).isSome
def sD (h:Heap) (H:Hp):Heap:=PySem.W.hideAll h (trk h H)
theorem yy (h:Heap) (H:Hp):(sD h H).objs.size=h.objs.size:=PySem.W.hideAll_size _ _
theorem mE {h:Heap}{H:Hp}{b:Addr}{o:Obj}(e:h.get? b=some o) (n:H b=none):(sD h H).get? b=some o :=
 PySem.W.hideAll_get _ e λhm=>by
  have q:(H b).isSome=true:=(List.mem_filter.mp hm).2
  rw[n]at q;simp at q
theorem BB {h:Heap}{H:Hp}{b:Addr}{o:Obj}(e:(sD h H).get? b=some o):h.get? b=some o/\H b=none:=by
 have e':h.get? b=some o:=PySem.W.of_hideAll (trk h H) e
 refine⟨e', ?_⟩
 cases q:H b with
 | none=>rfl
 | some x =>
  have hm:b∈trk h H:=List.mem_filter.mpr ⟨List.mem_range.mpr (Heap.lt_size e'),by simp[q]⟩
  have z:(sD h H).get? b=none:=PySem.W.hideAll_none (trk h H) hm
  rw[z]at e;cases e
def BC (g h:Heap) (L:Addr):List (Addr×Obj):=(List.range h.objs.size).filterMap λa=>if a=L∨(g.get? a).isSome=true then none else (h.get? a).map λo=>(a,o)
def a9 (g h:Heap) (L d:Addr):List (Addr×Obj):=(BC g h L).filter λp=>decide (p.1≠d)
structure Mod (K:PySem.W.Frag) (mg:Str->Option Value) (base:Heap):Prop where
 kin:K.In base
 glob:base.Ns mainGlobals mg
 blt:∃mb,base.Ns builtinsNs mb/\∀x:Str,x ≠ "__name__"->mb x=bootBuiltins x
 nolimit:base.NoLimit
 bmain:∃bm ob,mg "__builtins__" = some (.ref bm)/\bm≠builtinsNs/\base.get? bm=some ob/\ob.cls=.type "module"/\ob.dict=some builtinsNs/\ob.data=.plain
structure Cx where
 prog:Program
 w:World
 K:PySem.W.Frag
 mg:Str->Option Value
 base:Heap
 A:Around
 N:List Str
 s₀:Shared
 H₀:Hp
 env:Env
 outer:List Env
 stack:List Env
 ex:List Addr
 fn:Str->Bool
 calm:Bool
 pn:List (Addr×Obj)
 xe:Value->Shared->Prop
def frs (l:List Env):List Addr:=l.filterMap (·.frame)
abbrev Cx.fs (X:Cx):List Addr:=frs X.outer
def Vis (sc:Scope) (x:Str):Prop:=sc.names.lookup x=some .local∨sc.names.lookup x=some .cell∨sc.names.lookup x=some .free
def Loc (sc:Scope) (x:Str):Prop:=sc.names.lookup x=some .local∨sc.names.lookup x=some .cell
def Hj (env:Env) (h:Heap) (m:Str->Option Value) (x:Str) (u:Value):Prop :=
 (env.kindOf x=some .local/\m x=some u)∨((env.kindOf x=some .cell∨env.kindOf x=some .free)/\∃c,env.cells.lookup x=some c/\h.IsCell c (some u))
structure Cx.Ok (X:Cx):Prop where
 mod:Mod X.K X.mg X.base
 kind:X.env.scope.kind=.function
 glob:X.env.globals=mainGlobals
 blt:X.env.builtins=builtinsNs
 above:X.s₀.heap.objs.size<=X.env.locals
 inj:∀x y c,X.env.cells.lookup x=some c->X.env.cells.lookup y=some c->x=y
 has:∀x,(X.env.kindOf x=some .cell∨X.env.kindOf x=some .free)->∃c,X.env.cells.lookup x=some c
 cab:∀x c,X.fn x=true->X.env.cells.lookup x=some c->X.s₀.heap.objs.size<=c
 hd:X.calm=true->X.A.handled=none
 frames:X.A.frames=some X.stack
 stk:X.stack=X.outer∨(X.stack=X.env::X.outer/\X.env.frame=some X.env.locals)
 exf:∀b∈X.ex,b≠X.env.locals/\∀x c,X.env.cells.lookup x=some c->c≠b
 bs:∀b o,X.base.get? b=some o->X.s₀.heap.get? b=some o/\X.H₀ b=none
 bsz:X.base.objs.size<=X.s₀.heap.objs.size
 noex:∀b o,X.base.get? b=some o->b∉X.ex
 exfs:∀b∈X.ex,b∉X.fs
 funs:X.s₀.heap.FunFrames X.base X.outer
 frf:∀b∈X.fs,X.H₀ b=none
structure Inv (X:Cx) (pins:List (Addr×Obj)) (σ:List (Option V)) (H:Hp) (s:Shared):Prop where
 ok:X.Ok
 os:s.os=X.s₀.os
 bare:AllBare s.gens
 base:Un X.fs X.ex X.H₀ H X.s₀.heap s.heap
 loc:∃m,s.heap.Ns X.env.locals m/\∀(i:Nat) (x:Str) (v:V),X.N[i]? = some x->σ[i]? = some (some v)->Vis X.env.scope x->∃u,aT v u/\Hj X.env s.heap m x u
 cell:∀x c,X.env.cells.lookup x=some c->∃v,s.heap.IsCell c v
 free:H X.env.locals=none
 freeC:∀x c,X.env.cells.lookup x=some c->H c=none
 pin:∀p∈X.pn++pins,s.heap.get? p.1=some p.2/\H p.1=none/\p.1≠X.env.locals/\p.1∉X.fs/\∀v,p.2.data≠.cell v
 hok:HOk X.prog X.w H s.heap
 len:σ.length=X.N.length
section
variable {X:Cx}{pins:List (Addr×Obj)}{σ:List (Option V)}{H H':Hp}{s:Shared}{h':Heap}
theorem Cx.Ok.nofr (ok:X.Ok) {b:Addr}{o:Obj}(e:X.base.get? b=some o):b∉X.fs:=λhb=>by
 have:=(ok.funs.mem hb).1
 rw[e]at this;cases this
theorem Inv.bs (I:Inv X pins σ H s):∀b o,X.base.get? b=some o->s.heap.get? b=some o/\H b=none:=λb o e =>
 ⟨I.base.keep b o (I.ok.bs b o e).1 (I.ok.bs b o e).2 (I.ok.nofr e) (I.ok.noex b o e),I.base.free b o (I.ok.bs b o e).1 (I.ok.bs b o e).2 (I.ok.noex b o e)⟩
theorem Inv.bk (I:Inv X pins σ H s):∀b o,X.base.get? b=some o->s.heap.get? b=some o:=λb o e=>(I.bs b o e).1
theorem Inv.mod (I:Inv X pins σ H s):Mod X.K X.mg X.base:=I.ok.mod
theorem Inv.kIn (I:Inv X pins σ H s):X.K.In s.heap:=I.ok.mod.kin.keeps I.bk
theorem Inv.nolimit (I:Inv X pins σ H s):s.heap.NoLimit:=I.ok.mod.nolimit.keeps I.bk
theorem Inv.lt (I:Inv X pins σ H s):X.env.locals<s.heap.objs.size:=let ⟨_,hn,_⟩:=I.loc;hn.lt
theorem Inv.sz (I:Inv X pins σ H s):X.s₀.heap.objs.size<=s.heap.objs.size:=Nat.le_trans I.ok.above (Nat.le_of_lt I.lt)
theorem Inv.nofs (I:Inv X pins σ H s) {a:Addr}(h:s.heap.objs.size<=a):a∉X.fs:=λhb=>by
 obtain⟨_,o,ho,_⟩:=I.ok.funs.mem hb
 exact absurd (Nat.lt_of_lt_of_le (Heap.lt_size ho) (Nat.le_trans I.sz h)) (Nat.lt_irrefl _)
theorem Inv.cne (I:Inv X pins σ H s):∀x c,X.env.cells.lookup x=some c->c≠X.env.locals:=λx c e z=>by
 obtain⟨v,o,ho,hd⟩:=I.cell x c e
 obtain⟨m,⟨o',es,ep,ho',hd',_⟩,_⟩:=I.loc
 rw[z,ho']at ho;cases ho;rw[hd']at hd;cases hd
theorem Inv.funs (I:Inv X pins σ H s):s.heap.FunFrames X.base X.outer:=by
 have all:∀(l:List Env),(∀b∈frs l,b∈X.fs)->X.s₀.heap.FunFrames X.base l->s.heap.FunFrames X.base l:=by
  intro l
  induction l with
  | nil=>intro _ _;trivial
  | cons env r ih =>
   intro hs hl
   obtain⟨hk,⟨L,o,hf,hn,ho,hd⟩,hr⟩:=hl
   have hL:L∈X.fs:=hs L (by unfold frs;rw[List.filterMap_cons,hf];exact mX)
   obtain⟨sl,e⟩:=I.base.slot L o ho (I.ok.frf L hL) hL λz=>I.ok.exfs L z hL
   exact⟨hk,⟨L,_,hf,hn,e,hd⟩,ih (λb hb=>hs b (by unfold frs;rw[List.filterMap_cons,hf];exact mZ _ hb)) hr⟩
 exact all X.outer (λ_ hb=>hb) I.ok.funs
theorem Inv.stack (I:Inv X pins σ H s):s.heap.FunFrames X.base X.stack:=by
 rcases I.ok.stk with e|⟨e,hf⟩
 ·rw[e];exact I.funs
 ·rw[e]
  obtain⟨m,hn,_⟩:=I.loc
  refine .cons (by rw[I.ok.kind];decide) hf hn ?_ I.funs
  exact Heap.get?_none_of_le (Nat.le_trans I.ok.bsz I.ok.above)
theorem Inv.stkSub (I:Inv X pins σ H s):∀b∈frs X.stack,b∈X.env.locals::X.fs:=λb hb=>by
 rcases I.ok.stk with e|⟨e,hf⟩
 ·rw[e]at hb;exact mZ _ hb
 ·rw[e]at hb
  unfold frs at hb
  rw[List.filterMap_cons,hf]at hb
  exact hb
theorem Inv.stkFree (I:Inv X pins σ H s):∀b∈frs X.stack,H b=none:=λb hb=>by
 rcases List.mem_cons.mp (I.stkSub b hb)with e|hb
 ·rw[e];exact I.free
 ·obtain⟨_,o,ho,_⟩:=I.ok.funs.mem hb
  exact I.base.free b o ho (I.ok.frf b hb) λz=>I.ok.exfs b z hb
theorem Inv.step {g':Array GenState}{t':Nat}{d':Drawn}{ch:List Addr}(I:Inv X pins σ H s)
  (hch:∀b∈ch,(b∈X.ex∨X.s₀.heap.objs.size<=b)/\b≠X.env.locals/\(∀x c,X.env.cells.lookup x=some c->c≠b)/\∀p∈X.pn++pins,p.1≠b)
  (keep:∀b o,b≠X.env.locals->b∉X.fs->b∉ch->s.heap.get? b=some o->H b=none->h'.get? b=some o)
  (slot:∀b o,b≠X.env.locals->b∈X.fs->b∉ch->s.heap.get? b=some o->H b=none->∃sl,h'.get? b=some { o with slots:=sl }) (free:∀b o,b∉ch->s.heap.get? b=some o->H b=none->H' b=none)
  (there:∀b o,b∉ch->s.heap.get? b=some o->∃o',h'.get? b=some o')
  (tups:∀b xs,H b=some (.tup xs)->H' b=some (.tup xs)) (frzs:∀b o u,H b=some (.frz o u)->H' b=some (.frz o u)) (tbls:∀b q,H b=some (.tbl q)->H' b=some (.tbl q))
  (ns:∀m,s.heap.Ns X.env.locals m->h'.Ns X.env.locals m) (hok:HOk X.prog X.w H' h') (hg:AllBare g') :
  Inv X pins σ H' { s with heap:=h',gens:=g',drawn:=d',toks:=t' }:=by
 have neL:∀b o,X.s₀.heap.get? b=some o->b≠X.env.locals:=λb o e=>Nat.ne_of_lt (Nat.lt_of_lt_of_le (Heap.lt_size e) I.ok.above)
 have neC:∀b o,X.s₀.heap.get? b=some o->b∉X.ex->b∉ch:=λb o e hx hb=>by
  rcases (hch b hb).1 with z|z
  ·exact hx z
  ·exact absurd (Nat.lt_of_lt_of_le (Heap.lt_size e) z) (Nat.lt_irrefl _)
 have cellK:∀x c,X.env.cells.lookup x=some c->∀v,s.heap.IsCell c v->h'.IsCell c v:=λx c e v ⟨o,ho,hd⟩=>by
  have nch:c∉ch:=λz=>(hch c z).2.2.1 x c e rfl
  by_cases hc:c∈X.fs
  ·obtain⟨sl,q⟩:=slot c o (I.cne x c e) hc nch ho (I.freeC x c e)
   exact⟨_,q,hd⟩
  ·exact⟨o,keep c o (I.cne x c e) hc nch ho (I.freeC x c e),hd⟩
 refine⟨I.ok,I.os,hg,⟨λb o e n hb hx=>?_,λb o e n hb hx=>?_,λb o e n hx=>?_,λb o e hx=>?_,λb xs e=>tups b xs (I.base.tups b xs e),λb o xs e=>frzs b o xs (I.base.frzs b o xs e),λb ps e=>?_⟩, ?_,λx c e=>?_, ?_,λx c e=>?_,λp hp=>?_,hok,I.len⟩
 ·exact keep b o (neL b o e) hb (neC b o e hx) (I.base.keep b o e n hb hx) (I.base.free b o e n hx)
 ·obtain⟨sl,e1⟩:=I.base.slot b o e n hb hx
  obtain⟨sl',e2⟩:=slot b _ (neL b o e) hb (neC b o e hx) e1 (I.base.free b o e n hx)
  exact⟨sl',e2⟩
 ·obtain⟨o',e1⟩:=I.base.there b o e hx
  exact free b o' (neC b o e hx) e1 (I.base.free b o e n hx)
 ·obtain⟨o',e1⟩:=I.base.there b o e hx
  exact there b o' (neC b o e hx) e1
 ·exact tbls b _ (I.base.tbls b ps e)
 ·obtain⟨m,hn,hl⟩:=I.loc
  refine⟨m,ns m hn,λi x v e1 e2 e3=>?_⟩
  obtain⟨u,r,l⟩:=hl i x v e1 e2 e3
  refine⟨u,r, ?_⟩
  rcases l with l|⟨k,c,e,z⟩
  ·exact .inl l
  ·exact .inr ⟨k,c,e,cellK x c e _ z⟩
 ·obtain⟨v,z⟩:=I.cell x c e
  exact⟨v,cellK x c e v z⟩
 ·obtain⟨m,⟨o,_,_,ho,_⟩,_⟩:=I.loc
  exact free _ o (λz=>(hch _ z).2.1 rfl) ho I.free
 ·obtain⟨v,o,ho,hd⟩:=I.cell x c e
  exact free c o (λz=>(hch c z).2.2.1 x c e rfl) ho (I.freeC x c e)
 ·obtain⟨e,n,ne,nf,d⟩:=I.pin p hp
  have nch:p.1∉ch:=λz=>(hch p.1 z).2.2.2 p hp rfl
  exact⟨keep p.1 p.2 ne nf nch e n,free p.1 p.2 nch e n,ne,nf,d⟩
theorem Inv.un {t':Nat}(I:Inv X pins σ H s) (u:Un X.fs [] H H' s.heap h') (hok:HOk X.prog X.w H' h'):Inv X pins σ H' { s with heap:=h',toks:=t' }:=by
 obtain⟨m,⟨o,es,ep,ho,r⟩,_⟩:=id I.loc
 obtain⟨sl,hL⟩:=u.any ho I.free (by simp)
 exact I.step (g':=s.gens) (d':=s.drawn) (ch:=[]) (λ_ z=>nomatch z) (λb o _ hb _ e n=>u.keep b o e n hb (by simp)) (λb o _ hb _ e n=>u.slot b o e n hb (by simp)) (λb o _ e n=>u.free b o e n (by simp)) (λb o _ e=>u.there b o e (by simp)) u.tups u.frzs u.tbls (λm' hm=>by
  obtain⟨o',es',ep',ho',r'⟩:=hm
  rw[ho]at ho';cases ho'
  exact⟨_,es',ep',hL,r'⟩) hok I.bare
theorem Inv.call {g':Array GenState}{t':Nat}{d':Drawn}{ch:List Addr}(I:Inv X pins σ H s) (u:Un (frs X.stack) ch H H' s.heap h') (hok:HOk X.prog X.w H' h') (hg:AllBare g')
  (hch:∀b∈ch,(b∈X.ex∨X.s₀.heap.objs.size<=b)/\b≠X.env.locals/\(∀x c,X.env.cells.lookup x=some c->c≠b)/\∀p∈X.pn++pins,p.1≠b) :
  Inv X pins σ H' { s with heap:=h',gens:=g',drawn:=d',toks:=t' }:=by
 obtain⟨m,⟨o,es,ep,ho,r⟩,_⟩:=id I.loc
 obtain⟨sl,hL⟩:=u.any ho I.free λz=>(hch _ z).2.1 rfl
 exact I.step (ch:=ch) hch (λb o hL hb hc e n=>u.keep b o e n (λz=>(List.mem_cons.mp (I.stkSub b z)).elim hL hb) hc) (λb o _ _ hc e n=>u.any e n hc) (λb o hc e n=>u.free b o e n hc) (λb o hc e=>u.there b o e hc) u.tups u.frzs u.tbls (λm' hm=>by
  obtain⟨o',es',ep',ho',r'⟩:=hm
  rw[ho]at ho';cases ho'
  exact⟨_,es',ep',hL,r'⟩) hok hg
theorem Inv.turned {t':Nat}{it:Addr}(I:Inv X pins σ H s) (k:∀b o,b≠it->s.heap.get? b=some o->h'.get? b=some o) (hn:H it=none) (hL:it≠X.env.locals)
  (h1:it∈X.ex∨X.s₀.heap.objs.size<=it) (h2:∀x c,X.env.cells.lookup x=some c->c≠it) (h3:∀p∈X.pn++pins,p.1≠it):Inv X pins σ H { s with heap:=h',toks:=t' }:=by
 have nit:∀b u,H b=some u->b≠it:=λb u e z=>by rw[z,hn]at e;cases e
 refine I.step (g':=s.gens) (d':=s.drawn) (ch:=[it]) (λb hb=>?_) (λb o _ _ hc e _=>k b o (λz=>hc (by simp[z])) e) (λb o _ _ hc e _=>⟨o.slots,k b o (λz=>hc (by simp[z])) e⟩) (λ_ _ _ _ n=>n)
  (λb o hc e=>⟨o,k b o (λz=>hc (by simp[z])) e⟩) (λ_ _ e=>e) (λ_ _ _ e=>e) (λ_ _ e=>e) (λm hm=>?_) (λb u e=>?_) I.bare
 ·have e:b=it:=by simpa using hb
  subst e
  exact⟨h1,hL,h2,h3⟩
 ·obtain⟨o,es,ep,ho,r⟩:=hm
  exact⟨o,es,ep,k _ o (Ne.symm hL) ho,r⟩
 ·refine(I.hok b u e).stay (λc v hc q=>k c v ?_ q) (λ_ q=>q) (λ_ _ q=>q) λ_ _ _ q=>q
  rcases hc with z|z
  ·rw[z];exact nit b u e
  ·exact nit c _ z
theorem Inv.tok (I:Inv X pins σ H s) (t:Nat):Inv X pins σ H { s with toks:=t }:=I.un (h':=s.heap) (t':=t) Un.refl I.hok
theorem Inv.kept {t':Nat}(I:Inv X pins σ H s) (k:∀b u,s.heap.get? b=some u->h'.get? b=some u):Inv X pins σ H { s with heap:=h',toks:=t' }:=I.un (Un.kept k) (I.hok.kept k)
theorem Inv.laid {a:Addr}{o:HO}{t':Nat}(I:Inv X pins σ H s) (k:∀b u,s.heap.get? b=some u->h'.get? b=some u) (hp:s.heap.objs.size<=a) (new:bH X.prog X.w (upd H a o) h' a o) :
  Inv X pins σ (upd H a o) { s with heap:=h',toks:=t' }:=I.un (Un.laid k hp (I.hok.fresh hp)) (I.hok.laid k hp new)
theorem Inv.write {x e:Addr}{o:HO}{t':Nat}(I:Inv X pins σ H s) (mu:Mut (H x)) (he:e=x∨H e=some (.own x)) (k:∀b u,b≠e->s.heap.get? b=some u->h'.get? b=some u) (heo:∃u,h'.get? e=some u)
  (new:bH X.prog X.w (upd H x o) h' x o):Inv X pins σ (upd H x o) { s with heap:=h',toks:=t' }:=I.un (Un.write mu he k heo) (I.hok.write mu he k heo new)
theorem Inv.pins_of {pins':List (Addr×Obj)}(I:Inv X pins σ H s) (h:∀p∈pins',s.heap.get? p.1=some p.2/\H p.1=none/\p.1≠X.env.locals/\p.1∉X.fs/\∀v,p.2.data≠.cell v):Inv X pins' σ H s :=
 ⟨I.ok,I.os,I.bare,I.base,I.loc,I.cell,I.free,I.freeC,λp hp=>(List.mem_append.mp hp).elim (λz=>I.pin p (List.mem_append_left _ z)) (h p),I.hok,I.len⟩
theorem sE {N:List Str}(hN:N.Nodup) {i j:Nat}{x:Str}(a:N[i]? = some x) (b:N[j]? = some x):i=j:=by
 obtain⟨h1,e1⟩:=List.getElem?_eq_some_iff.mp a
 obtain⟨h2,e2⟩:=List.getElem?_eq_some_iff.mp b
 exact(List.getElem_inj hN).mp (e1.trans e2.symm)
theorem p8 {M:Model}{A:Around}{E:Value->Shared->Prop}{i:Nat}{x:Str}{v:V}{u:Value}{Q:Unit->Shared->Prop}(I:Inv X pins σ H s) (hN:X.N.Nodup) (hi:X.N[i]? = some x) (hx:Loc X.env.scope x) (r:aT v u)
  (h:∀s',Inv X pins (σ.set i (some v)) H s'->(∃a,Heap.SameBut a s.heap s'.heap/\(a=X.env.locals∨X.env.cells.lookup x=some a))->Q () s') (hf:X.fn x=true∨X.env.scope.names.lookup x=some .local:=by first|exact .inl rfl|exact .inr rfl|assumption):wpAny M A (storeName X.env x u) Q E s:=by
 obtain⟨m,hn,hl⟩:=id I.loc
 have hcls:(X.env.scope.kind == .class || (X.env.scope.kind == .module && X.env.locals != X.env.globals))=false:=by rw[I.ok.kind];rfl
 have hiσ:i<σ.length:=by rw[I.len];exact(List.getElem?_eq_some_iff.mp hi).1
 have cne:=I.cne
 have tracked:∀ {a:Addr}{h':Heap},(∃o,s.heap.get? a=some o/\H a=none)->Heap.SameBut a s.heap h'->HOk X.prog X.w H h':=λ{a h'} ha hs b ob e=>by
  obtain⟨_,_,hfree⟩:=ha
  refine(I.hok b ob e).stay (λc w' hc q=>(hs.2 c ?_).trans q) (λ_ q=>q) (λ_ _ q=>q) λ_ _ _ q=>q
  rintro rfl
  rcases hc with rfl|hc
  ·rw[hfree]at e;cases e
  ·rw[hfree]at hc;cases hc
 rcases hx with hk|hk
 ·refine wpAny_storeName_local hk hn (λh' hn' hs=>?_) hcls
  obtain⟨oL,_,_,hoL,_⟩:=id hn
  refine h _ ⟨I.ok,I.os,I.bare,⟨λb o e n hb hx=>?_,λb o e n hb hx=>?_,I.base.free,λb o e hx=>?_,I.base.tups,I.base.frzs,I.base.tbls⟩,⟨_,hn',λj y v' e1 e2 e3=>?_⟩,λy c e=>?_,I.free,I.freeC,λp hp=>?_,tracked ⟨oL,hoL,I.free⟩ hs,by simpa using I.len⟩ ⟨_,hs,.inl rfl⟩
  ·exact(hs.2 b (Nat.ne_of_lt (Nat.lt_of_lt_of_le (Heap.lt_size e) I.ok.above))).trans (I.base.keep b o e n hb hx)
  ·obtain⟨sl,e1⟩:=I.base.slot b o e n hb hx
   exact⟨sl,(hs.2 b (Nat.ne_of_lt (Nat.lt_of_lt_of_le (Heap.lt_size e) I.ok.above))).trans e1⟩
  ·obtain⟨o',e1⟩:=I.base.there b o e hx
   exact⟨o',(hs.2 b (Nat.ne_of_lt (Nat.lt_of_lt_of_le (Heap.lt_size e) I.ok.above))).trans e1⟩
  ·by_cases hj:j=i
   ·subst hj
    rw[hi]at e1;cases e1
    rw[List.getElem?_set_self hiσ]at e2
    cases e2
    exact⟨u,r,.inl ⟨hk,by simp⟩⟩
   ·rw[List.getElem?_set_ne (Ne.symm hj)]at e2
    obtain⟨u',r',q⟩:=hl j y v' e1 e2 e3
    refine⟨u',r', ?_⟩
    rcases q with ⟨k,e⟩|⟨k,c,e,z⟩
    ·refine .inl ⟨k, ?_⟩
     have:y≠x:=λe=>hj (sE hN e1 (e ▸ hi))
     simp[this,e]
    ·exact .inr ⟨k,c,e,z.sameBut hs (cne y c e)⟩
  ·obtain⟨w',z⟩:=I.cell y c e
   exact⟨w',z.sameBut hs (cne y c e)⟩
  ·obtain⟨e,n,ne,nf,d⟩:=I.pin p hp
   exact⟨(hs.2 p.1 ne).trans e,n,ne,nf,d⟩
 ·have hfn:X.fn x=true:=by
   rcases hf with z|z
   ·exact z
   ·rw[z]at hk;cases hk
  obtain⟨c,hc⟩:=I.ok.has x (.inl hk)
  obtain⟨w',z⟩:=I.cell x c hc
  refine wpAny_storeName_cell I.ok.kind hk hc z (λh' hc' hs=>?_)
  obtain⟨oc,hoc,hocd⟩:=id z
  refine h { s with heap:=h' } ⟨I.ok,I.os,I.bare,⟨λb o e n hb hx=>?_,λb o e n hb hx=>?_,I.base.free,λb o e hx=>?_,I.base.tups,I.base.frzs,I.base.tbls⟩,⟨m,hn.sameBut hs (Ne.symm (cne x c hc)),λj y v' e1 e2 e3=>?_⟩,λy c' e=>?_,I.free,I.freeC,λp hp=>?_,tracked ⟨oc,hoc,I.freeC x c hc⟩ hs,by simpa using I.len⟩ ⟨c,hs,.inr hc⟩
  ·exact(hs.2 b (Nat.ne_of_lt (Nat.lt_of_lt_of_le (Heap.lt_size e) (I.ok.cab x c hfn hc)))).trans (I.base.keep b o e n hb hx)
  ·obtain⟨sl,e1⟩:=I.base.slot b o e n hb hx
   exact⟨sl,(hs.2 b (Nat.ne_of_lt (Nat.lt_of_lt_of_le (Heap.lt_size e) (I.ok.cab x c hfn hc)))).trans e1⟩
  ·obtain⟨o',e1⟩:=I.base.there b o e hx
   exact⟨o',(hs.2 b (Nat.ne_of_lt (Nat.lt_of_lt_of_le (Heap.lt_size e) (I.ok.cab x c hfn hc)))).trans e1⟩
  ·by_cases hj:j=i
   ·subst hj
    rw[hi]at e1;cases e1
    rw[List.getElem?_set_self hiσ]at e2
    cases e2
    exact⟨u,r,.inr ⟨.inl hk,c,hc,hc'⟩⟩
   ·rw[List.getElem?_set_ne (Ne.symm hj)]at e2
    obtain⟨u',r',q⟩:=hl j y v' e1 e2 e3
    refine⟨u',r', ?_⟩
    rcases q with q|⟨k,c',e,z'⟩
    ·exact .inl q
    ·refine .inr ⟨k,c',e,z'.sameBut hs ?_⟩
     rintro rfl
     exact hj (sE hN e1 (I.ok.inj _ _ _ e hc ▸ hi))
  ·by_cases hcc:c'=c
   ·subst hcc;exact⟨_,hc'⟩
   ·obtain⟨w2,z2⟩:=I.cell y c' e
    exact⟨w2,z2.sameBut hs hcc⟩
  ·obtain⟨e,n,ne,nf,d⟩:=I.pin p hp
   refine⟨(hs.2 p.1 ?_).trans e,n,ne,nf,d⟩
   intro q
   rw[q,hoc]at e
   have q':oc=p.2:=Option.some.inj e
   exact d w' (by rw[←q'];exact hocd)
theorem sF {M:Model}{A:Around}{E:Value->Shared->Prop}{i:Nat}{x:Str}{v:V}{u:Value}{Q:Unit->Shared->Prop}(I:Inv X pins σ H s) (hN:X.N.Nodup) (hi:X.N[i]? = some x) (hx:Loc X.env.scope x) (r:aT v u)
  (h:∀s',Inv X pins (σ.set i (some v)) H s'->Q () s') (hf:X.fn x=true∨X.env.scope.names.lookup x=some .local:=by first|exact .inl rfl|exact .inr rfl|assumption):wpAny M A (storeName X.env x u) Q E s :=
 p8 I hN hi hx r (λs' I' _=>h s' I') hf
theorem Inv.call' {s':Shared}{ch:List Addr}(I:Inv X pins σ H s) (ho:s'.os=s.os) (u:Un (frs X.stack) ch H H' s.heap s'.heap) (hok:HOk X.prog X.w H' s'.heap) (hg:AllBare s'.gens)
  (hch:∀b∈ch,(b∈X.ex∨X.s₀.heap.objs.size<=b)/\b≠X.env.locals/\(∀x c,X.env.cells.lookup x=some c->c≠b)/\∀p∈X.pn++pins,p.1≠b):Inv X pins σ H' s':=by
 obtain⟨h',g',d',t',o'⟩:=s'
 have e:o'=s.os:=ho
 subst e
 exact I.call (g':=g') (t':=t') (d':=d') u hok hg hch
end
abbrev XK:=Value->Option Addr->Hp->Prop
abbrev St:=List (Option V)
abbrev VK:=V->Hp->Prop
abbrev TE:=St->Hp->VK->Prop
abbrev TT:=St->Hp->(Bool->Hp->Prop)->Prop
abbrev TA:=St->Hp->(List V->Hp->Prop)->Prop
structure Ends where
 nx:St->Hp->Prop
 rt:VK
 bk:St->Hp->Prop:=λ_ _=>False
 ct:St->Hp->Prop:=λ_ _=>False
abbrev TS:=Ends->St->Hp->Prop
def EP (X:Cx) (pins:List (Addr×Obj)) (σ:St) (Q:VK) (u:Value) (s':Shared):Prop:=∃v H',Inv X pins σ H' s'/\aT v u/\Q v H'
def TP (X:Cx) (pins:List (Addr×Obj)) (σ:St) (Q:Bool->Hp->Prop) (b:Bool) (s':Shared):Prop:=∃H',Inv X pins σ H' s'/\Q b H'
def AP (X:Cx) (pins:List (Addr×Obj)) (σ:St) (Q:List V->Hp->Prop) (us:List Value) (s':Shared):Prop:=∃vs H',Inv X pins σ H' s'/\aX vs us/\Q vs H'
def SP (X:Cx) (pins:List (Addr×Obj)) (D:Ends) (f:Flow) (s':Shared):Prop :=
 match f with
 | .next=>∃σ' H',Inv X pins σ' H' s'/\D.nx σ' H'
 | .brk=>∃σ' H',Inv X pins σ' H' s'/\D.bk σ' H'
 | .cont=>∃σ' H',Inv X pins σ' H' s'/\D.ct σ' H'
 | .ret u=>∃v σ' H',Inv X pins σ' H' s'/\aT v u/\D.rt v H'
def PE (X:Cx) (e:Expr) (t:TE):Prop :=
 ∀(pins:List (Addr×Obj)) (s:Shared) (σ:St) (H:Hp) (Q:VK),Inv X pins σ H s->t σ H Q->wpAny (model X.prog X.w) X.A (eval e X.env) (EP X pins σ Q) X.xe s
def PT (X:Cx) (e:Expr) (t:TT):Prop :=
 ∀(pins:List (Addr×Obj)) (s:Shared) (σ:St) (H:Hp) (Q:Bool->Hp->Prop),Inv X pins σ H s->t σ H Q->wpAny (model X.prog X.w) X.A (isTrue e X.env (eval e X.env)) (TP X pins σ Q) X.xe s
def PW (X:Cx) (e:Expr) (t:TT):Prop :=
 ∀(whole:Sem Value) (pins:List (Addr×Obj)) (s:Shared) (σ:St) (H:Hp) (Q:Bool->Hp->Prop),Inv X pins σ H s->t σ H Q->wpAny (model X.prog X.w) X.A (isTrue e X.env whole) (TP X pins σ Q) X.xe s
theorem PW.pt {X:Cx}{e:Expr}{t:TT}(h:PW X e t):PT X e t:=h _
def PA (X:Cx) (es:List Expr) (t:TA):Prop :=
 ∀(pos:Pos) (pins:List (Addr×Obj)) (s:Shared) (σ:St) (H:Hp) (Q:List V->Hp->Prop),Inv X pins σ H s->t σ H Q->wpAny (model X.prog X.w) X.A (spliced (backTo pos (starEach es X.env))) (AP X pins σ Q) X.xe s
def PS (X:Cx) (st:Stmt) (t:TS):Prop :=
 ∀(pins:List (Addr×Obj)) (s:Shared) (σ:St) (H:Hp) (D:Ends),Inv X pins σ H s->t D σ H->wpAny (model X.prog X.w) X.A (exec st X.env) (SP X pins D) X.xe s
def PSs (X:Cx) (st:List Stmt) (t:TS):Prop :=
 ∀(pins:List (Addr×Obj)) (s:Shared) (σ:St) (H:Hp) (D:Ends),Inv X pins σ H s->t D σ H->wpAny (model X.prog X.w) X.A (execs st X.env) (SP X pins D) X.xe s
theorem thn {α:Type}{t:Sem α}{Q Q':α->Shared->Prop}{M:Model}{A:Around}{E:Value->Shared->Prop}{s:Shared}(h:wpAny M A t Q E s) (hQ:∀a s,Q a s->Q' a s):wpAny M A t Q' E s:=wpAny_mono h hQ λ_ _ x=>x
section
variable {X:Cx}
theorem bin {a b:Expr}{ta tb:TE}(ha:PE X a ta) (hb:PE X b tb) {pins:List (Addr×Obj)}{s:Shared}{σ:St}{H:Hp}{R:V->V->Hp->Prop}(I:Inv X pins σ H s) (h:ta σ H λx H1=>tb σ H1 λy H2=>R x y H2)
  {α:Type}{Q:α->Shared->Prop}{f:Value->Value->Sem α}
  (hf:∀v u s2 x y H2,Inv X pins σ H2 s2->aT x v->aT y u->R x y H2->wpAny (model X.prog X.w) X.A (f v u) Q X.xe s2) :
  wpAny (model X.prog X.w) X.A (eval a X.env) (λv s₁=>wpAny (model X.prog X.w) X.A (eval b X.env) (λu s₂=>wpAny (model X.prog X.w) X.A (f v u) Q X.xe s₂) X.xe s₁) X.xe s:=by
 refine thn (ha pins s σ H _ I h) λv s1 ⟨x,H1,I1,r1,q1⟩=>?_
 refine thn (hb pins s1 σ H1 _ I1 q1) λu s2 ⟨y,H2,I2,r2,q2⟩=>?_
 exact hf v u s2 x y H2 I2 r1 r2 q2
def Ea (i:Nat):TE:=λσ H Q=>∃v,σ[i]? = some (some v)/\Q v H
def tC (v:V):TE:=λ_ H Q=>Q v H
theorem mF {i:Nat}{x:Str}{pos:Pos}(hN:X.N[i]? = some x) (hv:Vis X.env.scope x) (hd:(x == ("__debug__" : Str))=false:=by decide) (hcd:(x == ("__classdict__" : Str))=false:=by decide):PE X (.Name x pos) (Ea i):=by
 intro pins s σ H Q I h
 obtain⟨v,e,h⟩:=h
 obtain⟨m,hn,hl⟩:=I.loc
 obtain⟨u,r,l⟩:=hl i x v hN e hv
 have fin:EP X pins σ Q u s:=⟨v,H,I,r,h⟩
 rcases l with ⟨hk,hm⟩|⟨hk,c,hc,hcell⟩
 ·exact wpAny_Name (wpAny_loadName_local I.ok.kind hk hn hm fin) hd
 ·rcases hk with hk|hk
  ·exact wpAny_Name (wpAny_loadName_cell I.ok.kind hk hc hcell fin) hd
  ·exact wpAny_Name (wpAny_loadName_free I.ok.kind hk hc hcell fin hcd) hd
theorem Eb {i j pos}:PE X (.Constant (.int i) j pos) (tC (.int i)):=λ_ _ _ H _ I h=>wpAny_Constant_int ⟨.int i,H,I.tok _,⟨_,rfl⟩,h⟩
theorem FJ {b j pos}:PE X (.Constant (.bool b) j pos) (tC (.bl b)):=λ_ _ _ H _ I h=>Constant_bool ⟨.bl b,H,I,rfl,h⟩
theorem Ec {j pos}:PE X (.Constant .none j pos) (tC .non):=λ_ _ _ H _ I h=>Constant_none ⟨.non,H,I,rfl,h⟩
theorem Ed {x j pos}:PE X (.Constant (.str x) j pos) (tC (.str x)):=λ_ _ _ H _ I h=>Calls.Constant_str ⟨.str x,H,I.tok _,⟨_,rfl⟩,h⟩
def Gl (X:Cx) (x:Str):Prop:=X.env.kindOf x=some .globalImplicit
theorem qO {E:Value->Shared->Prop}{pins:List (Addr×Obj)}{s:Shared}{σ:St}{H:Hp}{x:Str}{u:Value}{pos:Pos}{Q:Value->Shared->Prop}(I:Inv X pins σ H s) (hg:Gl X x) (hm:X.mg x=some u) (h:Q u s)
  (hd:(x == ("__debug__" : Str))=false:=by decide):wpAny (model X.prog X.w) X.A (eval (.Name x pos) X.env) Q E s :=
 Calls.Name_function_global I.ok.kind hg (Calls.loadGlobal_global (by rw[I.ok.glob];exact I.mod.glob.keeps I.bk) hm h) hd
theorem jk {E:Value->Shared->Prop}{pins:List (Addr×Obj)}{s:Shared}{σ:St}{H:Hp}{x:Str}{u:Value}{pos:Pos}{Q:Value->Shared->Prop}(I:Inv X pins σ H s) (hg:Gl X x) (hm:X.mg x=none) (hv:bootBuiltins x=some u) (h:Q u s)
  (hn:x ≠ "__name__":=by decide) (hd:(x == ("__debug__" : Str))=false:=by decide):wpAny (model X.prog X.w) X.A (eval (.Name x pos) X.env) Q E s:=by
 obtain⟨mb,h1,h2⟩:=I.mod.blt
 exact Calls.Name_function_global I.ok.kind hg (Calls.loadGlobal_builtin (by rw[I.ok.glob];exact I.mod.glob.keeps I.bk) hm (by rw[I.ok.blt];exact h1.keeps I.bk) ((h2 x hn).trans hv) h) hd
theorem wT {x:Str}{v:V}{u:Value}{pos:Pos}(hg:Gl X x) (hm:X.mg x=some u) (r:aT v u) (hd:(x == ("__debug__" : Str))=false:=by decide):PE X (.Name x pos) (tC v) :=
 λ_ _ _ H _ I h=>qO I hg hm ⟨v,H,I,r,h⟩ hd
theorem BD {x:Str}{v:V}{u:Value}{pos:Pos}(hg:Gl X x) (hm:X.mg x=none) (hv:bootBuiltins x=some u) (r:aT v u) (hn:x ≠ "__name__":=by decide) (hd:(x == ("__debug__" : Str))=false:=by decide):PE X (.Name x pos) (tC v) :=
 λ_ _ _ H _ I h=>jk I hg hm hv ⟨v,H,I,r,h⟩ hn hd
def t2I (ta tb:TE) (k:Int->Int->Hp->Prop):St->Hp->Prop:=λσ H=>ta σ H λx H1=>tb σ H1 λy H2=>∃i j,x=.int i/\y=.int j/\k i j H2
variable {a b:Expr}{ta tb:TE}{pos:Pos}
def PC (X:Cx) (op:CmpOp) (a b:Expr) (t:TE):Prop :=
 ∀(pins:List (Addr×Obj)) (s:Shared) (σ:St) (H:Hp) (Q:VK),Inv X pins σ H s->t σ H Q ->
  wpAny (model X.prog X.w) X.A (eval a X.env) (λv s₁=>wpAny (model X.prog X.w) X.A (eval b X.env) (λu s₂=>wpAny (model X.prog X.w) X.A (compareOp op v u) (EP X pins σ Q) X.xe s₂) X.xe s₁) X.xe s
theorem mG (b:Expr) {op:CmpOp}(h:op≠.In) (h2:op≠.NotIn):behindInMarks op b=false:=by
 have e1:(op == CmpOp.In)=false:=by cases op<;>first|rfl|exact absurd rfl h
 have e2:(op == CmpOp.NotIn)=false:=by cases op<;>first|rfl|exact absurd rfl h2
 cases b<;>simp[behindInMarks,e1,e2]
def FK (p:Int->Int->Bool) (ta tb:TE):TE:=λσ H Q=>t2I ta tb (λi j H2=>Q (.bl (p i j)) H2) σ H
abbrev tLt:TE->TE->TE:=FK λi j=>decide (i<j)
abbrev tGt:TE->TE->TE:=FK λi j=>decide (j<i)
def tB (t:TE):TT:=λσ H Q=>t σ H λx H1=>∃c,x=.bl c/\Q c H1
theorem Hk {op:CmpOp}{t:TE}(h:PC X op a b t) (h1:behindInMarks op b=false:=by first|exact mG _ (by decide) (by decide)|rfl):PT X (.Compare a [op] [b] pos) (tB t):=by
 intro pins s σ H Q I hw
 refine wpAny_isTrue_Compare1 (thn (h pins s σ H _ I hw) λv s1 h1=>thn h1 λu s2 h2=>thn h2 λc s3 ⟨x,H1,I1,r1,q1⟩=>?_) h1
 obtain⟨d,rfl,q⟩:=q1
 cases r1
 exact wpAny_truthy_bool ⟨H1,I1,q⟩
theorem Ee {e:Expr}{t:TE}(h:PE X e t) (he:∀whole,isTrue e X.env whole=(do let v ←whole;standAt e.pos;holding [v] (truthy v)):=by intro _;rfl):PT X e (tB t):=by
 intro pins s σ H Q I hw
 refine isTrue_plain (thn (h pins s σ H _ I hw) λv s1 ⟨x,H1,I1,r1,q1⟩=>?_) (he _)
 obtain⟨d,rfl,q⟩:=q1
 cases r1
 exact wpAny_truthy_bool ⟨H1,I1,q⟩
variable {tA tB':TT}{a9:List Expr}
def FL (t u:TT):TT:=λσ H Q=>t σ H λc H1=>if c=true then u σ H1 Q else Q false H1
def tOr (t u:TT):TT:=λσ H Q=>t σ H λc H1=>if c=true then Q true H1 else u σ H1 Q
def FM (t:TT):TT:=λσ H Q=>t σ H λc H1=>Q (!c) H1
theorem BE (ha:PT X a tA):PW X (.BoolOp .And [a] pos) tA:=by
 intro wh pins s σ H Q I h
 refine isTrue_and (thn (ha pins s σ H Q I h) λc s1 e=>?_)
 cases c with
 | true=>exact isTrue_and_nil e
 | false=>exact e
theorem Ef (ha:PT X a tA):PW X (.BoolOp .Or [a] pos) tA:=by
 intro wh pins s σ H Q I h
 refine isTrue_or (thn (ha pins s σ H Q I h) λc s1 e=>?_)
 cases c with
 | false=>exact isTrue_or_nil e
 | true=>exact e
theorem Eg (ha:PT X a tA) (hb:PW X (.BoolOp .And (b::a9) pos) tB'):PW X (.BoolOp .And (a::b::a9) pos) (FL tA tB'):=by
 intro wh pins s σ H Q I h
 refine isTrue_and (thn (ha pins s σ H _ I h) λc s1 ⟨H1,I1,q1⟩=>?_)
 cases c with
 | true=>exact hb wh pins s1 σ H1 Q I1 q1
 | false=>exact⟨H1,I1,q1⟩
theorem FN (ha:PT X a tA) (hb:PW X (.BoolOp .Or (b::a9) pos) tB'):PW X (.BoolOp .Or (a::b::a9) pos) (tOr tA tB'):=by
 intro wh pins s σ H Q I h
 refine isTrue_or (thn (ha pins s σ H _ I h) λc s1 ⟨H1,I1,q1⟩=>?_)
 cases c with
 | true=>exact⟨H1,I1,q1⟩
 | false=>exact hb wh pins s1 σ H1 Q I1 q1
theorem Eh (ha:PT X a tA):PT X (.UnaryOp .Not a pos) (FM tA):=by
 intro pins s σ H Q I h
 exact isTrue_not (ha pins s σ H (λc H1=>Q (!c) H1) I h)
def FP (ta tb:TE):TE:=λσ H Q=>ta σ H λx H1=>∃c,x=.bl c/\if c=true then tb σ H1 Q else Q (.bl false) H1
def Hl (ta tb:TE):TE:=λσ H Q=>ta σ H λx H1=>∃c,x=.bl c/\if c=true then Q (.bl true) H1 else tb σ H1 Q
def FQ (ta:TE):TE:=λσ H Q=>ta σ H λx H1=>∃c,x=.bl c/\Q (.bl (!c)) H1
theorem Ei {op} {t:TE}(h:PE X a t):PE X (.BoolOp op [a] pos) t:=λpins s σ H Q I hw=>BoolOp_one (h pins s σ H Q I hw)
theorem Ej (ha:PE X a ta) (hb:PE X (.BoolOp .And (b::a9) pos) tb):PE X (.BoolOp .And (a::b::a9) pos) (FP ta tb):=by
 intro pins s σ H Q I h
 refine BoolOp_and (thn (ha pins s σ H _ I h) λv s1 ⟨x,H1,I1,r1,q1⟩=>?_)
 obtain⟨c,rfl,q1⟩:=q1
 cases r1
 refine wpAny_truthy_bool ?_
 cases c with
 | true=>exact hb pins s1 σ H1 Q I1 q1
 | false=>exact⟨.bl false,H1,I1,rfl,q1⟩
theorem FR (ha:PE X a ta) (hb:PE X (.BoolOp .Or (b::a9) pos) tb):PE X (.BoolOp .Or (a::b::a9) pos) (Hl ta tb):=by
 intro pins s σ H Q I h
 refine BoolOp_or (thn (ha pins s σ H _ I h) λv s1 ⟨x,H1,I1,r1,q1⟩=>?_)
 obtain⟨c,rfl,q1⟩:=q1
 cases r1
 refine wpAny_truthy_bool ?_
 cases c with
 | false=>exact hb pins s1 σ H1 Q I1 q1
 | true=>exact⟨.bl true,H1,I1,rfl,q1⟩
theorem Ek (ha:PE X a ta):PE X (.UnaryOp .Not a pos) (FQ ta):=by
 intro pins s σ H Q I h
 refine UnaryOp_ (thn (ha pins s σ H _ I h) λv s1 ⟨x,H1,I1,r1,q1⟩=>?_)
 obtain⟨c,rfl,q1⟩:=q1
 cases r1
 exact not_of (wpAny_truthy_bool ⟨.bl (!c),H1,I1,rfl,q1⟩)
end
def SqL (K:PySem.W.Frag) (H:Hp) (a:Addr) (xs:List V):Prop :=
 Rd H a (.lst xs) ∨
  ∃(o:Obj) (its:Array Value) (n:Nat),K.lookup a=some o/\o.cls=.type "list"/\o.dict=none/\o.data=.seq its n/\its.size<=sizeLine/\aX xs its.toList
def SqT (K:PySem.W.Frag) (H:Hp) (a:Addr) (xs:List V):Prop :=
 Rd H a (.tup xs) ∨
  ∃(o:Obj) (its:Array Value) (n:Nat),K.lookup a=some o/\o.cls=.type "tuple"/\o.data=.seq its n/\its.size<=sizeLine/\aX xs its.toList
def Hm:Value->Option V
 | .none=>some .non
 | .bool b=>some (.bl b)
 | .int i _=>some (.int i)
 | .str x _=>some (.str x)
 | .bytes b _=>some (.byt b)
 | .float b _=>some (.flt b)
 | .ref a=>some (.ref a)
 | .type n=>some (.ty n)
 | _=>none
theorem aT.abs {x:V}{u:Value}(r:aT x u):Hm u=some x:=by
 cases x with
 | non=>cases r;rfl
 | bl _=>cases r;rfl
 | int _=>obtain⟨t,rfl⟩:=r;rfl
 | str _=>obtain⟨t,rfl⟩:=r;rfl
 | byt _=>obtain⟨t,rfl⟩:=r;rfl
 | flt _=>obtain⟨t,rfl⟩:=r;rfl
 | ref _=>cases r;rfl
 | ty _=>cases r;rfl
theorem aT.inj {x y:V}{u:Value}(r:aT x u) (q:aT y u):x=y:=Option.some.inj (r.abs.symm.trans q.abs)
theorem aX.inj:∀ {xs ys:List V}{us:List Value},aX xs us->aX ys us->xs=ys
 | _,_,_,.nil,.nil=>rfl
 | _,_,_,.cons r t,.cons r' t'=>by rw[r.inj r',aX.inj t t']
section
variable {X:Cx}{pins:List (Addr×Obj)}{σ:St}{H:Hp}{s:Shared}{a:Addr}{xs ys:List V}
theorem SqL.of {K:PySem.W.Frag}(h:H a=some (.lst xs)):SqL K H a xs:=.inl (.inl h)
theorem SqT.of {K:PySem.W.Frag}(h:H a=some (.tup xs)):SqT K H a xs:=.inl (.inl h)
theorem Inv.list (I:Inv X pins σ H s) (h:SqL X.K H a xs):∃its:List Value,aX xs its/\PlainL s.heap a its.toArray/\xs.length<=sizeLine:=by
 rcases h with h|⟨o,its,n,hk,hc,hd,hs,hz,r⟩
 ·obtain⟨z,its,n,r,e⟩:=h.ok I.hok
  exact⟨its,r,⟨_,n,e,rfl,rfl,rfl⟩,z⟩
 ·refine⟨its.toList,r,⟨o,n,I.kIn a o hk,hc,hd,by simpa using hs⟩, ?_⟩
  have e:=r.length
  simp only[Array.length_toList]at e
  omega
theorem Inv.tuple (I:Inv X pins σ H s) (h:SqT X.K H a xs):∃its:List Value,aX xs its/\IsTup s.heap a its.toArray/\xs.length<=sizeLine:=by
 rcases h with h|⟨o,its,n,hk,hc,hs,hz,r⟩
 ·obtain⟨z,its,r,p⟩:=h.ok I.hok
  exact⟨its,r,p,z⟩
 ·refine⟨its.toList,r,⟨o,I.kIn a o hk,hc,n,by simpa using hs⟩, ?_⟩
  have e:=r.length
  simp only[Array.length_toList]at e
  omega
theorem Inv.list_inj (I:Inv X pins σ H s) (h:SqL X.K H a xs) (h':SqL X.K H a ys):xs=ys:=by
 obtain⟨its,r,⟨o,n,e,_,_,d⟩,_⟩:=I.list h
 obtain⟨its',r',⟨o',n',e',_,_,d'⟩,_⟩:=I.list h'
 rw[e]at e';cases e'
 rw[d]at d'
 injection d' with d1 _
 have:its=its':=by simpa using congrArg Array.toList d1
 subst this
 exact r.inj r'
theorem Inv.tuple_inj (I:Inv X pins σ H s) (h:SqT X.K H a xs) (h':SqT X.K H a ys):xs=ys:=by
 obtain⟨its,r,⟨o,e,_,n,d⟩,_⟩:=I.tuple h
 obtain⟨its',r',⟨o',e',_,n',d'⟩,_⟩:=I.tuple h'
 rw[e]at e';cases e'
 rw[d]at d'
 injection d' with d1 _
 have:its=its':=by simpa using congrArg Array.toList d1
 subst this
 exact r.inj r'
end
abbrev Cx.wish (X:Cx) (E:Value->Shared->Prop):Cx:={ X with xe:=E }
abbrev Cx.nox (X:Cx):Cx:=X.wish λ_ _=>False
theorem Cx.Ok.wish {X:Cx}(ok:X.Ok) (E:Value->Shared->Prop):(X.wish E).Ok :=
 ⟨ok.mod,ok.kind,ok.glob,ok.blt,ok.above,ok.inj,ok.has,ok.cab,ok.hd,ok.frames,ok.stk,ok.exf,ok.bs,ok.bsz,ok.noex,ok.exfs,ok.funs,ok.frf⟩
theorem Cx.Ok.unwish {X:Cx}{E:Value->Shared->Prop}(ok:(X.wish E).Ok):X.Ok :=
 ⟨ok.mod,ok.kind,ok.glob,ok.blt,ok.above,ok.inj,ok.has,ok.cab,ok.hd,ok.frames,ok.stk,ok.exf,ok.bs,ok.bsz,ok.noex,ok.exfs,ok.funs,ok.frf⟩
section
variable {X:Cx}{pins:List (Addr×Obj)}{σ:St}{H:Hp}{s:Shared}{E:Value->Shared->Prop}
theorem Inv.wish (I:Inv X pins σ H s) (E:Value->Shared->Prop):Inv (X.wish E) pins σ H s:=⟨I.ok.wish E,I.os,I.bare,I.base,I.loc,I.cell,I.free,I.freeC,I.pin,I.hok,I.len⟩
theorem Inv.unwish (I:Inv (X.wish E) pins σ H s):Inv X pins σ H s:=⟨I.ok.unwish,I.os,I.bare,I.base,I.loc,I.cell,I.free,I.freeC,I.pin,I.hok,I.len⟩
theorem SP.unwish {D:Ends}{f:Flow}{s':Shared}(h:SP (X.wish E) pins D f s'):SP X pins D f s':=by
 cases f with
 | next=>obtain⟨σ',H',I,q⟩:=h;exact⟨σ',H',I.unwish,q⟩
 | brk=>obtain⟨σ',H',I,q⟩:=h;exact⟨σ',H',I.unwish,q⟩
 | cont=>obtain⟨σ',H',I,q⟩:=h;exact⟨σ',H',I.unwish,q⟩
 | ret u=>obtain⟨v,σ',H',I,r,q⟩:=h;exact⟨v,σ',H',I.unwish,r,q⟩
theorem PSs.nox {st:List Stmt}{t:TS}(h:PSs X.nox st t):PSs X st t:=λpins s σ H D I hw =>
 wpAny_mono (h pins s σ H D (I.wish _) hw) (λ_ _ q=>q.unwish) λ_ _ z=>False.elim z
end
section
variable {X:Cx}{st:Stmt}{a9:List Stmt}{t u:TS}{e:Expr}{te:TE}{pos:Pos}
def Dk:TS:=λD σ H=>D.nx σ H
def FU (t u:TS):TS:=λD σ H=>t { D with nx:=u D } σ H
theorem BF:PSs X [] Dk:=λ_ _ σ H _ I h=>wpAny_execs_nil ⟨σ,H,I,h⟩
theorem z5 (h1:PS X st t) (h2:PSs X a9 u):PSs X (st::a9) (FU t u):=by
 intro pins s σ H D I h
 refine wpAny_execs_cons (thn (h1 pins s σ H { D with nx:=u D } I h) λf s1 q=>?_)
 cases f with
 | next =>
  obtain⟨σ',H',I',q⟩:=q
  exact h2 pins s1 σ' H' D I' q
 | ret v=>exact q
 | brk=>exact q
 | cont=>exact q
theorem BG (h1:PS X st t):PSs X [st] t:=by
 intro pins s σ H D I h
 refine wpAny_execs_cons (thn (h1 pins s σ H D I h) λf s1 q=>?_)
 cases f with
 | next=>exact wpAny_execs_nil q
 | ret v=>exact q
 | brk=>exact q
 | cont=>exact q
def FV:TS:=λD σ H=>D.ct σ H
theorem sG:PS X (.Continue pos) FV:=λ_ _ σ H _ I h=>wpAny_Continue ⟨σ,H,I,h⟩
theorem Inv.quiet {pins:List (Addr×Obj)}{σ:St}{H:Hp}{s:Shared}(I:Inv X pins σ H s):interactive X.env=false:=by simp[interactive,I.ok.kind]
def FW (te:TE):TS:=λD σ H=>te σ H λ_ H1=>D.nx σ H1
theorem BH (he:PE X e te) (hs:swapsWith e none pos.line X.env=pure false:=by rfl):PS X (.Expr e pos) (FW te):=by
 intro pins s σ H D I h
 exact wpAny_Expr_any (thn (he pins s σ H _ I h) λv s1 ⟨x,H1,I1,r1,q1⟩=>⟨σ,H1,I1,q1⟩) I.quiet hs
def El (te:TE):TS:=λD σ H=>te σ H D.rt
theorem z6 (he:PE X e te):PS X (.Return (some e) pos) (El te):=by
 intro pins s σ H D I h
 exact wpAny_Return_some (thn (he pins s σ H _ I h) λv s1 ⟨x,H1,I1,r1,q1⟩=>⟨x,σ,H1,I1,r1,q1⟩)
def FX (c:TT) (t u:TS):TS:=λD σ H=>c σ H λb H1=>if b=true then t D σ H1 else u D σ H1
theorem FY {c:Expr}{a b:List Stmt}{tc:TT}(hc:PT X c tc) (ha:PSs X a t) (hb:PSs X b u):PS X (.If c a b pos) (FX tc t u):=by
 intro pins s σ H D I h
 refine wpAny_If (thn (hc pins s σ H _ I h) λd s1 ⟨H1,I1,q1⟩=>?_)
 cases d with
 | true=>exact ha pins s1 σ H1 D I1 q1
 | false=>exact hb pins s1 σ H1 D I1 q1
end
abbrev TG:=V->St->Hp->(St->Hp->Prop)->Prop
abbrev TGs:=List V->St->Hp->(St->Hp->Prop)->Prop
def PG (X:Cx) (target:Expr) (t:TG):Prop :=
 ∀(pins:List (Addr×Obj)) (s:Shared) (σ:St) (H:Hp) (v:V) (u:Value) (Q:St->Hp->Prop),Inv X pins σ H s->aT v u->t v σ H Q ->
  wpAny (model X.prog X.w) X.A (assign target X.env u) (λ_ s'=>∃σ' H',Inv X pins σ' H' s'/\Q σ' H') X.xe s
def PGs (X:Cx) (ts:List Expr) (t:TGs):Prop :=
 ∀(pins:List (Addr×Obj)) (s:Shared) (σ:St) (H:Hp) (vs:List V) (us:List Value) (Q:St->Hp->Prop),Inv X pins σ H s->aX vs us->t vs σ H Q ->
  wpAny (model X.prog X.w) X.A (assignInOrder ((assignEach ts X.env).map (·.2)) us) (λ_ s'=>∃σ' H',Inv X pins σ' H' s'/\Q σ' H') X.xe s
abbrev Em:=V->V->V->Hp->(Hp->Prop)->Prop
def FZ (X:Cx) (t:Em):Prop :=
 ∀(pins:List (Addr×Obj)) (s:Shared) (σ:St) (H:Hp) (o i v:V) (ov iv u:Value) (Q:Hp->Prop),Inv X pins σ H s->aT o ov->aT i iv->aT v u->t o i v H Q ->
  wpAny (model X.prog X.w) X.A (setItem ov iv u) (λ_ s'=>∃H',Inv X pins σ H' s'/\Q H') X.xe s
section
variable {X:Cx}{pos:Pos}
def lG (i:Nat):TG:=λv σ H Q=>Q (σ.set i (some v)) H
theorem bj {i:Nat}{x:Str}(hN:X.N.Nodup) (hi:X.N[i]? = some x) (hx:Loc X.env.scope x) (hf:X.fn x=true∨X.env.scope.names.lookup x=some .local:=by first|exact .inl rfl|exact .inr rfl|assumption):PG X (.Name x pos) (lG i):=by
 intro pins s σ H v u Q I r h
 exact wpAny_assign_Name (sF I hN hi hx r (λs' I'=>⟨_,H,I',h⟩) hf)
def Ga:TGs:=λvs σ H Q=>vs=[]/\Q σ H
def Dl (t:TG) (u:TGs):TGs:=λvs σ H Q=>∃v r,vs=v::r/\t v σ H λσ' H'=>u r σ' H' Q
theorem qP:PGs X [] Ga:=by
 intro pins s σ H vs us Q I r h
 obtain⟨e,h⟩:=h
 subst e
 cases r
 exact assignInOrder_nil ⟨σ,H,I,h⟩
theorem fX {e:Expr}{es:List Expr}{t:TG}{u:TGs}(h1:PG X e t) (h2:PGs X es u)
  (hs:(assignEach (e::es) X.env).map (·.2)=assign e X.env::(assignEach es X.env).map (·.2):=by rfl):PGs X (e::es) (Dl t u):=by
 intro pins s σ H vs us Q I r h
 obtain⟨v,vr,e1,h⟩:=h
 subst e1
 cases r with
 | cons r rr =>
  rw[hs]
  refine assignInOrder_cons (thn (h1 pins s σ H _ _ _ I r h) λ_ s1 ⟨σ1,H1,I1,q1⟩=>?_)
  exact h2 pins s1 σ1 H1 _ _ Q I1 rr q1
def En (K:PySem.W.Frag) (n:Nat) (t:TGs):TG:=λv σ H Q=>∃a xs,v=.ref a/\SqT K H a xs/\xs.length=n/\t xs σ H Q
theorem z7 {es:List Expr}{k:Nat}{t:TGs}{n:Nat}(hc:X.calm=true) (h:PGs X es t)
  (hn:(assignEach es X.env).length=n:=by rfl) (hst:(assignEach es X.env).findIdx? (·.1)=none:=by rfl):PG X (.Tuple es k pos) (En X.K n t):=by
 intro pins s σ H v u Q I r hw
 obtain⟨a,xs,e1,hq,hl,hw⟩:=hw
 subst e1
 cases r
 obtain⟨its,rv,ht,hz⟩:=I.tuple hq
 refine assign_Tuple_tuple (I.ok.hd hc) ht (by simp[hn,←hl,rv.length]) hst λh' hx=>?_
 have I1:Inv X pins σ H { s with heap:=h' }:=I.kept (t':=s.toks) λb o e=>hx b o (Nat.ne_of_lt (Heap.lt_size e)) e
 exact h pins _ σ H xs _ Q I1 (by simpa using rv) hw
def Hn (to ti:TE) (t:Em):TG:=λv σ H Q=>to σ H λo H1=>ti σ H1 λi H2=>t o i v H2 λH3=>Q σ H3
theorem Eo {o i:Expr}{to ti:TE}{t:Em}(ho:PE X o to) (hi:PE X i ti) (hs:FZ X t)
  (ha:∀v,assign (.Subscript o i pos) X.env v=(do
   let ov ←holding [v] (eval o X.env)
   let iv ←holding [v,ov] (eval i X.env)
   standAt pos
   holding [v,ov,iv] (setItem ov iv v)
   release [v,ov,iv] []):=by intro _;rfl):PG X (.Subscript o i pos) (Hn to ti t):=by
 intro pins s σ H v u Q I r h
 rw[ha]
 refine wX (wpAny_holding (thn (ho pins s σ H _ I h) λov s1 ⟨x,H1,I1,r1,q1⟩=>?_))
 refine wX (wpAny_holding (thn (hi pins s1 σ H1 _ I1 q1) λiv s2 ⟨y,H2,I2,r2,q2⟩=>?_))
 refine wX (wpAny_standAt (wX (wpAny_holding (thn (hs pins s2 σ H2 x y v ov iv u _ I2 r1 r2 r q2) λ_ s3 ⟨H3,I3,q3⟩=>?_))))
 exact wpAny_release ⟨σ,H3,I3,q3⟩
def yz (te:TE) (g:TG):TS:=λD σ H=>te σ H λx H1=>g x σ H1 D.nx
theorem z8 {tg e:Expr}{te:TE}{g:TG}(he:PE X e te) (hg:PG X tg g) (hs:swapsWithSole [tg] e pos.line X.env=pure false:=by rfl) (hw:swappedStores [tg] e X.env=pure none:=by rfl)
  (h1:(assignEach [tg] X.env).map (·.2)=[assign tg X.env]:=by rfl):PS X (.Assign [tg] e pos) (yz te g):=by
 intro pins s σ H D I h
 refine wpAny_Assign_stores (thn (he pins s σ H _ I h) λv s1 ⟨x,H1,I1,r1,q1⟩=>?_) hs hw
 rw[h1]
 exact thn (hg pins s1 σ H1 x v _ I1 r1 q1) λ_ s2 q=>q
theorem z9 {i:Nat}{x:Str}{e:Expr}{te:TE}{pos':Pos}(hN:X.N.Nodup) (hi:X.N[i]? = some x) (hx:Loc X.env.scope x) (he:PE X e te) (hs:swapsWith e (some (.Name x pos')) pos.line X.env=pure false:=by rfl) (hf:X.fn x=true∨X.env.scope.names.lookup x=some .local:=by first|exact .inl rfl|exact .inr rfl|assumption) :
  PS X (.Assign [.Name x pos'] e pos) (yz te (lG i)):=by
 intro pins s σ H D I h
 refine wpAny_Assign_Name (thn (he pins s σ H _ I h) λv s1 ⟨y,H1,I1,r1,q1⟩=>?_) hs
 exact sF I1 hN hi hx r1 (λs2 I2=>⟨_,H1,I2,q1⟩) hf
end
structure It where
 go:Nat->Hp->Prop
 yld:Nat->Hp->V->Hp->Prop
 stop:Nat->Hp->Prop
def kT (X:Cx) (pins:List (Addr×Obj)) (H:Hp) (b:Addr):Prop :=
 H b=none/\b≠X.env.locals/\b∉X.fs/\(b∈X.ex∨X.s₀.heap.objs.size<=b)/\(∀x c,X.env.cells.lookup x=some c->c≠b)/\∀p∈X.pn++pins,p.1≠b
theorem Inv.fpOk {X:Cx}{pins:List (Addr×Obj)}{σ:St}{H H':Hp}{s:Shared}{b:Addr}(I:Inv X pins σ H s) (hb:s.heap.objs.size<=b) (hn:H' b=none):kT X pins H' b:=by
 refine⟨hn,Nat.ne_of_gt (Nat.lt_of_lt_of_le I.lt hb),I.nofs hb,.inr (Nat.le_trans I.sz hb),λx c e z=>?_,λp hp z=>?_⟩
 ·obtain⟨v,q⟩:=I.cell x c e
  exact absurd (Nat.lt_of_lt_of_le q.lt (by rw[z];exact hb)) (Nat.lt_irrefl _)
 ·exact absurd (Nat.lt_of_lt_of_le (Heap.lt_size (I.pin p hp).1) (by rw[z];exact hb)) (Nat.lt_irrefl _)
structure Turn (P:Program) (w:World) (K:PySem.W.Frag) (tg:Expr) (J:It) (fp:List Addr) (it:Addr) (tn:Nat->Heap->Prop):Prop where
 mem:it∈fp
 obj:∀i h,tn i h->∀b∈fp,∃o,h.get? b=some o/\∀v,o.data≠.cell v
 keep:∀i h h',tn i h->(∀b∈fp,∀o,h.get? b=some o->h'.get? b=some o)->tn i h'
 item:∀(X:Cx),X.prog=P->X.w=w->X.K=K->X.calm=true->∀(i:Nat) (pins:List (Addr×Obj)) (s:Shared) (σ:St) (H:Hp) (E:Value->Shared->Prop),Inv X pins σ H s->(∀b∈fp,kT X pins H b)->tn i s.heap->J.go i H ->
  wpAny (model P w) X.A (pyNext (.ref it)) (λr s1=>∃u,r=some u /\
   wpAny (model P w) X.A (letOwnedTupleGo tg (.ref it) u) (λ_ s2=>∃x H',Inv X pins σ H' s2/\aT x u/\J.yld i H x H'/\tn (i+1) s2.heap/\∀b∈fp,H' b=none) E s1) E s
 done:∀(X:Cx),X.prog=P->X.w=w->X.K=K->X.calm=true->∀(i:Nat) (pins:List (Addr×Obj)) (s:Shared) (σ:St) (H:Hp) (E:Value->Shared->Prop),Inv X pins σ H s->(∀b∈fp,kT X pins H b)->tn i s.heap->J.stop i H ->
  wpAny (model P w) X.A (pyNext (.ref it)) (λr s1=>r=none/\Inv X pins σ H s1) E s
 self:∀(A:Around) (i:Nat) (s:Shared) (Q:Value->Shared->Prop) (E:Value->Shared->Prop),tn i s.heap->Q (.ref it) s->wpAny (model P w) A (pyIter (.ref it)) Q E s
abbrev TI:=St->Hp->(It->Hp->Prop)->Prop
def PIE (X:Cx) (pins:List (Addr×Obj)) (σ:St) (tg:Expr) (R:It->Hp->Prop) (itv:Value) (s2:Shared):Prop :=
 ∃(it:Addr) (fp:List Addr) (tn:Nat->Heap->Prop) (J:It) (H':Hp),itv=.ref it/\Inv X pins σ H' s2/\Turn X.prog X.w X.K tg J fp it tn/\tn 0 s2.heap/\(∀b∈fp,kT X pins H' b)/\R J H'
def PI (X:Cx) (tg iter:Expr) (wi:TI):Prop :=
 ∀(pins:List (Addr×Obj)) (s:Shared) (σ:St) (H:Hp) (R:It->Hp->Prop),Inv X pins σ H s->wi σ H R ->
  wpAny (model X.prog X.w) X.A (eval iter X.env) (λv s1=>wpAny (model X.prog X.w) X.A (pyIter v) (PIE X pins σ tg R) X.xe s1) X.xe s
theorem p9 {M:Model}{A:Around}{E:Value->Shared->Prop}{s:Shared}{tg:Expr}{it:Addr}{u:Value}{o:Obj}{n:String}{vs:Array Value}{Q:Unit->Shared->Prop}(ho:s.heap.get? it=some o) (hc:o.cls=.type n) (hd:o.data=.fields vs)
    (hn:["enumerate","zip","dict_itemiterator","dict_reverseitemiterator","odict_iterator","itertools.zip_longest","itertools.pairwise"].contains n=false) (hQ:Q () s):wpAny M A (letOwnedTupleGo tg (.ref it) u) Q E s:=by
  unfold letOwnedTupleGo
  cases tg<;>first
    | exact wY hQ
    | (cases u<;>first
        | exact wY hQ
        | (refine wX (wpAny_load ho ?_)
           rw[hc,hd]
           show wpAny M A (if(["enumerate","zip","dict_itemiterator","dict_reverseitemiterator","odict_iterator","itertools.zip_longest","itertools.pairwise"].contains n && vs[0]? == some (rawInt _))=true then _ else _) Q E s
           rw[if_neg (by intro h;rw[hn,Bool.false_and]at h;cases h)]
           exact wY hQ))
def Itl (K:PySem.W.Frag) (a:Addr):It :=
 ⟨λi H=>∃xs x,SqL K H a xs/\xs[i]? = some x,λi H x H'=>H'=H/\∀xs,SqL K H a xs->xs[i]? = some x,λi H=>∃xs,SqL K H a xs/\xs.length<=i⟩
def Itt (K:PySem.W.Frag) (a:Addr):It :=
 ⟨λi H=>∃xs x,SqT K H a xs/\xs[i]? = some x,λi H x H'=>H'=H/\∀xs,SqT K H a xs->xs[i]? = some x,λi H=>∃xs,SqT K H a xs/\xs.length<=i⟩
def Itr (lo:Int) (n:Nat):It:=⟨λi _=>i<n,λi H x H'=>H'=H/\x=.int (lo+i),λi _=>n<=i⟩
theorem y0 {P:Program}{w:World}{K:PySem.W.Frag}{tg:Expr}(a it:Addr):Turn P w K tg (Itl K a) [it] it (λi h=>h.IsListIter it a i) where
 mem:=by simp
 obj:=λi h st b hb=>by
  have e:b=it:=by simpa using hb
  subst e
  obtain⟨o,e,c,d⟩:=st
  exact⟨o,e,λv z=>by rw[d]at z;cases z⟩
 keep:=λi h h' st k=>st.at λo e=>k it (by simp) o e
 item:=by
  intro X hP hw hK hc i pins s σ H E I hf st hg
  subst hP hw hK
  obtain⟨xs,x,hq,hx⟩:=hg
  obtain⟨its,rv,p,hz⟩:=I.list hq
  obtain⟨u,hu,ru⟩:=rv.get hx
  obtain⟨f0,f1,f2,f3,f4,f5⟩:=hf it (by simp)
  refine wpAny_pyNext_list_item st p.isList (x:=u) (by simpa using hu) λh' st' sb=>?_
  have I1:Inv X pins σ H { s with heap:=h' }:=I.turned (t':=s.toks) (λb o hb e=>(sb.2 b hb).trans e) f0 f1 f3 f4 f5
  obtain⟨o,e,c,d⟩:=id st'
  exact⟨u,rfl,p9 (s:={ s with heap:=h' }) e c d (by decide) ⟨x,H,I1,ru,⟨rfl,λys hy=>by rw[I.list_inj hy hq];exact hx⟩,st',λb hb=>(hf b hb).1⟩⟩
 done:=by
  intro X hP hw hK hc i pins s σ H E I hf st hg
  subst hP hw hK
  obtain⟨xs,hq,hx⟩:=hg
  obtain⟨its,rv,p,hz⟩:=I.list hq
  obtain⟨f0,f1,f2,f3,f4,f5⟩:=hf it (by simp)
  have hl:=rv.length
  exact wpAny_pyNext_list_end (I.ok.hd hc) st p.isList (by simp;omega) λh' eb=>⟨rfl,I.turned (t':=s.toks) (λb o hb e=>eb b o hb e) f0 f1 f3 f4 f5⟩
 self:=λ_ _ _ _ _ st h=>wpAny_pyIter_listiter st h
theorem vz {P:Program}{w:World}{K:PySem.W.Frag}{tg:Expr}(a it:Addr):Turn P w K tg (Itt K a) [it] it (λi h=>h.IsTupleIter it a i) where
 mem:=by simp
 obj:=λi h st b hb=>by
  have e:b=it:=by simpa using hb
  subst e
  obtain⟨o,e,c,d⟩:=st
  exact⟨o,e,λv z=>by rw[d]at z;cases z⟩
 keep:=λi h h' st k=>st.at λo e=>k it (by simp) o e
 item:=by
  intro X hP hw hK hc i pins s σ H E I hf st hg
  subst hP hw hK
  obtain⟨xs,x,hq,hx⟩:=hg
  obtain⟨its,rv,p,hz⟩:=I.tuple hq
  obtain⟨u,hu,ru⟩:=rv.get hx
  obtain⟨f0,f1,f2,f3,f4,f5⟩:=hf it (by simp)
  refine wpAny_pyNext_tuple_item st (show s.heap.IsTuple a its.toArray from p) (x:=u) (by simpa using hu) λh' st' sb=>?_
  have I1:Inv X pins σ H { s with heap:=h' }:=I.turned (t':=s.toks) (λb o hb e=>(sb.2 b hb).trans e) f0 f1 f3 f4 f5
  obtain⟨o,e,c,d⟩:=id st'
  exact⟨u,rfl,p9 (s:={ s with heap:=h' }) e c d (by decide) ⟨x,H,I1,ru,⟨rfl,λys hy=>by rw[I.tuple_inj hy hq];exact hx⟩,st',λb hb=>(hf b hb).1⟩⟩
 done:=by
  intro X hP hw hK hc i pins s σ H E I hf st hg
  subst hP hw hK
  obtain⟨xs,hq,hx⟩:=hg
  obtain⟨its,rv,p,hz⟩:=I.tuple hq
  obtain⟨f0,f1,f2,f3,f4,f5⟩:=hf it (by simp)
  have hl:=rv.length
  exact wpAny_pyNext_tuple_end (I.ok.hd hc) st (show s.heap.IsTuple a its.toArray from p) (by simp;omega) λh' eb=>⟨rfl,I.turned (t':=s.toks) (λb o hb e=>eb b o hb e) f0 f1 f3 f4 f5⟩
 self:=λ_ _ _ _ _ st h=>wpAny_pyIter_tupleiter st h
theorem vA {P:Program}{w:World}{K:PySem.W.Frag}{tg:Expr}(it:Addr) (lo:Int) (n:Nat):Turn P w K tg (Itr lo n) [it] it (λi h=>IsRangeIter h it (lo+(i:Nat)*1) ((n:Int) - (i:Nat)) 1) where
 mem:=by simp
 obj:=λi h st b hb=>by
  have e:b=it:=by simpa using hb
  subst e
  exact⟨_,st,λv z=>by
   have z':Data.fields _=Data.cell v:=z
   cases z'⟩
 keep:=λi h h' st k=>k it (by simp) _ st
 item:=by
  intro X hP hw hK hc i pins s σ H E I hf st hg
  subst hP hw hK
  obtain⟨f0,f1,f2,f3,f4,f5⟩:=hf it (by simp)
  have W:=Walks.range (prog:=X.prog) (w:=X.w) (I.ok.hd hc) it lo 1 n
  refine W.item i s _ _ hg st λv h' tk hv st' kk=>?_
  obtain⟨t,rfl⟩:=hv
  have I1:Inv X pins σ H { s with heap:=h',toks:=tk }:=I.turned (λb o hb e=>kk b o (by simpa using hb) e) f0 f1 f3 f4 f5
  refine⟨_,rfl,p9 (s:={ s with heap:=h',toks:=tk }) (n:="range_iterator") st' rfl rfl (by decide) ⟨.int (lo+i),H,I1,⟨t, ?_⟩,⟨rfl,rfl⟩,st',λb hb=>(hf b hb).1⟩⟩
  rw[Int.mul_one]
 done:=by
  intro X hP hw hK hc i pins s σ H E I hf st hg
  subst hP hw hK
  obtain⟨f0,f1,f2,f3,f4,f5⟩:=hf it (by simp)
  exact wpAny_pyNext_range_end (I.ok.hd hc) st (by have:n<=i:=hg;omega) λh' eb=>⟨rfl,I.turned (t':=s.toks) (λb o hb e=>eb b o hb e) f0 f1 f3 f4 f5⟩
 self:=λ_ _ _ _ _ st h=>wpAny_pyIter_rangeiter st h
section
variable {X:Cx}{tg:Expr}
def Gb (K:PySem.W.Frag) (tl:TE):TI:=λσ H R=>tl σ H λx H1=>∃a,x=.ref a/\(∃xs,SqL K H1 a xs)/\R (Itl K a) H1
def Ho (K:PySem.W.Frag) (tl:TE):TI:=λσ H R=>tl σ H λx H1=>∃a,x=.ref a/\(∃xs,SqT K H1 a xs)/\R (Itt K a) H1
theorem BI {l:Expr}{tl:TE}(hl:PE X l tl):PI X tg l (Gb X.K tl):=by
 intro pins s σ H R I h
 refine thn (hl pins s σ H _ I h) λv s1 ⟨x,H1,I1,r1,q1⟩=>?_
 obtain⟨a,e,⟨xs,hq⟩,q⟩:=q1
 subst e
 cases r1
 obtain⟨its,rv,p,hz⟩:=I1.list hq
 refine wpAny_pyIter_list p.isList ?_
 refine⟨s1.heap.objs.size,[s1.heap.objs.size],_,_,H1,rfl,I1.kept (t':=s1.toks) λb o e=>Heap.get?_push_of_some _ e,y0 a _,⟨_,Heap.get?_push_size _ rfl,rfl,rfl⟩,λb hb=>?_,q⟩
 have e:b=s1.heap.objs.size:=by simpa using hb
 subst e
 exact I1.fpOk (Nat.le_refl _) (I1.hok.fresh (Nat.le_refl _))
theorem Ep {l:Expr}{tl:TE}(hl:PE X l tl):PI X tg l (Ho X.K tl):=by
 intro pins s σ H R I h
 refine thn (hl pins s σ H _ I h) λv s1 ⟨x,H1,I1,r1,q1⟩=>?_
 obtain⟨a,e,⟨xs,hq⟩,q⟩:=q1
 subst e
 cases r1
 obtain⟨its,rv,p,hz⟩:=I1.tuple hq
 refine wpAny_pyIter_tuple (show s1.heap.IsTuple a its.toArray from p) ?_
 refine⟨s1.heap.objs.size,[s1.heap.objs.size],_,_,H1,rfl,I1.kept (t':=s1.toks) λb o e=>Heap.get?_push_of_some _ e,vz a _,⟨_,Heap.get?_push_size _ rfl,rfl,rfl⟩,λb hb=>?_,q⟩
 have e:b=s1.heap.objs.size:=by simpa using hb
 subst e
 exact I1.fpOk (Nat.le_refl _) (I1.hok.fresh (Nat.le_refl _))
theorem zA {pins:List (Addr×Obj)}{σ:St}{H:Hp}{s:Shared}{R:It->Hp->Prop}{E:Value->Shared->Prop}{lo hi:Int}{t u v:Tok}{tk:Nat}(I:Inv X pins σ H s) (h1 : -(2 ^ 62)<=lo) (h2:lo<2 ^ 62) (h3 : -(2 ^ 62)<=hi) (h4:hi<2 ^ 62)
  (q:R (Itr lo (hi - lo).toNat) H):wpAny (model X.prog X.w) X.A (pyIter (.ref s.heap.objs.size)) (PIE X pins σ tg R) E { s with heap:=s.heap.push { cls:=.type "range",data:=.fields #[.int lo t,.int hi u,.int 1 v] },toks:=tk }:=by
 refine wpAny_pyIter_range (IsRange.new ..) (small_one h1 h2 h3 h4) ?_
 have I1:Inv X pins σ H { s with heap:=s.heap.push { cls:=.type "range",data:=.fields #[.int lo t,.int hi u,.int 1 v] },toks:=tk }:=I.kept λb o e=>Heap.get?_push_of_some _ e
 refine⟨(s.heap.push { cls:=.type "range",data:=.fields #[.int lo t,.int hi u,.int 1 v] }).objs.size,[(s.heap.push { cls:=.type "range",data:=.fields #[.int lo t,.int hi u,.int 1 v] }).objs.size],_,_,H,rfl,
  I1.kept (t':=tk) λb o e=>Heap.get?_push_of_some _ e,vA _ lo (hi - lo).toNat, ?_,λb hb=>?_,q⟩
 ·have e1:lo+((0:Nat):Int)*1=lo:=by simp
  have e2:(((hi - lo).toNat:Nat):Int) - ((0:Nat):Int)=Builtin.Range.rangeSize lo hi 1:=by rw[rangeSize_one];split<;>omega
  show IsRangeIter _ _ (lo+((0:Nat):Int)*1) ((((hi - lo).toNat:Nat):Int) - ((0:Nat):Int)) 1
  rw[e1,e2]
  exact Heap.get?_push_size _ rfl
 ·have e:b=(s.heap.push { cls:=.type "range",data:=.fields #[.int lo t,.int hi u,.int 1 v] }).objs.size:=by simpa using hb
  subst e
  exact I1.fpOk (Nat.le_refl _) (I1.hok.fresh (Nat.le_refl _))
def Gc (ta:TA):TI:=λσ H R=>ta σ H λvs H1=>∃j:Int,vs=[.int j]/\-(2 ^ 62)<=j/\j<2 ^ 62/\R (Itr 0 j.toNat) H1
theorem y4 {a:Expr}{ta:TA}{p pos:Pos}(hg:Gl X "range") (hm:X.mg "range" = none) (ha:PA X [a] ta) (hs:starEach [a] X.env=[(false,eval a X.env)]:=by rfl):PI X tg (.Call (.Name "range" p) [a] [] pos) (Gc ta):=by
 intro pins s σ H R I h
 refine Call_ (jk I hg hm boot_range (PyProof.Rows.callWith_type1 (thn (ha pos pins s σ H _ I h) λus s1 ⟨vs,H1,I1,r1,q1⟩=>?_) hs rfl))
 obtain⟨j,e,q1,q2,q⟩:=q1
 subst e
 cases r1 with
 | cons r rr =>
  cases rr
  obtain⟨t,rfl⟩:=r
  exact call_range_1 (zA I1 (by omega) (by omega) q1 q2 (by simpa using q))
def Er (wi:TI) (g:TG) (tb:TS):TS:=λD σ H=>wi σ H λJ H1=>∃W:Nat->Nat->St->Hp->Prop,(∃m,W 0 m σ H1)/\∀i m σ H,W i m σ H ->
 (J.stop i H/\D.nx σ H)∨(J.go i H/\∃N:St->Hp->Prop,(∀σ' H',N σ' H'->∃m',m'<m/\W (i+1) m' σ' H')/\∀x H',J.yld i H x H'->g x σ H' λσ2 H2=>tb { D with nx:=N,ct:=N,bk:=D.nx } σ2 H2)
def kU (fp:List Addr) (h:Heap):List (Addr×Obj):=fp.filterMap λb=>(h.get? b).map λo=>(b,o)
theorem g8 {fp:List Addr}{h:Heap}{b:Addr}{o:Obj}(hb:b∈fp) (e:h.get? b=some o):(b,o)∈kU fp h:=List.mem_filterMap.mpr ⟨b,hb,by rw[e];rfl⟩
theorem y6 {fp:List Addr}{h:Heap}{p:Addr×Obj}(hp:p∈kU fp h):p.1∈fp/\h.get? p.1=some p.2:=by
 obtain⟨b,hb,e⟩:=List.mem_filterMap.mp hp
 cases q:h.get? b with
 | none=>rw[q]at e;cases e
 | some o =>
  rw[q]at e
  have e':(b,o)=p:=Option.some.inj e
  subst e'
  exact⟨hb,q⟩
theorem Inv.pinned {pins:List (Addr×Obj)}{σ:St}{H:Hp}{s:Shared}{fp:List Addr}(I:Inv X pins σ H s) (hf:∀b∈fp,kT X pins H b) (ho:∀b∈fp,∃o,s.heap.get? b=some o/\∀v,o.data≠.cell v):Inv X (pins++kU fp s.heap) σ H s :=
 I.pins_of λp hp=>(List.mem_append.mp hp).elim (λz=>I.pin p (mY _ z)) λz=>by
  obtain⟨hb,e⟩:=y6 z
  obtain⟨f0,f1,f2,_⟩:=hf p.1 hb
  obtain⟨o,e',d⟩:=ho p.1 hb
  rw[e]at e';cases e'
  exact⟨e,f0,f1,f2,d⟩
theorem Inv.unpinned {pins pl:List (Addr×Obj)}{σ:St}{H:Hp}{s:Shared}(I:Inv X (pins++pl) σ H s):Inv X pins σ H s:=I.pins_of λp hp=>I.pin p (mY _ (List.mem_append_left _ hp))
theorem zB {iter:Expr}{body:List Stmt}{wi:TI}{g:TG}{tb:TS}{pos:Pos}(hp:PassesOwn (model X.prog X.w) X.A X.env X.xe) (hc:X.calm=true) (hi:PI X tg iter wi) (hg:PG X tg g) (hb:PSs X body tb)
  (hs:∀x,foldedSetIterable iter X.env x=pure x:=by intro _;rfl):PS X (.For tg iter body [] pos) (Er wi g tb):=by
 intro pins s σ H D I h
 refine wpAny_For (thn (hi pins s σ H _ I h) λv s1 h1=>thn h1 λitv s2 h2=>?_) hs
 obtain⟨it,fp,tn,J,H2,e,I2,T,st2,f2,W,⟨m0,w0⟩,turn⟩:=h2
 subst e
 -- what stays true of the iterator's objects through the loop
 have stat:∀ {H':Hp},(∀b∈fp,H' b=none)->∀b∈fp,kT X pins H' b:=λhn b hb=>⟨hn b hb,(f2 b hb).2⟩
 refine codeAny_forLoop_any (λn s'=>∃i σ' H',Inv X pins σ' H' s'/\tn i s'.heap/\(∀b∈fp,H' b=none)/\W i n σ' H') ?_ m0 ⟨0,σ,H2,I2,st2,λb hb=>(f2 b hb).1,w0⟩
 rintro n s3 ⟨i,σ3,H3,I3,st3,fr3,w3⟩
 rcases turn i n σ3 H3 w3 with ⟨stop,qn⟩|⟨go,N,hN,step⟩
 ·refine wpAny_passesOwn hp (thn (T.done X rfl rfl rfl hc i pins s3 σ3 H3 X.xe I3 (stat fr3) st3 stop) λr s4 ⟨hr,I4⟩=>?_)
  subst hr
  exact wpAny_execs_nil ⟨σ3,H3,I4,qn⟩
 ·refine wpAny_passesOwn hp (thn (T.item X rfl rfl rfl hc i pins s3 σ3 H3 X.xe I3 (stat fr3) st3 go) λr s4 ⟨u,hr,h4⟩=>?_)
  subst hr
  refine wpAny_passesOwn hp (thn h4 λ_ s5 ⟨x,H5,I5,r5,y5,st5,fr5⟩=>?_)
  have I5':=I5.pinned (stat fr5) (T.obj _ _ st5)
  refine wpAny_passesOwn hp (thn (hg _ s5 σ3 H5 x u _ I5' r5 (step x H5 y5)) λ_ s6 ⟨σ6,H6,I6,q6⟩=>?_)
  refine wpAny_passesOwn hp (thn (hb _ s6 σ6 H6 _ I6 q6) λf s7 q7=>?_)
  have again:∀ {σ7:St}{H7:Hp},Inv X (pins++kU fp s5.heap) σ7 H7 s7->N σ7 H7->∃m,m<n/\∃i σ' H',Inv X pins σ' H' s7/\tn i s7.heap/\(∀b∈fp,H' b=none)/\W i m σ' H':=λ{σ7 H7} I7 n7=>by
   obtain⟨m',hm,w7⟩:=hN σ7 H7 n7
   refine⟨m',hm,i+1,σ7,H7,I7.unpinned,T.keep _ _ _ st5 λb hb o e=>(I7.pin (b,o) (mY _ (mY _ (g8 hb e)))).1,λb hb=>?_,w7⟩
   obtain⟨o,e,d⟩:=T.obj _ _ st5 b hb
   exact(I7.pin (b,o) (mY _ (mY _ (g8 hb e)))).2.1
  cases f with
  | next=>obtain⟨σ7,H7,I7,n7⟩:=q7;exact again I7 n7
  | cont=>obtain⟨σ7,H7,I7,n7⟩:=q7;exact again I7 n7
  | brk=>obtain⟨σ7,H7,I7,q7⟩:=q7;exact⟨σ7,H7,I7.unpinned,q7⟩
  | ret v=>obtain⟨x7,σ7,H7,I7,r7,q7⟩:=q7;exact⟨x7,σ7,H7,I7.unpinned,r7,q7⟩
end
abbrev R2:=V->V->Hp->VK->Prop
def OpR (X:Cx) (f:Value->Value->Sem Value) (r:R2):Prop :=
 ∀(pins:List (Addr×Obj)) (s:Shared) (σ:St) (H:Hp) (x y:V) (v u:Value) (Q:VK),Inv X pins σ H s->aT x v->aT y u->r x y H Q ->
  wpAny (model X.prog X.w) X.A (f v u) (EP X pins σ Q) X.xe s
def UnR (X:Cx) (f:Value->Sem Value) (r:V->Hp->VK->Prop):Prop :=
 ∀(pins:List (Addr×Obj)) (s:Shared) (σ:St) (H:Hp) (x:V) (v:Value) (Q:VK),Inv X pins σ H s->aT x v->r x H Q ->
  wpAny (model X.prog X.w) X.A (f v) (EP X pins σ Q) X.xe s
def bI (X:Cx) (f:Value) (r:List V->Hp->VK->Prop):Prop :=
 ∀(pins:List (Addr×Obj)) (s:Shared) (σ:St) (H:Hp) (xs:List V) (us:List Value) (Q:VK),Inv X pins σ H s->aX xs us->r xs H Q ->
  wpAny (model X.prog X.w) X.A (call f us) (EP X pins σ Q) X.xe s
def tOp (r:R2) (ta tb:TE):TE:=λσ H Q=>ta σ H λx H1=>tb σ H1 λy H2=>r x y H2 Q
def tUn (r:V->Hp->VK->Prop) (ta:TE):TE:=λσ H Q=>ta σ H λx H1=>r x H1 Q
def rI (C:Int->Int->Prop) (g:Int->Int->V):R2:=λx y H Q=>∃i j,x=.int i/\y=.int j/\C i j/\Q (g i j) H
def rI0 (g:Int->Int->V):R2:=λx y H Q=>∃i j,x=.int i/\y=.int j/\Q (g i j) H
def rU (g:Int->V):V->Hp->VK->Prop:=λx H Q=>∃i,x=.int i/\Q (g i) H
section
variable {X:Cx}{a b c:Expr}{ta tb tc:TE}{pos:Pos}
theorem Es (ha:PE X a ta) (hb:PE X b tb) {pins:List (Addr×Obj)}{s:Shared}{σ:St}{H:Hp}{R:V->V->Hp->Prop}(I:Inv X pins σ H s)
  (h:ta σ H λx H1=>tb σ H1 λy H2=>R x y H2) {Q:Value->Shared->Prop}{f:Value->Value->Sem Value}
  (hf:∀v u s2 x y H2,Inv X pins σ H2 s2->aT x v->aT y u->R x y H2->wpAny (model X.prog X.w) X.A (f v u) Q X.xe s2) :
  wpAny (model X.prog X.w) X.A (eval a X.env) (λv s₁=>wpAny (model X.prog X.w) X.A (eval b X.env) (λu s₂=>wpAny (model X.prog X.w) X.A (f v u) Q X.xe s₂) X.xe s₁) X.xe s:=by
 refine thn (ha pins s σ H _ I h) λv s1 ⟨x,H1,I1,r1,q1⟩=>?_
 refine thn (hb pins s1 σ H1 _ I1 q1) λu s2 ⟨y,H2,I2,r2,q2⟩=>?_
 exact hf v u s2 x y H2 I2 r1 r2 q2
theorem Dm {op:Operator}{r:R2}(ho:OpR X (binaryOp op) r) (ha:PE X a ta) (hb:PE X b tb):PE X (.BinOp a op b pos) (tOp r ta tb):=by
 intro pins s σ H Q I h
 exact wpAny_BinOp (Es ha hb I h λv u s2 x y H2 I2 rx ry q=>ho pins s2 σ H2 x y v u Q I2 rx ry q)
theorem Gd {op:UnaryOp}{r:V->Hp->VK->Prop}(ho:UnR X (unaryOp op) r) (ha:PE X a ta):PE X (.UnaryOp op a pos) (tUn r ta):=by
 intro pins s σ H Q I h
 exact UnaryOp_ (thn (ha pins s σ H _ I h) λv s1 ⟨x,H1,I1,r1,q1⟩=>ho pins s1 σ H1 x v Q I1 r1 q1)
theorem opI {f:Value->Value->Sem Value}{C:Int->Int->Prop}{g:Int->Int->Int}
  (rule:∀(i j:Int) (t u:Tok) (s:Shared) (Q:Value->Shared->Prop) (E:Value->Shared->Prop),C i j->Q (.int (g i j) s.toks) { s with toks:=s.toks+1 }->wpAny (model X.prog X.w) X.A (f (.int i t) (.int j u)) Q E s) :
  OpR X f (rI C λi j=>.int (g i j)):=by
 intro pins s σ H x y v u Q I rx ry h
 obtain⟨i,j,rfl,rfl,hc,q⟩:=h
 obtain⟨t,rfl⟩:=rx
 obtain⟨t',rfl⟩:=ry
 exact rule i j t t' s _ _ hc ⟨.int (g i j),H,I.tok _,⟨_,rfl⟩,q⟩
theorem Et {f:Value->Value->Sem Value}{g:Int->Int->Int}
  (rule:∀(i j:Int) (t u:Tok) (s:Shared) (Q:Value->Shared->Prop) (E:Value->Shared->Prop),Q (.int (g i j) s.toks) { s with toks:=s.toks+1 }->wpAny (model X.prog X.w) X.A (f (.int i t) (.int j u)) Q E s) :
  OpR X f (rI0 λi j=>.int (g i j)):=by
 intro pins s σ H x y v u Q I rx ry h
 obtain⟨i,j,rfl,rfl,q⟩:=h
 obtain⟨t,rfl⟩:=rx
 obtain⟨t',rfl⟩:=ry
 exact rule i j t t' s _ _ ⟨.int (g i j),H,I.tok _,⟨_,rfl⟩,q⟩
theorem Eu {f:Value->Value->Sem Value}{g:Int->Int->Bool}
  (rule:∀(i j:Int) (t u:Tok) (s:Shared) (Q:Value->Shared->Prop) (E:Value->Shared->Prop),Q (.bool (g i j)) s->wpAny (model X.prog X.w) X.A (f (.int i t) (.int j u)) Q E s) :
  OpR X f (rI0 λi j=>.bl (g i j)):=by
 intro pins s σ H x y v u Q I rx ry h
 obtain⟨i,j,rfl,rfl,q⟩:=h
 obtain⟨t,rfl⟩:=rx
 obtain⟨t',rfl⟩:=ry
 exact rule i j t t' s _ _ ⟨.bl (g i j),H,I,rfl,q⟩
def Ge (i j:Int):Prop:=0<j/\j<1073741824
def BJ (i j:Int):Prop:=(-(2 ^ 64)<i/\i<2 ^ 64)∨(-(2 ^ 64)<j/\j<2 ^ 64)
theorem BJ.ok {i j:Int}(h:BJ i j):IntMulOk i j:=by
 rcases h with ⟨h1,h2⟩|⟨h1,h2⟩
 ·exact .of_left (intBits_le_64 h1 h2)
 ·exact .of_right (intBits_le_64 h1 h2)
theorem vB (k:Nat):(0:Int)<=2 ^ k:=by
 rw[two_pow_cast]
 exact Int.natCast_nonneg _
theorem Ev:OpR X (binaryOp .Add) (rI0 λi j=>.int (i+j)):=Et λ_ _ _ _ _ _ _ q=>add_int q
theorem Ew:OpR X (binaryOp .Sub) (rI0 λi j=>.int (i - j)):=Et λ_ _ _ _ _ _ _ q=>sub_int q
theorem Ex:OpR X (binaryOp .Mult) (rI BJ λi j=>.int (i*j)):=opI λ_ _ _ _ _ _ _ hc q=>mul_int q hc.ok
theorem BK:OpR X (binaryOp .FloorDiv) (rI Ge λi j=>.int (i / j)):=opI λi j _ _ _ _ _ hc q=>by
 have h1:(0:Int)<j:=hc.1
 have h2:j<1073741824:=hc.2
 exact floordiv_int (by omega) (by rw[Int.fdiv_eq_ediv_of_nonneg i (by omega)];exact q) (.inl (PyProof.noPylong_small (by omega)))
theorem Ey:OpR X (binaryOp .Mod) (rI (λ_ j=>0<j) λi j=>.int (i % j)):=opI λi j _ _ _ _ _ hc q=>by
 have h1:(0:Int)<j:=hc
 exact mod_int' (by omega) (by rw[Int.fmod_eq_emod_of_nonneg i (by omega)];exact q)
theorem Ez:OpR X (binaryOp .RShift) (rI (λ_ j=>0<=j) λi j=>.int (i / 2 ^ j.toNat)):=opI λi j _ _ _ _ _ hc q =>
 rshift_int hc (by rw[Int.fdiv_eq_ediv_of_nonneg i (vB _)];exact q)
theorem E1:OpR X (binaryOp .BitAnd) (rI0 λi j=>.int (Builtin.bitAnd i j)):=Et λ_ _ _ _ _ _ _ q=>and_int q
theorem unI {f:Value->Sem Value}{g:Int->Int}
  (rule:∀(i:Int) (t:Tok) (s:Shared) (Q:Value->Shared->Prop) (E:Value->Shared->Prop),Q (.int (g i) s.toks) { s with toks:=s.toks+1 }->wpAny (model X.prog X.w) X.A (f (.int i t)) Q E s) :
  UnR X f (rU λi=>.int (g i)):=by
 intro pins s σ H x v Q I rx h
 obtain⟨i,rfl,q⟩:=h
 obtain⟨t,rfl⟩:=rx
 exact rule i t s _ _ ⟨.int (g i),H,I.tok _,⟨_,rfl⟩,q⟩
theorem E2:UnR X (unaryOp .USub) (rU λi=>.int (-i)):=unI λ_ _ _ _ _ q=>neg_int q
theorem y7:OpR X (binaryOp .Add) (λx y H Q=>∃i k,x=.int i/\y=.bl k/\Q (.int (i+b2i k)) H):=by
 intro pins s σ H x y v u Q I rx ry h
 obtain⟨i,k,rfl,rfl,q⟩:=h
 obtain⟨t,rfl⟩:=rx
 cases ry
 exact add_int_bool ⟨.int (i+b2i k),H,I.tok _,⟨_,rfl⟩,q⟩
end
section
variable {X:Cx}{a b c:Expr}{ta tb tc:TE}{pos:Pos}
theorem Gf:OpR X (compareOp .Lt) (rI0 λi j=>.bl (decide (i<j))):=Eu λ_ _ _ _ _ _ _ q=>lt_int q
theorem Gg:OpR X (compareOp .LtE) (rI0 λi j=>.bl (decide (i<=j))):=Eu λ_ _ _ _ _ _ _ q=>le_int q
theorem Gh:OpR X (compareOp .Gt) (rI0 λi j=>.bl (decide (j<i))):=Eu λ_ _ _ _ _ _ _ q=>gt_int q
theorem OpR.or {f:Value->Value->Sem Value}{r r':R2}(h:OpR X f r) (h':OpR X f r'):OpR X f (λx y H Q=>r x y H Q∨r' x y H Q):=by
 intro pins s σ H x y v u Q I rx ry q
 rcases q with q|q
 ·exact h pins s σ H x y v u Q I rx ry q
 ·exact h' pins s σ H x y v u Q I rx ry q
theorem Hq (b:Expr) {op:CmpOp}(h:op≠.In:=by decide) (h2:op≠.NotIn:=by decide):behindInMarks op b=false:=by
 have e1:(op == CmpOp.In)=false:=by cases op<;>first|rfl|exact absurd rfl h
 have e2:(op == CmpOp.NotIn)=false:=by cases op<;>first|rfl|exact absurd rfl h2
 cases b<;>simp[behindInMarks,e1,e2]
theorem BL {op:CmpOp}{r:R2}(ho:OpR X (compareOp op) r) (ha:PE X a ta) (hb:PE X b tb) (hm:behindInMarks op b=false):PE X (.Compare a [op] [b] pos) (tOp r ta tb):=by
 intro pins s σ H Q I h
 exact wpAny_Compare1 (Es ha hb I h λv u s2 x y H2 I2 rx ry q=>ho pins s2 σ H2 x y v u Q I2 rx ry q) hm
def Gi (t:TE):TT:=λσ H Q=>t σ H λx H'=>∃k,x=.bl k/\Q k H'
theorem BM {op:CmpOp}{r:R2}(ho:OpR X (compareOp op) r) (ha:PE X a ta) (hb:PE X b tb) (hm:behindInMarks op b=false):PT X (.Compare a [op] [b] pos) (Gi (tOp r ta tb)):=by
 intro pins s σ H Q I h
 refine wpAny_isTrue_Compare1 (thn (ha pins s σ H _ I h) λv s1 ⟨x,H1,I1,r1,q1⟩=>thn (hb pins s1 σ H1 _ I1 q1) λu s2 ⟨y,H2,I2,r2,q2⟩ =>
  thn (ho pins s2 σ H2 x y v u _ I2 r1 r2 q2) λc s3 ⟨z,H3,I3,r3,k,e,q3⟩=>?_) hm
 subst e
 cases r3
 exact wpAny_truthy_bool ⟨H3,I3,q3⟩
def zC (r r':R2) (ta tb tc:TE):TE:=λσ H Q=>ta σ H λx H1=>tb σ H1 λy H2=>r x y H2 λz H3=>∃k,z=.bl k /\
 (if k=true then tc σ H3 λw' H4=>r' y w' H4 Q else Q (.bl false) H3)
theorem zD {op op':CmpOp}{r r':R2}(ho:OpR X (compareOp op) r) (ho':OpR X (compareOp op') r') (ha:PE X a ta) (hb:PE X b tb) (hc:PE X c tc)
  (hm:lastMarks [op,op'] [b,c]=false:=by with_unfolding_all rfl):PE X (.Compare a [op,op'] [b,c] pos) (zC r r' ta tb tc):=by
 intro pins s σ H Q I h
 refine Compare_chain (thn (ha pins s σ H _ I h) λv s1 ⟨x,H1,I1,r1,q1⟩=>chain_link (thn (hb pins s1 σ H1 _ I1 q1) λu s2 ⟨y,H2,I2,r2,q2⟩ =>
  thn (ho pins s2 σ H2 x y v u _ I2 r1 r2 q2) λd s3 ⟨z,H3,I3,r3,k,e,q3⟩=>?_)) hm
 subst e
 cases r3
 refine wpAny_truthy_bool ?_
 cases k with
 | false=>exact ite_ff ⟨.bl false,H3,I3,rfl,q3⟩
 | true=>exact ite_tt (chain_last (thn (hc pins s3 σ H3 _ I3 q3) λw' s4 ⟨z',H4,I4,r4,q4⟩=>ho' pins s4 σ H4 y z' u w' Q I4 r2 r4 q4))
theorem kW:(sizeLine:Nat)<2 ^ 63:=by rw[sizeLine_eq];decide
theorem vC:OpR X (binaryOp .Add) (λx y H Q=>∃i j,x=.str i/\y=.str j/\i.length+j.length<=sizeLine/\Q (.str (i++j)) H):=by
 intro pins s σ H x y v u Q I rx ry h
 obtain⟨i,j,rfl,rfl,hz,q⟩:=h
 obtain⟨t,rfl⟩:=rx
 obtain⟨t',rfl⟩:=ry
 exact add_str (λt' tk=>⟨.str (i++j),H,I.tok _,⟨_,rfl⟩,q⟩) hz
theorem fD {x:V}{us:List Value}(r:aX [x] us):∃u,us=[u]/\aT x u:=by
 cases r with
 | cons r1 r2=>cases r2;exact⟨_,rfl,r1⟩
theorem zE {x y:V}{us:List Value}(r:aX [x,y] us):∃u w',us=[u,w']/\aT x u/\aT y w':=by
 cases r with
 | cons r1 r2 =>
  cases r2 with
  | cons r3 r4=>cases r4;exact⟨_,_,rfl,r1,r3⟩
theorem y8 (hc:X.calm=true):bI X (.builtin "max") (λxs H Q=>∃i j,xs=[.int i,.int j]/\Q (.int (if j > i then j else i)) H):=by
 intro pins s σ H xs us Q I r h
 obtain⟨i,j,rfl,q⟩:=h
 obtain⟨u,w',rfl,⟨t,rfl⟩,⟨t',rfl⟩⟩:=zE r
 refine max_two_ints (I.ok.hd hc) λh' tk k=>⟨_,H,I.kept k, ?_,q⟩
 by_cases hj:j > i
 ·rw[if_pos hj,if_pos hj];exact⟨_,rfl⟩
 ·rw[if_neg hj,if_neg hj];exact⟨_,rfl⟩
theorem y9 (hc:X.calm=true):bI X (.builtin "min") (λxs H Q=>∃i j,xs=[.int i,.int j]/\Q (.int (if j<i then j else i)) H):=by
 intro pins s σ H xs us Q I r h
 obtain⟨i,j,rfl,q⟩:=h
 obtain⟨u,w',rfl,⟨t,rfl⟩,⟨t',rfl⟩⟩:=zE r
 refine min_two_ints (I.ok.hd hc) λh' tk k=>⟨_,H,I.kept k, ?_,q⟩
 by_cases hj:j<i
 ·rw[if_pos hj,if_pos hj];exact⟨_,rfl⟩
 ·rw[if_neg hj,if_neg hj];exact⟨_,rfl⟩
theorem yA:bI X (.type "int") (λxs H Q=>(∃i,xs=[.int i]/\Q (.int i) H) ∨ ∃k,xs=[.bl k]/\Q (.int (if k then 1 else 0)) H):=by
 intro pins s σ H xs us Q I r h
 rcases h with ⟨i,rfl,q⟩|⟨k,rfl,q⟩
 ·obtain⟨u,rfl,t,rfl⟩:=fD r
  exact call_int_int ⟨.int i,H,I,⟨_,rfl⟩,q⟩
 ·obtain⟨u,rfl,r1⟩:=fD r
  cases r1
  exact call_int_bool ⟨.int (if k then 1 else 0),H,I.tok _,⟨_,rfl⟩,q⟩
end
structure ObjM (h:Heap) (x dx C:Addr) (mA:Str->Option Value):Prop where
 obj:h.get? x=some (PySem.W.instObj C dx)
 ns:h.Ns1 dx mA
 ne:dx≠x
theorem yB {h:Heap}{dx:Addr}{mA:Str->Option Value}(n:h.Ns1 dx mA):∃od,h.get? dx=some od/\∀name,PySem.W.lookIn name od=some (mA name):=by
 obtain⟨o,es,ep,ho,hd,hk,_,hm⟩:=n
 refine⟨o,ho,λname=>?_⟩
 have e:=hm name
 unfold nsFind findBy at e
 rw[←Array.find?_toList]at e
 unfold PySem.W.lookIn
 rw[hd]
 dsimp only
 split
 ·rename_i y q
  rw[q]at e
  exact congrArg some e
 ·rename_i q
  rw[q]at e
  have a:es.toList.any (·.refKey)=false:=by
   rw[List.any_eq_false]
   intro y hy
   obtain⟨z,t,hkey⟩:=hk y (Array.mem_toList_iff.mp hy)
   simp[DictEntry.refKey,hkey]
  have a':¬es.toList.any (·.refKey)=true:=by rw[a];exact Bool.false_ne_true
  rw[if_neg a']
  exact congrArg some e
theorem ObjM.look {h:Heap}{x dx C:Addr}{mA:Str->Option Value}(I:ObjM h x dx C mA):∃od,PySem.W.InstAt h x (PySem.W.instObj C dx) C (some od)/\∀name,PySem.W.lookIn name od=some (mA name) :=
 let ⟨od,ho,hl⟩:=yB I.ns
 ⟨od,⟨I.obj,rfl,rfl,ho⟩,hl⟩
section
variable {prog:Program}{w:World}{A:Around}{E:Value->Shared->Prop}{s:Shared}{K:PySem.W.Frag}{x dx C f:Addr}{mA:Str->Option Value}{name:Str}{v:Value}
theorem zF {pl:Sem Bool}{Q:Value×List Value->Shared->Prop}(X:K.In s.heap) (I:ObjM s.heap x dx C mA) (hg:PySem.W.plainGet K C name=true)
  (hf:PySem.W.findIn K (.ref C) name=some (some (.ref f))) (ht:PySem.W.isFn K (.ref f)=true) (hv:mA name=none) (h:Q (.ref f,[.ref x]) s) :
  wpAny (model prog w) A (getMethod (.ref x) name pl) Q E s:=by
 obtain⟨od,J,hl⟩:=I.look
 exact PySem.W.method_fn X J (PySem.W.plainGet_of hg).1 (PySem.W.plainGet_of hg).2 hf (beq_iff_eq.mp ht) (by show(PySem.W.lookIn name od).map (·.isSome)=some false;rw[hl,hv];rfl) h
theorem Gj {R:Result->Shared->Prop}{vs:List Value}{kw:List (Str×Value)}(X:K.In s.heap) (hm:PySem.W.makesIn K C=true)
  (hi:PySem.W.findIn K (.ref C) "__init__" = some (some (.ref f))) (hf:PySem.W.typeIn K (.ref f)=some (.type "function"))
  (h:codeAny (model prog w) (A.under (.builtin "type.__call__" ⟨.ref C::vs,kw⟩)) (.call (.ref f) ⟨.ref (s.heap.objs.size+1)::vs,kw⟩) (PySem.W.InitBack (s.heap.objs.size+1) R)
   { s with heap:=(s.heap.push PySem.W.emptyDict).push (PySem.W.instObj C s.heap.objs.size) }) :
  codeAny (model prog w) A (.call (.ref C) ⟨vs,kw⟩) R s:=by
 obtain⟨hh,g,d,t,os⟩:=s
 exact PySem.W.make_core (PySem.W.makes_of X hm) (PySem.W.looks_findIn X hi) (λself=>PySem.W.bind_fn X self hf) (.inl rfl) h
end
theorem mv.none_of {o:Option Value}(r:mv none o):o=none:=by
 cases o with
 | none=>rfl
 | some u=>exact(show False from r).elim
section
variable {P:Program}{w:World}{H H':Hp}{h h':Heap}{a C dx:Addr}{fs fs':List (Str×V)}
theorem wU (hok:HOk P w H h) (e:H a=some (.ins C dx fs)):∃mA,ObjM h a dx C mA/\(∀f,mv (fs.lookup f) (mA f))/\PySem.Within mA (fs.map (·.1))/\fs.length<=1000/\H dx=some (.own a):=by
 obtain⟨d,z,ne,ob,mA,n,r,q⟩:=(show bH P w H h a (.ins C dx fs)from hok a _ e)
 exact⟨mA,⟨ob,n,ne⟩,r,q,z,d⟩
end
structure Cls (K:PySem.W.Frag) (C:Addr):Prop where
 pg:PySem.W.plainGet K C Str.empty=true
 hd:PySem.W.hasDictIn K C=true
 po:PySem.W.plainOver K C=true
 sa:PySem.W.findIn K (.ref C) "__setattr__" = some (some (.builtin "object.__setattr__"))
theorem Cls.get {K:PySem.W.Frag}{C:Addr}(c:Cls K C) (f:Str):PySem.W.plainGet K C f=true:=c.pg
def E3 (K:PySem.W.Frag) (C:Addr) (f:Str):Prop:=PySem.W.findIn K (.ref C) f=some none
structure Meth (K:PySem.W.Frag) (C:Addr) (m:Str) (f:Addr):Prop where
 at_:PySem.W.findIn K (.ref C) m=some (some (.ref f))
 fn:PySem.W.isFn K (.ref f)=true
 kp:PySem.W.keepIn K (.ref f)=true
section
variable {X:Cx}{pins:List (Addr×Obj)}{σ:St}{H:Hp}{s:Shared}{a C dx:Addr}{fs:List (Str×V)}{f:Str}{v:V}{A:Around}{E:Value->Shared->Prop}
theorem vD {m:Str}{g:Addr}{pl:Sem Bool}{Q:Value×List Value->Shared->Prop}(I:Inv X pins σ H s) (e:H a=some (.ins C dx fs)) (c:Cls X.K C) (k:Meth X.K C m g) (l:fs.lookup m=none)
  (h:Q (.ref g,[.ref a]) s):wpAny (model X.prog X.w) A (getMethod (.ref a) m pl) Q E s:=by
 obtain⟨mA,O,r,_,_,_⟩:=wU I.hok e
 have hn:mA m=none:=mv.none_of (by rw[←l];exact r m)
 exact zF I.kIn O (c.get m) k.at_ k.fn hn h
theorem Inv.made (I:Inv X pins σ H s):Inv X pins σ (upd (upd H s.heap.objs.size (.own (s.heap.objs.size+1))) (s.heap.objs.size+1) (.ins C s.heap.objs.size []))
  { s with heap:=(s.heap.push PySem.W.emptyDict).push (PySem.W.instObj C s.heap.objs.size) }:=by
 have e1:(s.heap.push PySem.W.emptyDict).get? s.heap.objs.size=some PySem.W.emptyDict:=Heap.get?_push_size s.heap rfl
 have e2:((s.heap.push PySem.W.emptyDict).push (PySem.W.instObj C s.heap.objs.size)).get? (s.heap.objs.size+1)=some (PySem.W.instObj C s.heap.objs.size):=by
  have:=Heap.get?_push_size (s.heap.push PySem.W.emptyDict) (o:=PySem.W.instObj C s.heap.objs.size) rfl
  rwa [Heap.size_push]at this
 have e3:(s.heap.push PySem.W.emptyDict).Ns s.heap.objs.size (λ_=>none):=⟨PySem.W.emptyDict,#[],_,e1,rfl,(λe he=>absurd he (by simp)),λ_=>rfl⟩
 have I1:=I.laid (a:=s.heap.objs.size) (o:=.own (s.heap.objs.size+1)) (h':=s.heap.push PySem.W.emptyDict) (t':=s.toks) (λb u q=>Heap.get?_push_of_some _ q) (Nat.le_refl _) ⟨_,e1⟩
 refine I1.laid (a:=s.heap.objs.size+1) (o:=.ins C s.heap.objs.size []) (t':=s.toks) (λb u q=>Heap.get?_push_of_some _ q) (Nat.le_of_eq (Heap.size_push _ _)) ?_
 have ne:s.heap.objs.size≠s.heap.objs.size+1:=Nat.ne_of_lt (Nat.lt_succ_self _)
 refine⟨by rw[aL ne,aJ],Nat.zero_le _,ne,e2,λ_=>none,(Heap.Ns1.of_empty e3).at λo q=>Heap.get?_push_of_some _ q,λ_=>True.intro,λy hy=>absurd rfl hy⟩
end
def HZ (K:PySem.W.Frag) (ta:TE) (f:Str):TE:=λσ H Q=>ta σ H λx H1=>∃a C dx fs v,x=.ref a/\H1 a=some (.ins C dx fs)/\Cls K C/\E3 K C f/\fs.lookup f=some v/\Q v H1
section
variable {X:Cx}{o e value:Expr}{f:Str}{pos pos' tpos:Pos}{ta tv:TE}
theorem Dn {pl:Sem Bool}{m:Str}{apos:Pos}{args:List Expr}{pins:List (Addr×Obj)}{s:Shared}{σ:St}{H:Hp}{Q:Value->Shared->Prop}{te:TE}(he:PE X e te) (I:Inv X pins σ H s)
  (h:te σ H λx H1=>∃a C dx fs g,x=.ref a/\H1 a=some (.ins C dx fs)/\Cls X.K C/\Meth X.K C m g/\fs.lookup m=none /\
   ∀s1,Inv X pins σ H1 s1->wpAny (model X.prog X.w) X.A (callWith pos (.ref g) [.ref a] (backTo pos (starEach args X.env)) (backToKw pos (keywordEach [] X.env))) Q X.xe s1)
  (ht:eval (.Call (.Attribute e m apos) args [] pos) X.env=(do
   let ov ←eval e X.env
   standAt apos.atName
   let (f,first) ←holding [ov] (getMethod ov m pl)
   callWith pos f first (backTo pos (starEach args X.env)) (backToKw pos (keywordEach [] X.env)))) :
  wpAny (model X.prog X.w) X.A (eval (.Call (.Attribute e m apos) args [] pos) X.env) Q X.xe s:=by
 refine PySem.W.methodCall_KW (pl:=pl) (thn (he pins s σ H _ I h) λu s1 ⟨x,H1,I1,rx,a,C,dx,fs,g,ex,ea,c,k,l,q⟩=>?_) ht
 subst ex
 obtain rfl:u=Value.ref a:=rx
 exact vD I1 ea c k l (q s1 I1)
end
section
variable {X:Cx}{pins:List (Addr×Obj)}{σ:St}{H:Hp}{s:Shared}{A:Around}{E:Value->Shared->Prop}{Q:Value->Shared->Prop}{c:Value}{b:Bool}
inductive TyOf (K:PySem.W.Frag) (H:Hp):V->Value->Prop where
 | non:TyOf K H .non (.type "NoneType")
 | bl (x:Bool):TyOf K H (.bl x) (.type "bool")
 | int (i:Int):TyOf K H (.int i) (.type "int")
 | str (x:Str):TyOf K H (.str x) (.type "str")
 | flt (x:UInt64):TyOf K H (.flt x) (.type "float")
 | lst {a:Addr}{xs:List V}(e:H a=some (.lst xs)):TyOf K H (.ref a) (.type "list")
 | frz {a:Addr}{o:Obj}{xs:List V}(e:H a=some (.frz o (.lst xs))):TyOf K H (.ref a) (.type "list")
 | tup {a:Addr}{xs:List V}(e:H a=some (.tup xs)):TyOf K H (.ref a) (.type "tuple")
 | dK {a:Addr}{kvs:List (Key×V)}{ob:Obj}(e:H a=some (.dK kvs ob)):TyOf K H (.ref a) (.type "dict")
 | dT {a:Addr}{kvs:List (List Key×V)}(e:H a=some (.dT kvs)):TyOf K H (.ref a) (.type "dict")
 | ins {a C dx:Addr}{fs:List (Str×V)}(e:H a=some (.ins C dx fs)) (cl:Cls K C) (ha:PySem.W.findIn K (.ref C) "__class__" = some (some (.builtin "object.__class__")))
   (hn:PySem.W.specialIn K (.builtin "object.__class__") "__get__" = some (some (.builtin "getset_descriptor.__get__"))) (htk:PySem.W.takesIn K (.builtin "object.__class__")=some true)
   (hm:PySem.W.mroIn K C (.type "object")=some true):TyOf K H (.ref a) (.ref C)
theorem eU {x:V}{u t:Value}(I:Inv X pins σ H s) (rx:aT x u) (ty:TyOf X.K H x t) (e:PySem.W.kitOne X.K t c=some b) (h:∀tk,Q (.bool b) { s with toks:=tk }) :
  wpAny (model X.prog X.w) A (call (.builtin "isinstance") [u,c]) Q E s:=by
 cases ty with
 | non=>cases (show u=Value.none from rx);exact PySem.W.kia_one PySem.W.kitx_none I.kIn True.intro e (λz=>nomatch z) h
 | bl y=>cases (show u=Value.bool y from rx);exact PySem.W.kia_one PySem.W.kitx_bool I.kIn True.intro e (λz=>nomatch z) h
 | int i=>obtain⟨t,q⟩:=(show ∃t,u=Value.int i t from rx);cases q;exact PySem.W.kia_one PySem.W.kitx_int I.kIn True.intro e (λz=>nomatch z) h
 | str y=>obtain⟨t,q⟩:=(show ∃t,u=Value.str y t from rx);cases q;exact PySem.W.kia_one PySem.W.kitx_str I.kIn True.intro e (λz=>nomatch z) h
 | flt y=>obtain⟨t,q⟩:=(show ∃t,u=Value.float y t from rx);cases q;exact PySem.W.kia_one PySem.W.kitx_float I.kIn True.intro e (λz=>nomatch z) h
 | @lst a xs ea =>
  cases (show u=Value.ref a from rx)
  obtain⟨_,_,n,_,h1⟩:=(show bH X.prog X.w H s.heap a (.lst xs)from I.hok a _ ea)
  exact PySem.W.kia_one PySem.W.kitx_list I.kIn ⟨_,h1,rfl⟩ e (λz=>nomatch z) h
 | @frz a ob xs ea =>
  cases (show u=Value.ref a from rx)
  obtain⟨_,_,_,n,_,h1⟩:=(show bH X.prog X.w H s.heap a (.frz ob (.lst xs))from I.hok a _ ea)
  exact PySem.W.kia_one PySem.W.kitx_list I.kIn ⟨_,h1,rfl⟩ e (λz=>nomatch z) h
 | @tup a xs ea =>
  cases (show u=Value.ref a from rx)
  obtain⟨_,_,_,p⟩:=(show bH X.prog X.w H s.heap a (.tup xs)from I.hok a _ ea)
  obtain⟨o,h1,h2,_⟩:=p
  exact PySem.W.kia_one PySem.W.kitx_tuple I.kIn ⟨o,h1,h2⟩ e (λz=>nomatch z) h
 | @dK a kvs ob ea =>
  cases (show u=Value.ref a from rx)
  obtain⟨_,_,_,vs,_,p⟩:=(show bH X.prog X.w H s.heap a (.dK kvs ob)from I.hok a _ ea)
  obtain⟨o,es,ep,h1,h2,_⟩:=p
  exact PySem.W.kia_one PySem.W.kitx_dict I.kIn ⟨o,h1,h2.1⟩ e (λz=>nomatch z) h
 | @dT a kvs ea =>
  cases (show u=Value.ref a from rx)
  obtain⟨_,_,xs,_,o,es,ep,h1,h2,_⟩:=(show bH X.prog X.w H s.heap a (.dT kvs)from I.hok a _ ea)
  exact PySem.W.kia_one PySem.W.kitx_dict I.kIn ⟨o,h1,h2.1⟩ e (λz=>nomatch z) h
 | @ins a C dx fs ea cl ha hn htk hm =>
  cases (show u=Value.ref a from rx)
  obtain⟨mA,O,_⟩:=wU I.hok ea
  obtain⟨od,J,_⟩:=O.look
  exact PySem.W.kia_one (PySem.W.kitx_own (cl.get _) cl.hd ha hn htk hm) I.kIn J e (λz=>nomatch z) h
end
structure Room (k:Nat) (A:Around):Prop where
 hd:A.handled=none
 dp:A.depth+3*k+5<recursionLimit
 un:A.units+16*k+200<cLine
theorem Room.mono {j k:Nat}{A:Around}(r:Room k A) (h:j<=k):Room j A:=⟨r.hd,by have:=r.dp;omega,by have:=r.un;omega⟩
theorem Room.deeper {k:Nat}{A:Around}(r:Room (k+1) A) (env:Env):Room k (A.deeper env) :=
 ⟨r.hd,by have:=r.dp;show A.depth+1+3*k+5<_;omega,by have:=r.un;show A.units+3+16*k+200<_;omega⟩
theorem Room.in1 {k:Nat}{A:Around}(r:Room (k+1) A):Room k A.in1 :=
 ⟨r.hd,by have:=r.dp;show A.depth+3*k+5<_;omega,by have:=r.un;show A.units+1+16*k+200<_;omega⟩
theorem Room.depth {k:Nat}{A:Around}(r:Room k A):A.depth<recursionLimit:=by have:=r.dp;omega
def Gk:TA:=λ_ H Q=>Q [] H
def Do (ta:TE) (tr:TA):TA:=λσ H Q=>ta σ H λx H1=>tr σ H1 λxs H2=>Q (x::xs) H2
section
variable {X:Cx}{e:Expr}{es:List Expr}{te:TE}{t:TA}{pos:Pos}
theorem hZ:PA X [] Gk:=λ_ _ _ _ H Q I h=>Calls.spliced_nil ⟨[],H,I,.nil,h⟩
theorem fE (ha:PE X e te) (hr:PA X es t) (hs:starEach (e::es) X.env=(false,eval e X.env)::starEach es X.env:=by rfl):PA X (e::es) (Do te t):=by
 intro pos pins s σ H Q I h
 rw[hs]
 show wpAny _ _ (spliced ((false,eval e X.env)::backTo pos (starEach es X.env))) _ _ s
 refine Calls.spliced_cons (thn (ha pins s σ H _ I h) λu s1 ⟨x,H1,I1,r1,q1⟩=>?_)
 exact thn (hr pos pins s1 σ H1 _ I1 q1) λus s2 ⟨xs,H2,I2,r2,q2⟩=>⟨x::xs,H2,I2,.cons r1 r2,q2⟩
def Gm (t:TA):TE:=λσ H Q=>t σ H λxs H1=>xs.length<=sizeLine/\∀p,H1 p=none->Q (.ref p) (upd H1 p (.tup xs))
def Hr (t:TA):TE:=λσ H Q=>t σ H λxs H1=>xs.length<=sizeLine/\∀p,H1 p=none->Q (.ref p) (upd H1 p (.lst xs))
theorem vE {x1} (h:PA X es t):PE X (.Tuple es x1 pos) (Gm t):=by
 intro pins s σ H Q I hq
 refine wpAny_Tuple_spliced (thn (h pos pins s σ H _ I hq) λus s1 ⟨xs,H1,I1,r,z,q⟩=>⟨by rw[←r.length];exact z, ?_⟩)
 have hf:H1 s1.heap.objs.size=none:=I1.hok.fresh (Nat.le_refl _)
 refine⟨.ref s1.heap.objs.size,upd H1 s1.heap.objs.size (.tup xs),I1.laid (t':=s1.toks) (λb u e=>Heap.get?_push_of_some _ e) (Nat.le_refl _) ?_,rfl,q _ hf⟩
 exact⟨z,us,r,⟨_,Heap.get?_push_size _ rfl,rfl,_,rfl⟩⟩
theorem E4 (h:PA X es t):PE X (.List es pos) (Hr t):=by
 intro pins s σ H Q I hq
 refine wpAny_List_spliced (thn (h pos pins s σ H _ I hq) λus s1 ⟨xs,H1,I1,r,z,q⟩=>⟨by rw[←r.length];exact z, ?_⟩)
 have hf:H1 s1.heap.objs.size=none:=I1.hok.fresh (Nat.le_refl _)
 refine⟨.ref s1.heap.objs.size,upd H1 s1.heap.objs.size (.lst xs),I1.laid (t':=s1.toks) (λb u e=>Heap.get?_push_of_some _ e) (Nat.le_refl _) ?_,rfl,q _ hf⟩
 exact⟨z,us,0,r,Heap.get?_push_size _ rfl⟩
end
abbrev Sp:=List V->Hp->VK->XK->Prop
abbrev CXT:=List Env->Hp->Shared->XK->Value->Shared->Prop
structure Env0 (P:Program) (w:World) (K:PySem.W.Frag) (mg:Str->Option Value) (base:Heap) (A:Around) (outer:List Env) (s:Shared) (H:Hp):Prop where
 frames:A.frames=some outer
 mod:Mod K mg base
 bs:∀b o,base.get? b=some o->s.heap.get? b=some o/\H b=none
 bsz:base.objs.size<=s.heap.objs.size
 funs:s.heap.FunFrames base outer
 frf:∀b∈frs outer,H b=none
 hok:HOk P w H s.heap
 bare:AllBare s.gens
def CE (outer:List Env) (P:Program) (w:World) (H:Hp) (s:Shared) (Q:VK) (u:Value) (s':Shared):Prop :=
 ∃v H',s'.os=s.os/\AllBare s'.gens/\Un (frs outer) [] H H' s.heap s'.heap/\HOk P w H' s'.heap/\aT v u/\Q v H'
def CR (CX:CXT) (outer:List Env) (P:Program) (w:World) (H:Hp) (s:Shared) (Q:VK) (E:XK) (r:Result) (s':Shared):Prop :=
 match r with
 | .ok (.ret u)=>CE outer P w H s Q u s'
 | .ok _=>False
 | .error e=>CX outer H s E e s'
structure FnOk (P:Program) (w:World) (K:PySem.W.Frag) (mg:Str->Option Value) (base:Heap) (CX:CXT) (k:Nat) (f:Addr) (fd:FuncData) (ps:List Str) (sp:Sp):Prop where
 len:∀vs H Q E,sp vs H Q E->vs.length=ps.length
 run:∀(A:Around) (outer:List Env) (s:Shared) (H:Hp) (args:Args) (us:List Value) (vs:List V) (Q:VK) (E:XK),Room k A->Env0 P w K mg base A outer s H->BindsTo s fd args (ps.zip us)->aX vs us->sp vs H Q E ->
  codeAny (model P w) A (.call (.ref f) args) (CR CX outer P w H s Q E) s
section
variable {X:Cx}{pins:List (Addr×Obj)}{σ:St}{H:Hp}{s s':Shared}
theorem Inv.env0 (I:Inv X pins σ H s):Env0 X.prog X.w X.K X.mg X.base X.A X.stack s H :=
 ⟨I.ok.frames,I.ok.mod,I.bs,Nat.le_trans I.ok.bsz I.sz,I.stack,I.stkFree,I.hok,I.bare⟩
theorem Inv.after {Q:VK}{u:Value}(I:Inv X pins σ H s) (h:CE X.stack X.prog X.w H s Q u s'):EP X pins σ Q u s':=by
 obtain⟨v,H',os,bare,un,hok,r,q⟩:=h
 obtain⟨hh,g,d,t,os'⟩:=s'
 obtain rfl:os'=s.os:=os
 exact⟨v,H',I.call (h':=hh) (g':=g) (d':=d) (t':=t) (ch:=[]) un hok bare (λb z=>absurd z (by simp)),r,q⟩
end
def Gn (sp:Sp) (dvs:List V) (E:XK) (t:TA):TE:=λσ H Q=>t σ H λvs H1=>sp (vs++dvs) H1 Q E
def HP (C:Addr) (m:Str) (sp:Sp) (dvs:List V) (E:XK) (ta:TE) (t:TA):TE:=λσ H Q=>ta σ H λx H1=>∃a dx fs,x=.ref a/\H1 a=some (.ins C dx fs)/\fs.lookup m=none /\
 t σ H1 λvs H2=>sp (x::(vs++dvs)) H2 Q E
def HQ (C:Addr) (sp:Sp) (dvs:List V) (E:XK) (t:TA):TE:=λσ H Q=>t σ H λvs H1=>∀x dx,H1 x=none->H1 dx=none->dx≠x ->
 sp (.ref x::(vs++dvs)) (upd (upd H1 dx (.own x)) x (.ins C dx [])) (λv H2=>v=.non/\Q (.ref x) H2) E
def pA (K:PySem.W.Frag) (fd:FuncData) (ps:List Str) (ds:List Value):Prop :=
 ∀(s:Shared) (us:List Value),K.In s.heap->(us++ds).length=ps.length->BindsTo s fd ⟨us,[]⟩ (ps.zip (us++ds))
theorem pA.all {K:PySem.W.Frag}{fd:FuncData}{ps:List Str}(h:∀us:List Value,us.length=ps.length->bindArgs fd ⟨us,[]⟩=pure (ps.zip us)):pA K fd ps []:=λs us _ hl=>by
 rw[List.append_nil]at hl ⊢
 exact .of_eq (h us hl)
def vF (CX:CXT) (X:Cx) (E:XK):Prop:=∀(pins:List (Addr×Obj)) (σ:St) (H:Hp) (s:Shared) (e:Value) (s':Shared),Inv X pins σ H s->CX X.stack H s E e s'->X.xe e s'
section
variable {X:Cx}{CX:CXT}{k:Nat}{f C:Addr}{fd:FuncData}{ps:List Str}{sp:Sp}{dvs:List V}{ds:List Value}{E:XK}{x m:Str}{p pos apos:Pos}{e o:Expr}{es:List Expr}{ta:TE}{t:TA}
theorem E5 {pins:List (Addr×Obj)}{σ:St}{H:Hp}{s:Shared}{Q:VK}{us:List Value}{vs:List V}(F:FnOk X.prog X.w X.K X.mg X.base CX k f fd ps sp) (hr:Room k X.A) (hb:pA X.K fd ps ds) (hd:aX dvs ds) (hx:vF CX X E)
  (I:Inv X pins σ H s) (r:aX vs us) (h:sp (vs++dvs) H Q E):wpAny (model X.prog X.w) X.A (call (.ref f) us) (EP X pins σ Q) X.xe s:=by
 have r2:aX (vs++dvs) (us++ds):=r.append hd
 have hl:(us++ds).length=ps.length:=by rw[←r2.length];exact F.len _ _ _ _ h
 refine wpAny_call (codeAny_mono (F.run X.A X.stack s H ⟨us,[]⟩ (us++ds) (vs++dvs) Q E hr I.env0 (hb s us I.kIn hl) r2 h) λr s' hq=>?_)
 cases r with
 | error e=>exact hx pins σ H s e s' I hq
 | ok fl =>
  cases fl with
  | ret u=>exact I.after hq
  | next=>exact False.elim hq
  | brk=>exact False.elim hq
  | cont=>exact False.elim hq
theorem BN (F:FnOk X.prog X.w X.K X.mg X.base CX k f fd ps sp) (hr:Room k X.A) (hg:Gl X x) (hm:X.mg x=some (.ref f)) (hk:PySem.W.keepIn X.K (.ref f)=true) (hb:pA X.K fd ps ds) (hd:aX dvs ds) (hx:vF CX X E)
  (ha:PA X (e::es) t) (hdb:(x == ("__debug__" : Str))=false:=by decide) (he:starEach (e::es) X.env=(false,eval e X.env)::starEach es X.env:=by rfl) (hpl:(backTo pos (starEach es X.env)).any (·.1)=false:=by rfl) :
  PE X (.Call (.Name x p) (e::es) [] pos) (Gn sp dvs E t):=by
 intro pins s σ H Q I h
 refine wpAny_Call_Name_kw (qO I hg hm ?_ hdb)
 refine PySem.W.callWith_K (h₀:=X.base) I.ok.mod.kin hk (thn (ha pos pins s σ H _ I h) λus s1 ⟨vs,H1,I1,r,q⟩=>⟨I1.kIn, ?_⟩) he hpl
 exact E5 F hr hb hd hx I1 r q
end
structure FnScope (N P:List Str) (sc:Scope):Prop where
 kind:sc.kind=.function
 co:sc.isCoroutine=false
 gen:sc.isGenerator=false
 nd:N.Nodup
 pre:N.take P.length=P
 par:∀x∈P,sc.names.lookup x=some .local∨sc.names.lookup x=some .cell
 nofree:∀y∈sc.names,y.2≠.free
theorem pB {kindOf:Str->Option NameKind}{x:Str}:∀ {binds:List (Str×Value)}{m:Str->Option Value},(∀v,(x,v)∉binds)->bindL kindOf binds m x=m x
 | [],_,_=>rfl
 | (n,v)::r,m,h=>by
  unfold bindL
  rw[pB λw hw=>h w (mZ _ hw)]
  split
  ·have:x≠n:=by rintro rfl;exact h v mX
   simp[this]
  ·rfl
theorem pC {kindOf:Str->Option NameKind}{x:Str}:∀ {binds:List (Str×Value)}{m:Str->Option Value},(∀v,(x,v)∉binds)->bindC kindOf binds m x=m x
 | [],_,_=>rfl
 | (n,v)::r,m,h=>by
  unfold bindC
  rw[pC λw hw=>h w (mZ _ hw)]
  split
  ·rfl
  ·have:x≠n:=by rintro rfl;exact h v mX
   simp[this]
theorem pD {kindOf:Str->Option NameKind}{x:Str}{v:Value}:∀ {P:List Str}{vs:List Value}{i:Nat}{m:Str->Option Value},P.Nodup->P[i]? = some x->vs[i]? = some v->kindOf x=some .local ->
  bindL kindOf (P.zip vs) m x=some v
 | [],_,_,_,_,h,_,_=>by simp at h
 | _::_,[],_,_,_,_,h,_=>by simp at h
 | p::P,w::vs,0,m,nd,h1,h2,hk=>by
  simp at h1 h2;subst h1;subst h2
  show bindL kindOf ((p,w)::P.zip vs) m p=_
  unfold bindL
  rw[pB λv hv=>(List.nodup_cons.mp nd).1 (List.of_mem_zip hv).1,if_pos hk]
  simp
 | p::P,w::vs,i+1,m,nd,h1,h2,hk=>by
  show bindL kindOf ((p,w)::P.zip vs) m x=_
  unfold bindL
  exact pD (i:=i) (List.nodup_cons.mp nd).2 (by simpa using h1) (by simpa using h2) hk
theorem pE {kindOf:Str->Option NameKind}{x:Str}{v:Value}:∀ {P:List Str}{vs:List Value}{i:Nat}{m:Str->Option Value},P.Nodup->P[i]? = some x->vs[i]? = some v->kindOf x≠some .local ->
  bindC kindOf (P.zip vs) m x=some v
 | [],_,_,_,_,h,_,_=>by simp at h
 | _::_,[],_,_,_,_,h,_=>by simp at h
 | p::P,w::vs,0,m,nd,h1,h2,hk=>by
  simp at h1 h2;subst h1;subst h2
  show bindC kindOf ((p,w)::P.zip vs) m p=_
  unfold bindC
  rw[pC λv hv=>(List.nodup_cons.mp nd).1 (List.of_mem_zip hv).1,if_neg hk]
  simp
 | p::P,w::vs,i+1,m,nd,h1,h2,hk=>by
  show bindC kindOf ((p,w)::P.zip vs) m x=_
  unfold bindC
  exact pE (i:=i) (List.nodup_cons.mp nd).2 (by simpa using h1) (by simpa using h2) hk
def gU (N:List Str) (vs:List V):St:=vs.map some++List.replicate (N.length - vs.length) none
def mH (CX:CXT) (P:Program) (w:World) (K:PySem.W.Frag) (mg:Str->Option Value) (base:Heap) (N:List Str) (qual:Str) (scope:Scope) (f:Addr) (cd:Value) (A:Around) (outer:List Env) (s:Shared) (H:Hp) (E:XK):Cx where
 prog:=P
 w:=w
 K:=K
 mg:=mg
 base:=base
 A:=A.deeper (envOfC qual scope s.heap.objs.size f cd)
 N:=N
 s₀:=s
 H₀:=H
 env:=envOfC qual scope s.heap.objs.size f cd
 outer:=outer
 stack:=envOfC qual scope s.heap.objs.size f cd::outer
 ex:=[]
 calm:=true
 fn:=λ_=>true
 pn:=[]
 xe:=λe s'=>wpAny (model P w) (A.deeper (envOfC qual scope s.heap.objs.size f cd)) (leaving (envOfC qual scope s.heap.objs.size f cd) e) (λ_ s''=>CX outer H s E e s'') (λe' s''=>CX outer H s E e' s'') s'
theorem sI {sc:Scope}{n:Nat}{x:Str}(h:sc.names.lookup x=some .cell):∃c,(cellsFrom n sc.names []).lookup x=some c:=by
 have q:=PySem.W.cellsFrom_some sc.names n [] (.inl h)
 exact Option.isSome_iff_exists.mp q
theorem yC {CX:CXT}{P:Program}{w:World}{K:PySem.W.Frag}{mg:Str->Option Value}{base:Heap}{N ps:List Str}{qual:Str}{scope:Scope}{f:Addr}{cd:Value}{A:Around}{outer:List Env}{s s1:Shared}{H:Hp}{E:XK}{us:List Value}{vs:List V}
  (S:FnScope N ps scope) (hd:A.handled=none) (e0:Env0 P w K mg base A outer s H) (hl:vs.length=ps.length) (r:aX vs us)
  (x:InCallC s s.heap.objs.size (bindL (envOfC qual scope s.heap.objs.size f cd).kindOf (ps.zip us) λ_=>none) (cellsFrom (s.heap.objs.size+1) scope.names []) (bindC (envOfC qual scope s.heap.objs.size f cd).kindOf (ps.zip us) λ_=>none) s1) :
  Inv (mH CX P w K mg base N qual scope f cd A outer s H E) [] (gU N vs) H s1:=by
 have hpl:ps.length<=N.length:=by have:=congrArg List.length S.pre;rw[List.length_take]at this;omega
 obtain⟨h1,tk,rfl,hk⟩:=x.done
 have noA:∀b:Addr,b∉(mH CX P w K mg base N qual scope f cd A outer s H E).ex:=λb z=>absurd (show b∈([]:List Addr)from z) (by simp)
 refine⟨⟨e0.mod,S.kind,rfl,rfl,Nat.le_refl _,λy z c h1 h2=>?_,λy hy=>?_,λy c _ h=>?_,λ_=>hd,Around.frames_deeper e0.frames,.inr ⟨rfl,rfl⟩,λb z=>absurd z (noA b),e0.bs,e0.bsz,λb _ _=>noA b,λb z=>absurd z (noA b),e0.funs,e0.frf⟩,
  rfl,e0.bare,Un.kept hk,⟨_,x.toInCall.ns,λi y v h1 h2 h3=>?_⟩,λy c h=>⟨_,x.cell y c h⟩,e0.hok.fresh (Nat.le_refl _),λy c h=>?_,λp hp=>absurd (show p∈([]:List (Addr×Obj))from hp) (by simp),e0.hok.kept hk, ?_⟩
 ·exact name_of_addr x.apart (PySem.mem_of_lookup h1) (PySem.mem_of_lookup h2)
 ·have hy:scope.names.lookup y=some .cell∨scope.names.lookup y=some .free:=hy
  rcases hy with hy|hy
  ·exact sI hy
  ·exact absurd rfl (S.nofree _ (PySem.mem_of_lookup hy))
 ·exact Nat.le_of_lt (x.above y c (PySem.mem_of_lookup h))
 ·have hi:i<vs.length:=by
   unfold gU at h2
   by_cases hi:i<vs.length
   ·exact hi
   ·rw[List.getElem?_append_right (by simpa using hi)]at h2
    rw[List.getElem?_replicate]at h2
    split at h2<;>cases h2
  have ha:vs[i]? = some v:=by
   unfold gU at h2
   rw[List.getElem?_append_left (by simpa using hi),List.getElem?_map]at h2
   cases e:vs[i]? with
   | none=>rw[e]at h2;cases h2
   | some a=>rw[e]at h2;cases h2;rfl
  obtain⟨u,hu,rv⟩:=r.get ha
  have hp:ps[i]? = some y:=by
   rw[←S.pre,List.getElem?_take_of_lt (by omega)];exact h1
  have ndP:ps.Nodup:=by rw[←S.pre];exact S.nd.sublist (List.take_sublist _ _)
  refine⟨u,rv, ?_⟩
  rcases S.par y (List.mem_of_getElem? hp)with k|k
  ·exact .inl ⟨k,pD ndP hp hu k⟩
  ·obtain⟨c,e⟩:=sI (n:=s.heap.objs.size+1) k
   refine .inr ⟨.inl k,c,e, ?_⟩
   have q:=x.cell y c e
   rw[pE ndP hp hu (by show scope.names.lookup y≠_;rw[k];decide)]at q
   exact q
 ·exact e0.hok.fresh (Nat.le_of_lt (x.above y c (PySem.mem_of_lookup h)))
 ·unfold gU
  show _=N.length
  rw[List.length_append,List.length_map,List.length_replicate]
  omega
theorem Dp {CX:CXT}{P:Program}{w:World}{K:PySem.W.Frag}{mg:Str->Option Value}{base:Heap}{k:Nat}{f:Addr}{name qual:Str}{params:Arguments}{body:List Stmt}{scope:Scope}{dV kV doc pm cdv ct oc:Value}{an od:Option Addr}
  {osl:Array (Option Value)}{N ps:List Str}{sp:Sp}(lk:K.lookup f=some ⟨oc,od,.func (PySem.W.fnOf name qual params body scope dV kV doc pm an cdv ct),osl⟩) (hcd:PySem.W.codeIn K cdv qual=true) (S:FnScope N ps scope)
  (len:∀vs H Q E,sp vs H Q E->vs.length=ps.length)
  (hbody:∀(A:Around) (outer:List Env) (s:Shared) (H:Hp) (vs:List V) (Q:VK) (E:XK),Room k (A.deeper (envOfC qual scope s.heap.objs.size f cdv))->sp vs H Q E ->
   ∃t,PSs (mH CX P w K mg base N qual scope f cdv A outer s H E) body t/\t { nx:=λ_ H'=>Q .non H',rt:=Q } (gU N vs) H) :
  FnOk P w K mg base CX (k+1) f (PySem.W.fnOf name qual params body scope dV kV doc pm an cdv ct) ps sp:=by
 refine⟨len,λA outer s H args us vs Q E hr e0 hb r hsp=>?_⟩
 have hl:=len _ _ _ _ hsp
 have KX:K.In s.heap:=e0.mod.kin.keeps λb o e=>(e0.bs b o e).1
 have lim:s.heap.NoLimit:=e0.mod.nolimit.keeps λb o e=>(e0.bs b o e).1
 have hkind:∀y∈ps.zip us,scope.names.lookup y.1=some .local∨(scope.names.lookup y.1=some .cell/\((cellsFrom (s.heap.objs.size+1) scope.names []).lookup y.1).isSome=true):=λ⟨n,v⟩ hy=>by
  rcases S.par n (List.of_mem_zip hy).1 with q|q
  ·exact .inl q
  ·exact .inr ⟨q,PySem.W.cellsFrom_some _ _ _ (.inl q)⟩
 refine codeAny_call_function hr.depth (KX _ _ lk) rfl S.co S.gen rfl (PySem.W.codeRec_of KX hcd) (hb _ _ _ _ ?_)
 refine wpAny_newFunctionEnv_cells S.kind hkind λenv he s1 x=>?_
 subst he
 refine⟨lim.keeps x.toInCall.keep,codeAny_func ?_⟩
 obtain⟨t,ht,hq⟩:=hbody A outer s H vs Q E (hr.deeper _) hsp
 have I:Inv (mH CX P w K mg base N qual scope f cdv A outer s H E) [] (gU N vs) H s1:=yC S hr.hd e0 hl r x
 refine wpAny_mono (ht [] s1 (gU N vs) H _ I hq) (λfl s' hs=>?_) λe s' hs=>hs
 have fin:∀ {σ':St}{H':Hp}{v:V}{u:Value},Inv (mH CX P w K mg base N qual scope f cdv A outer s H E) [] σ' H' s'->aT v u->Q v H'->CE outer P w H s Q u s' :=
  λ{σ' H' v u} J rv q=>⟨v,H',J.os,J.bare,J.base,J.hok,rv,q⟩
 cases fl with
 | ret u =>
  obtain⟨v,σ',H',J,rv,q⟩:=hs
  exact fin J rv q
 | next =>
  obtain⟨σ',H',J,q⟩:=hs
  exact fin (v:=V.non) (u:=Value.none) J rfl q
 | brk =>
  obtain⟨_,_,_,q⟩:=hs
  exact False.elim q
 | cont =>
  obtain⟨_,_,_,q⟩:=hs
  exact False.elim q
section
variable {X:Cx}{x:Str}{p pos:Pos}{e:Expr}{es:List Expr}{t:TA}{id T:String}{r:List V->Hp->VK->Prop}
def tCB (r:List V->Hp->VK->Prop) (t:TA):TE:=λσ H Q=>t σ H λvs H1=>r vs H1 Q
theorem sJ (hc:bI X (.builtin id) r) (hg:Gl X x) (hm:X.mg x=none) (hv:bootBuiltins x=some (.builtin id)) (ha:PA X (e::es) t) (hn:x ≠ "__name__":=by decide) (hdb:(x == ("__debug__" : Str))=false:=by decide)
  (he:starEach (e::es) X.env=(false,eval e X.env)::starEach es X.env:=by rfl) (hpl:(backTo pos (starEach es X.env)).any (·.1)=false:=by rfl):PE X (.Call (.Name x p) (e::es) [] pos) (tCB r t):=by
 intro pins s σ H Q I h
 refine wpAny_Call_Name_kw (jk I hg hm hv ?_ hn hdb)
 exact PyProof.Rows.callWith_builtin1 (thn (ha pos pins s σ H _ I h) λus s1 ⟨vs,H1,I1,r1,q1⟩=>hc pins s1 σ H1 vs us Q I1 r1 q1) he hpl
theorem pF (hc:bI X (.type T) r) (hg:Gl X x) (hm:X.mg x=none) (hv:bootBuiltins x=some (.type T)) (ha:PA X (e::es) t) (hn:x ≠ "__name__":=by decide) (hdb:(x == ("__debug__" : Str))=false:=by decide)
  (he:starEach (e::es) X.env=(false,eval e X.env)::starEach es X.env:=by rfl) (hpl:(backTo pos (starEach es X.env)).any (·.1)=false:=by rfl):PE X (.Call (.Name x p) (e::es) [] pos) (tCB r t):=by
 intro pins s σ H Q I h
 refine wpAny_Call_Name_kw (jk I hg hm hv ?_ hn hdb)
 exact PyProof.Rows.callWith_type1 (thn (ha pos pins s σ H _ I h) λus s1 ⟨vs,H1,I1,r1,q1⟩=>hc pins s1 σ H1 vs us Q I1 r1 q1) he hpl
end
end L2
namespace HT
open PySem PyProof.Rows
section
open PySem.SeqAt
open PySem.AutoSeq1 (wpAny_loadPart')
open PySem.MeetsSeq PySem.MeetsSeq2 PySem.MeetsSeq3
end
section
variable {prog:Program}{w:World}{A:Around}{E:Value->Shared->Prop}{s:Shared}
theorem BO {t b:Addr}{vs ws:List Value}{Q:Value->Shared->Prop}(ht:IsTup s.heap t vs.toArray) (hb:IsTup s.heap b ws.toArray) (hv:vs≠[])
  (h1:ws=[]->Q (.ref t) s) (h2:ws≠[]->Q (.ref s.heap.objs.size) { s with heap:=s.heap.push { cls:=.type "tuple",data:=.seq (vs++ws).toArray } })
  (hsz:vs.length+ws.length<=sizeLine):wpAny (model prog w) A (binaryOp .Add (.ref t) (.ref b)) Q E s:=by
 obtain⟨⟨cls,dd,data,sl⟩,ho,hc,n,hd⟩:=id ht
 obtain⟨⟨cls2,dd2,data2,sl2⟩,ho2,hc2,n2,hd2⟩:=id hb
 simp only at hc hd hc2 hd2
 subst hc hd hc2 hd2
 have e:vs.toArray++ws.toArray=(vs++ws).toArray:=by simp
 by_cases hw:ws=[]
 ·exact concat_meets ⟨_,ho,rfl⟩ ⟨_,ho2,rfl⟩ noFill_tuple_add seq_tuple_add PySem.F.slot_tuple_add PySem.F.entry_tuple_add (PySem.F.args_tuple_add_2 _ _)
   (tuple_addW1 t b vs.toArray ws.toArray n n2 dd dd2 sl sl2 (by simpa using hv) (by simp[hw])) ⟨ho,ho2,h1 hw⟩
 ·refine concat_meets ⟨_,ho,rfl⟩ ⟨_,ho2,rfl⟩ noFill_tuple_add seq_tuple_add PySem.F.slot_tuple_add PySem.F.entry_tuple_add (PySem.F.args_tuple_add_2 _ _)
   (tuple_addW2 t b vs.toArray ws.toArray n n2 dd dd2 sl sl2 (by simpa using hv) (by simpa using hw) (by rw[List.size_toArray,List.size_toArray];exact hsz)) ⟨ho,ho2, ?_⟩
  rw[e]
  exact h2 hw
def sIx (n d:Nat):Option Int->Nat
 | none=>d
 | some v=>if v<0 then (v+(n:Int)).toNat else min v.toNat n
theorem E6 (n d:Nat) (hd:d<=n) (o:Option Int):sIx n d o<=n:=by
 cases o with
 | none=>exact hd
 | some v =>
  show(if v<0 then (v+(n:Int)).toNat else min v.toNat n)<=n
  by_cases hv:v<0
  ·rw[if_pos hv];omega
  ·rw[if_neg hv];exact Nat.min_le_right _ _
theorem wV (v:Int) (n d:Nat):(if v<0 then max (v+(n:Int)) 0 else min v (n:Int))=((sIx n d (some v):Nat):Int):=by
 show(if v<0 then max (v+(n:Int)) 0 else min v (n:Int))=(((if v<0 then (v+(n:Int)).toNat else min v.toNat n):Nat):Int)
 by_cases hv:v<0
 ·simp only[if_pos hv];omega
 ·simp only[if_neg hv];omega
theorem vG (lo hi:Option Int) (n:Nat):Builtin.Slice.sliceAdjust lo hi 1 (n:Int)=(((sIx n 0 lo:Nat):Int),((sIx n n hi:Nat):Int)):=by
 have h1:¬((1:Int)<0):=by omega
 unfold Builtin.Slice.sliceAdjust
 simp only[h1,if_false]
 refine Prod.ext ?_ ?_
 ·cases lo with
  | none=>rfl
  | some v=>exact wV v n 0
 ·cases hi with
  | none=>rfl
  | some v=>exact wV v n n
theorem vH (i j:Nat):Builtin.Slice.slicePlaces (i:Int) (j:Int) 1=j - i:=by
 unfold Builtin.Slice.slicePlaces
 have h1:(1:Int) > 0:=by omega
 simp only[h1,if_true,Int.ediv_one]
 split<;>omega
theorem mI {v:Value}{o:Option Int}{Q:Option Int->Shared->Prop}(p:IsPart v o) (h:Q o s):wpAny (model prog w) A (Builtin.Slice.slicePartIndex v) Q E s:=by
 cases p with
 | none=>exact slicePart_none h
 | int i t=>exact slicePart_int h
theorem fY {sl:Addr}{vl vu:Value}{lo hi:Option Int}{n:Nat}{Q:Int×Int×Nat->Shared->Prop}(hs:s.heap.IsSliceOf sl vl vu .none) (pl:IsPart vl lo) (pu:IsPart vu hi)
  (h:Q (((sIx n 0 lo:Nat):Int),1,sIx n n hi - sIx n 0 lo) s):wpAny (model prog w) A (Builtin.Slice.sliceApplied (.ref sl) (pure (n:Int))) Q E s:=by
 obtain⟨os,hos,hcs,hds⟩:=id hs
 unfold Builtin.Slice.sliceApplied Builtin.Slice.sliceFields
 refine wX (wX (wpAny_field hos hds (x:=vl) rfl (wX (wpAny_field hos hds (x:=vu) rfl (wX (wpAny_field hos hds (x:=.none) rfl (wY ?_)))))))
 refine wX (slicePart_none ?_)
 show wpAny _ _ (if((1:Int) == 0)=true then _ else _) _ _ s
 rw[if_neg (by decide)]
 refine wX (mI pl (wX (mI pu (wX (wY ?_)))))
 show wpAny _ _ (match Builtin.Slice.sliceAdjust lo hi 1 (n:Int) with|(lo,hi)=>pure (lo,(1:Int),Builtin.Slice.slicePlaces lo hi 1)) _ _ s
 rw[vG lo hi n]
 show wpAny _ _ (pure (((sIx n 0 lo:Nat):Int),(1:Int),Builtin.Slice.slicePlaces ((sIx n 0 lo:Nat):Int) ((sIx n n hi:Nat):Int) 1)) _ _ s
 rw[vH]
 exact wY h
theorem zG (xs:Array Value) (i k:Nat):((List.range k).filterMap λ(m:Nat)=>xs[((i:Int)+(m:Int)*1).toNat]?).toArray=((xs.toList.drop i).take k).toArray:=by
 have e:(λ(m:Nat)=>xs[((i:Int)+(m:Int)*1).toNat]?)=λm=>xs[i+m]?:=by
  funext m
  have:((i:Int)+(m:Int)*1).toNat=i+m:=by omega
  rw[this]
 rw[e]
 have:=pick_run xs i k
 rw[List.filterMap_map]at this
 have e2:((λx=>xs[x]?) ∘ λx=>i+x)=λm=>xs[i+m]?:=rfl
 rw[e2]at this
 rw[this]
theorem jG {t sl:Addr}{items:Array Value}{vl vu:Value}{lo hi:Option Int}{Q:Value->Shared->Prop}(ht:IsTup s.heap t items) (hs:s.heap.IsSliceOf sl vl vu .none) (pl:IsPart vl lo) (pu:IsPart vu hi)
  (hw:¬(sIx items.size 0 lo=0/\sIx items.size items.size hi=items.size))
  (h:Q (.ref s.heap.objs.size) { s with heap:=s.heap.push { cls:=.type "tuple",data:=.seq ((items.toList.drop (sIx items.size 0 lo)).take (sIx items.size items.size hi - sIx items.size 0 lo)).toArray } })
  (hsz:items.size<=sizeLine):wpAny (model prog w) A (getItem (.ref t) (.ref sl)) Q E s:=by
 have htake:sizeOk (.seq ((items.toList.drop (sIx items.size 0 lo)).take (sIx items.size items.size hi - sIx items.size 0 lo)).toArray):=by
  show((items.toList.drop (sIx items.size 0 lo)).take (sIx items.size items.size hi - sIx items.size 0 lo)).toArray.size<=sizeLine
  rw[List.size_toArray,List.length_take,List.length_drop,Array.length_toList]
  omega
 have hj:sIx items.size items.size hi<=items.size:=E6 _ _ (Nat.le_refl _) hi
 obtain⟨os,hos,hcs,hds⟩:=id hs
 have hTs:s.TypeIs (.ref sl) "slice":=⟨os,hos,hcs⟩
 unfold getItem
 try with_reducible refine wpAny_holding ?_
 first|refine wX (wY ?_)|skip
 refine wX (wpAny_sequenceKey ht.typeIs (by decide) ?_)
 refine wX (wpAny_callSpecial?_slot (name:=Str.ofString "__getitem__") ht.typeIs PyProof.Rows.slot_tuple_getitem
  (wpAny_call_entry PyProof.Rows.slot_tuple_getitem ht.typeIs entry_tuple_getitem ?_ (args_tuple_getitem _ _)))
 show wpAny _ _ (Builtin.Tuple.tupleItemsOf (.ref t)>>=_) _ _ s
 refine wX (tupleItemsOf_ ht ?_)
 refine wX (wpAny_typeOf hTs ?_)
 rw[if_pos (by decide)]
 refine wX (fY hs pl pu ?_)
 have hno:¬((((sIx items.size 0 lo:Nat):Int) == 0 && (1:Int) == 1 && (sIx items.size items.size hi - sIx items.size 0 lo) == items.size)=true):=by
  intro q
  rw[Bool.and_eq_true,Bool.and_eq_true]at q
  have q1:((sIx items.size 0 lo:Nat):Int)=0:=eq_of_beq q.1.1
  have q2:sIx items.size items.size hi - sIx items.size 0 lo=items.size:=eq_of_beq q.2
  exact hw ⟨by omega,by omega⟩
 show wpAny _ _ (if(((sIx items.size 0 lo:Nat):Int) == 0 && (1:Int) == 1 && (sIx items.size items.size hi - sIx items.size 0 lo) == items.size)=true then _ else _) _ _ s
 rw[if_neg hno,zG]
 first
  | exact wX (m:=Builtin.Tuple.tupleExact _) (wpAny_newObj_type (wY ⟨_,rfl,wY h⟩) htake)
  | exact wX (m:=Builtin.Tuple.tupleExact _) (wpAny_newObj_type (wX (wY (wY ⟨_,rfl,wY h⟩))) htake)
  | exact wX (wX (m:=Builtin.Tuple.tupleExact _) (wpAny_newObj_type (wY (wY ⟨_,rfl,wY h⟩)) htake))
  | exact wX (wX (m:=Builtin.Tuple.tupleExact _) (wpAny_newObj_type (wY ⟨_,rfl,wY h⟩) htake))
end
end HT
namespace L2
open PySem PySem.Spec PyProof.Rows
abbrev TO:=St->Hp->(Option Int->Hp->Prop)->Prop
def PO (X:Cx) (e:Option Expr) (t:TO):Prop :=
 ∀(pins:List (Addr×Obj)) (s:Shared) (σ:St) (H:Hp) (Q:Option Int->Hp->Prop),Inv X pins σ H s->t σ H Q ->
  wpAny (model X.prog X.w) X.A (evalPart e X.env) (λu s'=>∃o H',Inv X pins σ H' s'/\IsPart u o/\Q o H') X.xe s
def BP:TO:=λ_ H Q=>Q none H
def Go (t:TE):TO:=λσ H Q=>t σ H λx H1=>∃i,x=.int i/\Q (some i) H1
section
variable {X:Cx}{e:Expr}{te:TE}{lo hi:Option Expr}{tl th:TO}{pos p2:Pos}
theorem BQ:PO X none BP:=by
 intro pins s σ H Q I h
 rw[evalPart_none]
 exact wY ⟨none,H,I,.none,h⟩
theorem BR (h:PE X e te):PO X (some e) (Go te):=by
 intro pins s σ H Q I hw
 rw[evalPart_some]
 refine thn (h pins s σ H _ I hw) λu s1 ⟨x,H1,I1,r1,q1⟩=>?_
 obtain⟨i,rfl,q⟩:=q1
 obtain⟨t,rfl⟩:=r1
 exact⟨some i,H1,I1,.int i t,q⟩
def SlR (X:Cx) (r:V->Option Int->Option Int->Hp->VK->Prop):Prop :=
 ∀(pins:List (Addr×Obj)) (s:Shared) (σ:St) (H:Hp) (x:V) (v vl vu:Value) (lo hi:Option Int) (sl:Addr) (Q:VK),Inv X pins σ H s->aT x v->s.heap.IsSliceOf sl vl vu .none->IsPart vl lo->IsPart vu hi->r x lo hi H Q ->
  ∃T id,typeLookup (.type T) "__getitem__" = pure (some (.builtin id))/\s.TypeIs v T/\wpAny (model X.prog X.w) X.A (getItem v (.ref sl)) (EP X pins σ Q) X.xe s
theorem SlR.or {r r':V->Option Int->Option Int->Hp->VK->Prop}(h:SlR X r) (h':SlR X r'):SlR X (λx lo hi H Q=>r x lo hi H Q∨r' x lo hi H Q):=by
 intro pins s σ H x v vl vu lo hi sl Q I rx hs pl pu q
 rcases q with q|q
 ·exact h pins s σ H x v vl vu lo hi sl Q I rx hs pl pu q
 ·exact h' pins s σ H x v vl vu lo hi sl Q I rx hs pl pu q
def tSl (r:V->Option Int->Option Int->Hp->VK->Prop) (te:TE) (tl th:TO):TE:=λσ H Q=>te σ H λx H1=>tl σ H1 λl H2=>th σ H2 λu H3=>r x l u H3 Q
theorem zH {r:V->Option Int->Option Int->Hp->VK->Prop}(hr:SlR X r) (he:PE X e te) (hl:PO X lo tl) (hu:PO X hi th):PE X (.Subscript e (.Slice lo hi none p2) pos) (tSl r te tl th):=by
 intro pins s σ H Q I h
 refine Subscript_ (thn (he pins s σ H _ I h) λv s1 ⟨x,H1,I1,r1,q1⟩=>?_)
 refine wpAny_Slice (thn (hl pins s1 σ H1 _ I1 q1) λvl s2 ⟨l,H2,I2,pl,q2⟩=>thn (hu pins s2 σ H2 _ I2 q2) λvu s3 ⟨u,H3,I3,pu,q3⟩=>?_)
 rw[evalPart_none]
 refine wY ?_
 have I4:Inv X pins σ H3 { s3 with heap:=s3.heap.push { cls:=.type "slice",data:=.fields #[vl,vu,.none] } }:=I3.kept (t':=s3.toks) λb ob q=>Heap.get?_push_of_some _ q
 obtain⟨T,id,hT,ht,hg⟩:=hr pins { s3 with heap:=s3.heap.push { cls:=.type "slice",data:=.fields #[vl,vu,.none] } } σ H3 x v vl vu l u s3.heap.objs.size Q I4 r1 (Heap.IsSliceOf.new ..) pl pu q3
 show wpAny (model X.prog X.w) X.A (subscriptTail e (.Slice lo hi none p2) v (.ref s3.heap.objs.size)) (EP X pins σ Q) X.xe { s3 with heap:=s3.heap.push { cls:=.type "slice",data:=.fields #[vl,vu,.none] } }
 exact tail_any (ops:=[.ref s3.heap.objs.size,v]) ht hT hg (by with_unfolding_all rfl)
def oW (xs:List V) (lo hi:Option Int):List V:=(xs.drop (HT.sIx xs.length 0 lo)).take (HT.sIx xs.length xs.length hi - HT.sIx xs.length 0 lo)
theorem lH (xs:List V) (lo hi:Option Int):(oW xs lo hi).length<=xs.length:=by
 unfold oW
 rw[List.length_take,List.length_drop]
 omega
def Hs (K:PySem.W.Frag):V->Option Int->Option Int->Hp->VK->Prop:=λx lo hi H Q=>∃a xs,x=.ref a/\SqT K H a xs /\
 ¬(HT.sIx xs.length 0 lo=0/\HT.sIx xs.length xs.length hi=xs.length)/\∀p,H p=none->Q (.ref p) (upd H p (.tup (oW xs lo hi)))
theorem E7:SlR X (Hs X.K):=by
 intro pins s σ H x v vl vu lo hi sl Q I rx hs pl pu h
 obtain⟨a,xs,rfl,hx,hw,q⟩:=h
 cases rx
 obtain⟨its,r,ht,hz⟩:=I.tuple hx
 have hlen:its.toArray.size=xs.length:=by rw[List.size_toArray];exact r.length.symm
 refine⟨"tuple",_,PyProof.Rows.slot_tuple_getitem.lookup,ht.typeIs, ?_⟩
 refine HT.jG ht hs pl pu (by rw[hlen];exact hw) ?_ (by rw[hlen];exact hz)
 rw[hlen]
 refine⟨.ref s.heap.objs.size,_,I.laid (t':=s.toks) (o:=.tup (oW xs lo hi)) (λb ob q=>Heap.get?_push_of_some _ q) (Nat.le_refl _) ?_,rfl,q _ (I.hok.fresh (Nat.le_refl _))⟩
 exact⟨Nat.le_trans (lH xs lo hi) hz,_,(r.drop (HT.sIx xs.length 0 lo)).take (HT.sIx xs.length xs.length hi - HT.sIx xs.length 0 lo),IsTup.new _ _⟩
def Gp (K:PySem.W.Frag):R2:=λx y H Q=>∃a b xs ys,x=.ref a/\y=.ref b/\SqT K H a xs/\SqT K H b ys/\xs≠[]/\xs.length+ys.length<=sizeLine /\
 (ys=[]->Q (.ref a) H)/\(ys≠[]->∀p,H p=none->Q (.ref p) (upd H p (.tup (xs++ys))))
theorem aX.nil_iff {xs:List V}{us:List Value}(r:aX xs us):us=[]↔xs=[]:=by
 cases r with
 | nil=>simp
 | cons _ _=>simp
theorem BS:OpR X (binaryOp .Add) (Gp X.K):=by
 intro pins s σ H x y v u Q I rx ry h
 obtain⟨a,b,xs,ys,rfl,rfl,ha,hb,hx,hz,q1,q2⟩:=h
 cases rx
 cases ry
 obtain⟨its,r1,p1,_⟩:=I.tuple ha
 obtain⟨its2,r2,p2,_⟩:=I.tuple hb
 refine HT.BO p1 p2 (λz=>hx (r1.nil_iff.mp z)) (λz=>⟨.ref a,H,I,rfl,q1 (r2.nil_iff.mp z)⟩) (λz=>?_) (by rw[←r1.length,←r2.length];exact hz)
 refine⟨.ref s.heap.objs.size,_,I.laid (t':=s.toks) (o:=.tup (xs++ys)) (λb ob q=>Heap.get?_push_of_some _ q) (Nat.le_refl _) ?_,rfl,q2 (λw=>z (r2.nil_iff.mpr w)) _ (I.hok.fresh (Nat.le_refl _))⟩
 exact⟨by rw[List.length_append];exact hz,_,r1.append r2,IsTup.new _ _⟩
end
def ixN (n:Nat) (i:Int):Option Nat:=if 0<=i then (if i<n then some i.toNat else none)else if -(n:Int)<=i then some (i+n).toNat else none
def atI {α:Type}(xs:List α) (i:Int):Option α:=(ixN xs.length i).bind λj=>xs[j]?
theorem wW {n:Nat}{i:Int}{j:Nat}(h:ixN n i=some j):seqIndex? i n=some j/\j<n/\-(n:Int)<=i/\i<n:=by
 unfold ixN at h
 by_cases h0:0<=i
 ·rw[if_pos h0]at h
  by_cases h1:i<n
  ·rw[if_pos h1]at h
   have e:i.toNat=j:=Option.some.inj h
   exact⟨by rw[seqIndex_of h0 h1,e],by omega,by omega,h1⟩
  ·rw[if_neg h1]at h;cases h
 ·rw[if_neg h0]at h
  by_cases h1 : -(n:Int)<=i
  ·rw[if_pos h1]at h
   have e:(i+n).toNat=j:=Option.some.inj h
   exact⟨by rw[seqIndex_neg (by omega) h1,e],by omega,h1,by omega⟩
  ·rw[if_neg h1]at h;cases h
theorem qQ {α:Type}{xs:List α}{i:Int}{v:α}(h:atI xs i=some v):∃j,seqIndex? i xs.length=some j/\xs[j]? = some v/\j<xs.length/\-(xs.length:Int)<=i/\i<xs.length:=by
 unfold atI at h
 cases e:ixN xs.length i with
 | none=>rw[e]at h;cases h
 | some j =>
  rw[e]at h
  obtain⟨h1,h2,h3,h4⟩:=wW e
  exact⟨j,h1,h,h2,h3,h4⟩
theorem BT {α:Type}{xs:List α}{j:Nat}{v:α}(h:xs[j]? = some v):atI xs (j:Int)=some v:=by
 have hj:j<xs.length:=(List.getElem?_eq_some_iff.mp h).1
 have e:ixN xs.length (j:Int)=some j:=by
  unfold ixN
  rw[if_pos (by omega),if_pos (by omega)];simp
 unfold atI;rw[e];exact h
def qR (b:Expr):Prop:=∀o i,subscripted b false o i=operate [o,i] (getItem o i)
def IxR (X:Cx) (r:R2):Prop :=
 ∀(value slice:Expr) (pins:List (Addr×Obj)) (s:Shared) (σ:St) (H:Hp) (x y:V) (v u:Value) (Q:VK),Inv X pins σ H s->aT x v->aT y u->r x y H Q ->
  subscripted slice false v u=operate [v,u] (getItem v u)->wpAny (model X.prog X.w) X.A (subscriptTail value slice v u) (EP X pins σ Q) X.xe s
def MtR (X:Cx) (id:String) (r:V->List V->Hp->VK->Prop):Prop :=
 ∀(pins:List (Addr×Obj)) (s:Shared) (σ:St) (H:Hp) (x:V) (xs:List V) (v:Value) (us:List Value) (Q:VK),Inv X pins σ H s->aT x v->aX xs us->r x xs H Q ->
  wpAny (model X.prog X.w) X.A (call (.builtin id) (v::us)) (EP X pins σ Q) X.xe s
section
variable {X:Cx}{a b:Expr}{ta tb:TE}{pos:Pos}
theorem IxR.or {r r':R2}(h:IxR X r) (h':IxR X r'):IxR X (λx y H Q=>r x y H Q∨r' x y H Q):=by
 intro value slice pins s σ H x y v u Q I rx ry q hs
 rcases q with q|q
 ·exact h value slice pins s σ H x y v u Q I rx ry q hs
 ·exact h' value slice pins s σ H x y v u Q I rx ry q hs
theorem MtR.or {id:String}{r r':V->List V->Hp->VK->Prop}(h:MtR X id r) (h':MtR X id r'):MtR X id (λx xs H Q=>r x xs H Q∨r' x xs H Q):=by
 intro pins s σ H x xs v us Q I rx rs q
 rcases q with q|q
 ·exact h pins s σ H x xs v us Q I rx rs q
 ·exact h' pins s σ H x xs v us Q I rx rs q
theorem Dq {r:R2}(hr:IxR X r) (ha:PE X a ta) (hb:PE X b tb) (hs:qR b):PE X (.Subscript a b pos) (tOp r ta tb):=by
 intro pins s σ H Q I h
 exact Subscript_ (Es ha hb I h λv u s2 x y H2 I2 rx ry q=>hr a b pins s2 σ H2 x y v u Q I2 rx ry q (hs _ _))
def Ht (K:PySem.W.Frag):R2:=λx y H Q=>∃p xs i v,x=.ref p/\y=.int i/\SqL K H p xs/\atI xs i=some v/\Q v H
def Hu (K:PySem.W.Frag):R2:=λx y H Q=>∃p xs i v,x=.ref p/\y=.int i/\SqT K H p xs/\atI xs i=some v/\Q v H
def Hv:R2:=λx y H Q=>∃z i c,x=.str z/\y=.int i/\z.length<=sizeLine/\atI z.cps.toList i=some c/\Q (.str ⟨#[c]⟩) H
theorem BU:IxR X (Ht X.K):=by
 intro value slice pins s σ H x y v u Q I rx ry h hs
 obtain⟨p,xs,i,z,rfl,rfl,hq,he,q⟩:=h
 cases rx
 obtain⟨t,rfl⟩:=ry
 obtain⟨its,r,pl,hz⟩:=I.list hq
 obtain⟨j,h1,h2,h3,h4,h5⟩:=qQ he
 obtain⟨w,ew,rw'⟩:=r.get h2
 have hl:=r.length
 have hn:=kW
 have fin:EP X pins σ Q w s:=⟨z,H,I,rw',q⟩
 by_cases h0:0<=i
 ·have hj:i.toNat=j:=by
   rw[seqIndex_of h0 h5]at h1
   exact Option.some.inj h1
  exact item_listR pl.isList h0 (by omega) (by rw[hj];simpa using ew) fin hs
 ·have hj:(i+(its.toArray.size:Int)).toNat=j:=by
   rw[seqIndex_neg (by omega) h4]at h1
   rw[List.size_toArray,←hl]
   exact Option.some.inj h1
  exact subscriptTail_builtinR (x:=w) pl.isList.typeIs slot_list_getitem.lookup
   (wpAny_getItem_list_neg (Q:=λr s'=>r=w/\EP X pins σ Q r s') pl.isList (by omega) (by rw[List.size_toArray]<;>omega) (by omega) (by rw[hj];simpa using ew) ⟨rfl,fin⟩) hs
theorem qS:IxR X (Hu X.K):=by
 intro value slice pins s σ H x y v u Q I rx ry h hs
 obtain⟨p,xs,i,z,rfl,rfl,hq,he,q⟩:=h
 cases rx
 obtain⟨t,rfl⟩:=ry
 obtain⟨its,r,pl,hz⟩:=I.tuple hq
 obtain⟨j,h1,h2,h3,h4,h5⟩:=qQ he
 obtain⟨w,ew,rw'⟩:=r.get h2
 have hl:=r.length
 have hn:=kW
 have fin:EP X pins σ Q w s:=⟨z,H,I,rw',q⟩
 exact subscriptTail_builtinR (x:=w) pl.typeIs slot_tuple_getitem.lookup
  (getItem_tuple (j:=j) (Q:=λr s'=>r=w/\EP X pins σ Q r s') pl (by omega) (by omega) (by rw[List.size_toArray,←hl];exact h1) (by simpa using ew) ⟨rfl,fin⟩) hs
theorem vI:IxR X Hv:=by
 intro value slice pins s σ H x y v u Q I rx ry h hs
 obtain⟨z,i,c,rfl,rfl,hz,he,q⟩:=h
 obtain⟨t,rfl⟩:=rx
 obtain⟨t',rfl⟩:=ry
 obtain⟨j,h1,h2,h3,h4,h5⟩:=qQ he
 have hl:z.cps.toList.length=z.length:=by simp[Str.length]
 rw[hl]at h1 h4 h5
 have hn:=kW
 exact tail_any (typeIs_str s z t) slot_str_getitem.lookup (getItem_str (c:=c) (by
  have e1:decide (i < -(2 ^ 63:Int))=false:=decide_eq_false (by omega)
  have e2:decide (i ≥ 2 ^ 63)=false:=decide_eq_false (by omega)
  rw[e1,e2,Bool.or_false]) (by rw[h1];simpa using h2) ⟨.str ⟨#[c]⟩,H,I.tok _,⟨_,rfl⟩,q⟩) hs
theorem vJ (its:List Value) (n j:Nat) (u:Value):Obj.mapSeq (·.setIfInBounds j u) { cls:=.type "list",data:=.seq its.toArray n }={ cls:=.type "list",data:=.seq (its.set j u).toArray n }:=by
 simp[Obj.mapSeq]
theorem Inv.lst {pins:List (Addr×Obj)}{σ:St}{H:Hp}{s:Shared}{p:Addr}{xs:List V}(I:Inv X pins σ H s) (h:H p=some (.lst xs)) :
  ∃(its:List Value) (n:Nat),aX xs its/\s.heap.get? p=some { cls:=.type "list",data:=.seq its.toArray n }/\xs.length<=sizeLine:=by
 obtain⟨z,its,n,r,e⟩:=I.hok p _ h
 exact⟨its,n,r,e,z⟩
theorem Inv.lstUpd {pins:List (Addr×Obj)}{σ:St}{H:Hp}{s:Shared}{p:Addr}{xs ys:List V}{its its':List Value}{n n':Nat}{f:Obj->Obj}(I:Inv X pins σ H s) (h:H p=some (.lst xs))
  (ho:s.heap.get? p=some { cls:=.type "list",data:=.seq its.toArray n }) (hf:f { cls:=.type "list",data:=.seq its.toArray n }={ cls:=.type "list",data:=.seq its'.toArray n' }) (r:aX ys its') (hz:ys.length<=sizeLine) (t:Nat) :
  Inv X pins σ (upd H p (.lst ys)) { s with heap:=s.heap.update p f,toks:=t }:=by
 have e:(s.heap.update p f).get? p=some { cls:=.type "list",data:=.seq its'.toArray n' }:=by
  rw[Heap.get?_update_self f ho (by rw[hf]<;>rfl),hf]
 refine I.write (x:=p) (e:=p) (by rw[h];trivial) (.inl rfl) (λb u hb q=>(Heap.get?_update_other _ _ (Ne.symm hb)).trans q) ⟨_,e⟩ ?_
 exact⟨hz,its',n',r,e⟩
def Gq:V->V->V->Hp->(Hp->Prop)->Prop:=λo i v H Q=>∃p xs k j,o=.ref p/\i=.int k/\H p=some (.lst xs)/\ixN xs.length k=some j/\Q (upd H p (.lst (xs.set j v)))
theorem zI:FZ X Gq:=by
 intro pins s σ H o i v ov iv u Q I ro ri rv h
 obtain⟨p,xs,k,j,rfl,rfl,hp,hj,q⟩:=h
 cases ro
 obtain⟨t,rfl⟩:=ri
 obtain⟨its,n,r,ho,hz⟩:=I.lst hp
 obtain⟨h1,h2,h3,h4⟩:=wW hj
 have hl:=r.length
 have hn:=kW
 have I':Inv X pins σ (upd H p (.lst (xs.set j v))) { s with heap:=s.heap.update p (Obj.mapSeq (·.setIfInBounds j u)) } :=
  I.lstUpd hp ho (vJ its n j u) (r.set rv j) (by rw[List.length_set];exact hz) s.toks
 by_cases h0:0<=k
 ·have hk:k.toNat=j:=by
   rw[seqIndex_of h0 h4]at h1
   exact Option.some.inj h1
  exact PySem.W.ki_setAt ho h0 (by omega) (by rw[List.size_toArray,←hl];exact h4) (by rw[hk];exact⟨_,I',q⟩)
 ·have hk:(k+(its.toArray.size:Int)).toNat=j:=by
   rw[seqIndex_neg (by omega) h3]at h1
   rw[List.size_toArray,←hl]
   exact Option.some.inj h1
  exact PySem.W.ki_setBack ho (by omega) (by rw[List.size_toArray,←hl];exact h3) (by omega) (by rw[hk];exact⟨_,I',q⟩)
theorem qT (lo hi:Option Int) (n:Nat):(sliceBounds lo hi none n).1=((HT.sIx n 0 lo:Nat):Int)/\(sliceBounds lo hi none n).2.1=((HT.sIx n n hi:Nat):Int)/\(sliceBounds lo hi none n).2.2=1:=by
 refine⟨?_, ?_,rfl⟩
 ·cases lo with
  | none=>simp[sliceBounds,HT.sIx]
  | some i =>
   simp only[sliceBounds,HT.sIx,Option.getD_none,show(1:Int) > 0 by decide,if_true]
   by_cases h:i<0
   ·simp only[h,if_true]<;>omega
   ·simp only[h,if_false]<;>omega
 ·cases hi with
  | none=>simp[sliceBounds,HT.sIx]
  | some i =>
   simp only[sliceBounds,HT.sIx,Option.getD_none,show(1:Int) > 0 by decide,if_true]
   by_cases h:i<0
   ·simp only[h,if_true]<;>omega
   ·simp only[h,if_false]<;>omega
theorem oZ (its:List Value) (lo hi:Option Int):slicePick its.toArray lo hi none=((its.drop (HT.sIx its.length 0 lo)).take (HT.sIx its.length its.length hi - HT.sIx its.length 0 lo)).toArray:=by
 obtain⟨h1,h2,h3⟩:=qT lo hi its.toArray.size
 unfold slicePick
 rw[h1,h2,h3]
 simp only[sliceRange_one,pick_run,List.size_toArray]<;>rfl
def Hw (K:PySem.W.Frag):V->Option Int->Option Int->Hp->VK->Prop:=λx lo hi H Q=>∃a xs,x=.ref a/\SqL K H a xs/\∀p,H p=none->Q (.ref p) (upd H p (.lst (oW xs lo hi)))
theorem BV:SlR X (Hw X.K):=by
 intro pins s σ H x v vl vu lo hi sl Q I rx hs pl pu h
 obtain⟨a,xs,rfl,hx,q⟩:=h
 cases rx
 obtain⟨its,r,ht,hz⟩:=I.list hx
 have hlen:=r.length
 refine⟨"list",_,slot_list_getitem.lookup,ht.isList.typeIs, ?_⟩
 refine wpAny_getItem_list_slice ht.isList hs pl pu .none (by simp) ?_ (by rw[List.size_toArray]<;>omega)
 rw[oZ,←hlen]
 refine⟨.ref s.heap.objs.size,_,I.laid (t':=s.toks) (o:=.lst (oW xs lo hi)) (λb ob q=>Heap.get?_push_of_some _ q) (Nat.le_refl _) ?_,rfl,q _ (I.hok.fresh (Nat.le_refl _))⟩
 exact⟨Nat.le_trans (lH xs lo hi) hz,_,0,(r.drop (HT.sIx xs.length 0 lo)).take (HT.sIx xs.length xs.length hi - HT.sIx xs.length 0 lo),Heap.get?_push_size _ rfl⟩
def ja:V->Bool
 | .non=>true
 | .bl _=>true
 | .int _=>true
 | .str _=>true
 | _=>false
def eqV:V->V->Bool
 | .non,.non=>true
 | .bl a,.bl b=>a == b
 | .bl a,.int b=>(if a then 1 else 0) == b
 | .int a,.bl b=>a == (if b then 1 else 0)
 | .int a,.int b=>a == b
 | .str a,.str b=>a == b
 | _,_=>false
theorem E9 {A:Around}{s:Shared}{y x:V}{u v:Value}(ry:aT y u) (rx:aT x v) (fy:ja y=true) (fx:ja x=true):SeqAt.EqAt A s u v (eqV y x):=by
 cases y with
 | non =>
  cases ry
  cases x with
  | non=>cases rx;exact SeqAt.EqAt.same _
  | bl b=>cases rx;exact SeqAt.EqAt.none_bool b
  | int b=>obtain⟨t,rfl⟩:=rx;exact SeqAt.EqAt.none_int b t
  | str b=>obtain⟨t,rfl⟩:=rx;exact SeqAt.EqAt.none_str b t
  | _=>exact absurd (show false=true from fx) Bool.false_ne_true
 | bl a =>
  cases ry
  cases x with
  | non=>cases rx;exact SeqAt.EqAt.bool_none a
  | bl b=>cases rx;exact SeqAt.EqAt.bool_bool a b
  | int b=>obtain⟨t,rfl⟩:=rx;exact SeqAt.EqAt.bool_int a b t
  | str b=>obtain⟨t,rfl⟩:=rx;exact SeqAt.EqAt.bool_str a b t
  | _=>exact absurd (show false=true from fx) Bool.false_ne_true
 | int a =>
  obtain⟨t',rfl⟩:=ry
  cases x with
  | non=>cases rx;exact SeqAt.EqAt.int_none a t'
  | bl b=>cases rx;exact SeqAt.EqAt.int_bool a t' b
  | int b=>obtain⟨t,rfl⟩:=rx;exact SeqAt.EqAt.int_int a t' b t
  | str b=>obtain⟨t,rfl⟩:=rx;exact SeqAt.EqAt.int_str a t' b t
  | _=>exact absurd (show false=true from fx) Bool.false_ne_true
 | str a =>
  obtain⟨t',rfl⟩:=ry
  cases x with
  | non=>cases rx;exact SeqAt.EqAt.str_none a t'
  | bl b=>cases rx;exact SeqAt.EqAt.str_bool a t' b
  | int b=>obtain⟨t,rfl⟩:=rx;exact SeqAt.EqAt.str_int a t' b t
  | str b=>obtain⟨t,rfl⟩:=rx;exact SeqAt.EqAt.str_str a t' b t
  | _=>exact absurd (show false=true from fx) Bool.false_ne_true
 | _=>exact absurd (show false=true from fy) Bool.false_ne_true
def eqU (x:V) (u:Value):Bool:=match u with
 | .none=>eqV .non x
 | .bool b=>eqV (.bl b) x
 | .int i _=>eqV (.int i) x
 | .str z _=>eqV (.str z) x
 | _=>false
theorem zJ {x y:V}{u:Value}(r:aT y u) (f:ja y=true):eqU x u=eqV y x:=by
 cases y with
 | non=>cases r;rfl
 | bl b=>cases r;rfl
 | int i=>obtain⟨t,rfl⟩:=r;rfl
 | str z=>obtain⟨t,rfl⟩:=r;rfl
 | _=>exact absurd (show false=true from f) Bool.false_ne_true
theorem jH {x:V}:∀ {xs:List V}{us:List Value},aX xs us->xs.all ja=true->us.any (eqU x)=xs.any λy=>eqV y x
 | _,_,.nil,_=>rfl
 | y::xs,u::us,.cons r t,f=>by
  rw[List.all_cons,Bool.and_eq_true]at f
  rw[List.any_cons,List.any_cons,zJ r f.1,jH t f.2]
theorem ia {A:Around}{s:Shared}{x:V}{v:Value}(rx:aT x v) (fx:ja x=true):∀ {xs:List V}{us:List Value},aX xs us->xs.all ja=true->∀u∈us,SeqAt.EqAt A s u v (eqU x u)
 | _,_,.nil,_=>λu hu=>by cases hu
 | y::xs,u::us,.cons r t,f=>λu' hu=>by
  rw[List.all_cons,Bool.and_eq_true]at f
  rcases List.mem_cons.mp hu with rfl|hu
  ·rw[zJ r f.1];exact E9 r rx f.1 fx
  ·exact ia rx fx t f.2 u' hu
def inV (x:V) (xs:List V):Bool:=xs.any λy=>eqV y x
def rIn (K:PySem.W.Frag) (neg:Bool):R2:=λx y H Q=>∃p xs,y=.ref p/\(SqL K H p xs∨SqT K H p xs)/\ja x=true/\xs.all ja=true/\Q (.bl (if neg then !inV x xs else inV x xs)) H
theorem yD:OpR X (compareOp .In) (rIn X.K false):=by
 intro pins s σ H x y v u Q I rx ry h
 obtain⟨p,xs,rfl,hq,fx,fs,q⟩:=h
 cases ry
 rcases hq with hq|hq
 ·obtain⟨its,r,pl,hz⟩:=I.list hq
  refine SeqAt.in_listAt (eqU x) pl.isList (λw hw=>ia rx fx r fs w (by simpa using hw)) ⟨.bl _,H,I,rfl, ?_⟩
  rw[show its.toArray.any (eqU x)=its.any (eqU x) by simp,jH r fs]
  exact q
 ·obtain⟨its,r,pl,hz⟩:=I.tuple hq
  refine SeqAt.in_tupleAt (eqU x) pl (λw hw=>ia rx fx r fs w (by simpa using hw)) ⟨.bl _,H,I,rfl, ?_⟩
  rw[show its.toArray.any (eqU x)=its.any (eqU x) by simp,jH r fs]
  exact q
theorem qU:OpR X (compareOp .NotIn) (rIn X.K true):=by
 intro pins s σ H x y v u Q I rx ry h
 obtain⟨p,xs,rfl,hq,fx,fs,q⟩:=h
 cases ry
 rcases hq with hq|hq
 ·obtain⟨its,r,pl,hz⟩:=I.list hq
  refine SeqAt.notIn_listAt (eqU x) pl.isList (λw hw=>ia rx fx r fs w (by simpa using hw)) ⟨.bl _,H,I,rfl, ?_⟩
  rw[show its.toArray.any (eqU x)=its.any (eqU x) by simp,jH r fs]
  exact q
 ·obtain⟨its,r,pl,hz⟩:=I.tuple hq
  refine SeqAt.notIn_tupleAt (eqU x) pl (λw hw=>ia rx fx r fs w (by simpa using hw)) ⟨.bl _,H,I,rfl, ?_⟩
  rw[show its.toArray.any (eqU x)=its.any (eqU x) by simp,jH r fs]
  exact q
theorem qV:bI X (.builtin "len") (λxs H Q=>∃p ys,xs=[.ref p]/\(SqL X.K H p ys∨SqT X.K H p ys)/\Q (.int ys.length) H):=by
 intro pins s σ H xs us Q I r h
 obtain⟨p,ys,rfl,hq,q⟩:=h
 obtain⟨u,rfl,rx⟩:=fD r
 cases rx
 have hn:=kW
 rcases hq with hq|hq
 ·obtain⟨its,r',pl,hz⟩:=I.list hq
  have hlen:=r'.length
  exact Calls.call_len_list pl.isList (by simp only[List.size_toArray]<;>omega) ⟨.int ys.length,H,I.tok _,⟨s.toks+1,by rw[List.size_toArray,hlen]⟩,q⟩
 ·obtain⟨its,r',pl,hz⟩:=I.tuple hq
  have hlen:=r'.length
  exact len_tuple pl (by simp only[List.size_toArray]<;>omega) ⟨.int ys.length,H,I.tok _,⟨s.toks+1,by rw[List.size_toArray,hlen]⟩,q⟩
theorem qW:bI X (.builtin "len") (λxs H Q=>∃z,xs=[.str z]/\z.length<=sizeLine/\Q (.int z.length) H):=by
 intro pins s σ H xs us Q I r h
 obtain⟨z,rfl,hz,q⟩:=h
 obtain⟨u,rfl,t,rfl⟩:=fD r
 have hn:=kW
 exact len_str (by omega) ⟨.int z.length,H,I.tok _,⟨_,rfl⟩,q⟩
theorem bI.or {f:Value}{r r':List V->Hp->VK->Prop}(h:bI X f r) (h':bI X f r'):bI X f (λxs H Q=>r xs H Q∨r' xs H Q):=by
 intro pins s σ H xs us Q I rs q
 rcases q with q|q
 ·exact h pins s σ H xs us Q I rs q
 ·exact h' pins s σ H xs us Q I rs q
theorem qX:bI X (.type "list") (λxs H Q=>∃p ys,xs=[.ref p]/\(SqL X.K H p ys∨SqT X.K H p ys)/\∀l,H l=none->Q (.ref l) (upd H l (.lst ys))):=by
 intro pins s σ H xs us Q I r h
 obtain⟨p,ys,rfl,hq,q⟩:=h
 obtain⟨u,rfl,rx⟩:=fD r
 cases rx
 have fin:∀(its:List Value),aX ys its->ys.length<=sizeLine->∀(h':Heap) (c':Nat),(∀b o',s.heap.get? b=some o'->h'.get? b=some o') ->
   h'.get? s.heap.objs.size=some { cls:=.type "list",dict:=none,data:=.seq its.toArray c',slots:=#[] }->EP X pins σ Q (.ref s.heap.objs.size) { s with heap:=h' }:=λits r' hz h' c' kp e =>
  ⟨.ref s.heap.objs.size,_,I.laid (t':=s.toks) kp (Nat.le_refl _) (show bH X.prog X.w _ h' _ (.lst ys)from ⟨hz,its,c',r',e⟩),rfl,q _ (I.hok.fresh (Nat.le_refl _))⟩
 rcases hq with hq|hq
 ·obtain⟨its,r',pl,hz⟩:=I.list hq
  have hlen:=r'.length
  obtain⟨o,ho,hc,n,hd⟩:=pl.isList
  exact call_list_seq p (.inl rfl) ho hc hd (λh' c' kp e=>fin its r' hz h' c' kp e) (by simp only[List.size_toArray]<;>omega)
 ·obtain⟨its,r',pl,hz⟩:=I.tuple hq
  have hlen:=r'.length
  obtain⟨o,ho,hc,n,hd⟩:=pl
  exact call_list_seq p (.inr rfl) ho hc hd (λh' c' kp e=>fin its r' hz h' c' kp e) (by simp only[List.size_toArray]<;>omega)
theorem pb:bI X (.type "tuple") (λxs H Q=>∃p ys,xs=[.ref p]/\((SqL X.K H p ys/\∀l,H l=none->Q (.ref l) (upd H l (.tup ys)))∨(SqT X.K H p ys/\Q (.ref p) H))):=by
 intro pins s σ H xs us Q I r h
 obtain⟨p,ys,rfl,h⟩:=h
 obtain⟨u,rfl,rx⟩:=fD r
 cases rx
 rcases h with ⟨hq,q⟩|⟨hq,q⟩
 ·obtain⟨its,r',pl,hz⟩:=I.list hq
  have hlen:=r'.length
  refine call_tuple_list pl.isList (λh' kp=>?_) (by simp only[List.size_toArray]<;>omega)
  have I1:Inv X pins σ H { s with heap:=h' }:=I.kept (t':=s.toks) kp
  have I2:Inv X pins σ (upd H h'.objs.size (.tup ys)) { s with heap:=h'.push { cls:=.type "tuple",data:=.seq its.toArray } } :=
   I1.laid (t':=s.toks) (λb o e=>Heap.get?_push_of_some _ e) (Nat.le_refl _) (show bH X.prog X.w _ _ _ (.tup ys)from ⟨hz,its,r',IsTup.new _ _⟩)
  exact⟨.ref h'.objs.size,_,I2,rfl,q _ (I1.hok.fresh (Nat.le_refl _))⟩
 ·obtain⟨its,r',pl,hz⟩:=I.tuple hq
  exact call_tuple_same pl ⟨.ref p,H,I,rfl,q⟩
def tyV (K:PySem.W.Frag) (T:String) (x:V) (H:Hp):Prop:=match x with
 | .str _=>T = "str"
 | .int _=>T = "int"
 | .ref p=>(T = "list"/\∃xs,SqL K H p xs)∨(T = "tuple"/\∃o,K.lookup p=some o/\o.cls=.type "tuple"/\o.dict=none) ∨
   (T = "dict"/\((∃kvs ob,H p=some (.dK kvs ob)) ∨ ∃kvs,H p=some (.dT kvs)))∨(T = "set"/\∃S n,H p=some (.set S n))
 | _=>False
theorem zK {pins:List (Addr×Obj)}{σ:St}{H:Hp}{s:Shared}{T:String}{x:V}{v:Value}(I:Inv X pins σ H s) (r:aT x v) (ty:tyV X.K T x H) :
  s.TypeIs v T/\∀a,v=.ref a->∃ob,s.heap.get? a=some ob/\ob.dict=none:=by
 cases x with
 | str z =>
  obtain⟨t,rfl⟩:=r
  cases (show T = "str" from ty)
  exact⟨typeIs_str s z t,λ_ e=>nomatch e⟩
 | int i =>
  obtain⟨t,rfl⟩:=r
  cases (show T = "int" from ty)
  exact⟨typeIs_int s i t,λ_ e=>nomatch e⟩
 | ref p =>
  cases r
  rcases ty with ⟨rfl,xs,hq⟩|⟨rfl,o,hk,hc,hd⟩|⟨rfl,hk⟩|⟨rfl,S,n,hk⟩
  ·obtain⟨its,_,pl,_⟩:=I.list hq
   refine⟨pl.isList.typeIs,λa e=>?_⟩
   cases e
   obtain⟨o,n,e,c,hd,_⟩:=pl
   exact⟨o,e,hd⟩
  ·refine⟨⟨o,I.kIn p o hk,hc⟩,λa e=>?_⟩
   cases e
   exact⟨o,I.kIn _ o hk,hd⟩
  ·have z:∃o,s.heap.get? p=some o/\o.ExactDict:=by
    rcases hk with ⟨kvs,ob0,hk⟩|⟨kvs,hk⟩
    ·obtain⟨_,_,_,_,_,o,_,_,e,ex,_⟩:=I.hok p _ hk
     exact⟨o,e,ex⟩
    ·obtain⟨_,_,_,_,o,_,_,e,ex,_⟩:=I.hok p _ hk
     exact⟨o,e,ex⟩
   obtain⟨o,e,ex⟩:=z
   refine⟨⟨o,e,ex.1⟩,λa e2=>?_⟩
   cases e2
   exact⟨o,e,ex.2.1⟩
  ·obtain⟨o,_,_,_,e,ex,_⟩:=I.hok p _ hk
   refine⟨⟨o,e,ex.1⟩,λa e2=>?_⟩
   cases e2
   exact⟨o,e,ex.2.1⟩
 | _=>exact False.elim ty
def tBM (K:PySem.W.Frag) (T:String) (r:V->List V->Hp->VK->Prop) (to:TE) (t:TA):TE:=λσ H Q=>to σ H λx H1=>tyV K T x H1/\t σ H1 λxs H2=>r x xs H2 Q
variable {o e:Expr}{es:List Expr}{to:TE}{t:TA}{name:Str}{apos cpos:Pos}{T id:String}{r:V->List V->Hp->VK->Prop}
theorem zL (pa:PlainAttrs T) (slot:Slot T name id) (hty:typeOf (.builtin id)=pure (.type "method_descriptor")) (hm:MtR X id r) (ho:PE X o to) (ha:PA X (e::es) t)
  (hbase:attributeBase o name X.env (eval o X.env)=eval o X.env:=by rfl)
  (hfew:((backTo cpos (starEach (e::es) X.env)).all (λx=>!x.1) && (backToKw cpos (keywordEach [] X.env)).all (λx=>x.1.isSome)
   && decide ((e::es).length+([]:List Keyword).length+(if([]:List Keyword).isEmpty then 0 else 1)<30))=true:=by rfl)
  (hline:(apos.endLine == cpos.line)=true:=by rfl) (hs:starEach (e::es) X.env=(false,eval e X.env)::starEach es X.env:=by rfl) (hplain:(backTo cpos (starEach es X.env)).any (·.1)=false:=by rfl) :
  PE X (.Call (.Attribute o name apos) (e::es) [] cpos) (tBM X.K T r to t):=by
 intro pins s σ H Q I h
 refine wpAny_Call_method_late hbase hfew hline rfl (thn (ho pins s σ H _ I h) λv s1 ⟨x,H1,I1,r1,ty,q1⟩=>?_)
 obtain⟨h1,h2⟩:=zK I1 r1 ty
 refine⟨T,id,pa,slot,hty,h1,h2, ?_⟩
 have hA:=ha cpos pins s1 σ H1 _ I1 q1
 rw[hs]at hA ⊢
 refine Calls.callWith_builtin (by show(false || (backTo cpos (starEach es X.env)).any (·.1))=false;rw[hplain]<;>rfl) (Calls.evalArgs_plain ?_)
 exact thn hA λus s2 ⟨vs,H2,I2,r2,q2⟩=>hm pins s2 σ H2 x vs v us Q I2 r1 r2 q2
/- xs.append(e),list.index on a module's tuple .. are MtR facts of 06m -/
end
def MtM (X:Cx) (id:String) (r:V->List V->Hp->VK->Prop):Prop :=
 ∀(pins:List (Addr×Obj)) (s:Shared) (σ:St) (H:Hp) (x:V) (xs:List V) (v:Value) (us:List Value) (Q:VK),Inv X pins σ H s->aT x v->aX xs us->r x xs H Q ->
  wpAny (model X.prog X.w) X.A (call (.builtin id) (v::us)) (EP X pins σ Q) X.xe s
theorem aX.one:∀ {x:V}{us:List Value},aX [x] us->∃u,us=[u]/\aT x u
 | _,_,.cons r .nil=>⟨_,rfl,r⟩
theorem aX.two:∀ {x y:V}{us:List Value},aX [x,y] us->∃u v,us=[u,v]/\aT x u/\aT y v
 | _,_,_,.cons r (.cons q .nil)=>⟨_,_,rfl,r,q⟩
theorem aX.eraseIdx:∀ {xs:List V}{us:List Value}(i:Nat),aX xs us->aX (xs.eraseIdx i) (us.eraseIdx i)
 | _,_,_,.nil=>.nil
 | _,_,0,.cons _ t=>t
 | _,_,i+1,.cons r t=>.cons r (aX.eraseIdx i t)
theorem aX.rep {xs:List V}{us:List Value}(h:aX xs us):∀k:Nat,aX (List.replicate k xs).flatten (List.replicate k us).flatten
 | 0=>.nil
 | k+1=>by
  rw[List.replicate_succ,List.replicate_succ,List.flatten_cons,List.flatten_cons]
  exact aX.append h (aX.rep h k)
theorem pG (its:List Value):∀(k:Nat) (acc:List Value),
  List.foldl (λx1 x2=>x1++x2) acc.toArray (List.replicate k its.toArray)=(acc++(List.replicate k its).flatten).toArray
 | 0,acc=>by simp
 | k+1,acc=>by
  have e:acc.toArray++its.toArray=(acc++its).toArray:=by simp
  have e2:(acc++its)++(List.replicate k its).flatten=acc++(List.replicate (k+1) its).flatten:=by
   rw[List.replicate_succ,List.flatten_cons,List.append_assoc]
  rw[←e2,←pG its k (acc++its),←e,List.replicate_succ,List.foldl_cons]
section
variable {X:Cx}{pins:List (Addr×Obj)}{σ:St}{H:Hp}{s:Shared}{l b:Addr}{xs ys zs:List V}
theorem Inv.lset {its its':List Value}{n:Nat}{f:Array Value->Array Value}{t':Nat}(I:Inv X pins σ H s) (hH:H l=some (.lst xs))
  (e:s.heap.get? l=some { cls:=.type "list",data:=.seq its.toArray n }) (hf:f its.toArray=its'.toArray) (hv:aX ys its') (hz:ys.length<=sizeLine) :
  Inv X pins σ (upd H l (.lst ys)) { s with heap:=s.heap.update l (Obj.mapSeq f),toks:=t' }:=by
 have q:=PySem.IsL.update e f
 rw[hf]at q
 refine I.write (x:=l) (e:=l) (by rw[hH];exact trivial) (.inl rfl) (λb' u hb hu=>(Heap.get?_update_other s.heap (Obj.mapSeq f) (Ne.symm hb)).trans hu) ⟨_,q⟩ ?_
 exact⟨hz,its',_,hv,q⟩
theorem Inv.lnew {its:List Value}{t':Nat}(I:Inv X pins σ H s) (hv:aX ys its) (hz:ys.length<=sizeLine) :
  Inv X pins σ (upd H s.heap.objs.size (.lst ys)) { s with heap:=s.heap.push { cls:=.type "list",data:=.seq its.toArray },toks:=t' } :=
 I.laid (λ_ _ q=>Heap.get?_push_of_some _ q) (Nat.le_refl _) ⟨hz,its,0,hv,Heap.get?_push_size _ rfl⟩
theorem Inv.fresh (I:Inv X pins σ H s):H s.heap.objs.size=none:=I.hok.fresh (Nat.le_refl _)
theorem Inv.lstM (I:Inv X pins σ H s) (hH:H l=some (.lst xs)):xs.length<=sizeLine/\∃(its:List Value) (n:Nat),aX xs its/\xs.length=its.length/\s.heap.get? l=some { cls:=.type "list",data:=.seq its.toArray n }:=by
 obtain⟨z,its,n,r,e⟩:=I.hok l _ hH
 exact⟨z,its,n,r,r.length,e⟩
theorem zM {n:Nat}(h:n<=sizeLine):Builtin.List.listTooLong n=false:=by
 unfold Builtin.List.listTooLong
 exact decide_eq_false (by omega)
end
section
variable {X:Cx}
def wZ:V->List V->Hp->VK->Prop:=λx vs H Q=>∃l xs y,x=.ref l/\vs=[y]/\H l=some (.lst xs)/\xs.length<sizeLine/\Q .non (upd H l (.lst (xs++[y])))
theorem pH:MtM X "list.append" wZ:=by
 intro pins s σ H x vs v us Q I rx rv h
 obtain⟨l,xs,y,rfl,rfl,hH,hz,q⟩:=h
 cases rx
 obtain⟨u,rfl,ru⟩:=rv.one
 obtain⟨z,its,n,r,hl,e⟩:=I.lstM hH
 refine call_meets F.slot_list_append ⟨_,e,rfl⟩ F.entry_list_append (F.args_list_append_2 _ _) (PySem.list_append l its.toArray n u (by rw[List.size_toArray];omega)) ⟨e, ?_⟩
 refine⟨.non,_,I.lset (its':=its++[u]) hH e (by simp) (r.append (.cons ru .nil)) ?_,rfl,q⟩
 rw[List.length_append,List.length_singleton]
 omega
def Hx:R2:=λx y H Q=>∃l k xs,x=.ref l/\y=.int k/\H l=some (.lst xs)/\-(2 ^ 63)<=k/\k<2 ^ 63/\xs.length*k.toNat<=sizeLine /\
 ∀p,H p=none->Q (.ref p) (upd H p (.lst (List.replicate k.toNat xs).flatten))
theorem BW {α:Type}(xs:List α) (k:Nat):(List.replicate k xs).flatten.length=k*xs.length:=by
 induction k with
 | zero=>simp
 | succ k ih=>rw[List.replicate_succ,List.flatten_cons,List.length_append,ih,Nat.succ_mul,Nat.add_comm]
theorem EA:OpR X (binaryOp .Mult) Hx:=by
 intro pins s σ H x y v u Q I rx ry h
 obtain⟨l,k,xs,rfl,rfl,hH,h1,h2,hz,q⟩:=h
 cases rx
 obtain⟨t,rfl⟩:=ry
 obtain⟨z,its,n,r,hl,e⟩:=I.lstM hH
 have hlen:its.toArray.size*k.toNat<=sizeLine:=by rw[List.size_toArray,←hl];exact hz
 have hcap:¬its.toArray.size*k.toNat > (2 ^ 63 - 1) / 8:=by
  have:(sizeLine:Nat)<=(2 ^ 63 - 1) / 8:=by decide
  omega
 have hfit:¬(!Builtin.List.listFitsIndex k)=true:=by
  rw[fitsIndex_both h1 h2]
  exact Bool.false_ne_true
 have hlong:¬Builtin.List.listTooLong (its.toArray.size*k.toNat)=true:=by
  rw[zM hlen]
  exact Bool.false_ne_true
 have hnew:List.foldl (λx1 x2=>x1++x2) #[] (List.replicate (if its.toArray.isEmpty=true then 0 else k.toNat) its.toArray)=(List.replicate k.toNat its).flatten.toArray:=by
  have f0:∀m:Nat,List.foldl (λx1 x2=>x1++x2) #[] (List.replicate m its.toArray)=(List.replicate m its).flatten.toArray:=λm=>by
   have:=pG its m []
   rw[List.nil_append]at this
   exact this
  rw[f0]
  cases its with
  | nil=>simp
  | cons a r'=>rw[if_neg (by simp)]
 refine wpAny_binaryOp_repeat_ref (T:="list") (U:="int") (by decide) ⟨_,e,rfl⟩ (λs'=>typeIs_int s' k t) noFill_list_mul F.fills_int_mul F.slot_int_rmul repeat_list F.slot_int_index.lookup
  (call_meets F.slot_int_rmul (typeIs_int s k t) F.entry_int_rmul (F.args_int_rmul_2 _ _) (int___rmul___int_list k t l its.toArray n)
   ⟨e,rfl,⟨_,e,rfl⟩,call_meets F.slot_list_mul ⟨_,e,rfl⟩ F.entry_list_mul (F.args_list_mul_2 _ _) (AutoListH.list___mul___list_int_3 l its.toArray n k t hfit hcap hlong) ⟨e, ?_⟩⟩)
 rw[hnew]
 exact⟨.ref _,_,I.lnew (t':=s.toks) (r.rep k.toNat) (by rw[BW,Nat.mul_comm];exact hz),rfl,q _ I.fresh⟩
end
end L2
namespace Att
open PySem PySem.W PySem.Calls PyProof.Rows
theorem mw {P:Params}{h:Heap}:∀(ns:List Int) (vs:List Value),WellAll P h vs (ns.map WData.int)->IntsAre vs ns:=by
 intro ns
 induction ns with
 | nil =>
  intro vs w
  rw[List.map_nil]at w
  cases w
  exact .nil
 | cons n ns ih =>
  intro vs w
  rw[List.map_cons]at w
  cases w with
  | cons a b =>
   cases a
   exact .cons _ _ (ih _ b)
theorem yE {l:OpenLaw}{n:Nat}(hn:l.most=some n) {P:Params}{h:Heap}{args:List WData}{vals:List Value}
  (hpre:l.row.toRowW.claim.pre args=true) (hwl:WellAll P h vals args) :
  ∃a vs ns,vals=[Value.ref a]/\args=[WData.list (ns.map WData.int)]/\h.get? a=some { cls:=.type "list",data:=.seq vs.toArray }/\IntsAre vs ns/\ns.length<=n:=by
 have hsh:WShape.hasAll [] args [.list .int]=true:=(pre_splitW hpre).1
 have hc:l.pre.holds [] { args:=args }=true:=(pre_splitW hpre).2
 obtain⟨d,r,rfl,h1,h2⟩:=hasAllW_cons hsh
 obtain rfl:=hasAllW_nil h2
 obtain⟨xs,rfl,h3⟩:=hasW_list h1
 obtain⟨ns,rfl⟩:=items_int h3
 have hlen:ns.length<=n:=by
  unfold OpenLaw.pre at hc
  have h4:(WTm.not (.lt (.lit (.int (n:Int))) (.len (.arg 0)))).holds [] { args:=[.list (ns.map .int)] }=true:=by
   have h4:=(holds_andW hc).1
   rw[hn]at h4
   exact h4
  have h5:=condW_of h4 (w_not (w_lt w_lit (w_len_list (w_arg rfl))))
  rw[List.length_map]at h5
  refine Nat.le_of_not_lt λq=>?_
  have q':(n:Int)<((ns.length:Nat):Int):=by omega
  first
   | (rw[decide_eq_true q']at h5;exact absurd h5 (by decide))
   | (simp at h5;omega)
 cases hwl with
 | cons w1 w2 =>
  cases w2
  cases w1 with
  | list ho hall=>exact⟨_,_,ns,rfl,rfl,ho,mw ns _ hall,hlen⟩
theorem yF (l:OpenLaw) (args:List WData):l.row.toRowW.claim.post args (.bool true) args=true :=
 postW_of (r:=l.row.toRowW) (X:=(true == true))
  (show WShape.has [] (.bool true) .bool=true by first|rfl|decide|simp[WShape.has,WShape.arms,WShape.armsAll])
  (show(WTm.eq .res (.lit (.bool true))).value [] { args:=args,res:=some (.bool true),after:=args }=some (.bool (true == true))from w_eq_bool (w_res rfl) w_lit) rfl
theorem sK {l:OpenLaw}{n:Nat}{q:Program}{loose:List Str}{XP:(Str->Option Value)->Heap->Prop}{YP:World->Heap->Prop}{d:DefRec}
  (hn:l.most=some n) (hdf:d.params.defaults=[])
  (call:∀(w:World) (s₀ s₁:Shared) (mg mb:Str->Option Value) (fa:Addr) (o:Obj) (pm cd doc:Value) (a:Addr) (vs:List Value) (ns:List Int),
   Ground q loose [] XP w s₀ mg mb s₁.heap->YP w s₁.heap ->
   s₁.heap.get? fa=some o->o.data=.func (docDef d.name d.params d.body d.scope pm cd doc)->s₁.heap.CodeRec cd d.name->mg d.name=some (.ref fa) ->
   s₁.heap.get? a=some { cls:=.type "list",data:=.seq vs.toArray }->IntsAre vs ns->ns.length<=n->s₁.gens=#[] ->
   codeAny (model l.prog w) callerA (.call (.ref fa) ⟨[.ref a],[]⟩) (λr s'=>r=.ok (.ret (.bool true))/\OldK s₁.heap s'.heap/\s'.os=s₁.os/\AllBare s'.gens) s₁) :
  WalkO q loose XP YP l.row.toRowW d [] (λf vs=>PySem.call f vs):=by
 intro w s₀ s₁ mg mb G Y fa o pm cd doc dV kV ho hd hcd hD hmg hg args vals as hpre hlay hrd hwl hlo
 obtain rfl:dV=.none:=Dflts.none hD hdf
 obtain rfl:kV=.none:=Dflts.noKw hD
 obtain⟨a,vs,ns,rfl,rfl,hobj,hints,hlen⟩:=yE hn hpre hwl
 refine enter_call (codeAny_mono (call w s₀ s₁ mg mb fa o pm cd doc a vs ns G Y ho (fd_plain hd) hcd hmg hobj hints hlen hg) λr s' hq=>?_)
 obtain⟨rfl,h2,h3,h4⟩:=hq
 exact⟨.inl ⟨.bool true,.bool true,[],rfl,λ_=>rfl,.bool true,yF l _,λ_=>⟨List.Pairwise.nil,λ_ hm=>(nomatch hm)⟩⟩,h2,h3,h4⟩
section
variable {prog:Program}{w:World}{A:Around}{E:Value->Shared->Prop}{s:Shared}{K:Frag}
theorem Gr {R:Result->Shared->Prop}{C fI:Addr}{a9:List Value}{kw:List (Str×Value)}
  (X:K.In s.heap) (hm:makesIn K C=true) (hi:findIn K (.ref C) "__init__" = some (some (.ref fI))) (hf:isFn K (.ref fI)=true)
  (h:codeAny (model prog w) (A.under (.builtin "type.__call__" ⟨.ref C::a9,kw⟩)) (.call (.ref fI) ⟨.ref (s.heap.objs.size+1)::a9,kw⟩) (InitBack (s.heap.objs.size+1) R)
   { s with heap:=(s.heap.push emptyDict).push (instObj C s.heap.objs.size) }):codeAny (model prog w) A (.call (.ref C) ⟨a9,kw⟩) R s:=by
 obtain⟨hh,g,d,t,os⟩:=s
 exact make_core (makes_of X hm) (looks_findIn X hi) (λself=>bind_fn X self (beq_iff_eq.mp hf)) (.inl rfl) h
theorem F0 {x C:Addr}{ox:Obj}{es:List DictEntry}{n:Nat}{name:Str}{expr:Bool}{v:Value}{Q:Value->Shared->Prop}
  (X:K.In s.heap) (I:PySem.W.InstAt s.heap x ox C (some (dictOf es n))) (hg:plainGet K C name=true) (hh:hasDictIn K C=true) (ha:findIn K (.ref C) name=some none)
  (hl:getL name es=some (some v)) (hv:handedIn v=true) (h:Q v { s with toks:=s.toks+1 }):wpAny (model prog w) A (getAttr (.ref x) name expr) Q E s :=
 get_value X I (plainGet_of hg).1 (findObj_own hh ha rfl hl) hv h
def Hy (h:Heap) (L d:Addr):List (Addr×Obj):=(List.range h.objs.size).filterMap λa=>if a=L∨a=d then none else (h.get? a).map λo=>(a,o)
end
end Att
namespace L2
open PySem PySem.Spec PyProof.Rows
theorem iI:∀ {vs:List Value}{ns:List Int},IntsAre vs ns->aX (ns.map V.int) vs
 | _,_,.nil=>.nil
 | _,_,.cons n t h=>.cons ⟨t,rfl⟩ (iI h)
def fF (s:Stmt):Arguments:=match s with
 | .FunctionDef _ a _ _ _ _ _ _ _ _=>a
 | _=>{ posonlyargs:=[],args:=[],vararg:=none,kwonlyargs:=[],kw_defaults:=[],kwarg:=none,defaults:=[] }
def cI (s:Stmt):List Stmt:=match s with
 | .FunctionDef _ _ b _ _ _ _ _ _ _=>b
 | _=>[]
def ay (s:Stmt):Scope:=match s with
 | .FunctionDef _ _ _ _ _ _ sc _ _ _=>sc
 | _=>{ kind:=.function,names:=[],isGenerator:=false,isCoroutine:=false }
abbrev CX0:CXT:=λ_ _ _ _ _ _=>False
abbrev E0:XK:=λ_ _ _=>False
theorem Gs {X:Cx}:vF CX0 X E0:=λ_ _ _ _ _ _ _ h=>h.elim
structure Fun (K:PySem.W.Frag) (x qual:Str) (st:Stmt) (f:Addr) (fd:FuncData):Prop where
 ex:∃(oc:Value) (od:Option Addr) (kV doc pm:Value) (an:Option Addr) (cdv ct:Value) (osl:Array (Option Value)),
  fd=PySem.W.fnOf x qual (fF st) (cI st) (ay st) .none kV doc pm an cdv ct/\K.lookup f=some ⟨oc,od,.func fd,osl⟩/\PySem.W.codeIn K cdv qual=true
 kp:PySem.W.keepIn K (.ref f)=true
section
variable {P:Program}{w:World}{K:PySem.W.Frag}{mg:Str->Option Value}{base:Heap}
theorem Fun.ok {x qual:Str}{st:Stmt}{f:Addr}{fd:FuncData}{N ps:List Str}{k:Nat}{sp:Sp}(F:Fun K x qual st f fd) (S:FnScope N ps (ay st)) (len:∀vs H Q E,sp vs H Q E->vs.length=ps.length)
  (hbody:∀(cdv:Value) (A:Around) (outer:List Env) (s:Shared) (H:Hp) (vs:List V) (Q:VK) (E:XK),Room k (A.deeper (envOfC qual (ay st) s.heap.objs.size f cdv))->sp vs H Q E ->
   ∃t,PSs (mH CX0 P w K mg base N qual (ay st) f cdv A outer s H E).nox (cI st) t/\t { nx:=λ_ H'=>Q .non H',rt:=Q } (gU N vs) H):FnOk P w K mg base CX0 (k+1) f fd ps sp:=by
 obtain⟨oc,od,kV,doc,pm,an,cdv,ct,osl,rfl,lk,hcd⟩:=F.ex
 refine Dp lk hcd S len λA outer s H vs Q E hr hsp=>?_
 obtain⟨t,h,q⟩:=hbody cdv A outer s H vs Q E hr hsp
 exact⟨t,h.nox,q⟩
theorem Fun.binds {x qual:Str}{st:Stmt}{f:Addr}{fd:FuncData}{ps:List Str}(F:Fun K x qual st f fd)
  (h:∀(kV doc pm:Value) (an:Option Addr) (cdv ct:Value) (us:List Value),us.length=ps.length->bindArgs (PySem.W.fnOf x qual (fF st) (cI st) (ay st) .none kV doc pm an cdv ct) ⟨us,[]⟩=pure (ps.zip us)):pA K fd ps []:=by
 obtain⟨oc,od,kV,doc,pm,an,cdv,ct,osl,rfl,lk,hcd⟩:=F.ex
 exact .all (h kV doc pm an cdv ct)
theorem EB {x qual:Str}{st:Stmt}{f:Addr}{oc:Value}{od an:Option Addr}{osl:Array (Option Value)}{kV doc pm cdv ct:Value}(l:K.lookup f=some ⟨oc,od,.func (PySem.W.fnOf x qual (fF st) (cI st) (ay st) .none kV doc pm an cdv ct),osl⟩)
  (c:PySem.W.codeIn K cdv qual=true) (k:PySem.W.keepIn K (.ref f)=true):Fun K x qual st f (PySem.W.fnOf x qual (fF st) (cI st) (ay st) .none kV doc pm an cdv ct):=⟨⟨oc,od,kV,doc,pm,an,cdv,ct,osl,rfl,l,c⟩,k⟩
end
def aR (H H':Hp):Prop:=∀b o,H b=some o->H' b=some o
theorem aR.refl (H:Hp):aR H H:=λ_ _ h=>h
theorem aR.trans {H H1 H2:Hp}(a:aR H H1) (b:aR H1 H2):aR H H2:=λc o h=>b c o (a c o h)
theorem aR.free {H H':Hp}(e:aR H H') {l:Addr}(h:H' l=Option.none):H l=Option.none:=by
 cases q:H l with
 | none=>rfl
 | some o =>
  rw[e l o q]at h
  cases h
theorem aR.seq {K:PySem.W.Frag}{H H':Hp}{a:Addr}{xs:List V}(e:aR H H') (h:SqL K H a xs):SqL K H' a xs:=by
 rcases h with (h|⟨o,h⟩)|h
 ·exact .inl (.inl (e _ _ h))
 ·exact .inl (.inr ⟨o,e _ _ h⟩)
 ·exact .inr h
section
variable {κ:Type}[DecidableEq κ]
def jl (kvs:List (κ×V)) (k:κ):Option V:=(kvs.find? λkv=>decide (kv.1=k)).map (·.2)
def jI (kvs:List (κ×V)) (k:κ) (v:V):List (κ×V) :=
 if(kvs.any λkv=>decide (kv.1=k))=true then kvs.map (λkv=>if kv.1=k then (kv.1,v)else kv)else kvs++[(k,v)]
theorem jJ {p:κ×V}{r:List (κ×V)}{k:κ}(e:p.1=k):jl (p::r) k=some p.2:=by simp[jl,List.find?_cons,e]
theorem jK {p:κ×V}{r:List (κ×V)}{k:κ}(e:¬p.1=k):jl (p::r) k=jl r k:=by simp[jl,List.find?_cons,e]
theorem sL (k:κ):∀kvs:List (κ×V),(kvs.any λkv=>decide (kv.1=k))=(jl kvs k).isSome
 | []=>rfl
 | p::r=>by
  rw[List.any_cons]
  by_cases e:p.1=k
  ·simp only[jJ e,decide_eq_true e,Bool.true_or,Option.isSome_some]
  ·rw[jK e,decide_eq_false e,Bool.false_or];exact sL k r
theorem ib (kvs:List (κ×V)) (k:κ) (v:V):(jI kvs k v).length<=kvs.length+1:=by
 unfold jI
 split
 ·rw[List.length_map];omega
 ·rw[List.length_append,List.length_cons,List.length_nil];omega
theorem mv.isSome_eq {o:Option V}{u:Option Value}(r:mv o u):o.isSome=u.isSome:=by
 cases o with
 | none=>cases u with
  | none=>rfl
  | some _=>exact(show False from r).elim
 | some _=>cases u with
  | none=>exact(show False from r).elim
  | some _=>rfl
theorem mv.getD {o:Option V}{u:Option Value}{d:V}{d':Value}(r:mv o u) (rd:aT d d'):aT (o.getD d) (u.getD d'):=by
 cases o with
 | none=>cases u with
  | none=>exact rd
  | some _=>exact(show False from r).elim
 | some _=>cases u with
  | none=>exact(show False from r).elim
  | some _=>exact r
theorem KV.val {kvs:List (κ×V)}{vs:List (κ×Value)}(r:KV kvs vs) (k:κ):mv (jl kvs k) (valueAt vs k):=by
 unfold KV at r
 induction r with
 | nil=>exact True.intro
 | @cons p q ps qs h t ih =>
  obtain⟨h1,h2⟩:=h
  by_cases e:p.1=k
  ·have e':q.1=k:=h1.symm.trans e
   have b:valueAt (q::qs) k=some q.2:=by simp[valueAt,List.find?_cons,e']
   rw[jJ e,b];exact h2
  ·have e':¬q.1=k:=λz=>e (h1.trans z)
   have b:valueAt (q::qs) k=valueAt qs k:=by simp[valueAt,List.find?_cons,e']
   rw[jK e,b];exact ih
theorem KV.any {kvs:List (κ×V)}{vs:List (κ×Value)}(r:KV kvs vs) (k:κ):(kvs.any λkv=>decide (kv.1=k))=vs.any λkv=>decide (kv.1=k):=by
 unfold KV at r
 induction r with
 | nil=>rfl
 | cons h t ih=>rw[List.any_cons,List.any_cons,ih,h.1]
theorem KV.repl {kvs:List (κ×V)}{vs:List (κ×Value)}(r:KV kvs vs) (k:κ) {y:V}{u:Value}(ry:aT y u) :
  KV (kvs.map λkv=>if kv.1=k then (kv.1,y)else kv) (vs.map λkv=>if kv.1=k then (kv.1,u)else kv):=by
 unfold KV at r ⊢
 induction r with
 | nil=>exact .nil
 | @cons p q ps qs h t ih =>
  rw[List.map_cons,List.map_cons]
  refine .cons ?_ ih
  obtain⟨h1,h2⟩:=h
  by_cases e:p.1=k
  ·rw[if_pos e,if_pos (h1.symm.trans e)];exact⟨h1,ry⟩
  ·rw[if_neg e,if_neg (λz=>e (h1.trans z))];exact⟨h1,h2⟩
theorem KV.put {kvs:List (κ×V)}{vs:List (κ×Value)}(r:KV kvs vs) (k:κ) {y:V}{u:Value}(ry:aT y u):KV (jI kvs k y) (stored vs k u):=by
 unfold jI stored
 rw[r.any k]
 by_cases e:(vs.any λkv=>decide (kv.1=k))=true
 ·rw[if_pos e,if_pos e];exact r.repl k ry
 ·rw[if_neg e,if_neg e];exact Paired.snoc r ⟨rfl,ry⟩
theorem KV.length {kvs:List (κ×V)}{vs:List (κ×Value)}(r:KV kvs vs):kvs.length=vs.length:=Paired.length r
end
theorem xc {P:Program}{w:World}{k:Key}{u:Value}(r:aT (kV k) u):(ce P w).is k u=true:=by
 cases k with
 | inl i=>obtain⟨t,e⟩:=(show ∃t,u=Value.int i t from r);subst e;exact sA P w i t
 | inr x=>obtain⟨t,e⟩:=(show ∃t,u=Value.str x t from r);subst e;exact sC P w x t
theorem pJ {P:Program}{w:World}:∀ {ks:List Key}{us:List Value},aX (ks.map kV) us->ItemsAre (ce P w) ks us
 | [],_,r=>by rw[List.map_nil]at r;cases r;exact .nil
 | k::ks,_,r=>by
  rw[List.map_cons]at r
  cases r with
  | cons h t=>exact .cons (xc h) (pJ t)
abbrev KT (H:Hp):List (List Key×V)->List (List Key×Addr×Value)->Prop:=Paired λp q=>p.1=q.1/\H q.2.1=some (.tup (p.1.map kV))/\aT p.2 q.2.2
theorem KT.val {H:Hp}{kvs:List (List Key×V)}{xs:List (List Key×Addr×Value)}(r:KT H kvs xs) (k:List Key):mv (jl kvs k) ((atKey xs k).map (·.2)):=by
 induction r with
 | nil=>exact True.intro
 | @cons p q ps qs h t ih =>
  obtain⟨h1,_,h2⟩:=h
  by_cases e:p.1=k
  ·have e':q.1=k:=h1.symm.trans e
   have b:atKey (q::qs) k=some q.2:=by simp[atKey,List.find?_cons,e']
   rw[jJ e,b];exact h2
  ·have e':¬q.1=k:=λz=>e (h1.trans z)
   have b:atKey (q::qs) k=atKey qs k:=by simp[atKey,List.find?_cons,e']
   rw[jK e,b];exact ih
theorem KT.repl {H:Hp}{kvs:List (List Key×V)}{xs:List (List Key×Addr×Value)}(r:KT H kvs xs) (k:List Key) {y:V}{u:Value}(ry:aT y u) :
  KT H (kvs.map λkv=>if kv.1=k then (kv.1,y)else kv) (xs.map (putAt k u)):=by
 induction r with
 | nil=>exact .nil
 | @cons p q ps qs h t ih =>
  rw[List.map_cons,List.map_cons]
  refine .cons ?_ ih
  obtain⟨h1,h2,h3⟩:=h
  unfold putAt
  by_cases e:p.1=k
  ·rw[if_pos e,if_pos (h1.symm.trans e)];exact⟨h1,h2,ry⟩
  ·rw[if_neg e,if_neg (λz=>e (h1.trans z))];exact⟨h1,h2,h3⟩
theorem KT.put {H:Hp}{kvs:List (List Key×V)}{xs:List (List Key×Addr×Value)}(r:KT H kvs xs) (k:List Key) {b:Addr}{y:V}{u:Value}(hb:H b=some (.tup (k.map kV))) (ry:aT y u) :
  KT H (jI kvs k y) (storedH xs k b u):=by
 have e:(kvs.any λkv=>decide (kv.1=k))=(atKey xs k).isSome:=by
  rw[sL,(r.val k).isSome_eq,Option.isSome_map]
 unfold jI storedH
 rw[e]
 by_cases q:(atKey xs k).isSome=true
 ·rw[if_pos q,if_pos q];exact r.repl k ry
 ·rw[if_neg q,if_neg q];exact Paired.snoc r ⟨rfl,hb,ry⟩
theorem KT.keeps {H H':Hp}{kvs:List (List Key×V)}{xs:List (List Key×Addr×Value)}(r:KT H kvs xs) (ht:∀b ys,H b=some (.tup ys)->H' b=some (.tup ys)):KT H' kvs xs :=
 Paired.mapP r λ_ _ z=>⟨z.1,ht _ _ z.2.1,z.2.2⟩
section
variable {P:Program}{w:World}{H:Hp}{h:Heap}{a:Addr}
theorem Dr {u:HO}(ok:HOk P w H h) (e:Rd H a u):bH P w H h a u:=e.ok ok
theorem vK {kvs:List (Key×V)}{ob:Obj}(ok:HOk P w H h) (e:H a=some (.dK kvs ob)):h.get? a=some ob:=And.left (show bH P w H h a (.dK kvs ob)from ok a _ e)
theorem zN {kvs:List (Key×V)}{ob:Obj}(ok:HOk P w H h) (e:Rd H a (.dK kvs ob)):kvs.length<=sizeLine/\(a == sysModules)=false/\∃vs,KV kvs vs/\h.DictOf (ce P w) a vs :=
 And.right (show bH P w H h a (.dK kvs ob)from Dr ok e)
theorem sM {kvs:List (Key×V)}{ob:Obj}(ok:HOk P w H h) (e:H a=some (.dK kvs ob)):kvs.length<=sizeLine/\(a == sysModules)=false/\∃vs,KV kvs vs/\h.DictOf (ce P w) a vs:=zN ok (.inl e)
theorem vL {ks:List Key}(ok:HOk P w H h) (e:H a=some (.tup (ks.map kV))):(tupleKind (ce P w)).is h ks a:=by
 obtain⟨_,its,r,o,h1,h2,n,h3⟩:=(show bH P w H h a (.tup (ks.map kV))from ok a _ e)
 exact⟨o,its.toArray,n,h1,h2,h3,by simpa using pJ r⟩
theorem zO {kvs:List (List Key×V)}(ok:HOk P w H h) (e:Rd H a (.dT kvs)):kvs.length<=sizeLine/\(a == sysModules)=false /\
  ∃xs,KT H kvs xs/\h.DictOfH (tupleKind (ce P w)) a xs:=by
 obtain⟨z,y,xs,r,o,es,ep,h1,h2,h3,h4,h5⟩:=(show bH P w H h a (.dT kvs)from Dr ok e)
 refine⟨z,y,xs,r,o,es,ep,h1,h2,h3,h4,λx hx=>?_,h5⟩
 have all:∀ {l:List (List Key×V)}{m:List (List Key×Addr×Value)},KT H l m->∀x∈m,(tupleKind (ce P w)).is h x.1 x.2.1:=by
  intro l m q
  induction q with
  | nil=>intro x hx;exact nomatch hx
  | @cons p q ps qs hq t ih =>
   intro x hx
   rcases List.mem_cons.mp hx with e|hx
   ·subst e
    exact vL ok (by rw[←hq.1];exact hq.2.1)
   ·exact ih x hx
 exact all r x hx
theorem Gu {kvs:List (List Key×V)}(ok:HOk P w H h) (e:H a=some (.dT kvs)):kvs.length<=sizeLine/\(a == sysModules)=false /\
  ∃xs,KT H kvs xs/\h.DictOfH (tupleKind (ce P w)) a xs:=zO ok (.inl e)
end
def BX (H:Hp) (a:Addr) (y:V) (r:Option V):Prop :=
 (∃kvs k ob,Rd H a (.dK kvs ob)/\y=kV k/\r=jl kvs k) ∨ ∃kvs k b,Rd H a (.dT kvs)/\y=.ref b/\H b=some (.tup (k.map kV))/\r=jl kvs k
def Gv (H:Hp) (a:Addr) (y v:V) (Q:Hp->Prop):Prop :=
 (∃kvs k ob,H a=some (.dK kvs ob)/\y=kV k/\kvs.length<sizeLine/\∀ob',Q (upd H a (.dK (jI kvs k v) ob'))) ∨
 ∃kvs k b,H a=some (.dT kvs)/\y=.ref b/\H b=some (.tup (k.map kV))/\kvs.length<sizeLine/\Q (upd H a (.dT (jI kvs k v)))
theorem BX.t {H:Hp}{a b:Addr}{kvs:List (List Key×V)}{k:List Key}(e:H a=some (.dT kvs)) (eb:H b=some (.tup (k.map kV))):BX H a (.ref b) (jl kvs k):=.inr ⟨kvs,k,b,.inl e,rfl,eb,rfl⟩
section
variable {X:Cx}{pins:List (Addr×Obj)}{σ:St}{H:Hp}{s:Shared}{a:Addr}{y v:V}{u r:Value}{o:Option V}{A:Around}{E:Value->Shared->Prop}
theorem Inv.big (I:Inv X pins σ H s):sysModules<s.heap.objs.size:=by
 have h:mainGlobals<s.heap.objs.size:=(I.mod.glob.keeps I.bk).lt
 exact Nat.lt_trans (by decide) h
theorem qY {h':Heap}{t':Nat}{ob:HO}(I:Inv X pins σ H s) (mu:Mut (H a)) (hs:Heap.SameBut a s.heap h') (he:∃q,h'.get? a=some q) (new:bH X.prog X.w (upd H a ob) h' a ob) :
  Inv X pins σ (upd H a ob) { s with heap:=h',toks:=t' } :=
 I.write (x:=a) (e:=a) mu (.inl rfl) (λb q hb z=>(hs.2 b hb).trans z) he new
theorem zP {P:Program}{w:World}{H':Hp}{h':Heap}{kvs:List (Key×V)}{vs:List (Key×Value)}(z:kvs.length<=sizeLine) (hd:(a == sysModules)=false) (rel:KV kvs vs) (dd:h'.DictOf (ce P w) a vs) {ob:Obj}(hg:h'.get? a=some ob) :
  bH P w H' h' a (.dK kvs ob):=⟨hg,z,hd,vs,rel,dd⟩
theorem yG {R:Hp->Prop}{Q:Unit->Shared->Prop}(hu:A.units+1<cLine) (I:Inv X pins σ H s) (g:Gv H a y v R) (ry:aT y u) (rv:aT v r) (h:∀H' s',R H'->Inv X pins σ H' s'->Q () s') :
  wpAny (model X.prog X.w) A (setItem (.ref a) u r) Q E s:=by
 rcases g with ⟨kvs,k,ob,e,ey,l,eH⟩|⟨kvs,k,b,e,ey,eb,l,eH⟩
 ·subst ey
  obtain⟨z,hd,vs,rel,dd⟩:=sM I.hok e
  have hz:vs.length<=sizeLine:=by rw[←rel.length];exact z
  have hl:(jI kvs k v).length<=sizeLine:=by have:=ib kvs k v;omega
  refine wpAny_setItem_pairs (hsz:=hz) (xc ry) dd λh' dd' hs=>?_
  obtain⟨q,hq⟩:∃q,h'.get? a=some q:=let ⟨q,_,_,hq,_⟩:=dd';⟨q,hq⟩
  exact h _ _ (eH q) (qY I (by rw[e];exact True.intro) hs ⟨q,hq⟩ (zP hl hd (rel.put k rv) dd' hq))
 ·subst ey
  cases (show u=Value.ref b from ry)
  obtain⟨z,hd,xs,rel,dd⟩:=Gu I.hok e
  have hz:xs.length<=sizeLine:=by rw[←Paired.length rel];exact z
  have hl:(jI kvs k v).length<=sizeLine:=by have:=ib kvs k v;omega
  refine wpAny_setItem_heap (hsz:=hz) (tupleKind_room_in1 hu) (vL I.hok eb) dd λh' dd' hs=>h _ _ eH ?_
  obtain⟨q,es,ep,hq,h2,h3,h4,_,h5⟩:=dd'
  refine qY I (by rw[e];exact True.intro) hs ⟨q,hq⟩ ⟨hl,hd,_,(rel.put k eb rv).keeps λc ys ec=>?_,q,es,ep,hq,h2,h3,h4,h5⟩
  rw[aL (FI ec e (λz=>nomatch z))]
  exact ec
end
def Ds (td ty tv:TE):TS:=λD σ H=>tv σ H λv H1=>td σ H1 λx H2=>ty σ H2 λy H3=>∃a,x=.ref a/\Gv H3 a y v (D.nx σ)
section
variable {X:Cx}{o i e value:Expr}{pos pos' tpos:Pos}{td ty tv:TE}
theorem BY (hu:X.A.units+1<cLine) (ho:PE X o td) (hi:PE X i ty) (hv:PE X value tv) (hs:swapsWith value (some (.Subscript o i pos')) pos.line X.env=pure false) :
  PS X (.Assign [.Subscript o i pos'] value pos) (Ds td ty tv):=by
 intro pins s σ H D I h
 refine wpAny_Assign_Subscript (thn (hv pins s σ H _ I h) λr s1 ⟨v,H1,I1,rv,q1⟩=>thn (ho pins s1 σ H1 _ I1 q1) λu s2 ⟨x,H2,I2,rx,q2⟩=>thn (hi pins s2 σ H2 _ I2 q2) λiv s3 ⟨y,H3,I3,ry,a,ex,g⟩=>?_) hs
 subst ex
 obtain rfl:u=Value.ref a:=rx
 exact yG hu I3 g ry rv λH4 s4 q3 I4=>⟨σ,H4,I4,q3⟩
end
theorem zQ {P:Program}{w:World}{H:Hp}(h:Heap) (hb:sysModules<h.objs.size):bH P w H (h.push { cls:=.type "dict",data:=.dict #[] }) h.objs.size (.dK [] { cls:=.type "dict",data:=.dict #[] }) :=
 ⟨Heap.get?_push_size _ rfl,Nat.zero_le _,beq_eq_false_iff_ne.mpr (Ne.symm (Nat.ne_of_lt hb)),[],.nil,Heap.DictOf.new h⟩
theorem zR {P:Program}{w:World}{H:Hp}(h:Heap) (hb:sysModules<h.objs.size):bH P w H (h.push { cls:=.type "dict",data:=.dict #[] }) h.objs.size (.dT []) :=
 ⟨Nat.zero_le _,beq_eq_false_iff_ne.mpr (Ne.symm (Nat.ne_of_lt hb)),[],.nil,_,#[],0,Heap.get?_push_size _ rfl,⟨rfl,rfl,rfl⟩,rfl,rfl,List.nodup_nil⟩
def zS:TE:=λ_ H Q=>∀p,H p=none->Q (.ref p) (upd H p (.dT []))
section
variable {X:Cx}{pos:Pos}
theorem zT:PE X (.Dict [] [] pos) zS:=λpins s σ H Q I h =>
 wpAny_Dict_empty ⟨.ref s.heap.objs.size,_,I.laid (a:=s.heap.objs.size) (o:=.dT []) (t':=s.toks) (λ_ _ q=>Heap.get?_push_of_some _ q) (Nat.le_refl _) (zR s.heap I.big),rfl,h _ (I.hok.fresh (Nat.le_refl _))⟩
end
structure M1 (X:Cx) (o:Expr) (m:Str) (apos:Pos) (e:Expr) (cpos:Pos):Prop where
 base:attributeBase o m X.env (eval o X.env)=eval o X.env
 few:((backTo cpos (starEach [e] X.env)).all (λx=>!x.1) && (backToKw cpos (keywordEach [] X.env)).all (λx=>x.1.isSome)
  && decide (([e]:List Expr).length+([]:List Keyword).length+(if([]:List Keyword).isEmpty then 0 else 1)<30))=true
 line:(apos.endLine == cpos.line)=true
 trees:backTo cpos (starEach [e] X.env)=[(false,eval e X.env)]
def IsD (H:Hp) (a:Addr):Prop:=(∃kvs ob,Rd H a (.dK kvs ob)) ∨ ∃kvs,Rd H a (.dT kvs)
theorem EC {X:Cx}{pins:List (Addr×Obj)}{σ:St}{H:Hp}{s:Shared}{a:Addr}(I:Inv X pins σ H s) (d:IsD H a) :
  s.TypeIs (.ref a) "dict"/\(∀b,Value.ref a=.ref b->∃ob,s.heap.get? b=some ob/\ob.dict=none)/\(a == sysModules)=false:=by
 rcases d with ⟨kvs,ob0,e⟩|⟨kvs,e⟩
 ·obtain⟨_,hd,vs,_,dd⟩:=zN I.hok e
  refine⟨dd.typeIs,λb q=>?_,hd⟩
  cases q
  obtain⟨ob,_,_,h1,h2,_⟩:=dd
  exact⟨ob,h1,h2.2.1⟩
 ·obtain⟨_,hd,xs,_,dd⟩:=zO I.hok e
  refine⟨dd.typeIs,λb q=>?_,hd⟩
  cases q
  obtain⟨ob,_,_,h1,h2,_⟩:=dd
  exact⟨ob,h1,h2.2.1⟩
section
variable {X:Cx}{pins:List (Addr×Obj)}{σ:St}{H:Hp}{s:Shared}{a:Addr}{y d:V}{u r:Value}{o:Option V}{A:Around}{E:Value->Shared->Prop}
theorem ED {Q:Value->Shared->Prop}(hu:A.units+1<cLine) (I:Inv X pins σ H s) (g:BX H a y o) (ry:aT y u) (h:∀w' s',Inv X pins σ H s'->aT (o.getD .non) w'->Q w' s') :
  wpAny (model X.prog X.w) A (call (.builtin "dict.get") [.ref a,u]) Q E s:=by
 rcases g with ⟨kvs,k,ob,e,ey,l⟩|⟨kvs,k,b,e,ey,eb,l⟩
 ·subst ey
  obtain⟨z,hd,vs,rel,dd⟩:=zN I.hok e
  refine call_meetsIn PySem.F.slot_dict_get dd.typeIs PySem.F.entry_dict_get (PySem.F.args_dict_get_2 _ _) (meets_dict_get (ce X.prog X.w) a (xc ry) hd) ⟨_,dd.mapOf,h _ _ (I.tok _) ?_⟩
  rw[l]
  exact(rel.val k).getD rfl
 ·subst ey
  cases (show u=Value.ref b from ry)
  obtain⟨z,hd,xs,rel,dd⟩:=zO I.hok e
  refine call_meetsIn PySem.F.slot_dict_get dd.typeIs PySem.F.entry_dict_get (PySem.F.args_dict_get_2 _ _) (meetsH_dict_get (tupleKind (ce X.prog X.w)) a b hd) ⟨tupleKind_room_in1 hu,k,xs,vL I.hok eb,dd,h _ _ (I.tok _) ?_⟩
  rw[l]
  exact(rel.val k).getD rfl
end
def EE (td ty:TE):TE:=λσ H Q=>td σ H λx H1=>∃a,x=.ref a/\IsD H1 a/\ty σ H1 λy H2=>∃o,BX H2 a y o/\Q (o.getD .non) H2
section
variable {X:Cx}{o e f:Expr}{apos cpos:Pos}{td ty tx:TE}
theorem sO (hu:X.A.units+1<cLine) (ho:PE X o td) (he:PE X e ty) (m:M1 X o "get" apos e cpos):PE X (.Call (.Attribute o "get" apos) [e] [] cpos) (EE td ty):=by
 intro pins s σ H Q I h
 refine wpAny_Call_method m.base m.few m.line PySem.F.plainAttrs_dict PySem.F.slot_dict_get PySem.F.type_dict_get (thn (ho pins s σ H _ I h) λu s1 ⟨x,H1,I1,rx,a,ex,d,q1⟩=>?_)
 subst ex
 obtain rfl:u=Value.ref a:=rx
 obtain⟨t1,t2,_⟩:=EC I1 d
 refine⟨t1,t2, ?_⟩
 rw[m.trees]
 refine Calls.callWith_builtin rfl (Calls.evalArgs_plain (Calls.spliced_cons (thn (he pins s1 σ H1 _ I1 q1) λiv s2 ⟨y,H2,I2,ry,ov,g,q2⟩=>Calls.spliced_nil ?_)))
 exact ED hu I2 g ry λw' s3 I3 rw'=>⟨_,H2,I3,rw',q2⟩
end
end L2
namespace DL
open PySem L2
set_option linter.all false
abbrev St:=L2.St
inductive D where
 | non|bl (b:Bool)|int (i:Int)|str (x:Str)|ty (n:String)|tup (ds:List D)|lst (ds:List D)
  | dk (ks:List Key) (vs:List D)|dt (ks:List (List Key)) (vs:List D)
mutual
inductive Is (K:PySem.W.Frag) (H:Hp):V->D->Prop where
 | non:Is K H .non .non
 | bl (b:Bool):Is K H (.bl b) (.bl b)
 | int (i:Int):Is K H (.int i) (.int i)
 | str (x:Str):Is K H (.str x) (.str x)
 | ty (n:String):Is K H (.ty n) (.ty n)
 | tup {a:Addr}{vs:List V}{ds:List D}(h:SqT K H a vs) (hs:IsL K H vs ds):Is K H (.ref a) (.tup ds)
 | lst {a:Addr}{vs:List V}{ds:List D}(h:SqL K H a vs) (hs:IsL K H vs ds):Is K H (.ref a) (.lst ds)
 | dk {a:Addr}{ks:List Key}{vs:List V}{ds:List D}{ob:Obj}(h:H a=some (.dK (ks.zip vs) ob)) (hl:ks.length=vs.length) (hs:IsL K H vs ds):Is K H (.ref a) (.dk ks ds)
 | dt {a:Addr}{ks:List (List Key)}{vs:List V}{ds:List D}(h:H a=some (.dT (ks.zip vs))) (hl:ks.length=vs.length) (hs:IsL K H vs ds):Is K H (.ref a) (.dt ks ds)
inductive IsL (K:PySem.W.Frag) (H:Hp):List V->List D->Prop where
 | nil:IsL K H [] []
 | cons {v:V}{d:D}{vs:List V}{ds:List D}(h:Is K H v d) (hs:IsL K H vs ds):IsL K H (v::vs) (d::ds)
end
mutual
def bi:D->Bool
 | .lst _=>false
 | .dk _ _=>false
 | .dt _ _=>false
 | .tup ds=>bx ds
 | _=>true
def bx:List D->Bool
 | []=>true
 | d::ds=>bi d && bx ds
end
@[simp] theorem F3:bi .non=true:=by simp only[bi]
@[simp] theorem Gw (b:Bool):bi (.bl b)=true:=by simp only[bi]
@[simp] theorem F4 (i:Int):bi (.int i)=true:=by simp only[bi]
@[simp] theorem F5 (x:Str):bi (.str x)=true:=by simp only[bi]
@[simp] theorem Gx (x:String):bi (.ty x)=true:=by simp only[bi]
@[simp] theorem F6 (ds:List D):bi (.tup ds)=bx ds:=by rw[bi]
@[simp] theorem F7 (ds:List D):bi (.lst ds)=false:=by rw[bi]
@[simp] theorem Gy (ks:List Key) (ds:List D):bi (.dk ks ds)=false:=by rw[bi]
@[simp] theorem Gz (ks:List (List Key)) (ds:List D):bi (.dt ks ds)=false:=by rw[bi]
@[simp] theorem EF:bx []=true:=by rw[bx]
@[simp] theorem Dt (d:D) (ds:List D):bx (d::ds)=(bi d && bx ds):=by rw[bx]
section
variable {K:PySem.W.Frag}{H H':Hp}
mutual
theorem Is.keep (hT:∀a vs,SqT K H a vs->SqT K H' a vs) (hL:∀a vs,SqL K H a vs->SqL K H' a vs) (hK:∀a kvs ob,H a=some (.dK kvs ob)->H' a=some (.dK kvs ob)) (hM:∀a kvs,H a=some (.dT kvs)->H' a=some (.dT kvs)):∀ {v:V}{d:D},Is K H v d->Is K H' v d
 | _,_,.non=>.non
 | _,_,.bl b=>.bl b
 | _,_,.int i=>.int i
 | _,_,.str x=>.str x
 | _,_,.ty x=>.ty x
 | _,_,.tup h hs=>.tup (hT _ _ h) (IsL.keep hT hL hK hM hs)
 | _,_,.lst h hs=>.lst (hL _ _ h) (IsL.keep hT hL hK hM hs)
 | _,_,.dk h hl hs=>.dk (hK _ _ _ h) hl (IsL.keep hT hL hK hM hs)
 | _,_,.dt h hl hs=>.dt (hM _ _ h) hl (IsL.keep hT hL hK hM hs)
theorem IsL.keep (hT:∀a vs,SqT K H a vs->SqT K H' a vs) (hL:∀a vs,SqL K H a vs->SqL K H' a vs) (hK:∀a kvs ob,H a=some (.dK kvs ob)->H' a=some (.dK kvs ob)) (hM:∀a kvs,H a=some (.dT kvs)->H' a=some (.dT kvs)):∀ {vs:List V}{ds:List D},IsL K H vs ds->IsL K H' vs ds
 | _,_,.nil=>.nil
 | _,_,.cons h hs=>.cons (Is.keep hT hL hK hM h) (IsL.keep hT hL hK hM hs)
end
mutual
theorem Is.keepT (hT:∀a vs,SqT K H a vs->SqT K H' a vs):∀ {v:V}{d:D},Is K H v d->bi d=true->Is K H' v d
 | _,_,.non,_=>.non
 | _,_,.bl b,_=>.bl b
 | _,_,.int i,_=>.int i
 | _,_,.str x,_=>.str x
 | _,_,.ty x,_=>.ty x
 | _,_,.tup h hs,n=>.tup (hT _ _ h) (IsL.keepT hT hs (by simpa using n))
 | _,_,.lst h hs,n=>by simp at n
 | _,_,.dk h hl hs,n=>by simp at n
 | _,_,.dt h hl hs,n=>by simp at n
theorem IsL.keepT (hT:∀a vs,SqT K H a vs->SqT K H' a vs):∀ {vs:List V}{ds:List D},IsL K H vs ds->bx ds=true->IsL K H' vs ds
 | _,_,.nil,_=>.nil
 | _,_,.cons h hs,n=>by
  simp at n
  exact .cons (Is.keepT hT h n.1) (IsL.keepT hT hs n.2)
end
theorem bd {a:Addr}{xs:List V}(e:aR H H') (h:SqT K H a xs):SqT K H' a xs:=by
 rcases h with (h|⟨o,h⟩)|h
 ·exact .inl (.inl (e _ _ h))
 ·exact .inl (.inr ⟨o,e _ _ h⟩)
 ·exact .inr h
theorem Is.mono {v:V}{d:D}(h:Is K H v d) (e:aR H H'):Is K H' v d:=h.keep (λ_ _=>bd e) (λ_ _=>e.seq) (λ_ _ _ q=>e _ _ q) λ_ _ q=>e _ _ q
theorem IsL.mono {v:List V}{d:List D}(h:IsL K H v d) (e:aR H H'):IsL K H' v d:=h.keep (λ_ _=>bd e) (λ_ _=>e.seq) (λ_ _ _ q=>e _ _ q) λ_ _ q=>e _ _ q
theorem IsL.length:∀ {vs:List V}{ds:List D},IsL K H vs ds->vs.length=ds.length
 | _,_,.nil=>rfl
 | _,_,.cons _ t=>congrArg (· + 1) t.length
theorem IsL.get:∀ {vs:List V}{ds:List D}{i:Nat}{d:D},IsL K H vs ds->ds[i]? = some d->∃v,vs[i]? = some v/\Is K H v d
 | _,_,_,_,.nil,e=>by simp at e
 | _,_,0,_,.cons h _,e=>by simp at e;subst e;exact⟨_,rfl,h⟩
 | _,_,i+1,d,.cons _ t,e=>by
  obtain⟨u,h1,h2⟩:=t.get (i:=i) (d:=d) (by simpa using e)
  exact⟨u,by simpa using h1,h2⟩
theorem IsL.append:∀ {vs ws:List V}{ds es:List D},IsL K H vs ds->IsL K H ws es->IsL K H (vs++ws) (ds++es)
 | _,_,_,_,.nil,s=>s
 | _,_,_,_,.cons r t,s=>.cons r (t.append s)
theorem IsL.take:∀ {vs:List V}{ds:List D}(n:Nat),IsL K H vs ds->IsL K H (vs.take n) (ds.take n)
 | _,_,0,_=>by simpa using IsL.nil
 | _,_,_+1,.nil=>.nil
 | _,_,n+1,.cons r t=>.cons r (t.take n)
theorem IsL.drop:∀ {vs:List V}{ds:List D}(n:Nat),IsL K H vs ds->IsL K H (vs.drop n) (ds.drop n)
 | _,_,0,r=>r
 | _,_,_+1,.nil=>.nil
 | _,_,n+1,.cons _ t=>t.drop n
theorem IsL.set {v:V}{d:D}(h:Is K H v d):∀ {vs:List V}{ds:List D}(i:Nat),IsL K H vs ds->IsL K H (vs.set i v) (ds.set i d)
 | _,_,_,.nil=>.nil
 | _,_,0,.cons _ t=>.cons h t
 | _,_,i+1,.cons r t=>.cons r (IsL.set h i t)
theorem IsL.eraseIdx:∀ {vs:List V}{ds:List D}(i:Nat),IsL K H vs ds->IsL K H (vs.eraseIdx i) (ds.eraseIdx i)
 | _,_,_,.nil=>.nil
 | _,_,0,.cons _ t=>t
 | _,_,i+1,.cons r t=>.cons r (t.eraseIdx i)
theorem IsL.flat {vs:List V}{ns:List Int}(h:vs=ns.map V.int):IsL K H vs (ns.map D.int):=by
 subst h
 induction ns with
 | nil=>exact .nil
 | cons n ns ih=>exact .cons (.int n) ih
end
structure Ext (B N H H':Hp):Prop where
 hh:aR H H'
 bn:aR B N
 nh:aR N H'
 new:∀a o,N a=some o->B a=some o∨H a=none
theorem Ext.refl {B H:Hp}(h:aR B H):Ext B B H H:=⟨.refl _,.refl _,h,λ_ _ e=>.inl e⟩
theorem Ext.trans {B N H H1 N2 H2:Hp}(x:Ext B N H H1) (y:Ext N N2 H1 H2):Ext B N2 H H2 :=
 ⟨x.hh.trans y.hh,x.bn.trans y.bn,y.nh,λa o e=>(y.new a o e).elim (λq=>x.new a o q) λq=>.inr (x.hh.free q)⟩
theorem Ext.laid {B H:Hp}{p:Addr}{o:HO}(h:aR B H) (hp:H p=none):Ext B (upd B p o) H (upd H p o):=by
 have hB:B p=none:=h.free hp
 refine⟨λa u e=>?_,λa u e=>?_,λa u e=>?_,λa u e=>?_⟩
 ·rw[aL (λq=>by subst q;rw[hp]at e;cases e)];exact e
 ·rw[aL (λq=>by subst q;rw[hB]at e;cases e)];exact e
 ·by_cases q:a=p
  ·subst q;rw[aJ]at e ⊢;exact e
  ·rw[aL q]at e ⊢;exact h _ _ e
 ·by_cases q:a=p
  ·subst q;exact .inr hp
  ·rw[aL q]at e;exact .inl e
theorem Ext.grow {B H H':Hp}(h:aR B H) (hh:aR H H'):Ext B B H H':=⟨hh,.refl _,h.trans hh,λ_ _ e=>.inl e⟩
abbrev Env:=List (Option (D×Bool))
abbrev FE:=Env->Option (D×Bool)
abbrev FA:=Env->Option (List D)
abbrev FT:=Env->Option Bool
def Fsh (K:PySem.W.Frag) (H N:Hp) (v:V) (d:D):Prop:=∃(a:Addr) (vs:List V) (ds:List D),v=.ref a/\d=.lst ds/\H a=none/\N a=some (.lst vs)/\IsL K N vs ds
theorem Fsh.back {K:PySem.W.Frag}{H H' N:Hp}{v:V}{d:D}(h:Fsh K H' N v d) (e:aR H H'):Fsh K H N v d:=let ⟨a,vs,ds,q,y,z,r⟩:=h;⟨a,vs,ds,q,y,e.free z,r⟩
def jL:List Str:=["in_order","has_seal","is_first_death","bases_by"]
def mJ (x:Str):Str:=x ++ ".<locals>." ++ "<lambda>"
def Tb (K:PySem.W.Frag) (B:Hp):Prop:=∀x∈jL,∀c P,PySem.W.tabIn K x=some (c,P)->B P=some (.tbl (mJ x))
theorem Tb.mono {K:PySem.W.Frag}{B B':Hp}(h:Tb K B) (e:aR B B'):Tb K B':=λx hx c P q=>e _ _ (h x hx c P q)
structure RepE (K:PySem.W.Frag) (B:Hp) (σ:St) (ρ:Env):Prop where
 tb:Tb K B
 at':∀(i:Nat) (d:D) (b:Bool),ρ[i]? = some (some (d,b))->∃v,σ[i]? = some (some v)/\Is K B v d
theorem RepE.mono {K:PySem.W.Frag}{B B':Hp}{σ:St}{ρ:Env}(h:RepE K B σ ρ) (e:aR B B'):RepE K B' σ ρ:=⟨h.tb.mono e,λi d b q=>let ⟨v,h1,h2⟩:=h.at' i d b q;⟨v,h1,h2.mono e⟩⟩
def Fin (K:PySem.W.Frag) (B H:Hp) (d:D) (b:Bool) (Q:VK):Prop:=∀(v:V) (H' N:Hp),Ext B N H H'->Is K N v d->(b=true->Fsh K H N v d)->Q v H'
def tD (K:PySem.W.Frag) (f:FE):TE:=λσ H Q=>∃(B:Hp) (ρ:Env) (d:D) (b:Bool),aR B H/\RepE K B σ ρ/\f ρ=some (d,b)/\Fin K B H d b Q
def tDT (K:PySem.W.Frag) (f:FT):TT:=λσ H Q=>∃(B:Hp) (ρ:Env) (c:Bool),aR B H/\RepE K B σ ρ/\f ρ=some c/\∀H',aR H H'->Q c H'
def tDA (K:PySem.W.Frag) (f:FA):TA:=λσ H Q=>∃(B:Hp) (ρ:Env) (ds:List D),aR B H/\RepE K B σ ρ/\f ρ=some ds/\∀(vs:List V) (H' N:Hp),Ext B N H H'->IsL K N vs ds->Q vs H'
def rD (K:PySem.W.Frag) (op:D->D->Option (D×Bool)):R2:=λx y H Q=>∃(B:Hp) (dx dy d:D) (b:Bool),aR B H/\Is K B x dx/\Is K B y dy/\op dx dy=some (d,b)/\Fin K B H d b Q
def rDU (K:PySem.W.Frag) (op:D->Option (D×Bool)):V->Hp->VK->Prop:=λx H Q=>∃(B:Hp) (dx d:D) (b:Bool),aR B H/\Is K B x dx/\op dx=some (d,b)/\Fin K B H d b Q
def rDA (K:PySem.W.Frag) (op:List D->Option (D×Bool)):List V->Hp->VK->Prop:=λxs H Q=>∃(B:Hp) (ds:List D) (d:D) (b:Bool),aR B H/\IsL K B xs ds/\op ds=some (d,b)/\Fin K B H d b Q
theorem Fin.one {K:PySem.W.Frag}{B H:Hp}{d:D}{Q:VK}(h:Fin K B H d false Q) (s:aR B H) {v:V}(i:Is K B v d):Q v H:=h v H B (.refl s) i (by simp)
theorem Fin.into {K:PySem.W.Frag}{B N H H1:Hp}{d:D}{b:Bool}{Q:VK}(h:Fin K B H d b Q) (x:Ext B N H H1):Fin K N H1 d b Q:=λv H' N' y i fr=>h v H' N' (x.trans y) i λe=>(fr e).back x.hh
@[simp] def fC (d:D):FE:=λ_=>some (d,false)
@[simp] def af (i:Nat):FE:=λρ=>match ρ[i]? with|some (some (d,_))=>some (d,false)|_=>none
@[simp] def f2 (op:D->D->Option (D×Bool)) (fa fb:FE):FE:=λρ=>(fa ρ).bind λx=>(fb ρ).bind λy=>op x.1 y.1
@[simp] def f1 (op:D->Option (D×Bool)) (fa:FE):FE:=λρ=>(fa ρ).bind λx=>op x.1
@[simp] def aj:FA:=λ_=>some []
@[simp] def ae (fa:FE) (fr:FA):FA:=λρ=>(fa ρ).bind λx=>(fr ρ).bind λxs=>some (x.1::xs)
@[simp] def fA (op:List D->Option (D×Bool)) (fa:FA):FE:=λρ=>(fa ρ).bind op
theorem EG {K:PySem.W.Frag}{i:Nat}{σ:St}{H:Hp}{Q:VK}(h:tD K (af i) σ H Q):∃v,σ[i]? = some (some v)/\Q v H:=by
 obtain⟨B,ρ,d,b,s,r,e,q⟩:=h
 unfold af at e
 split at e
 ·rename_i d' b' e'
  cases e
  obtain⟨v,h1,h2⟩:=r.at' i _ _ e'
  exact⟨v,h1,q.one s h2⟩
 ·cases e
theorem BZ {K:PySem.W.Frag}{op:D->D->Option (D×Bool)}{fa fb:FE}{σ:St}{H:Hp}{Q:VK}(h:tD K (f2 op fa fb) σ H Q):tD K fa σ H λx H1=>tD K fb σ H1 λy H2=>rD K op x y H2 Q:=by
 obtain⟨B,ρ,d,b,s,r,e,q⟩:=h
 obtain⟨x,ex,e⟩:=oX e
 obtain⟨y,ey,e⟩:=oX e
 refine⟨B,ρ,x.1,x.2,s,r,ex,λv H1 N x1 i1 _=>⟨N,ρ,y.1,y.2,x1.nh,r.mono x1.bn,ey,λv2 H2 N2 x2 i2 _=>⟨N2,x.1,y.1,d,b,x2.nh,i1.mono x2.bn,i2,e, ?_⟩⟩⟩
 exact q.into (x1.trans x2)
theorem Hz {K:PySem.W.Frag}{op:D->Option (D×Bool)}{fa:FE}{σ:St}{H:Hp}{Q:VK}(h:tD K (f1 op fa) σ H Q):tD K fa σ H λx H1=>rDU K op x H1 Q:=by
 obtain⟨B,ρ,d,b,s,r,e,q⟩:=h
 obtain⟨x,ex,e⟩:=oX e
 exact⟨B,ρ,x.1,x.2,s,r,ex,λv H1 N x1 i1 _=>⟨N,x.1,d,b,x1.nh,i1,e,q.into x1⟩⟩
theorem Ca {K:PySem.W.Frag}{op:List D->Option (D×Bool)}{fa:FA}{σ:St}{H:Hp}{Q:VK}(h:tD K (fA op fa) σ H Q):tDA K fa σ H λxs H1=>rDA K op xs H1 Q:=by
 obtain⟨B,ρ,d,b,s,r,e,q⟩:=h
 obtain⟨x,ex,e⟩:=oX e
 exact⟨B,ρ,x,s,r,ex,λv H1 N x1 i1=>⟨N,x,d,b,x1.nh,i1,e,q.into x1⟩⟩
theorem Cb {K:PySem.W.Frag}{σ:St}{H:Hp}{Q:List V->Hp->Prop}(h:tDA K aj σ H Q):Q [] H:=by
 obtain⟨B,ρ,ds,s,r,e,q⟩:=h
 cases e
 exact q [] H B (.refl s) .nil
theorem zU {K:PySem.W.Frag}{fa:FE}{fr:FA}{σ:St}{H:Hp}{Q:List V->Hp->Prop}(h:tDA K (ae fa fr) σ H Q):tD K fa σ H λx H1=>tDA K fr σ H1 λxs H2=>Q (x::xs) H2:=by
 obtain⟨B,ρ,ds,s,r,e,q⟩:=h
 obtain⟨x,ex,e⟩:=oX e
 obtain⟨y,ey,e⟩:=oX e
 cases e
 exact⟨B,ρ,x.1,x.2,s,r,ex,λv H1 N x1 i1 _=>⟨N,ρ,y,x1.nh,r.mono x1.bn,ey,λvs H2 N2 x2 i2=>q _ H2 N2 (x1.trans x2) (.cons (i1.mono x2.bn) i2)⟩⟩
@[simp] def tOf (f:FE):FT:=λρ=>match f ρ with|some (.bl c,_)=>some c|_=>none
@[simp] def cD (f g:FT):FT:=λρ=>match f ρ with|some true=>g ρ|some false=>some false|none=>none
@[simp] def hU (f g:FT):FT:=λρ=>match f ρ with|some true=>some true|some false=>g ρ|none=>none
@[simp] def fZ (f:FT):FT:=λρ=>(f ρ).map (!·)
@[simp] def fIf (c:FT) (f g:FE):FE:=λρ=>match c ρ with|some true=>f ρ|some false=>g ρ|none=>none
open Classical in
noncomputable def cut (H:Hp) (P:Addr->Prop):Hp:=λa=>if P a then none else H a
theorem cm {H:Hp}{P:Addr->Prop}{a:Addr}(h:¬P a):cut H P a=H a:=by unfold cut;rw[if_neg h]
theorem vM {H:Hp}{P:Addr->Prop}{a:Addr}(h:P a):cut H P a=none:=by unfold cut;rw[if_pos h]
theorem mK {H:Hp}{P:Addr->Prop}{a:Addr}{o:HO}(h:cut H P a=some o):¬P a/\H a=some o:=by
 by_cases q:P a
 ·rw[vM q]at h;cases h
 ·rw[cm q]at h;exact⟨q,h⟩
theorem bN {H:Hp}{P:Addr->Prop}:aR (cut H P) H:=λ_ _ e=>(mK e).2
theorem dw {H H':Hp}{P P':Addr->Prop}(e:∀a o,H a=some o->¬P a->H' a=some o/\¬P' a):aR (cut H P) (cut H' P'):=λa o q=>by
 obtain⟨h1,h2⟩:=mK q
 obtain⟨h3,h4⟩:=e a o h2 h1
 rw[cm h4];exact h3
def join (N N':Hp):Hp:=λa=>match N a with|some o=>some o|none=>N' a
theorem dj {N N':Hp}:aR N (join N N'):=λa o e=>by unfold join;rw[e]
theorem cV {N N':Hp}{a:Addr}(e:N a=none):join N N' a=N' a:=by unfold join;rw[e]
def own (σ:St) (ρ:Env) (a:Addr):Prop:=∃(i:Nat) (d:D),ρ[i]? = some (some (d,true))/\σ[i]? = some (some (V.ref a))
inductive Bx (K:PySem.W.Frag) (C:Hp):HO->D->Prop where
 | lst {vs:List V}{ds:List D}(h:IsL K C vs ds):Bx K C (.lst vs) (.lst ds)
 | dk {ks:List Key}{vs:List V}{ds:List D}(hl:ks.length=vs.length) (h:IsL K C vs ds) {ob:Obj}:Bx K C (.dK (ks.zip vs) ob) (.dk ks ds)
 | dt {ks:List (List Key)}{vs:List V}{ds:List D}(hl:ks.length=vs.length) (h:IsL K C vs ds):Bx K C (.dT (ks.zip vs)) (.dt ks ds)
theorem Bx.mono {K:PySem.W.Frag}{C C':Hp}{o:HO}{d:D}(h:Bx K C o d) (e:aR C C'):Bx K C' o d:=by
 cases h with
 | lst h=>exact .lst (h.mono e)
 | dk hl h=>exact .dk hl (h.mono e)
 | dt hl h=>exact .dt hl (h.mono e)
theorem Bx.is {K:PySem.W.Frag}{C:Hp}{o:HO}{d:D}{a:Addr}(h:Bx K C o d) (e:C a=some o):Is K C (.ref a) d:=by
 cases h with
 | lst h=>exact .lst (SqL.of e) h
 | dk hl h=>exact .dk e hl h
 | dt hl h=>exact .dt e hl h
structure StN (K:PySem.W.Frag) (B0 H0 N H:Hp) (σ:St) (ρ:Env):Prop where
 bh:aR B0 H0
 tb:Tb K B0
 ext:Ext B0 N H0 H
 len:ρ.length=σ.length
 sh:∀(i:Nat) (d:D),ρ[i]? = some (some (d,false))->∃v,σ[i]? = some (some v)/\Is K (cut N (own σ ρ)) v d
 ow:∀(i:Nat) (d:D),ρ[i]? = some (some (d,true))->∃(a:Addr) (o:HO),σ[i]? = some (some (V.ref a))/\N a=some o/\H0 a=none/\Bx K (cut N (own σ ρ)) o d
 inj:∀(i j:Nat) (a:Addr) (d e:D),ρ[i]? = some (some (d,true))->ρ[j]? = some (some (e,true))->σ[i]? = some (some (V.ref a))->σ[j]? = some (some (V.ref a))->i=j
def vN (K:PySem.W.Frag) (B0 H0 H:Hp) (σ:St) (ρ:Env):Prop:=∃N,StN K B0 H0 N H σ ρ
section
variable {K:PySem.W.Frag}{B0 H0 N H H':Hp}{σ:St}{ρ:Env}
theorem StN.owL (s:StN K B0 H0 N H σ ρ) (i:Nat) (d:D) {es:List D}(q:ρ[i]? = some (some (.lst es,true))) (hd:d=.lst es:=by rfl):∃(a:Addr) (vs:List V) (ds:List D),d=.lst ds/\σ[i]? = some (some (V.ref a))/\N a=some (.lst vs)/\H0 a=none/\IsL K (cut N (own σ ρ)) vs ds:=by
 obtain⟨a,o,h1,h2,h3,h4⟩:=s.ow i _ q
 cases h4 with
 | lst h4=>exact⟨a,_,es,hd,h1,h2,h3,h4⟩
def boxed:HO->Prop
 | .lst _|.dK _ _|.dT _=>True
 | _=>False
theorem Bx.boxed {C:Hp}{o:HO}{d:D}(h:Bx K C o d):boxed o:=by cases h<;>exact trivial
theorem StN.owned (s:StN K B0 H0 N H σ ρ) {a:Addr}(h:own σ ρ a):∃o,(N a=some o/\boxed o)/\H0 a=none:=by
 obtain⟨i,d,h1,h2⟩:=h
 obtain⟨a',o,h3,h4,h5,h6⟩:=s.ow i d h1
 rw[h2]at h3;cases h3
 exact⟨o,⟨h4,h6.boxed⟩,h5⟩
theorem StN.rep (s:StN K B0 H0 N H σ ρ):RepE K N σ ρ:=⟨s.tb.mono s.ext.bn,λi d b q=>by
 cases b with
 | false=>obtain⟨v,h1,h2⟩:=s.sh i d q;exact⟨v,h1,h2.mono bN⟩
 | true =>
  obtain⟨a,o,h2,h3,_,h4⟩:=s.ow i d q
  exact⟨_,h2,(h4.mono bN).is h3⟩⟩
def sP (ρ:Env):Env:=ρ.map λx=>match x with|some (d,false)=>some (d,false)|_=>none
theorem zV {i:Nat}{d:D}{b:Bool}(h:(sP ρ)[i]? = some (some (d,b))):b=false/\ρ[i]? = some (some (d,false)):=by
 unfold sP at h
 rw[List.getElem?_map]at h
 cases e:ρ[i]? with
 | none=>rw[e]at h;cases h
 | some x =>
  rw[e]at h
  match x,h with
  | some (d',false),h=>cases h;exact⟨rfl,rfl⟩
  | some (d',true),h=>cases h
  | none,h=>cases h
theorem StN.tbC (s:StN K B0 H0 N H σ ρ):Tb K (cut N (own σ ρ)):=λx hx c P q=>by
 have z:=s.tb.mono s.ext.bn x hx c P q
 rw[cm]
 ·exact z
 ·intro y
  obtain⟨o,⟨y,yb⟩,_⟩:=s.owned y
  rw[z]at y;cases y;exact yb
theorem StN.repH (s:StN K B0 H0 N H σ ρ):RepE K (cut N (own σ ρ)) σ (sP ρ):=⟨s.tbC,λi d b q=>by
 obtain⟨rfl,q2⟩:=zV q
 exact s.sh i d q2⟩
theorem StN.grow (s:StN K B0 H0 N H σ ρ) {N':Hp}(x:Ext N N' H H'):StN K B0 H0 N' H' σ ρ:=by
 have c:aR (cut N (own σ ρ)) (cut N' (own σ ρ)):=dw λa o e q=>⟨x.bn a o e,q⟩
 refine⟨s.bh,s.tb,s.ext.trans x,s.len,λi d q=>?_,λi d q=>?_,s.inj⟩
 ·obtain⟨v,h1,h2⟩:=s.sh i d q;exact⟨v,h1,h2.mono c⟩
 ·obtain⟨a,o,h2,h3,h4,h5⟩:=s.ow i d q
  exact⟨a,o,h2,x.bn _ _ h3,h4,h5.mono c⟩
theorem StN.growH (s:StN K B0 H0 N H σ ρ) {N':Hp}(x:Ext (cut N (own σ ρ)) N' H H'):StN K B0 H0 (join N N') H' σ ρ/\aR N' (cut (join N N') (own σ ρ)):=by
 have x':Ext N (join N N') H H':=by
  refine⟨x.hh,dj,λa o e=>?_,λa o e=>?_⟩
  ·cases q:N a with
   | some u =>
    have:join N N' a=some u:=dj _ _ q
    rw[this]at e;cases e
    exact x.hh _ _ (s.ext.nh _ _ q)
   | none=>rw[cV q]at e;exact x.nh _ _ e
  ·cases q:N a with
   | some u =>
    have:join N N' a=some u:=dj _ _ q
    rw[this]at e;cases e
    exact .inl rfl
   | none =>
    rw[cV q]at e
    rcases x.new a o e with z|z
    ·have:=bN _ _ z;rw[q]at this;cases this
    ·exact .inr z
 refine⟨s.grow x',λa o e=>?_⟩
 rcases x.new a o e with z|z
 ·obtain⟨z1,z2⟩:=mK z
  rw[cm z1];exact dj _ _ z2
 ·have hN:N a=none:=s.ext.nh.free z
  have:¬own σ ρ a:=λq=>by obtain⟨vs,⟨q,_⟩,_⟩:=s.owned q;rw[hN]at q;cases q
  rw[cm this,cV hN];exact e
def unown (ρ:Env):Env:=ρ.map λx=>x.map λy=>(y.1,false)
theorem iJ {i:Nat}{d:D}{b:Bool}(h:(unown ρ)[i]? = some (some (d,b))):b=false/\∃c,ρ[i]? = some (some (d,c)):=by
 unfold unown at h
 rw[List.getElem?_map]at h
 cases e:ρ[i]? with
 | none=>rw[e]at h;cases h
 | some x =>
  rw[e]at h
  match x,h with
  | some (d',c),h=>cases h;exact⟨rfl,c,rfl⟩
  | none,h=>cases h
theorem kX {a:Addr}:¬own σ (unown ρ) a:=λ⟨i,d,h,_⟩=>by
 obtain⟨z,_⟩:=iJ h;cases z
theorem StN.unown (s:StN K B0 H0 N H σ ρ):StN K B0 H0 N H σ (unown ρ):=by
 refine⟨s.bh,s.tb,s.ext,by unfold DL.unown;rw[List.length_map];exact s.len,λi d q=>?_,λi d q=>?_,λi j a d e q=>?_⟩
 ·obtain⟨_,c,q⟩:=iJ q
  obtain⟨v,h1,h2⟩:=s.rep.at' i d c q
  exact⟨v,h1,h2.mono λa o e=>by rw[cm kX];exact e⟩
 ·obtain⟨z,_⟩:=iJ q;cases z
 ·obtain⟨z,_⟩:=iJ q;cases z
theorem bL {α:Type}{l:List α}{i j:Nat}{x y:α}(h:(l.set i x)[j]? = some y):(i=j/\x=y)∨(i≠j/\l[j]? = some y):=by
 by_cases e:i=j
 ·subst e
  rw[List.getElem?_set]at h
  split at h
  ·split at h
   ·exact .inl ⟨rfl,Option.some.inj h⟩
   ·cases h
  ·contradiction
 ·rw[List.getElem?_set_ne e]at h;exact .inr ⟨e,h⟩
theorem pK {α β:Type}{l:List α}{m:List β}{i:Nat}{x y:α}(h:(l.set i x)[i]? = some y) (e:l.length=m.length):i<m.length:=by
 obtain⟨h,_⟩:=List.getElem?_eq_some_iff.mp h
 rw[List.length_set]at h;omega
theorem qZ {i:Nat}{v:V}{x:Option (D×Bool)}{a:Addr}(h:own (σ.set i (some v)) (ρ.set i x) a):(v=.ref a/\∃d,x=some (d,true)) ∨ ∃j,j≠i/\∃d,ρ[j]? = some (some (d,true))/\σ[j]? = some (some (V.ref a)):=by
 obtain⟨j,d,h1,h2⟩:=h
 rcases bL h1 with ⟨e,q⟩|⟨e,q⟩
 ·rcases bL h2 with ⟨e2,q2⟩|⟨e2,q2⟩
  ·cases q2;exact .inl ⟨rfl,d,q⟩
  ·exact absurd e e2
 ·rcases bL h2 with ⟨e2,q2⟩|⟨e2,q2⟩
  ·exact absurd e2 e
  ·exact .inr ⟨j,λz=>e z.symm,d,q,q2⟩
theorem StN.bind (s:StN K B0 H0 N H σ ρ) {i:Nat}{v:V}{d:D}(h:Is K (cut N (own σ ρ)) v d):StN K B0 H0 N H (σ.set i (some v)) (ρ.set i (some (d,false))):=by
 have o:∀a,own (σ.set i (some v)) (ρ.set i (some (d,false))) a->own σ ρ a:=λa q=>by
  rcases qZ q with ⟨_,d',p⟩|⟨j,_,d',q1,q2⟩
  ·cases p
  ·exact⟨j,d',q1,q2⟩
 have c:aR (cut N (own σ ρ)) (cut N (own (σ.set i (some v)) (ρ.set i (some (d,false))))):=dw λa u e q=>⟨e,λz=>q (o a z)⟩
 refine⟨s.bh,s.tb,s.ext,by simp[s.len],λj e q=>?_,λj e q=>?_,λj k a e f q q' h1 h2=>?_⟩
 ·rcases bL q with ⟨rfl,p⟩|⟨ne,p⟩
  ·cases p
   have hi:=pK q s.len
   exact⟨v,by simp[hi],h.mono c⟩
  ·obtain⟨w,h1,h2⟩:=s.sh j e p
   exact⟨w,by rw[List.getElem?_set_ne ne];exact h1,h2.mono c⟩
 ·rcases bL q with ⟨rfl,p⟩|⟨ne,p⟩
  ·cases p
  ·obtain⟨a,o,h1,h2,h3,h4⟩:=s.ow j e p
   exact⟨a,o,by rw[List.getElem?_set_ne ne];exact h1,h2,h3,h4.mono c⟩
 ·rcases bL q with ⟨rfl,p⟩|⟨ne,p⟩
  ·cases p
  ·rcases bL q' with ⟨rfl,p'⟩|⟨ne',p'⟩
   ·cases p'
   ·rw[List.getElem?_set_ne ne]at h1
    rw[List.getElem?_set_ne ne']at h2
    exact s.inj j k a e f p p' h1 h2
theorem StN.bindOwn (s:StN K B0 H0 N H σ ρ) {i:Nat}{a:Addr}{ob:HO}{dd:D}(hN:N a=some ob) (h0:H0 a=none) (hno:∀(j:Nat) (d:D),ρ[j]? = some (some (d,true))->σ[j]? ≠ some (some (V.ref a)))
  (hsh:∀(j:Nat) (d:D),j≠i->ρ[j]? = some (some (d,false))->∃v,σ[j]? = some (some v)/\Is K (cut N (λb=>own σ ρ b∨b=a)) v d) (how:∀(j:Nat) (d:D),j≠i->ρ[j]? = some (some (d,true))->∃(a':Addr) (o:HO),σ[j]? = some (some (V.ref a'))/\N a'=some o/\Bx K (cut N (λb=>own σ ρ b∨b=a)) o d)
  (hds:Bx K (cut N (λb=>own σ ρ b∨b=a)) ob dd):StN K B0 H0 N H (σ.set i (some (.ref a))) (ρ.set i (some (dd,true))):=by
 have o:∀b,own (σ.set i (some (V.ref a))) (ρ.set i (some (dd,true))) b->own σ ρ b∨b=a:=λb q=>by
  rcases qZ q with ⟨p,_⟩|⟨j,_,d',q1,q2⟩
  ·cases p;exact .inr rfl
  ·exact .inl ⟨j,d',q1,q2⟩
 have c:aR (cut N (λb=>own σ ρ b∨b=a)) (cut N (own (σ.set i (some (V.ref a))) (ρ.set i (some (dd,true))))):=dw λb u e q=>⟨e,λz=>q (o b z)⟩
 refine⟨s.bh,s.tb,s.ext,by simp[s.len],λj e q=>?_,λj e q=>?_,λj k b e f q q' h1 h2=>?_⟩
 ·rcases bL q with ⟨rfl,p⟩|⟨ne,p⟩
  ·cases p
  ·obtain⟨w,h1,h2⟩:=hsh j e (Ne.symm ne) p
   exact⟨w,by rw[List.getElem?_set_ne ne];exact h1,h2.mono c⟩
 ·rcases bL q with ⟨rfl,p⟩|⟨ne,p⟩
  ·cases p
   have hi:=pK q s.len
   exact⟨a,ob,by simp[hi],hN,h0,hds.mono c⟩
  ·obtain⟨a',o',h1,h2,h4⟩:=how j e (Ne.symm ne) p
   have h3:H0 a'=none:=by
    obtain⟨a2,_,k1,_,k3,_⟩:=s.ow j e p
    rw[h1]at k1;cases k1;exact k3
   exact⟨a',o',by rw[List.getElem?_set_ne ne];exact h1,h2,h3,h4.mono c⟩
 ·rcases bL q with ⟨rfl,p⟩|⟨ne,p⟩
  ·rcases bL q' with ⟨rfl,p'⟩|⟨ne',p'⟩
   ·rfl
   ·rw[List.getElem?_set_ne ne']at h2
    have h1':V.ref a=V.ref b:=by
     rcases bL h1 with ⟨_,z⟩|⟨z,_⟩
     ·exact Option.some.inj z
     ·exact absurd rfl z
    cases h1'
    exact absurd h2 (hno k f p')
  ·rcases bL q' with ⟨rfl,p'⟩|⟨ne',p'⟩
   ·rw[List.getElem?_set_ne ne]at h1
    have h2':V.ref a=V.ref b:=by
     rcases bL h2 with ⟨_,z⟩|⟨z,_⟩
     ·exact Option.some.inj z
     ·exact absurd rfl z
    cases h2'
    exact absurd h1 (hno j e p)
   ·rw[List.getElem?_set_ne ne]at h1
    rw[List.getElem?_set_ne ne']at h2
    exact s.inj j k b e f p p' h1 h2
end
inductive Res where
 | nx (ρ:Env)|rt (d:D) (b:Bool)|bk (ρ:Env)|ct (ρ:Env)
abbrev FS:=Env->Option Res
def G0 (K:PySem.W.Frag) (B0 H0:Hp) (E:Ends):Res->Prop
 | .nx ρ=>∀σ H,vN K B0 H0 H σ ρ->E.nx σ H
 | .rt d b=>∀v H N,Ext B0 N H0 H->Is K N v d->(b=true->Fsh K H0 N v d)->E.rt v H
 | .bk ρ=>∀σ H,vN K B0 H0 H σ ρ->E.bk σ H
 | .ct ρ=>∀σ H,vN K B0 H0 H σ ρ->E.ct σ H
def tDS (K:PySem.W.Frag) (g:FS):TS:=λE σ H=>∃(B0 H0:Hp) (ρ:Env) (r:Res),vN K B0 H0 H σ ρ/\g ρ=some r/\G0 K B0 H0 E r
section
variable {K:PySem.W.Frag}{B0 H0 N H H':Hp}{σ:St}{ρ:Env}{E:Ends}
theorem StN.writeB (s:StN K B0 H0 N H σ ρ) {i:Nat}{d dd:D}{a:Addr}{ob:HO}(hi:ρ[i]? = some (some (d,true))) (hσ:σ[i]? = some (some (V.ref a))) (h:Bx K (cut N (own σ ρ)) ob dd) :
  StN K B0 H0 (upd N a ob) (upd H a ob) σ (ρ.set i (some (dd,true))):=by
 have oa:own σ ρ a:=⟨i,d,hi,hσ⟩
 obtain⟨ws,hw,h0⟩:=s.owned oa
 have b0:B0 a=none:=s.bh.free h0
 have o:∀b,own σ (ρ.set i (some (dd,true))) b↔own σ ρ b:=λb=>by
  constructor
  ·rintro⟨j,e,q1,q2⟩
   rcases bL q1 with ⟨rfl,p⟩|⟨_,p⟩
   ·exact⟨i,d,hi,q2⟩
   ·exact⟨j,e,p,q2⟩
  ·rintro⟨j,e,q1,q2⟩
   by_cases z:i=j
   ·subst z
    exact⟨i,dd,by rw[List.getElem?_set_self (List.getElem?_eq_some_iff.mp hi).1],q2⟩
   ·exact⟨j,e,by rw[List.getElem?_set_ne z];exact q1,q2⟩
 have c:aR (cut N (own σ ρ)) (cut (upd N a ob) (own σ (ρ.set i (some (dd,true))))):=dw λb u e q=>by
  have ne:b≠a:=λz=>q (z ▸ oa)
  exact⟨by rw[aL ne];exact e,λz=>q ((o b).mp z)⟩
 refine⟨s.bh,s.tb,⟨λb u e=>?_,λb u e=>?_,λb u e=>?_,λb u e=>?_⟩,by rw[List.length_set];exact s.len,λj e q=>?_,λj e q=>?_,λj k b e f q q' h1 h2=>?_⟩
 ·rw[aL (λz=>by subst z;rw[h0]at e;cases e)];exact s.ext.hh _ _ e
 ·rw[aL (λz=>by subst z;rw[b0]at e;cases e)];exact s.ext.bn _ _ e
 ·by_cases z:b=a
  ·subst z;rw[aJ]at e ⊢;exact e
  ·rw[aL z]at e ⊢;exact s.ext.nh _ _ e
 ·by_cases z:b=a
  ·subst z;exact .inr h0
  ·rw[aL z]at e;exact s.ext.new _ _ e
 ·rcases bL q with ⟨rfl,p⟩|⟨ne,p⟩
  ·cases p
  ·obtain⟨v,h1,h2⟩:=s.sh j e p
   exact⟨v,h1,h2.mono c⟩
 ·rcases bL q with ⟨rfl,p⟩|⟨ne,p⟩
  ·cases p
   exact⟨a,ob,hσ,aJ,h0,h.mono c⟩
  ·obtain⟨a',o',h1,h2,h3,h4⟩:=s.ow j e p
   have na:a'≠a:=λz=>by subst z;exact ne (s.inj i j _ d e hi p hσ h1)
   exact⟨a',o',h1,by rw[aL na];exact h2,h3,h4.mono c⟩
 ·have get:∀ {j:Nat}{e:D},(ρ.set i (some (dd,true)))[j]? = some (some (e,true))->∃e',ρ[j]? = some (some (e',true)):=λ{j e} q=>by
   rcases bL q with ⟨rfl,p⟩|⟨ne,p⟩
   ·exact⟨d,hi⟩
   ·exact⟨e,p⟩
  obtain⟨e',q1⟩:=get q
  obtain⟨f',q2⟩:=get q'
  exact s.inj j k b e' f' q1 q2 h1 h2
theorem StN.write (s:StN K B0 H0 N H σ ρ) {i:Nat}{d:D}{a:Addr}{vs:List V}{ds:List D}(hi:ρ[i]? = some (some (d,true))) (hσ:σ[i]? = some (some (V.ref a))) (h:IsL K (cut N (own σ ρ)) vs ds) :
  StN K B0 H0 (upd N a (.lst vs)) (upd H a (.lst vs)) σ (ρ.set i (some (.lst ds,true))):=s.writeB hi hσ (.lst h)
theorem StN.tups (s:StN K B0 H0 N H σ ρ):∀a vs,SqT K N a vs->SqT K (cut N (own σ ρ)) a vs:=λa vs h=>by
 have key:∀u,N a=some u->¬boxed u->cut N (own σ ρ) a=some u:=λu e hu=>by
  rw[cm λz=>?_];exact e
  obtain⟨ws,⟨q,qb⟩,_⟩:=s.owned z
  rw[e]at q;cases q;exact hu qb
 rcases h with (h|⟨o,h⟩)|h
 ·exact .inl (.inl (key _ h (λq=>q)))
 ·exact .inl (.inr ⟨o,key _ h (λq=>q)⟩)
 ·exact .inr h
theorem StN.flat (s:StN K B0 H0 N H σ ρ) {v:V}{d:D}(h:Is K N v d) (n:bi d=true):Is K (cut N (own σ ρ)) v d:=h.keepT s.tups n
theorem StN.flats (s:StN K B0 H0 N H σ ρ) {v:List V}{d:List D}(h:IsL K N v d) (n:bx d=true):IsL K (cut N (own σ ρ)) v d:=h.keepT s.tups n
theorem StN.rebase (s:StN K B0 H0 N H σ ρ):StN K (cut N (own σ ρ)) (cut H (own σ ρ)) N H σ ρ :=
 ⟨dw λa o e q=>⟨s.ext.nh _ _ e,q⟩,s.tbC,⟨bN,bN,s.ext.nh,λa o e=>by
  by_cases q:own σ ρ a
  ·exact .inr (vM q)
  ·exact .inl (by rw[cm q];exact e)⟩,s.len,s.sh,λi d q=>by
   obtain⟨a,o,h1,h2,_,h4⟩:=s.ow i d q
   exact⟨a,o,h1,h2,vM ⟨i,d,q,h1⟩,h4⟩,s.inj⟩
theorem StN.unbase (s:StN K B0 H0 N H σ ρ) {N' H':Hp}{σ':St}{ρ':Env}(t:StN K (cut N (own σ ρ)) (cut H (own σ ρ)) N' H' σ' ρ'):StN K B0 H0 N' H' σ' ρ':=by
 have h0:aR H0 (cut H (own σ ρ)):=λa o e=>by
  rw[cm λz=>?_];exact s.ext.hh _ _ e
  obtain⟨_,_,q⟩:=s.owned z
  rw[q]at e;cases e
 have b0:aR B0 (cut N (own σ ρ)):=λa o e=>by
  rw[cm λz=>?_];exact s.ext.bn _ _ e
  obtain⟨_,_,q⟩:=s.owned z
  rw[s.bh _ _ e]at q;cases q
 refine⟨s.bh,s.tb,⟨h0.trans t.ext.hh,b0.trans t.ext.bn,t.ext.nh,λa o e=>?_⟩,t.len,t.sh,λi d q=>?_,t.inj⟩
 ·rcases t.ext.new a o e with z|z
  ·exact s.ext.new a o (bN _ _ z)
  ·exact .inr (h0.free z)
 ·obtain⟨a,o,h1,h2,h3,h4⟩:=t.ow i d q
  exact⟨a,o,h1,h2,h0.free h3,h4⟩
theorem StN.based (t:StN K B0 H0 N H σ ρ):aR B0 (cut N (own σ ρ)):=λa o e=>by
 rw[cm λz=>?_];exact t.ext.bn _ _ e
 obtain⟨_,_,q⟩:=t.owned z
 rw[t.bh _ _ e]at q;cases q
@[simp] def aG (g h:FS):FS:=λρ=>match g ρ with|some (.nx ρ')=>h ρ'|r=>r
@[simp] def bo:FS:=λρ=>some (.nx ρ)
@[simp] def gIf (c:FT) (g h:FS):FS:=λρ=>match c ρ with|some true=>g ρ|some false=>h ρ|none=>none
@[simp] def bp (f:FE):FS:=λρ=>(f ρ).map λx=>.rt x.1 x.2
@[simp] def HR:FS:=λ_=>some (.rt .non false)
@[simp] def HS (f:FE):FS:=λρ=>(f ρ).map λ_=>.nx ρ
@[simp] def Du:D->Bool
 | .dk _ _=>true
 | .dt _ _=>true
 | _=>false
@[simp] def jM (i:Nat):FS:=λρ=>match ρ[i]? with|some (some (d,b))=>some (.rt d (b && !Du d))|_=>none
@[simp] def Dv:D->Bool
 | .lst ds=>bx ds
 | _=>false
@[simp] def setE (ρ:Env) (i:Nat) (d:D) (b:Bool):Env :=
 if bi d=true then ρ.set i (some (d,false))else if b=true/\Dv d=true then ρ.set i (some (d,true))else (unown ρ).set i (some (d,false))
@[simp] def aW (i:Nat) (f:FE):FS:=λρ=>(f ρ).map λx=>.nx (setE ρ i x.1 x.2)
@[simp] def HU (i:Nat) (f:FE):FS:=λρ=>(f (sP ρ)).map λx=>.nx (ρ.set i (some (x.1,false)))
@[simp] def ga (i:Nat) (f:FE):FS:=λρ=>match ρ[i]? with
 | some (some (.lst ds,true))=>(f ρ).bind λx=>if bi x.1=true/\ds.length<sizeLine then some (.nx (ρ.set i (some (.lst (ds++[x.1]),true))))else none
 | _=>none
theorem Cc {g h:FS}(q:tDS K (aG g h) E σ H):FU (tDS K g) (tDS K h) E σ H:=by
 obtain⟨B0,H0,ρ,r,s,e,p⟩:=q
 unfold aG at e
 cases eg:g ρ with
 | none=>rw[eg]at e;cases e
 | some r1 =>
  rw[eg]at e
  cases r1 with
  | nx ρ'=>exact⟨B0,H0,ρ,.nx ρ',s,eg,λσ' H' s'=>⟨B0,H0,ρ',r,s',e,p⟩⟩
  | rt d b=>cases e;exact⟨B0,H0,ρ,_,s,eg,p⟩
  | bk ρ'=>cases e;exact⟨B0,H0,ρ,_,s,eg,p⟩
  | ct ρ'=>cases e;exact⟨B0,H0,ρ,_,s,eg,p⟩
theorem zW (q:tDS K bo E σ H):Dk E σ H:=by
 obtain⟨B0,H0,ρ,r,s,e,p⟩:=q
 cases e
 exact p σ H s
theorem vN.grown {H':Hp}(s:StN K B0 H0 N H σ ρ) (h:aR H H'):vN K B0 H0 H' σ ρ:=⟨N,s.grow (.grow s.ext.nh h)⟩
theorem EH {c:FT}{g h:FS}(q:tDS K (gIf c g h) E σ H):FX (tDT K c) (tDS K g) (tDS K h) E σ H:=by
 obtain⟨B0,H0,ρ,r,⟨N,s⟩,e,p⟩:=q
 unfold gIf at e
 cases ec:c ρ with
 | none=>rw[ec]at e;cases e
 | some b =>
  rw[ec]at e
  refine⟨N,ρ,b,s.ext.nh,s.rep,ec,λH1 h1=>?_⟩
  cases b with
  | true=>rw[if_pos rfl];exact⟨B0,H0,ρ,r,.grown s h1,e,p⟩
  | false=>rw[if_neg (by decide)];exact⟨B0,H0,ρ,r,.grown s h1,e,p⟩
theorem Ce {f:FE}(q:tDS K (bp f) E σ H):El (tD K f) E σ H:=by
 obtain⟨B0,H0,ρ,r,⟨N,s⟩,e,p⟩:=q
 obtain⟨x,ex,e⟩:=oY e
 subst e
 exact⟨N,ρ,x.1,x.2,s.ext.nh,s.rep,ex,λv H1 N1 x1 i1 f1=>p v H1 N1 (s.ext.trans x1) i1 λb=>(f1 b).back s.ext.hh⟩
theorem zX {i:Nat}(q:tDS K (jM i) E σ H):El (Ea i) E σ H:=by
 obtain⟨B0,H0,ρ,r,⟨N,s⟩,e,p⟩:=q
 unfold jM at e
 split at e
 ·rename_i d b ei
  cases e
  cases b with
  | false =>
   obtain⟨v,h1,h2⟩:=s.sh i d ei
   exact⟨v,h1,p v H N s.ext (h2.mono bN) (by simp)⟩
  | true =>
   obtain⟨a,o,h1,h2,h3,h4⟩:=s.ow i d ei
   cases h4 with
   | lst h4=>exact⟨_,h1,p _ H N s.ext (.lst (SqL.of h2) (h4.mono bN)) λ_=>⟨a,_,_,rfl,rfl,h3,h2,h4.mono bN⟩⟩
   | dk hl h4=>exact⟨_,h1,p _ H N s.ext (.dk h2 hl (h4.mono bN)) (by simp)⟩
   | dt hl h4=>exact⟨_,h1,p _ H N s.ext (.dt h2 hl (h4.mono bN)) (by simp)⟩
 ·cases e
theorem StN.setE (s:StN K B0 H0 N H σ ρ) {i:Nat}{v:V}{d:D}{b:Bool}{N1 H1:Hp}(x:Ext N N1 H H1) (h:Is K N1 v d) (f:b=true->Fsh K H N1 v d):StN K B0 H0 N1 H1 (σ.set i (some v)) (setE ρ i d b):=by
 have s1:=s.grow x
 unfold DL.setE
 by_cases hn:bi d=true
 ·rw[if_pos hn]
  exact s1.bind (s1.flat h hn)
 ·rw[if_neg hn]
  by_cases hb:b=true/\Dv d=true
  ·rw[if_pos hb]
   obtain⟨a,vs,ds,rfl,rfl,ha,hN,hs⟩:=f hb.1
   have hNa:N a=none:=s.ext.nh.free ha
   have hoa:¬own σ ρ a:=λz=>by obtain⟨ws,⟨q,_⟩,_⟩:=s.owned z;rw[hNa]at q;cases q
   have c:aR (cut N (own σ ρ)) (cut N1 (λb=>own σ ρ b∨b=a)):=dw λb u e q=>⟨x.bn _ _ e,λz=>z.elim q λz=>by subst z;rw[hNa]at e;cases e⟩
   refine s1.bindOwn hN (s.ext.hh.free ha) (λj e q z=>hoa ⟨j,e,q,z⟩) (λj e _ q=>?_) (λj e _ q=>?_) (.lst (hs.keepT (λt ts st=>?_) hb.2))
   ·obtain⟨w,h1,h2⟩:=s.sh j e q;exact⟨w,h1,h2.mono c⟩
   ·obtain⟨a',o',h1,h2,_,h4⟩:=s.ow j e q
    exact⟨a',o',h1,x.bn _ _ h2,h4.mono c⟩
   ·have key:∀u,N1 t=some u->¬boxed u->cut N1 (λb=>own σ ρ b∨b=a) t=some u:=λu e hu=>by
     rw[cm λz=>?_];exact e
     rcases z with z|z
     ·obtain⟨ws,⟨q,qb⟩,_⟩:=s1.owned z
      rw[e]at q;cases q;exact hu qb
     ·subst z;rw[e]at hN;cases hN;exact hu trivial
    rcases st with (st|⟨o,st⟩)|st
    ·exact .inl (.inl (key _ st (λq=>q)))
    ·exact .inl (.inr ⟨o,key _ st (λq=>q)⟩)
    ·exact .inr st
  ·rw[if_neg hb]
   exact s1.unown.bind (h.mono λa o e=>by rw[cm kX];exact e)
theorem xf {i:Nat}{f:FE}(q:tDS K (aW i f) E σ H):yz (tD K f) (lG i) E σ H:=by
 obtain⟨B0,H0,ρ,r,⟨N,s⟩,e,p⟩:=q
 obtain⟨x,ex,e⟩:=oY e
 subst e
 exact⟨N,ρ,x.1,x.2,s.ext.nh,s.rep,ex,λv H1 N1 x1 i1 f1=>p _ H1 ⟨N1,s.setE x1 i1 f1⟩⟩
theorem Cf {i:Nat}{f:FE}(q:tDS K (ga i f) E σ H):∃(a:Addr) (us:List V),σ[i]? = some (some (V.ref a))/\H a=some (.lst us)/\Do (tD K f) Gk σ H λxs H2=>wZ (.ref a) xs H2 λ_ H3=>E.nx σ H3:=by
 obtain⟨B0,H0,ρ,r,⟨N,s⟩,e,p⟩:=q
 unfold ga at e
 split at e
 ·rename_i ds ei
  obtain⟨x,ex,e⟩:=oX e
  split at e
  ·rename_i hx
   cases e
   obtain⟨a,vs,ds',z,h1,h2,h3,h4⟩:=s.owL i _ ei
   cases z
   refine⟨a,vs,h1,s.ext.nh _ _ h2,N,ρ,x.1,x.2,s.ext.nh,s.rep,ex,λv H1 N1 x1 i1 f1=>⟨a,vs,v,rfl,rfl,x1.hh _ _ (s.ext.nh _ _ h2),by rw[h4.length];exact hx.2, ?_⟩⟩
   have s1:=s.grow x1
   obtain⟨a',vs',ds',z,k1,k2,_,k4⟩:=s1.owL i _ ei
   cases z
   rw[h1]at k1;cases k1
   rw[x1.bn _ _ h2]at k2;cases k2
   exact p σ _ ⟨_,s1.write ei h1 (k4.append (.cons (s1.flat i1 hx.1) .nil))⟩
  ·cases e
 ·cases e
end
def zY (c:FT) (g:FS):Nat->Env->Option Res
 | 0,_=>none
 | n+1,ρ=>match c ρ with
  | some true=>match g ρ with
   | some (.nx ρ')=>zY c g n ρ'
   | some (.ct ρ')=>zY c g n ρ'
   | some (.bk ρ')=>some (.nx ρ')
   | r=>r
  | some false=>some (.nx ρ)
  | none=>none
def pe (K:PySem.W.Frag) (J:It) (B:Hp) (ds:List D):Prop:=∀(i:Nat) (H:Hp),aR B H ->
 (∀d,ds[i]? = some d->J.go i H/\∀x H',J.yld i H x H'->∃N,Ext B N H H'/\Is K N x d)/\(ds.length<=i->J.stop i H)
def tDI (K:PySem.W.Frag) (f:FA):TI:=λσ H R=>∃(B:Hp) (ρ:Env) (ds:List D),aR B H/\RepE K B σ ρ/\f ρ=some ds/\∀(J:It) (H' N:Hp),Ext B N H H'->pe K J N ds->R J H'
abbrev FG:=D->Env->Option Env
def tDG (K:PySem.W.Frag) (tg:FG) (g:TG):Prop:=∀(B0 H0 N H:Hp) (σ:St) (ρ ρ':Env) (v:V) (d:D) (Q:St->Hp->Prop),StN K B0 H0 N H σ ρ->Is K (cut N (own σ ρ)) v d->tg d ρ=some ρ' ->
 (∀σ' H',vN K B0 H0 H' σ' ρ'->Q σ' H')->g v σ H Q
@[simp] def tgN (i:Nat):FG:=λd ρ=>some (ρ.set i (some (d,false)))
theorem dz {K:PySem.W.Frag}{i:Nat}:tDG K (tgN i) (lG i):=by
 intro B0 H0 N H σ ρ ρ' v d Q s h e k
 cases e
 exact k _ H ⟨N,s.bind h⟩
def eK (tg:FG) (g:FS):List D->Env->Option Res
 | [],ρ=>some (.nx ρ)
 | d::ds,ρ=>(tg d ρ).bind λρ1=>match g ρ1 with
  | some (.nx ρ')=>eK tg g ds ρ'
  | some (.ct ρ')=>eK tg g ds ρ'
  | some (.bk ρ')=>some (.nx ρ')
  | r=>r
@[simp] theorem sQ (tg:FG) (g:FS) (ρ:Env):eK tg g [] ρ=some (.nx ρ):=by rw[eK]
@[simp] theorem iK (tg:FG) (g:FS) (d:D) (ds:List D) (ρ:Env):eK tg g (d::ds) ρ=(tg d ρ).bind λρ1=>match g ρ1 with
  | some (.nx ρ')=>eK tg g ds ρ'
  | some (.ct ρ')=>eK tg g ds ρ'
  | some (.bk ρ')=>some (.nx ρ')
  | r=>r:=by rw[eK]
@[simp] def mL (f:FA) (tg:FG) (g:FS):FS:=λρ=>(f (sP ρ)).bind λds=>eK tg g ds ρ
theorem sR {K:PySem.W.Frag}{tg:FG}{t:TG}{g:FS}{E:Ends}{σ:St}{H1 B0 H0 N N1:Hp}{ρ:Env}{r:Res}{J:It}{ds:List D}(ht:tDG K tg t) (s1:StN K B0 H0 N H1 σ ρ) (c:aR N1 (cut N (own σ ρ))) (J1:pe K J N1 ds) (e:eK tg g ds ρ=some r) (p:G0 K B0 H0 E r) :
  ∃W:Nat->Nat->St->Hp->Prop,(∃m,W 0 m σ H1)/\∀i m σ H,W i m σ H->(J.stop i H/\E.nx σ H)∨(J.go i H/\∃N:St->Hp->Prop,(∀σ' H',N σ' H'->∃m',m'<m/\W (i+1) m' σ' H')/\∀x H',J.yld i H x H'->t x σ H' λσ2 H2=>tDS K g { E with nx:=N,ct:=N,bk:=E.nx } σ2 H2):=by
 refine⟨λi m σ H=>∃(N:Hp) (ρ:Env),StN K B0 H0 N H σ ρ/\aR N1 (cut N (own σ ρ))/\m=ds.length - i/\i<=ds.length/\eK tg g (ds.drop i) ρ=some r,⟨ds.length,_,ρ,s1,c,rfl,Nat.zero_le _,e⟩, ?_⟩
 clear e s1 c
 rintro i m σ H ⟨N,ρ,s,c,rfl,hi,e⟩
 have hs:aR N1 H:=c.trans (bN.trans s.ext.nh)
 obtain⟨j1,j2⟩:=J1 i H hs
 by_cases hlt:i<ds.length
 ·obtain⟨go,yl⟩:=j1 ds[i] (by simp[hlt])
  rw[List.drop_eq_getElem_cons hlt]at e
  obtain⟨ρ1,e1,e⟩:=oX e
  refine .inr ⟨go,λσ' H'=>∃(N:Hp) (ρ:Env),StN K B0 H0 N H' σ' ρ/\aR N1 (cut N (own σ' ρ))/\eK tg g (ds.drop (i+1)) ρ=some r,λσ' H' ⟨N',ρ',s',c',e'⟩=>⟨_,by omega,N',ρ',s',c',rfl,hlt,e'⟩,λx H' y=>?_⟩
  obtain⟨N2,x2,i2⟩:=yl x H' y
  have x3:Ext (cut N (own σ ρ)) (join (cut N (own σ ρ)) N2) H H':=by
   refine⟨x2.hh,dj,λa o e=>?_,λa o e=>?_⟩
   ·cases q:cut N (own σ ρ) a with
    | some u=>rw[dj _ _ q]at e;cases e;exact x2.hh _ _ (s.ext.nh _ _ (bN _ _ q))
    | none=>rw[cV q]at e;exact x2.nh _ _ e
   ·cases q:cut N (own σ ρ) a with
    | some u=>rw[dj _ _ q]at e;cases e;exact .inl rfl
    | none =>
     rw[cV q]at e
     rcases x2.new a o e with z|z
     ·rw[c _ _ z]at q;cases q
     ·exact .inr z
  obtain⟨s2,c2⟩:=s.growH x3
  have c3:aR N2 (join (cut N (own σ ρ)) N2):=λa o e=>by
   rcases x2.new a o e with z|z
   ·exact dj _ _ (c _ _ z)
   ·rw[cV ((bN.trans s.ext.nh).free z)];exact e
  have i3:=i2.mono (c3.trans c2)
  have c4:aR N1 (cut (join N (join (cut N (own σ ρ)) N2)) (own σ ρ)):=(x2.bn.trans c3).trans c2
  refine ht _ _ _ _ _ _ _ _ _ _ s2.rebase i3 e1 λσ2 H2 ⟨N4,s4⟩=>?_
  cases eg:g ρ1 with
  | none=>rw[eg]at e;cases e
  | some r1 =>
   rw[eg]at e
   refine⟨_,_,ρ1,r1,⟨N4,s4⟩,eg, ?_⟩
   have back:∀ {σ':St}{H':Hp}{ρ':Env}{N':Hp},StN K _ _ N' H' σ' ρ'->StN K B0 H0 N' H' σ' ρ'/\aR N1 (cut N' (own σ' ρ')):=λt=>⟨s2.unbase t,c4.trans t.based⟩
   cases r1 with
   | nx ρ'=>exact λσ' H' ⟨N',t⟩=>⟨N',ρ',(back t).1,(back t).2,e⟩
   | ct ρ'=>exact λσ' H' ⟨N',t⟩=>⟨N',ρ',(back t).1,(back t).2,e⟩
   | bk ρ'=>cases e;exact λσ' H' ⟨N',t⟩=>p σ' H' ⟨N',(back t).1⟩
   | rt d b =>
    cases e
    intro v H' N' x' i' f'
    have y:=s2.rebase.ext
    have h0:aR H0 (cut H' (λ_=>False)):=λa o e=>by rw[cm (λz=>z)];exact x'.hh _ _ (by
     rw[cm λz=>?_];exact s2.ext.hh _ _ e
     obtain⟨_,_,q⟩:=s2.owned z
     rw[q]at e;cases e)
    have h0':aR H0 (cut H' (λ_=>False)):=h0
    have hH:aR H0 (cut H' (λ_=>False)):=h0
    have hc:∀a,cut H' (λ_=>False) a=H' a:=λa=>cm (λz=>z)
    have hb:aR H0 (cut _ (own σ ρ)):=λa o e=>by
     rw[cm λz=>?_];exact s2.ext.hh _ _ e
     obtain⟨_,_,q⟩:=s2.owned z
     rw[q]at e;cases e
    have bb:aR B0 (cut _ (own σ ρ)):=λa o e=>by
     rw[cm λz=>?_];exact s2.ext.bn _ _ e
     obtain⟨_,_,q⟩:=s2.owned z
     rw[s2.bh _ _ e]at q;cases q
    refine p v H' N' ⟨hb.trans x'.hh,bb.trans x'.bn,x'.nh,λa o e=>?_⟩ i' λz=>(f' z).back hb
    rcases x'.new a o e with z|z
    ·exact s2.ext.new a o (bN _ _ z)
    ·exact .inr (hb.free z)
 ·have ei:i=ds.length:=by omega
  subst ei
  rw[List.drop_eq_nil_of_le (Nat.le_refl _)]at e
  cases e
  exact .inl ⟨j2 (Nat.le_refl _),p σ H ⟨N,s⟩⟩
theorem Cg {K:PySem.W.Frag}{f:FA}{tg:FG}{t:TG}{g:FS}{E:Ends}{σ:St}{H:Hp}(ht:tDG K tg t) (q:tDS K (mL f tg g) E σ H):Er (tDI K f) t (tDS K g) E σ H:=by
 obtain⟨B0,H0,ρ,r,⟨N,s⟩,e,p⟩:=q
 obtain⟨ds,ef,e⟩:=oX e
 refine⟨cut N (own σ ρ),sP ρ,ds,bN.trans s.ext.nh,s.repH,ef,λJ H1 N1 x1 J1=>?_⟩
 obtain⟨s1,c⟩:=s.growH x1
 exact sR ht s1 c J1 e p
def tDR (K:PySem.W.Frag) (f:FA):TI:=λσ H R=>∃(B:Hp) (ρ:Env) (ds:List D),aR B H/\RepE K B σ ρ/\f ρ=some ds/\∀(J:It) (H' N:Hp),Ext B N H H'->(∀B',pe K J B' ds)->R J H'
@[simp] def jb (f:FA) (tg:FG) (g:FS):FS:=λρ=>(f ρ).bind λds=>eK tg g ds ρ
theorem zZ {K:PySem.W.Frag}{f:FA}{tg:FG}{t:TG}{g:FS}{E:Ends}{σ:St}{H:Hp}(ht:tDG K tg t) (q:tDS K (jb f tg g) E σ H):Er (tDR K f) t (tDS K g) E σ H:=by
 obtain⟨B0,H0,ρ,r,⟨N,s⟩,e,p⟩:=q
 obtain⟨ds,ef,e⟩:=oX e
 refine⟨N,ρ,ds,s.ext.nh,s.rep,ef,λJ H1 N1 x1 J1=>?_⟩
 exact sR ht (s.grow x1) (aR.refl _) (J1 _) e p
end DL
namespace DL
open PySem PySem.Spec PyProof.Rows L2
abbrev JE (X:Cx) (e:Expr) (f:FE):Prop:=PE X e (tD X.K f)
abbrev JT (X:Cx) (e:Expr) (f:FT):Prop:=PT X e (tDT X.K f)
abbrev JW (X:Cx) (e:Expr) (f:FT):Prop:=PW X e (tDT X.K f)
abbrev JA (X:Cx) (es:List Expr) (f:FA):Prop:=PA X es (tDA X.K f)
abbrev JS (X:Cx) (st:Stmt) (g:FS):Prop:=PS X st (tDS X.K g)
abbrev JSs (X:Cx) (st:List Stmt) (g:FS):Prop:=PSs X st (tDS X.K g)
abbrev JI (X:Cx) (tg iter:Expr) (f:FA):Prop:=PI X tg iter (tDI X.K f)
theorem re {prog:Program}{w:World}{A:Around}{R:Result->Shared->Prop}{s:Shared}{elt target iter:Expr}{ifs:List Expr}{scope:Scope}{pos:Pos}{it acc:Value}{env:PySem.Env}(I:Nat->Shared->Prop)
  (turn:∀n s,I n s->wpAny (model prog w) A (pyNext it) (λr s₁=>match r with
   | none=>R (.ok .next) s₁
   | some v=>wpAny (model prog w) A (letOwnedTupleGo target it v) (λ_ s₁=>wpAny (model prog w) A (assign target env v) (λ_ s₂ =>
     wpAny (model prog w) A (forIn ifs true λc r=>if r=true then do let ok ←isTrue c env (eval c env);pure (ForInStep.yield ok)else pure (ForInStep.yield r)) (λok s₃ =>
      if ok=true then wpAny (model prog w) A (eval elt env) (λx s₄ =>
       wpAny (model prog w) A (call (.builtin "list.append") [acc,x]) (λ_ s₅=>∃m,m<n/\I m s₅) (λ_ _=>False) s₄) (λ_ _=>False) s₃
      else ∃m,m<n/\I m s₃) (λ_ _=>False) s₂) (λ_ _=>False) s₁) (λ_ _=>False) s₁) (λ_ _=>False) s)
  (n:Nat) (h:I n s):codeAny (model prog w) A (.compLoop (.ListComp elt [⟨target,iter,ifs,0⟩] scope pos) 0 it acc env) R s:=by
 refine codeAny_loop rfl I (λn s hI=>?_) n h
 show wpAny _ A ((compTurn (.ListComp elt [⟨target,iter,ifs,0⟩] scope pos) 0 it acc env).onRaise (λx=>do noteFrame x env;theTreesLotGoes x)) _ _ s
 refine wpAny_noted (wpAny_mono (E:=λ_ _=>False) ?_ (λ_ _ q=>q) λ_ _ z=>z.elim)
 rw[compTurn_list]
 refine wX (wpAny_standAt (wX (wpAny_mono (turn n s hI) (λr s₁ h₁=>?_) λ_ _ h'=>h')))
 cases r with
 | none=>exact wY h₁
 | some v =>
  refine wX (wpAny_mono h₁ (λ_ s₁ h₁=>?_) λ_ _ h'=>h')
  refine wX (wpAny_mono h₁ (λ_ s₂ h₂=>wX (wpAny_mono h₂ (λok s₃ h₃=>?_) λ_ _ h'=>h')) λ_ _ h'=>h')
  cases ok with
  | false=>exact wY ⟨rfl,h₃⟩
  | true=>exact wX (wX (wpAny_mono h₃ (λx s₄ h₄=>wX (wpAny_mono h₄ (λ_ s₅ h₅=>wY (wY ⟨rfl,h₅⟩)) λ_ _ h'=>h')) λ_ _ h'=>h'))
theorem Ext.upd {B N H H':Hp}{a:Addr}{o:HO}(x:Ext B N H H') (h:H a=none) (hN:N a=none):Ext B N H (upd H' a o) :=
 ⟨λb u e=>by rw[aL (λz=>by subst z;rw[h]at e;cases e)];exact x.hh _ _ e,x.bn,λb u e=>by rw[aL (λz=>by subst z;rw[hN]at e;cases e)];exact x.nh _ _ e,x.new⟩
abbrev hV (X:Cx) (N':List Str) (scope:Scope) (cl:List (Str×Addr)) (C:Addr) (s₃:Shared) (H₃:Hp) (fp:List Addr):Cx :=
 { X with N:=N',s₀:=s₃,H₀:=H₃,env:=compEnvC scope cl C X.env,outer:=X.stack,stack:=X.stack,ex:=fp,fn:=λ_=>false,pn:=[],xe:=λ_ _=>False }
inductive Caps (X:Cx) (N':List Str) (scope:Scope) (cl:List (Str×Addr)):Nat->List Nat->Prop where
 | nil {j:Nat}(h:N'.length=j):Caps X N' scope cl j []
 | cons {j i:Nat}{r:List Nat}{x:Str}(h1:N'[j]? = some x) (h2:X.N[i]? = some x) (h3:X.env.kindOf x=some .cell∨X.env.kindOf x=some .free)
   (h4:(relabel scope X.env).names.lookup x=some .cell∨(relabel scope X.env).names.lookup x=some .free) (h5:cl.lookup x=X.env.cells.lookup x) (t:Caps X N' scope cl (j+1) r):Caps X N' scope cl j (i::r)
theorem Caps.len {X:Cx}{N':List Str}{scope:Scope}{cl:List (Str×Addr)}:∀ {j:Nat}{cap:List Nat},Caps X N' scope cl j cap->N'.length=j+cap.length
 | _,_,.nil h=>by rw[h];rfl
 | j,i::r,.cons _ _ _ _ _ t=>by rw[t.len,List.length_cons];omega
theorem Caps.get {X:Cx}{N':List Str}{scope:Scope}{cl:List (Str×Addr)}:∀ {j:Nat}{cap:List Nat}{k i:Nat},Caps X N' scope cl j cap->cap[k]? = some i->∃x,N'[j+k]? = some x/\X.N[i]? = some x/\(X.env.kindOf x=some .cell∨X.env.kindOf x=some .free) /\
  ((relabel scope X.env).names.lookup x=some .cell∨(relabel scope X.env).names.lookup x=some .free)/\cl.lookup x=X.env.cells.lookup x
 | _,_,_,_,.nil _,e=>by simp at e
 | j,_,0,_,.cons h1 h2 h3 h4 h5 _,e=>by simp at e;subst e;exact⟨_,h1,h2,h3,h4,h5⟩
 | j,_,k+1,i,.cons _ _ _ _ _ t,e=>by
  obtain⟨x,q,r⟩:=t.get (k:=k) (i:=i) (by simpa using e)
  exact⟨x,by rw[show j+(k+1)=j+1+k by omega];exact q,r⟩
structure CompSc (X:Cx) (scope:Scope) (cl:List (Str×Addr)):Prop where
 clos:closureFor scope X.env=pure cl
 nocell:∀y∈scope.names,y.2≠.cell
 kind:scope.kind=.function
 names:∀y∈scope.names,y.2=.local->scope.names.lookup y.1=some .local
 sub:∀x c,cl.lookup x=some c->X.env.cells.lookup x=some c
 has:∀x,((relabel scope X.env).names.lookup x=some .cell∨(relabel scope X.env).names.lookup x=some .free)->∃c,cl.lookup x=some c
def f9:List (Str×NameKind)->List (Str×Addr)->List (Str×Addr)->List (Str×Addr)
 | [],_,cs=>cs
 | (n,k)::r,cells,cs=>f9 r cells (if k == .free then (match cells.lookup n with|some c=>(n,c)::cs|none=>cs)else cs)
theorem pL {env:PySem.Env}:∀(names:List (Str×NameKind)) (cs:List (Str×Addr)),(∀y∈names,y.2=.free->(env.cells.lookup y.1).isSome=true) ->
    (do let mut cs:=cs
        for (name,kind)in names do
          if kind == .free then cs:=(name,←cellOf env name)::cs
        return cs:Sem (List (Str×Addr)))=pure (f9 names env.cells cs):=by
  intro names
  induction names with
  | nil=>intro cs _;rfl
  | cons y r ih =>
    intro cs h
    obtain⟨n,k⟩:=y
    have ih':=λcs=>ih cs λy hy=>h y (mZ _ hy)
    by_cases hk:k=.free
    . subst hk
      have hc:=h (n,.free) mX rfl
      cases q:env.cells.lookup n with
      | none=>rw[q]at hc;cases hc
      | some c =>
        have e1:f9 ((n,.free)::r) env.cells cs=f9 r env.cells ((n,c)::cs):=by
          rw[f9,q];rfl
        rw[e1,←ih' ((n,c)::cs)]
        have e2:cellOf env n=pure c:=by unfold cellOf;rw[q]
        simp only[List.forIn_cons,beq_self_eq_true,if_true,e2]
        rfl
    . have hb:(k == NameKind.free)=false:=by simpa using hk
      have e1:f9 ((n,k)::r) env.cells cs=f9 r env.cells cs:=by rw[f9,hb];rfl
      rw[e1,←ih' cs]
      simp only[List.forIn_cons,hb,Bool.false_eq_true,if_false]
      rfl
theorem jN {cells:List (Str×Addr)}{x:Str}{c:Addr}:∀(names:List (Str×NameKind)) (cs:List (Str×Addr)),(∀y d,cs.lookup y=some d->cells.lookup y=some d)->(f9 names cells cs).lookup x=some c->cells.lookup x=some c
 | [],cs,h,e=>h x c e
 | (n,k)::r,cs,h,e=>by
  rw[f9]at e
  refine jN r _ (λy d q=>?_) e
  split at q
  ·split at q
   ·rename_i c' ec
    rw[List.lookup_cons]at q
    split at q
    ·rename_i hy
     cases q
     rw[eq_of_beq hy];exact ec
    ·exact h y d q
   ·exact h y d q
  ·exact h y d q
theorem pM {cells:List (Str×Addr)}{x:Str}:∀(names:List (Str×NameKind)) (cs:List (Str×Addr)),(cs.lookup x).isSome=true->((f9 names cells cs).lookup x).isSome=true
 | [],cs,h=>h
 | (n,k)::r,cs,h=>by
  rw[f9]
  refine pM r _ ?_
  split
  ·split
   ·rw[List.lookup_cons]
    split
    ·rfl
    ·exact h
   ·exact h
  ·exact h
theorem jO {cells:List (Str×Addr)}{x:Str}:∀(names:List (Str×NameKind)) (cs:List (Str×Addr)),(x,NameKind.free)∈names->(cells.lookup x).isSome=true->((f9 names cells cs).lookup x).isSome=true
 | (n,k)::r,cs,hm,hc=>by
  rw[f9]
  rcases List.mem_cons.mp hm with e|e
  ·cases e
   refine pM r _ ?_
   cases q:cells.lookup x with
   | none=>rw[q]at hc;cases hc
   | some c=>simp
  ·exact jO r _ e hc
theorem dH {α:Type}{x:Str}{k:α}:∀ {l:List (Str×α)},l.lookup x=some k->(x,k)∈l
 | (n,j)::r,h=>by
  rw[List.lookup_cons]at h
  split at h
  ·rename_i e
   cases h
   rw[eq_of_beq e];exact mX
  ·exact mZ _ (dH h)
theorem cZ {X:Cx}{scope:Scope}(h1:∀y∈scope.names,y.2≠.cell) (h2:scope.kind=.function) (h3:∀y∈scope.names,y.2=.local->scope.names.lookup y.1=some .local) (h4':(scope.names.all λy=>!(y.2 == NameKind.free) || (X.env.cells.lookup y.1).isSome)=true) :
  CompSc X scope (f9 scope.names X.env.cells []):=by
 have h4:∀y∈scope.names,y.2=.free->(X.env.cells.lookup y.1).isSome=true:=λy hy e=>by
  have:=List.all_eq_true.mp h4' y hy
  rw[e]at this
  simpa using this
 have frees:∀x,((relabel scope X.env).names.lookup x=some .cell∨(relabel scope X.env).names.lookup x=some .free)->(x,NameKind.free)∈scope.names:=λx h=>by
  have:∃k,(x,k)∈(relabel scope X.env).names/\(k=.cell∨k=.free):=by
   rcases h with h|h
   ·exact⟨_,dH h,.inl rfl⟩
   ·exact⟨_,dH h,.inr rfl⟩
  obtain⟨k,hm,hk⟩:=this
  obtain⟨⟨n,j⟩,hj,e⟩:=List.mem_map.mp hm
  dsimp only at e
  split at e
  ·rename_i hc
   rw[Bool.and_eq_true,Bool.and_eq_true]at hc
   cases e
   rw[←eq_of_beq hc.1.1];exact hj
  ·cases e
   rcases hk with rfl|rfl
   ·exact absurd rfl (h1 _ hj)
   ·exact hj
 exact⟨pL scope.names [] h4,h1,h2,h3,λx c e=>jN scope.names [] (λy d q=>by cases q) e,λx h=>by
  have:=jO (x:=x) scope.names [] (frees x h) (h4 _ (frees x h) rfl)
  exact Option.isSome_iff_exists.mp this⟩
theorem bq {scope:Scope}{cells:List (Str×Addr)}{x:Str}(h:(x,NameKind.free)∈scope.names) (hc:(cells.lookup x).isSome=true):(f9 scope.names cells []).lookup x=cells.lookup x:=by
 obtain⟨c,e⟩:=Option.isSome_iff_exists.mp (jO (x:=x) scope.names [] h hc)
 rw[e,jN scope.names [] (λy d q=>by cases q) e]
def ph (nT:Nat) (cap:List Nat) (σ:St):St:=List.replicate nT none++cap.map λi=>(σ[i]?).join
def bV (nT:Nat) (cap:List Nat) (ρ:Env):Env:=List.replicate nT none++cap.map λi=>match ρ[i]? with|some (some (d,_))=>some (d,false)|_=>none
theorem rf {α:Type}{nT:Nat}{cap:List Nat}{f:Nat->Option α}{j:Nat}{v:α}(h:(List.replicate nT none++cap.map f)[j]? = some (some v)):∃k i,j=nT+k/\cap[k]? = some i/\f i=some v:=by
 by_cases hj:j<nT
 ·rw[List.getElem?_append_left (by simpa using hj),List.getElem?_replicate,if_pos hj]at h
  cases h
 ·rw[List.getElem?_append_right (by simpa using Nat.not_lt.mp hj),List.length_replicate,List.getElem?_map]at h
  obtain⟨i,h1,h2⟩:=oY h
  exact⟨j - nT,i,by omega,h1,h2⟩
theorem Ch {α:Type}{nT:Nat}{cap:List Nat}{f:Nat->Option α}{k i:Nat}{v:α}(h1:cap[k]? = some i) (h2:f i=some v):(List.replicate nT none++cap.map f)[nT+k]? = some (some v):=by
 rw[List.getElem?_append_right (by simp),List.length_replicate,List.getElem?_map,Nat.add_sub_cancel_left,h1]
 simp[h2]
theorem RepE.caps {K:PySem.W.Frag}{B:Hp}{σ:St}{ρ:Env}{nT:Nat}{cap:List Nat}(h:RepE K B σ ρ):RepE K B (ph nT cap σ) (bV nT cap ρ):=⟨h.tb,λj d b q=>by
 obtain⟨k,i,rfl,h1,h2⟩:=rf q
 split at h2
 ·rename_i d' b' e
  cases h2
  obtain⟨v,g1,g2⟩:=h.at' i _ _ e
  exact⟨v,Ch h1 (by rw[g1];rfl),g2⟩
 ·cases h2⟩
def eX (tg:FG) (c:FT) (fe:FE) (ρ:Env):List D->Option (List D)
 | []=>some []
 | d::r=>(tg d ρ).bind λρ1=>(c ρ1).bind λb=>if b=true then (fe ρ1).bind λx=>(eX tg c fe ρ r).map (x.1 :: ·)else eX tg c fe ρ r
@[simp] theorem F8 (tg:FG) (c:FT) (fe:FE) (ρ:Env):eX tg c fe ρ []=some []:=by rw[eX]
@[simp] theorem vO (tg:FG) (c:FT) (fe:FE) (ρ:Env) (d:D) (r:List D):eX tg c fe ρ (d::r)=(tg d ρ).bind λρ1=>(c ρ1).bind λb=>if b=true then (fe ρ1).bind λx=>(eX tg c fe ρ r).map (x.1 :: ·)else eX tg c fe ρ r:=by rw[eX]
@[simp] def cr (fi:FA) (nT:Nat) (cap:List Nat) (tg:FG) (c:FT) (fe:FE):FE:=λρ=>(fi ρ).bind λitems=>if items.length<=sizeLine then (eX tg c fe (bV nT cap ρ) items).map λds=>(.lst ds,true)else none
def TGE (K:PySem.W.Frag) (n:Nat) (tg:FG) (g:TG):Prop:=∀(B H:Hp) (σ:St) (ρ ρ1:Env) (v:V) (d:D) (Q:St->Hp->Prop),(∀i,i<n->ρ[i]? = some none)->RepE K B σ ρ->aR B H->Is K B v d->tg d ρ=some ρ1 ->
 ρ.length=σ.length->(∀σ1,RepE K B σ1 ρ1->(∀B',RepE K B' σ ρ->RepE K B' σ1 ρ)->ρ.length=σ1.length->Q σ1 H)->g v σ H Q
theorem bW {K:PySem.W.Frag}{n i:Nat}(hi:i<n):TGE K n (tgN i) (lG i):=by
 intro B H σ ρ ρ1 v d Q cl rep s h e hl k
 cases e
 have hiσ:i<σ.length:=by
  have:=(List.getElem?_eq_some_iff.mp (cl i hi)).1
  omega
 refine k _ ⟨rep.tb,λj e b q=>?_⟩ ?_ (by simpa using hl)
 ·rcases bL q with ⟨rfl,p⟩|⟨ne,p⟩
  ·cases p
   exact⟨v,by simp[hiσ],h⟩
  ·obtain⟨w,h1,h2⟩:=rep.at' j e b p
   exact⟨w,by rw[List.getElem?_set_ne ne];exact h1,h2⟩
 ·intro B' rep'
  refine⟨rep'.tb,λj e b q=>?_⟩
  obtain⟨w,h1,h2⟩:=rep'.at' j e b q
  have ne:i≠j:=λz=>by subst z;rw[cl i hi]at q;cases q
  exact⟨w,by rw[List.getElem?_set_ne ne];exact h1,h2⟩
def JC (X:Cx) (ifs:List Expr) (c:FT):Prop:=∀(pins:List (Addr×Obj)) (s:Shared) (σ:St) (H:Hp) (Q:Bool->Hp->Prop),Inv X pins σ H s->tDT X.K c σ H Q ->
 wpAny (model X.prog X.w) X.A (forIn ifs true λc r=>if r=true then do let ok ←isTrue c X.env (eval c X.env);pure (ForInStep.yield ok)else pure (ForInStep.yield r)) (TP X pins σ Q) X.xe s
@[simp] def gV:FT:=λ_=>some true
theorem kY {X:Cx}:JC X [] gV:=by
 intro pins s σ H Q I h
 obtain⟨B,ρ,c,sB,rep,e,q⟩:=h
 cases e
 exact wpAny_tests_nil ⟨H,I,q H (.refl H)⟩
theorem fP {X:Cx}{e:Expr}{f:FT}(h:JT X e f):JC X [e] f:=λpins s σ H Q I q=>wpAny_tests_one (h pins s σ H Q I q)
theorem mM {X:Cx}(hcalm:X.calm=true) {tg iter elt:Expr}{ifs:List Expr}{scope:Scope}{pos:Pos}{cl:List (Str×Addr)}{N':List Str}{nT:Nat}{cap:List Nat}{tgF:FG}{g:TG}{fc:FT}{fe:FE}
  (S:CompSc X scope cl) (cp:Caps X N' scope cl nT cap)
  (hg:∀C s H fp,PG (hV X N' scope cl C s H fp) tg g) (htg:TGE X.K nT tgF g) (hc:∀C s H fp,JC (hV X N' scope cl C s H fp) ifs fc) (he:∀C s H fp,JE (hV X N' scope cl C s H fp) elt fe)
  {pins:List (Addr×Obj)}{σ:St}{H2:Hp}{s2:Shared}{it:Addr}{fp:List Addr}{tn:Nat->Heap->Prop}{J:It}{N1:Hp}{ρ:Env}{items ds:List D}{E:Value->Shared->Prop}
  (I2:Inv X pins σ H2 s2) (T:Turn X.prog X.w X.K tg J fp it tn) (st2:tn 0 s2.heap) (f2:∀b∈fp,kT X pins H2 b)
  (rep:RepE X.K N1 σ ρ) (sN:aR N1 H2) (J1:pe X.K J N1 items) (hsz:items.length<=sizeLine) (ec:eX tgF fc fe (bV nT cap ρ) items=some ds) {RR:Value->Addr->Result->Shared->Prop}
  (hRR:∀(Dd C:Addr) (s':Shared) (H' N:Hp) (vs:List V) (m:Str->Option Value),H2 Dd=none->Inv X pins σ H' s'->s'.heap.Ns C m->kT X pins H' C->Ext N1 N H2 H'->N Dd=some (.lst vs)->IsL X.K N vs ds->RR (.ref Dd) C (.ok .next) s') :
  wpAny (model X.prog X.w) X.A (newList []) (λacc s₃=>wpAny (model X.prog X.w) X.A (newFunctionEnv scope X.env.globals cl [] X.env.qual none .none (some X.env)) (λcenv s₄ =>
   codeAny (model X.prog X.w) X.A (.compStart (.ListComp elt [⟨tg,iter,ifs,0⟩] scope pos) 0 (.ref it) acc { cenv with scope:=relabel scope X.env }) (RR acc cenv.locals) s₄) E s₃) E s2:=by
 refine wpAny_newObj_type (wpAny_newFunctionEnv S.nocell (by intro y hy;simp at hy) (λh₁ hns₁ hsb₁=>?_) S.kind)
 dsimp only at hns₁ hsb₁ ⊢
 have hD:H2 s2.heap.objs.size=none:=I2.fresh
 have I3:Inv X pins σ (upd H2 s2.heap.objs.size (.lst [])) { s2 with heap:=s2.heap.push { cls:=.type "list",dict:=none,data:=.seq ([]:List Value).toArray } }:=I2.lnew (t':=s2.toks) (ys:=[]) (its:=[]) .nil (Nat.zero_le _)
 generalize hH3:s2.heap.push { cls:=.type "list",dict:=none,data:=.seq ([]:List Value).toArray }=g3 at hns₁ hsb₁ I3 ⊢
 have hC:g3.objs.size=s2.heap.objs.size+1:=by rw[←hH3,Heap.size_push]
 have old2:∀b o,s2.heap.get? b=some o->g3.get? b=some o:=λb o e=>hH3 ▸ Heap.get?_push_of_some _ e
 have old3:∀b o,g3.get? b=some o->h₁.get? b=some o:=λb o e=>hsb₁.extBut b o (Nat.ne_of_lt (Heap.lt_size e)) (Heap.get?_push_of_some _ e)
 have neC:∀b o,g3.get? b=some o->b≠g3.objs.size:=λb o e=>Nat.ne_of_lt (Heap.lt_size e)
 have fpo:∀b∈fp,∃o,s2.heap.get? b=some o:=λb hb=>let ⟨o,e,_⟩:=T.obj 0 s2.heap st2 b hb;⟨o,e⟩
 have fpD:∀b∈fp,b≠s2.heap.objs.size:=λb hb=>let ⟨o,e⟩:=fpo b hb;Nat.ne_of_lt (Heap.lt_size e)
 have fpC:∀b∈fp,b≠g3.objs.size:=λb hb=>let ⟨o,e⟩:=fpo b hb;neC b o (old2 b o e)
 have cellC:∀x c,X.env.cells.lookup x=some c->c≠g3.objs.size:=λx c e=>by
  obtain⟨v,z⟩:=I3.cell x c e
  exact Nat.ne_of_lt z.lt
 have hHC:(upd H2 s2.heap.objs.size (HO.lst [])) g3.objs.size=none:=I3.hok.fresh (Nat.le_refl _)
 have stk:∀b∈frs X.stack,∃o,s2.heap.get? b=some o:=λb hb=>by
  obtain⟨_,o,ho,_⟩:=(I2.stack).mem hb
  exact⟨o,ho⟩
 -- the block's context
 have ok:(hV X N' scope cl g3.objs.size { s2 with heap:=g3 } (upd H2 s2.heap.objs.size (.lst [])) fp).Ok:=by
  refine⟨I2.ok.mod, ?_,I2.ok.glob,I2.ok.blt,Nat.le_refl _,λx y c e1 e2=>I2.ok.inj x y c (S.sub x c e1) (S.sub y c e2),λx h=>S.has x h,λx c h=>absurd h Bool.false_ne_true,I2.ok.hd,I2.ok.frames,.inl rfl,λb hb=>⟨fpC b hb,λx c e=>(f2 b hb).2.2.2.2.1 x c (S.sub x c e)⟩,λb o e=>?_, ?_,λb o e hb=>?_,λb hb hz=>?_,I3.stack,λb hb=>I3.stkFree b hb⟩
  ·show(relabel scope X.env).kind=.function
   exact S.kind
  ·exact I3.bs b o e
  ·exact Nat.le_trans I3.ok.bsz I3.sz
  ·have h1:=(f2 b hb).2.2.2.1
   rcases h1 with z|z
   ·exact I2.ok.noex b o e z
   ·exact absurd (Nat.lt_of_lt_of_le (Heap.lt_size e) (Nat.le_trans I2.ok.bsz z)) (Nat.lt_irrefl _)
  ·rcases List.mem_cons.mp (I2.stkSub b hz)with z|z
   ·exact(f2 b hb).2.1 z
   ·exact(f2 b hb).2.2.1 z
 have I4:Inv (hV X N' scope cl g3.objs.size { s2 with heap:=g3 } (upd H2 s2.heap.objs.size (.lst [])) fp) [] (ph nT cap σ) (upd H2 s2.heap.objs.size (.lst [])) { s2 with heap:=h₁,toks:=s2.toks+([]:List (Str×Value)).length }:=by
  refine⟨ok,rfl,I2.bare,Un.kept old3,⟨_,hns₁,λj x v e1 e2 e3=>?_⟩,λx c e=>?_,hHC,λx c e=>I3.freeC x c (S.sub x c e),λp hp=>by simp at hp,I3.hok.kept old3, ?_⟩
  ·obtain⟨k,i,rfl,h1,h2⟩:=rf e2
   obtain⟨y,g1,g2,g3',g4,g5⟩:=cp.get h1
   have e1':N'[nT+k]? = some x:=e1
   rw[g1]at e1';cases e1'
   have h2':σ[i]? = some (some v):=by
    cases q:σ[i]? with
    | none=>rw[q]at h2;cases h2
    | some z=>rw[q]at h2;have:z=some v:=h2;rw[this]
   obtain⟨m,_,hl⟩:=I3.loc
   obtain⟨u,r,l⟩:=hl i _ v g2 h2' (g3'.elim (λz=>.inr (.inl z)) λz=>.inr (.inr z))
   refine⟨u,r, ?_⟩
   rcases l with ⟨l,_⟩|⟨_,c,lc,ic⟩
   ·rcases g3' with z|z<;>(rw[z]at l;cases l)
   ·refine .inr ⟨g4,c,by show cl.lookup _=some c;rw[g5];exact lc, ?_⟩
    obtain⟨o,ho,hd⟩:=ic
    exact⟨o,old3 _ _ ho,hd⟩
  ·obtain⟨v,o,ho,hd⟩:=I3.cell x c (S.sub x c e)
   exact⟨v,o,old3 _ _ ho,hd⟩
  ·show(ph nT cap σ).length=N'.length
   unfold ph
   rw[cp.len];simp
 have fpX:∀ {H':Hp},(∀b∈fp,H' b=none)->∀b∈fp,kT (hV X N' scope cl g3.objs.size { s2 with heap:=g3 } (upd H2 s2.heap.objs.size (.lst [])) fp) [] H' b:=λhn b hb =>
  ⟨hn b hb,fpC b hb,ok.exfs b hb,.inl hb,λx c e=>(f2 b hb).2.2.2.2.1 x c (S.sub x c e),λp hp=>by simp at hp⟩
 have clean:∀i,i<nT->(bV nT cap ρ)[i]? = some none:=λi hi=>by
  unfold bV
  rw[List.getElem?_append_left (by simpa using hi),List.getElem?_replicate,if_pos hi]
 have hND:N1 s2.heap.objs.size=none:=sN.free hD
 have loop:∀s₃:Shared,s₃={ s2 with heap:=h₁,toks:=s2.toks+([]:List (Str×Value)).length } ->
   codeAny (model X.prog X.w) X.A (.compLoop (.ListComp elt [⟨tg,iter,ifs,0⟩] scope pos) 0 (.ref it) (.ref s2.heap.objs.size) (compEnvC scope cl g3.objs.size X.env)) (RR (.ref s2.heap.objs.size) g3.objs.size) s₃:=by
  rintro s₃ rfl
  refine re (λn s'=>∃(i:Nat) (N:Hp) (vs:List V) (es:List D) (σ':St) (H':Hp),Inv (hV X N' scope cl g3.objs.size { s2 with heap:=g3 } (upd H2 s2.heap.objs.size (.lst [])) fp) [] σ' H' s'/\tn i s'.heap/\(∀b∈fp,H' b=none) /\
   n=items.length - i/\i<=items.length/\RepE X.K N1 σ' (bV nT cap ρ)/\(bV nT cap ρ).length=σ'.length/\Ext N1 N H2 H'/\N s2.heap.objs.size=none/\H' s2.heap.objs.size=some (.lst vs)/\vs.length<=i/\IsL X.K N vs es /\
   ∃r,eX tgF fc fe (bV nT cap ρ) (items.drop i)=some r/\es++r=ds) ?_ items.length ?_
  ·rintro n s' ⟨i,N,vs,es,σ',H',I',ti,hn,rfl,hi,rp,hlen,x,hN0,hH0,hvl,hvs,r,er,eds⟩
   have sH:aR N1 H':=x.bn.trans x.nh
   by_cases hlt:i<items.length
   ·obtain⟨j1,_⟩:=J1 i H' sH
    obtain⟨go,yl⟩:=j1 items[i] (by simp[hlt])
    rw[List.drop_eq_getElem_cons hlt]at er
    unfold eX at er
    obtain⟨ρ1,e1,er⟩:=oX er
    obtain⟨b,e2,er⟩:=oX er
    refine thn (T.item (hV X N' scope cl g3.objs.size { s2 with heap:=g3 } (upd H2 s2.heap.objs.size (.lst [])) fp) rfl rfl rfl hcalm i [] s' σ' H' (λ_ _=>False) I' (fpX hn) ti go) λq s4 hq=>?_
    obtain⟨u,rfl,hq⟩:=hq
    refine thn hq λ_ s5 hq=>?_
    obtain⟨xv,H5,I5,rx,y5,t5,fr5⟩:=hq
    obtain⟨N5,x5,i5⟩:=yl xv H5 y5
    -- all that may be named at this turn
    have x6:Ext N (join N N5) H' H5:=by
     refine⟨x5.hh,dj,λa o e=>?_,λa o e=>?_⟩
     ·cases z:N a with
      | some u'=>rw[dj _ _ z]at e;cases e;exact x5.hh _ _ (x.nh _ _ z)
      | none=>rw[cV z]at e;exact x5.nh _ _ e
     ·cases z:N a with
      | some u'=>rw[dj _ _ z]at e;cases e;exact .inl rfl
      | none =>
       rw[cV z]at e
       rcases x5.new a o e with z'|z'
       ·rw[x.bn _ _ z']at z;cases z
       ·exact .inr z'
    have c5:aR N5 (join N N5):=λa o e=>by
     rcases x5.new a o e with z|z
     ·exact dj _ _ (x.bn _ _ z)
     ·rw[cV (x.nh.free z)];exact e
    have hN5:(join N N5) s2.heap.objs.size=none:=by
     cases z:join N N5 s2.heap.objs.size with
     | none=>rfl
     | some o =>
      rcases x6.new _ _ z with z'|z'
      ·rw[hN0]at z';cases z'
      ·rw[hH0]at z';cases z'
    have fin:∀(s9:Shared) (σ9:St) (H9 N9:Hp) (vs9:List V) (es9:List D),Inv (hV X N' scope cl g3.objs.size { s2 with heap:=g3 } (upd H2 s2.heap.objs.size (.lst [])) fp) (kU fp s5.heap) σ9 H9 s9 ->
      RepE X.K N1 σ9 (bV nT cap ρ)->(bV nT cap ρ).length=σ9.length->Ext N1 N9 H2 H9->N9 s2.heap.objs.size=none->H9 s2.heap.objs.size=some (.lst vs9)->vs9.length<=i+1->IsL X.K N9 vs9 es9 ->
      (∃r,eX tgF fc fe (bV nT cap ρ) (items.drop (i+1))=some r/\es9++r=ds)->∃m,m<items.length - i/\∃(i:Nat) (N:Hp) (vs:List V) (es:List D) (σ':St) (H':Hp),Inv (hV X N' scope cl g3.objs.size { s2 with heap:=g3 } (upd H2 s2.heap.objs.size (.lst [])) fp) [] σ' H' s9/\tn i s9.heap/\(∀b∈fp,H' b=none) /\
       m=items.length - i/\i<=items.length/\RepE X.K N1 σ' (bV nT cap ρ)/\(bV nT cap ρ).length=σ'.length/\Ext N1 N H2 H'/\N s2.heap.objs.size=none/\H' s2.heap.objs.size=some (.lst vs)/\vs.length<=i/\IsL X.K N vs es /\
       ∃r,eX tgF fc fe (bV nT cap ρ) (items.drop i)=some r/\es++r=ds:=λs9 σ9 H9 N9 vs9 es9 I9 rp9 l9 x9 n9 h9 v9 i9 er9=>by
     refine⟨items.length - (i+1),by omega,i+1,N9,vs9,es9,σ9,H9,I9.pins_of λp hp=>by simp at hp,T.keep _ _ _ t5 λb hb o e=>(I9.pin (b,o) (mY _ (g8 hb e))).1,λb hb=>?_,rfl,hlt,rp9,l9,x9,n9,h9,v9,i9,er9⟩
     obtain⟨o,e,d⟩:=T.obj _ _ t5 b hb
     exact(I9.pin (b,o) (mY _ (g8 hb e))).2.1
    have I5':Inv (hV X N' scope cl g3.objs.size { s2 with heap:=g3 } (upd H2 s2.heap.objs.size (.lst [])) fp) (kU fp s5.heap) σ' H5 s5:=by
     have:=I5.pinned (fpX fr5) (T.obj _ _ t5)
     rwa [List.nil_append]at this
    have sN5:aR (join N N5) H5:=x6.nh
    refine thn (hg _ _ _ _ _ s5 σ' H5 xv u (λσ6 H6=>H6=H5/\RepE X.K (join N N5) σ6 ρ1/\RepE X.K N1 σ6 (bV nT cap ρ)/\(bV nT cap ρ).length=σ6.length) I5' rx ?_) λ_ s6 ⟨σ6,H6,I6,eH,rp6,rq6,l6⟩=>?_
    ·refine htg (join N N5) H5 σ' (bV nT cap ρ) ρ1 xv items[i] _ clean (rp.mono (x.bn.trans dj)) sN5 (i5.mono c5) e1 hlen λσ1 r1 r2 l1=>⟨rfl,r1,r2 N1 rp,l1⟩
    ·subst eH
     have hH5:H6 s2.heap.objs.size=some (.lst vs):=x5.hh _ _ hH0
     refine thn (hc _ _ _ _ _ s6 σ6 H6 (λc H7=>c=b/\aR H6 H7) I6 ⟨join N N5,ρ1,b,sN5,rp6,e2,λH7 h7=>⟨rfl,h7⟩⟩) λok s7 ⟨H7,I7,eb,h7⟩=>?_
     subst eb
     have x7:Ext N1 (join N N5) H2 H7:=(x.trans x6).trans (.grow sN5 h7)
     cases ok with
     | false =>
      rw[if_neg (by decide)]at er ⊢
      exact fin s7 σ6 H7 (join N N5) vs es I7 rq6 l6 x7 hN5 (h7 _ _ hH5) (Nat.le_succ_of_le hvl) (hvs.mono dj) ⟨r,er,eds⟩
     | true =>
      rw[if_pos rfl]at er ⊢
      obtain⟨y,e3,er⟩:=oX er
      obtain⟨r',e4,er⟩:=oY er
      subst er
      refine thn (he _ _ _ _ _ s7 σ6 H7 (λv H8=>∃N8,Ext (join N N5) N8 H7 H8/\Is X.K N8 v y.1) I7 ⟨join N N5,ρ1,y.1,y.2,sN5.trans h7,rp6,e3,λv H8 N8 x8 i8 _=>⟨N8,x8,i8⟩⟩) λw8 s8 ⟨v8,H8,I8,r8,N8,x8,i8⟩=>?_
      have hH8:H8 s2.heap.objs.size=some (.lst vs):=x8.hh _ _ (h7 _ _ hH5)
      refine thn (pH _ s8 σ6 H8 (.ref s2.heap.objs.size) [v8] (.ref s2.heap.objs.size) [w8] (λ_ H9=>H9=upd H8 s2.heap.objs.size (.lst (vs++[v8]))) I8 rfl (.cons r8 .nil) ⟨_,vs,v8,rfl,rfl,hH8,by omega,rfl⟩) λ_ s9 ⟨_,H9,I9,_,e9⟩=>?_
      subst e9
      have hN8:N8 s2.heap.objs.size=none:=by
       cases z:N8 s2.heap.objs.size with
       | none=>rfl
       | some o =>
        rcases x8.new _ _ z with z'|z'
        ·rw[hN5]at z';cases z'
        ·rw[h7 _ _ hH5]at z';cases z'
      refine fin s9 σ6 _ N8 (vs++[v8]) (es++[y.1]) I9 rq6 l6 ((x7.trans x8).upd hD hN8) hN8 aJ (by rw[List.length_append,List.length_singleton];omega) ((hvs.mono (dj.trans x8.bn)).append (.cons i8 .nil)) ⟨r',e4,by rw[List.append_assoc];exact eds⟩
   ·have ei:i=items.length:=by omega
    subst ei
    rw[List.drop_eq_nil_of_le (Nat.le_refl _)]at er
    cases er
    rw[List.append_nil]at eds
    subst eds
    refine thn (T.done (hV X N' scope cl g3.objs.size { s2 with heap:=g3 } (upd H2 s2.heap.objs.size (.lst [])) fp) rfl rfl rfl hcalm items.length [] s' σ' H' (λ_ _=>False) I' (fpX hn) ti ((J1 _ H' sH).2 (Nat.le_refl _))) λq s4 ⟨hq,I9⟩=>?_
    subst hq
    obtain⟨m,hm,_⟩:=I9.loc
    have u1:Un (frs X.stack) fp H2 (upd H2 s2.heap.objs.size (.lst [])) s2.heap g3:=Un.laid old2 (Nat.le_refl _) hD
    have x9:Ext N1 (upd N s2.heap.objs.size (.lst vs)) H2 H':=by
     refine⟨x.hh,x.bn.trans λa o e=>by rw[aL (λz=>by subst z;rw[hN0]at e;cases e)];exact e,λa o e=>?_,λa o e=>?_⟩
     ·by_cases z:a=s2.heap.objs.size
      ·subst z;rw[aJ]at e;cases e;exact hH0
      ·rw[aL z]at e;exact x.nh _ _ e
     ·by_cases z:a=s2.heap.objs.size
      ·subst z;exact .inr hD
      ·rw[aL z]at e;exact x.new _ _ e
    refine hRR s2.heap.objs.size g3.objs.size s4 H' (upd N s2.heap.objs.size (.lst vs)) vs m hD (I2.call' (ch:=fp) I9.os (u1.trans I9.base) I9.hok I9.bare λb hb=>⟨(f2 b hb).2.2.2.1,(f2 b hb).2.1,(f2 b hb).2.2.2.2.1,(f2 b hb).2.2.2.2.2⟩) hm (I2.fpOk (by rw[hC];exact Nat.le_succ _) I9.free) x9 aJ
     (hvs.mono λa o e=>by rw[aL (λz=>by subst z;rw[hN0]at e;cases e)];exact e)
  ·refine⟨0,N1,[],[],ph nT cap σ,_,I4,T.keep _ _ _ st2 λb hb o e=>old3 _ _ (old2 _ _ e),λb hb=>?_,rfl,Nat.zero_le _,rep.caps, ?_,(Ext.refl sN).upd hD hND,hND,aJ,Nat.zero_le _,.nil,ds,by simpa using ec,rfl⟩
   ·rw[aL (fpD b hb)];exact(f2 b hb).1
   ·unfold bV ph;simp
 exact codeAny_compStart_list (loop _ rfl) (T.self _ 0 _ _ _ (T.keep _ _ _ st2 λb hb o e=>old3 _ _ (old2 _ _ e)) (loop _ rfl))
theorem dY {X:Cx}(hcalm:X.calm=true) {tg iter elt:Expr}{ifs:List Expr}{scope:Scope}{pos:Pos}{cl:List (Str×Addr)}{N':List Str}{nT:Nat}{cap:List Nat}{fi:FA}{tgF:FG}{g:TG}{fc:FT}{fe:FE}
  (S:CompSc X scope cl) (cp:Caps X N' scope cl nT cap) (hi:JI X tg iter fi)
  (hg:∀C s H fp,PG (hV X N' scope cl C s H fp) tg g) (htg:TGE X.K nT tgF g) (hc:∀C s H fp,JC (hV X N' scope cl C s H fp) ifs fc) (he:∀C s H fp,JE (hV X N' scope cl C s H fp) elt fe)
  (hs:∀x,foldedSetIterable iter X.env x=pure x:=by intro _;rfl) :
  JE X (.ListComp elt [⟨tg,iter,ifs,0⟩] scope pos) (cr fi nT cap tgF fc fe):=by
 intro pins s σ H Q I h
 obtain⟨B,ρ,d,b,sB,rep,e,q⟩:=h
 obtain⟨items,ei,e⟩:=oX e
 have hsz:items.length<=sizeLine:=Decidable.byContradiction λz=>by rw[if_neg z]at e;cases e
 rw[if_pos hsz]at e
 obtain⟨ds,ec,e⟩:=oY e
 cases e
 rw[eval_ListComp]
 refine wpAny_comprehension_free (use:=none) rfl hs S.clos S.kind S.names (thn (hi pins s σ H (λJ H2=>∃N1,Ext B N1 H H2/\pe X.K J N1 items) I ⟨B,ρ,items,sB,rep,ei,λJ H2 N1 x1 j1=>⟨N1,x1,j1⟩⟩) λv s1 h1=>thn h1 λitv s2 h2=>?_)
 obtain⟨it,fp,tn,J,H2,e,I2,T,st2,f2,N1,x1,j1⟩:=h2
 subst e
 refine mM hcalm S cp hg htg hc he I2 T st2 f2 (rep.mono x1.bn) x1.nh j1 hsz ec (RR:=λacc C=>compPost (model X.prog X.w) X.A X.xe none (EP X pins σ Q) acc C) ?_
 intro Dd C s' H' N vs m hD I' hm fC x hN hl
 refine⟨m,hm,λh' hs'=>⟨.ref Dd,H', ?_,rfl,q _ H' N (x1.trans x) (.lst (SqL.of hN) hl) λ_=>⟨Dd,vs,ds,rfl,rfl,x1.hh.free hD,hN,hl⟩⟩⟩
 obtain⟨c0,c1,c2,c3,c4,c5⟩:=fC
 exact I'.turned (t':=s'.toks) (λb o hb e=>(hs'.2 b hb).trans e) c0 c1 c3 c4 c5
theorem iL {X:Cx}(hcalm:X.calm=true) {tg iter elt:Expr}{ifs:List Expr}{scope:Scope}{pos spos py:Pos}{cl:List (Str×Addr)}{N':List Str}{nT:Nat}{cap:List Nat}{fi:FA}{tgF:FG}{g:TG}{fc:FT}{fe:FE}{y:Str}{i:Nat}
  (hN:X.N.Nodup) (hi':X.N[i]? = some y) (hy:X.env.kindOf y=some .local)
  (hsw:swapsWith (.ListComp elt [⟨tg,iter,ifs,0⟩] scope pos) (some (.Name y py)) spos.line X.env=pure true)
  (S:CompSc X scope cl) (cp:Caps X N' scope cl nT cap) (hi:JI X tg iter fi)
  (hg:∀C s H fp,PG (hV X N' scope cl C s H fp) tg g) (htg:TGE X.K nT tgF g) (hc:∀C s H fp,JC (hV X N' scope cl C s H fp) ifs fc) (he:∀C s H fp,JE (hV X N' scope cl C s H fp) elt fe)
  (hs:∀x,foldedSetIterable iter X.env x=pure x:=by intro _;rfl) :
  JS X (.Assign [.Name y py] (.ListComp elt [⟨tg,iter,ifs,0⟩] scope pos) spos) (aW i (cr fi nT cap tgF fc fe)):=by
 intro pins s σ H E I h
 have h2:yz (tD X.K (cr fi nT cap tgF fc fe)) (lG i) E σ H:=xf h
 obtain⟨B,ρ,d,b,sB,rep,e,q⟩:=h2
 obtain⟨items,ei,e⟩:=oX e
 have hsz:items.length<=sizeLine:=Decidable.byContradiction λz=>by rw[if_neg z]at e;cases e
 rw[if_pos hsz]at e
 obtain⟨ds,ec,e⟩:=oY e
 cases e
 rw[exec_Assign_Name_used _ _ _ _ hsw]
 refine wX (wpAny_standAt (wX ?_))
 show wpAny _ _ (do let _ ←comprehension (.ListComp elt [⟨tg,iter,ifs,0⟩] scope pos) scope X.env _ (newList []) false (eval iter X.env) (some (assign (.Name y py) X.env))) _ _ s
 refine wX (wpAny_mono (wpAny_comprehension_free (use:=some (assign (.Name y py) X.env)) (Q:=λ_ s'=>SP X pins E .next s') rfl hs S.clos S.kind S.names
  (thn (hi pins s σ H (λJ H2=>∃N1,Ext B N1 H H2/\pe X.K J N1 items) I ⟨B,ρ,items,sB,rep,ei,λJ H2 N1 x1 j1=>⟨N1,x1,j1⟩⟩) λv s1 h1=>thn h1 λitv s2 h2=>?_)) (λ_ s' hq=>wY (wY hq)) λ_ _ e=>e)
 obtain⟨it,fp,tn,J,H2,e,I2,T,st2,f2,N1,x1,j1⟩:=h2
 subst e
 refine mM hcalm S cp hg htg hc he I2 T st2 f2 (rep.mono x1.bn) x1.nh j1 hsz ec (RR:=λacc C=>compPost (model X.prog X.w) X.A X.xe (some (assign (.Name y py) X.env)) (λ_ s'=>SP X pins E .next s') acc C) ?_
 intro Dd C s' H' N vs m hD I' hm fC x hN' hl
 show wpAny _ _ (assign (.Name y py) X.env (.ref Dd)) _ _ s'
 obtain⟨c0,c1,c2,c3,c4,c5⟩:=fC
 refine wpAny_assign_Name (p8 I' hN hi' (.inl hy) (r:=show aT (.ref Dd) (.ref Dd)from rfl) (λs9 I9 ⟨a,sb,ha⟩=>?_) (.inr hy))
 have nC:C≠a:=by
  rcases ha with z|z
  ·rw[z];exact c1
  ·exact λw=>c4 y a z w.symm
 refine⟨m,hm.sameBut sb nC,λh' hs'=>⟨_,H', ?_,q _ H' N (x1.trans x) (.lst (SqL.of hN') hl) λ_=>⟨Dd,vs,ds,rfl,rfl,x1.hh.free hD,hN',hl⟩⟩⟩
 exact I9.turned (t':=s9.toks) (λb o hb e=>(hs'.2 b hb).trans e) c0 c1 c3 c4 c5
section
variable {X:Cx}{a b c e:Expr}{pos:Pos}
theorem PE.to {t t':TE}(h:PE X e t) (k:∀σ H Q,t' σ H Q->t σ H Q):PE X e t':=λpins s σ H Q I q=>h pins s σ H Q I (k σ H Q q)
theorem PT.to {t t':TT}(h:PT X e t) (k:∀σ H Q,t' σ H Q->t σ H Q):PT X e t':=λpins s σ H Q I q=>h pins s σ H Q I (k σ H Q q)
theorem PW.to {t t':TT}(h:PW X e t) (k:∀σ H Q,t' σ H Q->t σ H Q):PW X e t':=λwh pins s σ H Q I q=>h wh pins s σ H Q I (k σ H Q q)
theorem PA.to {es:List Expr}{t t':TA}(h:PA X es t) (k:∀σ H Q,t' σ H Q->t σ H Q):PA X es t':=λpos pins s σ H Q I q=>h pos pins s σ H Q I (k σ H Q q)
theorem PS.to {st:Stmt}{t t':TS}(h:PS X st t) (k:∀E σ H,t' E σ H->t E σ H):PS X st t':=λpins s σ H E I q=>h pins s σ H E I (k E σ H q)
theorem PSs.to {st:List Stmt}{t t':TS}(h:PSs X st t) (k:∀E σ H,t' E σ H->t E σ H):PSs X st t':=λpins s σ H E I q=>h pins s σ H E I (k E σ H q)
theorem PI.to {tg it:Expr}{t t':TI}(h:PI X tg it t) (k:∀σ H Q,t' σ H Q->t σ H Q):PI X tg it t':=λpins s σ H Q I q=>h pins s σ H Q I (k σ H Q q)
theorem yH {K:PySem.W.Frag}{d:D}{v:V}(i:∀B,Is K B v d) {σ:St}{H:Hp}{Q:VK}(h:tD K (fC d) σ H Q):tC v σ H Q:=by
 obtain⟨B,ρ,d',b,s,r,e,q⟩:=h
 cases e
 exact q.one s (i B)
theorem ab (i:Nat) {x:Str}(hN:X.N[i]? = some x:=by rfl) (hv:Vis X.env.scope x:=by first|exact Or.inl rfl|exact Or.inr (Or.inl rfl)|exact Or.inr (Or.inr rfl)) (hd:(x == ("__debug__" : Str))=false:=by decide)
  (hcd:(x == ("__classdict__" : Str))=false:=by decide):JE X (.Name x pos) (af i):=PE.to (mF hN hv hd hcd) λ_ _ _ h=>EG h
theorem ai {i:Int}{j:Nat}:JE X (.Constant (.int i) j pos) (fC (.int i)):=PE.to Eb λ_ _ _ h=>yH (λ_=>.int i) h
theorem fG {i:Bool}{j:Nat}:JE X (.Constant (.bool i) j pos) (fC (.bl i)):=PE.to FJ λ_ _ _ h=>yH (λ_=>.bl i) h
theorem eM {j:Nat}:JE X (.Constant .none j pos) (fC .non):=PE.to Ec λ_ _ _ h=>yH (λ_=>.non) h
theorem a8 {x:Str}{j:Nat}:JE X (.Constant (.str x) j pos) (fC (.str x)):=PE.to Ed λ_ _ _ h=>yH (λ_=>.str x) h
theorem Ci {x:Str}{v:V}{d:D}{u:Value}(hg:Gl X x) (hm:X.mg x=some u) (r:aT v u) (i:∀B,Is X.K B v d) (hd:(x == ("__debug__" : Str))=false:=by decide):JE X (.Name x pos) (fC d):=PE.to (wT hg hm r hd) λ_ _ _ h=>yH i h
theorem aw {op:Operator}{f:D->D->Option (D×Bool)}{fa fb:FE}(ho:OpR X (binaryOp op) (rD X.K f)) (ha:JE X a fa) (hb:JE X b fb):JE X (.BinOp a op b pos) (f2 f fa fb):=PE.to (Dm ho ha hb) λ_ _ _ h=>BZ h
theorem G1 {op:UnaryOp}{f:D->Option (D×Bool)}{fa:FE}(ho:UnR X (unaryOp op) (rDU X.K f)) (ha:JE X a fa):JE X (.UnaryOp op a pos) (f1 f fa):=PE.to (Gd ho ha) λ_ _ _ h=>Hz h
theorem cG {op:CmpOp}{f:D->D->Option (D×Bool)}{fa fb:FE}(ho:OpR X (compareOp op) (rD X.K f)) (ha:JE X a fa) (hb:JE X b fb) (hm:behindInMarks op b=false:=by first|exact mG _ (by decide) (by decide)|rfl):JE X (.Compare a [op] [b] pos) (f2 f fa fb):=PE.to (BL ho ha hb hm) λ_ _ _ h=>BZ h
theorem Aa {K:PySem.W.Frag}{f:FE}{σ:St}{H:Hp}{Q:Bool->Hp->Prop}(h:tDT K (tOf f) σ H Q):tD K f σ H λx H'=>∃k,x=.bl k/\Q k H':=by
 obtain⟨B,ρ,c,s,r,e,q⟩:=h
 unfold tOf at e
 split at e
 ·rename_i c' b' ef
  cases e
  refine⟨B,ρ,.bl c,b',s,r,ef,λv H' N x i _=>?_⟩
  cases i
  exact⟨c,rfl,q H' x.hh⟩
 ·cases e
theorem aN {op:CmpOp}{f:D->D->Option (D×Bool)}{fa fb:FE}(ho:OpR X (compareOp op) (rD X.K f)) (ha:JE X a fa) (hb:JE X b fb) (hm:behindInMarks op b=false:=by first|exact mG _ (by decide) (by decide)|rfl):JT X (.Compare a [op] [b] pos) (tOf (f2 f fa fb)) :=
 PT.to (BM ho ha hb hm) λ_ _ _ h=>BZ (Aa h)
theorem dm {f:FE}(h:JE X e f) (he:∀whole,isTrue e X.env whole=(do let v ←whole;standAt e.pos;holding [v] (truthy v)):=by intro _;rfl):JT X e (tOf f):=PT.to (Ee h he) λ_ _ _ q=>Aa q
@[simp] def kZ (f g:D->D->Option (D×Bool)) (fa fb fc:FE):FE:=λρ=>(fa ρ).bind λx=>(fb ρ).bind λy=>match f x.1 y.1 with
 | some (.bl true,_)=>(fc ρ).bind λz=>g y.1 z.1
 | some (.bl false,_)=>some (.bl false,false)
 | _=>none
theorem Ab {K:PySem.W.Frag}{f g:D->D->Option (D×Bool)}{fa fb fc:FE}{σ:St}{H:Hp}{Q:VK}(h:tD K (kZ f g fa fb fc) σ H Q):zC (rD K f) (rD K g) (tD K fa) (tD K fb) (tD K fc) σ H Q:=by
 obtain⟨B,ρ,d,b,s,r,e,q⟩:=h
 obtain⟨x,ex,e⟩:=oX e
 obtain⟨y,ey,e⟩:=oX e
 refine⟨B,ρ,x.1,x.2,s,r,ex,λv H1 N1 x1 i1 _=>⟨N1,ρ,y.1,y.2,x1.nh,r.mono x1.bn,ey,λv2 H2 N2 x2 i2 _=>?_⟩⟩
 split at e
 ·rename_i b' ef
  obtain⟨z,ez,e⟩:=oX e
  refine⟨N2,x.1,y.1,.bl true,b',x2.nh,i1.mono x2.bn,i2,ef,λv3 H3 N3 x3 i3 _=>?_⟩
  cases i3
  refine⟨true,rfl, ?_⟩
  rw[if_pos rfl]
  refine⟨N3,ρ,z.1,z.2,x3.nh,r.mono (x1.bn.trans (x2.bn.trans x3.bn)),ez,λv4 H4 N4 x4 i4 _=>⟨N4,y.1,z.1,d,b,x4.nh,i2.mono (x3.bn.trans x4.bn),i4,e, ?_⟩⟩
  exact q.into ((x1.trans x2).trans (x3.trans x4))
 ·rename_i b' ef
  cases e
  refine⟨N2,x.1,y.1,.bl false,b',x2.nh,i1.mono x2.bn,i2,ef,λv3 H3 N3 x3 i3 _=>?_⟩
  cases i3
  refine⟨false,rfl, ?_⟩
  rw[if_neg (by decide)]
  exact(q.into ((x1.trans x2).trans x3)).one x3.nh (.bl false)
 ·cases e
theorem Ac {op op':CmpOp}{f g:D->D->Option (D×Bool)}{fa fb fc:FE}(ho:OpR X (compareOp op) (rD X.K f)) (ho':OpR X (compareOp op') (rD X.K g)) (ha:JE X a fa) (hb:JE X b fb) (hc:JE X c fc)
  (hm:lastMarks [op,op'] [b,c]=false:=by with_unfolding_all rfl):JE X (.Compare a [op,op'] [b,c] pos) (kZ f g fa fb fc):=PE.to (zD ho ho' ha hb hc hm) λ_ _ _ h=>Ab h
theorem Cj {K:PySem.W.Frag}{f g:FT}{σ:St}{H:Hp}{Q:Bool->Hp->Prop}(h:tDT K (cD f g) σ H Q):FL (tDT K f) (tDT K g) σ H Q:=by
 obtain⟨B,ρ,c,s,r,e,q⟩:=h
 unfold cD at e
 cases ef:f ρ with
 | none=>rw[ef]at e;cases e
 | some k =>
  rw[ef]at e
  refine⟨B,ρ,k,s,r,ef,λH1 h1=>?_⟩
  cases k with
  | true=>rw[if_pos rfl];exact⟨B,ρ,c,s.trans h1,r,e,λH2 h2=>q H2 (h1.trans h2)⟩
  | false=>rw[if_neg (by decide)];cases e;exact q H1 h1
theorem EI {K:PySem.W.Frag}{f g:FT}{σ:St}{H:Hp}{Q:Bool->Hp->Prop}(h:tDT K (hU f g) σ H Q):tOr (tDT K f) (tDT K g) σ H Q:=by
 obtain⟨B,ρ,c,s,r,e,q⟩:=h
 unfold hU at e
 cases ef:f ρ with
 | none=>rw[ef]at e;cases e
 | some k =>
  rw[ef]at e
  refine⟨B,ρ,k,s,r,ef,λH1 h1=>?_⟩
  cases k with
  | false=>rw[if_neg (by decide)];exact⟨B,ρ,c,s.trans h1,r,e,λH2 h2=>q H2 (h1.trans h2)⟩
  | true=>rw[if_pos rfl];cases e;exact q H1 h1
theorem Ck {K:PySem.W.Frag}{f:FT}{σ:St}{H:Hp}{Q:Bool->Hp->Prop}(h:tDT K (fZ f) σ H Q):FM (tDT K f) σ H Q:=by
 obtain⟨B,ρ,c,s,r,e,q⟩:=h
 obtain⟨k,ek,e⟩:=oY e
 subst e
 exact⟨B,ρ,k,s,r,ek,λH1 h1=>q H1 h1⟩
variable {a9:List Expr}
theorem g9 {f:FT}(ha:JT X a f):JW X (.BoolOp .And [a] pos) f:=BE ha
theorem jm {f:FT}(ha:JT X a f):JW X (.BoolOp .Or [a] pos) f:=Ef ha
theorem fQ {f g:FT}(ha:JT X a f) (hb:JW X (.BoolOp .And (b::a9) pos) g):JW X (.BoolOp .And (a::b::a9) pos) (cD f g):=PW.to (Eg ha hb) λ_ _ _ h=>Cj h
theorem jP {f g:FT}(ha:JT X a f) (hb:JW X (.BoolOp .Or (b::a9) pos) g):JW X (.BoolOp .Or (a::b::a9) pos) (hU f g):=PW.to (FN ha hb) λ_ _ _ h=>EI h
theorem jQ {f:FT}(h:JW X e f):JT X e f:=h.pt
theorem la {f:FT}(ha:JT X a f):JT X (.UnaryOp .Not a pos) (fZ f):=PT.to (Eh ha) λ_ _ _ h=>Ck h
@[simp] def ie (f g:FE):FE:=λρ=>match f ρ with|some (.bl true,_)=>g ρ|some (.bl false,_)=>some (.bl false,false)|_=>none
@[simp] def fOr (f g:FE):FE:=λρ=>match f ρ with|some (.bl true,_)=>some (.bl true,false)|some (.bl false,_)=>g ρ|_=>none
@[simp] def vP (f:FE):FE:=λρ=>match f ρ with|some (.bl c,_)=>some (.bl (!c),false)|_=>none
theorem fR {f g:FE}(ha:JE X a f) (hb:JE X (.BoolOp .And (b::a9) pos) g):JE X (.BoolOp .And (a::b::a9) pos) (ie f g):=PE.to (Ej ha hb) λσ H Q h=>by
 obtain⟨B,ρ,d,k,s,r,e,q⟩:=h
 unfold ie at e
 split at e
 ·rename_i b' ef
  refine⟨B,ρ,_,_,s,r,ef,λv H1 N1 x1 i1 _=>?_⟩
  cases i1
  refine⟨true,rfl, ?_⟩
  rw[if_pos rfl]
  exact⟨N1,ρ,d,k,x1.nh,r.mono x1.bn,e,q.into x1⟩
 ·rename_i b' ef
  cases e
  refine⟨B,ρ,_,_,s,r,ef,λv H1 N1 x1 i1 _=>?_⟩
  cases i1
  refine⟨false,rfl, ?_⟩
  rw[if_neg (by decide)]
  exact(q.into x1).one x1.nh (.bl false)
 ·cases e
theorem Dw {f g:FE}(ha:JE X a f) (hb:JE X (.BoolOp .Or (b::a9) pos) g):JE X (.BoolOp .Or (a::b::a9) pos) (fOr f g):=PE.to (FR ha hb) λσ H Q h=>by
 obtain⟨B,ρ,d,k,s,r,e,q⟩:=h
 unfold fOr at e
 split at e
 ·rename_i b' ef
  cases e
  refine⟨B,ρ,_,_,s,r,ef,λv H1 N1 x1 i1 _=>?_⟩
  cases i1
  refine⟨true,rfl, ?_⟩
  rw[if_pos rfl]
  exact(q.into x1).one x1.nh (.bl true)
 ·rename_i b' ef
  refine⟨B,ρ,_,_,s,r,ef,λv H1 N1 x1 i1 _=>?_⟩
  cases i1
  refine⟨false,rfl, ?_⟩
  rw[if_neg (by decide)]
  exact⟨N1,ρ,d,k,x1.nh,r.mono x1.bn,e,q.into x1⟩
 ·cases e
theorem eY {op:BoolOp}{f:FE}(h:JE X a f):JE X (.BoolOp op [a] pos) f:=Ei h
theorem EJ {f:FE}(ha:JE X a f):JE X (.UnaryOp .Not a pos) (vP f):=PE.to (Ek ha) λσ H Q h=>by
 obtain⟨B,ρ,d,k,s,r,e,q⟩:=h
 unfold vP at e
 split at e
 ·rename_i c b' ef
  cases e
  refine⟨B,ρ,_,_,s,r,ef,λv H1 N1 x1 i1 _=>?_⟩
  cases i1
  exact⟨c,rfl,(q.into x1).one x1.nh (.bl _)⟩
 ·cases e
variable {es:List Expr}
theorem ag:JA X [] aj:=PA.to hZ λ_ _ _ h=>Cb h
theorem aa {f:FE}{g:FA}(ha:JE X e f) (hr:JA X es g) (hs:starEach (e::es) X.env=(false,eval e X.env)::starEach es X.env:=by rfl):JA X (e::es) (ae f g):=PA.to (fE ha hr hs) λ_ _ _ h=>zU h
@[simp] def ba:List D->Option (D×Bool):=λds=>if ds.length<=sizeLine then some (.tup ds,false)else none
@[simp] def bB:List D->Option (D×Bool):=λds=>if ds.length<=sizeLine then some (.lst ds,true)else none
theorem aU {x1} {f:FA}(h:JA X es f):JE X (.Tuple es x1 pos) (fA ba f):=PE.to (vE h) λσ H Q q=>by
 obtain⟨B,ρ,ds,s,r,e,k⟩:=Ca q
 refine⟨B,ρ,ds,s,r,e,λvs H1 N1 x1 i1=>?_⟩
 obtain⟨B2,ds2,d,b,s2,i2,e2,k2⟩:=k vs H1 N1 x1 i1
 unfold ba at e2
 split at e2
 ·rename_i hz
  cases e2
  refine⟨by rw[i2.length];exact hz,λp hp=>k2 _ _ (upd B2 p (.tup vs)) (.laid s2 hp) (.tup (SqT.of aJ) (i2.mono (Ext.laid s2 hp).bn)) (by simp)⟩
 ·cases e2
theorem b9 {f:FA}(h:JA X es f):JE X (.List es pos) (fA bB f):=PE.to (E4 h) λσ H Q q=>by
 obtain⟨B,ρ,ds,s,r,e,k⟩:=Ca q
 refine⟨B,ρ,ds,s,r,e,λvs H1 N1 x1 i1=>?_⟩
 obtain⟨B2,ds2,d,b,s2,i2,e2,k2⟩:=k vs H1 N1 x1 i1
 unfold bB at e2
 split at e2
 ·rename_i hz
  cases e2
  refine⟨by rw[i2.length];exact hz,λp hp=>k2 _ _ (upd B2 p (.lst vs)) (.laid s2 hp) (.lst (SqL.of aJ) (i2.mono (Ext.laid s2 hp).bn)) λ_=>⟨p,vs,ds2,rfl,rfl,hp,aJ,i2.mono (Ext.laid s2 hp).bn⟩⟩
 ·cases e2
end
section
variable {X:Cx}
theorem fS {f:Value->Value->Sem Value}{r r':R2}(h:OpR X f r) (k:∀x y H Q,r' x y H Q->r x y H Q):OpR X f r':=λpins s σ H x y v u Q I rx ry q=>h pins s σ H x y v u Q I rx ry (k x y H Q q)
def orD (f g:D->D->Option (D×Bool)):D->D->Option (D×Bool):=λx y=>match f x y with|some r=>some r|none=>g x y
theorem lb {s:Value->Value->Sem Value}{f g:D->D->Option (D×Bool)}(h:OpR X s (rD X.K f)) (h':OpR X s (rD X.K g)):OpR X s (rD X.K (orD f g)):=by
 intro pins st σ H x y v u Q I rx ry q
 obtain⟨B,dx,dy,d,b,sB,ix,iy,e,q⟩:=q
 unfold orD at e
 split at e
 ·rename_i r ef
  cases e
  exact h pins st σ H x y v u Q I rx ry ⟨B,dx,dy,_,_,sB,ix,iy,ef,q⟩
 ·exact h' pins st σ H x y v u Q I rx ry ⟨B,dx,dy,_,_,sB,ix,iy,e,q⟩
@[simp] def iop (C:Int->Int->Bool) (g:Int->Int->D):D->D->Option (D×Bool)
 | .int i,.int j=>if C i j=true then some (g i j,false)else none
 | _,_=>none
theorem m8 {s:Value->Value->Sem Value}{C:Int->Int->Prop}{C':Int->Int->Bool}{g:Int->Int->V}{g':Int->Int->D}(h:OpR X s (rI C g)) (hC:∀i j,C' i j=true->C i j) (hg:∀i j B,Is X.K B (g i j) (g' i j)):OpR X s (rD X.K (iop C' g')):=by
 refine fS h λx y H Q q=>?_
 obtain⟨B,dx,dy,d,b,sB,ix,iy,e,q⟩:=q
 cases ix<;>cases iy<;>try (simp[iop]at e;done)
 rename_i i j
 simp only[iop]at e
 split at e
 ·rename_i hc
  cases e
  exact⟨i,j,rfl,rfl,hC i j hc,q.one sB (hg i j B)⟩
 ·cases e
theorem gb {s:Value->Value->Sem Value}{g:Int->Int->V}{g':Int->Int->D}(h:OpR X s (rI0 g)) (hg:∀i j B,Is X.K B (g i j) (g' i j)):OpR X s (rD X.K (iop (λ_ _=>true) g')):=by
 refine fS h λx y H Q q=>?_
 obtain⟨B,dx,dy,d,b,sB,ix,iy,e,q⟩:=q
 cases ix<;>cases iy<;>try (simp[iop]at e;done)
 rename_i i j
 simp only[iop,if_true]at e
 cases e
 exact⟨i,j,rfl,rfl,q.one sB (hg i j B)⟩
abbrev EK:D->D->Option (D×Bool):=iop (λ_ _=>true) λi j=>.int (i+j)
abbrev vQ:D->D->Option (D×Bool):=iop (λ_ _=>true) λi j=>.int (i - j)
abbrev EL:D->D->Option (D×Bool):=iop (λi j=>decide ((-18446744073709551616<i/\i<18446744073709551616)∨(-18446744073709551616<j/\j<18446744073709551616))) λi j=>.int (i*j)
abbrev c6:D->D->Option (D×Bool):=iop (λ_ j=>decide (0<j/\j<1073741824)) λi j=>.int (i / j)
abbrev bC:D->D->Option (D×Bool):=iop (λ_ j=>decide (0<j)) λi j=>.int (i % j)
abbrev EM:D->D->Option (D×Bool):=iop (λ_ j=>decide (0<=j)) λi j=>.int (i / 2 ^ j.toNat)
abbrev Cm:D->D->Option (D×Bool):=iop (λ_ _=>true) λi j=>.int (Builtin.bitAnd i j)
abbrev iLt:D->D->Option (D×Bool):=iop (λ_ _=>true) λi j=>.bl (decide (i<j))
abbrev iLe:D->D->Option (D×Bool):=iop (λ_ _=>true) λi j=>.bl (decide (i<=j))
abbrev iGt:D->D->Option (D×Bool):=iop (λ_ _=>true) λi j=>.bl (decide (j<i))
theorem G2:OpR X (binaryOp .Add) (rD X.K EK):=gb Ev λ_ _ _=>.int _
theorem Ad:OpR X (binaryOp .Sub) (rD X.K vQ):=gb Ew λ_ _ _=>.int _
theorem G3:OpR X (binaryOp .Mult) (rD X.K EL):=m8 Ex (λi j h=>by have h:=of_decide_eq_true h;unfold BJ;omega) λ_ _ _=>.int _
theorem bA:OpR X (binaryOp .FloorDiv) (rD X.K c6):=m8 BK (λi j h=>by have h:=of_decide_eq_true h;unfold Ge;omega) λ_ _ _=>.int _
theorem b7:OpR X (binaryOp .Mod) (rD X.K bC):=m8 Ey (λ_ _ h=>of_decide_eq_true h) λ_ _ _=>.int _
theorem Dx:OpR X (binaryOp .RShift) (rD X.K EM):=m8 Ez (λ_ _ h=>of_decide_eq_true h) λ_ _ _=>.int _
theorem Ae:OpR X (binaryOp .BitAnd) (rD X.K Cm):=gb E1 λ_ _ _=>.int _
theorem HA:OpR X (compareOp .Lt) (rD X.K iLt):=gb Gf λ_ _ _=>.bl _
theorem HB:OpR X (compareOp .LtE) (rD X.K iLe):=gb Gg λ_ _ _=>.bl _
theorem Af:OpR X (compareOp .Gt) (rD X.K iGt):=gb Gh λ_ _ _=>.bl _
@[simp] def sop (C:Str->Str->Bool) (g:Str->Str->D):D->D->Option (D×Bool)
 | .str i,.str j=>if C i j=true then some (g i j,false)else none
 | _,_=>none
abbrev Ag:D->D->Option (D×Bool):=sop (λi j=>decide (i.length+j.length<=sizeLine)) λi j=>.str (i++j)
abbrev sLe:D->D->Option (D×Bool):=sop (λ_ _=>true) λi j=>.bl (!decide (j.cps.toList<i.cps.toList))
theorem EN:OpR X (binaryOp .Add) (rD X.K Ag):=by
 refine fS vC λx y H Q q=>?_
 obtain⟨B,dx,dy,d,b,sB,ix,iy,e,q⟩:=q
 cases ix<;>cases iy<;>try (simp[Ag,sop]at e;done)
 rename_i i j
 simp only[Ag,sop]at e
 split at e
 ·rename_i hc
  cases e
  exact⟨i,j,rfl,rfl,of_decide_eq_true hc,q.one sB (.str _)⟩
 ·cases e
theorem G4:OpR X (compareOp .LtE) (rD X.K sLe):=by
 intro pins s σ H x y v u Q I rx ry q
 obtain⟨B,dx,dy,d,b,sB,ix,iy,e,q⟩:=q
 cases ix<;>cases iy<;>try (simp[sLe,sop]at e;done)
 rename_i i j
 simp only[sLe,sop,if_true]at e
 cases e
 obtain⟨t,rfl⟩:=rx
 obtain⟨t',rfl⟩:=ry
 exact PySem.P.le_str ⟨.bl _,H,I,rfl,q.one sB (.bl _)⟩
end
section
variable {X:Cx}{a b c e:Expr}{pos:Pos}{st:Stmt}{a9:List Stmt}
theorem bg:JSs X [] bo:=PSs.to BF λ_ _ _ h=>zW h
theorem ao {g h:FS}(h1:JS X st g) (h2:JSs X a9 h):JSs X (st::a9) (aG g h):=PSs.to (z5 h1 h2) λ_ _ _ q=>Cc q
theorem az {g:FS}(h1:JS X st g):JSs X [st] g:=BG h1
theorem bz {c:Expr}{a b:List Stmt}{fc:FT}{g h:FS}(hc:JT X c fc) (ha:JSs X a g) (hb:JSs X b h):JS X (.If c a b pos) (gIf fc g h):=PS.to (FY hc ha hb) λ_ _ _ q=>EH q
theorem aH {f:FE}(he:JE X e f):JS X (.Return (some e) pos) (bp f):=PS.to (z6 he) λ_ _ _ q=>Ce q
theorem m9 (i:Nat) {x:Str}{p:Pos}(hN:X.N[i]? = some x:=by rfl) (hv:Vis X.env.scope x:=by first|exact Or.inl rfl|exact Or.inr (Or.inl rfl)|exact Or.inr (Or.inr rfl)) (hd:(x == ("__debug__" : Str))=false:=by decide)
  (hcd:(x == ("__classdict__" : Str))=false:=by decide):JS X (.Return (some (.Name x p)) pos) (jM i):=PS.to (z6 (mF hN hv hd hcd)) λ_ _ _ q=>zX q
theorem aI {i:Nat}{x:Str}{p:Pos}{f:FE}(hN:X.N.Nodup) (he:JE X e f) (hi:X.N[i]? = some x:=by rfl) (hx:Loc X.env.scope x:=by first|exact Or.inl rfl|exact Or.inr rfl) (hs:swapsWith e (some (.Name x p)) pos.line X.env=pure false:=by rfl)
  (hf:X.fn x=true∨X.env.scope.names.lookup x=some .local:=by first|exact .inl rfl|exact .inr rfl):JS X (.Assign [.Name x p] e pos) (aW i f):=PS.to (z9 hN hi hx he hs hf) λ_ _ _ q=>xf q
theorem rg {tg iter:Expr}{body:List Stmt}{fi:FA}{tgF:FG}{t:TG}{g:FS}(hp:PassesOwn (model X.prog X.w) X.A X.env X.xe) (hc:X.calm=true) (hi:JI X tg iter fi) (hg:PG X tg t) (ht:tDG X.K tgF t) (hb:JSs X body g)
  (hs:∀x,foldedSetIterable iter X.env x=pure x:=by intro _;rfl):JS X (.For tg iter body [] pos) (mL fi tgF g):=PS.to (zB hp hc hi hg hb hs) λ_ _ _ q=>Cg ht q
theorem iM {tg iter:Expr}{body:List Stmt}{fi:FA}{tgF:FG}{t:TG}{g:FS}(hp:PassesOwn (model X.prog X.w) X.A X.env X.xe) (hc:X.calm=true) (hi:PI X tg iter (tDR X.K fi)) (hg:PG X tg t) (ht:tDG X.K tgF t) (hb:JSs X body g)
  (hs:∀x,foldedSetIterable iter X.env x=pure x:=by intro _;rfl):JS X (.For tg iter body [] pos) (jb fi tgF g):=PS.to (zB hp hc hi hg hb hs) λ_ _ _ q=>zZ ht q
theorem eN {i:Nat}{x:Str}{p apos cpos:Pos}{f:FE}(he:JE X e f) (hN:X.N[i]? = some x:=by rfl) (hv:Vis X.env.scope x:=by first|exact Or.inl rfl|exact Or.inr (Or.inl rfl)|exact Or.inr (Or.inr rfl)) (hd:(x == ("__debug__" : Str))=false:=by decide)
  (hcd:(x == ("__classdict__" : Str))=false:=by decide)
  (hbase:attributeBase (.Name x p) "append" X.env (eval (.Name x p) X.env)=eval (.Name x p) X.env:=by rfl)
  (hfew:((backTo cpos (starEach [e] X.env)).all (λx=>!x.1) && (backToKw cpos (keywordEach [] X.env)).all (λx=>x.1.isSome)
   && decide ([e].length+([]:List Keyword).length+(if([]:List Keyword).isEmpty then 0 else 1)<30))=true:=by rfl)
  (hline:(apos.endLine == cpos.line)=true:=by rfl) (hs:starEach [e] X.env=[(false,eval e X.env)]:=by rfl) (hsw:swapsWith (.Call (.Attribute (.Name x p) "append" apos) [e] [] cpos) none pos.line X.env=pure false:=by rfl) :
  JS X (.Expr (.Call (.Attribute (.Name x p) "append" apos) [e] [] cpos) pos) (ga i f):=by
 refine PS.to (BH (zL PySem.F.plainAttrs_list PySem.F.slot_list_append PySem.F.type_list_append pH (mF hN hv hd hcd) (fE he hZ hs) hbase hfew hline hs rfl) hsw) λE σ H q=>?_
 obtain⟨a,us,h1,h2,k⟩:=Cf q
 exact⟨_,h1,.inl ⟨rfl,us,SqL.of h2⟩,k⟩
end
@[simp] def aY (g:FS) (n k:Nat):List D->Option (D×Bool):=λds=>if ds.length=n then
 match g (ds.map (λd=>some (d,false))++List.replicate k none) with
 | some (.rt d b)=>some (d,b)
 | some (.nx _)=>some (.non,false)
 | _=>none
 else none
def spD (K:PySem.W.Frag) (f:List D->Option (D×Bool)):Sp:=λvs H Q _=>∃(B:Hp) (ds:List D) (d:D) (b:Bool),(aR B H/\Tb K B)/\IsL K B vs ds/\f ds=some (d,b)/\Fin K B H d b Q
theorem sS {K:PySem.W.Frag}{B H:Hp}{vs:List V}{ds:List D}{N:List Str}(sB:aR B H) (tb:Tb K B) (i:IsL K B vs ds):StN K B H B H (L2.gU N vs) (ds.map (λd=>some (d,false))++List.replicate (N.length - vs.length) none):=by
 have nf:∀(j:Nat) (d:D) (b:Bool),(ds.map (λd=>some (d,false))++List.replicate (N.length - vs.length) none:Env)[j]? = some (some (d,b))->b=false/\ds[j]? = some d:=λj d b e=>by
  by_cases hj:j<ds.length
  ·rw[List.getElem?_append_left (by simpa using hj),List.getElem?_map]at e
   obtain⟨d',h1,h2⟩:=oY e
   cases h2
   exact⟨rfl,h1⟩
  ·rw[List.getElem?_append_right (by simpa using Nat.not_lt.mp hj),List.getElem?_replicate]at e
   split at e<;>cases e
 have no:∀a,¬own (L2.gU N vs) (ds.map (λd=>some (d,false))++List.replicate (N.length - vs.length) none) a:=λa ⟨j,d,h,_⟩=>by
  obtain⟨z,_⟩:=nf j d true h;cases z
 refine⟨sB,tb,.refl sB, ?_,λj d e=>?_,λj d e=>?_,λj k a d e h=>?_⟩
 ·unfold L2.gU;rw[List.length_append,List.length_append,List.length_map,List.length_map,List.length_replicate,List.length_replicate,i.length]
 ·obtain⟨_,e1⟩:=nf j d false e
  obtain⟨v,h1,h2⟩:=i.get e1
  refine⟨v, ?_,h2.mono λa o e=>by rw[cm (no a)];exact e⟩
  unfold L2.gU
  have hj:j<vs.length:=(List.getElem?_eq_some_iff.mp h1).1
  rw[List.getElem?_append_left (by simpa using hj),List.getElem?_map,h1]<;>rfl
 ·obtain⟨z,_⟩:=nf j d true e;cases z
 ·obtain⟨z,_⟩:=nf j d true h;cases z
section
variable {P:Program}{w:World}{K:PySem.W.Frag}{mg:Str->Option Value}{base:Heap}
theorem G5 {x qual:Str}{st:Stmt}{f:Addr}{fd:FuncData}{N ps:List Str}{k:Nat}{g:FS}(F:Fun K x qual st f fd) (S:FnScope N ps (ay st))
  (hb:∀(cdv:Value) (A:Around) (outer:List PySem.Env) (s:Shared) (H:Hp) (E:XK),Room k (A.deeper (envOfC qual (ay st) s.heap.objs.size f cdv))->JSs (mH CX0 P w K mg base N qual (ay st) f cdv A outer s H E).nox (cI st) g) :
  FnOk P w K mg base CX0 (k+1) f fd ps (spD K (aY g ps.length (N.length - ps.length))):=by
 have len:∀vs H Q E,spD K (aY g ps.length (N.length - ps.length)) vs H Q E->vs.length=ps.length:=λvs H Q E h=>by
  obtain⟨B,ds,d,b,sB,i,e,q⟩:=h
  unfold aY at e
  split at e
  ·rename_i hl;rw[i.length];exact hl
  ·cases e
 refine F.ok S len λcdv A outer s H vs Q E hr h=>⟨_,hb cdv A outer s H E hr, ?_⟩
 have hlen:=len vs H Q E h
 obtain⟨B,ds,d,b,sB,i,e,q⟩:=h
 unfold aY at e
 rw[if_pos (by rw[←i.length];exact hlen)]at e
 have s0:=sS (N:=N) sB.1 sB.2 i
 rw[hlen]at s0
 split at e
 ·rename_i d' b' eg
  cases e
  exact⟨B,H,_,_,⟨B,s0⟩,eg,λv H' N' x' i' f'=>q v H' N' x' i' f'⟩
 ·rename_i ρ' eg
  cases e
  exact⟨B,H,_,_,⟨B,s0⟩,eg,λσ' H' ⟨N',s'⟩=>q .non H' N' s'.ext .non (by simp)⟩
 ·cases e
structure Fn (P:Program) (w:World) (K:PySem.W.Frag) (mg:Str->Option Value) (base:Heap) (k:Nat) (x:Str) (f:List D->Option (D×Bool)):Prop where
 ex:∃(ad:Addr) (fd:FuncData) (ps:List Str),FnOk P w K mg base CX0 k ad fd ps (spD K f)/\mg x=some (.ref ad)/\PySem.W.keepIn K (.ref ad)=true/\pA K fd ps []
end
theorem am {X:Cx}{k:Nat}{x:Str}{f:List D->Option (D×Bool)}{fa:FA}{e:Expr}{es:List Expr}{p pos:Pos}(F:Fn X.prog X.w X.K X.mg X.base k x f) (hr:Room k X.A) (ha:JA X (e::es) fa) (hg:Gl X x:=by rfl)
  (hdb:(x == ("__debug__" : Str))=false:=by decide) (he:starEach (e::es) X.env=(false,eval e X.env)::starEach es X.env:=by rfl) (hpl:(backTo pos (starEach es X.env)).any (·.1)=false:=by rfl) :
  JE X (.Call (.Name x p) (e::es) [] pos) (fA f fa):=by
 obtain⟨ad,fd,ps,F1,hm,hk,hb⟩:=F.ex
 refine PE.to (BN F1 hr hg hm hk hb .nil Gs ha hdb he hpl) λσ H Q q=>?_
 obtain⟨B,ρ,d,b,s,r,e,q⟩:=q
 obtain⟨ds,ex,e⟩:=oX e
 exact⟨B,ρ,ds,s,r,ex,λvs H1 N1 x1 i1=>by
  show spD X.K f (vs++[]) H1 Q _
  rw[List.append_nil]
  exact⟨N1,ds,d,b,⟨x1.nh,r.tb.mono x1.bn⟩,i1,e,q.into x1⟩⟩
mutual
def eqD:D->D->Bool
 | .non,.non=>true
 | .bl a,.bl b=>a == b
 | .bl a,.int b=>decide ((if a then 1 else 0)=b)
 | .int a,.bl b=>decide (a=(if b then 1 else 0))
 | .int a,.int b=>decide (a=b)
 | .str a,.str b=>decide (a=b)
 | .tup xs,.tup ys=>d7 xs ys
 | .lst xs,.lst ys=>d7 xs ys
 | _,_=>false
def d7:List D->List D->Bool
 | [],[]=>true
 | x::xs,y::ys=>eqD x y && d7 xs ys
 | _,_=>false
end
@[simp] theorem sT:eqD .non .non=true:=by simp only[eqD]
@[simp] theorem vR (b:Bool):eqD .non (.bl b)=false:=by simp only[eqD]
@[simp] theorem sU (b:Int):eqD .non (.int b)=false:=by simp only[eqD]
@[simp] theorem sV (b:Str):eqD .non (.str b)=false:=by simp only[eqD]
@[simp] theorem Dy (b:List D):eqD .non (.tup b)=false:=by simp only[eqD]
@[simp] theorem Dz (b:List D):eqD .non (.lst b)=false:=by simp only[eqD]
@[simp] theorem vS (a:Bool):eqD (.bl a) .non=false:=by simp only[eqD]
@[simp] theorem yI (a:Bool) (b:Bool):eqD (.bl a) (.bl b)=(a == b):=by simp only[eqD]
@[simp] theorem vT (a:Bool) (b:Int):eqD (.bl a) (.int b)=decide ((if a then 1 else 0)=b):=by simp only[eqD]
@[simp] theorem vU (a:Bool) (b:Str):eqD (.bl a) (.str b)=false:=by simp only[eqD]
@[simp] theorem EO (a:Bool) (b:List D):eqD (.bl a) (.tup b)=false:=by simp only[eqD]
@[simp] theorem EQ (a:Bool) (b:List D):eqD (.bl a) (.lst b)=false:=by simp only[eqD]
@[simp] theorem sW (a:Int):eqD (.int a) .non=false:=by simp only[eqD]
@[simp] theorem vV (a:Int) (b:Bool):eqD (.int a) (.bl b)=decide (a=(if b then 1 else 0)):=by simp only[eqD]
@[simp] theorem sX (a:Int) (b:Int):eqD (.int a) (.int b)=decide (a=b):=by simp only[eqD]
@[simp] theorem sY (a:Int) (b:Str):eqD (.int a) (.str b)=false:=by simp only[eqD]
@[simp] theorem D0 (a:Int) (b:List D):eqD (.int a) (.tup b)=false:=by simp only[eqD]
@[simp] theorem D1 (a:Int) (b:List D):eqD (.int a) (.lst b)=false:=by simp only[eqD]
@[simp] theorem sZ (a:Str):eqD (.str a) .non=false:=by simp only[eqD]
@[simp] theorem vW (a:Str) (b:Bool):eqD (.str a) (.bl b)=false:=by simp only[eqD]
@[simp] theorem tm (a:Str) (b:Int):eqD (.str a) (.int b)=false:=by simp only[eqD]
@[simp] theorem lI (a:Str) (b:Str):eqD (.str a) (.str b)=decide (a=b):=by simp only[eqD]
@[simp] theorem D2 (a:Str) (b:List D):eqD (.str a) (.tup b)=false:=by simp only[eqD]
@[simp] theorem D3 (a:Str) (b:List D):eqD (.str a) (.lst b)=false:=by simp only[eqD]
@[simp] theorem D4 (a:List D):eqD (.tup a) .non=false:=by simp only[eqD]
@[simp] theorem ER (a:List D) (b:Bool):eqD (.tup a) (.bl b)=false:=by simp only[eqD]
@[simp] theorem D5 (a:List D) (b:Int):eqD (.tup a) (.int b)=false:=by simp only[eqD]
@[simp] theorem D6 (a:List D) (b:Str):eqD (.tup a) (.str b)=false:=by simp only[eqD]
@[simp] theorem D7 (a:List D) (b:List D):eqD (.tup a) (.tup b)=d7 a b:=by simp only[eqD]
@[simp] theorem D8 (a:List D) (b:List D):eqD (.tup a) (.lst b)=false:=by simp only[eqD]
@[simp] theorem D9 (a:List D):eqD (.lst a) .non=false:=by simp only[eqD]
@[simp] theorem ES (a:List D) (b:Bool):eqD (.lst a) (.bl b)=false:=by simp only[eqD]
@[simp] theorem DA (a:List D) (b:Int):eqD (.lst a) (.int b)=false:=by simp only[eqD]
@[simp] theorem DB (a:List D) (b:Str):eqD (.lst a) (.str b)=false:=by simp only[eqD]
@[simp] theorem DC (a:List D) (b:List D):eqD (.lst a) (.tup b)=false:=by simp only[eqD]
@[simp] theorem DD (a:List D) (b:List D):eqD (.lst a) (.lst b)=d7 a b:=by simp only[eqD]
@[simp] theorem G6:d7 [] []=true:=by rw[d7]
@[simp] theorem F9 (x y:D) (xs ys:List D):d7 (x::xs) (y::ys)=(eqD x y && d7 xs ys):=by rw[d7]
@[simp] theorem Ha (y:D) (ys:List D):d7 [] (y::ys)=false:=by simp only[d7]
@[simp] theorem Hb (x:D) (xs:List D):d7 (x::xs) []=false:=by simp only[d7]
def ak:Nat->D->Bool
 | _,.non=>true
 | _,.bl _=>true
 | _,.int _=>true
 | _,.str _=>true
 | _,.ty _=>false
 | _,.dk _ _=>false
 | _,.dt _ _=>false
 | 0,.tup _=>false
 | 0,.lst _=>false
 | n+1,.tup ds=>ds.all (ak n)
 | n+1,.lst ds=>ds.all (ak n)
@[simp] theorem ET (n:Nat):ak n .non=true:=by cases n<;>simp only[ak]
@[simp] theorem FB (n:Nat) (a:Bool):ak n (.bl a)=true:=by cases n<;>simp only[ak]
@[simp] theorem EU (n:Nat) (a:Int):ak n (.int a)=true:=by cases n<;>simp only[ak]
@[simp] theorem EV (n:Nat) (a:Str):ak n (.str a)=true:=by cases n<;>simp only[ak]
@[simp] theorem FC (n:Nat) (ks:List Key) (vs:List D):ak n (.dk ks vs)=false:=by cases n<;>simp only[ak]
@[simp] theorem FD (n:Nat) (ks:List (List Key)) (vs:List D):ak n (.dt ks vs)=false:=by cases n<;>simp only[ak]
@[simp] theorem EW (n:Nat) (ds:List D):ak (n+1) (.tup ds)=ds.all (ak n):=by simp only[ak]
@[simp] theorem EX (n:Nat) (ds:List D):ak (n+1) (.lst ds)=ds.all (ak n):=by simp only[ak]
theorem tp:∀ {xs ys:List D},d7 xs ys=true->xs.length=ys.length
 | [],[],_=>rfl
 | x::xs,y::ys,h=>by
  simp only[d7,Bool.and_eq_true]at h
  rw[List.length_cons,List.length_cons,tp h.2]
 | [],_::_,h=>by simp[d7]at h
 | _::_,[],h=>by simp[d7]at h
theorem xg {xs ys:List D}(h:xs.length≠ys.length):d7 xs ys=false:=by
 cases e:d7 xs ys with
 | false=>rfl
 | true=>exact absurd (tp e) h
theorem jn (f:Nat->Bool):∀ {xs ys:List D},xs.length=ys.length->(∀(j:Nat) x y,xs[j]? = some x->ys[j]? = some y->f j=eqD x y)->(List.range xs.length).all f=d7 xs ys
 | [],[],_,_=>by simp[d7]
 | x::xs,y::ys,hl,h=>by
  have e:=jn (λj=>f (j+1)) (xs:=xs) (ys:=ys) (by simpa using hl) λj a b h1 h2=>h (j+1) a b (by simpa using h1) (by simpa using h2)
  rw[List.length_cons,List.range_succ_eq_map,List.all_cons,List.all_map,d7,←h 0 x y rfl rfl,←e]
  rfl
 | [],_::_,hl,_=>by simp at hl
 | _::_,[],hl,_=>by simp at hl
section
variable {X:Cx}{pins:List (Addr×Obj)}{σ:St}{H:Hp}{s:Shared}
theorem xh (I:Inv X pins σ H s) {a:Addr}{vs ws:List V}(h1:SqT X.K H a vs) (h2:SqL X.K H a ws):False:=by
 obtain⟨its,_,⟨o,e,c,_⟩,_⟩:=I.tuple h1
 obtain⟨its',_,⟨o',n',e',c',_⟩,_⟩:=I.list h2
 rw[e]at e';cases e'
 rw[c]at c'
 injection c' with z
 exact absurd z (by decide)
theorem xi (I:Inv X pins σ H s) {a:Addr}{o:Obj}{its:Array Value}{n:Nat}(e:s.heap.get? a=some o) (d:o.data=.seq its n):(∀kvs ob,H a≠some (.dK kvs ob))/\∀kvs,H a≠some (.dT kvs):=by
 refine⟨λkvs ob h=>?_,λkvs h=>?_⟩
 ·obtain⟨_,_,_,_,_,o',es,ep,e',_,d',_⟩:=(show bH X.prog X.w H s.heap a (.dK kvs ob)from I.hok a _ h)
  rw[e]at e';cases e';rw[d]at d';cases d'
 ·obtain⟨_,_,_,_,o',es,ep,e',_,d',_⟩:=(show bH X.prog X.w H s.heap a (.dT kvs)from I.hok a _ h)
  rw[e]at e';cases e';rw[d]at d';cases d'
theorem tq (I:Inv X pins σ H s) {a:Addr}{vs:List V}(h1:SqT X.K H a vs):(∀kvs ob,H a≠some (.dK kvs ob))/\∀kvs,H a≠some (.dT kvs):=by
 obtain⟨its,_,⟨o,e,c,n,d⟩,_⟩:=I.tuple h1
 exact xi I e d
theorem tu (I:Inv X pins σ H s) {a:Addr}{vs:List V}(h1:SqL X.K H a vs):(∀kvs ob,H a≠some (.dK kvs ob))/\∀kvs,H a≠some (.dT kvs):=by
 obtain⟨its,_,p,_⟩:=I.list h1
 obtain⟨o,e,c,n,d⟩:=p.isList
 exact xi I e d
theorem xj (I:Inv X pins σ H s):∀(n:Nat) {v:V}{d d':D},Is X.K H v d->Is X.K H v d'->ak n d=true->eqD d d'=true:=by
 have lists:∀ {p:D->Bool}(ih:∀ {v:V}{d d':D},Is X.K H v d->Is X.K H v d'->p d=true->eqD d d'=true) {vs:List V}{ds ds':List D},IsL X.K H vs ds->IsL X.K H vs ds'->ds.all p=true->d7 ds ds'=true:=by
  intro p ih vs
  induction vs with
  | nil=>intro ds ds' h h' _;cases h;cases h';simp[d7]
  | cons v vs ihv =>
   intro ds ds' h h' hp
   cases h with
   | cons h1 h2 =>
    cases h' with
    | cons h3 h4 =>
     rw[List.all_cons,Bool.and_eq_true]at hp
     rw[d7,ih h1 h3 hp.1,ihv h2 h4 hp.2];rfl
 intro n
 induction n with
 | zero =>
  intro v d d' h h' hp
  cases h<;>cases h'<;>first|(simp[ak]at hp;done)|simp[eqD]
 | succ n ih =>
  intro v d d' h h' hp
  cases h with
  | tup h1 h2 =>
   cases h' with
   | tup h3 h4 =>
    rw[I.tuple_inj h3 h1]at h4
    rw[eqD];exact lists ih h2 h4 (by simpa [ak]using hp)
   | lst h3 h4=>exact(xh I h1 h3).elim
   | dk h3 _ _=>exact((tq I h1).1 _ _ h3).elim
   | dt h3 _ _=>exact((tq I h1).2 _ h3).elim
  | lst h1 h2 =>
   cases h' with
   | lst h3 h4 =>
    rw[I.list_inj h3 h1]at h4
    rw[eqD];exact lists ih h2 h4 (by simpa [ak]using hp)
   | tup h3 h4=>exact(xh I h3 h1).elim
   | dk h3 _ _=>exact((tu I h1).1 _ _ h3).elim
   | dt h3 _ _=>exact((tu I h1).2 _ h3).elim
  | ty=>simp[ak]at hp
  | dk=>simp[ak]at hp
  | dt=>simp[ak]at hp
  | _=>cases h'<;>simp[eqD]
theorem DE {α:Type}{p:α->Bool}{l:List α}{j:Nat}{x:α}(h:l.all p=true) (e:l[j]? = some x):p x=true:=List.all_eq_true.mp h x (List.mem_of_getElem? e)
theorem tz {A:Around}{p:D->Bool}(ih:∀ {v1 v2:V}{d1 d2:D}{u1 u2:Value},p d1=true->p d2=true->Is X.K H v1 d1->Is X.K H v2 d2->aT v1 u1->aT v2 u2->SeqAt.EqAt A s u1 u2 (eqD d1 d2))
  {vs ws:List V}{ds es:List D}{its jts:List Value}(i1:IsL X.K H vs ds) (i2:IsL X.K H ws es) (r1:aX vs its) (r2:aX ws jts) (p1:ds.all p=true) (p2:es.all p=true) :
  ∀j (h1:j<its.toArray.size) (h2:j<jts.toArray.size),SeqAt.EqAt A s its.toArray[j] jts.toArray[j] (eqD (ds.getD j .non) (es.getD j .non)):=by
 intro j h1 h2
 rw[List.size_toArray]at h1 h2
 have l1:=r1.length;have l2:=r2.length;have l3:=i1.length;have l4:=i2.length
 have hv:j<vs.length:=by omega
 have hw:j<ws.length:=by omega
 have hd:j<ds.length:=by omega
 have he:j<es.length:=by omega
 obtain⟨u,e1,q1⟩:=r1.get (i:=j) (x:=vs[j]) (by simp[hv])
 obtain⟨u',e2,q2⟩:=r2.get (i:=j) (x:=ws[j]) (by simp[hw])
 obtain⟨v,e3,q3⟩:=i1.get (i:=j) (d:=ds[j]) (by simp[hd])
 obtain⟨w,e4,q4⟩:=i2.get (i:=j) (d:=es[j]) (by simp[he])
 have a1:its.toArray[j]=u:=by have z:=(List.getElem?_eq_some_iff.mp e1).2;simpa using z
 have a2:jts.toArray[j]=u':=by have z:=(List.getElem?_eq_some_iff.mp e2).2;simpa using z
 have a3:vs[j]=v:=by simpa [hv]using e3
 have a4:ws[j]=w:=by simpa [hw]using e4
 have a5:ds.getD j .non=ds[j]:=by simp[List.getD,hd]
 have a6:es.getD j .non=es[j]:=by simp[List.getD,he]
 rw[a1,a2,a5,a6]
 exact ih (DE p1 (j:=j) (by simp[hd])) (DE p2 (j:=j) (by simp[he])) (a3 ▸ q3) (a4 ▸ q4) q1 q2
theorem xl {xs ys:List D}(j:Nat) (x y:D) (h1:xs[j]? = some x) (h2:ys[j]? = some y):eqD (xs.getD j .non) (ys.getD j .non)=eqD x y:=by
 simp[List.getD,h1,h2]
abbrev Tri (A:Around) (s:Shared) (u1 u2:Value) (b:Bool):Prop:=SeqAt.RcAt A s u1 u2 b/\SeqAt.EqAt A s u1 u2 b/\SeqAt.RcNeAt A s u1 u2 (!b)
theorem bO {A:Around}{v1 v2:V}{d1 d2:D}{u1 u2:Value}(p1:ak 0 d1=true) (p2:ak 0 d2=true) (i1:Is X.K H v1 d1) (i2:Is X.K H v2 d2) (r1:aT v1 u1) (r2:aT v2 u2):Tri A s u1 u2 (eqD d1 d2):=by
 cases i1 with
 | non =>
  cases r1
  cases i2 with
  | non =>
   cases r2
   rw[sT]
   exact⟨SeqAt.RcAt.none_none,SeqAt.EqAt.same _,SeqAt.RcNeAt.none_none⟩
  | bl b =>
   cases r2
   rw[vR]
   exact⟨SeqAt.RcAt.none_bool _,SeqAt.EqAt.none_bool _,SeqAt.RcNeAt.none_bool _⟩
  | int b =>
   obtain⟨t',rfl⟩:=r2
   rw[sU]
   exact⟨SeqAt.RcAt.none_int _ _,SeqAt.EqAt.none_int _ _,SeqAt.RcNeAt.none_int _ _⟩
  | str b =>
   obtain⟨t',rfl⟩:=r2
   rw[sV]
   exact⟨SeqAt.RcAt.none_str _ _,SeqAt.EqAt.none_str _ _,SeqAt.RcNeAt.none_str _ _⟩
  | ty=>simp[ak]at p2
  | dk=>simp[ak]at p2
  | dt=>simp[ak]at p2
  | tup=>simp[ak]at p2
  | lst=>simp[ak]at p2
 | bl a =>
  cases r1
  cases i2 with
  | non =>
   cases r2
   rw[vS]
   exact⟨SeqAt.RcAt.bool_none _,SeqAt.EqAt.bool_none _,SeqAt.RcNeAt.bool_none _⟩
  | bl b =>
   cases r2
   rw[yI]
   exact⟨SeqAt.RcAt.bool_bool _ _,SeqAt.EqAt.bool_bool _ _,SeqAt.RcNeAt.bool_bool _ _⟩
  | int b =>
   obtain⟨t',rfl⟩:=r2
   rw[vT,←Bool.beq_eq_decide_eq]
   exact⟨SeqAt.RcAt.bool_int _ _ _,SeqAt.EqAt.bool_int _ _ _,SeqAt.RcNeAt.bool_int _ _ _⟩
  | str b =>
   obtain⟨t',rfl⟩:=r2
   rw[vU]
   exact⟨SeqAt.RcAt.bool_str _ _ _,SeqAt.EqAt.bool_str _ _ _,SeqAt.RcNeAt.bool_str _ _ _⟩
  | ty=>simp[ak]at p2
  | dk=>simp[ak]at p2
  | dt=>simp[ak]at p2
  | tup=>simp[ak]at p2
  | lst=>simp[ak]at p2
 | int a =>
  obtain⟨t,rfl⟩:=r1
  cases i2 with
  | non =>
   cases r2
   rw[sW]
   exact⟨SeqAt.RcAt.int_none _ _,SeqAt.EqAt.int_none _ _,SeqAt.RcNeAt.int_none _ _⟩
  | bl b =>
   cases r2
   rw[vV,←Bool.beq_eq_decide_eq]
   exact⟨SeqAt.RcAt.int_bool _ _ _,SeqAt.EqAt.int_bool _ _ _,SeqAt.RcNeAt.int_bool _ _ _⟩
  | int b =>
   obtain⟨t',rfl⟩:=r2
   rw[sX,←Bool.beq_eq_decide_eq]
   exact⟨SeqAt.RcAt.int_int _ _ _ _,SeqAt.EqAt.int_int _ _ _ _,SeqAt.RcNeAt.int_int _ _ _ _⟩
  | str b =>
   obtain⟨t',rfl⟩:=r2
   rw[sY]
   exact⟨SeqAt.RcAt.int_str _ _ _ _,SeqAt.EqAt.int_str _ _ _ _,SeqAt.RcNeAt.int_str _ _ _ _⟩
  | ty=>simp[ak]at p2
  | dk=>simp[ak]at p2
  | dt=>simp[ak]at p2
  | tup=>simp[ak]at p2
  | lst=>simp[ak]at p2
 | str a =>
  obtain⟨t,rfl⟩:=r1
  cases i2 with
  | non =>
   cases r2
   rw[sZ]
   exact⟨SeqAt.RcAt.str_none _ _,SeqAt.EqAt.str_none _ _,SeqAt.RcNeAt.str_none _ _⟩
  | bl b =>
   cases r2
   rw[vW]
   exact⟨SeqAt.RcAt.str_bool _ _ _,SeqAt.EqAt.str_bool _ _ _,SeqAt.RcNeAt.str_bool _ _ _⟩
  | int b =>
   obtain⟨t',rfl⟩:=r2
   rw[tm]
   exact⟨SeqAt.RcAt.str_int _ _ _ _,SeqAt.EqAt.str_int _ _ _ _,SeqAt.RcNeAt.str_int _ _ _ _⟩
  | str b =>
   obtain⟨t',rfl⟩:=r2
   rw[lI,←Bool.beq_eq_decide_eq]
   exact⟨SeqAt.RcAt.str_str _ _ _ _,SeqAt.EqAt.str_str _ _ _ _,SeqAt.RcNeAt.str_str _ _ _ _⟩
  | ty=>simp[ak]at p2
  | dk=>simp[ak]at p2
  | dt=>simp[ak]at p2
  | tup=>simp[ak]at p2
  | lst=>simp[ak]at p2
 | ty=>simp[ak]at p1
 | dk=>simp[ak]at p1
 | dt=>simp[ak]at p1
 | tup=>simp[ak]at p1
 | lst=>simp[ak]at p1
theorem DF (I:Inv X pins σ H s):∀(n:Nat) {A:Around}{v1 v2:V}{d1 d2:D}{u1 u2:Value},A.units+n<cLine->ak n d1=true->ak n d2=true->Is X.K H v1 d1->Is X.K H v2 d2->aT v1 u1->aT v2 u2->Tri A s u1 u2 (eqD d1 d2):=by
 intro n
 induction n with
 | zero=>exact λ_ p1 p2 i1 i2 r1 r2=>bO p1 p2 i1 i2 r1 r2
 | succ n ih =>
  intro A v1 v2 d1 d2 u1 u2 hu p1 p2 i1 i2 r1 r2
  have hu0:A.units<cLine:=by omega
  have ih':∀ {v1 v2:V}{d1 d2:D}{u1 u2:Value},ak n d1=true->ak n d2=true->Is X.K H v1 d1->Is X.K H v2 d2->aT v1 u1->aT v2 u2->SeqAt.EqAt A.in1 s u1 u2 (eqD d1 d2):=λp1 p2 i1 i2 r1 r2=>(ih (A:=A.in1) (by show A.units+1+n<cLine;omega) p1 p2 i1 i2 r1 r2).2.1
  cases i1 with
  | tup h1 k1 =>
   cases r1
   obtain⟨its,rv1,t1,z1⟩:=I.tuple h1
   have t1':s.heap.IsTuple _ its.toArray:=t1
   have q1:=p1
   simp only[ak]at q1
   cases i2 with
   | tup h2 k2 =>
    cases r2
    obtain⟨jts,rv2,t2,z2⟩:=I.tuple h2
    have t2':s.heap.IsTuple _ jts.toArray:=t2
    have q2:=p2
    simp only[ak]at q2
    rename_i a1 vs ds a2 ws es
    have he:=tz (A:=A.in1) (p:=ak n) ih' k1 k2 rv1 rv2 q1 q2
    have eqv:((List.range (min its.toArray.size jts.toArray.size)).all (λj=>eqD (ds.getD j .non) (es.getD j .non)) && its.toArray.size == jts.toArray.size)=eqD (.tup ds) (.tup es):=by
     rw[eqD,List.size_toArray,List.size_toArray,←rv1.length,←rv2.length,k1.length,k2.length]
     by_cases hl:ds.length=es.length
     ·rw[←hl,Nat.min_self,beq_self_eq_true,Bool.and_true]
      exact jn _ hl λj x y e1 e2=>xl j x y e1 e2
     ·rw[xg hl,beq_eq_false_iff_ne.mpr hl,Bool.and_false]
    have rc:=SeqAt.RcAt.tuples t1' t2' hu0 he
    have rn:=SeqAt.RcNeAt.tuples t1' t2' hu0 he
    rw[eqv]at rc rn
    refine⟨rc, ?_,rn⟩
    by_cases ha:a1=a2
    ·subst ha
     rw[xj I (n+1) (.tup h1 k1) (.tup h2 k2) p1]
     exact SeqAt.EqAt.same _
    ·exact SeqAt.EqAt.of_refs ha rc
   | lst h2 k2 =>
    cases r2
    obtain⟨jts,rv2,t2,z2⟩:=I.list h2
    rw[show eqD (.tup _) (.lst _)=false by simp only[eqD]]
    exact⟨SeqAt.RcAt.tuple_list t1' t2.isList hu0,SeqAt.EqAt.tuple_list t1' t2.isList hu0,SeqAt.RcNeAt.tuple_list t1' t2.isList hu0⟩
   | ty=>simp[ak]at p2
   | dk=>simp[ak]at p2
   | dt=>simp[ak]at p2
   | non=>cases r2;simp only[eqD];exact⟨SeqAt.RcAt.tuple_none t1' hu0,SeqAt.EqAt.tuple_none t1' hu0,SeqAt.RcNeAt.tuple_none t1' hu0⟩
   | bl=>cases r2;simp only[eqD];exact⟨SeqAt.RcAt.tuple_bool _ t1' hu0,SeqAt.EqAt.tuple_bool _ t1' hu0,SeqAt.RcNeAt.tuple_bool _ t1' hu0⟩
   | int=>obtain⟨t,rfl⟩:=r2;simp only[eqD];exact⟨SeqAt.RcAt.tuple_int _ _ t1' hu0,SeqAt.EqAt.tuple_int _ _ t1' hu0,SeqAt.RcNeAt.tuple_int _ _ t1' hu0⟩
   | str=>obtain⟨t,rfl⟩:=r2;simp only[eqD];exact⟨SeqAt.RcAt.tuple_str _ _ t1' hu0,SeqAt.EqAt.tuple_str _ _ t1' hu0,SeqAt.RcNeAt.tuple_str _ _ t1' hu0⟩
  | lst h1 k1 =>
   cases r1
   obtain⟨its,rv1,t1,z1⟩:=I.list h1
   have t1':s.heap.IsList _ its.toArray:=t1.isList
   have q1:=p1
   simp only[ak]at q1
   cases i2 with
   | lst h2 k2 =>
    cases r2
    obtain⟨jts,rv2,t2,z2⟩:=I.list h2
    have t2':s.heap.IsList _ jts.toArray:=t2.isList
    have q2:=p2
    simp only[ak]at q2
    rename_i a1 vs ds a2 ws es
    have he:=tz (A:=A.in1) (p:=ak n) ih' k1 k2 rv1 rv2 q1 q2
    have both:SeqAt.RcAt A s (.ref a1) (.ref a2) (eqD (.lst ds) (.lst es))/\SeqAt.RcNeAt A s (.ref a1) (.ref a2) (!eqD (.lst ds) (.lst es)):=by
     by_cases hl:ds.length=es.length
     ·have hs:its.toArray.size=jts.toArray.size:=by rw[List.size_toArray,List.size_toArray,←rv1.length,←rv2.length,k1.length,k2.length];exact hl
      have eqv:(List.range its.toArray.size).all (λj=>eqD (ds.getD j .non) (es.getD j .non))=eqD (.lst ds) (.lst es):=by
       rw[eqD,List.size_toArray,←rv1.length,k1.length]
       exact jn _ hl λj x y e1 e2=>xl j x y e1 e2
      have rc:=SeqAt.RcAt.lists t1' t2' hs hu0 he
      have rn:=SeqAt.RcNeAt.lists t1' t2' hs hu0 he
      rw[eqv]at rc rn
      exact⟨rc,rn⟩
     ·have hs:(its.toArray.size != jts.toArray.size)=true:=by rw[List.size_toArray,List.size_toArray,←rv1.length,←rv2.length,k1.length,k2.length];exact bne_iff_ne.mpr hl
      rw[eqD,xg hl]
      exact⟨SeqAt.RcAt.lists_lengths t1' t2' hs hu0,SeqAt.RcNeAt.lists_lengths t1' t2' hs hu0⟩
    refine⟨both.1, ?_,both.2⟩
    by_cases ha:a1=a2
    ·subst ha
     rw[xj I (n+1) (.lst h1 k1) (.lst h2 k2) p1]
     exact SeqAt.EqAt.same _
    ·exact SeqAt.EqAt.of_refs ha both.1
   | tup h2 k2 =>
    cases r2
    obtain⟨jts,rv2,t2,z2⟩:=I.tuple h2
    have t2':s.heap.IsTuple _ jts.toArray:=t2
    rw[show eqD (.lst _) (.tup _)=false by simp only[eqD]]
    exact⟨SeqAt.RcAt.list_tuple t1' t2' hu0,SeqAt.EqAt.list_tuple t1' t2' hu0,SeqAt.RcNeAt.list_tuple t1' t2' hu0⟩
   | ty=>simp[ak]at p2
   | dk=>simp[ak]at p2
   | dt=>simp[ak]at p2
   | non=>cases r2;simp only[eqD];exact⟨SeqAt.RcAt.list_none t1' hu0,SeqAt.EqAt.list_none t1' hu0,SeqAt.RcNeAt.list_none t1' hu0⟩
   | bl=>cases r2;simp only[eqD];exact⟨SeqAt.RcAt.list_bool _ t1' hu0,SeqAt.EqAt.list_bool _ t1' hu0,SeqAt.RcNeAt.list_bool _ t1' hu0⟩
   | int=>obtain⟨t,rfl⟩:=r2;simp only[eqD];exact⟨SeqAt.RcAt.list_int _ _ t1' hu0,SeqAt.EqAt.list_int _ _ t1' hu0,SeqAt.RcNeAt.list_int _ _ t1' hu0⟩
   | str=>obtain⟨t,rfl⟩:=r2;simp only[eqD];exact⟨SeqAt.RcAt.list_str _ _ t1' hu0,SeqAt.EqAt.list_str _ _ t1' hu0,SeqAt.RcNeAt.list_str _ _ t1' hu0⟩
  | ty=>simp[ak]at p1
  | dk=>simp[ak]at p1
  | dt=>simp[ak]at p1
  | non =>
   cases i2 with
   | tup h2 k2=>cases r1;cases r2;obtain⟨jts,rv2,t2,z2⟩:=I.tuple h2;have t2':s.heap.IsTuple _ jts.toArray:=t2;simp only[eqD];exact⟨SeqAt.RcAt.none_tuple t2' hu0,SeqAt.EqAt.none_tuple t2' hu0,SeqAt.RcNeAt.none_tuple t2' hu0⟩
   | lst h2 k2=>cases r1;cases r2;obtain⟨jts,rv2,t2,z2⟩:=I.list h2;simp only[eqD];exact⟨SeqAt.RcAt.none_list t2.isList hu0,SeqAt.EqAt.none_list t2.isList hu0,SeqAt.RcNeAt.none_list t2.isList hu0⟩
   | ty=>simp[ak]at p2
   | dk=>simp[ak]at p2
   | dt=>simp[ak]at p2
   | non=>exact bO (X:=X) (H:=H) (by simp[ak]) (by simp[ak]) .non .non r1 r2
   | bl x=>exact bO (X:=X) (H:=H) (by simp[ak]) (by simp[ak]) .non (.bl x) r1 r2
   | int x=>exact bO (X:=X) (H:=H) (by simp[ak]) (by simp[ak]) .non (.int x) r1 r2
   | str x=>exact bO (X:=X) (H:=H) (by simp[ak]) (by simp[ak]) .non (.str x) r1 r2
  | bl y =>
   cases i2 with
   | tup h2 k2=>cases r1;cases r2;obtain⟨jts,rv2,t2,z2⟩:=I.tuple h2;have t2':s.heap.IsTuple _ jts.toArray:=t2;simp only[eqD];exact⟨SeqAt.RcAt.bool_tuple _ t2' hu0,SeqAt.EqAt.bool_tuple _ t2' hu0,SeqAt.RcNeAt.bool_tuple _ t2' hu0⟩
   | lst h2 k2=>cases r1;cases r2;obtain⟨jts,rv2,t2,z2⟩:=I.list h2;simp only[eqD];exact⟨SeqAt.RcAt.bool_list _ t2.isList hu0,SeqAt.EqAt.bool_list _ t2.isList hu0,SeqAt.RcNeAt.bool_list _ t2.isList hu0⟩
   | ty=>simp[ak]at p2
   | dk=>simp[ak]at p2
   | dt=>simp[ak]at p2
   | non=>exact bO (X:=X) (H:=H) (by simp[ak]) (by simp[ak]) (.bl y) .non r1 r2
   | bl x=>exact bO (X:=X) (H:=H) (by simp[ak]) (by simp[ak]) (.bl y) (.bl x) r1 r2
   | int x=>exact bO (X:=X) (H:=H) (by simp[ak]) (by simp[ak]) (.bl y) (.int x) r1 r2
   | str x=>exact bO (X:=X) (H:=H) (by simp[ak]) (by simp[ak]) (.bl y) (.str x) r1 r2
  | int y =>
   cases i2 with
   | tup h2 k2=>obtain⟨t,rfl⟩:=r1;cases r2;obtain⟨jts,rv2,t2,z2⟩:=I.tuple h2;have t2':s.heap.IsTuple _ jts.toArray:=t2;simp only[eqD];exact⟨SeqAt.RcAt.int_tuple _ _ t2' hu0,SeqAt.EqAt.int_tuple _ _ t2' hu0,SeqAt.RcNeAt.int_tuple _ _ t2' hu0⟩
   | lst h2 k2=>obtain⟨t,rfl⟩:=r1;cases r2;obtain⟨jts,rv2,t2,z2⟩:=I.list h2;simp only[eqD];exact⟨SeqAt.RcAt.int_list _ _ t2.isList hu0,SeqAt.EqAt.int_list _ _ t2.isList hu0,SeqAt.RcNeAt.int_list _ _ t2.isList hu0⟩
   | ty=>simp[ak]at p2
   | dk=>simp[ak]at p2
   | dt=>simp[ak]at p2
   | non=>exact bO (X:=X) (H:=H) (by simp[ak]) (by simp[ak]) (.int y) .non r1 r2
   | bl x=>exact bO (X:=X) (H:=H) (by simp[ak]) (by simp[ak]) (.int y) (.bl x) r1 r2
   | int x=>exact bO (X:=X) (H:=H) (by simp[ak]) (by simp[ak]) (.int y) (.int x) r1 r2
   | str x=>exact bO (X:=X) (H:=H) (by simp[ak]) (by simp[ak]) (.int y) (.str x) r1 r2
  | str y =>
   cases i2 with
   | tup h2 k2=>obtain⟨t,rfl⟩:=r1;cases r2;obtain⟨jts,rv2,t2,z2⟩:=I.tuple h2;have t2':s.heap.IsTuple _ jts.toArray:=t2;simp only[eqD];exact⟨SeqAt.RcAt.str_tuple _ _ t2' hu0,SeqAt.EqAt.str_tuple _ _ t2' hu0,SeqAt.RcNeAt.str_tuple _ _ t2' hu0⟩
   | lst h2 k2=>obtain⟨t,rfl⟩:=r1;cases r2;obtain⟨jts,rv2,t2,z2⟩:=I.list h2;simp only[eqD];exact⟨SeqAt.RcAt.str_list _ _ t2.isList hu0,SeqAt.EqAt.str_list _ _ t2.isList hu0,SeqAt.RcNeAt.str_list _ _ t2.isList hu0⟩
   | ty=>simp[ak]at p2
   | dk=>simp[ak]at p2
   | dt=>simp[ak]at p2
   | non=>exact bO (X:=X) (H:=H) (by simp[ak]) (by simp[ak]) (.str y) .non r1 r2
   | bl x=>exact bO (X:=X) (H:=H) (by simp[ak]) (by simp[ak]) (.str y) (.bl x) r1 r2
   | int x=>exact bO (X:=X) (H:=H) (by simp[ak]) (by simp[ak]) (.str y) (.int x) r1 r2
   | str x=>exact bO (X:=X) (H:=H) (by simp[ak]) (by simp[ak]) (.str y) (.str x) r1 r2
@[simp] def dEq:D->D->Option (D×Bool):=λx y=>if ak 40 x=true/\ak 40 y=true then some (.bl (eqD x y),false)else none
@[simp] def dNe:D->D->Option (D×Bool):=λx y=>if ak 40 x=true/\ak 40 y=true then some (.bl (!eqD x y),false)else none
theorem bY (hu:X.A.units+40<cLine):OpR X (compareOp .Eq) (rD X.K dEq):=by
 intro pins s σ H x y v u Q I rx ry q
 obtain⟨B,dx,dy,d,b,sB,ix,iy,e,q⟩:=q
 unfold dEq at e
 split at e
 ·rename_i hp
  cases e
  exact(DF I 40 hu hp.1 hp.2 (ix.mono sB) (iy.mono sB) rx ry).1 _ _ _ _ ⟨.bl _,H,I,rfl,q.one sB (.bl _)⟩
 ·cases e
theorem Cn (hu:X.A.units+40<cLine):OpR X (compareOp .NotEq) (rD X.K dNe):=by
 intro pins s σ H x y v u Q I rx ry q
 obtain⟨B,dx,dy,d,b,sB,ix,iy,e,q⟩:=q
 unfold dNe at e
 split at e
 ·rename_i hp
  cases e
  exact(DF I 40 hu hp.1 hp.2 (ix.mono sB) (iy.mono sB) rx ry).2.2 _ _ _ _ ⟨.bl _,H,I,rfl,q.one sB (.bl _)⟩
 ·cases e
end
section
variable {X:Cx}{a b e:Expr}{pos:Pos}
theorem xm {K:PySem.W.Frag}{H:Hp}{vs:List V}{ds:List D}{i:Int}{d:D}(h:IsL K H vs ds) (e:atI ds i=some d):∃v,atI vs i=some v/\Is K H v d:=by
 unfold atI at e ⊢
 rw[h.length]
 cases q:ixN ds.length i with
 | none=>rw[q]at e;cases e
 | some j=>rw[q]at e;exact h.get e
@[simp] def ixD:D->D->Option (D×Bool)
 | .lst ds,.int i=>(atI ds i).map λd=>(d,false)
 | .tup ds,.int i=>(atI ds i).map λd=>(d,false)
 | .str z,.int i=>if z.length<=sizeLine then (atI z.cps.toList i).map λc=>(.str ⟨#[c]⟩,false)else none
 | _,_=>none
theorem HC:IxR X (rD X.K ixD):=by
 intro value slice pins s σ H x y v u Q I rx ry q hs
 obtain⟨B,dx,dy,d,b,sB,ix,iy,e,q⟩:=q
 cases ix<;>cases iy<;>try (simp[ixD]at e;done)
 ·simp only[ixD]at e
  split at e
  ·rename_i hz
   obtain⟨c,e1,e2⟩:=oY e
   cases e2
   exact vI value slice pins s σ H _ _ v u Q I rx ry ⟨_,_,c,rfl,rfl,hz,e1,q.one sB (.str _)⟩ hs
  ·cases e
 ·rename_i h hl i
  simp only[ixD]at e
  obtain⟨c,e1,e2⟩:=oY e
  cases e2
  obtain⟨w,h1,h2⟩:=xm hl e1
  exact qS value slice pins s σ H _ _ v u Q I rx ry ⟨_,_,_,w,rfl,rfl,bd sB h,h1,q.one sB h2⟩ hs
 ·rename_i h hl i
  simp only[ixD]at e
  obtain⟨c,e1,e2⟩:=oY e
  cases e2
  obtain⟨w,h1,h2⟩:=xm hl e1
  exact BU value slice pins s σ H _ _ v u Q I rx ry ⟨_,_,_,w,rfl,rfl,sB.seq h,h1,q.one sB h2⟩ hs
theorem aC {fa fb:FE}(ha:JE X a fa) (hb:JE X b fb) (hs:qR b:=by intro _ _;rfl):JE X (.Subscript a b pos) (f2 ixD fa fb):=PE.to (Dq HC ha hb hs) λ_ _ _ h=>BZ h
abbrev FO:=Env->Option (Option Int)
def tDO (K:PySem.W.Frag) (f:FO):TO:=λσ H Q=>∃(B:Hp) (ρ:Env) (o:Option Int),aR B H/\RepE K B σ ρ/\f ρ=some o/\∀H',aR H H'->Q o H'
abbrev JO (X:Cx) (e:Option Expr) (f:FO):Prop:=PO X e (tDO X.K f)
@[simp] def t4:FO:=λ_=>some none
@[simp] def pN (f:FE):FO:=λρ=>match f ρ with|some (.int i,_)=>some (some i)|_=>none
theorem xo:JO X none t4:=λpins s σ H Q I h=>BQ pins s σ H Q I (by
 obtain⟨B,ρ,o,sB,r,e,q⟩:=h
 cases e
 exact q H (.refl H))
theorem xp {f:FE}(h:JE X e f):JO X (some e) (pN f):=λpins s σ H Q I q=>BR h pins s σ H Q I (by
 obtain⟨B,ρ,o,sB,r,e,q⟩:=q
 unfold pN at e
 split at e
 ·rename_i i b' ef
  cases e
  refine⟨B,ρ,_,_,sB,r,ef,λv H1 N1 x1 i1 _=>?_⟩
  cases i1
  exact⟨i,rfl,q H1 x1.hh⟩
 ·cases e)
def pi (ds:List D) (lo hi:Option Int):List D:=(ds.drop (HT.sIx ds.length 0 lo)).take (HT.sIx ds.length ds.length hi - HT.sIx ds.length 0 lo)
theorem rh {K:PySem.W.Frag}{H:Hp}{vs:List V}{ds:List D}{lo hi:Option Int}(h:IsL K H vs ds):IsL K H (oW vs lo hi) (pi ds lo hi):=by
 unfold oW pi
 rw[h.length]
 exact(h.drop _).take _
@[simp] def Ia (fa:FE) (fl fh:FO):FE:=λρ=>(fa ρ).bind λx=>(fl ρ).bind λl=>(fh ρ).bind λh=>match x.1 with
 | .lst ds=>some (.lst (pi ds l h),true)
 | .tup ds=>if HT.sIx ds.length 0 l=0/\HT.sIx ds.length ds.length h=ds.length then none else some (.tup (pi ds l h),false)
 | _=>none
theorem bI.to {f:Value}{r r':List V->Hp->VK->Prop}(h:bI X f r) (k:∀xs H Q,r' xs H Q->r xs H Q):bI X f r':=λpins s σ H xs us Q I rs q=>h pins s σ H xs us Q I rs (k xs H Q q)
variable {es:List Expr}{x:Str}{p:Pos}{id T:String}
theorem b8 {f:List D->Option (D×Bool)}{fa:FA}(hc:bI X (.builtin id) (rDA X.K f)) (hm:X.mg x=none) (hv:bootBuiltins x=some (.builtin id)) (ha:JA X (e::es) fa) (hg:Gl X x:=by rfl) (hn:x ≠ "__name__":=by decide) (hdb:(x == ("__debug__" : Str))=false:=by decide)
  (he:starEach (e::es) X.env=(false,eval e X.env)::starEach es X.env:=by rfl) (hpl:(backTo pos (starEach es X.env)).any (·.1)=false:=by rfl):JE X (.Call (.Name x p) (e::es) [] pos) (fA f fa):=PE.to (sJ hc hg hm hv ha hn hdb he hpl) λ_ _ _ h=>Ca h
theorem dI {f:List D->Option (D×Bool)}{fa:FA}(hc:bI X (.type T) (rDA X.K f)) (hm:X.mg x=none) (hv:bootBuiltins x=some (.type T)) (ha:JA X (e::es) fa) (hg:Gl X x:=by rfl) (hn:x ≠ "__name__":=by decide) (hdb:(x == ("__debug__" : Str))=false:=by decide)
  (he:starEach (e::es) X.env=(false,eval e X.env)::starEach es X.env:=by rfl) (hpl:(backTo pos (starEach es X.env)).any (·.1)=false:=by rfl):JE X (.Call (.Name x p) (e::es) [] pos) (fA f fa):=PE.to (pF hc hg hm hv ha hn hdb he hpl) λ_ _ _ h=>Ca h
@[simp] def eZ:List D->Option (D×Bool)
 | [.lst ds]=>some (.int ds.length,false)
 | [.tup ds]=>some (.int ds.length,false)
 | [.str z]=>if z.length<=sizeLine then some (.int z.length,false)else none
 | _=>none
theorem gW:bI X (.builtin "len") (rDA X.K eZ):=by
 refine bI.to (bI.or qV qW) λxs H Q q=>?_
 obtain⟨B,ds,d,b,sB,i,e,q⟩:=q
 cases i with
 | nil=>simp[eZ]at e
 | cons i1 i2 =>
  cases i2 with
  | cons _ _=>cases i1<;>simp[eZ]at e
  | nil =>
   cases i1<;>try (simp[eZ]at e;done)
   ·simp only[eZ]at e
    split at e
    ·rename_i hz
     cases e
     exact .inr ⟨_,rfl,hz,q.one sB (.int _)⟩
    ·cases e
   ·rename_i h hl
    simp only[eZ]at e
    cases e
    refine .inl ⟨_,_,rfl,.inr (bd sB h), ?_⟩
    rw[hl.length];exact q.one sB (.int _)
   ·rename_i h hl
    simp only[eZ]at e
    cases e
    refine .inl ⟨_,_,rfl,.inl (sB.seq h), ?_⟩
    rw[hl.length];exact q.one sB (.int _)
theorem Ah {n:String}(hm:X.mg x=none) (hv:bootBuiltins x=some (.type n)) (hg:Gl X x:=by rfl) (hn:x ≠ "__name__":=by decide) (hd:(x == ("__debug__" : Str))=false:=by decide):JE X (.Name x pos) (fC (.ty n)) :=
 PE.to (BD hg hm hv (v:=.ty n) rfl hn hd) λ_ _ _ h=>yH (λ_=>.ty n) h
end
theorem bR {A:Around}{k:Nat}(hr:Room k A):A.units+40<cLine:=by have:=hr.un;omega
section
variable {X:Cx}{a b e:Expr}{pos:Pos}{x:Str}{p:Pos}
theorem t6 {d:D}(h:∃u v,X.mg x=some u/\aT v u/\∀B,Is X.K B v d) (hg:Gl X x:=by rfl) (hd:(x == ("__debug__" : Str))=false:=by decide):JE X (.Name x pos) (fC d):=by
 obtain⟨u,v,hm,r,i⟩:=h
 exact Ci hg hm r i hd
@[simp] def xq:D->D->Option (D×Bool)
 | .int i,.int j=>some (.int (i+j),false)
 | .str i,.str j=>if i.length+j.length<=sizeLine then some (.str (i++j),false)else none
 | _,_=>none
theorem Co:OpR X (binaryOp .Add) (rD X.K xq):=by
 refine fS (r:=rD X.K (orD EK Ag)) (lb G2 EN) λx y H Q q=>?_
 obtain⟨B,dx,dy,d,b,sB,ix,iy,e,q⟩:=q
 refine⟨B,dx,dy,d,b,sB,ix,iy, ?_,q⟩
 cases dx<;>cases dy<;>simp[xq]at e<;>simp[orD,EK,Ag,iop,sop,e]
@[simp] def eA:D->D->Option (D×Bool):=EL
theorem cx:OpR X (binaryOp .Mult) (rD X.K eA):=G3
@[simp] def dLt:D->D->Option (D×Bool):=iLt
theorem Ai:OpR X (compareOp .Lt) (rD X.K dLt):=HA
@[simp] def dLe:D->D->Option (D×Bool)
 | .int i,.int j=>some (.bl (decide (i<=j)),false)
 | .str i,.str j=>some (.bl (!decide (j.cps.toList<i.cps.toList)),false)
 | _,_=>none
theorem lJ:OpR X (compareOp .LtE) (rD X.K dLe):=by
 refine fS (r:=rD X.K (orD iLe sLe)) (lb HB G4) λx y H Q q=>?_
 obtain⟨B,dx,dy,d,b,sB,ix,iy,e,q⟩:=q
 refine⟨B,dx,dy,d,b,sB,ix,iy, ?_,q⟩
 cases dx<;>cases dy<;>simp[dLe]at e<;>simp[orD,iLe,sLe,iop,sop,e]
@[simp] def Aj:D->Option (D×Bool)
 | .int i=>some (.int (-i),false)
 | _=>none
theorem G7:UnR X (unaryOp .USub) (rDU X.K Aj):=by
 intro pins s σ H x v Q I rx q
 obtain⟨B,dx,d,b,sB,ix,e,q⟩:=q
 cases ix<;>try (simp[Aj]at e;done)
 simp only[Aj]at e
 cases e
 exact E2 pins s σ H _ v Q I rx ⟨_,rfl,q.one sB (.int _)⟩
@[simp] def yJ:D->D->Option Bool
 | .non,.non=>some true
 | _,.non=>some false
 | .bl a,.bl b=>some (a == b)
 | _,.bl _=>some false
 | _,_=>none
@[simp] def dIs:D->D->Option (D×Bool):=λx y=>(yJ x y).map λb=>(.bl b,false)
@[simp] def lf:D->D->Option (D×Bool):=λx y=>(yJ x y).map λb=>(.bl (!b),false)
theorem xu {K:PySem.W.Frag}{B:Hp}{x y:V}{v u:Value}{dx dy:D}{k:Bool}(ix:Is K B x dx) (iy:Is K B y dy) (rx:aT x v) (ry:aT y u) (e:yJ dx dy=some k):plainIs v u=true/\(v == u)=k:=by
 cases iy<;>(first|(cases dx<;>simp[yJ]at e;done)|skip)
 all_goals (cases ix)
 all_goals (first|(obtain⟨t,rfl⟩:=rx)|cases rx)
 all_goals (cases ry)
 all_goals (simp only[yJ,Option.some.injEq]at e;subst e)
 all_goals (first|exact⟨rfl,rfl⟩|skip)
 all_goals (rename_i c d;cases c<;>cases d<;>exact⟨rfl,rfl⟩)
theorem EY:OpR X (compareOp .Is) (rD X.K dIs):=by
 intro pins s σ H x y v u Q I rx ry q
 obtain⟨B,dx,dy,d,b,sB,ix,iy,e,q⟩:=q
 obtain⟨k,ek,e⟩:=oY e
 cases e
 obtain⟨h1,h2⟩:=xu ix iy rx ry ek
 refine wpAny_is_plain h1 ⟨.bl k,H,I,by rw[h2];rfl,q.one sB (.bl _)⟩
theorem xw:OpR X (compareOp .IsNot) (rD X.K lf):=by
 intro pins s σ H x y v u Q I rx ry q
 obtain⟨B,dx,dy,d,b,sB,ix,iy,e,q⟩:=q
 obtain⟨k,ek,e⟩:=oY e
 cases e
 obtain⟨h1,h2⟩:=xu ix iy rx ry ek
 refine wpAny_isNot_plain h1 ⟨.bl (!k),H,I,by rw[h2];rfl,q.one sB (.bl _)⟩
@[simp] def eP:D->Bool
 | .non=>true|.bl _=>true|.int _=>true|.str _=>true
 | _=>false
def inD (x:D) (ds:List D):Bool:=ds.any λy=>eqD y x
@[simp] def fg:D->Option (List D)
 | .lst ds=>some ds
 | .tup ds=>some ds
 | _=>none
@[simp] def dIn:D->D->Option (D×Bool):=λx y=>(fg y).bind λds=>if eP x=true/\ds.all eP=true then some (.bl (inD x ds),false)else none
@[simp] def dJ:D->D->Option (D×Bool):=λx y=>(fg y).bind λds=>if eP x=true/\ds.all eP=true then some (.bl (!inD x ds),false)else none
theorem mN {K:PySem.W.Frag}{B:Hp}{v:V}{d:D}(i:Is K B v d) (h:eP d=true):ja v=true:=by
 cases i<;>first|rfl|(simp[eP]at h)
theorem HD {K:PySem.W.Frag}{B:Hp}{v w:V}{d e:D}(i:Is K B v d) (j:Is K B w e) (h:eP d=true) (h':eP e=true):eqV v w=eqD d e:=by
 cases i<;>(first|(simp[eP]at h;done)|skip)
 all_goals (cases j<;>(first|(simp[eP]at h';done)|skip))
 all_goals (simp only[eqV,eqD,Bool.beq_eq_decide_eq])
theorem t7 {K:PySem.W.Frag}{B:Hp}:∀ {vs:List V}{ds:List D},IsL K B vs ds->ds.all eP=true->vs.all ja=true
 | _,_,.nil,_=>rfl
 | _,_,.cons i t,h=>by
  rw[List.all_cons,Bool.and_eq_true]at h
  rw[List.all_cons,mN i h.1,t7 t h.2];rfl
theorem Ak {K:PySem.W.Frag}{B:Hp}{v:V}{d:D}(j:Is K B v d) (hd:eP d=true):∀ {vs:List V}{ds:List D},IsL K B vs ds->ds.all eP=true->inV v vs=inD d ds
 | _,_,.nil,_=>rfl
 | _,_,.cons i t,h=>by
  rw[List.all_cons,Bool.and_eq_true]at h
  have e:=Ak j hd t h.2
  unfold inV inD at *
  rw[List.any_cons,List.any_cons,e,HD i j h.1 hd]
theorem xy:OpR X (compareOp .In) (rD X.K dIn):=by
 refine fS yD λx y H Q q=>?_
 obtain⟨B,dx,dy,d,b,sB,ix,iy,e,q⟩:=q
 obtain⟨ds,es,e⟩:=oX e
 split at e
 ·rename_i hf
  cases e
  cases iy<;>simp only[fg]at es<;>try (cases es;done)
  ·rename_i h hl
   cases es
   exact⟨_,_,rfl,.inr (bd sB h),mN ix hf.1,t7 hl hf.2,by rw[if_neg (by decide),Ak ix hf.1 hl hf.2];exact q.one sB (.bl _)⟩
  ·rename_i h hl
   cases es
   exact⟨_,_,rfl,.inl (sB.seq h),mN ix hf.1,t7 hl hf.2,by rw[if_neg (by decide),Ak ix hf.1 hl hf.2];exact q.one sB (.bl _)⟩
 ·cases e
theorem jR:OpR X (compareOp .NotIn) (rD X.K dJ):=by
 refine fS qU λx y H Q q=>?_
 obtain⟨B,dx,dy,d,b,sB,ix,iy,e,q⟩:=q
 obtain⟨ds,es,e⟩:=oX e
 split at e
 ·rename_i hf
  cases e
  cases iy<;>simp only[fg]at es<;>try (cases es;done)
  ·rename_i h hl
   cases es
   exact⟨_,_,rfl,.inr (bd sB h),mN ix hf.1,t7 hl hf.2,by rw[if_pos rfl,Ak ix hf.1 hl hf.2];exact q.one sB (.bl _)⟩
  ·rename_i h hl
   cases es
   exact⟨_,_,rfl,.inl (sB.seq h),mN ix hf.1,t7 hl hf.2,by rw[if_pos rfl,Ak ix hf.1 hl hf.2];exact q.one sB (.bl _)⟩
 ·cases e
theorem gX:bootBuiltins "len" = some (.builtin "len"):=PySem.boot_len
theorem gA:bootBuiltins "isinstance" = some (.builtin "isinstance"):=by decide +kernel
theorem G8:bootBuiltins "max" = some (.builtin "max"):=by decide +kernel
theorem G9:bootBuiltins "min" = some (.builtin "min"):=by decide +kernel
theorem DG:bootBuiltins "all" = some (.builtin "all"):=by decide +kernel
theorem Al:bootBuiltins "int" = some (.type "int"):=by decide +kernel
theorem EZ:bootBuiltins "bool" = some (.type "bool"):=by decide +kernel
theorem vX:bootBuiltins "list" = some (.type "list"):=by decide +kernel
theorem xz:bootBuiltins "tuple" = some (.type "tuple"):=by decide +kernel
@[simp] def Cp:List D->Option (D×Bool)
 | [.int i,.int j]=>some (.int (if j > i then j else i),false)
 | _=>none
@[simp] def Cq:List D->Option (D×Bool)
 | [.int i,.int j]=>some (.int (if j<i then j else i),false)
 | _=>none
theorem t8 {K:PySem.W.Frag}{B:Hp}{xs:List V}{i j:Int}(h:IsL K B xs [.int i,.int j]):xs=[.int i,.int j]:=by
 cases h with
 | cons h1 h2=>cases h1;cases h2 with|cons h3 h4=>cases h3;cases h4;rfl
theorem GA (hc:X.calm=true:=by rfl):bI X (.builtin "max") (rDA X.K Cp):=by
 refine bI.to (y8 hc) λxs H Q q=>?_
 obtain⟨B,ds,d,b,sB,i,e,q⟩:=q
 match ds,e with
 | [.int i',.int j'],e=>simp only[Cp]at e;cases e;exact⟨i',j',t8 i,q.one sB (.int _)⟩
theorem GB (hc:X.calm=true:=by rfl):bI X (.builtin "min") (rDA X.K Cq):=by
 refine bI.to (y9 hc) λxs H Q q=>?_
 obtain⟨B,ds,d,b,sB,i,e,q⟩:=q
 match ds,e with
 | [.int i',.int j'],e=>simp only[Cq]at e;cases e;exact⟨i',j',t8 i,q.one sB (.int _)⟩
@[simp] def ig:D->String
 | .non=>"NoneType" | .bl _=>"bool" | .int _=>"int" | .str _=>"str" | .ty _=>"type" | .tup _=>"tuple" | .lst _=>"list" | .dk _ _=>"dict" | .dt _ _=>"dict"
@[simp] def GC:D->Bool
 | .ty _=>true
 | _=>false
@[simp] def x0 (t n:String):Option (D×Bool) :=
 if n = "int" then some (.bl (t == "int" || t == "bool"),false)else if n = "bool" then some (.bl (t == "bool"),false)else if n = "str" then some (.bl (t == "str"),false)
 else if n = "list" then some (.bl (t == "list"),false)else if n = "tuple" then some (.bl (t == "tuple"),false)else none
@[simp] def bU:List D->Option (D×Bool)
 | [d,.ty n]=>if GC d=true then none else x0 (ig d) n
 | _=>none
theorem Cr {pins:List (Addr×Obj)}{σ:St}{H:Hp}{s:Shared}{A:Around}{E:Value->Shared->Prop}{Q:Value->Shared->Prop}{c:Value}{b:Bool}{v:V}{d:D}{u:Value}(I:Inv X pins σ H s) (i:Is X.K H v d) (hd:∀n,d≠.ty n) (rx:aT v u) (e:PySem.W.kitOne X.K (.type (ig d)) c=some b) (h:∀tk,Q (.bool b) { s with toks:=tk }) :
  wpAny (model X.prog X.w) A (call (.builtin "isinstance") [u,c]) Q E s:=by
 cases i with
 | non=>exact eU I rx .non e h
 | bl y=>exact eU I rx (.bl y) e h
 | int y=>exact eU I rx (.int y) e h
 | str y=>exact eU I rx (.str y) e h
 | ty n=>exact absurd rfl (hd n)
 | dk h1 _ _=>exact eU I rx (.dK h1) e h
 | dt h1 _ _=>exact eU I rx (.dT h1) e h
 | tup ht _ =>
  cases rx
  obtain⟨its,_,⟨o,h1,h2,_⟩,_⟩:=I.tuple ht
  exact PySem.W.kia_one PySem.W.kitx_tuple I.kIn ⟨o,h1,h2⟩ e (λz=>nomatch z) h
 | lst hl _ =>
  cases rx
  obtain⟨its,_,⟨o,n,h1,h2,_⟩,_⟩:=I.list hl
  exact PySem.W.kia_one PySem.W.kitx_list I.kIn ⟨o,h1,h2⟩ e (λz=>nomatch z) h
theorem Fa (K:PySem.W.Frag) (d:D) (hd:∀n,d≠.ty n) :
  PySem.W.kitOne K (.type (ig d)) (.type "int")=some (ig d == "int" || ig d == "bool")/\PySem.W.kitOne K (.type (ig d)) (.type "bool")=some (ig d == "bool")/\PySem.W.kitOne K (.type (ig d)) (.type "str")=some (ig d == "str") /\
   PySem.W.kitOne K (.type (ig d)) (.type "list")=some (ig d == "list")/\PySem.W.kitOne K (.type (ig d)) (.type "tuple")=some (ig d == "tuple"):=by
 cases d<;>(first|exact absurd rfl (hd _)|skip)
 all_goals (simp only[ig];refine⟨?_, ?_, ?_, ?_, ?_⟩<;>kernel_rfl)
theorem gB:bI X (.builtin "isinstance") (rDA X.K bU):=by
 intro pins s σ H xs us Q I rs q
 obtain⟨B,ds,d,b,sB,i,e,q⟩:=q
 match ds,i,e with
 | [dx,.ty n],.cons i1 (.cons i2 .nil),e =>
  obtain⟨u1,u2,rfl,r1,r2⟩:=zE rs
  cases i2
  cases r2
  simp only[bU]at e
  split at e
  ·cases e
  ·rename_i ht
   have hd:∀n,dx≠.ty n:=λn z=>by subst z;exact ht rfl
   obtain⟨k1,k2,k3,k4,k5⟩:=Fa X.K dx hd
   have fin:∀ {k:Bool},PySem.W.kitOne X.K (.type (ig dx)) (.type n)=some k->Fin X.K B H (.bl k) false Q->wpAny (model X.prog X.w) X.A (call (.builtin "isinstance") [u1,.type n]) (EP X pins σ Q) X.xe s:=λ{k} hk q =>
    Cr I (i1.mono sB) hd r1 hk λtk=>⟨.bl k,H,I.tok tk,rfl,q.one sB (.bl k)⟩
   unfold x0 at e
   split at e
   ·rename_i z;subst z;cases e;exact fin k1 q
   split at e
   ·rename_i z;subst z;cases e;exact fin k2 q
   split at e
   ·rename_i z;subst z;cases e;exact fin k3 q
   split at e
   ·rename_i z;subst z;cases e;exact fin k4 q
   split at e
   ·rename_i z;subst z;cases e;exact fin k5 q
   ·cases e
@[simp] def HV:D->Option (D×Bool)
 | .int i=>some (.int (Builtin.Int.intBits i),false)
 | _=>none
@[simp] def Am (f:FE):FA:=λρ=>(f ρ).bind λx=>fg x.1
theorem xA {tg:Expr}{f:FE}(h:JE X e f):JI X tg e (Am f):=by
 intro pins s σ H R I q
 obtain⟨B,ρ,ds,sB,r,e',q⟩:=q
 obtain⟨x,ex,es⟩:=oX e'
 obtain⟨xd,xb⟩:=x
 cases xd<;>simp only[fg]at es<;>try (cases es;done)
 ·cases es
  refine Ep h pins s σ H R I ⟨B,ρ,_,_,sB,r,ex,λv H1 N1 x1 i1 _=>?_⟩
  cases i1 with
  | @tup a vs _ ht hl =>
   refine⟨a,rfl,⟨vs,bd x1.nh ht⟩,q _ H1 N1 x1 λi H2 s2=>⟨λd ed=>?_,λhlen=>⟨vs,bd s2 ht,by rw[hl.length];exact hlen⟩⟩⟩
   obtain⟨v,ev,iv⟩:=hl.get ed
   refine⟨⟨vs,v,bd s2 ht,ev⟩,λy H3 hy=>?_⟩
   obtain⟨rfl,hy⟩:=hy
   have:=hy vs (bd s2 ht)
   rw[ev]at this;cases this
   exact⟨N1,.refl s2,iv⟩
 ·cases es
  refine BI h pins s σ H R I ⟨B,ρ,_,_,sB,r,ex,λv H1 N1 x1 i1 _=>?_⟩
  cases i1 with
  | @lst a vs _ ht hl =>
   refine⟨a,rfl,⟨vs,x1.nh.seq ht⟩,q _ H1 N1 x1 λi H2 s2=>⟨λd ed=>?_,λhlen=>⟨vs,s2.seq ht,by rw[hl.length];exact hlen⟩⟩⟩
   obtain⟨v,ev,iv⟩:=hl.get ed
   refine⟨⟨vs,v,s2.seq ht,ev⟩,λy H3 hy=>?_⟩
   obtain⟨rfl,hy⟩:=hy
   have:=hy vs (s2.seq ht)
   rw[ev]at this;cases this
   exact⟨N1,.refl s2,iv⟩
def dL (lo:Int) (n:Nat):List D:=(List.range n).map λ(k:Nat)=>.int (lo+(k:Int))
theorem An {K:PySem.W.Frag}{B:Hp}(lo:Int) (n:Nat):pe K (Itr lo n) B (dL lo n):=by
 intro i H s
 unfold dL
 refine⟨λd ed=>?_,λhl=>by rw[List.length_map,List.length_range]at hl;exact hl⟩
 rw[List.getElem?_map]at ed
 obtain⟨k,ek,ed⟩:=oY ed
 have hk:=List.getElem?_eq_some_iff.mp ek
 obtain⟨hlt,hk⟩:=hk
 rw[List.length_range]at hlt
 rw[List.getElem_range]at hk
 subst hk
 subst ed
 refine⟨hlt,λx H' hy=>?_⟩
 obtain⟨rfl,rfl⟩:=hy
 exact⟨B,.refl s,.int _⟩
@[simp] def dn (f:FE):FA:=λρ=>match f ρ with
 | some (.int j,_)=>if -1000<=j/\j<=1000 then some (dL 0 j.toNat)else none
 | _=>none
theorem fj {tg:Expr}{f:FE}(hm:X.mg "range" = none) (h:JE X a f) (hg:Gl X "range":=by rfl) (hs:starEach [a] X.env=[(false,eval a X.env)]:=by rfl):PI X tg (.Call (.Name "range" p) [a] [] pos) (tDR X.K (dn f)):=by
 refine PI.to (y4 hg hm (aa h ag hs) hs) λσ H R q=>?_
 obtain⟨B,ρ,ds,sB,r,e',q⟩:=q
 unfold dn at e'
 split at e'
 ·rename_i j b' ef
  split at e'
  ·rename_i hj
   cases e'
   refine⟨B,ρ,[.int j],sB,r,by simp[ae,aj,ef],λvs H1 N1 x1 i1=>?_⟩
   cases i1 with
   | cons i1 i2 =>
    cases i1;cases i2
    exact⟨j,rfl,by omega,by omega,q _ H1 N1 x1 λ_=>An 0 j.toNat⟩
  ·cases e'
 ·cases e'
theorem t9 {tg:Expr}{f:FE}(hm:X.mg "range" = none) (h:JE X a f) (hg:Gl X "range":=by rfl) (hs:starEach [a] X.env=[(false,eval a X.env)]:=by rfl):JI X tg (.Call (.Name "range" p) [a] [] pos) (dn f) :=
 PI.to (fj hm h hg hs) λσ H R ⟨B,ρ,ds,sB,r,e',q⟩=>⟨B,ρ,ds,sB,r,e',λJ H' N x h=>q J H' N x (h _)⟩
end
def Def (K:PySem.W.Frag) (x:Str) (st:Stmt):Prop:=∃(f:Addr) (fd:FuncData),Fun K x x st f fd/\PySem.W.nsIn K mainGlobals x=some (some (.ref f))
theorem def_mk {K:PySem.W.Frag}{x:Str}{st:Stmt}{f:Addr}{oc:Value}{od an:Option Addr}{osl:Array (Option Value)}{kV doc pm cdv ct:Value}(a:PySem.W.nsIn K mainGlobals x=some (some (.ref f)))
  (l:K.lookup f=some ⟨oc,od,.func (PySem.W.fnOf x x (fF st) (cI st) (ay st) .none kV doc pm an cdv ct),osl⟩) (c:PySem.W.codeIn K cdv x=true) (k:PySem.W.keepIn K (.ref f)=true):Def K x st:=⟨f,_,EB l c k,a⟩
section
variable {P:Program}{w:World}{K:PySem.W.Frag}{mg:Str->Option Value}{base:Heap}
theorem Def.fn {x:Str}{st:Stmt}{N ps:List Str}{k:Nat}{g:FS}{h:Heap}(F:Def K x st) (X:K.In h) (G:h.Ns mainGlobals mg) (S:FnScope N ps (ay st))
  (hbd:∀(kV doc pm:Value) (an:Option Addr) (cdv ct:Value) (us:List Value),us.length=ps.length->bindArgs (PySem.W.fnOf x x (fF st) (cI st) (ay st) .none kV doc pm an cdv ct) ⟨us,[]⟩=pure (ps.zip us))
  (hb:∀(f:Addr) (cdv:Value) (A:Around) (outer:List PySem.Env) (s:Shared) (H:Hp) (E:XK),Room k (A.deeper (envOfC x (ay st) s.heap.objs.size f cdv))->JSs (mH CX0 P w K mg base N x (ay st) f cdv A outer s H E).nox (cI st) g) :
  Fn P w K mg base (k+1) x (aY g ps.length (N.length - ps.length)):=by
 obtain⟨f,fd,F1,a⟩:=F
 exact⟨f,fd,ps,G5 F1 S (hb f),PySem.W.mg_of X G a,F1.kp,F1.binds hbd⟩
end
def GD (H:Hp):Prop:=∀b,H b=none∨(∃o xs,H b=some (.frz o (.lst xs))) ∨ ∃q,H b=some (.tbl q)
def mO (tabs:List (Addr×Str)) (G:Hp):Hp:=λb=>match tabs.lookup b with|some q=>some (.tbl q)|none=>G b
theorem eB {tabs:List (Addr×Str)}{G:Hp}{b:Addr}{q:Str}(e:tabs.lookup b=some q):mO tabs G b=some (.tbl q):=by unfold mO;rw[e]
theorem gd {tabs:List (Addr×Str)}{G:Hp}{b:Addr}(e:tabs.lookup b=none):mO tabs G b=G b:=by unfold mO;rw[e]
theorem yK {P:Program}{w:World}{K:PySem.W.Frag}{mg mb:Str->Option Value}{k:Nat}{fa a:Addr}{fd:FuncData}{x:Str}{sp:Sp}{s₁:Shared}{vs:List Value}{ns:List Int}(tabs:List (Addr×Str))
  (ht:∀b q,tabs.lookup b=some q->s₁.heap.get? b=some (PySem.W.tabObj #[])/\isCodeTable s₁.heap b) (hnt:PySem.W.noTabs K=true)
  (KX:K.In s₁.heap) (hns:s₁.heap.Ns mainGlobals mg) (hb:s₁.heap.Ns builtinsNs mb) (hbb:∀x:Str,x ≠ "__name__"->mb x=bootBuiltins x) (hlim:s₁.heap.NoLimit)
  (hbm:∃bm ob,mg "__builtins__" = some (.ref bm)/\bm≠builtinsNs/\s₁.heap.get? bm=some ob/\ob.cls=.type "module"/\ob.dict=some builtinsNs/\ob.data=.plain) (hg:s₁.gens=#[])
  (ha:s₁.heap.get? a=some { cls:=.type "list",data:=.seq vs.toArray }) (hi:IntsAre vs ns) (hl:ns.length<=sizeLine) (hr:Room k callerA)
  (F:∀base:Heap,K.In base->base.Ns mainGlobals mg->FnOk P w K mg base CX0 k fa fd [x] sp) (hbind:∀(s:Shared) (u:Value),BindsTo s fd ⟨[u],[]⟩ [(x,u)])
  (hsp:∀H:Hp,(∀b q,tabs.lookup b=some q->H b=some (.tbl q))->SqL K H a (ns.map V.int)->sp [.ref a] H (λv _=>v=.bl true) λ_ _ _=>False) :
  codeAny (model P w) callerA (.call (.ref fa) ⟨[.ref a],[]⟩) (λr s'=>r=.ok (.ret (.bool true))/\OldK s₁.heap s'.heap/\s'.os=s₁.os/\AllBare s'.gens) s₁:=by
 have rv:=L2.iI hi
 have lenV:=hi.length
 have core:∀H:Hp,GD H->(∀b q,tabs.lookup b=some q->H b=some (.tbl q))->SqL K H a (ns.map V.int)->HOk P w H s₁.heap->(∀b q,H b=some (.tbl q)->s₁.heap.get? b=some (PySem.W.tabObj #[])/\isCodeTable s₁.heap b) ->
   (∀b o u,H b=some (.frz o u)->b=a)->(∀b o u,H b=some (.frz o u)->K.lookup b=none) ->
   codeAny (model P w) callerA (.call (.ref fa) ⟨[.ref a],[]⟩) (λr s'=>r=.ok (.ret (.bool true))/\OldK s₁.heap s'.heap/\s'.os=s₁.os/\AllBare s'.gens) s₁:=by
  intro H hO hT hS hok hA hB hK
  have noA:∀ {b:Addr}{o:Obj},s₁.heap.get? b=some o->(o.cls≠.none)->(o.cls≠.type "list")->H b=none:=λ{b o} e d d'=>by
   rcases hO b with q|⟨ob,xs,q⟩|⟨u,q⟩
   ·exact q
   ·have e':b=a:=hB b _ _ q
    subst e'
    rw[ha]at e;cases e
    exact absurd rfl d'
   ·rw[(hA b u q).1]at e;cases e
    exact absurd rfl d
  have noD:∀ {b:Addr}{o:Obj}{es:Array DictEntry}{ep:Nat},s₁.heap.get? b=some o->o.data=.dict es ep->H b=none:=λ{b o es ep} e d=>by
   rcases hO b with q|⟨ob,xs,q⟩|⟨u,q⟩
   ·exact q
   ·have e':b=a:=hB b _ _ q
    subst e'
    rw[ha]at e;cases e
    cases d
   ·rw[(hA b u q).1]at e;cases e
    cases d
  have nsK:∀ {b:Addr}{m:Str->Option Value},s₁.heap.Ns b m->(sD s₁.heap H).Ns b m:=λ{b m} ⟨o,es,ep,e,d,r⟩=>⟨o,es,ep,mE e (noD e d),d,r⟩
  have hKb:K.In (sD s₁.heap H):=λb o e=>mE (KX b o e) (by
   rcases hO b with q|⟨ob,xs,q⟩|⟨u,q⟩
   ·exact q
   ·rw[hK b _ _ q]at e;cases e
   ·have z:=(hA b u q).1
    rw[KX b o e]at z
    cases z
    have:=List.all_eq_true.mp hnt _ (PySem.W.mem_of_lookupK e)
    simp at this)
  have hM:Mod K mg (sD s₁.heap H):=⟨hKb,nsK hns,⟨mb,nsK hb,hbb⟩,let ⟨mc,h1,h2⟩:=hlim;⟨mc,nsK h1,h2⟩,by
   obtain⟨bm,ob,b1,b2,b3,b4,b5⟩:=hbm
   exact⟨bm,ob,b1,b2,mE b3 (noA b3 (by rw[b4];exact λz=>nomatch z) (by rw[b4];intro z;injection z with z;exact absurd z (by decide))),b4,b5⟩⟩
  have e0:Env0 P w K mg (sD s₁.heap H) callerA [] s₁ H:=⟨rfl,hM,λb o e=>BB e,Nat.le_of_eq (yy _ _),trivial,λb hb=>absurd (show b∈([]:List Addr)from hb) (by simp),hok,.of_eq hg⟩
  refine codeAny_mono ((F _ hKb (nsK hns)).run callerA [] s₁ H ⟨[.ref a],[]⟩ [.ref a] [.ref a] _ _ hr e0 (hbind s₁ (.ref a)) (.cons rfl .nil) (hsp H hT hS)) λr s' h=>?_
  cases r with
  | error e=>exact False.elim h
  | ok fl =>
   cases fl with
   | next=>exact False.elim h
   | brk=>exact False.elim h
   | cont=>exact False.elim h
   | ret u =>
    obtain⟨v,H',os,bare,un,hok',r',q⟩:=h
    have q':v=.bl true:=q
    subst q'
    obtain rfl:u=Value.bool true:=r'
    have kp:∀b o,H b=none->s₁.heap.get? b=some o->s'.heap.get? b=some o:=λb o n e=>un.keep b o e n (by intro z;exact absurd (show b∈([]:List Addr)from z) (by simp)) (by simp)
    refine⟨rfl,⟨λb o e=>?_,λb o e=>un.there b o e (by simp)⟩,os,bare⟩
    rcases hO b with z|⟨ob,xs,z⟩|⟨u,z⟩
    ·exact .inl (kp b o z e)
    ·have z2:=un.frzs b ob _ z
     obtain⟨e1,_⟩:=hok b _ z
     obtain⟨e2,_⟩:=hok' b _ z2
     rw[e]at e1;cases e1
     exact .inl e2
    ·obtain⟨e1,e2⟩:=hA b u z
     rw[e]at e1;cases e1
     obtain⟨ps,e3,_⟩:=hok' b _ (un.tbls b u z)
     exact .inr (.inl ⟨e2,rfl,#[],ps,rfl,by simpa using e3⟩)
 have tabNot:∀q,tabs.lookup a≠some q:=λq z=>by
  have:=(ht a q z).1
  rw[ha]at this;cases this
 have ta:tabs.lookup a=none:=by
  cases z:tabs.lookup a with
  | none=>rfl
  | some q=>exact absurd z (tabNot q)
 have tabOk:∀(G:Hp) b q,tabs.lookup b=some q->bH P w (mO tabs G) s₁.heap b (.tbl q):=λG b q z=>⟨#[],(ht b q z).1,trivial,λpos cv c=>by cases c⟩
 cases hk:K.lookup a with
 | some o =>
  have e:=KX a o hk
  rw[ha]at e
  cases e
  refine core (mO tabs λ_=>none) (λb=>?_) (λb q z=>eB z) (.inr ⟨_,vs.toArray,_,hk,rfl,rfl,rfl,by rw[List.size_toArray,lenV];exact hl,by simpa using rv⟩) (λb u z=>?_) (λb q z=>?_) (λb o u z=>?_) λb o u z=>?_
  all_goals cases zt:tabs.lookup b with
   | none=>first|exact .inl (gd zt)|(rw[gd zt]at z;cases z)
   | some q'=>first|exact .inr (.inr ⟨q',eB zt⟩)|(rw[eB zt]at z;cases z;done)|(rw[eB zt]at z;cases z;first|exact tabOk _ b _ zt|exact ht b _ zt)
 | none =>
  refine core (mO tabs λb=>if b=a then some (.frz { cls:=.type "list",data:=.seq vs.toArray } (.lst (ns.map V.int)))else none) (λb=>?_) (λb q z=>eB z) (.inl (.inr ⟨{ cls:=.type "list",data:=.seq vs.toArray },by rw[gd ta,if_pos rfl]⟩)) (λb u z=>?_) (λb q z=>?_) (λb o u z=>?_) λb o u z=>?_
  all_goals cases zt:tabs.lookup b with
   | some q'=>first|exact .inr (.inr ⟨q',eB zt⟩)|(rw[eB zt]at z;cases z;done)|(rw[eB zt]at z;cases z;first|exact tabOk _ b _ zt|exact ht b _ zt)
   | none =>
    first
    | rw[gd zt]at z
    | rw[gd zt]
    by_cases hb:b=a
    ·first
     | rw[if_pos hb]at z
     | rw[if_pos hb]
     first
     | exact .inr (.inl ⟨_,_,rfl⟩)
     | (cases z;subst hb;exact⟨ha,by rw[List.length_map];exact hl,vs,_,rv,ha⟩)
     | exact hb
     | (rw[hb];exact hk)
     | cases z
    ·first
     | (rw[if_neg hb]at z;cases z)
     | exact .inl (if_neg hb)
def rj (L:List (Str×Option (Addr×Addr))):List (Addr×Str):=L.filterMap λp=>p.2.map λq=>(q.2,mJ p.1)
structure TabsFit (K:PySem.W.Frag) (L:List (Str×Option (Addr×Addr))):Prop where
 names:L=jL.map λx=>(x,PySem.W.tabIn K x)
 apart:((rj L).map (·.1)).Nodup
 none:PySem.W.noTabs K=true
theorem jc {α β:Type}[BEq α] [LawfulBEq α]:∀ {l:List (α×β)}{a:α}{b:β},(l.map (·.1)).Nodup->(a,b)∈l->l.lookup a=some b
 | (c,d)::l,a,b,nd,h=>by
  rw[List.lookup_cons]
  rcases List.mem_cons.mp h with e|h
  ·cases e;simp
  ·have ne:a≠c:=λz=>(List.nodup_cons.mp nd).1 (by rw[←z];exact List.mem_map.mpr ⟨(a,b),h,rfl⟩)
   rw[show(a == c)=false by simpa using ne]
   exact jc (List.nodup_cons.mp nd).2 h
theorem ij {α β:Type}[BEq α] [LawfulBEq α]:∀ {l:List (α×β)}{a:α}{b:β},l.lookup a=some b->(a,b)∈l
 | (c,d)::l,a,b,h=>by
  rw[List.lookup_cons]at h
  cases e:a == c with
  | true=>rw[e]at h;cases h;rw[eq_of_beq e];exact mX
  | false=>rw[e]at h;exact mZ _ (ij h)
theorem TabsFit.tb {K:PySem.W.Frag}{L:List (Str×Option (Addr×Addr))}(F:TabsFit K L) {H:Hp}(h:∀b q,(rj L).lookup b=some q->H b=some (.tbl q)):Tb K H:=λx hx c P e=>by
 refine h P (mJ x) (jc F.apart ?_)
 rw[F.names]
 exact List.mem_filterMap.mpr ⟨(x,PySem.W.tabIn K x),List.mem_map.mpr ⟨x,hx,rfl⟩,by rw[e];rfl⟩
theorem tab_no {K:PySem.W.Frag}{x:Str}(e:PySem.W.nsIn K mainGlobals x=some none):PySem.W.tabIn K x=none:=by unfold PySem.W.tabIn;rw[e]
theorem tab_yes {K:PySem.W.Frag}{x:Str}{f c P:Addr}{oc oc':Value}{od od':Option Addr}{osl osl':Array (Option Value)}{fd:FuncData}{vs:Array Value}(e1:PySem.W.nsIn K mainGlobals x=some (some (.ref f))) (e2:K.lookup f=some ⟨oc,od,.func fd,osl⟩) (e3:fd.code=.ref c)
  (e4:K.lookup c=some ⟨oc',od',.fields vs,osl'⟩) (e5:vs[11]? = some (.ref P)):PySem.W.tabIn K x=some (c,P):=by unfold PySem.W.tabIn;simp only[e1,e2,e3,e4,e5]
theorem tabs_fit {K:PySem.W.Frag}{t0 t1 t2 t3:Option (Addr×Addr)}(h0:PySem.W.tabIn K "in_order" = t0) (h1:PySem.W.tabIn K "has_seal" = t1) (h2:PySem.W.tabIn K "is_first_death" = t2) (h3:PySem.W.tabIn K "bases_by" = t3)
  (ap:((rj [("in_order",t0),("has_seal",t1),("is_first_death",t2),("bases_by",t3)]).map (·.1)).Nodup) (nt:PySem.W.noTabs K=true):TabsFit K [("in_order",t0),("has_seal",t1),("is_first_death",t2),("bases_by",t3)] :=
 ⟨by subst h0;subst h1;subst h2;subst h3;rfl,ap,nt⟩
theorem walkD {l:PySem.W.OpenLaw}{q:Program}{loose:List Str}{XP:(Str->Option Value)->Heap->Prop}{YP:World->Heap->Prop}{d:DefRec}{K:Params->PySem.W.Frag}{k:Nat}{x:Str}{f:List D->Option (D×Bool)}{L:List (Str×Option (Addr×Addr))}(hn:l.most=some 63) (hdf:d.params.defaults=[]) (hr:Room k callerA)
  (hY:∀(w:World) (h:Heap),YP w h->(K w.params).In h) (hT:∀w:World,TabsFit (K w.params) L) (hD:(L.all λp=>p.2.isNone || ((recsOf q).find? λe=>e.name == p.1).isSome)=true)
  (F:∀(w:World) (mg:Str->Option Value) (fa:Addr) (h:Heap),(K w.params).In h->h.Ns mainGlobals mg->mg d.name=some (.ref fa) ->
   ∃fd:FuncData,(∀(s:Shared) (u:Value),BindsTo s fd ⟨[u],[]⟩ [(x,u)])/\∀base:Heap,(K w.params).In base->base.Ns mainGlobals mg->FnOk l.prog w (K w.params) mg base CX0 k fa fd [x] (spD (K w.params) f))
  (ht:∀ns:List Int,ns.length<=63->∃b,f [.lst (ns.map .int)]=some (.bl true,b)):PySem.W.WalkO q loose XP YP l.row.toRowW d [] (λf vs=>PySem.call f vs):=by
 refine Att.sK hn hdf λw s₀ s₁ mg mb fa o pm cd doc a vs ns G Y ho hd hcd hmg hobj hints hlen hg=>?_
 have KX:=hY w _ Y
 obtain⟨fd,hb,hF⟩:=F w mg fa _ KX G.T.g hmg
 refine yK (rj L) (λb u e=>?_) (hT w).none KX G.T.g G.T.b G.T.builtins G.T.nolimit G.T.bmain hg hobj hints (Nat.le_trans hlen (by decide)) hr hF hb λH hH hS=>?_
 ·obtain⟨p,hp,e2⟩:=List.mem_filterMap.mp (ij e)
  obtain⟨⟨c,P⟩,e3,e4⟩:=oY e2
  cases e4
  have hp':=List.all_eq_true.mp hD p hp
  rw[e3]at hp'
  rw[Option.isNone_some,Bool.false_or]at hp'
  obtain⟨r,hr'⟩:=Option.isSome_iff_exists.mp hp'
  have ht':PySem.W.tabIn (K w.params) p.1=some (c,P):=by
   rw[(hT w).names]at hp
   obtain⟨y,_,rfl⟩:=List.mem_map.mp hp
   exact e3
  obtain⟨h1,h2⟩:=PySem.W.tab_of G.T KX hr' ht'
  exact⟨h2,(h1.tab h2).isCodeTable⟩
 ·obtain⟨b,e⟩:=ht ns hlen
  exact⟨H,_,_,b,⟨.refl H,(hT w).tb hH⟩,.cons (.lst hS (.flat rfl)) .nil,e,λv H' N x' i' _=>by cases i';rfl⟩
theorem Def.law {P:Program}{w:World}{K:PySem.W.Frag}{mg:Str->Option Value}{x y:Str}{st:Stmt}{N:List Str}{k:Nat}{g:FS}{h:Heap}{fa:Addr}(F:Def K x st) (X:K.In h) (G:h.Ns mainGlobals mg) (hfa:mg x=some (.ref fa)) (S:FnScope N [y] (ay st))
  (hbd:∀(kV doc pm:Value) (an:Option Addr) (cdv ct:Value) (u:Value),bindArgs (PySem.W.fnOf x x (fF st) (cI st) (ay st) .none kV doc pm an cdv ct) ⟨[u],[]⟩=pure [(y,u)])
  (hb:∀(base:Heap),K.In base->base.Ns mainGlobals mg->∀(f:Addr) (cdv:Value) (A:Around) (outer:List PySem.Env) (s:Shared) (H:Hp) (E:XK),Room k (A.deeper (envOfC x (ay st) s.heap.objs.size f cdv))->JSs (mH CX0 P w K mg base N x (ay st) f cdv A outer s H E).nox (cI st) g) :
  ∃fd:FuncData,(∀(s:Shared) (u:Value),BindsTo s fd ⟨[u],[]⟩ [(y,u)])/\∀base:Heap,K.In base->base.Ns mainGlobals mg->FnOk P w K mg base CX0 (k+1) fa fd [y] (spD K (aY g 1 (N.length - 1))):=by
 obtain⟨f,fd,F1,a⟩:=F
 have e:=hfa.symm.trans (PySem.W.mg_of X G a)
 cases e
 refine⟨fd,λs u=>?_,λbase kb nb=>G5 F1 S (hb base kb nb _)⟩
 obtain⟨oc,od,kV,doc,pm,an,cdv,ct,osl,rfl,lk,hcd⟩:=F1.ex
 exact .of_eq (hbd kV doc pm an cdv ct u)
section
variable {X:Cx}{a b e:Expr}{pos:Pos}{x:Str}{p:Pos}
@[simp] def Ao:D->D->Option (D×Bool)
 | .lst xs,.lst ys=>if xs.length+ys.length<=sizeLine then some (.lst (xs++ys),true)else none
 | _,_=>none
theorem Fb:OpR X (binaryOp .Add) (rD X.K Ao):=by
 intro pins s σ H x y v u Q I rx ry q
 obtain⟨B,dx,dy,d,bb,sB,ix,iy,ee,q⟩:=q
 cases ix<;>cases iy<;>try (simp[Ao]at ee;done)
 rename_i l vs ds h hl l' ws es h' hl'
 simp only[Ao]at ee
 split at ee
 ·rename_i hz
  cases ee
  cases rx
  cases ry
  obtain⟨its,r1,p1,z1⟩:=I.list (sB.seq h)
  obtain⟨jts,r2,p2,z2⟩:=I.list (sB.seq h')
  obtain⟨⟨c1,d1,t1,s1⟩,o1,e1,n1,k1⟩:=p1.isList
  obtain⟨⟨c2,d2,t2,s2⟩,o2,e2,n2,k2⟩:=p2.isList
  dsimp only at e1 k1 e2 k2
  subst e1;subst k1;subst e2;subst k2
  have hsz:its.toArray.size+jts.toArray.size<=sizeLine:=by
   rw[List.size_toArray,List.size_toArray,←r1.length,←r2.length,hl.length,hl'.length];exact hz
  have ea:its.toArray++jts.toArray=(its++jts).toArray:=by simp
  refine concat_meets ⟨_,o1,rfl⟩ ⟨_,o2,rfl⟩ noFill_list_add seq_list_add PySem.F.slot_list_add PySem.F.entry_list_add (PySem.F.args_list_add_2 _ _) (list_addW l l' its.toArray jts.toArray n1 n2 d1 d2 s1 s2 hsz) ⟨o1,o2, ?_⟩
  rw[ea]
  have xt:=Ext.laid (o:=.lst (vs++ws)) sB I.fresh
  have il:=(hl.append hl').mono xt.bn
  exact⟨.ref s.heap.objs.size,_,I.lnew (t':=s.toks) (r1.append r2) (by rw[List.length_append,hl.length,hl'.length];exact hz),rfl,q _ _ _ xt (.lst (SqL.of aJ) il) λ_=>⟨_,_,_,rfl,rfl,I.fresh,aJ,il⟩⟩
 ·cases ee
@[simp] def mP:D->D->Option (D×Bool)
 | .tup xs,.tup ys=>if xs.length+ys.length<=sizeLine/\xs.isEmpty=false then some (.tup (xs++ys),false)else none
 | _,_=>none
theorem Ap:OpR X (binaryOp .Add) (rD X.K mP):=by
 refine fS BS λx y H Q q=>?_
 obtain⟨B,dx,dy,d,bb,sB,ix,iy,ee,q⟩:=q
 cases ix<;>cases iy<;>try (simp[mP]at ee;done)
 rename_i l vs ds h hl l' ws es h' hl'
 simp only[mP]at ee
 split at ee
 ·rename_i hz
  cases ee
  have l1:=hl.length
  have l2:=hl'.length
  refine⟨l,l',vs,ws,rfl,rfl,bd sB h,bd sB h',λz=>?_,by omega,λz=>?_,λ_ pp hp=>?_⟩
  ·subst z
   cases hl
   simp at hz
  ·subst z
   cases hl'
   rw[List.append_nil]at q
   exact q.one sB (.tup h hl)
  ·have xt:=Ext.laid (o:=.tup (vs++ws)) sB hp
   exact q _ _ _ xt (.tup (SqT.of aJ) ((hl.append hl').mono xt.bn)) (by simp)
 ·cases ee
@[simp] def yL:D->D->Option (D×Bool)
 | .bl i,.int j=>some (.int ((if i=true then 1 else 0)+j),false)
 | .int i,.bl j=>some (.int (i+b2i j),false)
 | _,_=>none
theorem Fc:OpR X (binaryOp .Add) (rD X.K yL):=by
 intro pins s σ H x y v u Q I rx ry q
 obtain⟨B,dx,dy,d,bb,sB,ix,iy,ee,q⟩:=q
 cases ix<;>cases iy<;>try (simp[yL]at ee;done)
 ·simp only[yL]at ee
  cases ee
  cases rx
  obtain⟨t,rfl⟩:=ry
  exact IntBool.add_bool_int ⟨.int _,H,I.tok _,⟨_,rfl⟩,q.one sB (.int _)⟩
 ·simp only[yL]at ee
  cases ee
  exact y7 pins s σ H _ _ v u Q I rx ry ⟨_,_,rfl,rfl,q.one sB (.int _)⟩
@[simp] def bD:D->D->Option (D×Bool)
 | .int i,.int j=>some (.int (i+j),false)
 | .str i,.str j=>if i.length+j.length<=sizeLine then some (.str (i++j),false)else none
 | .lst xs,.lst ys=>if xs.length+ys.length<=sizeLine then some (.lst (xs++ys),true)else none
 | .tup xs,.tup ys=>if xs.length+ys.length<=sizeLine/\xs.isEmpty=false then some (.tup (xs++ys),false)else none
 | .bl i,.int j=>some (.int ((if i=true then 1 else 0)+j),false)
 | .int i,.bl j=>some (.int (i+b2i j),false)
 | _,_=>none
theorem bc:OpR X (binaryOp .Add) (rD X.K bD):=by
 refine fS (r:=rD X.K (orD xq (orD Ao (orD mP yL)))) (lb Co (lb Fb (lb Ap Fc))) λx y H Q q=>?_
 obtain⟨B,dx,dy,d,bb,sB,ix,iy,ee,q⟩:=q
 refine⟨B,dx,dy,d,bb,sB,ix,iy, ?_,q⟩
 cases dx<;>cases dy<;>simp[bD]at ee<;>simp[orD,xq,Ao,mP,yL,ee]
@[simp] def blD:D->Option Bool
 | .bl b=>some b
 | _=>none
def pj:List D->Option (List Bool)
 | []=>some []
 | d::ds=>(blD d).bind λb=>(pj ds).map (b :: ·)
@[simp] theorem GE:pj []=some []:=rfl
@[simp] theorem yM (d:D) (ds:List D):pj (d::ds)=(blD d).bind λb=>(pj ds).map (b :: ·):=rfl
theorem rm {K:PySem.W.Frag}{B:Hp}:∀ {vs:List V}{ds:List D}{bs:List Bool}{its:List Value},L2.aX vs its->IsL K B vs ds->pj ds=some bs->its=bs.map Value.bool
 | _,_,_,_,.nil,.nil,e=>by cases e;rfl
 | _,_,_,_,.cons r rr,.cons i ii,e=>by
  rw[yM]at e
  obtain⟨b,e1,e⟩:=oX e
  obtain⟨bs,e2,e⟩:=oY e
  subst e
  cases i<;>simp only[blD]at e1<;>try (cases e1;done)
  cases e1
  cases r
  rw[rm rr ii e2];rfl
@[simp] def Cs:List D->Option (D×Bool)
 | [.lst ds]=>(pj ds).map λbs=>(.bl (bs.all id),false)
 | _=>none
@[simp] def GF:List D->Option (D×Bool)
 | [.lst ds]=>(pj ds).map λbs=>(.bl (bs.any id),false)
 | _=>none
theorem DH (hc:X.calm=true:=by rfl):bI X (.builtin "all") (rDA X.K Cs):=by
 intro pins s σ H xs us Q I rs q
 obtain⟨B,ds,d,bb,sB,i,ee,q⟩:=q
 match ds,i,ee with
 | [.lst es],.cons i1 .nil,ee =>
  obtain⟨bs,eb,ee⟩:=oY ee
  cases ee
  obtain⟨u1,rfl,r1⟩:=fD rs
  cases i1 with
  | @lst l vs _ h hl =>
   cases r1
   obtain⟨its,rv,p1,z1⟩:=I.list (sB.seq h)
   have ei:=rm rv hl eb
   have hlt:l<s.heap.objs.size:=by obtain⟨_,e0,_⟩:=p1.isList;exact Heap.lt_size e0
   refine call_all_walk (wpAny_pyIter_list p1.isList ⟨_,_,_,_,_,_,λj=>(bs[j]?).getD true,rfl,Walks.list (A:=X.A.in1) (I.ok.hd hc) s.heap.objs.size l (Nat.ne_of_lt hlt) its.toArray,⟨⟨_,Heap.get?_push_size _ rfl,rfl,rfl⟩,p1.isList.push _⟩,λj v s' Q' E' hP hQ=>?_,λh' tk hk=>?_⟩)
   ·have hP':its[j]? = some v:=by simpa using hP
    rw[ei,List.getElem?_map]at hP'
    obtain⟨c,e1,e2⟩:=oY hP'
    subst e2
    dsimp only at hQ
    rw[e1]at hQ
    exact wpAny_truthy_bool hQ
   ·have ea:((List.range its.toArray.size).all λj=>(bs[j]?).getD true)=bs.all id:=by
     rw[List.size_toArray,ei,List.length_map];exact LSm.range_all bs
    rw[ea]
    refine⟨.bl _,H,I.kept λc o e0=>?_,rfl,q.one sB (.bl _)⟩
    exact hk c o (λhm=>by rw[List.mem_singleton.mp hm]at e0;exact Nat.lt_irrefl _ (Heap.lt_size e0)) (Heap.get?_push_of_some _ e0)
theorem GG (hc:X.calm=true:=by rfl):bI X (.builtin "any") (rDA X.K GF):=by
 intro pins s σ H xs us Q I rs q
 obtain⟨B,ds,d,bb,sB,i,ee,q⟩:=q
 match ds,i,ee with
 | [.lst es],.cons i1 .nil,ee =>
  obtain⟨bs,eb,ee⟩:=oY ee
  cases ee
  obtain⟨u1,rfl,r1⟩:=fD rs
  cases i1 with
  | @lst l vs _ h hl =>
   cases r1
   obtain⟨its,rv,p1,z1⟩:=I.list (sB.seq h)
   have ei:=rm rv hl eb
   have hlt:l<s.heap.objs.size:=by obtain⟨_,e0,_⟩:=p1.isList;exact Heap.lt_size e0
   refine call_any_walk (wpAny_pyIter_list p1.isList ⟨_,_,_,_,_,_,λj=>(bs[j]?).getD false,rfl,Walks.list (A:=X.A.in1) (I.ok.hd hc) s.heap.objs.size l (Nat.ne_of_lt hlt) its.toArray,⟨⟨_,Heap.get?_push_size _ rfl,rfl,rfl⟩,p1.isList.push _⟩,λj v s' Q' E' hP hQ=>?_,λh' tk hk=>?_⟩)
   ·have hP':its[j]? = some v:=by simpa using hP
    rw[ei,List.getElem?_map]at hP'
    obtain⟨c,e1,e2⟩:=oY hP'
    subst e2
    dsimp only at hQ
    rw[e1]at hQ
    exact wpAny_truthy_bool hQ
   ·have ea:((List.range its.toArray.size).any λj=>(bs[j]?).getD false)=bs.any id:=by
     rw[List.size_toArray,ei,List.length_map];exact LSm.range_any bs
    rw[ea]
    refine⟨.bl _,H,I.kept λc o e0=>?_,rfl,q.one sB (.bl _)⟩
    exact hk c o (λhm=>by rw[List.mem_singleton.mp hm]at e0;exact Nat.lt_irrefl _ (Heap.lt_size e0)) (Heap.get?_push_of_some _ e0)
theorem GH:bootBuiltins "any" = some (.builtin "any"):=by decide +kernel
end
def Its (z:Str):It:=⟨λi _=>i<z.cps.size,λi H v H'=>H'=H/\∃c,z.cps[i]? = some c/\v=.str ⟨#[c]⟩,λi _=>z.cps.size<=i⟩
theorem tE {P:Program}{w:World}{K:PySem.W.Frag}{tg:Expr}(z:Str) (t:Tok) (it:Addr):Turn P w K tg (Its z) [it] it (λi h=>h.IsStrIter it "str_ascii_iterator" z t i) where
 mem:=List.mem_singleton.mpr rfl
 obj:=λi h st b hb=>by
  have eb:=List.mem_singleton.mp hb
  subst eb
  obtain⟨o,e1,_,d1⟩:=st
  exact⟨o,e1,λv zz=>by rw[d1]at zz;cases zz⟩
 keep:=λi h h' st k=>let ⟨o,e1,r⟩:=st;⟨o,k it (List.mem_singleton.mpr rfl) o e1,r⟩
 item:=by
  intro X hP hw hK hc i pins s σ H E I hf st hg
  subst hP hw hK
  have hg':i<z.cps.size:=hg
  obtain⟨f0,f1,f2,f3,f4,f5⟩:=hf it (List.mem_singleton.mpr rfl)
  refine wpAny_pyNext_ascii_item st (c:=z.cps[i]) (by simp[hg']) λh' st' sb=>?_
  obtain⟨o,e1,c1,d1⟩:=id st'
  exact⟨_,rfl,p9 (s:={ s with heap:=h',toks:=s.toks+1 }) e1 c1 d1 (by decide) ⟨.str ⟨#[z.cps[i]]⟩,H,I.turned (λb o hb e2=>(sb.2 b hb).trans e2) f0 f1 f3 f4 f5,⟨_,rfl⟩,⟨rfl,_,by simp[hg'],rfl⟩,st',λb hb=>(hf b hb).1⟩⟩
 done:=by
  intro X hP hw hK hc i pins s σ H E I hf st hg
  subst hP hw hK
  have hg':z.cps.size<=i:=hg
  obtain⟨f0,f1,f2,f3,f4,f5⟩:=hf it (List.mem_singleton.mpr rfl)
  exact wpAny_pyNext_ascii_end (I.ok.hd hc) st (by simp;omega) λh' eb=>⟨rfl,I.turned (t':=s.toks) (λb o hb e2=>eb b o hb e2) f0 f1 f3 f4 f5⟩
 self:=λ_ _ _ _ _ st h=>wpAny_pyIter_striter_ascii st h
theorem tF {P:Program}{w:World}{K:PySem.W.Frag}{tg:Expr}(z:Str) (t:Tok) (it:Addr):Turn P w K tg (Its z) [it] it (λi h=>h.IsStrIter it "str_iterator" z t i) where
 mem:=List.mem_singleton.mpr rfl
 obj:=λi h st b hb=>by
  have eb:=List.mem_singleton.mp hb
  subst eb
  obtain⟨o,e1,_,d1⟩:=st
  exact⟨o,e1,λv zz=>by rw[d1]at zz;cases zz⟩
 keep:=λi h h' st k=>let ⟨o,e1,r⟩:=st;⟨o,k it (List.mem_singleton.mpr rfl) o e1,r⟩
 item:=by
  intro X hP hw hK hc i pins s σ H E I hf st hg
  subst hP hw hK
  have hg':i<z.cps.size:=hg
  obtain⟨f0,f1,f2,f3,f4,f5⟩:=hf it (List.mem_singleton.mpr rfl)
  refine wpAny_pyNext_wide_item st (c:=z.cps[i]) (by simp[hg']) λh' st' sb=>?_
  obtain⟨o,e1,c1,d1⟩:=id st'
  exact⟨_,rfl,p9 (s:={ s with heap:=h',toks:=s.toks+1 }) e1 c1 d1 (by decide) ⟨.str ⟨#[z.cps[i]]⟩,H,I.turned (λb o hb e2=>(sb.2 b hb).trans e2) f0 f1 f3 f4 f5,⟨_,rfl⟩,⟨rfl,_,by simp[hg'],rfl⟩,st',λb hb=>(hf b hb).1⟩⟩
 done:=by
  intro X hP hw hK hc i pins s σ H E I hf st hg
  subst hP hw hK
  have hg':z.cps.size<=i:=hg
  obtain⟨f0,f1,f2,f3,f4,f5⟩:=hf it (List.mem_singleton.mpr rfl)
  exact wpAny_pyNext_wide_end (I.ok.hd hc) st (by simp;omega) λh' eb=>⟨rfl,I.turned (t':=s.toks) (λb o hb e2=>eb b o hb e2) f0 f1 f3 f4 f5⟩
 self:=λ_ _ _ _ _ st h=>wpAny_pyIter_striter_wide st h
section
variable {X:Cx}{a b e:Expr}{pos:Pos}{x:Str}{p:Pos}{tg:Expr}
theorem Aq {l:Expr}{tl:TE}(hl:PE X l tl):PI X tg l (λσ H R=>tl σ H λx H1=>∃z,x=.str z/\R (Its z) H1):=by
 intro pins s σ H R I h
 refine thn (hl pins s σ H _ I h) λv s1 ⟨x,H1,I1,r1,q1⟩=>?_
 obtain⟨z,rfl,q⟩:=q1
 obtain⟨t,rfl⟩:=r1
 have fp:∀b∈[s1.heap.objs.size],kT X pins H1 b:=λb hb=>by
  rw[List.mem_singleton.mp hb]
  exact I1.fpOk (Nat.le_refl _) (I1.hok.fresh (Nat.le_refl _))
 cases ha:z.cps.all (· < 128) with
 | true=>exact wpAny_pyIter_ascii ha ⟨_,[s1.heap.objs.size],_,_,H1,rfl,I1.kept (t':=s1.toks) λb o e=>Heap.get?_push_of_some _ e,tE z t _,⟨_,Heap.get?_push_size _ rfl,rfl,rfl⟩,fp,q⟩
 | false=>exact wpAny_pyIter_wide ha ⟨_,[s1.heap.objs.size],_,_,H1,rfl,I1.kept (t':=s1.toks) λb o e=>Heap.get?_push_of_some _ e,tF z t _,⟨_,Heap.get?_push_size _ rfl,rfl,rfl⟩,fp,q⟩
def xB (z:Str):List D:=z.cps.toList.map λc=>.str ⟨#[c]⟩
theorem Ar {K:PySem.W.Frag}{B:Hp}(z:Str):pe K (Its z) B (xB z):=by
 intro i H s
 refine⟨λd ed=>?_,λhl=>by unfold xB at hl;show z.cps.size<=i;simpa using hl⟩
 unfold xB at ed
 rw[List.getElem?_map]at ed
 obtain⟨c,ec,rfl⟩:=oY ed
 have ec':z.cps[i]? = some c:=by simpa using ec
 refine⟨(Array.getElem?_eq_some_iff.mp ec').1,λv H' hy=>?_⟩
 obtain⟨rfl,c',e1,rfl⟩:=hy
 rw[ec']at e1;cases e1
 exact⟨B,.refl s,.str _⟩
@[simp] def Fd:D->Option (List D)
 | .lst ds=>some ds
 | .tup ds=>some ds
 | .str z=>some (xB z)
 | _=>none
@[simp] def cK (f:FE):FA:=λρ=>(f ρ).bind λx=>Fd x.1
theorem da {f:FE}(h:JE X e f):JI X tg e (cK f):=by
 intro pins s σ H R I q
 obtain⟨B,ρ,ds,sB,r,e',q⟩:=q
 obtain⟨xx,ex,es⟩:=oX e'
 obtain⟨xd,xb⟩:=xx
 cases xd with
 | lst l=>exact xA h pins s σ H R I ⟨B,ρ,ds,sB,r,by unfold Am;rw[ex];exact es,q⟩
 | tup l=>exact xA h pins s σ H R I ⟨B,ρ,ds,sB,r,by unfold Am;rw[ex];exact es,q⟩
 | str z =>
  cases es
  refine Aq h pins s σ H R I ⟨B,ρ,_,_,sB,r,ex,λv H1 N1 x1 i1 _=>?_⟩
  cases i1
  exact⟨z,rfl,q _ H1 N1 x1 (Ar z)⟩
 | _=>cases es
theorem Ct:SlR X (λx lo hi H Q=>∃z,x=.str z/\z.length<=sizeLine/\Q (.str (Txt.slice z lo hi)) H):=by
 intro pins s σ H x v vl vu lo hi sl Q I rx hs pl pu h
 obtain⟨z,rfl,hz,q⟩:=h
 obtain⟨t,rfl⟩:=rx
 have fin:∀lo hi,Q (.str (Txt.slice z lo hi)) H->(Txt.slice z lo hi).length<=sizeLine/\∀t' k,EP X pins σ Q (.str (Txt.slice z lo hi) t') { s with toks:=k }:=λlo hi q =>
  ⟨Nat.le_trans (Txt.slice_le z _ _) hz,λt' k=>⟨.str _,H,I.tok k,⟨t',rfl⟩,q⟩⟩
 refine⟨"str",_,PySem.F.slot_str_getitem.lookup,typeIs_str _ _ _, ?_⟩
 cases pl with
 | none =>
  cases pu with
  | none=>exact wpAny_getItem_str_slice (l:=none) (u:=none) (st:=none) hs rfl (post_val_or_str (fin _ _ q))
  | int j tj=>exact wpAny_getItem_str_slice (l:=none) (u:=some (j,tj)) (st:=none) hs rfl (post_val_or_str (fin _ _ q))
 | int i ti =>
  cases pu with
  | none=>exact wpAny_getItem_str_slice (l:=some (i,ti)) (u:=none) (st:=none) hs rfl (post_val_or_str (fin _ _ q))
  | int j tj=>exact wpAny_getItem_str_slice (l:=some (i,ti)) (u:=some (j,tj)) (st:=none) hs rfl (post_val_or_str (fin _ _ q))
theorem yN {A:Around}{E:Value->Shared->Prop}{s:Shared}{prog:Program}{w:World}{t sl:Addr}{items:Array Value}{vl vu:Value}{lo hi:Option Int}{Q:Value->Shared->Prop}(ht:IsTup s.heap t items) (hs:s.heap.IsSliceOf sl vl vu .none) (pl:IsPart vl lo) (pu:IsPart vu hi)
  (h0:HT.sIx items.size 0 lo=0) (h1:HT.sIx items.size items.size hi=items.size) (h:Q (.ref t) s):wpAny (model prog w) A (getItem (.ref t) (.ref sl)) Q E s:=by
 obtain⟨os,hos,hcs,hds⟩:=id hs
 have hT:s.TypeIs (.ref sl) "slice":=⟨os,hos,hcs⟩
 unfold getItem
 try with_reducible refine wpAny_holding ?_
 first|refine wX (wY ?_)|skip
 refine wX (wpAny_sequenceKey ht.typeIs (by decide) ?_)
 refine wX (wpAny_callSpecial?_slot (name:=Str.ofString "__getitem__") ht.typeIs PyProof.Rows.slot_tuple_getitem (wpAny_call_entry PyProof.Rows.slot_tuple_getitem ht.typeIs entry_tuple_getitem ?_ (args_tuple_getitem _ _)))
 show wpAny _ _ (Builtin.Tuple.tupleItemsOf (.ref t)>>=_) _ _ s
 refine wX (tupleItemsOf_ ht ?_)
 refine wX (wpAny_typeOf hT ?_)
 rw[if_pos (by decide)]
 refine wX (HT.fY hs pl pu ?_)
 have yes:(((HT.sIx items.size 0 lo:Nat):Int) == 0 && (1:Int) == 1 && (HT.sIx items.size items.size hi - HT.sIx items.size 0 lo) == items.size)=true:=by
  rw[h0,h1];simp
 show wpAny _ _ (if(((HT.sIx items.size 0 lo:Nat):Int) == 0 && (1:Int) == 1 && (HT.sIx items.size items.size hi - HT.sIx items.size 0 lo) == items.size)=true then _ else _) _ _ s
 rw[if_pos yes]
 refine wX ?_
 unfold Builtin.Tuple.tupleIsExact
 refine wX (wpAny_typeOf ht.typeIs (wY ?_))
 show wpAny _ _ (if((Value.type "tuple") == Value.type "tuple")=true then _ else _) _ _ s
 rw[if_pos (by decide)]
 refine wX (wpAny_rule ?_)
 exact wY ⟨_,rfl,wY h⟩
theorem Cu:SlR X (λx lo hi H Q=>∃a xs,x=.ref a/\SqT X.K H a xs/\HT.sIx xs.length 0 lo=0/\HT.sIx xs.length xs.length hi=xs.length/\Q (.ref a) H):=by
 intro pins s σ H x v vl vu lo hi sl Q I rx hs pl pu h
 obtain⟨a,xs,rfl,hx,h0,h1,q⟩:=h
 cases rx
 obtain⟨its,r,ht,hz⟩:=I.tuple hx
 have hlen:its.toArray.size=xs.length:=by rw[List.size_toArray];exact r.length.symm
 refine⟨"tuple",_,PyProof.Rows.slot_tuple_getitem.lookup,ht.typeIs, ?_⟩
 exact yN ht hs pl pu (by rw[hlen];exact h0) (by rw[hlen];exact h1) ⟨.ref a,H,I,rfl,q⟩
@[simp] def fSl (fa:FE) (fl fh:FO):FE:=λρ=>(fa ρ).bind λx=>(fl ρ).bind λl=>(fh ρ).bind λh=>match x.1 with
 | .lst ds=>some (.lst (pi ds l h),true)
 | .tup ds=>some (.tup (pi ds l h),false)
 | .str z=>if z.length<=sizeLine then some (.str (Txt.slice z l h),false)else none
 | _=>none
theorem vY {ds:List D}{lo hi:Option Int}(h0:HT.sIx ds.length 0 lo=0) (h1:HT.sIx ds.length ds.length hi=ds.length):pi ds lo hi=ds:=by
 unfold pi;rw[h0,h1];simp
theorem tG {lo hi:Option Expr}{p2:Pos}{fa:FE}{fl fh:FO}(ha:JE X e fa) (hl:JO X lo fl) (hh:JO X hi fh):JE X (.Subscript e (.Slice lo hi none p2) pos) (fSl fa fl fh):=by
 refine PE.to (zH (SlR.or (SlR.or BV E7) (SlR.or Ct Cu)) ha hl hh) λσ H Q q=>?_
 obtain⟨B,ρ,d,b,sB,r,e,q⟩:=q
 obtain⟨x,ex,e⟩:=oX e
 obtain⟨l,el,e⟩:=oX e
 obtain⟨h,eh,e⟩:=oX e
 refine⟨B,ρ,x.1,x.2,sB,r,ex,λv H1 N1 x1 i1 _=>⟨N1,ρ,l,x1.nh,r.mono x1.bn,el,λH2 h2=>⟨N1,ρ,h,x1.nh.trans h2,r.mono x1.bn,eh,λH3 h3=>?_⟩⟩⟩
 have s3:aR N1 H3:=x1.nh.trans (h2.trans h3)
 have q3:=q.into (x1.trans (.grow x1.nh (h2.trans h3)))
 obtain⟨xd,xb⟩:=x
 dsimp only at e i1
 cases i1 with
 | @tup a' vs ds hs hv =>
  cases e
  by_cases hw:HT.sIx ds.length 0 l=0/\HT.sIx ds.length ds.length h=ds.length
  ·rw[vY hw.1 hw.2]at q3
   exact .inr (.inr ⟨a',vs,rfl,bd s3 hs,by rw[hv.length];exact hw.1,by rw[hv.length];exact hw.2,q3.one s3 (.tup hs hv)⟩)
  ·refine .inl (.inr ⟨a',vs,rfl,bd s3 hs,by rw[hv.length];exact hw,λp hp=>?_⟩)
   have x4:=Ext.laid (o:=.tup (oW vs l h)) s3 hp
   exact q3 _ _ _ x4 (.tup (SqT.of aJ) ((rh hv).mono x4.bn)) (by simp)
 | @lst a' vs ds hs hv =>
  cases e
  refine .inl (.inl ⟨a',vs,rfl,s3.seq hs,λp hp=>?_⟩)
  have x4:=Ext.laid (o:=.lst (oW vs l h)) s3 hp
  exact q3 _ _ _ x4 (.lst (SqL.of aJ) ((rh hv).mono x4.bn)) λ_=>⟨p,_,_,rfl,rfl,hp,aJ,(rh hv).mono x4.bn⟩
 | str z =>
  dsimp only at e
  split at e
  ·rename_i hz
   cases e
   exact .inr (.inl ⟨z,rfl,hz,q3.one s3 (.str _)⟩)
  ·cases e
 | _=>cases e
def rq:Value->D->Bool
 | .none,.non=>true
 | .bool a,.bl b=>a == b
 | .int i _,.int j=>decide (i=j)
 | .str i _,.str j=>decide (i=j)
 | _,_=>false
def gD:List Value->List D->Bool
 | [],[]=>true
 | u::us,d::ds=>rq u d && gD us ds
 | _,_=>false
theorem iN {K:PySem.W.Frag}{B:Hp}:∀ {u:Value}{d:D},rq u d=true->∃v,aT v u/\Is K B v d
 | .none,.non,_=>⟨.non,rfl,.non⟩
 | .bool a,.bl b,h=>by
  have:a=b:=eq_of_beq h
  subst this;exact⟨.bl a,rfl,.bl a⟩
 | .int i t,.int j,h=>by
  have:i=j:=of_decide_eq_true h
  subst this;exact⟨.int i,⟨t,rfl⟩,.int i⟩
 | .str i t,.str j,h=>by
  have:i=j:=of_decide_eq_true h
  subst this;exact⟨.str i,⟨t,rfl⟩,.str i⟩
theorem gE {K:PySem.W.Frag}:∀ {us:List Value}{ds:List D},gD us ds=true->∃vs,L2.aX vs us/\∀B,IsL K B vs ds
 | [],[],_=>⟨[],.nil,λ_=>.nil⟩
 | u::us,d::ds,h=>by
  rw[gD,Bool.and_eq_true]at h
  obtain⟨vs,r,i⟩:=gE (K:=K) h.2
  obtain⟨v,r1,_⟩:=iN (K:=K) (B:=λ_=>none) h.1
  refine⟨v::vs,.cons r1 r,λB=>?_⟩
  obtain⟨v',r1',i'⟩:=iN (K:=K) (B:=B) h.1
  have:v'=v:=by have z1:=r1.abs;rw[r1'.abs]at z1;exact Option.some.inj z1
  subst this
  exact .cons i' (i B)
theorem const_tup {K:PySem.W.Frag}{y:Str}{a:Addr}{od:Option Addr}{its:Array Value}{n:Nat}{osl:Array (Option Value)}{ds:List D}(e:PySem.W.nsIn K mainGlobals y=some (some (.ref a)))
  (l:K.lookup a=some ⟨.type "tuple",od,.seq its n,osl⟩) (h:(decide (its.size<=1000) && gD its.toList ds)=true):∃u v,PySem.W.nsIn K mainGlobals y=some (some u)/\aT v u/\∀B,Is K B v (.tup ds):=by
 rw[Bool.and_eq_true]at h
 obtain⟨vs,r,i⟩:=gE (K:=K) h.2
 exact⟨_,.ref a,e,rfl,λB=>.tup (.inr ⟨_,its,n,l,rfl,rfl,Nat.le_of_lt (Nat.lt_of_le_of_lt (of_decide_eq_true h.1) (by decide)),r⟩) (i B)⟩
end
section
variable {X:Cx}{a b o e:Expr}{pos:Pos}{x:Str}{p:Pos}{tg:Expr}
theorem Fe {name:Str}{id:String}{apos cpos:Pos}{op:D->D->Option (D×Bool)}{fo fe:FE}(slot:Slot "str" name id) (hty:typeOf (.builtin id)=pure (.type "method_descriptor"))
  (hm:MtR X id (λx xs H Q=>∃y,xs=[y]/\rD X.K op x y H Q)) (hstr:∀dx dy r,op dx dy=some r->∃z,dx=.str z) (ho:JE X o fo) (he:JE X e fe)
  (hbase:attributeBase o name X.env (eval o X.env)=eval o X.env:=by rfl)
  (hfew:((backTo cpos (starEach [e] X.env)).all (λx=>!x.1) && (backToKw cpos (keywordEach [] X.env)).all (λx=>x.1.isSome)
   && decide ([e].length+([]:List Keyword).length+(if([]:List Keyword).isEmpty then 0 else 1)<30))=true:=by rfl)
  (hline:(apos.endLine == cpos.line)=true:=by rfl) (hs:starEach [e] X.env=[(false,eval e X.env)]:=by rfl) :
  JE X (.Call (.Attribute o name apos) [e] [] cpos) (f2 op fo fe):=by
 refine PE.to (zL PySem.F.plainAttrs_str slot hty hm ho (fE he hZ hs) hbase hfew hline hs rfl) λσ H Q q=>?_
 obtain⟨B,ρ,d,bb,sB,r,ee,q⟩:=q
 obtain⟨x1,ex,ee⟩:=oX ee
 obtain⟨y1,ey,ee⟩:=oX ee
 obtain⟨z,hz⟩:=hstr _ _ _ ee
 refine⟨B,ρ,x1.1,x1.2,sB,r,ex,λv H1 N1 xt1 i1 _=>?_⟩
 rw[hz]at i1
 cases i1
 refine⟨show "str" = "str" from rfl,N1,ρ,y1.1,y1.2,xt1.nh,r.mono xt1.bn,ey,λv2 H2 N2 xt2 i2 _=>⟨v2,rfl,N2,.str z,y1.1,d,bb,xt2.nh,.str z,i2,by rw[←hz];exact ee,q.into (xt1.trans xt2)⟩⟩
@[simp] def Ff:D->Option Str
 | .str z=>some z
 | _=>none
def fm:List D->Option (List Str)
 | []=>some []
 | d::ds=>(Ff d).bind λz=>(fm ds).map (z :: ·)
@[simp] theorem FF:fm []=some []:=rfl
@[simp] theorem vZ (d:D) (ds:List D):fm (d::ds)=(Ff d).bind λz=>(fm ds).map (z :: ·):=rfl
@[simp] theorem FH (zs:List Str):fm (zs.map D.str)=some zs:=by
 induction zs with
 | nil=>rfl
 | cons z zs ih=>simp[ih]
theorem im {K:PySem.W.Frag}{B:Hp}:∀ {vs:List V}{ds:List D}{zs:List Str}{its:List Value},L2.aX vs its->IsL K B vs ds->fm ds=some zs->StrsAre its zs
 | _,_,_,_,.nil,.nil,e=>by cases e;exact .nil
 | _,_,_,_,.cons r rr,.cons i ii,e=>by
  rw[vZ]at e
  obtain⟨z,e1,e⟩:=oX e
  obtain⟨zs,e2,e⟩:=oY e
  subst e
  cases i<;>simp only[Ff]at e1<;>try (cases e1;done)
  cases e1
  obtain⟨t,rfl⟩:=r
  exact .cons _ t (im rr ii e2)
@[simp] def lK:D->D->Option (D×Bool)
 | .str sep,.lst ds=>(fm ds).bind λzs=>if(zs.map (·.length)).sum+zs.length*sep.length<=16777216 then some (.str (Txt.join sep zs),false)else none
 | .str sep,.tup ds=>(fm ds).bind λzs=>if(zs.map (·.length)).sum+zs.length*sep.length<=16777216 then some (.str (Txt.join sep zs),false)else none
 | _,_=>none
theorem Fg:MtR X "str.join" (λx xs H Q=>∃y,xs=[y]/\rD X.K lK x y H Q):=by
 intro pins s σ H x xs v us Q I rx rs h
 obtain⟨y,rfl,B,dx,dy,d,bb,sB,ix,iy,ee,q⟩:=h
 obtain⟨u1,rfl,r1⟩:=fD rs
 cases ix<;>(try (simp[lK]at ee;done))
 obtain⟨t,rfl⟩:=rx
 cases iy<;>(try (simp[lK]at ee;done))
 ·rename_i h hl
  simp only[lK]at ee
  obtain⟨zs,ez,ee⟩:=oX ee
  split at ee
  ·rename_i hok
   cases ee
   cases r1
   obtain⟨its,rv,p1,z1⟩:=I.tuple (bd sB h)
   exact join_tuple p1 (by simpa using im rv hl ez) hok λt' k=>⟨.str _,H,I.tok k,⟨t',rfl⟩,q.one sB (.str _)⟩
  ·cases ee
 ·rename_i h hl
  simp only[lK]at ee
  obtain⟨zs,ez,ee⟩:=oX ee
  split at ee
  ·rename_i hok
   cases ee
   cases r1
   obtain⟨its,rv,p1,z1⟩:=I.list (sB.seq h)
   exact join_list p1.isList (by simpa using im rv hl ez) hok λt' k=>⟨.str _,H,I.tok k,⟨t',rfl⟩,q.one sB (.str _)⟩
  ·cases ee
theorem As (dx dy:D) (r:D×Bool) (h:lK dx dy=some r):∃z,dx=.str z:=by
 cases dx<;>first|exact⟨_,rfl⟩|(cases dy<;>simp[lK]at h)
def dE:List Nat->List D->Env->Option Env
 | [],[],ρ=>some ρ
 | i::is,d::ds,ρ=>dE is ds (ρ.set i (some (d,false)))
 | _,_,_=>none
@[simp] theorem pO (ρ:Env):dE [] [] ρ=some ρ:=by rw[dE]
@[simp] theorem jo (i:Nat) (is:List Nat) (d:D) (ds:List D) (ρ:Env):dE (i::is) (d::ds) ρ=dE is ds (ρ.set i (some (d,false))):=by rw[dE]
@[simp] theorem GI (d:D) (ds:List D) (ρ:Env):dE [] (d::ds) ρ=none:=by simp only[dE]
@[simp] theorem GJ (i:Nat) (is:List Nat) (ρ:Env):dE (i::is) [] ρ=none:=by simp only[dE]
@[simp] def tgT (is:List Nat):FG:=λd ρ=>match d with|.tup ds=>dE is ds ρ|_=>none
def jp:List Nat->TGs
 | []=>Ga
 | i::is=>Dl (lG i) (jp is)
theorem Au {N:Hp}{σ:St}{ρ:Env}{i:Nat}{v:V}{d:D}:aR (cut N (own σ ρ)) (cut N (own (σ.set i (some v)) (ρ.set i (some (d,false))))):=dw λa u e q=>⟨e,λz=>q (by
 rcases qZ z with ⟨_,d',p⟩|⟨j,_,d',q1,q2⟩
 ·cases p
 ·exact⟨j,d',q1,q2⟩)⟩
theorem iO {K:PySem.W.Frag}:∀ {is:List Nat}{vs:List V}{ds:List D}{B0 H0 N H:Hp}{σ:St}{ρ ρ':Env}{Q:St->Hp->Prop},StN K B0 H0 N H σ ρ->IsL K (cut N (own σ ρ)) vs ds->dE is ds ρ=some ρ'->(∀σ',StN K B0 H0 N H σ' ρ'->Q σ' H)->jp is vs σ H Q
 | [],_,_,_,_,_,_,_,_,_,_,s,.nil,e,k=>by
  rw[pO]at e;cases e
  exact⟨rfl,k _ s⟩
 | [],_,_,_,_,_,_,_,_,_,_,_,.cons _ _,e,_=>by simp at e
 | _::_,_,_,_,_,_,_,_,_,_,_,_,.nil,e,_=>by simp at e
 | i::is,_,_,_,_,_,_,_,_,_,_,s,.cons h hs,e,k=>by
  rw[jo]at e
  exact⟨_,_,rfl,iO (s.bind h) (hs.mono Au) e k⟩
theorem iP:∀ {is:List Nat}{ds:List D}{ρ ρ':Env},dE is ds ρ=some ρ'->ds.length=is.length
 | [],[],_,_,_=>rfl
 | _::_,_::_,_,_,e=>by rw[jo]at e;simp[iP e]
 | [],_::_,_,_,e=>by simp at e
 | _::_,[],_,_,e=>by simp at e
theorem GK {K:PySem.W.Frag}{is:List Nat}:tDG K (tgT is) (En K is.length (jp is)):=by
 intro B0 H0 N H σ ρ ρ' v d Q s h e k
 cases h with
 | @tup a vs ds ht hl =>
  have e':dE is ds ρ=some ρ':=e
  exact⟨a,vs,rfl,bd (bN.trans s.ext.nh) ht,by rw[hl.length];exact iP e',iO s hl e' λσ' s'=>k σ' H ⟨N,s'⟩⟩
 | _=>cases e
theorem pP {K:PySem.W.Frag}{n:Nat}{B H:Hp}{ρ0:Env}{Q:St->Hp->Prop}(cl:∀i,i<n->ρ0[i]? = some none):∀ {is:List Nat}{vs:List V}{ds:List D}{σ:St}{ρ ρ1:Env},(∀i∈is,i<n)->RepE K B σ ρ->IsL K B vs ds->dE is ds ρ=some ρ1->ρ.length=σ.length->ρ.length=ρ0.length ->
  (∀σ1,RepE K B σ1 ρ1->(∀B',RepE K B' σ ρ0->RepE K B' σ1 ρ0)->ρ0.length=σ1.length->Q σ1 H)->jp is vs σ H Q
 | [],_,_,_,_,_,_,rp,.nil,e,l1,l2,k=>by
  rw[pO]at e;cases e
  exact⟨rfl,k _ rp (λ_ z=>z) (by omega)⟩
 | [],_,_,_,_,_,_,_,.cons _ _,e,_,_,_=>by simp at e
 | _::_,_,_,_,_,_,_,_,.nil,e,_,_,_=>by simp at e
 | i::is,_,_,σ,ρ,_,hn,rp,.cons (v:=v) h hs,e,l1,l2,k=>by
  rw[jo]at e
  have hi:=hn i mX
  have hiσ:i<σ.length:=by
   have:=(List.getElem?_eq_some_iff.mp (cl i hi)).1
   omega
  refine⟨_,_,rfl,pP cl (λj hj=>hn j (mZ _ hj)) ⟨rp.tb,λj d b q=>?_⟩ hs e (by simpa using l1) (by simpa using l2) λσ1 r1 r2 l=>k σ1 r1 (λB' z=>r2 B' ⟨z.tb,λj d b q=>?_⟩) l⟩
  ·rcases bL q with ⟨rfl,pp⟩|⟨ne,pp⟩
   ·cases pp
    exact⟨v,by simp[hiσ],h⟩
   ·obtain⟨w,h1,h2⟩:=rp.at' j d b pp
    exact⟨w,by rw[List.getElem?_set_ne ne];exact h1,h2⟩
  ·obtain⟨w,h1,h2⟩:=z.at' j d b q
   have ne:i≠j:=λz=>by subst z;rw[cl i hi]at q;cases q
   exact⟨w,by rw[List.getElem?_set_ne ne];exact h1,h2⟩
theorem GL {K:PySem.W.Frag}{n:Nat}{is:List Nat}(hn:∀i∈is,i<n):TGE K n (tgT is) (En K is.length (jp is)):=by
 intro B H σ ρ ρ1 v d Q cl rep s h e hl k
 cases h with
 | @tup a vs ds ht hv =>
  have e':dE is ds ρ=some ρ1:=e
  exact⟨a,vs,rfl,bd s ht,by rw[hv.length];exact iP e',pP cl hn rep hv e' hl rfl k⟩
 | _=>cases e
end
section
variable {prog:Program}{w:World}{A:Around}{E:Value->Shared->Prop}{s:Shared}
theorem wa {it l:Addr}{i:Nat}{items:Array Value}{v:Value}{Q:Value->Shared->Prop}(st:s.heap.IsTupleIter it l i) (ht:s.heap.IsTuple l items) (hv:items[i]? = some v)
  (k:∀h',h'.IsTupleIter it l (i+1)->Heap.SameBut it s.heap h'->Q v { s with heap:=h' }):wpAny (model prog w) A (Builtin.SmallTypes.nextOf (.ref it)) Q E s:=by
 obtain⟨o1,g1,c1,d1⟩:=id st
 obtain⟨o2,g2,_,n2,d2⟩:=ht
 unfold Builtin.SmallTypes.nextOf
 refine wX (wpAny_callSpecial?_slot (name:=Str.ofString "__next__") st.typeIs PySem.F.slot_tuple_iterator_next (wpAny_call_entry PySem.F.slot_tuple_iterator_next st.typeIs PySem.F.entry_tuple_iterator_next ?_ (PySem.F.args_tuple_iterator_next_1 _)))
 show wpAny _ _ (field (.ref it) 0>>=_) _ _ _
 refine wX (wpAny_field g1 d1 (x:=.ref l) rfl ?_)
 show wpAny _ _ (if(Value.ref l == Value.none)=true then _ else _) _ _ _
 rw[if_neg (λz=>Bool.false_ne_true z:¬((Value.ref l == Value.none)=true))]
 show wpAny _ _ (field (.ref it) 1>>=_) _ _ _
 refine wX (wpAny_field g1 d1 (x:=.int i 0) rfl ?_)
 show wpAny _ _ (seqItems? (.ref l)>>=_) _ _ _
 refine wX (wpAny_seqItems g2 d2 ?_)
 simp only[hv,Int.toNat_natCast]
 refine wX (wpAny_setField g1 d1 (by simp) (wY ⟨v,rfl,wY (k _ ?_ (Heap.SameBut.update ..))⟩))
 exact⟨_,Heap.get?_update_self _ g1 (Obj.isFreed_of_fields (Obj.data_mapFields d1 _)),(Obj.cls_mapFields ..).trans c1,by rw[Obj.data_mapFields d1];simp[rawInt]⟩
theorem yO {it l:Addr}{i:Nat}{items:Array Value}{Q:Value->Shared->Prop}(hA:A.handled=none) (st:s.heap.IsTupleIter it l i) (ht:s.heap.IsTuple l items) (hv:items[i]? = none)
  (k:∀h' x,Heap.ExtBut it s.heap h'->(∃o,h'.get? x=some o/\o.cls=.type "StopIteration")->E (.ref x) { s with heap:=h' }):wpAny (model prog w) A (Builtin.SmallTypes.nextOf (.ref it)) Q E s:=by
 obtain⟨o1,g1,c1,d1⟩:=id st
 obtain⟨o2,g2,_,n2,d2⟩:=ht
 unfold Builtin.SmallTypes.nextOf
 refine wX (wpAny_callSpecial?_slot (name:=Str.ofString "__next__") st.typeIs PySem.F.slot_tuple_iterator_next (wpAny_call_entry PySem.F.slot_tuple_iterator_next st.typeIs PySem.F.entry_tuple_iterator_next ?_ (PySem.F.args_tuple_iterator_next_1 _)))
 show wpAny _ _ (field (.ref it) 0>>=_) _ _ _
 refine wX (wpAny_field g1 d1 (x:=.ref l) rfl ?_)
 show wpAny _ _ (if(Value.ref l == Value.none)=true then _ else _) _ _ _
 rw[if_neg (λz=>Bool.false_ne_true z:¬((Value.ref l == Value.none)=true))]
 show wpAny _ _ (field (.ref it) 1>>=_) _ _ _
 refine wX (wpAny_field g1 d1 (x:=.int i 0) rfl ?_)
 show wpAny _ _ (seqItems? (.ref l)>>=_) _ _ _
 refine wX (wpAny_seqItems g2 d2 ?_)
 simp only[hv,Int.toNat_natCast]
 refine wX (wpAny_rule (wX (wpAny_setField g1 d1 (by simp) ?_)))
 show wpAny _ _ (newExc (.type "StopIteration") []>>=_) _ _ _
 refine wX ?_
 simp only[newTuple,newExc]
 refine wX (wpAny_newObj_type ?_ (by size_fits))
 refine wX (m:=firstArgMember _ _) (wpAny_of_eq (a:=Value.none) (by first|(simp only[firstArgMember];rfl)|rfl) ?_)
 refine wpAny_newObj_type ?_ (by size_fits)
 simp only[raiseNew]
 refine wX (wpAny_handled ?_)
 first|rw[hA]|rw[show A.in1.handled=none from hA]
 exact wX (wY (wpAny_throw (k _ _ (((Heap.SameBut.update ..).extBut.push _).push _) ⟨_,Heap.get?_push_size _ rfl,rfl⟩)))
end
def KIt:Bool->Heap->Addr->Addr->Nat->Prop
 | true,h,it,a,i=>h.IsListIter it a i
 | false,h,it,a,i=>h.IsTupleIter it a i
def KSq:Bool->Heap->Addr->Array Value->Prop
 | true,h,a,items=>h.IsList a items
 | false,h,a,items=>h.IsTuple a items
def SqK (k:Bool) (K:PySem.W.Frag) (H:Hp) (a:Addr) (xs:List V):Prop:=match k with|true=>SqL K H a xs|false=>SqT K H a xs
theorem KIt.ob {k:Bool}{h:Heap}{it a:Addr}{i:Nat}(st:KIt k h it a i):∃o,h.get? it=some o/\∀v,o.data≠.cell v:=by
 cases k<;>(obtain⟨o,g,_,d⟩:=st;exact⟨o,g,λv z=>by rw[d]at z;cases z⟩)
theorem KIt.upon {k:Bool}{h h':Heap}{it a:Addr}{i:Nat}(st:KIt k h it a i) (g:∀o,h.get? it=some o->h'.get? it=some o):KIt k h' it a i:=by
 cases k<;>(obtain⟨o,e,r⟩:=st;exact⟨o,g o e,r⟩)
theorem KSq.upon {k:Bool}{h h':Heap}{a:Addr}{items:Array Value}(st:KSq k h a items) (g:∀o,h.get? a=some o->h'.get? a=some o):KSq k h' a items:=by
 cases k<;>(obtain⟨o,e,r⟩:=st;exact⟨o,g o e,r⟩)
theorem KSq.lt {k:Bool}{h:Heap}{a:Addr}{items:Array Value}(st:KSq k h a items):a<h.objs.size:=by
 cases k<;>(obtain⟨o,e,r⟩:=st;exact Heap.lt_size e)
theorem SqK.same {k:Bool}{K:PySem.W.Frag}{H H':Hp}{a:Addr}{xs:List V}(h:SqK k K H a xs) (e:aR H H'):SqK k K H' a xs:=by
 cases k
 ·exact bd e h
 ·exact e.seq h
theorem SqK.vals {X:Cx}{pins:List (Addr×Obj)}{σ:St}{H:Hp}{s:Shared}{k:Bool}{a:Addr}{xs:List V}(I:Inv X pins σ H s) (h:SqK k X.K H a xs):∃its:List Value,aX xs its/\KSq k s.heap a its.toArray/\xs.length<=sizeLine:=by
 cases k
 ·exact I.tuple h
 ·obtain⟨its,r,p,z⟩:=I.list h
  exact⟨its,r,p.isList,z⟩
theorem SqK.inj {X:Cx}{pins:List (Addr×Obj)}{σ:St}{H:Hp}{s:Shared}{k:Bool}{a:Addr}{xs ys:List V}(I:Inv X pins σ H s) (h:SqK k X.K H a xs) (h':SqK k X.K H a ys):xs=ys:=by
 cases k
 ·exact I.tuple_inj h h'
 ·exact I.list_inj h h'
section
variable {prog:Program}{w:World}{A:Around}{E:Value->Shared->Prop}{s:Shared}
theorem yP {k:Bool}{it l:Addr}{i:Nat}{items:Array Value}{v:Value}{Q:Value->Shared->Prop}(st:KIt k s.heap it l i) (ht:KSq k s.heap l items) (hv:items[i]? = some v)
  (q:∀h',KIt k h' it l (i+1)->Heap.SameBut it s.heap h'->Q v { s with heap:=h' }):wpAny (model prog w) A (Builtin.SmallTypes.nextOf (.ref it)) Q E s:=by
 cases k
 ·exact wa st ht hv q
 ·exact wpAny_nextOf_list_item st ht hv q
theorem tH {k:Bool}{it l:Addr}{i:Nat}{items:Array Value}{Q:Value->Shared->Prop}(hA:A.handled=none) (st:KIt k s.heap it l i) (ht:KSq k s.heap l items) (hv:items[i]? = none)
  (q:∀h' x,Heap.ExtBut it s.heap h'->(∃o,h'.get? x=some o/\o.cls=.type "StopIteration")->E (.ref x) { s with heap:=h' }):wpAny (model prog w) A (Builtin.SmallTypes.nextOf (.ref it)) Q E s:=by
 cases k
 ·exact yO hA st ht hv q
 ·exact wpAny_nextOf_list_end hA st ht hv q
end
def itO (k:Bool) (l:Addr):Obj:={ cls:=.type (if k=true then "list_iterator" else "tuple_iterator"),data:=.fields #[.ref l,.int 0 0] }
theorem rz {prog:Program}{w:World}{A:Around}{E:Value->Shared->Prop}{s:Shared}{k:Bool}{l:Addr}{items:Array Value}{Q:Value->Shared->Prop}(ht:KSq k s.heap l items)
  (q:Q (.ref s.heap.objs.size) { s with heap:=s.heap.push (itO k l) }):wpAny (model prog w) A (pyIter (.ref l)) Q E s:=by
 cases k
 ·exact wpAny_pyIter_tuple ht q
 ·exact wpAny_pyIter_list ht q
theorem KSq.push {k:Bool}{h:Heap}{a:Addr}{items:Array Value}(st:KSq k h a items) (o:Obj):KSq k (h.push o) a items:=st.upon λ_ e=>Heap.get?_push_of_some _ e
theorem r0 {X:Cx}{pins:List (Addr×Obj)}{σ:St}{H:Hp}{s:Shared}{h':Heap}{t':Nat}{ch:List Addr}(I:Inv X pins σ H s) (f:∀b∈ch,kT X pins H b) (k:∀b o,b∉ch->s.heap.get? b=some o->h'.get? b=some o):Inv X pins σ H { s with heap:=h',toks:=t' }:=by
 have nit:∀b u,H b=some u->b∉ch:=λb u e z=>by rw[(f b z).1]at e;cases e
 refine I.step (g':=s.gens) (d':=s.drawn) (ch:=ch) (λb hb=>?_) (λb o _ _ hc e _=>k b o hc e) (λb o _ _ hc e _=>⟨o.slots,k b o hc e⟩) (λ_ _ _ _ n=>n)
  (λb o hc e=>⟨o,k b o hc e⟩) (λ_ _ e=>e) (λ_ _ _ e=>e) (λ_ _ e=>e) (λm hm=>?_) (λb u e=>?_) I.bare
 ·obtain⟨_,f1,_,f3,f4,f5⟩:=f b hb
  exact⟨f3,f1,f4,f5⟩
 ·obtain⟨o,es,ep,ho,r⟩:=hm
  exact⟨o,es,ep,k _ o (λz=>(f _ z).2.1 rfl) ho,r⟩
 ·refine(I.hok b u e).stay (λc v hc q=>k c v ?_ q) (λ_ q=>q) (λ_ _ q=>q) λ_ _ _ q=>q
  rcases hc with z|z
  ·rw[z];exact nit b u e
  ·exact nit c _ z
theorem GM {X:Cx}{pins:List (Addr×Obj)}{σ:St}{H:Hp}{s:Shared}{h':Heap}{t':Nat}{ch:List Addr}{a:Addr}{ob:HO}(I:Inv X pins σ H s) (f:∀b∈ch,kT X pins H b) (k:∀b o,b∉ch->s.heap.get? b=some o->h'.get? b=some o) (ha:s.heap.objs.size<=a)
  (new:bH X.prog X.w (upd H a ob) h' a ob):Inv X pins σ (upd H a ob) { s with heap:=h',toks:=t' }:=by
 have hn:H a=none:=I.hok.fresh ha
 have nit:∀b u,H b=some u->b∉ch:=λb u e z=>by rw[(f b z).1]at e;cases e
 have na:∀b o,s.heap.get? b=some o->b≠a:=λb o e=>Nat.ne_of_lt (Nat.lt_of_lt_of_le (Heap.lt_size e) ha)
 refine I.step (g':=s.gens) (d':=s.drawn) (ch:=ch) (λb hb=>?_) (λb o _ _ hc e _=>k b o hc e) (λb o _ _ hc e _=>⟨o.slots,k b o hc e⟩) (λb o _ e n=>by rw[aL (na b o e)];exact n)
  (λb o hc e=>⟨o,k b o hc e⟩) (λb xs e=>by rw[aL (aS e hn)];exact e) (λb o u e=>by rw[aL (aS e hn)];exact e) (λb ps e=>by rw[aL (aS e hn)];exact e) (λm hm=>?_) (λb u e=>?_) I.bare
 ·obtain⟨_,f1,_,f3,f4,f5⟩:=f b hb
  exact⟨f3,f1,f4,f5⟩
 ·obtain⟨o,es,ep,ho,r⟩:=hm
  exact⟨o,es,ep,k _ o (λz=>(f _ z).2.1 rfl) ho,r⟩
 ·by_cases hb:b=a
  ·subst hb;rw[aJ]at e;cases e;exact new
  ·rw[aL hb]at e
   refine(I.hok b u e).stay (λc v hc q=>k c v ?_ q) (λc q=>?_) (λc xs q=>?_) λc o xs q=>?_
   ·rcases hc with z|z
    ·rw[z];exact nit b u e
    ·exact nit c _ z
   ·rw[aL (aS q hn)];exact q
   ·rw[aL (aS q hn)];exact q
   ·rw[aL (aS q hn)];exact q
section
variable {X:Cx}{a b e:Expr}{pos:Pos}{p:Pos}
def HE (xs ys:List D):List D:=List.zipWith (λx y=>.tup [x,y]) xs ys
@[simp] def HF (fa fb:FE):FA:=λρ=>(fa ρ).bind λx=>(fb ρ).bind λy=>(fg x.1).bind λxs=>(fg y.1).map λys=>HE xs ys
theorem DI {K:PySem.W.Frag}{B:Hp}{v:V}{d:D}{ds:List D}(h:Is K B v d) (e:fg d=some ds):∃k a vs,v=.ref a/\SqK k K B a vs/\IsL K B vs ds:=by
 cases h with
 | tup ht hl=>cases e;exact⟨false,_,_,rfl,ht,hl⟩
 | lst ht hl=>cases e;exact⟨true,_,_,rfl,ht,hl⟩
 | _=>cases e
end
def unown1 (ρ:Env) (i:Nat):Env:=match ρ[i]? with
 | some (some (d,true))=>ρ.set i (some (d,false))
 | _=>ρ
theorem StN.unown1 {K:PySem.W.Frag}{B0 H0 N H:Hp}{σ:St}{ρ:Env}(s:StN K B0 H0 N H σ ρ) (i:Nat):StN K B0 H0 N H σ (unown1 ρ i):=by
 unfold DL.unown1
 split
 ·rename_i d hd
  obtain⟨a,ob,h1,h2,h3,h4⟩:=s.ow i d hd
  have get:∀ {j:Nat}{e:D}{b:Bool},(ρ.set i (some (d,false)))[j]? = some (some (e,b))->(i=j/\e=d/\b=false)∨(i≠j/\ρ[j]? = some (some (e,b))):=λq=>by
   rcases bL q with ⟨z,p⟩|⟨z,p⟩
   ·cases p;exact .inl ⟨z,rfl,rfl⟩
   ·exact .inr ⟨z,p⟩
  have o:∀c,own σ (ρ.set i (some (d,false))) c->own σ ρ c/\c≠a:=λc ⟨j,e,q1,q2⟩=>by
   rcases get q1 with ⟨_,_,z⟩|⟨ne,q⟩
   ·cases z
   ·exact⟨⟨j,e,q,q2⟩,λz=>by subst z;exact ne (s.inj i j _ _ _ hd q h1 q2)⟩
  have c:aR (cut N (own σ ρ)) (cut N (own σ (ρ.set i (some (d,false))))):=dw λb u e q=>⟨e,λz=>q (o b z).1⟩
  have na:¬own σ (ρ.set i (some (d,false))) a:=λz=>(o a z).2 rfl
  refine⟨s.bh,s.tb,s.ext,by rw[List.length_set];exact s.len,λj e q=>?_,λj e q=>?_,λj k b e f q q' z1 z2=>?_⟩
  ·rcases get q with ⟨rfl,rfl,_⟩|⟨_,q⟩
   ·exact⟨_,h1,(h4.mono c).is (by rw[cm na];exact h2)⟩
   ·obtain⟨v,k1,k2⟩:=s.sh j e q
    exact⟨v,k1,k2.mono c⟩
  ·rcases get q with ⟨_,_,z⟩|⟨_,q⟩
   ·cases z
   ·obtain⟨a',o',k1,k2,k3,k4⟩:=s.ow j e q
    exact⟨a',o',k1,k2,k3,k4.mono c⟩
  ·rcases get q with ⟨_,_,z⟩|⟨_,q⟩
   ·cases z
   ·rcases get q' with ⟨_,_,z⟩|⟨_,q'⟩
    ·cases z
    ·exact s.inj j k b e f q q' z1 z2
 ·exact s
@[simp] def gUn (is:List Nat) (g:FS):FS:=λρ=>g (is.foldl unown1 ρ)
theorem StN.unowns {K:PySem.W.Frag}{B0 H0 N H:Hp}{σ:St}:∀(is:List Nat) {ρ:Env},StN K B0 H0 N H σ ρ->StN K B0 H0 N H σ (is.foldl DL.unown1 ρ)
 | [],_,s=>s
 | i::is,_,s=>StN.unowns is (s.unown1 i)
theorem Fh {K:PySem.W.Frag}{is:List Nat}{g:FS}{E:Ends}{σ:St}{H:Hp}(q:tDS K (gUn is g) E σ H):tDS K g E σ H:=by
 obtain⟨B0,H0,ρ,r,⟨N,s⟩,e,p⟩:=q
 exact⟨B0,H0,_,r,⟨N,s.unowns is⟩,e,p⟩
theorem GN {X:Cx}{st:Stmt}{g:FS}(is:List Nat) (h:JS X st g):JS X st (gUn is g):=PS.to h λ_ _ _ q=>Fh q
@[simp] def DJ:FS:=λρ=>some (.ct ρ)
@[simp] def HG:FS:=λρ=>some (.bk ρ)
@[simp] def HH:FS:=λ_=>none
section
variable {X:Cx}{pos:Pos}
theorem Cv:JS X (.Continue pos) DJ:=PS.to sG λE σ H q=>by
 obtain⟨B0,H0,ρ,r,s,e,p⟩:=q
 cases e
 exact p σ H s
end
inductive CRows (K:PySem.W.Frag) (P:Params):List DictEntry->List (Str×D)->Prop where
 | nil:CRows K P [] []
 | tup {x:Str}{t:Tok}{h:Int}{a:Addr}{its:Array Value}{n:Nat}{osl:Array (Option Value)}{ds:List D}{r:List DictEntry}{kvs:List (Str×D)}(hh:h=PyData.keyHash P x)
   (l:K.lookup a=some ⟨.type "tuple",none,.seq its n,osl⟩) (f:(decide (its.size<=1000) && gD its.toList ds)=true) (tl:CRows K P r kvs):CRows K P (⟨h,.str x t,.ref a⟩::r) ((x,.tup ds)::kvs)
 | flat {x:Str}{t:Tok}{h:Int}{u:Value}{d:D}{r:List DictEntry}{kvs:List (Str×D)}(hh:h=PyData.keyHash P x) (f:rq u d=true) (tl:CRows K P r kvs):CRows K P (⟨h,.str x t,u⟩::r) ((x,d)::kvs)
theorem CRows.lit {K:PySem.W.Frag}{P:Params}:∀ {es:List DictEntry}{kvs:List (Str×D)},CRows K P es kvs->PySem.W.KeysLit P es
 | _,_,.nil=>trivial
 | _,_,.tup hh _ _ tl=>⟨⟨_,_,rfl,hh⟩,tl.lit⟩
 | _,_,.flat hh _ tl=>⟨⟨_,_,rfl,hh⟩,tl.lit⟩
theorem CRows.find {K:PySem.W.Frag}{P:Params}(y:Str):∀ {es:List DictEntry}{kvs:List (Str×D)},CRows K P es kvs->match kvs.lookup y with
  | none=>es.find? (λe=>Value.isStrOf y e.key)=none
  | some d=>∃e v,es.find? (λe=>Value.isStrOf y e.key)=some e/\aT v e.val/\∀B,Is K B v d
 | _,_,.nil=>rfl
 | _,_,.tup (x:=x) (t:=t) (a:=a) (ds:=ds) hh l f tl=>by
  by_cases e:y=x
  ·subst e
   rw[List.lookup_cons_self]
   rw[Bool.and_eq_true]at f
   obtain⟨vs,r,i⟩:=gE (K:=K) f.2
   exact⟨_,.ref a,List.find?_cons_of_pos (by simp[Value.isStrOf]),rfl,λB=>.tup (.inr ⟨_,_,_,l,rfl,rfl,Nat.le_of_lt (Nat.lt_of_le_of_lt (of_decide_eq_true f.1) (by decide)),r⟩) (i B)⟩
  ·have ih:=tl.find y
   rw[List.lookup_cons,beq_eq_false_iff_ne.mpr e]
   have nf:Value.isStrOf y (Value.str x t)=false:=by
    rw[Bool.eq_false_iff]
    intro z
    obtain⟨t',q⟩:=Value.isStrOf_shape z
    injection q with q1
    exact e q1.symm
   simp only[List.find?_cons,nf]
   exact ih
 | _,_,.flat (x:=x) (t:=t) (u:=u) (d:=d) hh f tl=>by
  by_cases e:y=x
  ·subst e
   rw[List.lookup_cons_self]
   obtain⟨v,r1,_⟩:=iN (K:=K) (B:=λ_=>none) f
   refine⟨_,v,List.find?_cons_of_pos (by simp[Value.isStrOf]),r1,λB=>?_⟩
   obtain⟨v',r1',i'⟩:=iN (K:=K) (B:=B) f
   have:v'=v:=by have z1:=r1.abs;rw[r1'.abs]at z1;exact Option.some.inj z1
   subst this
   exact i'
  ·have ih:=tl.find y
   rw[List.lookup_cons,beq_eq_false_iff_ne.mpr e]
   have nf:Value.isStrOf y (Value.str x t)=false:=by
    rw[Bool.eq_false_iff]
    intro z
    obtain⟨t',q⟩:=Value.isStrOf_shape z
    injection q with q1
    exact e q1.symm
   simp only[List.find?_cons,nf]
   exact ih
def pQ (K:PySem.W.Frag) (P:Params) (a:Addr) (kvs:List (Str×D)):Prop:=∃es n,K.lookup a=some ⟨.type "dict",none,.dict es n,#[]⟩/\CRows K P es.toList kvs/\(a == sysModules)=false
theorem const_dict {K:PySem.W.Frag}{P:Params}{y:Str}{a:Addr}{es:Array DictEntry}{n:Nat}{kvs:List (Str×D)}(e:PySem.W.nsIn K mainGlobals y=some (some (.ref a))) (l:K.lookup a=some ⟨.type "dict",none,.dict es n,#[]⟩) (r:CRows K P es.toList kvs) (s:(a == sysModules)=false) :
  ∃a,PySem.W.nsIn K mainGlobals y=some (some (.ref a))/\pQ K P a kvs:=⟨a,e,es,n,l,r,s⟩
section
variable {X:Cx}{a b e:Expr}{pos:Pos}{x:Str}{p:Pos}
theorem pQ.map {pins:List (Addr×Obj)}{σ:St}{H:Hp}{s:Shared}{d:Addr}{kvs:List (Str×D)}(I:Inv X pins σ H s) (h:pQ X.K X.w.params d kvs):∃f:Str->Option Value,s.heap.MapOf (strKind X.prog X.w) d f/\(d == sysModules)=false /\
  ∀y,match kvs.lookup y with|none=>f y=none|some dd=>∃u v,f y=some u/\aT v u/\∀B,Is X.K B v dd:=by
 obtain⟨es,n,l,r,sm⟩:=h
 refine⟨_,PySem.W.mapOf_K I.kIn l r.lit,sm,λy=>?_⟩
 have:=r.find y
 have ff:findBy Value.isStrOf es y=(es.toList.find? λe=>Value.isStrOf y e.key).map (·.val):=by
  unfold findBy
  obtain⟨es⟩:=es
  rw[List.find?_toArray]
 cases hl:kvs.lookup y with
 | none=>rw[hl]at this;dsimp only at this ⊢;rw[ff,this];rfl
 | some dd =>
  rw[hl]at this
  obtain⟨en,v,e1,e2,e3⟩:=this
  exact⟨en.val,v,by rw[ff,e1];rfl,e2,e3⟩
@[simp] def Ib (kvs:List (Str×D)):D->Option (D×Bool)
 | .str y=>(kvs.lookup y).map λd=>(d,false)
 | _=>none
@[simp] def cIn (kvs:List (Str×D)):D->Option (D×Bool)
 | .str y=>some (.bl (kvs.lookup y).isSome,false)
 | _=>none
@[simp] def HI (kvs:List (Str×D)):D->Option (D×Bool)
 | .str y=>some (.bl (!(kvs.lookup y).isSome),false)
 | _=>none
@[simp] def fH:List D->Option (D×Bool)
 | [.lst ds]=>some (.lst ds,true)
 | [.tup ds]=>some (.lst ds,true)
 | _=>none
@[simp] def eC:List D->Option (D×Bool)
 | [.lst ds]=>some (.tup ds,false)
 | [.tup ds]=>some (.tup ds,false)
 | _=>none
theorem Av:bI X (.type "list") (rDA X.K fH):=by
 refine bI.to qX λxs H Q q=>?_
 obtain⟨B,ds,d,bb,sB,i,ee,q⟩:=q
 cases i with
 | nil=>simp[fH]at ee
 | cons i1 i2 =>
  cases i2 with
  | cons _ _=>cases i1<;>simp[fH]at ee
  | nil =>
   cases i1<;>try (simp[fH]at ee;done)
   ·rename_i l0 vs es h hl
    simp only[fH]at ee
    cases ee
    refine⟨_,_,rfl,.inr (bd sB h),λl hp=>?_⟩
    have xt:=Ext.laid (o:=.lst vs) sB hp
    exact q _ _ _ xt (.lst (SqL.of aJ) (hl.mono xt.bn)) λ_=>⟨_,_,_,rfl,rfl,hp,aJ,hl.mono xt.bn⟩
   ·rename_i l0 vs es h hl
    simp only[fH]at ee
    cases ee
    refine⟨_,_,rfl,.inl (sB.seq h),λl hp=>?_⟩
    have xt:=Ext.laid (o:=.lst vs) sB hp
    exact q _ _ _ xt (.lst (SqL.of aJ) (hl.mono xt.bn)) λ_=>⟨_,_,_,rfl,rfl,hp,aJ,hl.mono xt.bn⟩
theorem xC:bI X (.type "tuple") (rDA X.K eC):=by
 refine bI.to pb λxs H Q q=>?_
 obtain⟨B,ds,d,bb,sB,i,ee,q⟩:=q
 cases i with
 | nil=>simp[eC]at ee
 | cons i1 i2 =>
  cases i2 with
  | cons _ _=>cases i1<;>simp[eC]at ee
  | nil =>
   cases i1<;>try (simp[eC]at ee;done)
   ·rename_i l0 vs es h hl
    simp only[eC]at ee
    cases ee
    exact⟨_,_,rfl,.inr ⟨bd sB h,q.one sB (.tup h hl)⟩⟩
   ·rename_i l0 vs es h hl
    simp only[eC]at ee
    cases ee
    refine⟨_,_,rfl,.inl ⟨sB.seq h,λl hp=>?_⟩⟩
    have xt:=Ext.laid (o:=.tup vs) sB hp
    exact q _ _ _ xt (.tup (SqT.of aJ) (hl.mono xt.bn)) (by simp)
end
section
variable {X:Cx}{a b e:Expr}{pos:Pos}{x:Str}{p:Pos}
def Aw (K:PySem.W.Frag) (n:Nat) (t:TGs):TG:=λv σ H Q=>∃k a xs,v=.ref a/\SqK k K H a xs/\xs.length=n/\t xs σ H Q
theorem Fi {es:List Expr}{kt:Nat}{t:TGs}{n:Nat}(hc:X.calm=true) (h:PGs X es t) (hn:(assignEach es X.env).length=n:=by rfl) (hst:(assignEach es X.env).findIdx? (·.1)=none:=by rfl):PG X (.Tuple es kt pos) (Aw X.K n t):=by
 intro pins s σ H v u Q I r hw
 obtain⟨k,l,xs,rfl,hq,hl,hw⟩:=hw
 cases r
 cases k with
 | false =>
  obtain⟨its,rv,ht,hz⟩:=I.tuple hq
  refine assign_Tuple_tuple (I.ok.hd hc) ht (by simp[hn,←hl,rv.length]) hst λh' hx=>?_
  have I1:Inv X pins σ H { s with heap:=h' }:=I.kept (t':=s.toks) λb o e=>hx b o (Nat.ne_of_lt (Heap.lt_size e)) e
  exact h pins _ σ H xs _ Q I1 (by simpa using rv) hw
 | true =>
  obtain⟨its,rv,ht,hz⟩:=I.list hq
  rw[assign_Tuple]
  refine wX (wpAny_standAt ?_)
  unfold unpack
  have hsz:(assignEach es X.env).length=its.toArray.size:=by simp[hn,←hl,rv.length]
  rw[hsz,hst]
  refine wX (wpAny_holding (PySem.W.kun_itemsOf (I.ok.hd hc) ht.isList λh' hx=>?_))
  have I1:Inv X pins σ H { s with heap:=h' }:=I.kept (t':=s.toks) λb o e=>hx b o (Nat.ne_of_lt (Heap.lt_size e)) e
  exact h pins _ σ H xs _ Q I1 (by simpa using rv) hw
@[simp] def tI (is:List Nat) (f:FE):FS:=λρ=>(f ρ).bind λx=>(fg x.1).bind λds=>(dE is ds (if bx ds=true then ρ else unown ρ)).map .nx
theorem Ax {K:PySem.W.Frag}{is:List Nat}{f:FE}{E:Ends}{σ:St}{H:Hp}(q:tDS K (tI is f) E σ H):yz (tD K f) (Aw K is.length (jp is)) E σ H:=by
 obtain⟨B0,H0,ρ,r,⟨N,s⟩,e,p⟩:=q
 obtain⟨x,ex,e⟩:=oX e
 obtain⟨ds,es,e⟩:=oX e
 obtain⟨ρ',eρ,e⟩:=oY e
 subst e
 refine⟨N,ρ,x.1,x.2,s.ext.nh,s.rep,ex,λv H1 N1 x1 i1 _=>?_⟩
 obtain⟨k,a,vs,rfl,sq,il⟩:=DI i1 es
 have s1:=s.grow x1
 refine⟨k,a,vs,rfl,sq.same x1.nh,by rw[il.length];exact iP eρ, ?_⟩
 by_cases hn:bx ds=true
 ·rw[if_pos hn]at eρ
  exact iO s1 (s1.flats il hn) eρ λσ' s'=>p σ' H1 ⟨N1,s'⟩
 ·rw[if_neg hn]at eρ
  exact iO s1.unown (il.mono λa o e=>by rw[cm kX];exact e) eρ λσ' s'=>p σ' H1 ⟨N1,s'⟩
theorem Cw {es:List Expr}{kt:Nat}{is:List Nat}{f:FE}{p2:Pos}(he:JE X e f) (hg:PG X (.Tuple es kt p2) (Aw X.K is.length (jp is))) (hs:swapsWithSole [.Tuple es kt p2] e pos.line X.env=pure false:=by rfl) (hw:swappedStores [.Tuple es kt p2] e X.env=pure none:=by rfl)
  (h1:(assignEach [.Tuple es kt p2] X.env).map (·.2)=[assign (.Tuple es kt p2) X.env]:=by rfl):JS X (.Assign [.Tuple es kt p2] e pos) (tI is f):=PS.to (z8 he hg hs hw h1) λ_ _ _ q=>Ax q
@[simp] def yQ (i:Nat) (fk fv:FE):FS:=λρ=>match ρ[i]? with
 | some (some (.lst ds,true))=>(fv ρ).bind λv=>(fk ρ).bind λk=>match k.1 with
  | .int j=>(ixN ds.length j).bind λn=>if bi v.1=true then some (.nx (ρ.set i (some (.lst (ds.set n v.1),true))))else none
  | _=>none
 | _=>none
theorem Ay {i:Nat}{y:Str}{py pt:Pos}{k:Expr}{fk fv:FE}(hv:JE X e fv) (hk:JE X k fk) (hN:X.N[i]? = some y:=by rfl) (hvis:Vis X.env.scope y:=by first|exact Or.inl rfl|exact Or.inr (Or.inl rfl)|exact Or.inr (Or.inr rfl)) (hd:(y == ("__debug__" : Str))=false:=by decide)
  (hcd:(y == ("__classdict__" : Str))=false:=by decide)
  (ha:∀v,assign (.Subscript (.Name y py) k pt) X.env v=(do
   let ov ←holding [v] (eval (.Name y py) X.env)
   let iv ←holding [v,ov] (eval k X.env)
   standAt pt
   holding [v,ov,iv] (setItem ov iv v)
   release [v,ov,iv] []):=by intro _;rfl)
  (hs:swapsWithSole [.Subscript (.Name y py) k pt] e pos.line X.env=pure false:=by rfl) (hw:swappedStores [.Subscript (.Name y py) k pt] e X.env=pure none:=by rfl)
  (h1:(assignEach [.Subscript (.Name y py) k pt] X.env).map (·.2)=[assign (.Subscript (.Name y py) k pt) X.env]:=by rfl):JS X (.Assign [.Subscript (.Name y py) k pt] e pos) (yQ i fk fv):=by
 refine PS.to (z8 hv (Eo (mF hN hvis hd hcd) hk zI ha) hs hw h1) λE σ H q=>?_
 obtain⟨B0,H0,ρ,r,⟨N,s⟩,ee,p⟩:=q
 unfold yQ at ee
 split at ee
 ·rename_i ds ei
  obtain⟨v,ev,ee⟩:=oX ee
  obtain⟨kk,ek,ee⟩:=oX ee
  obtain⟨kd,kb⟩:=kk
  cases kd with
  | int j =>
   dsimp only at ee
   obtain⟨n,en,ee⟩:=oX ee
   split at ee
   ·rename_i hn
    cases ee
    refine⟨N,ρ,v.1,v.2,s.ext.nh,s.rep,ev,λv1 H1 N1 x1 i1 _=>?_⟩
    have s1:=s.grow x1
    obtain⟨l,vs,ds',z,h1,h2,h3,h4⟩:=s1.owL i _ ei
    cases z
    refine⟨_,h1,N1,ρ,_,_,s1.ext.nh,s1.rep,ek,λkv H2 N2 x2 i2 _=>?_⟩
    cases i2
    have s2:=s1.grow x2
    obtain⟨l',vs',ds',z,k1,k2,k3,k4⟩:=s2.owL i _ ei
    cases z
    rw[h1]at k1;cases k1
    exact⟨l,vs',j,n,rfl,rfl,s2.ext.nh _ _ k2,by rw[k4.length];exact en,p σ _ ⟨_,s2.write ei h1 (IsL.set (s2.flat (i1.mono x2.bn) hn) n k4)⟩⟩
   ·cases ee
  | _=>cases ee
 ·cases ee
@[simp] def Ic (i:Nat) (g:List D->Option (List D)):FS:=λρ=>match ρ[i]? with
 | some (some (.lst ds,true))=>(g ds).map λes=>.nx (ρ.set i (some (.lst es,true)))
 | _=>none
@[simp] def Id (i:Nat) (f:FE):FS:=λρ=>match ρ[i]? with
 | some (some (.lst ds,true))=>(f ρ).bind λx=>match x.1 with
  | .lst es=>if x.2=true/\bx es=true/\ds.length+es.length<=sizeLine then some (.nx (ρ.set i (some (.lst (ds++es),true))))else none
  | _=>none
 | _=>none
@[simp] def pq:List D->Option (D×Bool)
 | [.int i]=>some (.int i,false)
 | [.bl b]=>some (.int (if b then 1 else 0),false)
 | _=>none
theorem DK:bI X (.type "int") (rDA X.K pq):=by
 refine bI.to yA λxs H Q q=>?_
 obtain⟨B,ds,d,bb,sB,i,ee,q⟩:=q
 cases i with
 | nil=>simp[pq]at ee
 | cons i1 i2 =>
  cases i2 with
  | cons _ _=>cases i1<;>simp[pq]at ee
  | nil =>
   cases i1<;>try (simp[pq]at ee;done)
   ·simp only[pq]at ee
    cases ee
    exact .inr ⟨_,rfl,q.one sB (.int _)⟩
   ·simp only[pq]at ee
    cases ee
    exact .inl ⟨_,rfl,q.one sB (.int _)⟩
end
open AutoSeq1 (wpAny_loadPart')
set_option maxRecDepth 100000
def sqT (k:Bool):String:=if k=true then "list" else "tuple"
theorem tJ (k:Bool) (l:Addr) (items:Array Value) (n:Nat) (dct:Option Addr) (sl:Array (Option Value)) :
  Meets (Builtin.«enumerate.__new__» ⟨[.type "enumerate",.ref l],[]⟩) (λ_ R s=>s.heap.get? l=some { cls:=.type (sqT k),dict:=dct,data:=.seq items n,slots:=sl } /\
   R (.ok (.ret (.ref (s.heap.push (itO k l)).objs.size))) { s with heap:=(s.heap.push (itO k l)).push { cls:=.type "enumerate",data:=.fields #[.none,.bool false,.ref s.heap.objs.size,rawInt 0,.none,.none] } }) :=
 .of_wp λprog w A R s hs=>by
  obtain⟨hp,g,d,tk,os⟩:=s;obtain⟨hl,hs⟩:=hs
  have hsub:=sub_enumerate
  have hL:KSq k (Shared.heap ⟨hp,g,d,tk,os⟩) l items:=by cases k<;>exact⟨_,hl,rfl,n,rfl⟩
  wp_walk using wpAny_loadPart' hl
  refine wpAny_stack_any λst=>wY ?_
  split
  ·rename_i c _ _ _ _ _
   cases (c == Value.type "enumerate")
   ·wp_walk using wpAny_loadPart' hl,rz hL
    exact⟨_,rfl,hs⟩
   ·wp_walk using wpAny_loadPart' hl,rz hL
    exact⟨_,rfl,hs⟩
  ·wp_walk using wpAny_loadPart' hl,rz hL
   exact⟨_,rfl,hs⟩
section
variable {prog:Program}{w:World}{A:Around}{E:Value->Shared->Prop}{s:Shared}
theorem Az {k:Bool}{l:Addr}{items:Array Value}{Q:Value->Shared->Prop}(hL:KSq k s.heap l items)
  (q:∀h',IsEnum h' (s.heap.objs.size+1) s.heap.objs.size 0 .none->KIt k h' s.heap.objs.size l 0->(∀b o,s.heap.get? b=some o->h'.get? b=some o)->Q (.ref (s.heap.objs.size+1)) { s with heap:=h' }) :
  wpAny (model prog w) A (call (.type "enumerate") [.ref l]) Q E s:=by
 have hh:∃(dct:Option Addr) (sl:Array (Option Value)) (n:Nat),s.heap.get? l=some { cls:=.type (sqT k),dict:=dct,data:=.seq items n,slots:=sl }:=by
  cases k<;>(obtain⟨⟨c,dct,dt,sl⟩,hl,hc,n,hd⟩:=hL;dsimp only at hc hd;subst hc;subst hd;exact⟨dct,sl,n,hl⟩)
 obtain⟨dct,sl,n,hl⟩:=hh
 refine callType_new PySem.F.called_enumerate (by decide) (PySem.F.typeCall_enumerate_1 _) (PySem.F.newCall_enumerate_1 _) (λobj=>PySem.F.args_object_init_2 obj _) PySem.F.entry_enumerate_new (tJ k l items n dct sl) ⟨hl, ?_⟩
 have n1:(s.heap.push (itO k l)).objs.size=s.heap.objs.size+1:=Heap.size_push ..
 have g2:((s.heap.push (itO k l)).push { cls:=.type "enumerate",data:=.fields #[.none,.bool false,.ref s.heap.objs.size,rawInt 0,.none,.none] }).get? (s.heap.push (itO k l)).objs.size=some _:=Heap.get?_push_size _ rfl
 have g1:((s.heap.push (itO k l)).push { cls:=.type "enumerate",data:=.fields #[.none,.bool false,.ref s.heap.objs.size,rawInt 0,.none,.none] }).get? s.heap.objs.size=some _:=Heap.get?_push_of_some _ (Heap.get?_push_size _ (by cases k<;>rfl))
 rw[n1]at g2
 show _/\_
 rw[n1]
 refine⟨⟨_,g2,rfl⟩,q _ g2 ?_ λb o e=>Heap.get?_push_of_some _ (Heap.get?_push_of_some _ e)⟩
 cases k<;>exact⟨_,g1,rfl,rfl⟩
theorem Fj (hA:A.handled=none) {k:Bool}(it l:Addr) (hne:l≠it) (items:Array Value):Draws prog w A it [it,l] items.size (λi v=>items[i]? = some v) (λi h=>KIt k h it l i/\KSq k h l items) where
 live:=λi h st=>let ⟨o,e,_⟩:=st.1.ob;⟨o,e⟩
 frame:=λi h h' st kk=>⟨st.1.upon λo e=>kk it (by simp) o e,st.2.upon λo e=>kk l (by simp) o e⟩
 item:=λi s Q E hi st q=>yP st.1 st.2 (v:=items[i]) (by simp[hi]) λh' st' sb=>q _ h' s.toks (by simp[hi]) ⟨st',st.2.upon λo e=>sb.extBut _ _ hne e⟩ sb
 done:=λs Q E st q=>tH hA st.1 st.2 (by simp) q
theorem Fk (hA:A.handled=none) {k:Bool}(it l:Addr) (items:Array Value) (n:Nat) (hn:items[n]? = none):Draws prog w A it [it,l] n (λ_ _=>True) (λi h=>(KIt k h it l i/\KSq k h l items)/\i=n) where
 live:=λi h st=>let ⟨o,e,_⟩:=st.1.1.ob;⟨o,e⟩
 frame:=λi h h' st kk=>⟨⟨st.1.1.upon λo e=>kk it (by simp) o e,st.1.2.upon λo e=>kk l (by simp) o e⟩,st.2⟩
 item:=λi s Q E hi st q=>absurd st.2 (Nat.ne_of_lt hi)
 done:=λs Q E st q=>tH hA st.1.1 st.1.2 hn q
end
def Ite (K:PySem.W.Frag) (k:Bool) (a:Addr):It :=
  ⟨λi H=>∃xs x,SqK k K H a xs/\xs[i]? = some x,
   λi H v H'=>∃T x,v=.ref T/\H T=none/\H'=upd H T (.tup [.int i,x])/\∀xs,SqK k K H a xs->xs[i]? = some x,
   λi H=>∃xs,SqK k K H a xs/\xs.length<=i⟩
theorem yR {P:Program}{w:World}{K:PySem.W.Frag}{es:List Expr}{kt:Nat}{pt:Pos}{k:Bool}{a e it:Addr}(hei:e≠it) (hae:a≠e) (hai:a≠it) :
  Turn P w K (.Tuple es kt pt) (Ite K k a) [e,it] e (λi h=>(∃old,IsEnum h e it i old)/\KIt k h it a i) where
 mem:=by simp
 obj:=λi h st b hb=>by
  obtain⟨⟨old,he⟩,t1⟩:=st
  simp at hb
  rcases hb with rfl|rfl
  ·exact⟨_,he,λv z=>by cases z⟩
  ·exact t1.ob
 keep:=λi h h' st kk=>by
  obtain⟨⟨old,he⟩,t1⟩:=st
  exact⟨⟨old,kk e (by simp) _ he⟩,t1.upon λo q=>kk it (by simp) o q⟩
 item:=by
  intro X hP hw hK hc i pins s σ H E I hf st hg
  subst hP hw hK
  obtain⟨⟨old,he⟩,t1⟩:=st
  obtain⟨xs,x,q1,hx⟩:=hg
  obtain⟨its,r1,p1,z1⟩:=q1.vals I
  obtain⟨u,hu,ru⟩:=r1.get hx
  have fresh:H s.heap.objs.size=none:=I.hok.fresh (Nat.le_refl _)
  have ilt:i<its.toArray.size:=by rw[List.size_toArray];exact(List.getElem?_eq_some_iff.mp hu).1
  have hel:e≠s.heap.objs.size:=Nat.ne_of_lt (Heap.lt_size he)
  have hil:it≠s.heap.objs.size:=by obtain⟨o,q,_⟩:=t1.ob;exact Nat.ne_of_lt (Heap.lt_size q)
  refine wpAny_pyNext_enum_itemD (Fj (A:=X.A.in1) (I.ok.hd hc) it a hai its.toArray) he ⟨t1,p1⟩ ilt hei (by simp[hei,hae.symm]) λv h' tk hv ho st' hT hsz hk=>?_
  have ev:v=u:=by
   have hv':its[i]? = some v:=by simpa using hv
   rw[hu]at hv';exact(Option.some.inj hv').symm
  subst ev
  refine⟨_,rfl,wpAny_letOwnedTupleGo_enum (s:={ s with heap:=h',toks:=tk+1 }) ho λh2 he2 s2=>?_⟩
  have s2':Heap.SameBut e h' h2:=s2
  have kk:∀b o,b∉[e,it]->s.heap.get? b=some o->h2.get? b=some o:=λb o hb q=>s2'.extBut _ _ (λz=>hb (by simp[z])) (hk b o (λz=>hb (by simp[z])) (λz=>hb (by simp[z])) q)
  have new:bH X.prog X.w (upd H s.heap.objs.size (.tup [.int i,x])) h2 s.heap.objs.size (.tup [.int i,x]):=⟨by show 2<=sizeLine;decide,[.int i tk,v],.cons ⟨tk,rfl⟩ (.cons ru .nil),⟨_,s2'.extBut _ _ hel.symm hT,rfl,_,rfl⟩⟩
  refine⟨.ref s.heap.objs.size,upd H s.heap.objs.size (.tup [.int i,x]),GM (s:=s) (t':=tk+1) I hf kk (Nat.le_refl _) new,rfl,⟨_,x,rfl,fresh,rfl,λzs hq=>by rw[SqK.inj I hq q1];exact hx⟩, ?_,λb hb=>?_⟩
  ·exact⟨⟨_,by have:=he2;rw[show((i:Int)+1)=((i+1:Nat):Int) by omega]at this;exact this⟩,st'.1.upon λo q=>s2'.extBut _ _ hei.symm q⟩
  ·have hne:b≠s.heap.objs.size:=by
    simp at hb
    rcases hb with rfl|rfl
    ·exact hel
    ·exact hil
   rw[aL hne];exact(hf b hb).1
 done:=by
  intro X hP hw hK hc i pins s σ H E I hf st hg
  subst hP hw hK
  obtain⟨⟨old,he⟩,t1⟩:=st
  obtain⟨xs,q1,hl⟩:=hg
  obtain⟨its,r1,p1,z1⟩:=q1.vals I
  have n1:=r1.length
  refine wpAny_pyNext_enum_endD (Fk (A:=X.A.in1) (I.ok.hd hc) it a its.toArray i (by simp;omega)) he ⟨⟨t1,p1⟩,rfl⟩ λh' hk=>⟨rfl, ?_⟩
  exact r0 (t':=s.toks) I hf λb o hb q=>hk b o (λz=>hb (by simp[z])) q
 self:=λ_ _ _ _ _ st h=>let ⟨⟨_,he⟩,_⟩:=st;wpAny_pyIter_enum he h
section
variable {X:Cx}{a b e:Expr}{pos:Pos}{p:Pos}
theorem tK:bootBuiltins "enumerate" = some (.type "enumerate"):=by decide +kernel
def pR (ds:List D):List D:=ds.mapIdx λi d=>.tup [.int i,d]
@[simp] def A0 (fa:FE):FA:=λρ=>(fa ρ).bind λx=>(fg x.1).map pR
theorem Cy {K:PySem.W.Frag}{N:Hp}{k:Bool}{l:Addr}{vs:List V}{ds:List D}(h1:SqK k K N l vs) (i1:IsL K N vs ds):pe K (Ite K k l) N (pR ds):=by
 intro i H' sm
 have n1:=i1.length
 refine⟨λd ed=>?_,λhl=>⟨vs,h1.same sm, ?_⟩⟩
 ·unfold pR at ed
  rw[List.getElem?_mapIdx]at ed
  obtain⟨x,e1,rfl⟩:=oY ed
  obtain⟨v,ev,iv⟩:=i1.get e1
  refine⟨⟨vs,v,h1.same sm,ev⟩,λr H2 hy=>?_⟩
  obtain⟨T,v',rfl,hT,rfl,f1⟩:=hy
  have e3:=f1 vs (h1.same sm)
  rw[ev]at e3;cases e3
  have xt:=Ext.laid (o:=.tup [.int i,v]) sm hT
  exact⟨_,xt,.tup (SqT.of aJ) (.cons (.int _) (.cons (iv.mono xt.bn) .nil))⟩
 ·unfold pR at hl
  rw[List.length_mapIdx]at hl
  omega
theorem Cz {es:List Expr}{kt:Nat}{pt:Pos}{fa:FE}(hm:X.mg "enumerate" = none) (ha:JE X a fa) (hg:Gl X "enumerate":=by rfl) (hs:starEach [a] X.env=[(false,eval a X.env)]:=by rfl) :
  JI X (.Tuple es kt pt) (.Call (.Name "enumerate" p) [a] [] pos) (A0 fa):=by
 intro pins s σ H R I q
 refine Call_ (jk I hg hm tK (PyProof.Rows.callWith_type1 (thn (aa ha ag hs pos pins s σ H (λvs H1=>∃(k:Bool) (l:Addr) (us:List V),vs=[.ref l]/\SqK k X.K H1 l us/\R (Ite X.K k l) H1) I ?_) λus s1 ⟨vs,H1,I1,r1,q1⟩=>?_) hs rfl))
 ·obtain⟨B,ρ,ds,sB,r,ee,q⟩:=q
  obtain⟨x1,ex,ee⟩:=oX ee
  obtain⟨xs,exs,ee⟩:=oY ee
  subst ee
  refine⟨B,ρ,[x1.1],sB,r,by simp[ae,aj,ex],λvs H1 N1 xt i1=>?_⟩
  cases i1 with
  | cons j1 j2 =>
   cases j2
   obtain⟨k1,l1,us,rfl,s1,m1⟩:=DI j1 exs
   exact⟨k1,l1,us,rfl,s1.same xt.nh,q _ H1 N1 xt (Cy s1 m1)⟩
 ·obtain⟨k,l,ws,rfl,h1,q⟩:=q1
  obtain⟨u1,rfl,ru1⟩:=r1.one
  cases ru1
  obtain⟨its,v1,p1,z1⟩:=h1.vals I1
  have lt1:=p1.lt
  refine Az p1 λh' c1 c2 ck=>?_
  refine wpAny_pyIter_enum c1 ⟨s1.heap.objs.size+1,[s1.heap.objs.size+1,s1.heap.objs.size],_,_,H1,rfl,I1.kept (t':=s1.toks) ck,
   yR (Nat.succ_ne_self _) (Nat.ne_of_lt (Nat.lt_succ_of_lt lt1)) (Nat.ne_of_lt lt1),⟨⟨_,c1⟩,c2⟩,λb hb=>?_,q⟩
  have hle:s1.heap.objs.size<=b:=by
   simp at hb
   rcases hb with rfl|rfl
   ·exact Nat.le_succ _
   ·exact Nat.le_refl _
  exact I1.fpOk hle (I1.hok.fresh hle)
end
end DL
namespace DL
open PySem PySem.Spec PyProof.Rows
theorem yS (t:SetTable) (es:Array (Int×Value)) (n:Nat):(relayAll t es n).2.1.led=t.led:=by
 unfold relayAll
 split
 ·rename_i t' order h
  unfold SetTable.relaid SetTable.laid at h
  obtain⟨ow,_,h⟩:=oX h
  cases h
  dsimp only
  split<;>rfl
 ·rfl
theorem tL (t:SetTable) (es:Array (Int×Value)) (n:Nat) (hp:t.plain=false):(relayAll t es n).2.1.plain=false:=by
 unfold relayAll
 split
 ·rename_i t' order h
  unfold SetTable.relaid SetTable.laid at h
  obtain⟨ow,_,h⟩:=oX h
  cases h
  dsimp only
  split
  ·exact hp
  ·rfl
 ·rfl
theorem C0 (t:SetTable) (es:Array (Int×Value)) (h:Int) (x:Value):(layNew t es h x).2.1.led=t.led:=by
 unfold layNew
 split
 ·dsimp only[SetTable.put,SetTable.orStandIn]
  repeat' (first|rfl|split)
 ·rfl
structure TabT (w:World) (es:Array (Int×Value)) (t:SetTable):Prop where
 fits:t.fits es.size=true
 led:t.led = !w.params.followText "set-order"
 plain:es.size≠0->t.plain=false
def fT (prog:Program) (w:World) (h:Heap) (a:Addr) (ts:List Str):Prop :=
 ∃o es ep t,h.get? a=some o/\o.ExactSet/\o.data=.set es ep t/\ElemsOf (PySem.strKind prog w) es.toList/\(es.toList.map (λe=>strOf e.2)).Perm ts/\ts.Nodup/\ts.length<scanBound/\TabT w es t
def hW (ts:List Str) (x:Str):List Str:=if x∈ts then ts else ts++[x]
theorem A1 (ts:List Str) (x:Str):(hW ts x).length<=ts.length+1:=by unfold hW;split<;>simp
theorem tM {k:Str}{v:Value}(h:Value.isStrOf k v=true):strOf v=k:=by obtain⟨t,rfl⟩:=Value.isStrOf_shape h;rfl
section
variable {prog:Program}{w:World}{A:Around}{E:Value->Shared->Prop}{s:Shared}
theorem pT {es:Array (Int×Value)}{ts:List Str}(hel:ElemsOf (PySem.strKind prog w) es.toList) (hp:(es.toList.map (λe=>strOf e.2)).Perm ts) (k:Str):k∈ts ↔ ∃e∈es.toList,(PySem.strKind prog w).is k e.2=true:=by
 rw[←hp.mem_iff,List.mem_map]
 constructor
 ·rintro⟨e,he,rfl⟩
  obtain⟨⟨k',hk,_⟩,_⟩:=hel e he
  have hk':Value.isStrOf k' e.2=true:=hk
  refine⟨e,he, ?_⟩
  show Value.isStrOf (strOf e.2) e.2=true
  rw[tM hk'];exact hk'
 ·rintro⟨e,he,hk⟩
  exact⟨e,he,tM hk⟩
theorem pU {h:Heap}{a:Addr}{o:Obj}{es:Array (Int×Value)}{ep:Nat}{t:SetTable}(ho:h.get? a=some o) (hd:o.data=.set es ep t) (es':Array (Int×Value)) (t':SetTable) :
  (h.update a (Obj.putSet es' t')).get? a=some { o with data:=.set es' (ep+1) t' }:=by
 have:=Heap.get?_update_self (Obj.putSet es' t') ho (by rw[putSet_of es' t' hd];rfl)
 rw[putSet_of es' t' hd]at this;exact this
theorem tN {g:Bool->Sem Unit}(hg:∀(b:Bool) (s₁:Shared) (Q':Unit->Shared->Prop),Q' () s₁->wpAny (model prog w) A (g b) Q' E s₁)
  {a:Addr}{o:Obj}{es:Array (Int×Value)}{ep:Nat}{t:SetTable}(ho:s.heap.get? a=some o) (hex:o.ExactSet) (hd:o.data=.set es ep t)
  {es1:Array (Int×Value)}{t2:SetTable}{ts:List Str}(hel1:ElemsOf (PySem.strKind prog w) es1.toList) (hp1:(es1.toList.map (λe=>strOf e.2)).Perm ts) (nd:ts.Nodup)
  (hb1:ts.length<scanBound) (hf2:t2.fits es1.size=true) (hl2:t2.led = !w.params.followText "set-order") (hpl:t2.plain=false) {wasDummy:Bool}{R:Option Bool->Shared->Prop}
  (h:∀h',Heap.SameBut a s.heap h'->fT prog w h' a ts->R (some true) { s with heap:=h' }) :
  wpAny (model prog w) A (do
    storeSet a es1 t2
    if(!wasDummy && t2.tooFull)=true then do
      g (relayAll t2 es1 (SetTable.grown es1.size)).2.2
      storeSet a (relayAll t2 es1 (SetTable.grown es1.size)).1 (relayAll t2 es1 (SetTable.grown es1.size)).2.1
      pure (some true)
     else pure (some true)) R E s:=by
 have sz1:es1.size=ts.length:=by rw[←hp1.length_eq,List.length_map,Array.length_toList]
 refine wX (wpAny_storeSet_of ho hd ?_ (fits_of_scanBound (by rw[sz1];exact hb1)))
 have ho1:=pU ho hd es1 t2
 have hsb1:=Heap.SameBut.update s.heap a (Obj.putSet es1 t2)
 split
 ·have hp:=relayAll_perm t2 es1 (SetTable.grown es1.size)
  have hfr:=relayAll_fits t2 es1 (SetTable.grown es1.size)
  have hle:=yS t2 es1 (SetTable.grown es1.size)
  have hpa:=tL t2 es1 (SetTable.grown es1.size) hpl
  generalize hRl:relayAll t2 es1 (SetTable.grown es1.size)=Rl at hp hfr hle hpa ⊢
  obtain⟨es2,t3,gave2⟩:=Rl
  dsimp only at hp hfr hle hpa ⊢
  have hel2:ElemsOf (PySem.strKind prog w) es2.toList:=hel1.perm hp
  have hsz:es2.size=es1.size:=by rw[←Array.length_toList,hp.length_eq,Array.length_toList]
  refine wX (hg _ _ _ ?_)
  refine wX (wpAny_storeSet_of ho1 rfl ?_ (fits_of_scanBound (by rw[hsz,sz1];exact hb1)))
  have ho2:=pU ho1 rfl es2 t3
  exact wY (h _ (hsb1.trans (Heap.SameBut.update _ a _)) ⟨_,es2,_,t3,ho2,hex,rfl,hel2,(hp.map _).trans hp1,nd,hb1,hfr,hle.trans hl2,λ_=>hpa⟩)
 ·exact wY (h _ hsb1 ⟨_,es1,_,t2,ho1,hex,rfl,hel1,hp1,nd,hb1,hf2,hl2,λ_=>hpl⟩)
theorem wb {a:Addr}{ts:List Str}{k:Str}{tk:Tok}{Q:Bool->Shared->Prop}(hS:fT prog w s.heap a ts) (hroom:ts.length+1<scanBound)
  (h:∀b h',Heap.SameBut a s.heap h'->fT prog w h' a (hW ts k)->Q b { s with heap:=h' }) :
  wpAny (model prog w) A (setAddHashed a (.str k tk) ((PySem.strKind prog w).hash k)) Q E s:=by
 have hS0:=hS
 obtain⟨o,es,ep,t,ho,hex,hd,hel,hperm0,nd,hb,hf,hled,hpl⟩:=hS
 have hkey:(PySem.strKind prog w).is k (.str k tk)=true:=strKind_is prog w k tk
 have sz:es.size=ts.length:=by rw[←hperm0.length_eq,List.length_map,Array.length_toList]
 unfold setAddHashed setAddHashedIn
 refine wpAny_holding (wX (wpAny_setState_of ho hd hf ?_))
 dsimp only
 rw[byScan_of (x:=.str k tk) rfl (by rw[sz];exact hb) hel]
 simp only[↓reduceIte]
 unfold setAddByScan
 refine wX ?_
 refine wX (wpAny_rule ?_)
 refine wX (wpAny_setScan_of hkey ho hd hf hel ?_)
 cases hr:List.findIdx? (λe=>(PySem.strKind prog w).is k e.2) es.toList with
 | some j =>
  dsimp only
  obtain⟨hj,hpj,_⟩:=List.findIdx?_eq_some_iff_getElem.mp hr
  have hm:k∈ts:=(pT hel hperm0 k).mpr ⟨es.toList[j],List.getElem_mem hj,hpj⟩
  refine wY (wY ?_)
  have e:hW ts k=ts:=by unfold hW;rw[if_pos hm]
  exact h false s.heap (Heap.SameBut.refl a s.heap) (by rw[e];exact hS0)
 | none =>
  dsimp only
  have hm:k∉ts:=λz=>by
   obtain⟨e,he,hp⟩:=(pT hel hperm0 k).mp z
   have:=List.findIdx?_eq_none_iff.mp hr e he
   rw[hp]at this;exact Bool.noConfusion this
  have ea:hW ts k=ts++[k]:=by unfold hW;rw[if_neg hm]
  have hgw:∀(b:Bool) {s₁:Shared}{Q':Unit->Shared->Prop},Q' () s₁->wpAny (model prog w) A (match b with|true=>rule "set.scan.the-table-gave-way" | false=>pure ()) Q' E s₁ :=
   λb s₁ Q' hq=>by cases b<;>first|exact wY hq|exact wpAny_rule hq
  have hperm:=layNew_perm t es ((PySem.strKind prog w).hash k) (.str k tk)
  have hfits:=layNew_fits t es ((PySem.strKind prog w).hash k) (.str k tk)
  have hl1:=C0 t es ((PySem.strKind prog w).hash k) (.str k tk)
  generalize hL:layNew t es ((PySem.strKind prog w).hash k) (.str k tk)=L at hperm hfits hl1 ⊢
  obtain⟨es1,t1,wasDummy,gave⟩:=L
  dsimp only at hperm hfits hl1 ⊢
  rw[Array.toList_push]at hperm
  have hel1:ElemsOf (PySem.strKind prog w) es1.toList:=(hel.push hkey rfl).perm hperm
  have hp1:(es1.toList.map (λe=>strOf e.2)).Perm (ts++[k]):=(hperm.map _).trans (by rw[List.map_append];exact hperm0.append_right _)
  have nd1:(ts++[k]).Nodup:=by
   rw[List.nodup_append]
   refine⟨nd,by simp,λx hx y hy=>?_⟩
   rw[List.mem_singleton]at hy
   subst hy
   exact λz=>hm (z ▸ hx)
  have hb1:(ts++[k]).length<scanBound:=by rw[List.length_append];exact hroom
  refine wX (hgw _ ?_)
  have hend:∀h',Heap.SameBut a s.heap h'->fT prog w h' a (ts++[k])->Q true { s with heap:=h' }:=λh' hsb hS'=>h true h' hsb (by rw[ea];exact hS')
  split
  ·refine wX ?_
   rw[hashByValue_scannable 8 (x:=.str k tk) rfl]
   refine wY ?_
   refine tN ?_ ho hex hd hel1 hp1 nd1 hb1 ?_ ?_ ?_ ?_
   ·intro b s₁ Q' hq;cases b<;>first|exact wY hq|exact wpAny_rule hq
   ·exact SetTable.fits_plain_off hfits
   ·exact hl1.trans hled
   ·rfl
   ·intro h' hsb hS';dsimp only;exact wY (hend h' hsb hS')
  ·rename_i hnp
   refine wX (wY ?_)
   simp only[↓reduceIte]
   refine tN ?_ ho hex hd hel1 hp1 nd1 hb1 hfits (hl1.trans hled) (by simpa using hnp) ?_
   ·intro b s₁ Q' hq;cases b<;>first|exact wY hq|exact wpAny_rule hq
   ·intro h' hsb hS';dsimp only;exact wY (hend h' hsb hS')
end
def fB (ss:List Str):List Str:=ss.foldl hW []
theorem wc {ts:List Str}(h:ts.Nodup) (x:Str):(hW ts x).Nodup:=by
 unfold hW;split
 ·exact h
 ·rename_i hm
  rw[List.nodup_append]
  refine⟨h,by simp,λy hy z hz=>?_⟩
  rw[List.mem_singleton]at hz
  subst hz
  exact λe=>hm (e ▸ hy)
theorem tO {ts:List Str}{x y:Str}:y∈hW ts x↔y∈ts∨y=x:=by
 unfold hW;split
 ·rename_i hm;exact⟨.inl,λz=>z.elim id λe=>e ▸ hm⟩
 ·simp
theorem r6 (ss:List Str):∀ts:List Str,(ss.foldl hW ts).length<=ts.length+ss.length:=by
 induction ss with
 | nil=>intro ts;simp
 | cons x r ih=>intro ts;rw[List.foldl_cons];have:=ih (hW ts x);have:=A1 ts x;simp only[List.length_cons];omega
theorem mQ (ss:List Str):(fB ss).length<=ss.length:=by have:=r6 ss [];simpa [fB]using this
theorem yT (ss:List Str) (x:Str):fB (ss++[x])=hW (fB ss) x:=by unfold fB;rw[List.foldl_append];rfl
theorem StrsAre.at:∀ {vs:List Value}{ss:List Str},StrsAre vs ss->∀(i:Nat) (v:Value),vs[i]? = some v->∃x t,v=.str x t/\ss[i]? = some x
 | _,_,.nil,i,v,h=>by simp at h
 | _,_,.cons x t hr,0,v,h=>by simp at h;exact⟨x,t,h.symm,rfl⟩
 | _,_,.cons x t hr,i+1,v,h=>by
  simp only[List.getElem?_cons_succ]at h
  exact StrsAre.at hr i v h
theorem fT.at {prog:Program}{w:World}{h h':Heap}{a:Addr}{ts:List Str}(x:fT prog w h a ts) (k:∀o,h.get? a=some o->h'.get? a=some o):fT prog w h' a ts:=by
 obtain⟨o,es,ep,t,ho,r⟩:=x
 exact⟨o,es,ep,t,k o ho,r⟩
section
variable {prog:Program}{w:World}{A:Around}{R:Result->Shared->Prop}{I:Addr}{fp wr:List Addr}{G:Array GenState->Array GenState->Prop}{n:Nat}{P:Nat->Value->Prop}{St:Nat->Shared->Prop}
theorem r9 (W:WalksS prog w A.in1 I fp wr G n P St) (S:Addr) (hSf:S∉fp) (ss:List Str) (hn:ss.length=n)
  (hval:∀i v,P i v->∃x t,v=.str x t/\ss[i]? = some x) (hb:n+1<scanBound) :
  ∀(k i:Nat) (s:Shared),n - i=k->i<=n->St i s->fT prog w s.heap S (fB (ss.take i)) ->
   (∀s',Moved (S::wr) G s s'->fT prog w s'.heap S (fB ss)->R (.ok (.ret .none)) s') ->
   codeAny (model prog w) A (.builtin "set.update.loop" ⟨[.ref S,.ref I],[]⟩) R s:=by
 have hSw:S∉wr:=λh=>hSf (W.sub _ h)
 have hsub:∀b∈wr,b∈S::wr:=λb hb=>mZ _ hb
 intro k
 induction k with
 | zero =>
  intro i s hk hi hst hS hR
  have hin:i=n:=by omega
  subst hin
  refine codeAny_builtin PyProof.Rows.F.entry_set_update_loop ?_
  rw[Around.under_plainId PyProof.Rows.F.plain_set_update_loop _]
  show wpAny _ A.in1 (pyNext (.ref I)>>=_) _ _ s
  refine wX (W.done s _ _ hst λs' hm=>?_)
  show wpAny _ A.in1 (ret Value.none) _ _ s'
  refine wY (hR s' (hm.mono hsub) ?_)
  rw[List.take_of_length_le (by omega)]at hS
  exact hS.at λo e=>hm.heap S _ hSw e
 | succ k ih =>
  intro i s hk hi hst hS hR
  have hlt:i<n:=by omega
  refine codeAny_builtin PyProof.Rows.F.entry_set_update_loop ?_
  rw[Around.under_plainId PyProof.Rows.F.plain_set_update_loop _]
  show wpAny _ A.in1 (pyNext (.ref I)>>=_) _ _ s
  refine wX (W.item i s _ _ hlt hst λv s' hP hst' hm=>?_)
  obtain⟨x,t,rfl,hx⟩:=hval i v hP
  have hS':fT prog w s'.heap S (fB (ss.take i)):=hS.at λo e=>hm.heap S _ hSw e
  show wpAny _ A.in1 (holding [Value.str x t] (setAdd S (.str x t))>>=_) _ _ s'
  refine wX (wpAny_holding ?_)
  unfold setAdd
  refine wpAny_holding ?_
  refine wX ((PySem.strKind prog w).pyHash (k:=x) (strKind_is prog w x t) ?_)
  have hl:(fB (ss.take i)).length+1<scanBound:=by have:=mQ (ss.take i);rw[List.length_take]at this;omega
  refine wb (s:={ s' with toks:=s'.toks+1 }) hS' hl λb h' hsb hS2=>?_
  have hS3:fT prog w h' S (fB (ss.take (i+1))):=by
   rw[List.take_add_one,hx,Option.toList_some,yT];exact hS2
  refine wY ⟨plainId_quiet PyProof.Rows.F.plain_set_update_loop _,ih (i+1) _ (by omega) hlt (W.frame _ s' _ _ hst' (Nat.le_succ _) λb hb o e=>?_) hS3 λs'' hm'' hS''=>?_⟩
  ·rw[hsb.2 b (λh:b=S=>hSf (by rw[←h];exact hb))];exact e
  ·refine hR s'' (Moved.trans W.gtrans ((hm.mono hsub).then_heap (Nat.le_succ _) λb o hb e=>?_) hm'') hS''
   rw[hsb.2 b (λh:b=S=>hb (by rw[h];exact mX))];exact e
end
section
variable {prog:Program}{w:World}{A:Around}{E:Value->Shared->Prop}{s:Shared}
abbrev dh (w:World):Obj:={ cls:=.type "set",dict:=none,data:=.set #[] 0 (.fresh 0 0 (!w.params.followText "set-order")) }
theorem tP (a:Value) {Q₁:Value->Shared->Prop}
  (h:Q₁ (.ref s.heap.objs.size) { s with heap:=s.heap.push (dh w) }) :
  codeAny (model prog w) A (.call (.builtin "set.__new__") ⟨[.type "set",a],[]⟩) (wants Q₁ E) s:=by
 refine codeAny_of_tree ?_
 show wpAny _ A.in1 (do checkBuiltinCall "set.__new__" ⟨[.type "set",a],[]⟩;again (.builtin "set.__new__" ⟨[.type "set",a],[]⟩)) _ _ s
 refine wX (wpAny_of_eq (PySem.F.newCall_set_1 a) (wY ⟨plainId_quiet PySem.F.plain_set_new _,codeAny_builtin PySem.F.entry_set_new ?_⟩))
 rw[Around.under_plainId PySem.F.plain_set_new _]
 unfold Builtin.«set.__new__» Builtin.Frozenset.newClass
 have hsub:=sub_set_self
 obtain⟨hp,g,d,tk,os⟩:=s
 dsimp only
 wp_walk
 refine wpAny_askSetting (wY ?_)
 dsimp only
 simp only[newObj]
 refine wX (wpAny_alloc (wY ?_))
 exact wY h
set_option maxHeartbeats 3200000 in
theorem mR {l:Addr}{items:Array Value}{ss:List Str}{Q:Value->Shared->Prop}
  (hh:A.handled=none) (hl:s.heap.IsList l items) (hi:StrsAre items.toList ss) (hb:items.size+1<scanBound)
  (h:∀(h':Heap) (tk:Nat),fT prog w h' s.heap.objs.size (fB ss) ->
   (∀b o,b<s.heap.objs.size->s.heap.get? b=some o->h'.get? b=some o)->Q (.ref s.heap.objs.size) { s with heap:=h',toks:=tk }) :
  wpAny (model prog w) A (call (.type "set") [.ref l]) Q E s:=by
 obtain⟨c,tl,hmro⟩:=PySem.F.called_set.mro
 have hmade:=PySem.F.called_set.made
 have hsub:=PySem.F.called_set.sub
 refine wpAny_call (codeAny_of_tree ?_)
 show wpAny _ _ (callAny (.type "set") _) _ _ _
 refine wY ⟨Code.quiet_builtin _ (by decide +kernel),codeAny_builtin PySem.F.entry_type_call ?_⟩
 rw[Around.under_plain (weight_type_call_type "set" [.ref l] []) rfl]
 have h1:=PySem.F.called_set.notType
 have h2:=PySem.F.called_set.canCreate
 have hct:=PySem.F.typeCall_set_1 (.ref l)
 have hlen:ss.length=items.size:=by have:=hi.strs;rw[←this,List.length_map,Array.length_toList]
 repeat (any_goals (first|assumption|wp_step))
 refine codeAny_mono (tP (.ref l) (E:=E) (Q₁:=λobj s₁=>obj=.ref s.heap.objs.size/\s₁={ s with heap:=s.heap.push (dh w) }) ⟨rfl,rfl⟩) λr s₁ hr=>?_
 cases r with
 | error e=>exact hr
 | ok fl =>
  cases fl with
  | ret obj =>
   obtain⟨rfl,rfl⟩:=hr
   have hS:(s.heap.push (dh w)).get? s.heap.objs.size=some (dh w):=Heap.get?_push_size _ rfl
   have hT:Shared.TypeIs { s with heap:=s.heap.push (dh w) } (.ref s.heap.objs.size) "set":=⟨_,hS,rfl⟩
   have hli:=PySem.F.called_set.init.lookup
   have hbi:=PySem.F.called_set.init.bind (.ref s.heap.objs.size)
   repeat (any_goals (first|assumption|wp_step))
   refine codeAny_mono (codeAny_call_builtin (R:=wants (λr s₂=>r=.none/\∃h' tk,s₂={ s with heap:=h',toks:=tk } /\
     fT prog w h' s.heap.objs.size (fB ss) /\
     (∀b o,b<s.heap.objs.size->s.heap.get? b=some o->h'.get? b=some o)) E) PySem.F.called_set.init.plain PySem.F.entry_set_init (check_set_init_1 hT ?_)) λr₂ s₂ hr₂=>?_
   ·obtain⟨ol,hol,hcl,nl,hdl⟩:=hl
    obtain⟨ocls,odict,odata,oslots⟩:=ol
    simp only at hcl hdl
    subst hcl;subst hdl
    have hol':(s.heap.push (dh w)).get? l=some { cls:=.type "list",dict:=odict,data:=.seq items nl,slots:=oslots }:=Heap.get?_push_of_some _ hol
    have hsls:=PySem.F.sub_list_set
    have hslf:=PySem.F.sub_list_frozenset
    have hne:(Value.type "list" == Value.type "dict")=false:=by decide
    have hl1:(s.heap.push (dh w)).IsList l items:=⟨_,hol',rfl,nl,rfl⟩
    unfold Builtin.«set.__init__» noKeywords Builtin.Frozenset.updateFrom
    generalize hPI:pyIter=PI
    wp_walk
    subst hPI
    refine wpAny_pyIter_list hl1 ?_
    refine wX (wpAny_runValue ?_)
    have hlS:l<s.heap.objs.size:=Heap.lt_size hol
    have hh3:A.in1.in1.in1.handled=none:=by simp[hh]
    have hneI:l≠(s.heap.push (dh w)).objs.size:=by
     rw[Heap.size_push];exact Nat.ne_of_lt (Nat.lt_succ_of_lt hlS)
    have hSf:s.heap.objs.size∉[(s.heap.push (dh w)).objs.size,l]:=by
     rw[Heap.size_push];simp only[List.mem_cons,List.mem_singleton,List.not_mem_nil,or_false,not_or]
     exact⟨Nat.ne_of_lt (Nat.lt_succ_self _),Nat.ne_of_gt hlS⟩
    have hval:∀(i:Nat) (v:Value),items[i]? = some v->∃x t,v=.str x t/\ss[i]? = some x:=λi v hv =>
     StrsAre.at hi i v (by rw[Array.getElem?_toList];exact hv)
    refine r9 ((Walks.list hh3 _ l hneI items).toS) s.heap.objs.size
     hSf ss hlen hval hb (items.size - 0) 0 _ (by omega) (Nat.zero_le _)
     ⟨⟨_,Heap.get?_push_size _ rfl,rfl,rfl⟩,(hl1.push _)⟩ ?hS0 ?hR
    case hS0 =>
     have hget:((s.heap.push (dh w)).push { cls:=.type "list_iterator",data:=.fields #[.ref l,.int 0 0] }).get? s.heap.objs.size
       = some (dh w):=Heap.get?_push_of_some _ hS
     exact⟨_,#[],0,_,hget,⟨rfl,rfl,rfl⟩,rfl,λe he=>by simp at he,List.Perm.refl _,List.nodup_nil,(by show(0:Nat)<scanBound;decide),rfl,rfl,λz=>absurd rfl z⟩
    case hR =>
     intro s' hm hS'
     obtain⟨h',g',d',tk',os'⟩:=s'
     have eg:g'=s.gens:=hm.gens
     have ed:d'=s.drawn:=hm.drawn
     have eo:os'=s.os:=hm.os
     subst eg;subst ed;subst eo
     show wpAny _ _ _ _ _ _
     refine wY ?_
     show wpAny _ _ (ret Value.none) _ _ _
     refine wY ⟨rfl,h',tk',rfl,hS',λb o hb e=>?_⟩
     have hb1:b≠s.heap.objs.size:=Nat.ne_of_lt hb
     have hb2:b≠(s.heap.push (dh w)).objs.size:=by
      rw[Heap.size_push];exact Nat.ne_of_lt (Nat.lt_succ_of_lt hb)
     exact hm.heap b o (by simp only[List.mem_cons,List.mem_singleton,List.not_mem_nil,or_false,not_or];exact⟨hb1,hb2⟩) (Heap.get?_push_of_some _ (Heap.get?_push_of_some _ e))
   ·cases r₂ with
    | error e=>exact hr₂
    | ok fl₂ =>
     cases fl₂ with
     | ret r =>
      obtain⟨rfl,h',tk,rfl,hS',hk'⟩:=hr₂
      repeat (any_goals (first|assumption|wp_step))
      exact h _ _ hS' hk'
     | _=>exact hr₂.elim
  | _=>exact hr.elim
end
open Sem (wp)
section
variable {M:Model}{A:Around}{E:Value->Shared->Prop}{s:Shared}
theorem C1 {src:Source}{n:Nat}{Q:Nat->Shared->Prop}(hn:n≠0) (h:∀k d,k<n->Q k { s with drawn:=d }):wpAny M A (choose src n) Q E s:=by
 intro Γ p hG
 unfold choose
 rw[Sem.wp_choose]
 refine⟨hn, ?_⟩
 have:=h _ (s.drawn.bump src) (Nat.mod_lt (M.w.draws src (s.drawn.get src)) (Nat.pos_of_ne_zero hn))
 simpa using this
end
theorem jS {α:Type}:∀(l:List α) (i:Nat),i<l.length->(l.eraseIdx i).length=l.length - 1:=λl i h=>by rw[List.length_eraseIdx,if_pos h]
theorem jq {α:Type}:∀(l:List α) (i:Nat) (x:α),l[i]? = some x->(x::l.eraseIdx i).Perm l
 | [],i,x,h=>by simp at h
 | a::l,0,x,h=>by simp at h;subst h;exact List.Perm.refl _
 | a::l,i+1,x,h=>by
  rw[List.eraseIdx_cons_succ]
  simp only[List.getElem?_cons_succ]at h
  exact(List.Perm.swap a x _).trans ((jq l i x h).cons a)
theorem xD {M:Model}{A:Around}{E:Value->Shared->Prop}{α:Type}:∀(n:Nat) (xs:List α) (s:Shared) (Q:List α->Shared->Prop),xs.length=n->(∀ys d,ys.Perm xs->Q ys { s with drawn:=d })->wpAny M A (drawOrder n xs) Q E s
 | 0,xs,s,Q,hl,h=>by
  have:xs=[]:=List.eq_nil_of_length_eq_zero hl
  subst this
  exact wY (h [] s.drawn (List.Perm.refl _))
 | n+1,[],s,Q,hl,h=>by simp at hl
 | n+1,x::r,s,Q,hl,h=>by
  show wpAny M A (choose .order (x::r).length>>=λi=>match (x::r)[i]? with
   | some x'=>(do return x'::(←drawOrder n ((x::r).eraseIdx i)))
   | none=>unsupported "internal:drawOrder") Q E s
  refine wX (C1 (by simp) λk d hk=>?_)
  obtain⟨y,hy⟩:∃y,(x::r)[k]? = some y:=⟨_,List.getElem?_eq_getElem hk⟩
  rw[hy]
  refine wX (xD n _ _ _ (by rw[jS _ _ hk,hl];rfl) λys d' hp=>wY (h _ _ ((hp.cons y).trans (jq _ _ _ hy))))
theorem xE {α:Type}(next:Nat->Nat):∀(fuel k:Nat) (left:List α) (out:Array α),left.length=fuel->(pickOrder.go next fuel k left out).toList.Perm (out.toList++left)
 | 0,k,left,out,hl=>by
  have:left=[]:=List.eq_nil_of_length_eq_zero hl
  subst this
  unfold pickOrder.go
  simp
 | fuel+1,k,left,out,hl=>by
  unfold pickOrder.go
  have hk:next k % left.length<left.length:=Nat.mod_lt _ (by omega)
  obtain⟨y,hy⟩:∃y,left[next k % left.length]? = some y:=⟨_,List.getElem?_eq_getElem hk⟩
  rw[hy]
  dsimp only
  refine(xE next fuel (k+1) _ _ (by rw[jS _ _ hk];omega)).trans ?_
  rw[Array.toList_push,List.append_assoc]
  exact(jq _ _ _ hy).append_left _
theorem yU {α:Type}(next:Nat->Nat) (xs:Array α):(pickOrder next xs).toList.Perm xs.toList:=by
 have:=xE next xs.size 0 xs.toList #[] (by simp)
 simpa [pickOrder]using this
theorem bu:Slot "set_iterator" "__next__" "set_iterator.__next__" :=
 .of (owner:="set_iterator") (n:="__next__") (by rw[typeLookup_type,builtinLookup_eq_fast];kernel_rfl) (by decide +kernel) (by decide +kernel) (by decide +kernel)
  (by first|exact .inl (by decide +kernel)|exact .inr (by decide +kernel)) (by rw[isSubtype_type];kernel_rfl)
theorem d8:entryFor table "set_iterator.__next__" = some Builtin.«set_iterator.__next__»:=entryFor_of_tree (by kernel_rfl)
theorem dZ (a:Value):argsOk "set_iterator.__next__" ⟨[a],[]⟩:=by unfold argsOk;kernel_rfl
theorem jd:Slot "set_iterator" "__iter__" "set_iterator.__iter__" :=
 .of (owner:="set_iterator") (n:="__iter__") (by rw[typeLookup_type,builtinLookup_eq_fast];kernel_rfl) (by decide +kernel) (by decide +kernel) (by decide +kernel)
  (by first|exact .inl (by decide +kernel)|exact .inr (by decide +kernel)) (by rw[isSubtype_type];kernel_rfl)
theorem mS:entryFor table "set_iterator.__iter__" = some Builtin.«dict_keyiterator.__iter__» :=
 entryFor_alias (id':="dict_keyiterator.__iter__") (by kernel_rfl) rfl (by decide +kernel) (by kernel_rfl)
theorem pv (a:Value):argsOk "set_iterator.__iter__" ⟨[a],[]⟩:=by unfold argsOk;kernel_rfl
theorem mz:entryFor table "set.__iter__" = some Builtin.«frozenset.__iter__» :=
 entryFor_alias (id':="frozenset.__iter__") (by kernel_rfl) rfl (by decide +kernel) (by kernel_rfl)
abbrev jr (fst:Value) (i:Nat) (S:Addr) (n ep:Nat):Obj:={ cls:=.type "set_iterator",data:=.fields #[fst,.int i 0,.ref S,.int n 0,.int ep 0] }
section
variable {prog:Program}{w:World}{A:Around}{E:Value->Shared->Prop}{s:Shared}{it S:Addr}{i ep:Nat}{o:Obj}{es:Array (Int×Value)}{t:SetTable}
theorem cL {fst:Value}{n:Nat}(ho:s.heap.get? it=some (jr fst i S n ep)):s.TypeIs (.ref it) "set_iterator":=⟨_,ho,rfl⟩
theorem rA {k k':Nat}{x:Value}{Q:Option Value->Shared->Prop}(ho:s.heap.get? it=some (jr (.int k 0) i S es.size ep))
  (hS:s.heap.get? S=some o) (hd:o.data=.set es ep t) (hf:t.fits es.size=true)
  (hN:∀(A':Around) (E':Value->Shared->Prop) (Q':Option (Value×Nat)->Shared->Prop),Q' (some (x,k')) s->wpAny (model prog w) A' (setNext S k i ep) Q' E' s)
  (hQ:∀h',h'.get? it=some (jr (.int k' 0) (i+1) S es.size ep)->Heap.SameBut it s.heap h'->Q (some x) { s with heap:=h' }) :
  wpAny (model prog w) A (pyNext (.ref it)) Q E s:=by
 unfold pyNext
 refine wX (wpAny_attempt (wpAny_callSpecial?_slot (name:=Str.ofString "__next__") (cL ho) bu
  (wpAny_call_entry bu (cL ho) d8 ?_ (dZ _))))
 show wpAny _ _ (fieldsOf (.ref it)>>=_) _ _ s
 refine wX (wpAny_fieldsOf ho rfl ?_)
 show wpAny _ _ (setEntries S>>=_) _ _ s
 refine wX (wpAny_setEntries_of hS hd hf ?_)
 rw[if_neg (by simp)]
 show wpAny _ _ (setNext S _ _ _>>=_) _ _ s
 simp only[Int.toNat_natCast]
 refine wX (hN _ _ _ ?_)
 dsimp only
 refine wX (wpAny_setField_rec ho (by simp) λh1 e1 b1=>?_)
 refine wX (wpAny_setField_rec e1 (by simp) λh2 e2 b2=>?_)
 exact wY ⟨x,rfl,wY (hQ h2 (by simpa [rawInt,jr]using e2) (b1.trans b2))⟩
theorem rB {k:Nat}{Q:Option Value->Shared->Prop}(hh:A.handled=none) (ho:s.heap.get? it=some (jr (.int k 0) i S es.size ep))
  (hS:s.heap.get? S=some o) (hd:o.data=.set es ep t) (hf:t.fits es.size=true)
  (hN:∀(A':Around) (E':Value->Shared->Prop) (Q':Option (Value×Nat)->Shared->Prop),Q' none s->wpAny (model prog w) A' (setNext S k i ep) Q' E' s)
  (hQ:∀h',Heap.ExtBut it s.heap h'->Q none { s with heap:=h' }) :
  wpAny (model prog w) A (pyNext (.ref it)) Q E s:=by
 unfold pyNext
 refine wX (wpAny_attempt (wpAny_callSpecial?_slot (name:=Str.ofString "__next__") (cL ho) bu
  (wpAny_call_entry bu (cL ho) d8 ?_ (dZ _))))
 show wpAny _ _ (fieldsOf (.ref it)>>=_) _ _ s
 refine wX (wpAny_fieldsOf ho rfl ?_)
 show wpAny _ _ (setEntries S>>=_) _ _ s
 refine wX (wpAny_setEntries_of hS hd hf ?_)
 rw[if_neg (by simp)]
 show wpAny _ _ (setNext S _ _ _>>=_) _ _ s
 simp only[Int.toNat_natCast]
 refine wX (hN _ _ _ ?_)
 dsimp only
 refine wX (wpAny_setField_rec ho (by simp) λh1 e1 b1=>?_)
 refine wX ?_
 simp only[newExc,newTuple]
 refine wX (wpAny_newObj_type ?_ (by size_fits))
 refine wX (m:=firstArgMember _ _) (wpAny_of_eq (a:=Value.none) (by first|rfl|(simp only[firstArgMember];rfl)) ?_)
 refine wpAny_newObj_type ?_ (by size_fits)
 simp only[raiseNew]
 refine wX (wpAny_handled ?_)
 rw[show A.in1.handled=none from hh]
 refine wX (wY (wpAny_throw ?_))
 refine wX (wpAny_isInstance (T:="StopIteration") (b:=true) ⟨_,Heap.get?_push_size _ rfl,rfl⟩ isSubtype_stop ?_)
 exact wY (hQ _ ((b1.extBut.push _).push _))
theorem pw {T:Addr}{pl:List Nat}{p:Nat}{x:Int×Value}{nt:Nat}{Q:Option Value->Shared->Prop}(ho:s.heap.get? it=some (jr (.ref T) i S es.size ep))
  (hT:s.heap.get? T=some (seqObj "tuple" (pl.map λ(p:Nat)=>Value.int p 0).toArray nt))
  (hS:s.heap.get? S=some o) (hd:o.data=.set es ep t) (hf:t.fits es.size=true) (hp:pl[i]? = some p) (hx:es[p]? = some x)
  (hQ:∀h',h'.get? it=some (jr (.ref T) (i+1) S es.size ep)->Heap.SameBut it s.heap h'->Q (some x.2) { s with heap:=h' }) :
  wpAny (model prog w) A (pyNext (.ref it)) Q E s:=by
 unfold pyNext
 refine wX (wpAny_attempt (wpAny_callSpecial?_slot (name:=Str.ofString "__next__") (cL ho) bu
  (wpAny_call_entry bu (cL ho) d8 ?_ (dZ _))))
 show wpAny _ _ (fieldsOf (.ref it)>>=_) _ _ s
 refine wX (wpAny_fieldsOf ho rfl ?_)
 show wpAny _ _ (setEntries S>>=_) _ _ s
 refine wX (wpAny_setEntries_of hS hd hf ?_)
 rw[if_neg (by simp)]
 show wpAny _ _ (seqItems? (.ref T)>>=_) _ _ s
 refine wX (wpAny_seqItems hT rfl ?_)
 have e1:(pl.map λ(p:Nat)=>Value.int p 0).toArray[(i:Int).toNat]? = some (.int p 0):=by simp[hp]
 dsimp only
 rw[e1]
 dsimp only
 have e2:wpAny (model prog w) A.in1 (setNextDrawn S (p:Int).toNat (ep:Int).toNat) (λy s'=>y=x.2/\s'=s) (λ_ _=>False) s:=by
  unfold setNextDrawn
  refine wX (wpAny_setState_of hS hd hf ?_)
  dsimp only
  rw[if_neg (by simp)]
  simp only[Int.toNat_natCast,hx]
  exact wY ⟨rfl,rfl⟩
 refine wX (wpAny_mono e2 (λy s' hy=>?_) λ_ _ z=>z.elim)
 obtain⟨rfl,rfl⟩:=hy
 refine wX (wpAny_setField_rec ho (by simp) λh1 e1 b1=>?_)
 exact wY ⟨_,rfl,wY (hQ h1 (by simpa [rawInt,jr]using e1) b1)⟩
theorem px {T:Addr}{pl:List Nat}{nt:Nat}{Q:Option Value->Shared->Prop}(hh:A.handled=none) (ho:s.heap.get? it=some (jr (.ref T) i S es.size ep))
  (hT:s.heap.get? T=some (seqObj "tuple" (pl.map λ(p:Nat)=>Value.int p 0).toArray nt))
  (hS:s.heap.get? S=some o) (hd:o.data=.set es ep t) (hf:t.fits es.size=true) (hp:pl[i]? = none)
  (hQ:∀h',Heap.ExtBut it s.heap h'->Q none { s with heap:=h' }) :
  wpAny (model prog w) A (pyNext (.ref it)) Q E s:=by
 unfold pyNext
 refine wX (wpAny_attempt (wpAny_callSpecial?_slot (name:=Str.ofString "__next__") (cL ho) bu
  (wpAny_call_entry bu (cL ho) d8 ?_ (dZ _))))
 show wpAny _ _ (fieldsOf (.ref it)>>=_) _ _ s
 refine wX (wpAny_fieldsOf ho rfl ?_)
 show wpAny _ _ (setEntries S>>=_) _ _ s
 refine wX (wpAny_setEntries_of hS hd hf ?_)
 rw[if_neg (by simp)]
 show wpAny _ _ (seqItems? (.ref T)>>=_) _ _ s
 refine wX (wpAny_seqItems hT rfl ?_)
 have e1:(pl.map λ(p:Nat)=>Value.int p 0).toArray[(i:Int).toNat]? = none:=by simpa using hp
 dsimp only
 rw[e1]
 dsimp only
 refine wX (wpAny_setField_rec ho (by simp) λh0 e0 b0=>?_)
 refine wX (wpAny_setField_rec e0 (by simp) λh1 e1 b1=>?_)
 refine wX ?_
 simp only[newExc,newTuple]
 refine wX (wpAny_newObj_type ?_ (by size_fits))
 refine wX (m:=firstArgMember _ _) (wpAny_of_eq (a:=Value.none) (by first|rfl|(simp only[firstArgMember];rfl)) ?_)
 refine wpAny_newObj_type ?_ (by size_fits)
 simp only[raiseNew]
 refine wX (wpAny_handled ?_)
 rw[show A.in1.handled=none from hh]
 refine wX (wY (wpAny_throw ?_))
 refine wX (wpAny_isInstance (T:="StopIteration") (b:=true) ⟨_,Heap.get?_push_size _ rfl,rfl⟩ isSubtype_stop ?_)
 exact wY (hQ _ (((b0.trans b1).extBut.push _).push _))
theorem tQ {fst:Value}{n:Nat}{Q:Value->Shared->Prop}(ho:s.heap.get? it=some (jr fst i S n ep)) (h:Q (.ref it) s):wpAny (model prog w) A (pyIter (.ref it)) Q E s:=by
 refine wpAny_pyIter_slot (cL ho) jd (wpAny_call_entry jd (cL ho) mS ?_ (pv _))
 show wpAny _ _ (ret (.ref it)) _ _ s
 exact wY ⟨_,rfl,"set_iterator",_,cL ho,bu.lookup,h⟩
end
section
variable {prog:Program}{w:World}{A:Around}{E:Value->Shared->Prop}{s:Shared}{it S:Addr}{i k ep:Nat}{o:Obj}{es:Array (Int×Value)}{t:SetTable}
theorem pV {Q:Option (Value×Nat)->Shared->Prop}(hS:s.heap.get? S=some o) (hd:o.data=.set es ep t) (hf:t.fits es.size=true) (hb:w.params.followText "set-order" = true)
  (h:Q (((pickOrder (w.params.setOrder S ep) es)[i]?).map λe=>(e.2,k)) s):wpAny (model prog w) A (setNext S k i ep) Q E s:=by
 unfold setNext
 refine wX (wpAny_setState_of hS hd hf ?_)
 dsimp only
 unfold setsByText
 refine wX (wX (wpAny_askSetting (wY ?_)))
 show wpAny _ _ (if w.params.followText "set-order" = true then _ else _) _ _ _
 rw[if_pos hb,if_neg (by simp)]
 unfold setWalk setsByText
 refine wX (wX (wpAny_setState_of hS hd hf ?_))
 dsimp only
 refine wX (wX (wpAny_askSetting (wY ?_)))
 show wpAny _ _ (if w.params.followText "set-order" = true then _ else _) _ _ _
 rw[if_pos hb]
 refine wX (wpAny_askSetting (wY ?_))
 exact wY h
theorem mT {Q:Option (Value×Nat)->Shared->Prop}(hS:s.heap.get? S=some o) (hd:o.data=.set es ep t) (hf:t.fits es.size=true) (hb:w.params.followText "set-order" = false) (hl:t.led=true) (hz:es.size<=1)
  (h:Q (match es[SetTable.below t.place k]?,t.place[SetTable.below t.place k]? with
   | some (_,x),some j=>some (x,j+1)
   | _,_=>none) s):wpAny (model prog w) A (setNext S k i ep) Q E s:=by
 unfold setNext
 refine wX (wpAny_setState_of hS hd hf ?_)
 dsimp only
 unfold setsByText
 refine wX (wX (wpAny_askSetting (wY ?_)))
 show wpAny _ _ (if w.params.followText "set-order" = true then _ else _) _ _ _
 rw[if_neg (by rw[hb];simp)]
 show wpAny _ _ (if(!t.plain && decide (es.size > 1))=true then _ else _) _ _ _
 rw[if_neg (by rw[decide_eq_false (by omega)];simp)]
 show wpAny _ _ ((if(!t.led && !es.isEmpty)=true then unsupported "set:maker-not-led" else pure ())>>=_) _ _ _
 rw[hl,if_neg (by simp)]
 refine wX (wY ?_)
 exact wY h
theorem pW (hh:A.handled=none) (hd:o.data=.set es ep t) (hf:t.fits es.size=true) (hne:S≠it) (vs:List Value) (hv:vs.length=es.size) (sl:Nat->Nat)
  (hN:∀i x,vs[i]? = some x->∀(A':Around) (E':Value->Shared->Prop) (s:Shared) (Q':Option (Value×Nat)->Shared->Prop),s.heap.get? S=some o->Q' (some (x,sl (i+1))) s->wpAny (model prog w) A' (setNext S (sl i) i ep) Q' E' s)
  (hE:∀(A':Around) (E':Value->Shared->Prop) (s:Shared) (Q':Option (Value×Nat)->Shared->Prop),s.heap.get? S=some o->Q' none s->wpAny (model prog w) A' (setNext S (sl es.size) es.size ep) Q' E' s) :
  Walks prog w A it [it,S] [it] es.size (λi v=>vs[i]? = some v) (λi h=>h.get? it=some (jr (.int (sl i) 0) i S es.size ep)/\h.get? S=some o) where
 sub:=λb hb=>by simp at hb;simp[hb]
 frame:=λ_ _ _ st hk=>⟨hk it (by simp) _ st.1,hk S (by simp) _ st.2⟩
 item:=λi s Q E hi st hQ=>by
  obtain⟨x,hx⟩:∃x,vs[i]? = some x:=⟨_,List.getElem?_eq_getElem (by omega)⟩
  refine rA st.1 st.2 hd hf (λA' E' Q' q=>hN i x hx A' E' s Q' st.2 q) λh' h1 h2=>?_
  exact hQ x h' s.toks hx ⟨h1,h2.extBut S _ hne st.2⟩ λb u hb e=>h2.extBut b u (λz=>hb (by simp[z])) e
 done:=λs Q E st hQ=>rB hh st.1 st.2 hd hf (λA' E' Q' q=>hE A' E' s Q' st.2 q) λh' h1=>hQ h' s.toks λb u hb e=>h1 b u (λz=>hb (by simp[z])) e
 self:=λ_ _ _ _ st hQ=>tQ st.1 hQ
theorem we {T:Addr}{pl:List Nat}{nt:Nat}(hh:A.handled=none) (hd:o.data=.set es ep t) (hf:t.fits es.size=true) (hne:S≠it) (hnT:T≠it) (hp:pl.Perm (List.range es.size)) :
  Walks prog w A it [it,S,T] [it] es.size (λi v=>(pl.map λp=>(es.getD p (0,.none)).2)[i]? = some v)
   (λi h=>h.get? it=some (jr (.ref T) i S es.size ep)/\h.get? S=some o/\h.get? T=some (seqObj "tuple" (pl.map λ(p:Nat)=>Value.int p 0).toArray nt)) where
 sub:=λb hb=>by simp at hb;simp[hb]
 frame:=λ_ _ _ st hk=>⟨hk it (by simp) _ st.1,hk S (by simp) _ st.2.1,hk T (by simp) _ st.2.2⟩
 item:=λi s Q E hi st hQ=>by
  have hlen:pl.length=es.size:=by rw[hp.length_eq,List.length_range]
  obtain⟨p,hx⟩:∃p,pl[i]? = some p:=⟨_,List.getElem?_eq_getElem (by omega)⟩
  have hpm:p<es.size:=List.mem_range.mp (hp.mem_iff.mp (List.mem_of_getElem? hx))
  have he:es[p]? = some (es.getD p (0,.none)):=by rw[Array.getD_eq_getD_getElem?,Array.getElem?_eq_getElem hpm];rfl
  refine pw st.1 st.2.2 st.2.1 hd hf hx he λh' h1 h2=>?_
  exact hQ _ h' s.toks (by simp[hx]) ⟨h1,h2.extBut S _ hne st.2.1,h2.extBut T _ hnT st.2.2⟩ λb u hb e=>h2.extBut b u (λz=>hb (by simp[z])) e
 done:=λs Q E st hQ=>by
  have hlen:pl.length=es.size:=by rw[hp.length_eq,List.length_range]
  exact px hh st.1 st.2.2 st.2.1 hd hf (List.getElem?_eq_none (by omega)) λh' h1=>hQ h' s.toks λb u hb e=>h1 b u (λz=>hb (by simp[z])) e
 self:=λ_ _ _ _ st hQ=>tQ st.1 hQ
end
theorem wf {α:Type}(es:Array α) (d:α):(List.range es.size).map (λp=>es.getD p d)=es.toList:=by
 apply List.ext_getElem?
 intro i
 by_cases h:i<es.size
 ·simp[h,Array.getD_eq_getD_getElem?]
 ·simp[h]
section
variable {prog:Program}{w:World}{A:Around}{E:Value->Shared->Prop}{s:Shared}
theorem pX {xs:Array Nat}{j k:Nat}(h:xs=#[j]):SetTable.below xs k=if j<k then 1 else 0:=by
 subst h
 by_cases h:j<k
 ·simp[SetTable.below,SetTable.below.go,h]
 ·simp[SetTable.below,SetTable.below.go,h]
theorem A2 {S:Addr}{ts:List Str}{Q:Value->Shared->Prop}(hS:fT prog w s.heap S ts)
  (hQ:∀(h':Heap) (d:Drawn) (it:Addr) (vs:List Value) (fp:List Addr) (St:Nat->Heap->Prop),(∀A',A'.handled=none->Walks prog w A' it fp [it] ts.length (λi v=>vs[i]? = some v) St)->St 0 h' ->
   (∀b u,s.heap.get? b=some u->h'.get? b=some u)->s.heap.objs.size<=it->(∀b∈fp,b=S∨s.heap.objs.size<=b)->vs.length=ts.length->(vs.map strOf).Perm ts->(∀v∈vs,∃x t,v=.str x t) ->
   Q (.ref it) { s with heap:=h',drawn:=d }):wpAny (model prog w) A (pyIter (.ref S)) Q E s:=by
 obtain⟨o,es,ep,t,ho,hex,hd,hel,hp,nd,hb,hf,hled,hpl⟩:=hS
 have sz:es.size=ts.length:=by rw[←hp.length_eq,List.length_map,Array.length_toList]
 have hSlt:S<s.heap.objs.size:=Heap.lt_size ho
 have hTy:s.TypeIs (.ref S) "set":=⟨_,ho,hex.1⟩
 have hstrs:∀e∈es.toList,∃x t,e.2=.str x t:=λe he=>by
  obtain⟨⟨k,hk,_⟩,_⟩:=hel e he
  obtain⟨t,q⟩:=Value.isStrOf_shape (show Value.isStrOf k e.2=true from hk)
  exact⟨k,t,q⟩
 refine wpAny_pyIter_slot hTy PySem.F.slot_set_iter (wpAny_call_entry PySem.F.slot_set_iter hTy mz ?_ (PySem.F.args_set_iter_1 _))
 show wpAny _ _ (Builtin.Frozenset.sizeOf S>>=_) _ _ s
 unfold Builtin.Frozenset.sizeOf
 refine wX (wX (wpAny_setEntries_of ho hd hf (wY ?_)))
 unfold setDrawn setsByText
 refine wX (wX (wpAny_setState_of ho hd hf ?_))
 dsimp only
 refine wX (wX (wpAny_askSetting (wY (wY ?_))))
 show wpAny _ _ (if(!w.params.followText "set-order" && (!t.plain && decide (es.size > 1)))=true then _ else _) _ _ _
 have hmap:(es.toList.map (·.2)).map strOf=es.toList.map (λe=>strOf e.2):=by rw[List.map_map];rfl
 by_cases hbt:w.params.followText "set-order" = true
 ·rw[if_neg (by rw[hbt];simp)]
  refine wX (wY ?_)
  refine wX (wpAny_setEpoch_of ho hd hf ?_)
  have pp:=yU (w.params.setOrder S ep) es
  have hlen:((pickOrder (w.params.setOrder S ep) es).toList.map (·.2)).length=es.size:=by rw[List.length_map,pp.length_eq,Array.length_toList]
  refine wX (wpAny_newObj_type (wY ⟨_,rfl,"set_iterator",_,⟨_,Heap.get?_push_size _ rfl,rfl⟩,bu.lookup, ?_⟩))
  refine hQ _ s.drawn s.heap.objs.size ((pickOrder (w.params.setOrder S ep) es).toList.map (·.2)) [s.heap.objs.size,S] (λi h=>h.get? s.heap.objs.size=some (jr (.int ((λ_=>0:Nat->Nat) i:Nat) 0) i S es.size ep)/\h.get? S=some o) (λA' hA=>?_) ?_ (λb u e=>Heap.get?_push_of_some _ e) (Nat.le_refl _) (λb hb=>?_) (hlen.trans sz) ?_ ?_
  ·rw[←sz]
   exact pW hA hd hf (Nat.ne_of_lt hSlt) _ hlen (λ_=>0) (λi x hx A' E' s Q' h1 h2=>pV h1 hd hf hbt (by
    rw[List.getElem?_map,Array.getElem?_toList]at hx
    obtain⟨e,he,rfl⟩:=oY hx
    rw[he];exact h2)) (λA' E' s Q' h1 h2=>pV h1 hd hf hbt (by
    rw[Array.getElem?_eq_none (by rw[←Array.length_toList,pp.length_eq,Array.length_toList];exact Nat.le_refl _)];exact h2))
  ·exact⟨Heap.get?_push_size _ rfl,Heap.get?_push_of_some _ ho⟩
  ·simp only[List.mem_cons,List.not_mem_nil,or_false]at hb
   rcases hb with rfl|rfl
   ·exact .inr (Nat.le_refl _)
   ·exact .inl rfl
  ·refine List.Perm.trans ?_ hp
   rw[←hmap]
   exact(pp.map _).map _
  ·intro v hv
   obtain⟨e,he,rfl⟩:=List.mem_map.mp hv
   exact hstrs e (pp.mem_iff.mp he)
 ·rw[Bool.not_eq_true]at hbt
  have hl:t.led=true:=by rw[hled,hbt];rfl
  by_cases h1:es.size<=1
  ·rw[if_neg (by rw[decide_eq_false (by omega)];simp)]
   refine wX (wY ?_)
   refine wX (wpAny_setEpoch_of ho hd hf ?_)
   refine wX (wpAny_newObj_type (wY ⟨_,rfl,"set_iterator",_,⟨_,Heap.get?_push_size _ rfl,rfl⟩,bu.lookup, ?_⟩))
   have hpz:t.place.size=es.size:=by
    simp only[SetTable.fits,Bool.and_eq_true,beq_iff_eq,decide_eq_true_eq]at hf
    exact hf.1
   refine hQ _ s.drawn s.heap.objs.size (es.toList.map (·.2)) [s.heap.objs.size,S] (λi h=>h.get? s.heap.objs.size=some (jr (.int ((λi=>if i=0 then 0 else t.place.getD 0 0+1:Nat->Nat) i:Nat) 0) i S es.size ep)/\h.get? S=some o) (λA' hA=>?_) ?_ (λb u e=>Heap.get?_push_of_some _ e) (Nat.le_refl _) (λb hb=>?_) (by rw[List.length_map,Array.length_toList,sz]) (by rw[hmap];exact hp) ?_
   ·rw[←sz]
    refine pW hA hd hf (Nat.ne_of_lt hSlt) _ (by simp) (λi=>if i=0 then 0 else t.place.getD 0 0+1) (λi x hx A' E' s Q' q1 q2=>mT q1 hd hf hbt hl h1 ?_) (λA' E' s Q' q1 q2=>mT q1 hd hf hbt hl h1 ?_)
    ·have hi:i<es.size:=by have:=(List.getElem?_eq_some_iff.mp hx).1;simpa using this
     have hi0:i=0:=by omega
     subst hi0
     obtain⟨j,hj⟩:∃j,t.place=#[j]:=Array.size_eq_one_iff.mp (by omega)
     rw[if_pos rfl,pX hj,if_neg (by omega)]
     rw[List.getElem?_map,Array.getElem?_toList]at hx
     obtain⟨e,he,rfl⟩:=oY hx
     rw[he]
     simp only[hj]at q2 ⊢
     simpa using q2
    ·by_cases h0:es.size=0
     ·have hp0:t.place=#[]:=Array.eq_empty_of_size_eq_zero (by omega)
      have he0:es=#[]:=Array.eq_empty_of_size_eq_zero h0
      rw[hp0,he0]
      simpa using q2
     ·obtain⟨j,hj⟩:∃j,t.place=#[j]:=Array.size_eq_one_iff.mp (by omega)
      rw[if_neg h0,pX hj]
      have:t.place.getD 0 0=j:=by rw[hj];rfl
      rw[this,if_pos (by omega),Array.getElem?_eq_none (by omega)]
      exact q2
   ·exact⟨Heap.get?_push_size _ rfl,Heap.get?_push_of_some _ ho⟩
   ·simp only[List.mem_cons,List.not_mem_nil,or_false]at hb
    rcases hb with rfl|rfl
    ·exact .inr (Nat.le_refl _)
    ·exact .inl rfl
   ·intro v hv
    obtain⟨e,he,rfl⟩:=List.mem_map.mp hv
    exact hstrs e he
  ·have hp0:t.plain=false:=hpl (by omega)
   rw[if_pos (by rw[hbt,hp0,decide_eq_true (by omega)];rfl)]
   refine wX (xD es.size (List.range es.size) _ _ (by simp) λpl d pp=>?_)
   refine wX (wpAny_newTuple ?_ (by rw[List.length_map,pp.length_eq,List.length_range,sz];exact fits_of_scanBound hb))
   refine wX (wpAny_setEpoch_of (Heap.get?_push_of_some _ ho) hd hf ?_)
   refine wX (wpAny_newObj_type (wY ⟨_,rfl,"set_iterator",_,⟨_,Heap.get?_push_size _ rfl,rfl⟩,bu.lookup, ?_⟩))
   have hsz:(s.heap.push (seqObj "tuple" (pl.map λ(p:Nat)=>Value.int p 0).toArray 0)).objs.size=s.heap.objs.size+1:=size_push' _ _
   have hperm:((pl.map λp=>(es.getD p (0,.none)).2)).Perm (es.toList.map (·.2)):=by
    have:=(pp.map λp=>es.getD p (0,Value.none)).map (·.2)
    rw[wf]at this
    rw[List.map_map]at this
    exact this
   refine hQ _ d _ (pl.map λp=>(es.getD p (0,.none)).2) [(s.heap.push (seqObj "tuple" (pl.map λ(p:Nat)=>Value.int p 0).toArray 0)).objs.size,S,s.heap.objs.size] (λi h=>h.get? (s.heap.push (seqObj "tuple" (pl.map λ(p:Nat)=>Value.int p 0).toArray 0)).objs.size=some (jr (.ref s.heap.objs.size) i S es.size ep)/\h.get? S=some o/\h.get? s.heap.objs.size=some (seqObj "tuple" (pl.map λ(p:Nat)=>Value.int p 0).toArray 0)) (λA' hA=>?_) ?_ (λb u e=>Heap.get?_push_of_some _ (Heap.get?_push_of_some _ e)) ?_ (λb hb=>?_) ?_ ?_ ?_
   ·rw[←sz]
    exact we (nt:=0) hA hd hf (by show S≠(s.heap.push _).objs.size;rw[size_push'];exact Nat.ne_of_lt (Nat.lt_succ_of_lt hSlt)) (by show s.heap.objs.size≠(s.heap.push _).objs.size;rw[size_push'];exact Nat.ne_of_lt (Nat.lt_succ_self _)) pp
   ·exact⟨Heap.get?_push_size _ rfl,Heap.get?_push_of_some _ (Heap.get?_push_of_some _ ho),Heap.get?_push_of_some _ (Heap.get?_push_size _ rfl)⟩
   ·show s.heap.objs.size<=(s.heap.push _).objs.size
    rw[size_push'];omega
   ·simp only[List.mem_cons,List.not_mem_nil,or_false]at hb
    rcases hb with rfl|rfl|rfl
    ·refine .inr ?_
     show s.heap.objs.size<=(s.heap.push _).objs.size
     rw[size_push'];omega
    ·exact .inl rfl
    ·exact .inr (Nat.le_refl _)
   ·rw[hperm.length_eq,List.length_map,Array.length_toList,sz]
   ·exact((hperm.map strOf).trans (by rw[hmap])).trans hp
   ·intro v hv
    obtain⟨e,he,rfl⟩:=List.mem_map.mp (hperm.mem_iff.mp hv)
    exact hstrs e he
end
theorem yV {vs:List Value}{acc:Array Value}(h:ItemsOf (λi v=>vs[i]? = some v) acc vs.length):acc.toList=vs:=by
 apply List.ext_getElem?
 intro i
 by_cases hi:i<acc.size
 ·have e:acc[i]? = some acc[i]:=Array.getElem?_eq_getElem hi
  rw[Array.getElem?_toList,e,h.2 i _ e]
 ·rw[List.getElem?_eq_none (by rw[Array.length_toList];omega),List.getElem?_eq_none (by rw[←h.1];omega)]
section
variable {prog:Program}{w:World}{A:Around}{E:Value->Shared->Prop}{s:Shared}
theorem tR {S:Addr}{ts:List Str}{Q:List Value->Shared->Prop}(hh:A.handled=none) (hS:fT prog w s.heap S ts)
  (hQ:∀s' vs,(∀b u,s.heap.get? b=some u->s'.heap.get? b=some u)->s'.gens=s.gens->s'.os=s.os->vs.length=ts.length->(vs.map strOf).Perm ts->(∀v∈vs,∃x t,v=.str x t)->Q vs s') :
  wpAny (model prog w) A (collect (.ref S)) Q E s:=by
 have hty:∀(s1:Shared),fT prog w s1.heap S ts->s1.TypeIs (.ref S) "set":=λs1 h=>by
  obtain⟨o,_,_,_,ho,hex,_⟩:=h
  exact⟨o,ho,hex.1⟩
 have hlt:S<s.heap.objs.size:=by obtain⟨o,_,_,_,ho,_⟩:=hS;exact Heap.lt_size ho
 have hscan:ts.length<scanBound:=by obtain⟨_,_,_,_,_,_,_,_,_,_,h,_⟩:=hS;exact h
 unfold collect
 refine wX (wpAny_runValue (codeAny_builtin PySem.F.entry_proto_collect ?_))
 rw[Around.under_plainId PySem.F.plain_proto_collect _]
 show wpAny _ A.in1 (newList []>>=λl=>again (.builtin "list.__iadd__" ⟨[l,.ref S],[]⟩)) _ _ s
 refine wX (wpAny_newObj_type ?_)
 refine wY ⟨plainId_quiet PySem.F.plain_list_iadd _,codeAny_builtin PySem.F.entry_list_iadd ?_⟩
 rw[Around.under_plainId PySem.F.plain_list_iadd _]
 show wpAny _ A.in1 (Builtin.List.listExtendWith (.ref s.heap.objs.size) (.ref S) (.ref s.heap.objs.size)) _ _ _
 unfold Builtin.List.listExtendWith
 have hS1:fT prog w (s.heap.push { cls:=.type "list",data:=.seq ([]:List Value).toArray }) S ts:=hS.at λo e=>Heap.get?_push_of_some _ e
 refine wX (wpAny_typeOf (hty _ hS1) ?_)
 have hSI:s.heap.objs.size≠S:=Nat.ne_of_gt hlt
 have h1:Builtin.List.listSameRef (.ref s.heap.objs.size) (.ref S)=false:=by simp[Builtin.List.listSameRef,hSI]
 have h2:(Value.type "set" == Value.type "list")=false:=by decide
 have h3:(Value.type "set" == Value.type "tuple")=false:=by decide
 simp only[h1,h2,h3,Bool.or_false,Bool.false_eq_true,if_false]
 refine wX (A2 (s:={ s with heap:=s.heap.push { cls:=.type "list",data:=.seq ([]:List Value).toArray } }) hS1 λh' d it vs fp St W hst hk hit hfp hvl hperm hstr=>?_)
 have hS2:fT prog w h' S ts:=hS1.at λo e=>hk _ _ e
 refine wX (wpAny_holding ?_)
 unfold Builtin.List.listLengthHint
 refine wX (wpAny_specialOf (hty _ hS2) PySem.F.slot_set_len.lookup ?_)
 wp_delta
 refine wX (wpAny_isInstance (hty _ hS2) sub_set_self ?_)
 show wpAny _ A.in1 (typeOf (Value.ref S)>>=_) _ _ _
 refine wX (wpAny_typeOf (hty _ hS2) ?_)
 refine wY ?_
 rw[if_pos (by decide)]
 refine wX (wpAny_rule ?_)
 refine wX ?_
 have hsz0:(s.heap.push { cls:=.type "list",data:=.seq ([]:List Value).toArray }).objs.size=s.heap.objs.size+1:=size_push' _ _
 have hL1:h'.get? s.heap.objs.size=some { cls:=.type "list",data:=.seq ([]:List Value).toArray }:=hk _ _ (Heap.get?_push_size _ rfl)
 show wpAny _ A.in1 (updateSeq s.heap.objs.size (·.push .none)>>=λ_=>updateSeq s.heap.objs.size (·.pop)) _ _ _
 refine wX (wpAny_updateSeq hL1 rfl ?_)
 have hL2:=Heap.get?_update_self (Obj.mapSeq (·.push Value.none)) hL1 rfl
 refine wpAny_updateSeq hL2 rfl ?_
 have hL3:=Heap.get?_update_self (Obj.mapSeq (·.pop)) hL2 rfl
 have hSf:s.heap.objs.size∉fp:=λhm=>by
  rcases hfp _ hm with z|z
  ·exact hSI z
  ·rw[hsz0]at z;exact absurd z (Nat.not_succ_le_self _)
 have oth:∀b u,b≠s.heap.objs.size->h'.get? b=some u ->
   ((h'.update s.heap.objs.size (Obj.mapSeq (·.push Value.none))).update s.heap.objs.size (Obj.mapSeq (·.pop))).get? b=some u :=
  λb u hb e=>(Heap.get?_update_other _ _ (Ne.symm hb)).trans ((Heap.get?_update_other _ _ (Ne.symm hb)).trans e)
 have W0:=W A.in1 hh
 refine wY ⟨plainId_quiet PySem.F.plain_extend_loop _,codeAny_extend_loopS W0.toS (fits_of_scanBound hscan) _ hSf _ ts.length 0 _ _ _ rfl (Nat.zero_le _)
  (W0.frame 0 _ _ hst λb hb u e=>oth b u (λz=>hSf (z ▸ hb)) e) hL3 (ItemsOf.nil _) λs' acc' c' hm hL' hacc=>?_⟩
 show wpAny _ A (load s.heap.objs.size>>=_) _ _ s'
 refine wX (wpAny_load hL' ?_)
 rw[←hvl]at hacc
 refine wY ?_
 show Q acc'.toList s'
 rw[yV hacc]
 refine hQ s' vs (λb u e=>hm.heap b u (λhb=>?_) (oth b u (Nat.ne_of_lt (Heap.lt_size e)) (hk _ _ (Heap.get?_push_of_some _ e)))) hm.gens hm.os hvl hperm hstr
 have hl:=Heap.lt_size e
 simp only[List.mem_cons,List.not_mem_nil,or_false]at hb
 rcases hb with rfl|rfl
 ·exact absurd hl (Nat.lt_irrefl _)
 ·rw[hsz0]at hit;exact absurd (Nat.lt_of_lt_of_le hl (Nat.le_of_succ_le hit)) (Nat.lt_irrefl _)
theorem wg {S:Addr}{ts:List Str}{Q:Value->Shared->Prop}(hh:A.handled=none) (hS:fT prog w s.heap S ts) (h64:ts.length<64)
  (hQ:∀(s1:Shared) (h':Heap) (a:Addr) (out:Array Value) (n:Nat) (ss':List Str),(∀b u,s.heap.get? b=some u->s1.heap.get? b=some u)->s1.os=s.os->s1.gens=s.gens->(∀b u,s1.heap.get? b=some u->h'.get? b=some u)->s1.heap.objs.size<=a->h'.get? a=some (seqObj "list" out n) ->
   StrsAre out.toList ss'->ss'.Perm ts->sortedS ss'=true->Q (.ref a) { s1 with heap:=h' }) :
  wpAny (model prog w) A (call (.builtin "sorted") [.ref S]) Q E s:=by
 refine Calls.call_function_entry kind_sorted plain_sorted entry_sorted (args_sorted1 _) ?_
 unfold Builtin.«sorted»
 refine wX (m:=checkCount "sorted" 1 1 _) (wY ?_)
 refine wX (tR (A:=A.in1) (by exact hh) hS λs1 vs hk hg hos hvl hperm hstr=>?_)
 have hst:StrsAre vs (vs.map strOf):=strsAre_map vs hstr
 refine wX (wpAny_newList ?_ (by rw[hvl,sizeLine_eq];omega))
 have hoL:(s1.heap.push (seqObj "list" vs.toArray 0)).get? s1.heap.objs.size=some (seqObj "list" vs.toArray 0):=Heap.get?_push_size _ rfl
 show wpAny _ _ _ _ _ { s1 with heap:=s1.heap.push (seqObj "list" vs.toArray 0) }
 refine wX (wpAny_holding (wpAny_call_entry slot_list_sort ⟨_,hoL,rfl⟩ entry_list_sort (list_sort_treeK strKind_oneLt hoL hst.keysOf (λv₁ v₂ a9 e=>keyKind_strs (by rw[←e];exact hst)) (by rw[hvl];exact h64) λst' a1 a2=>⟨_,rfl, ?_⟩) (args_list_sort _)))
 obtain⟨ss',b1,b2,b3⟩:=sorted_out_str hst a1 a2
 obtain⟨e,he⟩:=sortedHeap_at (out:=(arrOf st').map (·.2)) hoL
 refine wY ⟨_,rfl,hQ s1 _ _ _ e ss' hk hos hg (λb u q=>?_) (Nat.le_refl _) he b1 (b2.trans hperm) b3⟩
 have hl:=Heap.lt_size q
 rw[sortedHeap_old (Nat.ne_of_lt hl) (by rw[size_push'];exact Nat.lt_succ_of_lt hl)]
 exact Heap.get?_push_of_some _ q
end
end DL
namespace DL
open PySem PySem.Spec PyProof.Rows L2
def leT (a b:Str):Prop:=¬b.cps.toList<a.cps.toList
theorem xF {a b:Str}:ltCps b.cps.toList a.cps.toList=false↔leT a b:=by rw[ltCps_eq,decide_eq_false_iff_not];rfl
theorem pY {a b c:Str}(h:leT a b) (k:leT b c):leT a c:=by
 unfold leT at *
 exact List.not_lt.mpr (List.le_trans (List.not_lt.mp h) (List.not_lt.mp k))
theorem A3 {a b:Str}(h:leT a b) (k:leT b a):a=b:=by
 have e:a.cps.toList=b.cps.toList:=List.le_antisymm (List.not_lt.mp h) (List.not_lt.mp k)
 obtain⟨a⟩:=a;obtain⟨b⟩:=b
 have:a=b:=Array.toList_inj.mp e
 rw[this]
def wj (x:Str):List Str->List Str
 | []=>[x]
 | y::r=>if ltCps y.cps.toList x.cps.toList then y::wj x r else x::y::r
def je (l:List Str):List Str:=l.foldr wj []
theorem lg (x:Str):∀l,(wj x l).Perm (x::l)
 | []=>List.Perm.refl _
 | y::r=>by
  unfold wj
  split
  ·exact((lg x r).cons y).trans (List.Perm.swap x y r)
  ·exact List.Perm.refl _
theorem dM:∀l,(je l).Perm l
 | []=>List.Perm.refl _
 | x::l=>(lg x (je l)).trans ((dM l).cons x)
theorem pZ (x:Str):∀l,l.Pairwise leT->(wj x l).Pairwise leT
 | [],_=>by simp[wj]
 | y::r,h=>by
  obtain⟨h1,h2⟩:=List.pairwise_cons.mp h
  unfold wj
  split
  ·rename_i hl
   refine List.pairwise_cons.mpr ⟨λz hz=>?_,pZ x r h2⟩
   rcases List.mem_cons.mp ((lg x r).mem_iff.mp hz)with rfl|hz
   ·rw[ltCps_eq,decide_eq_true_eq]at hl
    exact λk=>List.lt_irrefl _ (List.lt_trans hl k)
   ·exact h1 z hz
  ·rename_i hl
   rw[Bool.not_eq_true]at hl
   have hxy:leT x y:=xF.mp hl
   refine List.pairwise_cons.mpr ⟨λz hz=>?_,h⟩
   rcases List.mem_cons.mp hz with rfl|hz
   ·exact hxy
   ·exact pY hxy (h1 z hz)
theorem mU:∀l,(je l).Pairwise leT
 | []=>List.Pairwise.nil
 | x::l=>pZ x _ (mU l)
theorem lL:∀(l:List Str) (p:Str),risingS p l=true->(p::l).Pairwise leT
 | [],p,_=>List.pairwise_singleton _ _
 | x::r,p,h=>by
  have h':(!ltCps x.cps.toList p.cps.toList && risingS x r)=true:=h
  rw[Bool.and_eq_true]at h'
  have hpx:leT p x:=xF.mp (by simpa using h'.1)
  have ih:=lL r x h'.2
  refine List.pairwise_cons.mpr ⟨λz hz=>?_,ih⟩
  rcases List.mem_cons.mp hz with rfl|hz
  ·exact hpx
  ·exact pY hpx ((List.pairwise_cons.mp ih).1 z hz)
theorem tS:∀(l:List Str),sortedS l=true->l.Pairwise leT
 | [],_=>List.Pairwise.nil
 | x::r,h=>lL r x h
theorem tT (a:Str):leT a a:=List.lt_irrefl _
theorem mV:∀(l1 l2:List Str),l1.Perm l2->l1.Pairwise leT->l2.Pairwise leT->l1=l2
 | [],l2,p,_,_=>(List.nil_perm.mp p).symm
 | x::r1,[],p,_,_=>absurd p.length_eq (by simp)
 | x::r1,y::r2,p,h1,h2=>by
  have hxy:leT x y:=by
   rcases List.mem_cons.mp (p.mem_iff.mpr (mX ..))with z|z
   ·rw[z];exact tT _
   ·exact(List.pairwise_cons.mp h1).1 y z
  have hyx:leT y x:=by
   rcases List.mem_cons.mp (p.mem_iff.mp (mX ..))with z|z
   ·rw[z];exact tT _
   ·exact(List.pairwise_cons.mp h2).1 x z
  have e:=A3 hxy hyx
  subst e
  rw[mV r1 r2 (List.Perm.cons_inv p) (List.pairwise_cons.mp h1).2 (List.pairwise_cons.mp h2).2]
theorem yW {l l':List Str}(p:l'.Perm l) (h:sortedS l'=true):l'=je l:=mV _ _ (p.trans (dM l).symm) (tS _ h) (mU l)
section
variable {X:Cx}
def A4 (X:Cx) (S:Addr) (ts:List Str):HO:=.ext λh=>fT X.prog X.w h S ts
theorem yX {pins:List (Addr×Obj)}{σ:St}{H:Hp}{s s1:Shared}(I:Inv X pins σ H s) (k:∀b u,s.heap.get? b=some u->s1.heap.get? b=some u) (ho:s1.os=s.os) (hg:s1.gens=s.gens):Inv X pins σ H s1:=by
 have I1:=I.step (g':=s.gens) (d':=s1.drawn) (t':=s1.toks) (h':=s1.heap) (H':=H) (ch:=[]) (λ_ z=>nomatch z) (λb o _ _ _ e _=>k b o e) (λb o _ _ _ e _=>⟨o.slots,k b o e⟩) (λ_ _ _ _ n=>n)
  (λb o _ e=>⟨o,k b o e⟩) (λ_ _ e=>e) (λ_ _ _ e=>e) (λ_ _ e=>e) (λm hm=>?_) (I.hok.kept k) I.bare
 ·obtain⟨h1,g1,d1,t1,o1⟩:=s1
  cases ho;cases hg
  exact I1
 ·obtain⟨o,es,ep,ho,r⟩:=hm
  exact⟨o,es,ep,k _ o ho,r⟩
theorem tU (hc:X.calm=true):bI X (.type "set") (λxs H Q=>∃p ys ss,xs=[.ref p]/\SqL X.K H p ys/\(∀its,aX ys its->StrsAre its ss)/\ss.length<4000/\∀S,H S=none->Q (.ref S) (upd H S (A4 X S (fB ss)))):=by
 intro pins s σ H xs us Q I r h
 obtain⟨p,ys,ss,rfl,hq,hs,h64,q⟩:=h
 obtain⟨u,rfl,rx⟩:=fD r
 cases rx
 obtain⟨its,r',pl,hz⟩:=I.list hq
 have hst:=hs its r'
 have hlen:its.length=ss.length:=by rw[←hst.strs,List.length_map]
 refine mR (I.ok.hd hc) pl.isList (by simpa using hst) (by simp only[List.size_toArray];unfold scanBound;omega) λh' tk hS hk=>?_
 refine⟨.ref s.heap.objs.size,_,I.laid (t':=tk) (λb u e=>hk b u (Heap.lt_size e) e) (Nat.le_refl _) ?_,rfl,q _ (I.hok.fresh (Nat.le_refl _))⟩
 refine⟨hS, ?_,λh1 h2 z k=>z.at k⟩
 obtain⟨o,_,_,_,ho,_⟩:=hS
 exact⟨o,ho⟩
theorem m4 (hc:X.calm=true):bI X (.builtin "sorted") (λxs H Q=>∃S ts,xs=[.ref S]/\H S=some (A4 X S ts)/\ts.length<64/\∀l,H l=none->Q (.ref l) (upd H l (.lst ((je ts).map .str)))):=by
 intro pins s σ H xs us Q I r h
 obtain⟨S,ts,rfl,hS,h64,q⟩:=h
 obtain⟨u,rfl,rx⟩:=fD r
 cases rx
 have hT:fT X.prog X.w s.heap S ts:=(I.hok S _ hS).1
 refine wg (I.ok.hd hc) hT h64 λs1 h' a out n ss' k1 ho hg k2 hp he hst hperm hso=>?_
 have e:=yW hperm hso
 subst e
 have I1:=yX I k1 ho hg
 have hv:∀ {its:List Value}{zs:List Str},StrsAre its zs->aX (zs.map V.str) its:=λz=>by
  induction z with
  | nil=>exact .nil
  | cons x t _ ih=>exact .cons ⟨t,rfl⟩ ih
 refine⟨.ref a,_,I1.laid (t':=s1.toks) k2 hp (show bH X.prog X.w _ h' _ (.lst _)from ⟨?_,out.toList,n,hv hst,he⟩),rfl,q _ (I1.hok.fresh hp)⟩
 rw[List.length_map,(dM ts).length_eq,sizeLine_eq];omega
end
@[simp] def eD:D->Option (D×Bool)
 | .lst ds=>(fm ds).bind λss=>if ss.length<64 then some (.lst ((je (fB ss)).map .str),true)else none
 | _=>none
@[simp] def Hd:D->Option (D×Bool)
 | .lst ds=>(fm ds).bind λss=>if ss.length<4000 then some (.int ((fB ss).length:Nat),false)else none
 | _=>none
theorem A5:bootBuiltins "sorted" = some (.builtin "sorted"):=by decide +kernel
theorem GO:bootBuiltins "set" = some (.type "set"):=by decide +kernel
theorem mW {K:PySem.W.Frag}{N:Hp}:∀(zs:List Str),IsL K N (zs.map V.str) (zs.map D.str)
 | []=>.nil
 | z::zs=>.cons (.str z) (mW zs)
section
variable {X:Cx}{e:Expr}{pos pos2 p p2:Pos}
theorem ng {f:FE}(hc:X.calm=true) (m1:X.mg "sorted" = none) (m2:X.mg "set" = none) (he:JE X e f) (g1:Gl X "sorted":=by rfl) (g2:Gl X "set":=by rfl)
  (h1:starEach [e] X.env=(false,eval e X.env)::starEach [] X.env:=by rfl):JE X (.Call (.Name "sorted" p) [.Call (.Name "set" p2) [e] [] pos2] [] pos) (f1 eD f):=by
 refine PE.to (sJ (m4 hc) g1 m1 A5 (fE (pF (tU hc) g2 m2 GO (fE he hZ h1) (he:=h1)) hZ)) λσ H Q q=>?_
 obtain⟨B,ρ,d',bb,sB,r,ee,q⟩:=q
 obtain⟨x1,ex,ee⟩:=oX ee
 refine⟨B,ρ,x1.1,x1.2,sB,r,ex,λv H1 N1 xt i1 fr=>?_⟩
 obtain⟨xd,xb⟩:=x1
 cases i1<;>try (simp[eD]at ee;done)
 rename_i l0 vs ds h hl
 simp only[eD]at ee
 obtain⟨ss,ez,ee⟩:=oX ee
 split at ee
 ·rename_i h64
  cases ee
  refine⟨_,_,ss,rfl,xt.nh.seq h,λits r'=>im r' hl ez,by omega,λS hS=>⟨S,_,rfl,aJ,Nat.lt_of_le_of_lt (mQ ss) h64,λl hl'=>?_⟩⟩
  have x2:=Ext.laid (o:=A4 X S (fB ss)) xt.nh hS
  have x3:=Ext.laid (o:=.lst ((je (fB ss)).map V.str)) x2.nh hl'
  have hl0:H l=none:=((xt.trans x2).hh).free hl'
  exact q _ _ _ ((xt.trans x2).trans x3) (.lst (SqL.of aJ) (mW _)) λ_=>⟨_,_,_,rfl,rfl,hl0,aJ,mW _⟩
 ·cases ee
end
end DL
namespace DL
open PySem PySem.Spec PySem.W PyProof.Rows
inductive Run (n:Nat) (lt:Nat->Nat->Bool) {α:Type}:KasT α->α->Prop where
 | ret (a:α):Run n lt (.ret a) a
 | ask {i j:Nat}{k:Bool->KasT α}{a:α}(hi:i<n) (hj:j<n) (h:Run n lt (k (lt i j)) a):Run n lt (.ask i j k) a
theorem Run.bind {n:Nat}{lt:Nat->Nat->Bool}{α β:Type}{t:KasT α}{f:α->KasT β}{a:α}{b:β}(h:Run n lt t a) (k:Run n lt (f a) b):Run n lt (t.bind f) b:=by
 induction h with
 | ret a=>exact k
 | ask hi hj _ ih=>exact .ask hi hj (ih k)
theorem Run.wp {n:Nat}{lt:Nat->Nat->Bool}{α:Type}{cmp:Nat->Nat->(Bool->Shared->Prop)->Shared->Prop}{Q:α->Shared->Prop}{t:KasT α}{a:α}(J:Shared->Prop)
  (hc:∀i j C s,i<n->j<n->J s->(∀s',J s'->C (lt i j) s')->cmp i j C s) (h:Run n lt t a):∀ {s:Shared},J s->(∀s',J s'->Q a s')->t.kasWp cmp Q s:=by
 induction h with
 | ret a=>intro s hJ hQ;exact hQ s hJ
 | ask hi hj _ ih=>intro s hJ hQ;exact hc _ _ _ _ hi hj hJ λs' hJ'=>ih hJ' hQ
section
variable {n:Nat}{rk:Nat->Int}
abbrev ltR (rk:Nat->Int) (i j:Nat):Bool:=decide (rk i<rk j)
def bP (rk:Nat->Int) (p:Array Nat) (k:Nat):Int:=rk (p.getD k 0)
structure Arr (n:Nat) (p:Array Nat):Prop where
 size:p.size=n
 perm:p.toList.Perm (List.range n)
theorem Arr.lt {p:Array Nat}(h:Arr n p) {k:Nat}(hk:k<n):p.getD k 0<n:=by
 have hk':k<p.size:=by rw[h.size];exact hk
 have:p.getD k 0=p[k]:=by rw[Array.getD_eq_getD_getElem?,Array.getElem?_eq_getElem hk'];rfl
 rw[this]
 exact List.mem_range.mp (h.perm.mem_iff.mp (by simp))
theorem Arr.rev {p:Array Nat}(h:Arr n p) (i j:Nat):Arr n (kas_rev p i j) :=
 ⟨(mirror_size _ _ _ _).trans h.size,(Array.perm_iff_toList_perm.mp (mirror_perm p i j _)).trans h.perm⟩
theorem Arr.bub {p:Array Nat}(h:Arr n p) (k d:Nat):Arr n (bubble p k d) :=
 ⟨(bubble_size _ _ _).trans h.size,(Array.perm_iff_toList_perm.mp (bubble_perm p k d)).trans h.perm⟩
theorem rC {p:Array Nat}{i j:Nat}(hj:j<=p.size) (k:Nat):bP rk (kas_rev p i j) k=if i<=k/\k<j then bP rk p (i+j - 1 - k)else bP rk p k:=by
 unfold bP kas_rev
 rw[Array.getD_eq_getD_getElem?,getElem?_mirror_all hj]
 split<;>rw[Array.getD_eq_getD_getElem?]
theorem A6 {p:Array Nat}{src d:Nat}(hs:src<p.size) (hd:d<=src) (k:Nat):bP rk (bubble p src d) k=if k=src - d then bP rk p src else if src - d<k/\k<=src then bP rk p (k - 1)else bP rk p k:=by
 unfold bP
 simp only[Array.getD_eq_getD_getElem?]
 rw[getElem?_bubble hs d hd]
 repeat' split
 all_goals rfl
def Up (rk:Nat->Int) (p:Array Nat) (m:Nat):Prop:=∀i j,i<=j->j<m->bP rk p i<=bP rk p j
def rE (rk:Nat->Int) (p:Array Nat) (m:Nat):Prop:=∀i j,i<=j->j<m->bP rk p j<=bP rk p i
theorem Fl (p:Array Nat):Up rk p 1:=λi j h1 h2=>by
 have:i=j:=by omega
 subst this;exact Int.le_refl _
theorem rF {p:Array Nat}(h:Arr n p) {r:Nat}(hr:r<=n):∀(f m:Nat),r - m=f->1<=m->m<=r->Up rk p m->∃m',Run n (ltR rk) (kas_asc p f m) m'/\m<=m'/\m'<=r/\Up rk p m'/\(m'<r->bP rk p m'<bP rk p (m' - 1))
 | 0,m,hf,h1,hm,hu=>⟨m,.ret m,Nat.le_refl _,hm,hu,λz=>by omega⟩
 | f+1,m,hf,h1,hm,hu=>by
  have a1:=h.lt (k:=m) (by omega)
  have a2:=h.lt (k:=m - 1) (by omega)
  by_cases hc:bP rk p m<bP rk p (m - 1)
  ·refine⟨m,.ask a1 a2 ?_,Nat.le_refl _,hm,hu,λ_=>hc⟩
   have:ltR rk (p.getD m 0) (p.getD (m - 1) 0)=true:=decide_eq_true hc
   rw[this,if_pos rfl];exact .ret m
  ·have hu':Up rk p (m+1):=λi j hij hj=>by
    by_cases e:j=m
    ·subst e
     by_cases e2:i=j
     ·subst e2;exact Int.le_refl _
     ·have:=hu i (j - 1) (by omega) (by omega);omega
    ·exact hu i j hij (by omega)
   obtain⟨m',q1,q2,q3,q4,q5⟩:=rF h hr f (m+1) (by omega) (by omega) (by omega) hu'
   refine⟨m',.ask a1 a2 ?_,by omega,q3,q4,q5⟩
   have:ltR rk (p.getD m 0) (p.getD (m - 1) 0)=false:=decide_eq_false hc
   rw[this,if_neg Bool.false_ne_true];exact q1
def C2 (rk:Nat->Int) (p:Array Nat) (m q:Nat):Prop:=q+1<=m/\∀k,m - (q+1)<=k->k<m->bP rk p k=bP rk p (m - 1)
theorem tV {p:Array Nat}{m q:Nat}(hs:m<=p.size) (hf:C2 rk p m q) (k:Nat):bP rk (kas_rev p (m - (q+1)) m) k=bP rk p k:=by
 rw[rC hs]
 split
 ·rename_i hk
  have h0:=hf.1
  rw[hf.2 k hk.1 hk.2,hf.2 _ (by omega) (by omega)]
 ·rfl
theorem xG {p p':Array Nat}{m:Nat}(e:∀k,bP rk p' k=bP rk p k) (h:rE rk p m):rE rk p' m:=λi j h1 h2=>by rw[e,e];exact h i j h1 h2
theorem ni (p:Array Nat) {m:Nat}(h:1<=m):C2 rk p m 0:=⟨h,λk h1 h2=>by
 have:k=m - 1:=by omega
 rw[this]⟩
theorem jT {r:Nat}(hr:r<=n):∀(f:Nat) (p:Array Nat) (m q:Nat),Arr n p->r - m=f->1<=m->m<=r->rE rk p m->C2 rk p m q->∃p' m' q',Run n (ltR rk) (kas_desc f p m q) (p',m',q')/\Arr n p'/\m<=m'/\m'<=r/\rE rk p' m'/\C2 rk p' m' q'
 | 0,p,m,q,h,hf,h1,hm,hd,hq=>⟨p,m,q,.ret _,h,Nat.le_refl _,hm,hd,hq⟩
 | f+1,p,m,q,h,hf,h1,hm,hd,hq=>by
  have a1:=h.lt (k:=m) (by omega)
  have a2:=h.lt (k:=m - 1) (by omega)
  have step:∀p':Array Nat,(∀k,bP rk p' k=bP rk p k)->bP rk p m<=bP rk p (m - 1)->rE rk p' (m+1):=λp' e hle i j hij hj=>by
   rw[e,e]
   by_cases z:j=m
   ·subst z
    by_cases z2:i=j
    ·subst z2;exact Int.le_refl _
    ·have:=hd i (j - 1) (by omega) (by omega);omega
   ·exact hd i j hij (by omega)
  by_cases hc:bP rk p m<bP rk p (m - 1)
  ·have hcl:ltR rk (p.getD m 0) (p.getD (m - 1) 0)=true:=decide_eq_true hc
   by_cases hq0:q > 0
   ·have e:=tV (p:=p) (by rw[h.size];omega) hq
    obtain⟨p',m',q',g1,g2,g3,g4,g5,g6⟩:=jT hr f (kas_rev p (m - (q+1)) m) (m+1) 0 (h.rev _ _) (by omega) (by omega) (by omega) (step _ e (by omega)) (ni _ (by omega))
    refine⟨p',m',q',.ask a1 a2 ?_,g2,by omega,g4,g5,g6⟩
    rw[hcl,if_pos rfl,if_pos hq0];exact g1
   ·obtain⟨p',m',q',g1,g2,g3,g4,g5,g6⟩:=jT hr f p (m+1) 0 h (by omega) (by omega) (by omega) (step _ (λ_=>rfl) (by omega)) (ni _ (by omega))
    refine⟨p',m',q',.ask a1 a2 ?_,g2,by omega,g4,g5,g6⟩
    rw[hcl,if_pos rfl,if_neg hq0];exact g1
  ·have hcl:ltR rk (p.getD m 0) (p.getD (m - 1) 0)=false:=decide_eq_false hc
   by_cases hc2:bP rk p (m - 1)<bP rk p m
   ·have hcl2:ltR rk (p.getD (m - 1) 0) (p.getD m 0)=true:=decide_eq_true hc2
    refine⟨p,m,q,.ask a1 a2 ?_,h,Nat.le_refl _,hm,hd,hq⟩
    rw[hcl,if_neg Bool.false_ne_true]
    refine .ask a2 a1 ?_
    rw[hcl2,if_pos rfl];exact .ret _
   ·have hcl2:ltR rk (p.getD (m - 1) 0) (p.getD m 0)=false:=decide_eq_false hc2
    have he:bP rk p m=bP rk p (m - 1):=by omega
    obtain⟨p',m',q',g1,g2,g3,g4,g5,g6⟩:=jT hr f p (m+1) (q+1) h (by omega) (by omega) (by omega) (step _ (λ_=>rfl) (by omega)) ⟨by have:=hq.1;omega,λk k1 k2=>by
     rw[Nat.add_sub_cancel]
     by_cases z:k=m
     ·rw[z]
     ·rw[hq.2 k (by omega) (by omega),he]⟩
    refine⟨p',m',q',.ask a1 a2 ?_,g2,by omega,g4,g5,g6⟩
    rw[hcl,if_neg Bool.false_ne_true]
    refine .ask a2 a1 ?_
    rw[hcl2,if_neg Bool.false_ne_true];exact g1
theorem tW {r:Nat}(hr:r<=n) {p:Array Nat}(h:Arr n p) {m:Nat}(h1:1<=m) (hm:m<=r) (hd:rE rk p m):∃m' p',Run n (ltR rk) (kas_tail3 m r p) (m',p')/\Arr n p'/\1<=m'/\m'<=r/\Up rk p' m':=by
 have hu:Up rk (kas_rev p 0 m) m:=λi j hij hj=>by
  rw[rC (by rw[h.size];omega),rC (by rw[h.size];omega),if_pos (by omega),if_pos (by omega)]
  exact hd _ _ (by omega) (by omega)
 obtain⟨m',q1,q2,q3,q4,_⟩:=rF (h.rev 0 m) hr (r - m) m rfl h1 hm hu
 exact⟨m',_,q1.bind (.ret _),h.rev 0 m,by omega,q3,q4⟩
theorem tX {r:Nat}(hr:r<=n) {p:Array Nat}(h:Arr n p) {m:Nat}(hm:m+1<=r) (hd:rE rk p (m+1)):∃m' p',Run n (ltR rk) (kas_descPart m r p) (m',p')/\Arr n p'/\1<=m'/\m'<=r/\Up rk p' m':=by
 obtain⟨p1,m1,q1,g1,g2,g3,g4,g5,g6⟩:=jT hr (r - (m+1)) p (m+1) 0 h rfl (by omega) hm hd (ni _ (by omega))
 by_cases hq:q1 > 0
 ·obtain⟨m',p',k1,k2,k3,k4,k5⟩:=tW hr (g2.rev (m1 - (q1+1)) m1) (m:=m1) (by omega) g4 (xG (tV (by rw[g2.size];omega) g6) g5)
  exact⟨m',p',g1.bind (by dsimp only;rw[if_pos hq];exact k1),k2,k3,k4,k5⟩
 ·obtain⟨m',p',k1,k2,k3,k4,k5⟩:=tW hr g2 (m:=m1) (by omega) g4 g5
  exact⟨m',p',g1.bind (by dsimp only;rw[if_neg hq];exact k1),k2,k3,k4,k5⟩
theorem yY {p:Array Nat}(h:Arr n p) (hn:1<=n):∃m' p',Run n (ltR rk) (kas_count n p) (m',p')/\Arr n p'/\1<=m'/\m'<=n/\Up rk p' m':=by
 obtain⟨m,q1,q2,q3,q4,q5⟩:=rF h (Nat.le_refl n) (n - 1) 1 rfl (Nat.le_refl 1) hn (Fl (rk:=rk) p)
 by_cases e:m=n
 ·exact⟨m,p,q1.bind (by rw[if_pos (by simp[e])];exact .ret _),h,q2,q3,q4⟩
 ·have hlt:=q5 (by omega)
  have e1:¬(m == n)=true:=by simp[e]
  by_cases hm1:m > 1
  ·by_cases hc:bP rk p 0<bP rk p (m - 1)
   ·refine⟨m,p,q1.bind ?_,h,q2,q3,q4⟩
    rw[if_neg e1,if_pos hm1]
    refine .ask (h.lt (by omega)) (h.lt (by omega)) ?_
    have:ltR rk (p.getD 0 0) (p.getD (m - 1) 0)=true:=decide_eq_true hc
    rw[this,if_pos rfl];exact .ret _
   ·have hall:∀k,k<m->bP rk p k=bP rk p 0:=λk hk=>by
     have z1:=q4 0 k (by omega) hk
     have z2:=q4 k (m - 1) (by omega) (by omega)
     omega
    have er:∀k,bP rk (kas_rev p 0 m) k=bP rk p k:=λk=>by
     rw[rC (by rw[h.size];omega)]
     split
     ·rename_i z;rw[hall _ (by omega),hall k z.2]
     ·rfl
    have hd:rE rk p (m+1):=λi j hij hj=>by
     by_cases z:j=m
     ·subst z
      by_cases z2:i=j
      ·subst z2;exact Int.le_refl _
      ·rw[hall i (by omega)];rw[hall (j - 1) (by omega)]at hlt;omega
     ·rw[hall i (by omega),hall j (by omega)];exact Int.le_refl _
    obtain⟨m',p',k1,k2,k3,k4,k5⟩:=tX (Nat.le_refl n) (h.rev 0 m) (m:=m) (by omega) (xG er hd)
    refine⟨m',p',q1.bind ?_,k2,k3,k4,k5⟩
    rw[if_neg e1,if_pos hm1]
    refine .ask (h.lt (by omega)) (h.lt (by omega)) ?_
    have:ltR rk (p.getD 0 0) (p.getD (m - 1) 0)=false:=decide_eq_false hc
    rw[this,if_neg Bool.false_ne_true];exact k1
  ·have em:m=1:=by omega
   subst em
   have hd:rE rk p 2:=λi j hij hj=>by
    by_cases z2:i=j
    ·subst z2;exact Int.le_refl _
    ·have:i=0:=by omega
     have:j=1:=by omega
     subst_vars
     have:=hlt
     simp at this
     omega
   obtain⟨m',p',k1,k2,k3,k4,k5⟩:=tX (Nat.le_refl n) h (m:=1) (by omega) hd
   refine⟨m',p',q1.bind ?_,k2,k3,k4,k5⟩
   rw[if_neg e1,if_neg hm1];exact k1
theorem lh {p:Array Nat}(h:Arr n p) {k:Nat}(hk:k<n) (hu:Up rk p k):∀(f l r:Nat),r - l<=f->l<=r->r<=k->(∀i,i<l->bP rk p i<=bP rk p k)->(∀i,r<=i->i<k->bP rk p k<bP rk p i) ->
  ∃l',Run n (ltR rk) (kas_place p k f l r) l'/\l'<=k/\(∀i,i<l'->bP rk p i<=bP rk p k)/\(∀i,l'<=i->i<k->bP rk p k<bP rk p i)
 | 0,l,r,hf,hl,hr,h1,h2=>⟨l,.ret l,by omega,h1,λi a b=>h2 i (by omega) b⟩
 | f+1,l,r,hf,hl,hr,h1,h2=>by
  by_cases hge:l ≥ r
  ·refine⟨l, ?_,by omega,h1,λi a b=>h2 i (by omega) b⟩
   unfold kas_place;rw[if_pos hge];exact .ret l
  ·by_cases hc:bP rk p k<bP rk p ((l+r) / 2)
   ·obtain⟨l',q1,q2,q3,q4⟩:=lh h hk hu f l ((l+r) / 2) (by omega) (by omega) (by omega) h1 λi a b=>by
     have:=hu ((l+r) / 2) i a b;omega
    refine⟨l', ?_,q2,q3,q4⟩
    unfold kas_place;rw[if_neg hge]
    refine .ask (h.lt (by omega)) (h.lt (by omega)) ?_
    have:ltR rk (p.getD k 0) (p.getD ((l+r) / 2) 0)=true:=decide_eq_true hc
    rw[this,if_pos rfl];exact q1
   ·obtain⟨l',q1,q2,q3,q4⟩:=lh h hk hu f ((l+r) / 2+1) r (by omega) (by omega) hr (λi a=>by
     have:=hu i ((l+r) / 2) (by omega) (by omega);omega) h2
    refine⟨l', ?_,q2,q3,q4⟩
    unfold kas_place;rw[if_neg hge]
    refine .ask (h.lt (by omega)) (h.lt (by omega)) ?_
    have:ltR rk (p.getD k 0) (p.getD ((l+r) / 2) 0)=false:=decide_eq_false hc
    rw[this,if_neg Bool.false_ne_true];exact q1
theorem xH:∀(f:Nat) (p:Array Nat) (k:Nat),Arr n p->n - k=f->k<=n->Up rk p k->∃p',Run n (ltR rk) (kas_bin f p k) p'/\Arr n p'/\Up rk p' n
 | 0,p,k,h,hf,hk,hu=>⟨p,.ret p,h,(show k=n by omega) ▸ hu⟩
 | f+1,p,k,h,hf,hk,hu=>by
  have hk':k<n:=by omega
  obtain⟨l,q1,q2,q3,q4⟩:=lh h hk' hu k 0 k (by omega) (by omega) (Nat.le_refl _) (λi z=>by omega) (λi a b=>by omega)
  have hsz:k<p.size:=by rw[h.size];exact hk'
  have hu':Up rk (bubble p k (k - l)) (k+1):=λi j hij hj=>by
   rw[A6 hsz (by omega),A6 hsz (by omega)]
   have e:k - (k - l)=l:=by omega
   rw[e]
   by_cases i1:i=l
   ·rw[if_pos i1]
    by_cases j1:j=l
    ·rw[if_pos j1];exact Int.le_refl _
    ·rw[if_neg j1,if_pos (by omega)];have:=q4 (j - 1) (by omega) (by omega);omega
   ·rw[if_neg i1]
    by_cases i2:l<i/\i<=k
    ·rw[if_pos i2,if_neg (by omega),if_pos (by omega)];exact hu _ _ (by omega) (by omega)
    ·rw[if_neg i2]
     by_cases j1:j=l
     ·rw[if_pos j1];exact q3 i (by omega)
     ·rw[if_neg j1]
      by_cases j2:l<j/\j<=k
      ·rw[if_pos j2];exact hu _ _ (by omega) (by omega)
      ·rw[if_neg j2];exact hu _ _ hij (by omega)
  obtain⟨p',k1,k2,k3⟩:=xH f (bubble p k (k - l)) (k+1) (h.bub _ _) (by omega) (by omega) hu'
  exact⟨p',q1.bind k1,k2,k3⟩
theorem A7 (hn:1<=n):∃p,Run n (ltR rk) (kas_sort n) p/\Arr n p/\Up rk p n:=by
 have h0:Arr n (List.toArray (List.range n)):=⟨by simp,by simp⟩
 obtain⟨m,p,q1,q2,q3,q4,q5⟩:=yY (rk:=rk) h0 hn
 by_cases e:m<n
 ·have hmx:max m 1=m:=by omega
  obtain⟨p',k1,k2,k3⟩:=xH (n - max m 1) p (max m 1) q2 rfl (by omega) (by rw[hmx];exact q5)
  exact⟨p',q1.bind (by dsimp only;rw[if_pos e];exact k1),k2,k3⟩
 ·have:m=n:=by omega
  subst this
  exact⟨p,q1.bind (by dsimp only;rw[if_neg e];exact .ret _),q2,q5⟩
end
theorem iQ {a b c:List Int}(h:a<b) (k:b<c):a<c:=List.lt_trans h k
theorem yZ {a b c:List Int}(h:¬b<a) (k:¬c<b):¬c<a:=List.not_lt.mpr (List.le_trans (List.not_lt.mp h) (List.not_lt.mp k))
theorem A8 {a b:List Int}(h:¬b<a) (k:¬a<b):a=b:=List.le_antisymm (List.not_lt.mp h) (List.not_lt.mp k)
section
variable {α:Type}(f:α->List Int)
def leF (a b:α):Prop:=¬f b<f a
def wl (x:α):List α->List α
 | []=>[x]
 | y::r=>if f y<f x then y::wl x r else x::y::r
def gY (l:List α):List α:=l.foldr (wl f) []
theorem lm (x:α):∀l,(wl f x l).Perm (x::l)
 | []=>List.Perm.refl _
 | y::r=>by
  unfold wl
  split
  ·exact((lm x r).cons y).trans (List.Perm.swap x y r)
  ·exact List.Perm.refl _
theorem cM:∀l,(gY f l).Perm l
 | []=>List.Perm.refl _
 | x::l=>(lm f x (gY f l)).trans ((cM l).cons x)
theorem qc (x:α):∀l,l.Pairwise (leF f)->(wl f x l).Pairwise (leF f)
 | [],_=>by simp[wl]
 | y::r,h=>by
  obtain⟨h1,h2⟩:=List.pairwise_cons.mp h
  unfold wl
  split
  ·rename_i hl
   refine List.pairwise_cons.mpr ⟨λz hz=>?_,qc x r h2⟩
   rcases List.mem_cons.mp ((lm f x r).mem_iff.mp hz)with rfl|hz
   ·exact λk=>List.lt_irrefl _ (iQ hl k)
   ·exact h1 z hz
  ·rename_i hl
   refine List.pairwise_cons.mpr ⟨λz hz=>?_,h⟩
   rcases List.mem_cons.mp hz with rfl|hz
   ·exact hl
   ·exact yZ hl (h1 z hz)
theorem gF:∀l,(gY f l).Pairwise (leF f)
 | []=>List.Pairwise.nil
 | x::l=>qc f x _ (gF l)
theorem qd:∀(l1 l2:List α),(∀x∈l1,∀y∈l1,f x=f y->x=y)->l1.Perm l2->l1.Pairwise (leF f)->l2.Pairwise (leF f)->l1=l2
 | [],l2,_,p,_,_=>(List.nil_perm.mp p).symm
 | x::r1,[],_,p,_,_=>absurd p.length_eq (by simp)
 | x::r1,y::r2,hi,p,h1,h2=>by
  have hy:y∈x::r1:=p.mem_iff.mpr (mX ..)
  have hxy:leF f x y:=by
   rcases List.mem_cons.mp hy with z|z
   ·rw[z];exact List.lt_irrefl _
   ·exact(List.pairwise_cons.mp h1).1 y z
  have hyx:leF f y x:=by
   rcases List.mem_cons.mp (p.mem_iff.mp (mX ..))with z|z
   ·rw[z];exact List.lt_irrefl _
   ·exact(List.pairwise_cons.mp h2).1 x z
  have e:x=y:=hi x (mX ..) y hy (A8 hxy hyx)
  subst e
  rw[qd r1 r2 (λa ha b hb=>hi a (mZ _ ha) b (mZ _ hb)) (List.Perm.cons_inv p) (List.pairwise_cons.mp h1).2 (List.pairwise_cons.mp h2).2]
theorem nj {l l':List α}(hi:∀x∈l,∀y∈l,f x=f y->x=y) (p:l'.Perm l) (h:l'.Pairwise (leF f)):l'=gY f l :=
 qd f _ _ (λx hx y hy=>hi x (p.mem_iff.mp hx) y (p.mem_iff.mp hy)) (p.trans (cM f l).symm) h (gF f l)
end
theorem js {α:Type}{p q:α->Bool}(h:∀x,p x=true->q x=true):∀l:List α,(l.filter p).length<=(l.filter q).length
 | []=>Nat.le_refl _
 | x::l=>by
  have ih:=js h l
  rw[List.filter_cons,List.filter_cons]
  by_cases z:p x=true
  ·rw[if_pos z,if_pos (h x z)];simp only[List.length_cons];omega
  ·rw[if_neg z]
   split
   ·simp only[List.length_cons];omega
   ·exact ih
def jU (cs:List (List Int)) (c:List Int):Int:=((cs.filter λx=>decide (x<c)).length:Nat)
theorem C3 {cs:List (List Int)}{a b:List Int}(h:¬b<a):jU cs a<=jU cs b:=by
 unfold jU
 refine Int.ofNat_le.mpr (js (λx hx=>?_) cs)
 rw[decide_eq_true_eq]at hx ⊢
 rcases List.le_iff_lt_or_eq.mp (List.not_lt.mp h)with z|z
 ·exact iQ hx z
 ·rw[←z];exact hx
theorem xI {cs:List (List Int)}{a b:List Int}(ha:a∈cs) (h:a<b):jU cs a<jU cs b:=by
 unfold jU
 apply Int.ofNat_lt.mpr
 induction cs with
 | nil=>simp at ha
 | cons c cs ih =>
  have key:∀l:List (List Int),(l.filter λx=>decide (x<a)).length<=(l.filter λx=>decide (x<b)).length:=λl =>
   js (λx hx=>by rw[decide_eq_true_eq]at hx ⊢;exact iQ hx h) l
  rw[List.filter_cons,List.filter_cons]
  rcases List.mem_cons.mp ha with rfl|ha
  ·rw[if_neg (by simp[List.lt_irrefl]),if_pos (by simpa using h)]
   have:=key cs
   simp only[List.length_cons];omega
  ·have:=ih ha
   by_cases z:c<a
   ·rw[if_pos (by simpa using z),if_pos (by simpa using iQ z h)]
    simp only[List.length_cons];omega
   ·rw[if_neg (by simpa using z)]
    split
    ·simp only[List.length_cons];omega
    ·exact this
theorem A9 {cs:List (List Int)}{a b:List Int}(ha:a∈cs):decide (jU cs a<jU cs b)=decide (a<b):=by
 by_cases h:a<b
 ·rw[decide_eq_true h,decide_eq_true (xI ha h)]
 ·rw[decide_eq_false h,decide_eq_false]
  have:=C3 (cs:=cs) h
  omega
inductive At where
 | i (n:Int)
 | s (z:Str)
def enc:At->List Int
 | .i n=>[n]
 | .s z=>z.cps.toList.map (λ(c:Nat)=>(c:Int)+1)++[0]
def cJ (xs:List At):List Int:=xs.flatMap enc
def bv:List At->List At->Option Bool
 | [],ys=>some (!ys.isEmpty)
 | _::_,[]=>some false
 | .i a::xs,.i b::ys=>if a=b then bv xs ys else some (decide (a<b))
 | .s a::xs,.s b::ys=>if a=b then bv xs ys else some (decide (a.cps.toList<b.cps.toList))
 | _::_,_::_=>none
theorem rG:∀(a b:List Nat) (r r':List Int),(a.map (λ(c:Nat)=>(c:Int)+1)++0::r)<(b.map (λ(c:Nat)=>(c:Int)+1)++0::r')↔a<b∨(a=b/\r<r')
 | [],[],r,r'=>by simp[List.cons_lt_cons_iff]
 | [],y::b,r,r'=>by simp[List.cons_lt_cons_iff]
 | x::a,[],r,r'=>by simp[List.cons_lt_cons_iff];omega
 | x::a,y::b,r,r'=>by
  rw[List.map_cons,List.map_cons,List.cons_append,List.cons_append,List.cons_lt_cons_iff,rG a b r r',List.cons_lt_cons_iff]
  constructor
  ·rintro (h|⟨h,k|⟨k1,k2⟩⟩)
   ·exact .inl (.inl (by omega))
   ·exact .inl (.inr ⟨by omega,k⟩)
   ·exact .inr ⟨by rw[k1,show x=y by omega],k2⟩
  ·rintro ((h|⟨h,k⟩)|⟨h,k⟩)
   ·exact .inl (by omega)
   ·exact .inr ⟨by omega,.inl k⟩
   ·injection h with h1 h2
    exact .inr ⟨by omega,.inr ⟨h2,k⟩⟩
theorem ge (x:At) (xs:List At):cJ (x::xs)=enc x++cJ xs:=by unfold cJ;rw[List.flatMap_cons]
theorem Fm (x:At):enc x≠[]:=by cases x<;>simp[enc]
theorem xJ {a b:Str}:a.cps.toList=b.cps.toList↔a=b:=by
 constructor
 ·intro h
  obtain⟨a⟩:=a;obtain⟨b⟩:=b
  have:a=b:=Array.toList_inj.mp h
  rw[this]
 ·rintro rfl;rfl
theorem rH:∀(xs ys:List At) (b:Bool),bv xs ys=some b->b=decide (cJ xs<cJ ys)
 | [],[],b,h=>by simp[bv]at h;subst h;simp[cJ]
 | [],y::ys,b,h=>by
  simp[bv]at h;subst h
  rw[ge]
  cases e:enc y with
  | nil=>exact absurd e (Fm y)
  | cons c cs=>simp[cJ]
 | x::xs,[],b,h=>by simp[bv]at h;subst h;simp[cJ]
 | .i a::xs,.i c::ys,b,h=>by
  rw[bv]at h
  rw[ge,ge]
  show b=decide (a::cJ xs<c::cJ ys)
  split at h
  ·rename_i e
   subst e
   rw[rH xs ys b h]
   exact decide_eq_decide.mpr (by rw[List.cons_lt_cons_iff];simp)
  ·rename_i e
   cases h
   exact decide_eq_decide.mpr (by rw[List.cons_lt_cons_iff];simp[e])
 | .s a::xs,.s c::ys,b,h=>by
  rw[bv]at h
  rw[ge,ge]
  have e0:∀(z:Str) (r:List Int),enc (.s z)++r=z.cps.toList.map (λ(c:Nat)=>(c:Int)+1)++0::r:=λz r=>by simp[enc]
  rw[e0,e0]
  split at h
  ·rename_i e
   subst e
   rw[rH xs ys b h]
   exact decide_eq_decide.mpr (by rw[rG];exact⟨λz=>.inr ⟨rfl,z⟩,λz=>z.elim (λq=>absurd q (List.lt_irrefl _)) (·.2)⟩)
  ·rename_i e
   cases h
   exact decide_eq_decide.mpr (by rw[rG,xJ];exact⟨.inl,λz=>z.elim id λq=>absurd q.1 e⟩)
 | .i _::_,.s _::_,b,h=>by simp[bv]at h
 | .s _::_,.i _::_,b,h=>by simp[bv]at h
theorem wm:∀(xs ys:List At),bv xs ys=some false->bv ys xs=some false->xs=ys
 | [],[],_,_=>rfl
 | [],y::ys,h,_=>by simp[bv]at h
 | x::xs,[],_,h=>by simp[bv]at h
 | .i a::xs,.i c::ys,h,k=>by
  rw[bv]at h k
  by_cases e:a=c
  ·subst e
   rw[if_pos rfl]at h k
   rw[wm xs ys h k]
  ·rw[if_neg e]at h
   rw[if_neg (Ne.symm e)]at k
   simp at h k
   omega
 | .s a::xs,.s c::ys,h,k=>by
  rw[bv]at h k
  by_cases e:a=c
  ·subst e
   rw[if_pos rfl]at h k
   rw[wm xs ys h k]
  ·rw[if_neg e]at h
   rw[if_neg (Ne.symm e)]at k
   simp only[Option.some.injEq,decide_eq_false_iff_not]at h k
   exact absurd (xJ.mp (List.le_antisymm (List.not_lt.mp k) (List.not_lt.mp h))) e
 | .i _::_,.s _::_,h,_=>by simp[bv]at h
 | .s _::_,.i _::_,h,_=>by simp[bv]at h
def eE (ks:List (List At)):Bool:=ks.all λx=>ks.all λy=>(bv x y).isSome
theorem gf {ks:List (List At)}(h:eE ks=true) {x y:List At}(hx:x∈ks) (hy:y∈ks):bv x y=some (decide (cJ x<cJ y)):=by
 have:=List.all_eq_true.mp (List.all_eq_true.mp h x hx) y hy
 obtain⟨b,e⟩:=Option.isSome_iff_exists.mp this
 rw[e,rH _ _ _ e]
theorem qe {ks:List (List At)}(h:eE ks=true) {x y:List At}(hx:x∈ks) (hy:y∈ks) (e:cJ x=cJ y):x=y:=by
 refine wm _ _ ?_ ?_
 ·rw[gf h hx hy,e,decide_eq_false (List.lt_irrefl _)]
 ·rw[gf h hy hx,e,decide_eq_false (List.lt_irrefl _)]
def atV:At->Value->Prop
 | .i n,v=>∃t,v=.int n t
 | .s z,v=>∃t,v=.str z t
def gg (h:Heap) (xs:List At) (v:Value):Prop:=∃a o its n,v=.ref a/\h.get? a=some o/\o.cls=.type "tuple"/\o.data=.seq its n/\Paired atV xs its.toList
def d9 (ks:List (List At)):Bool:=ks.all (λx=>match x with|.i _::_=>true|_=>false) || ks.all (λx=>match x with|.s _::_=>true|_=>false)
section
variable {prog:Program}{w:World}{A:Around}{E:Value->Shared->Prop}{s:Shared}
theorem nn {Q:Bool->Shared->Prop}{b:Bool}{fin:Bool}:∀(xs ys:List At) (its jts:List Value) (i:Nat),Paired atV xs its->Paired atV ys jts->bv xs ys=some b->fin=decide (xs.length<ys.length)->Q b s->KatLex prog w A true fin Q (its.zip jts) i s
 | [],ys,_,jts,i,.nil,r2,h,hf,q=>by
  rw[List.zip_nil_left]
  refine kat_nil ?_
  cases ys with
  | nil=>simp[bv]at h;subst h;rw[hf];exact q
  | cons y ys=>simp[bv]at h;subst h;rw[hf];simpa using q
 | x::xs,[],_,_,i,_,.nil,h,hf,q=>by
  rw[List.zip_nil_right]
  refine kat_nil ?_
  simp[bv]at h;subst h;rw[hf];simpa using q
 | .i a::xs,.i c::ys,_,_,i,.cons r1 r1',.cons r2 r2',h,hf,q=>by
  obtain⟨t,rfl⟩:=r1
  obtain⟨u,rfl⟩:=r2
  rw[List.zip_cons_cons]
  refine kat_cons (wpAny_eqBool_int ?_)
  rw[bv]at h
  by_cases e:a=c
  ·rw[if_pos e]at h
   rw[show(a == c)=true by simp[e]]
   exact kat_yes (nn xs ys _ _ (i+1) r1' r2' h (by rw[hf];simp) q)
  ·rw[if_neg e]at h
   cases h
   rw[show(a == c)=false by simp[e]]
   refine kat_no ?_
   cases hb:(true && i == 0) with
   | true=>exact oneLt_int q
   | false=>exact kat_one _ _ (PyProof.Rows.lt_int q)
 | .s a::xs,.s c::ys,_,_,i,.cons r1 r1',.cons r2 r2',h,hf,q=>by
  obtain⟨t,rfl⟩:=r1
  obtain⟨u,rfl⟩:=r2
  rw[List.zip_cons_cons]
  refine kat_cons (wpAny_eqBool_str ?_)
  rw[bv]at h
  by_cases e:a=c
  ·rw[if_pos e]at h
   rw[decide_eq_true e]
   exact kat_yes (nn xs ys _ _ (i+1) r1' r2' h (by rw[hf];simp) q)
  ·rw[if_neg e]at h
   cases h
   rw[decide_eq_false e]
   refine kat_no ?_
   cases hb:(true && i == 0) with
   | true=>exact oneLt_str q
   | false=>exact kat_one _ _ (PySem.P.lt_str q)
 | .i _::_,.s _::_,_,_,_,_,_,h,_,_=>by simp[bv]at h
 | .s _::_,.i _::_,_,_,_,_,_,h,_,_=>by simp[bv]at h
theorem jt {α β:Type}{F:α->β->Prop}:∀ {l₁:List α}{l₂:List β},Paired F l₁ l₂->l₁.length=l₂.length
 | _,_,.nil=>rfl
 | _,_,.cons _ t=>by simp[jt t]
theorem Fo {Q:Bool->Shared->Prop}{xs ys:List At}{x y:Value}{b:Bool}(hx:gg s.heap xs x) (hy:gg s.heap ys y) (h:bv xs ys=some b) (q:Q b s):wpAny (model prog w) A (keyLt' (tuples' true) x y) Q E s:=by
 obtain⟨a,o,its,n,rfl,ho,_,hd,r⟩:=hx
 obtain⟨a',o',its',n',rfl,ho',_,hd',r'⟩:=hy
 refine kat_lt ho hd ho' hd' (nn xs ys _ _ 0 r r' h ?_ q)
 rw[←Array.length_toList,←Array.length_toList,jt r,jt r']
theorem lM {h:Heap}:∀ {ks:List (List At)}{vs:List Value},Paired (gg h) ks vs->(∀k∈ks,k≠[])->∃fs,KatTups h vs fs/\fs.length=ks.length/\∀v∈fs,∃k r,(k::r)∈ks/\atV k v
 | _,_,.nil,_=>⟨[],trivial,rfl,by simp⟩
 | k::ks,_,.cons x t,hne=>by
  obtain⟨fs,h1,h2,h3⟩:=lM t λz hz=>hne z (mZ _ hz)
  obtain⟨a,o,its,n,rfl,ho,hc,hd,r⟩:=x
  cases r':its.toList with
  | nil =>
   rw[r']at r
   cases r
   exact absurd rfl (hne [] (mX ..))
  | cons v vs =>
   rw[r']at r
   obtain⟨p,r1⟩:∃p,its[0]? = some v:=⟨(),by rw[←Array.getElem?_toList,r'];rfl⟩
   cases r with
   | cons q qs =>
    rename_i k0 kr
    refine⟨v::fs,KatTups.cons ho hc hd r1 h1,by simp[h2],λu hu=>?_⟩
    rcases List.mem_cons.mp hu with rfl|hu
    ·exact⟨k0,kr,mX ..,q⟩
    ·obtain⟨k1,r1,m1,m2⟩:=h3 u hu
     exact⟨k1,r1,mZ _ m1,m2⟩
theorem AA {ks:List (List At)}{vs:List Value}{Q:SortKind->Shared->Prop}(hp:Paired (gg s.heap) ks vs) (hf:d9 ks=true) (hn:0<ks.length) (q:Q (tuples' true) s):wpAny (model prog w) A (keyKind' vs.toArray) Q E s:=by
 have hne:∀k∈ks,k≠[]:=λk hk z=>by
  subst z
  unfold d9 at hf
  rw[Bool.or_eq_true]at hf
  rcases hf with hf|hf
  ·have:=List.all_eq_true.mp hf [] hk;simp at this
  ·have:=List.all_eq_true.mp hf [] hk;simp at this
 obtain⟨fs,h1,h2,h3⟩:=lM hp hne
 unfold d9 at hf
 rw[Bool.or_eq_true]at hf
 rcases hf with hf|hf
 ·refine kat_kind (T:=.type "int") h1 (by omega) (λv hv=>?_) (by decide) q
  obtain⟨k,r,m,z⟩:=h3 v hv
  have:=List.all_eq_true.mp hf _ m
  cases k with
  | i n=>obtain⟨t,rfl⟩:=z;exact .now
  | s z'=>simp at this
 ·refine kat_kind (T:=.type "str") h1 (by omega) (λv hv=>?_) (by decide) q
  obtain⟨k,r,m,z⟩:=h3 v hv
  have:=List.all_eq_true.mp hf _ m
  cases k with
  | s z'=>obtain⟨t,rfl⟩:=z;exact .now
  | i n=>simp at this
end
section
variable {prog:Program}{w:World}{A:Around}{E:Value->Shared->Prop}{s:Shared}
theorem ju {α β:Type}{F:α->β->Prop}(d:α) (e:β):∀ {l₁:List α}{l₂:List β},Paired F l₁ l₂->∀ {i:Nat},i<l₁.length->F (l₁.getD i d) (l₂.getD i e)
 | _,_,.cons r t,0,_=>r
 | _,_,.cons r t,i+1,h=>by
  simp only[List.getD_cons_succ]
  exact ju d e t (by simpa using h)
 | _,_,.nil,i,h=>by simp at h
def rkK (ks:List (List At)) (i:Nat):Int:=jU (ks.map cJ) (cJ (ks.getD i []))
theorem C4 {ks:List (List At)}{vs:List Value}(hc:eE ks=true) (hp:Paired (gg s.heap) ks vs):∀(i j:Nat) (C:Bool->Shared->Prop) (s1:Shared),i<ks.length->j<ks.length->s1=s->(∀s',s'=s->C (ltR (rkK ks) i j) s')->kas_ask prog w A (tuples' true) vs i j C s1:=by
 intro i j C s1 hi hj e hC
 subst e
 unfold kas_ask
 have mi:ks.getD i []∈ks:=by rw[List.getD_eq_getElem?_getD,List.getElem?_eq_getElem hi];exact List.getElem_mem hi
 have mj:ks.getD j []∈ks:=by rw[List.getD_eq_getElem?_getD,List.getElem?_eq_getElem hj];exact List.getElem_mem hj
 refine Fo (ju [] Value.none hp hi) (ju [] Value.none hp hj) (gf hc mi mj) ?_
 have:=hC s1 rfl
 unfold ltR rkK at this
 rw[A9 (List.mem_map.mpr ⟨_,mi,rfl⟩)]at this
 exact this
end
end DL
namespace DL
open PySem PySem.Spec PySem.W PyProof.Rows L2
def DM:D->Option At
 | .int n=>some (.i n)
 | .str z=>some (.s z)
 | _=>none
def fq:List D->Option (List At)
 | []=>some []
 | d::ds=>(DM d).bind λa=>(fq ds).map (a :: ·)
def tY:D->Option (List At)
 | .tup es=>fq es
 | _=>none
def cY:List D->Option (List (List At))
 | []=>some []
 | d::ds=>(tY d).bind λa=>(cY ds).map (a :: ·)
def DN:List D->Option (List Int)
 | []=>some []
 | .int n::ds=>(DN ds).map (n :: ·)
 | _::_=>none
theorem eV:∀ {ds:List D}{ks:List (List At)},cY ds=some ks->ks.length=ds.length
 | [],_,h=>by simp only[cY]at h;cases h;rfl
 | d::ds,_,h=>by
  simp only[cY]at h
  obtain⟨a,h1,h⟩:=oX h
  obtain⟨r,h2,h⟩:=oY h
  subst h
  simp[eV h2]
theorem ln:∀ {ds:List D}{ks:List (List At)},cY ds=some ks->∀ {i:Nat},i<ds.length->tY (ds.getD i .non)=some (ks.getD i [])
 | [],_,h,i,hi=>by simp at hi
 | d::ds,_,h,0,hi=>by
  simp only[cY]at h
  obtain⟨a,h1,h⟩:=oX h
  obtain⟨r,h2,h⟩:=oY h
  subst h
  exact h1
 | d::ds,_,h,i+1,hi=>by
  simp only[cY]at h
  obtain⟨a,h1,h⟩:=oX h
  obtain⟨r,h2,h⟩:=oY h
  subst h
  simp only[List.getD_cons_succ]
  exact ln h2 (by simpa using hi)
section
variable {X:Cx}
theorem tZ {K:PySem.W.Frag}{B:Hp}:∀ {vs:List V}{es:List D}{k:List At}{its:List Value},aX vs its->IsL K B vs es->fq es=some k->Paired atV k its
 | _,_,_,_,.nil,.nil,h=>by simp only[fq]at h;cases h;exact .nil
 | _,_,_,_,.cons r rr,.cons i ii,h=>by
  simp only[fq]at h
  obtain⟨a,h1,h⟩:=oX h
  obtain⟨t,h2,h⟩:=oY h
  subst h
  refine .cons ?_ (tZ rr ii h2)
  cases i<;>simp only[DM]at h1<;>cases h1
  ·exact r
  ·exact r
theorem rJ {pins:List (Addr×Obj)}{σ:St}{H:Hp}{s:Shared}(I:Inv X pins σ H s):∀ {ys:List V}{ds:List D}{ks:List (List At)}{its:List Value},aX ys its->IsL X.K H ys ds->cY ds=some ks->Paired (gg s.heap) ks its
 | _,_,_,_,.nil,.nil,h=>by simp only[cY]at h;cases h;exact .nil
 | _,_,_,_,.cons r rr,.cons i ii,h=>by
  simp only[cY]at h
  obtain⟨a,h1,h⟩:=oX h
  obtain⟨t,h2,h⟩:=oY h
  subst h
  refine .cons ?_ (rJ I rr ii h2)
  cases i<;>simp only[tY]at h1<;>try (cases h1;done)
  rename_i hq hl
  cases r
  obtain⟨its',r',⟨o,ho,hc,n,hd⟩,_⟩:=I.tuple hq
  exact⟨_,o,_,n,rfl,ho,hc,hd,by simpa using tZ r' hl h1⟩
theorem xK {K:PySem.W.Frag}{B:Hp}:∀ {vs:List V}{ds:List D},IsL K B vs ds->∀ {i:Nat},i<ds.length->Is K B (vs.getD i .non) (ds.getD i .non)
 | _,_,.cons h _,0,_=>h
 | _,_,.cons _ t,i+1,hi=>by
  simp only[List.getD_cons_succ]
  exact xK t (by simpa using hi)
 | _,_,.nil,i,hi=>by simp at hi
theorem ua:∀ {vs:List V}{us:List Value},aX vs us->∀ {i:Nat},i<vs.length->aT (vs.getD i .non) (us.getD i Value.none)
 | _,_,.cons h _,0,_=>h
 | _,_,.cons _ t,i+1,hi=>by
  simp only[List.getD_cons_succ]
  exact ua t (by simpa using hi)
 | _,_,.nil,i,hi=>by simp at hi
theorem uc {K:PySem.W.Frag}{B:Hp}{vs:List V}{ds:List D}(h:IsL K B vs ds):∀(l:List Nat),(∀i∈l,i<ds.length)->IsL K B (l.map λi=>vs.getD i .non) (l.map λi=>ds.getD i .non)
 | [],_=>.nil
 | i::l,hl=>.cons (xK h (hl i (mX ..))) (uc h l λj hj=>hl j (mZ _ hj))
theorem qg {vs:List V}{us:List Value}(h:aX vs us):∀(l:List Nat),(∀i∈l,i<vs.length)->aX (l.map λi=>vs.getD i .non) (l.map λi=>us.getD i Value.none)
 | [],_=>.nil
 | i::l,hl=>.cons (ua h (hl i (mX ..))) (qg h l λj hj=>hl j (mZ _ hj))
end
section
variable {X:Cx}
theorem iI:∀ {its:List Value}{zs:List Int},IntsAre its zs->aX (zs.map V.int) its
 | _,_,.nil=>.nil
 | _,_,.cons x t r=>.cons ⟨t,rfl⟩ (iI r)
end
end DL
namespace DL
open PySem PySem.Spec PyProof.Rows L2
section
variable {X:Cx}{pos:Pos}
@[simp] def Ie (i:Nat) (f:FE):FS:=λρ=>match ρ[i]? with
 | some (some (.lst ds,true))=>(f ρ).bind λx=>(DN ds).bind λns=>match x.1 with
  | .int n=>if ns.findIdx (· == n)<ns.length then some (.nx (ρ.set i (some (.lst ((ns.eraseIdx (ns.findIdx (· == n))).map .int),true))))else none
  | _=>none
 | _=>none
end
section
variable {prog:Program}{w:World}{A:Around}{E:Value->Shared->Prop}{s:Shared}
theorem wn {a:Addr}{o:Obj}{its:Array Value}{n:Nat}{x:Value}{e:Value->Bool}{j:Nat}{P:PySem.Fin->Shared->Prop}(ho:s.heap.get? a=some o) (hd:o.data=.seq its n)
  (he:∀y∈its,MeetsSeq.EqGives y x (e y)) (hj:j<its.size) (hit:e its[j]=true) (hno:∀m (hm:m<its.size),m<j->e its[m]=false)
  (h:P (.done (.ret (.int j s.toks))) { s with toks:=s.toks+1 }):wpAny (model prog w) A (Builtin.«tuple.index» ⟨[.ref a,x],[]⟩) P E s:=by
 show wpAny _ _ (Builtin.Tuple.tupleItemsOf (.ref a)>>=_) _ _ s
 refine wX (wpAny_tupleItemsOf ho hd ?_)
 dsimp only
 refine wX (wY (wX (wY (wX ?_))))
 rw[Std.Legacy.Range.forIn_eq_forIn_range']
 refine wpAny_forIn_list _
  (λa9 r s'=>r.1=none/\s'=s/\∃i,i<=j/\a9=List.range' i (its.size - i))
  _ ?_ ?_ _ _ ⟨rfl,rfl,0,Nat.zero_le _, ?_⟩
 ·rintro k a9 r s' ⟨hr,rfl,i,hi,hz⟩
  have hlt:i<its.size:=by omega
  obtain⟨m,hm⟩:∃m,its.size - i=m+1:=⟨its.size - i - 1,by omega⟩
  rw[hm,List.range'_succ]at hz
  injection hz with z1 z2
  have z1:=z1.symm
  subst z1
  subst z2
  have hg:its[i]? = some its[i]:=by simp[hlt]
  simp only[hg]
  refine wX (he _ (Array.getElem_mem hlt) prog w _ _ _ _ ?_)
  by_cases hij:i=j
  ·subst hij
   rw[hit]
   simp only[if_true]
   refine wX ?_
   show wpAny _ _ (mkInt (i:Int)>>=λv=>ret v) _ _ _
   exact wX (wpAny_mkInt (wY (wY (wY h))))
  ·rw[hno i hlt (by omega)]
   simp only[Bool.false_eq_true,if_false]
   exact wY ⟨rfl,rfl,i+1,by omega,by rw[show its.size - (i+1)=m by omega]⟩
 ·rintro⟨r1,r2⟩ s' ⟨hr,rfl,i,hi,hz⟩
  exfalso
  have:(List.range' i (its.size - i)).length=0:=by rw[←hz];rfl
  rw[List.length_range']at this
  omega
 ·simp
end
theorem CRows.findT {K:PySem.W.Frag}{P:Params}(y:Str) {ds:List D}:∀ {es:List DictEntry}{kvs:List (Str×D)},CRows K P es kvs->kvs.lookup y=some (.tup ds) ->
  ∃e a its n osl,es.find? (λe=>Value.isStrOf y e.key)=some e/\e.val=.ref a/\K.lookup a=some ⟨.type "tuple",none,.seq its n,osl⟩/\gD its.toList ds=true
 | _,_,.nil,h=>by simp at h
 | _,_,.tup (x:=x) (t:=t) (a:=a) (ds:=ds') hh l f tl,h=>by
  by_cases e:y=x
  ·subst e
   rw[List.lookup_cons_self]at h
   cases h
   rw[Bool.and_eq_true]at f
   exact⟨_,a,_,_,_,List.find?_cons_of_pos (by simp[Value.isStrOf]),rfl,l,f.2⟩
  ·rw[List.lookup_cons,beq_eq_false_iff_ne.mpr e]at h
   have nf:Value.isStrOf y (Value.str x t)=false:=by
    rw[Bool.eq_false_iff]
    intro z
    obtain⟨t',q⟩:=Value.isStrOf_shape z
    injection q with q1
    exact e q1.symm
   simp only[List.find?_cons,nf]
   exact tl.findT y h
 | _,_,.flat (x:=x) (t:=t) (u:=u) (d:=d) hh f tl,h=>by
  by_cases e:y=x
  ·subst e
   rw[List.lookup_cons_self]at h
   cases h
   cases u<;>simp[rq]at f
  ·rw[List.lookup_cons,beq_eq_false_iff_ne.mpr e]at h
   have nf:Value.isStrOf y (Value.str x t)=false:=by
    rw[Bool.eq_false_iff]
    intro z
    obtain⟨t',q⟩:=Value.isStrOf_shape z
    injection q with q1
    exact e q1.symm
   simp only[List.find?_cons,nf]
   exact tl.findT y h
section
variable {X:Cx}{b e:Expr}{pos:Pos}{x:Str}{p:Pos}
def HJ (K:PySem.W.Frag):V->List V->Hp->VK->Prop:=λx xs H Q=>∃(a:Addr) (o:Obj) (its:Array Value) (n:Nat) (zs:List Str) (y:Str),x=.ref a/\xs=[.str y]/\K.lookup a=some o/\o.cls=.type "tuple"/\o.data=.seq its n/\StrsAre its.toList zs/\zs.findIdx (· == y)<zs.length/\Q (.int (zs.findIdx (· == y):Nat)) H
def DO (y:Str):Value->Bool
 | .str z _=>z == y
 | _=>false
theorem xL:∀ {its:List Value}{zs:List Str},StrsAre its zs->∀(i:Nat) (hi:i<its.length),∃(h:i<zs.length) (t:Tok),its[i]=.str zs[i] t
 | _,_,.cons z t h,0,_=>⟨by simp,t,rfl⟩
 | _,_,.cons z t h,i+1,hi=>by
  obtain⟨h',t',e⟩:=xL h i (by simpa using hi)
  exact⟨by simpa using h',t',by simpa using e⟩
 | _,_,.nil,i,hi=>by simp at hi
theorem ud:∀ {its:List Value}{zs:List Str},StrsAre its zs->its.length=zs.length
 | _,_,.nil=>rfl
 | _,_,.cons _ _ h=>by rw[List.length_cons,List.length_cons,ud h]
theorem AB:MtR X "tuple.index" (HJ X.K):=by
 intro pins s σ H x xs v us Q I rx rv h
 obtain⟨a,o,its,n,zs,y,rfl,rfl,lk,hc,hd,hz,hk,q⟩:=h
 cases rx
 obtain⟨u,rfl,⟨t,rfl⟩⟩:=rv.one
 have ho:=I.kIn a o lk
 have hl:=ud hz
 rw[Array.length_toList]at hl
 have at':∀(i:Nat) (hi:i<its.size),∃(h:i<zs.length) (t:Tok),its[i]=.str zs[i] t:=λi hi=>by
  obtain⟨h',t',e⟩:=xL hz i (by simpa using hi)
  exact⟨h',t',by simpa using e⟩
 refine wpAny_call_entry PySem.F.slot_tuple_index ⟨o,ho,hc⟩ PySem.F.entry_tuple_index (wn (e:=DO y) (j:=zs.findIdx (· == y)) ho hd (λz hm=>?_) (by omega) ?_ (λm hm hlt=>?_) ⟨_,rfl,.int (zs.findIdx (· == y):Nat),H,I.tok _,⟨_,rfl⟩,q⟩) (PySem.F.args_tuple_index_2 _ _)
 ·obtain⟨i,hi,rfl⟩:=Array.mem_iff_getElem.mp hm
  obtain⟨_,t',e'⟩:=at' i hi
  rw[e']
  exact eqGives_str _ _ _ _
 ·obtain⟨_,t',e'⟩:=at' (zs.findIdx (· == y)) (by omega)
  rw[e']
  exact List.findIdx_getElem (p:=(· == y)) (w:=hk)
 ·obtain⟨_,t',e'⟩:=at' m hm
  rw[e']
  have:=List.not_of_lt_findIdx (p:=(· == y)) (xs:=zs) hlt
  simpa [DO]using this
@[simp] def np (kvs:List (Str×D)):D->D->Option (D×Bool)
 | .str y,.str z=>match kvs.lookup y with
  | some (.tup ds)=>(fm ds).bind λzs=>if zs.findIdx (· == z)<zs.length then some (.int (zs.findIdx (· == z):Nat),false)else none
  | _=>none
 | _,_=>none
theorem C5 {kvs:List (Str×D)}{f g:FE}{apos cpos:Pos}(h:∃d,X.mg x=some (.ref d)/\pQ X.K X.w.params d kvs) (hb:JE X b f) (he:JE X e g) (hg:Gl X x:=by rfl) (hdb:(x == ("__debug__" : Str))=false:=by decide) (hs:qR b:=by intro _ _;rfl)
  (hbase:attributeBase (.Subscript (.Name x p) b pos) "index" X.env (eval (.Subscript (.Name x p) b pos) X.env)=eval (.Subscript (.Name x p) b pos) X.env:=by rfl)
  (hfew:((backTo cpos (starEach [e] X.env)).all (λx=>!x.1) && (backToKw cpos (keywordEach [] X.env)).all (λx=>x.1.isSome)
   && decide ([e].length+([]:List Keyword).length+(if([]:List Keyword).isEmpty then 0 else 1)<30))=true:=by rfl)
  (hline:(apos.endLine == cpos.line)=true:=by rfl) (hst:starEach [e] X.env=[(false,eval e X.env)]:=by rfl) :
  JE X (.Call (.Attribute (.Subscript (.Name x p) b pos) "index" apos) [e] [] cpos) (f2 (np kvs) f g):=by
 obtain⟨d,hm,cd⟩:=h
 have ix:IxR X (λx y H Q=>∃z ds,x=.ref d/\y=.str z/\kvs.lookup z=some (.tup ds)/\∀a its n osl,X.K.lookup a=some ⟨.type "tuple",none,.seq its n,osl⟩->gD its.toList ds=true->Q (.ref a) H):=by
  intro value slice pins s σ H x y v u Q I rx ry q hs
  obtain⟨z,ds,rfl,rfl,el,q⟩:=q
  cases rx
  obtain⟨t,rfl⟩:=ry
  obtain⟨es,n,l,r,sm⟩:=cd
  have hM:=PySem.W.mapOf_K (prog:=X.prog) (w:=X.w) I.kIn l r.lit
  obtain⟨en,a,its,n',osl,e1,e2,e3,e4⟩:=r.findT z el
  have ff:findBy Value.isStrOf es z=some (.ref a):=by
   unfold findBy
   obtain⟨es⟩:=es
   rw[List.find?_toArray,e1,←e2]
   rfl
  exact tail_any hM.typeIs slot_dict_getitem.lookup (wpAny_getItem_of (strKind_is X.prog X.w z t) hM ff ⟨.ref a,H,I.tok _,rfl,q a _ _ _ e3 e4⟩) hs
 refine PE.to (zL (T:="tuple") PySem.F.plainAttrs_tuple PySem.F.slot_tuple_index PySem.F.type_tuple_index AB (Dq ix (wT (v:=.ref d) hg hm rfl hdb) hb hs) (fE he hZ hst) hbase hfew hline hst rfl) λσ H Q q=>?_
 obtain⟨B,ρ,d',bb,sB,r,ee,q⟩:=q
 obtain⟨x1,ex,ee⟩:=oX ee
 obtain⟨y1,ey,ee⟩:=oX ee
 obtain⟨xd,xb⟩:=x1
 obtain⟨yd,yb⟩:=y1
 cases xd with
 | str z =>
  cases yd with
  | str y =>
   refine⟨B,ρ,_,xb,sB,r,ex,λv H1 N1 xt i1 _=>?_⟩
   cases i1
   simp only[np]at ee
   split at ee
   ·rename_i ds el
    obtain⟨zs,ez,ee⟩:=oX ee
    split at ee
    ·rename_i hk
     cases ee
     refine⟨z,ds,rfl,rfl,el,λa its n osl l fl=>⟨.inr (.inl ⟨rfl,_,l,rfl,rfl⟩),N1,ρ,_,yb,xt.nh,r.mono xt.bn,ey,λv2 H2 N2 xt2 i2 _=>?_⟩⟩
     cases i2
     obtain⟨vs,rv,iv⟩:=gE (K:=X.K) fl
     exact⟨a,_,its,n,zs,y,rfl,rfl,l,rfl,rfl,im rv (iv N2) ez,hk,(q.into (xt.trans xt2)).one xt2.nh (.int _)⟩
    ·cases ee
   ·cases ee
  | _=>simp[np]at ee
 | _=>simp[np]at ee
end
open PySem.W (tabIn tabObj CodeHd kla_fn kla_obj kla_eval kla_makeFunction kla_makeFunctionHit kla_callFunE kla_codeExpr envX)
def GP (K:PySem.W.Frag) (c P:Addr):Prop:=∃o vs file tf flags tg inF text tt,K.lookup c=some o/\o.cls=.type "code"/\o.data=.fields vs/\vs[11]? = some (.ref P)/\vs.getD 11 .none=.ref P/\vs.getD 18 .none=.str file tf /\
 vs.getD 7 .none=.int flags tg/\vs.getD 9 .none=.bool inF/\vs.getD 10 .none=.int text tt/\c≠P
def rK (K:PySem.W.Frag) (x:Str):Prop:=∃c P,tabIn K x=some (c,P)/\GP K c P
def AC (H:Hp) (f:Addr) (q:Str) (params:Arguments) (body:Expr) (scope:Scope) (cl:List (Str×Addr)):Prop :=
 ∃pm c ctv u oc u' vs t,H f=some (.frz (kla_obj "<lambda>" q params body scope cl pm c ctv) u)/\H c=some (.frz oc u')/\oc.data=.fields vs/\vs[1]? = some (.str q t)
theorem AC.mono {H H':Hp}{f:Addr}{q:Str}{params:Arguments}{body:Expr}{scope:Scope}{cl:List (Str×Addr)}(h:AC H f q params body scope cl) (e:aR H H'):AC H' f q params body scope cl :=
 let ⟨pm,c,ctv,u,oc,u',vs,t,h1,h2,h3,h4⟩:=h;⟨pm,c,ctv,u,oc,u',vs,t,e _ _ h1,e _ _ h2,h3,h4⟩
theorem lam_mk {K:PySem.W.Frag}{x:Str}{f c P:Addr}{oc:Value}{od od':Option Addr}{osl osl':Array (Option Value)}{fd:FuncData}{vs:Array Value}{file:Str}{tf tg tt:Tok}{flags text:Int}{inF:Bool}(e1:PySem.W.nsIn K mainGlobals x=some (some (.ref f))) (e2:K.lookup f=some ⟨oc,od,.func fd,osl⟩)
  (e3:fd.code=.ref c) (e4:K.lookup c=some ⟨.type "code",od',.fields vs,osl'⟩) (e5:vs[11]? = some (.ref P)) (e6:vs.getD 11 .none=.ref P) (e7:vs.getD 18 .none=.str file tf) (e8:vs.getD 7 .none=.int flags tg) (e9:vs.getD 9 .none=.bool inF) (e10:vs.getD 10 .none=.int text tt) (e11:(c == P)=false):rK K x :=
 ⟨c,P,tab_yes e1 e2 e3 e4 e5,_,vs,file,tf,flags,tg,inF,text,tt,e4,rfl,rfl,e5,e6,e7,e8,e9,e10,λz=>by rw[z]at e11;simp at e11⟩
theorem wo {pos:Pos}{a b:Int}{c cv:Value}(l:List Value) (h:TriplesOk l) (e:codeAmong pos (l++[rawInt a,rawInt b,c])=some cv):codeAmong pos l=some cv∨cv=c:=by
 fun_induction TriplesOk l with
 | case1 =>
  simp only[List.nil_append,rawInt,codeAmong]at e
  split at e
  ·cases e;exact .inr rfl
  ·cases e
 | case2 a' t b' u x a9 ih =>
  simp only[List.cons_append,codeAmong]at e ⊢
  split at e
  ·rename_i hc;rw[if_pos hc];exact .inl e
  ·rename_i hc;rw[if_neg hc];exact ih h e
 | case3 l h1 h2=>exact h.elim
section
variable {X:Cx}{pins:List (Addr×Obj)}{σ:St}{H:Hp}{s:Shared}
theorem AD {x:Str}{params:Arguments}{body:Expr}{scope:Scope}{pos:Pos}{cl:List (Str×Addr)}{Q:Value->Shared->Prop}{E:Value->Shared->Prop}
  (hx:x∈jL) (L:rK X.K x) (hc:∀c P,tabIn X.K x=some (c,P)->X.env.code=.ref c) (hq:X.env.qual ++ "<lambda>" = mJ x) (hdef:defaultsOf params X.env=([],[])) (hcl:closureFor scope X.env=pure cl)
  (I:Inv X pins σ H s) (tb:Tb X.K H) (k:∀f H' s',Inv X pins σ H' s'->aR H H'->AC H' f (mJ x) params body scope cl->Q (.ref f) s') :
  wpAny (model X.prog X.w) X.A (eval (.Lambda params body scope pos) X.env) Q E s:=by
 refine kla_eval hdef ?_
 rw[hq]
 obtain⟨c,P,ht,o,vs,file,tf,flags,tg,inF,text,tt,lk,ck⟩:=L
 have hcode:=hc c P ht
 have hP:=tb x hx c P ht
 obtain⟨ps,e,tr,co⟩:=I.hok P _ hP
 have C:CodeHd s.heap c P:=⟨o,vs,file,tf,flags,tg,inF,text,tt,I.kIn c o lk,ck⟩
 have hg:s.heap.Ns mainGlobals X.mg:=I.mod.glob.keeps I.bk
 have nP:∀b,H b=none->b≠P:=λb n z=>by rw[z,hP]at n;cases n
 have hgP:mainGlobals≠P:=by
  obtain⟨og,_,_,eg,_⟩:=I.mod.glob
  exact nP _ (I.bs _ _ eg).2
 have hb:s.heap.BuiltinsAt X.mg P:=by
  obtain⟨bm,ob,b1,b2,b3,b4,b5,b6⟩:=I.mod.bmain
  refine⟨bm,ob,b1,b2,λz=>?_,nP _ (I.bs _ _ b3).2,I.bk _ _ b3,b4,b5,b6⟩
  obtain⟨og,es,ep,eg,dg,_⟩:=I.mod.glob
  rw[z,eg]at b3;cases b3
  rw[dg]at b6;cases b6
 cases hf:codeAmong pos ps.toList with
 | some cv =>
  obtain⟨c',oc,u,ws,t,rfl,hH,hd,hv⟩:=co pos cv hf
  refine kla_makeFunctionHit (mg:=X.mg) hcl I.ok.glob hg hcode C e tr hf hb λctv h' tk hk hsz=>?_
  have hn:H h'.objs.size=none:=I.hok.fresh hsz
  have sm:aR H (upd H h'.objs.size (.frz (kla_obj "<lambda>" (mJ x) params body scope cl ((X.mg "__name__").getD .none) c' ctv) (.own h'.objs.size))):=λb u q=>by rw[aL (aS q hn)];exact q
  refine k _ _ _ (I.laid (t':=tk) (λb u q=>Heap.get?_push_of_some _ (hk b u q)) hsz (show bH X.prog X.w _ _ _ (.frz _ (.own h'.objs.size))from ⟨Heap.get?_push_size _ rfl,_,Heap.get?_push_size _ rfl⟩)) sm ?_
  exact⟨_,c',ctv,_,oc,u,ws,t,aJ,sm _ _ hH,hd,hv⟩
 | none =>
  refine kla_makeFunction (mg:=X.mg) hcl I.ok.glob hg hcode C e tr hf hgP hb λc' ctv h' tk hx' hge hlt hrec htb=>?_
  obtain⟨c2,oc,ws,t,e2,hoc,hd,hv⟩:=hrec
  cases e2
  have hnc:H c'=none:=I.hok.fresh hge
  have hsz:s.heap.objs.size<=h'.objs.size:=Nat.le_trans hge (Nat.le_of_lt hlt)
  have hnf:H h'.objs.size=none:=I.hok.fresh hsz
  have ncf:c'≠h'.objs.size:=Nat.ne_of_lt hlt
  let fo:Obj:=kla_obj "<lambda>" (mJ x) params body scope cl ((X.mg "__name__").getD .none) c' ctv
  let H1:Hp:=upd (upd H c' (.frz oc (.own c'))) h'.objs.size (.frz fo (.own h'.objs.size))
  have sm:aR H H1:=λb u q=>by
   show upd _ _ _ b=_
   rw[aL (aS q hnf),aL (aS q hnc)];exact q
  have H1c:H1 c'=some (.frz oc (.own c')):=by show upd _ _ _ c'=_;rw[aL ncf,aJ]
  have keep:∀b u,b≠P->s.heap.get? b=some u->(h'.push fo).get? b=some u:=λb u n q=>Heap.get?_push_of_some _ (hx' b u n q)
  have lt:∀b u,s.heap.get? b=some u->b≠c'/\b≠h'.objs.size:=λb u q=>⟨Nat.ne_of_lt (Nat.lt_of_lt_of_le (Heap.lt_size q) hge),Nat.ne_of_lt (Nat.lt_of_lt_of_le (Heap.lt_size q) hsz)⟩
  have htb':(h'.push fo).get? P=some (tabObj (ps++#[rawInt pos.line,rawInt pos.col,.ref c'])):=Heap.get?_push_of_some _ htb
  refine k _ H1 _ (I.un (t':=tk) (h':=h'.push fo) ⟨λb u q n _ _=>keep b u (nP b n) q,λb u q n _ _=>⟨u.slots,keep b u (nP b n) q⟩,λb u q n _=>?_,λb u q _=>?_,λb xs q=>sm _ _ q,λb ob u q=>sm _ _ q,λb u q=>sm _ _ q⟩ λb u q=>?_) sm ⟨_,c',ctv,_,oc,_,ws,t,aJ,H1c,hd,hv⟩
  ·show upd _ _ _ b=_
   rw[aL (lt b u q).2,aL (lt b u q).1];exact n
  ·by_cases z:b=P
   ·subst z;exact⟨_,htb'⟩
   ·exact⟨u,keep b u z q⟩
  ·by_cases z1:b=h'.objs.size
   ·subst z1
    have q':some (HO.frz fo (.own h'.objs.size))=some u:=by rw[←q];exact aJ.symm
    cases q'
    exact⟨Heap.get?_push_size _ rfl,_,Heap.get?_push_size _ rfl⟩
   ·by_cases z2:b=c'
    ·subst z2
     rw[H1c]at q;cases q
     exact⟨Heap.get?_push_of_some _ hoc,_,Heap.get?_push_of_some _ hoc⟩
    ·have q':H b=some u:=by
      have:H1 b=H b:=by show upd _ _ _ b=_;rw[aL z1,aL z2]
      rw[←this];exact q
     by_cases z3:b=P
     ·subst z3
      rw[hP]at q';cases q'
      refine⟨_,htb', ?_,λpos' cv' ea=>?_⟩
      ·rw[Array.toList_append];exact TriplesOk_snoc _ _ _ _ tr
      ·rw[Array.toList_append]at ea
       rcases wo _ tr ea with ea|rfl
       ·obtain⟨c3,oc3,u3,vs3,t3,y1,y2,y3⟩:=co pos' cv' ea
        exact⟨c3,oc3,u3,vs3,t3,y1,sm _ _ y2,y3⟩
       ·exact⟨c',oc,_,ws,t,rfl,H1c,hd,hv⟩
     ·refine(I.hok b u q').stay (λd v hd' r=>keep d v ?_ r) (λd r=>sm _ _ r) (λd xs r=>sm _ _ r) λd ob v r=>sm _ _ r
      rcases hd' with rfl|r
      ·exact z3
      ·intro z;rw[z,hP]at r;cases r
end
section
variable {P:Program}{w:World}{K:PySem.W.Frag}{mg:Str->Option Value}{base:Heap}
theorem Def.fnL {x:Str}{st:Stmt}{N ps:List Str}{k:Nat}{g:FS}{h:Heap}(F:Def K x st) (X:K.In h) (G:h.Ns mainGlobals mg) (S:FnScope N ps (ay st))
  (hbd:∀(kV doc pm:Value) (an:Option Addr) (cdv ct:Value) (us:List Value),us.length=ps.length->bindArgs (PySem.W.fnOf x x (fF st) (cI st) (ay st) .none kV doc pm an cdv ct) ⟨us,[]⟩=pure (ps.zip us))
  (hb:∀(f:Addr) (cdv:Value) (A:Around) (outer:List PySem.Env) (s:Shared) (H:Hp) (E:XK),(∀c P,tabIn K x=some (c,P)->cdv=.ref c)->Room k (A.deeper (envOfC x (ay st) s.heap.objs.size f cdv))->JSs (mH CX0 P w K mg base N x (ay st) f cdv A outer s H E).nox (cI st) g) :
  Fn P w K mg base (k+1) x (aY g ps.length (N.length - ps.length)):=by
 obtain⟨f,fd,F1,a⟩:=F
 have F2:=F1
 obtain⟨oc,od,kV,doc,pm,an,cdv,ct,osl,rfl,lk,hcd⟩:=F2.ex
 have hc:∀c P,tabIn K x=some (c,P)->cdv=.ref c:=λc P e=>by
  unfold tabIn at e
  simp only[a,lk]at e
  split at e
  ·rename_i c' _
   split at e
   ·split at e
    ·cases e;rfl
    ·cases e
   ·cases e
  ·cases e
 have len:∀vs H Q E,spD K (aY g ps.length (N.length - ps.length)) vs H Q E->vs.length=ps.length:=λvs H Q E h=>by
  obtain⟨B,ds,d,b,sB,i,e,q⟩:=h
  unfold aY at e
  split at e
  ·rename_i hl;rw[i.length];exact hl
  ·cases e
 refine⟨f,_,ps,Dp lk hcd S len λA outer s H vs Q E hr h=>⟨_,PSs.nox (hb f cdv A outer s H E hc hr), ?_⟩,PySem.W.mg_of X G a,F1.kp,F1.binds hbd⟩
 have hlen:=len vs H Q E h
 obtain⟨B,ds,d,b,sB,i,e,q⟩:=h
 unfold aY at e
 rw[if_pos (by rw[←i.length];exact hlen)]at e
 have s0:=sS (N:=N) sB.1 sB.2 i
 rw[hlen]at s0
 split at e
 ·rename_i d' b' eg
  cases e
  exact⟨B,H,_,_,⟨B,s0⟩,eg,λv H' N' x' i' f'=>q v H' N' x' i' f'⟩
 ·rename_i ρ' eg
  cases e
  exact⟨B,H,_,_,⟨B,s0⟩,eg,λσ' H' ⟨N',s'⟩=>q .non H' N' s'.ext .non (by simp)⟩
 ·cases e
end
inductive LCaps (X:Cx) (N':List Str) (scope:Scope) (cl:List (Str×Addr)):Nat->List Nat->Prop where
 | nil {j:Nat}(h:N'.length=j):LCaps X N' scope cl j []
 | cons {j i:Nat}{r:List Nat}{x:Str}(h1:N'[j]? = some x) (h2:X.N[i]? = some x) (h3:X.env.kindOf x=some .cell∨X.env.kindOf x=some .free)
   (h4:scope.names.lookup x=some .free) (h5:cl.lookup x=X.env.cells.lookup x) (t:LCaps X N' scope cl (j+1) r):LCaps X N' scope cl j (i::r)
theorem LCaps.len {X:Cx}{N':List Str}{scope:Scope}{cl:List (Str×Addr)}:∀ {j:Nat}{cap:List Nat},LCaps X N' scope cl j cap->N'.length=j+cap.length
 | _,_,.nil h=>by rw[h];rfl
 | j,i::r,.cons _ _ _ _ _ t=>by rw[t.len,List.length_cons];omega
theorem LCaps.get {X:Cx}{N':List Str}{scope:Scope}{cl:List (Str×Addr)}:∀ {j:Nat}{cap:List Nat}{k i:Nat},LCaps X N' scope cl j cap->cap[k]? = some i->∃x,N'[j+k]? = some x/\X.N[i]? = some x/\(X.env.kindOf x=some .cell∨X.env.kindOf x=some .free) /\
  scope.names.lookup x=some .free/\cl.lookup x=X.env.cells.lookup x
 | _,_,_,_,.nil _,e=>by simp at e
 | j,_,0,_,.cons h1 h2 h3 h4 h5 _,e=>by simp at e;subst e;exact⟨_,h1,h2,h3,h4,h5⟩
 | j,_,k+1,i,.cons _ _ _ _ _ t,e=>by
  obtain⟨x,q,r⟩:=t.get (k:=k) (i:=i) (by simpa using e)
  exact⟨x,by rw[show j+(k+1)=j+1+k by omega];exact q,r⟩
abbrev ue (X:Cx) (N':List Str) (scope:Scope) (cl:List (Str×Addr)) (q:Str) (A:Around) (f c:Addr) (s:Shared) (H:Hp):Cx :=
 { X with A:=A.deeper (envX q scope s.heap.objs.size f (.ref c) cl),N:=N',s₀:=s,H₀:=H,env:=envX q scope s.heap.objs.size f (.ref c) cl,outer:=X.stack,stack:=envX q scope s.heap.objs.size f (.ref c) cl::X.stack,ex:=[],fn:=λ_=>false,calm:=true,pn:=[],xe:=λ_ _=>False }
structure LamSc (X:Cx) (scope:Scope) (cl:List (Str×Addr)) (y:Str):Prop where
 clos:closureFor scope X.env=pure cl
 nocell:∀z∈scope.names,z.2≠.cell
 kind:scope.kind=.function
 co:scope.isCoroutine=false
 gen:scope.isGenerator=false
 par:scope.names.lookup y=some .local
 sub:∀x c,cl.lookup x=some c->X.env.cells.lookup x=some c
 has:∀x,scope.names.lookup x=some .free->∃c,cl.lookup x=some c
theorem AE {X:Cx}{scope:Scope}{y:Str}(h1:∀z∈scope.names,z.2≠.cell) (h2:scope.kind=.function) (h3:scope.isCoroutine=false) (h3':scope.isGenerator=false) (hp:scope.names.lookup y=some .local)
  (h4':(scope.names.all λz=>!(z.2 == NameKind.free) || (X.env.cells.lookup z.1).isSome)=true):LamSc X scope (f9 scope.names X.env.cells []) y:=by
 have h4:∀z∈scope.names,z.2=.free->(X.env.cells.lookup z.1).isSome=true:=λz hz e=>by
  have:=List.all_eq_true.mp h4' z hz
  rw[e]at this
  simpa using this
 exact⟨pL scope.names [] h4,h1,h2,h3,h3',hp,λx c e=>jN scope.names [] (λy d q=>by cases q) e,λx h=>by
  have:=jO (x:=x) scope.names [] (dH h) (h4 _ (dH h) rfl)
  exact Option.isSome_iff_exists.mp this⟩
section
variable {X:Cx}{pins:List (Addr×Obj)}{σ:St}{H:Hp}{s:Shared}{A:Around}{N':List Str}{scope:Scope}{cl:List (Str×Addr)}{q y:Str}{cap:List Nat}
theorem C6 {f c:Addr}{v:V}{u:Value}{h₁:Heap}{tk:Nat}(S:LamSc X scope cl y) (N0:N'[0]? = some y) (cp:LCaps X N' scope cl 1 cap) (I:Inv X pins σ H s) (hA:A.frames=some X.stack) (hh:A.handled=none) (r:aT v u)
  (hns:h₁.Ns s.heap.objs.size (λx=>[(y,u)].reverse.lookup x)) (hk:∀b o,s.heap.get? b=some o->h₁.get? b=some o) :
  Inv (ue X N' scope cl q A f c s H) [] (some v::ph 0 cap σ) H { s with heap:=h₁,toks:=tk }:=by
 have noA:∀b:Addr,b∉(ue X N' scope cl q A f c s H).ex:=λb z=>absurd (show b∈([]:List Addr)from z) (by simp)
 refine⟨⟨I.ok.mod,S.kind,rfl,rfl,Nat.le_refl _,λx z d e1 e2=>I.ok.inj x z d (S.sub _ _ e1) (S.sub _ _ e2),λx hx=>?_,(λx d e=>by cases e),λ_=>hh,Around.frames_deeper hA,.inr ⟨rfl,rfl⟩,λb z=>absurd z (noA b),I.bs,Nat.le_trans I.ok.bsz I.sz,λb _ _=>noA b,λb z=>absurd z (noA b),I.stack,I.stkFree⟩,
  rfl,I.bare,Un.kept hk,⟨_,hns,λi x v' e1 e2 e3=>?_⟩,λx d e=>?_,I.hok.fresh (Nat.le_refl _),λx d e=>I.freeC x d (S.sub _ _ e),λp hp=>absurd (show p∈([]:List (Addr×Obj))from hp) (by simp),I.hok.kept hk, ?_⟩
 ·have hx':scope.names.lookup x=some .cell∨scope.names.lookup x=some .free:=hx
  rcases hx' with hx'|hx'
  ·exact absurd rfl (S.nocell _ (dH hx'))
  ·exact S.has x hx'
 ·cases i with
  | zero =>
   have e1':N'[0]? = some x:=e1
   rw[N0]at e1';cases e1'
   have e2':some v=some v':=by simpa using e2
   cases e2'
   exact⟨u,r,.inl ⟨S.par,by simp⟩⟩
  | succ k =>
   have e2':(ph 0 cap σ)[k]? = some (some v'):=by simpa using e2
   obtain⟨k',i',hk',g1,g2⟩:=rf e2'
   have:k=k':=by omega
   subst this
   obtain⟨x',n1,n2,n3,n4,n5⟩:=cp.get g1
   have:x'=x:=by
    have e1':N'[k+1]? = some x:=e1
    rw[show 1+k=k+1 by omega]at n1
    rw[n1]at e1';exact Option.some.inj e1'
   subst this
   have g2':σ[i']? = some (some v'):=by
    cases z:σ[i']? with
    | none=>rw[z]at g2;cases g2
    | some w=>rw[z]at g2;cases w with
     | none=>cases g2
     | some w=>cases g2;rfl
   obtain⟨m,_,hl⟩:=I.loc
   obtain⟨u',ru,lk⟩:=hl i' x' v' n2 g2' (by
    rcases n3 with n3|n3
    ·exact .inr (.inl n3)
    ·exact .inr (.inr n3))
   refine⟨u',ru,.inr ⟨.inr n4, ?_⟩⟩
   rcases lk with ⟨l1,_⟩|⟨_,d,l2,l3⟩
   ·rcases n3 with n3|n3<;>(rw[l1]at n3;cases n3)
   ·obtain⟨ob,ho,hd⟩:=l3
    exact⟨d,by show cl.lookup x'=_;rw[n5];exact l2,ob,hk _ _ ho,hd⟩
 ·obtain⟨w,ob,ho,hd⟩:=I.cell x d (S.sub _ _ e)
  exact⟨w,ob,hk _ _ ho,hd⟩
 ·have:=cp.len
  show(some v::ph 0 cap σ).length=N'.length
  unfold ph
  rw[this];simp;omega
theorem C7 {f:Addr}{params:Arguments}{body:Expr}{fb:FE}{B:Hp}{ρ:Env}{v:V}{u:Value}{d d':D}{b':Bool}{Q:VK}(S:LamSc X scope cl y) (N0:N'[0]? = some y) (cp:LCaps X N' scope cl 1 cap) (I:Inv X pins σ H s)
  (hA:A.frames=some X.stack) (hh:A.handled=none) (hroom:A.depth<recursionLimit) (lv:AC H f q params body scope cl)
  (hbind:∀pm c ctv u,bindArgs (kla_fn "<lambda>" q params body scope cl pm (.ref c) ctv) ⟨[u],[]⟩=pure [(y,u)])
  (hb:∀(f c:Addr) (s:Shared) (H:Hp),JE (ue X N' scope cl q A f c s H) body fb)
  (rep:RepE X.K B σ ρ) (sB:aR B H) (r:aT v u) (i:Is X.K B v d) (e:fb (some (d,false)::bV 0 cap ρ)=some (d',b')) (qf:Fin X.K B H d' b' Q) :
  wpAny (model X.prog X.w) A (call (.ref f) [u]) (EP X pins σ Q) (λ_ _=>False) s:=by
 obtain⟨pm,c,ctv,uf,oc,u',ws,t,hf,hc,hd,hv⟩:=lv
 have ho:=(I.hok f _ hf).1
 have hoc:=(I.hok c _ hc).1
 refine wpAny_call (codeAny_mono (R:=λr s'=>CR CX0 X.stack X.prog X.w H s Q (λ_ _ _=>False) r s') ?_ λr s' hq=>?_)
 ·refine kla_callFunE hroom ho rfl S.co S.gen rfl ⟨c,oc,ws,t,rfl,hoc,hd,hv⟩ ?_
  rw[hbind]
  refine wY (wpAny_newFunctionEnv S.nocell (λz hz=>by rw[List.mem_singleton.mp hz];exact S.par) (λh₁ hns hsb=>⟨I.nolimit.fresh _ hsb, ?_⟩) S.kind)
  have hk₁:∀b o,s.heap.get? b=some o->h₁.get? b=some o:=λb o e=>hsb.extBut b o (Nat.ne_of_lt (Heap.lt_size e)) (Heap.get?_push_of_some _ e)
  have J:=C6 (f:=f) (c:=c) (q:=q) (tk:=s.toks+1) S N0 cp I hA hh r hns hk₁
  refine kla_codeExpr (wpAny_mono (hb f c s H [] _ _ H Q J ⟨B,_,d',b',sB,⟨rep.tb,λj e0 b0 z=>?_⟩,e,qf⟩) (λw s' hw=>?_) λ_ _ z=>z.elim)
  ·cases j with
   | zero=>
    have z':some (d,false)=some (e0,b0):=by simpa using z
    cases z'
    exact⟨v,rfl,i⟩
   | succ j =>
    obtain⟨w,h1,h2⟩:=(rep.caps (nT:=0) (cap:=cap)).at' j e0 b0 (by simpa using z)
    exact⟨w,by simpa using h1,h2⟩
  ·obtain⟨v',H',J',rv,qv⟩:=hw
   exact⟨v',H',J'.os,J'.bare,J'.base,J'.hok,rv,qv⟩
 ·cases r with
  | error e=>exact False.elim hq
  | ok fl =>
   cases fl with
   | ret w=>exact I.after hq
   | next=>exact False.elim hq
   | brk=>exact False.elim hq
   | cont=>exact False.elim hq
end
end DL
namespace DL
open PySem PySem.Spec PySem.W PyProof.Rows L2
section
variable {X:Cx}{pins:List (Addr×Obj)}{σ:St}{H:Hp}{s:Shared}{h':Heap}{t':Nat}
theorem lq {p:Addr}{o:Obj}(I:Inv X ((p,o)::pins) σ H s):∀x c,X.env.cells.lookup x=some c->c≠p:=λx c e z=>by
 have pf:=I.pin (p,o) (mY _ mX)
 obtain⟨v,ob,ho,hd⟩:=I.cell x c e
 rw[z,pf.1]at ho;cases ho
 exact pf.2.2.2.2 v hd
theorem io {p:Addr×Obj}(I:Inv X (p::pins) σ H s):Inv X pins σ H s:=I.pins_of λq hq=>I.pin q (mY _ (mZ _ hq))
theorem eF {p:Addr}{o o':Obj}(I:Inv X ((p,o)::pins) σ H s) (h0:X.s₀.heap.objs.size<=p) (hp:∀q∈X.pn++pins,q.1≠p) (k:∀b u,b≠p->s.heap.get? b=some u->h'.get? b=some u) (e':h'.get? p=some o') (nc:∀v,o'.data≠.cell v) :
  Inv X ((p,o')::pins) σ H { s with heap:=h',toks:=t' }:=by
 have pf:=I.pin (p,o) (mY _ mX)
 have J:=(io I).turned (t':=t') k pf.2.1 pf.2.2.1 (.inr h0) (lq I) hp
 refine J.pins_of λq hq=>?_
 rcases List.mem_cons.mp hq with rfl|hq
 ·exact⟨e',pf.2.1,pf.2.2.1,pf.2.2.2.1,nc⟩
 ·exact J.pin q (mY _ hq)
theorem mB {p:Addr}{o:Obj}(I:Inv X pins σ H s) (k:∀b u,s.heap.get? b=some u->h'.get? b=some u) (hs:s.heap.objs.size<=p) (e':h'.get? p=some o) (nc:∀v,o.data≠.cell v):Inv X ((p,o)::pins) σ H { s with heap:=h',toks:=t' }:=by
 have J:=I.kept (t':=t') k
 refine J.pins_of λq hq=>?_
 rcases List.mem_cons.mp hq with rfl|hq
 ·exact⟨e',I.hok.fresh hs,Nat.ne_of_gt (Nat.lt_of_lt_of_le I.lt hs),I.nofs hs,nc⟩
 ·exact J.pin q (mY _ hq)
theorem C8 {p:Addr}{o:Obj}{ob:HO}(I:Inv X ((p,o)::pins) σ H s) (h0:X.s₀.heap.objs.size<=p) (hp:∀q∈X.pn++pins,q.1≠p) (k:∀b u,b≠p->s.heap.get? b=some u->h'.get? b=some u) (eo:∃u,h'.get? p=some u)
  (new:bH X.prog X.w (upd H p ob) h' p ob):Inv X pins σ (upd H p ob) { s with heap:=h',toks:=t' }:=by
 have pf:=I.pin (p,o) (mY _ mX)
 have hn:=pf.2.1
 have hn:H p=none:=hn
 have cs:=lq I
 refine(io I).step (g':=s.gens) (d':=s.drawn) (ch:=[p]) (λb hb=>?_) (λb u _ _ hc e _=>k b u (λz=>hc (by simp[z])) e) (λb u _ _ hc e _=>⟨u.slots,k b u (λz=>hc (by simp[z])) e⟩) (λb u hc _ n=>by rw[aL (λz=>hc (by simp[z]))];exact n)
  (λb u hc e=>⟨u,k b u (λz=>hc (by simp[z])) e⟩) (λb xs e=>by rw[aL (aS e hn)];exact e) (λb u w e=>by rw[aL (aS e hn)];exact e) (λb q e=>by rw[aL (aS e hn)];exact e) (λm hm=>?_) (λb u e=>?_) I.bare
 ·have z:b=p:=by simpa using hb
  subst z
  exact⟨.inr h0,pf.2.2.1,cs,hp⟩
 ·obtain⟨ol,es,ep,ho,r⟩:=hm
  exact⟨ol,es,ep,k _ ol (λz=>pf.2.2.1 z.symm) ho,r⟩
 ·by_cases z:b=p
  ·subst z;rw[aJ]at e;cases e;exact new
  ·rw[aL z]at e
   refine(I.hok b u e).stay (λc v hc q=>k c v ?_ q) (λc q=>?_) (λc xs q=>?_) λc w xs q=>?_
   ·rcases hc with rfl|hc
    ·exact z
    ·exact aS hc hn
   ·rw[aL (aS q hn)];exact q
   ·rw[aL (aS q hn)];exact q
   ·rw[aL (aS q hn)];exact q
end
def AF (X:Cx) (A:Around) (σ:St) (qv:Value) (B H1:Hp) (kf:D->Option D):Prop :=
 ∀(pins:List (Addr×Obj)) (s:Shared) (H N:Hp) (v:V) (u:Value) (d d':D),Inv X pins σ H s->aR H1 H->aR B N->aR N H->Is X.K N v d->aT v u->kf d=some d' ->
  wpAny (model X.prog X.w) A (call qv [u]) (EP X pins σ λv' H'=>∃N',Ext N N' H H'/\Is X.K N' v' d') (λ_ _=>False) s
def JK (X:Cx) (A:Around) (e:Expr) (kf:Env->D->Option D):Prop:=∀(pins:List (Addr×Obj)) (s:Shared) (σ:St) (H B:Hp) (ρ:Env) (Q:Value->Shared->Prop) (E:Value->Shared->Prop),Inv X pins σ H s->aR B H->RepE X.K B σ ρ ->
 (∀qa H1 s1,Inv X pins σ H1 s1->aR H H1->AF X A σ (.ref qa) B H1 (kf ρ)->Q (.ref qa) s1)->wpAny (model X.prog X.w) X.A (eval e X.env) Q E s
section
variable {X:Cx}{A:Around}
@[simp] def ug (cap:List Nat) (fb:FE):Env->D->Option D:=λρ d=>(fb (some (d,false)::bV 0 cap ρ)).map (·.1)
theorem wq {x y:Str}{params:Arguments}{body:Expr}{scope:Scope}{pos:Pos}{N':List Str}{cap:List Nat}{fb:FE}(hx:x∈jL) (L:rK X.K x) (hc:∀c P,tabIn X.K x=some (c,P)->X.env.code=.ref c) (hq:X.env.qual ++ "<lambda>" = mJ x)
  (hdef:defaultsOf params X.env=([],[])) (S:LamSc X scope (f9 scope.names X.env.cells []) y) (N0:N'[0]? = some y) (cp:LCaps X N' scope (f9 scope.names X.env.cells []) 1 cap) {k:Nat}(hA:A.frames=X.A.frames) (hr:Room (k+1) A)
  (hbind:∀pm c ctv u,bindArgs (kla_fn "<lambda>" (mJ x) params body scope (f9 scope.names X.env.cells []) pm (.ref c) ctv) ⟨[u],[]⟩=pure [(y,u)])
  (hb:∀(f c:Addr) (s:Shared) (H:Hp),Room k (ue X N' scope (f9 scope.names X.env.cells []) (mJ x) A f c s H).A->JE (ue X N' scope (f9 scope.names X.env.cells []) (mJ x) A f c s H) body fb):JK X A (.Lambda params body scope pos) (ug cap fb):=by
 intro pins s σ H B ρ Q E I sB rep kk
 refine AD hx L hc hq hdef S.clos I (rep.tb.mono sB) λf H1 s1 I1 sm lv=>kk f H1 s1 I1 sm ?_
 intro pins' s' H' N v u d d' I' m1 m2 m3 iv r e
 simp only[ug]at e
 obtain⟨⟨d2,b2⟩,e1,e2⟩:=oY e
 cases e2
 exact C7 S N0 cp I' (hA.trans I'.ok.frames) hr.hd hr.depth (lv.mono m1) hbind (λf c s H=>hb f c s H (hr.deeper _)) (rep.mono m2) m3 r iv e1 λv' H2 N2 x2 i2 _=>⟨N2,x2,i2⟩
@[simp] def pz (g:List D->Option (D×Bool)):Env->D->Option D:=λ_ d=>(g [d]).map (·.1)
theorem xM {k:Nat}{x:Str}{g:List D->Option (D×Bool)}{p:Pos}(F:Fn X.prog X.w X.K X.mg X.base k x g) (hr:Room k A) (hA:A.frames=X.A.frames) (hg:Gl X x:=by rfl) (hdb:(x == ("__debug__" : Str))=false:=by decide):JK X A (.Name x p) (pz g):=by
 intro pins s σ H B ρ Q E I sB rep kk
 obtain⟨ad,fd,ps,F1,hm,hk,hb⟩:=F.ex
 refine qO I hg hm ?_ hdb
 refine kk ad H s I (.refl H) ?_
 intro pins' s' H' N v u d d' I' m1 m2 m3 iv r e
 simp only[pz]at e
 obtain⟨⟨d2,b2⟩,e1,e2⟩:=oY e
 cases e2
 have sp:spD X.K g [v] H' (λv' H2=>∃N',Ext N N' H' H2/\Is X.K N' v' d2) (λ_ _ _=>False):=⟨N,[d],d2,b2,⟨m3,rep.tb.mono m2⟩,.cons iv .nil,e1,λv' H2 N2 x2 i2 _=>⟨N2,x2,i2⟩⟩
 have hl:[u].length=ps.length:=by have:=F1.len _ _ _ _ sp;simpa using this
 have e0:=I'.env0
 have bb:=hb s' [u] I'.kIn (by simpa using hl)
 rw[List.append_nil]at bb
 refine wpAny_call (codeAny_mono (F1.run A X.stack s' H' ⟨[u],[]⟩ [u] [v] _ (λ_ _ _=>False) hr ⟨hA.trans e0.frames,e0.mod,e0.bs,e0.bsz,e0.funs,e0.frf,e0.hok,e0.bare⟩ bb (.cons r .nil) sp) λr s' hq=>?_)
 cases r with
 | error e=>exact False.elim hq
 | ok fl =>
  cases fl with
  | ret w=>exact I'.after hq
  | next=>exact False.elim hq
  | brk=>exact False.elim hq
  | cont=>exact False.elim hq
end
def hX (f:D->Option D):List D->Option (List D)
 | []=>some []
 | d::ds=>(f d).bind λx=>(hX f ds).map (x :: ·)
theorem ft {f:D->Option D}:∀ {ds ks:List D},hX f ds=some ks->ks.length=ds.length
 | [],_,h=>by simp only[hX]at h;cases h;rfl
 | d::ds,_,h=>by
  simp only[hX]at h
  obtain⟨a,h1,h⟩:=oX h
  obtain⟨r,h2,h⟩:=oY h
  subst h
  simp[ft h2]
theorem jV {f:D->Option D}:∀ {ds ks:List D},hX f ds=some ks->∀ {i:Nat}{d:D},ds[i]? = some d->∃k,ks[i]? = some k/\f d=some k
 | [],_,h,i,d,e=>by simp at e
 | d::ds,_,h,0,e,q=>by
  simp only[hX]at h
  obtain⟨a,h1,h⟩:=oX h
  obtain⟨r,h2,h⟩:=oY h
  subst h
  simp at q;subst q
  exact⟨a,by simp,h1⟩
 | d::ds,_,h,i+1,e,q=>by
  simp only[hX]at h
  obtain⟨a,h1,h⟩:=oX h
  obtain⟨r,h2,h⟩:=oY h
  subst h
  obtain⟨k,z1,z2⟩:=jV h2 (i:=i) (d:=e) (by simpa using q)
  exact⟨k,by simpa using z1,z2⟩
section
variable {X:Cx}{pins:List (Addr×Obj)}{σ:St}{s:Shared}
theorem qh {x:V}{u:Value}(r:aT x u):∀ {vs:List V}{us:List Value},aX vs us->aX (vs++[x]) (us++[u])
 | _,_,.nil=>.cons r .nil
 | _,_,.cons h t=>.cons h (qh r t)
theorem c8 {c:Value}{od:Option Addr}{its:Array Value}{n:Nat}{sl:Array (Option Value)}:∀v,(Obj.mk c od (.seq its n) sl).data≠.cell v:=λv z=>by cases z
theorem wt {A:Around}{E:Value->Shared->Prop}{a:Addr}{n:Nat}{qv:Value}{its:List Value}{vs:List V}{ds kds:List D}{ks:List (List At)}{B H:Hp}{kf:D->Option D}{P:PySem.Fin->Shared->Prop}
  (I:Inv X ((a,seqObj "list" its.toArray n)::pins) σ H s) (h0:X.s₀.heap.objs.size<=a) (hp:∀q∈X.pn++pins,q.1≠a) (kfn:AF X A σ qv B H kf) (rv:aX vs its) (iv:IsL X.K B vs ds) (sB:aR B H)
  (em:hX kf ds=some kds) (ek:cY kds=some ks) (hc:eE ks=true) (hf:d9 ks=true) (h64:its.length<64)
  (h:∀(p:Array Nat) (s':Shared) (H' N:Hp),Arr its.length p->Up (rkK ks) p its.length->Inv X pins σ (upd H' a (.lst (p.toList.map λi=>vs.getD i .non))) s'->Ext B N H H'->H' a=none->P (.done (.ret .none)) s') :
  wpAny (model X.prog X.w) A (ksk_tree a qv false) P E s:=by
 have pa:=I.pin (a,seqObj "list" its.toArray n) (mY _ mX)
 have hvl:vs.length=its.length:=rv.length
 have hdl:ds.length=vs.length:=iv.length.symm
 have hkd:kds.length=ds.length:=ft em
 have hks:ks.length=kds.length:=eV ek
 have hz:its.length<=sizeLine:=by rw[sizeLine_eq];omega
 have hna:H a=none:=pa.2.1
 obtain⟨e1,ho1⟩:∃e1,(s.heap.update a (Obj.mapSeq λ_=>(#[]:Array Value))).get? a=some (seqObj "list" #[] e1):=⟨_,get?_update_seq pa.1 λ_=>#[]⟩
 have u1:=Heap.SameBut.update s.heap a (Obj.mapSeq λ_=>(#[]:Array Value))
 have I1:Inv X ((a,seqObj "list" #[] e1)::pins) σ H { s with heap:=s.heap.update a (Obj.mapSeq λ_=>(#[]:Array Value)) }:=eF (t':=s.toks) I h0 hp (λb u n q=>(u1.2 b n).trans q) ho1 c8
 let h2:Heap:=(s.heap.update a (Obj.mapSeq λ_=>(#[]:Array Value))).push (seqObj "tuple" its.toArray 0)
 have I2:Inv X ((a,seqObj "list" #[] e1)::pins) σ H { s with heap:=h2 }:=I1.kept (t':=s.toks) λb u q=>Heap.get?_push_of_some _ q
 let kS:Addr:=h2.objs.size
 have I3:Inv X ((kS,seqObj "list" #[] 0)::(a,seqObj "list" #[] e1)::pins) σ H { s with heap:=h2.push (seqObj "list" #[] 0) }:=mB (s:={ s with heap:=h2 }) (t':=s.toks) I2 (λb u q=>Heap.get?_push_of_some _ q) (Nat.le_refl _) (Heap.get?_push_size _ rfl) c8
 have k0:X.s₀.heap.objs.size<=kS:=I2.sz
 have kp:∀q∈X.pn++((a,seqObj "list" #[] e1)::pins),q.1≠kS:=λq hq=>Nat.ne_of_lt (Heap.lt_size (I2.pin q hq).1)
 have kna:kS≠a:=λz=>kp (a,seqObj "list" #[] e1) (mY _ mX) z.symm
 unfold ksk_tree
 refine wX (listItems_at pa.1 rfl ?_)
 refine wX (listUpdate_at pa.1 rfl ?_ (by simpa using hz) (Nat.zero_le _))
 refine wX (seqEpoch_at ho1 rfl ?_)
 refine wX (wpAny_newTuple ?_ (by show its.length<=sizeLine;exact hz))
 refine wX (wpAny_newList ?_ (Nat.zero_le _))
 refine wpAny_holding ?_
 show wpAny (model X.prog X.w) A (ksk_rest a qv false its.toArray e1 (.ref kS)) P E { s with heap:=h2.push (seqObj "list" #[] 0) }
 unfold ksk_rest
 refine wX (wpAny_rule ?_)
 rw[List.forIn_toArray]
 refine wX (ksk_fold (λi s'=>∃(H' N:Hp) (kA:Array Value) (e:Nat) (kvs:List V),Inv X ((kS,seqObj "list" kA e)::(a,seqObj "list" #[] e1)::pins) σ H' s'/\Ext B N H H'/\aX kvs kA.toList/\IsL X.K N kvs (kds.take i)) its 0 _
  ⟨H,B,#[],0,[],I3,.refl sB,.nil,by simpa using IsL.nil⟩ ?step ?done)
 case step =>
  rintro j u s' hu ⟨H',N,kA,e,kvs,J,x1,rk,ik⟩
  simp only[Nat.zero_add]at ik ⊢
  have hj:j<its.length:=(List.getElem?_eq_some_iff.mp hu).1
  obtain⟨d,hd⟩:∃d,ds[j]? = some d:=⟨_,List.getElem?_eq_getElem (by omega)⟩
  obtain⟨v,hv,iv'⟩:=iv.get hd
  obtain⟨kd,hkj,hkf⟩:=jV em hd
  obtain⟨u',hu',ru⟩:=rv.get hv
  rw[hu]at hu';cases hu'
  have kl:kA.size=j:=by
   have z1:=rk.length
   have z2:=ik.length
   rw[List.length_take]at z2
   rw[Array.length_toList]at z1
   exact z1.symm.trans (z2.trans (Nat.min_eq_left (by omega)))
  refine wX (wpAny_attempt (wpAny_mono (kfn _ s' H' N v u d kd J x1.hh x1.bn x1.nh (iv'.mono x1.bn) ru hkf) (λw s'' hw=>?_) λ_ _ hF=>hF.elim))
  obtain⟨v',H'',J',rv',N',x2,i2⟩:=hw
  have pk:=J'.pin (kS,seqObj "list" kA e) (mY _ mX)
  obtain⟨c2,hc2⟩:∃c2,(s''.heap.update kS (Obj.mapSeq (·.push w))).get? kS=some (seqObj "list" (kA.push w) c2):=⟨_,get?_update_seq pk.1 (·.push w)⟩
  have u2:=Heap.SameBut.update s''.heap kS (Obj.mapSeq (·.push w))
  refine wX (listUpdate_at pk.1 rfl ?_ (by rw[sizeLine_eq];omega) (Nat.le_trans (Nat.le_of_eq (Array.size_push ..)) (by rw[sizeLine_eq];omega)))
  refine wY ⟨rfl,H'',N',kA.push w,c2,kvs++[v'],eF (t':=s''.toks) J' k0 kp (λb q n z=>(u2.2 b n).trans z) hc2 c8,x1.trans x2, ?_, ?_⟩
  ·rw[Array.toList_push];exact qh rv' rk
  ·rw[List.take_add_one,hkj];exact(ik.mono x2.bn).append (.cons i2 .nil)
 case done =>
  rintro s' ⟨H',N,kA,e,kvs,J,x1,rk,ik⟩
  have ik':IsL X.K N kvs kds:=by
   have z:kds.take (0+its.length)=kds:=List.take_of_length_le (by omega)
   rw[z]at ik;exact ik
  have pk:=J.pin (kS,seqObj "list" kA e) (mY _ mX)
  have pa':=J.pin (a,seqObj "list" #[] e1) (mY _ (mZ _ mX))
  have hn':H' a=none:=pa'.2.1
  have kz:kA.toList.length=its.length:=by rw[←rk.length,ik'.length];omega
  have kz':kA.size=its.length:=by rw[←Array.length_toList];exact kz
  refine wX (listItems_at pk.1 rfl ?_)
  have hkp:Paired (gg s'.heap) ks kA.toList:=rJ J rk (ik'.mono x1.nh) ek
  -- the end of the sort,for a permutation p
  have ends:∀(st:SortSt) (p:Array Nat),arrOf st=p.map (kas_item (kA.toList.toArray.zip its.toArray))->failedOf st=none->Arr its.length p->Up (rkK ks) p its.length ->
    wpAny (model X.prog X.w) A (ksk_tail a false e1 (.ref kS) st) P E s':=λst p ea ef ap up=>by
   have eo:(arrOf st).map (·.2)=List.toArray (p.toList.map λi=>its.getD i Value.none):=kat_snds kz ea
   have hin:∀i∈p.toList,i<vs.length:=λi hi=>by
    have:=List.mem_range.mp (ap.perm.mem_iff.mp hi)
    omega
   obtain⟨c3,hc3⟩:∃c3,(s'.heap.update kS (Obj.mapSeq λ_=>(#[]:Array Value))).get? kS=some (seqObj "list" #[] c3):=⟨_,get?_update_seq pk.1 λ_=>#[]⟩
   have u3:=Heap.SameBut.update s'.heap kS (Obj.mapSeq λ_=>(#[]:Array Value))
   have J3:=io (eF (t':=s'.toks) J k0 kp (λb q n z=>(u3.2 b n).trans z) hc3 c8)
   have pa3:=J3.pin (a,seqObj "list" #[] e1) (mY _ mX)
   obtain⟨c4,hc4⟩:∃c4,((s'.heap.update kS (Obj.mapSeq λ_=>(#[]:Array Value))).update a (Obj.mapSeq λ_=>(arrOf st).map (·.2))).get? a=some (seqObj "list" ((arrOf st).map (·.2)) c4):=⟨_,get?_update_seq pa3.1 λ_=>(arrOf st).map (·.2)⟩
   have u4:=Heap.SameBut.update (s'.heap.update kS (Obj.mapSeq λ_=>(#[]:Array Value))) a (Obj.mapSeq λ_=>(arrOf st).map (·.2))
   have so:((arrOf st).map (·.2)).size=its.length:=by rw[eo];simp only[List.size_toArray,List.length_map,Array.length_toList,ap.size]
   unfold ksk_tail
   try dsimp only
   refine wX (listUpdate_at pk.1 rfl ?_ (by rw[kz',sizeLine_eq];omega) (Nat.zero_le _))
   refine wX (wpAny_letGo ?_)
   refine wX (seqEpoch_at pa3.1 rfl ?_)
   refine wX (listUpdate_at pa3.1 rfl ?_ (Nat.zero_le _) (by simp only[Bool.false_eq_true,if_false];rw[so,sizeLine_eq];omega))
   rw[ef]
   simp only[bne_self_eq_false,Bool.false_eq_true,if_false]
   refine wY (h p _ H' N ap up (C8 (s:={ s' with heap:=s'.heap.update kS (Obj.mapSeq λ_=>(#[]:Array Value)) }) (t':=s'.toks) J3 h0 hp (λb q n z=>(u4.2 b n).trans z) ⟨_,hc4⟩ ?_) x1 hn')
   refine⟨by rw[List.length_map,Array.length_toList,ap.size];exact hz,p.toList.map λi=>its.getD i Value.none,c4,qg rv p.toList hin, ?_⟩
   rw[←eo];exact hc4
  unfold ksk_end
  try dsimp only
  simp only[Bool.false_eq_true,if_false]
  have ekA:kA=kA.toList.toArray:=by simp
  by_cases h2':its.toArray.size<2
  ·rw[if_pos h2',if_pos h2']
   refine wX (wY ?_)
   rw[StateT.run_pure]
   refine wX (wY ?_)
   have hsm:its.length<2:=by simpa using h2'
   refine ends _ (List.toArray (List.range its.length)) ?_ rfl ⟨by simp,by simp⟩ ?_
   ·show kA.zip its.toArray=_
    have:=kas_range (kA.toList.toArray.zip its.toArray)
    rw[show(kA.toList.toArray.zip its.toArray).size=its.length by simp[kz']]at this
    rw[this]
   ·intro i j hij hj
    have:i=j:=by omega
    subst this;exact Int.le_refl _
  ·rw[if_neg h2',if_neg h2']
   have h2'':2<=its.length:=by simp at h2';omega
   rw[ekA]
   refine wX (AA hkp hf (by omega) ?_)
   obtain⟨p,r1,r2,r3⟩:=A7 (n:=its.length) (rk:=rkK ks) (by omega)
   refine wX (wpAny_mono (kat_run (E:=E) (ks:=kA.toList) (vs:=its) (κ:=tuples' true) (s:=s') (Q:=λst' s2=>s2=s'/\arrOf st'=p.map (kas_item (kA.toList.toArray.zip its.toArray))/\failedOf st'=none)
    (G:=λp' s2=>p'=p/\s2=s') kz h2'' h64 (λp' st' s2 _ e2 e3 e4=>by
     obtain⟨rfl,rfl⟩:=e4
     exact⟨rfl,e2,e3⟩) (Run.wp (λs2=>s2=s') (λi j C s2 hi hj e hC=>C4 (s:=s') hc hkp i j C s2 (by omega) (by omega) e hC) r1 rfl λs2 e=>⟨rfl,e⟩)) (λr s2 hr=>?_) λ_ _ z=>z)
   obtain⟨⟨⟩,st'⟩:=r
   obtain⟨rfl,e2,e3⟩:=hr
   exact ends st' p e2 e3 r2 r3
end
theorem uh {α β:Type}{f:α->β}:∀ {l:List α},(l.map f).Nodup->l.Nodup
 | [],_=>List.nodup_nil
 | a::l,h=>by
  rw[List.map_cons,List.nodup_cons]at h
  exact List.nodup_cons.mpr ⟨λz=>h.1 (List.mem_map.mpr ⟨a,z,rfl⟩),uh h.2⟩
def iq (ks:List (List At)) (ds:List D):List D:=(gY (λp:List At×D=>cJ p.1) (ks.zip ds)).map (·.2)
theorem AG {α β:Type}(d:α) (e:β):∀ {l₁:List α}{l₂:List β},l₁.length=l₂.length->(List.range l₂.length).map (λi=>(l₁.getD i d,l₂.getD i e))=l₁.zip l₂:=λ{l₁ l₂} h=>by
 apply List.ext_getElem?
 intro i
 by_cases hi:i<l₂.length
 ·have hi':i<l₁.length:=by omega
  have:=(List.getElem?_zip_eq_some (z:=(l₁[i],l₂[i]))).mpr ⟨List.getElem?_eq_getElem hi',List.getElem?_eq_getElem hi⟩
  rw[this]
  simp[hi,hi']
 ·simp[hi,h]
theorem C9 {α β:Type}{l₁:List α}{l₂:List β}(nd:l₁.Nodup) {a:α}{b c:β}(h1:(a,b)∈l₁.zip l₂) (h2:(a,c)∈l₁.zip l₂):b=c:=by
 obtain⟨i,hi⟩:=List.mem_iff_getElem?.mp h1
 obtain⟨j,hj⟩:=List.mem_iff_getElem?.mp h2
 obtain⟨i1,i2⟩:=List.getElem?_zip_eq_some.mp hi
 obtain⟨j1,j2⟩:=List.getElem?_zip_eq_some.mp hj
 obtain⟨li,ei⟩:=List.getElem?_eq_some_iff.mp i1
 obtain⟨lj,ej⟩:=List.getElem?_eq_some_iff.mp j1
 have:i=j:=(List.getElem_inj nd).mp (ei.trans ej.symm)
 subst this
 rw[i2]at j2;exact Option.some.inj j2
theorem wu {ds:List D}{ks:List (List At)}{p:Array Nat}(hl:ks.length=ds.length) (hc:eE ks=true) (nd:ks.Nodup) (ap:Arr ds.length p) (up:Up (rkK ks) p ds.length):p.toList.map (λi=>ds.getD i .non)=iq ks ds:=by
 unfold iq
 have e:p.toList.map (λi=>(ks.getD i [],ds.getD i .non))=gY (λp:List At×D=>cJ p.1) (ks.zip ds):=by
  apply nj
  ·intro x hx y hy e
   have mx:=(List.of_mem_zip hx).1
   have my:=(List.of_mem_zip hy).1
   have:=qe hc mx my e
   obtain⟨k1,d1⟩:=x
   obtain⟨k2,d2⟩:=y
   have z:k1=k2:=this
   subst z
   rw[C9 nd hx hy]
  ·have:=ap.perm.map (λi=>(ks.getD i [],ds.getD i D.non))
   rw[AG [] D.non hl]at this
   exact this
  ·rw[List.pairwise_iff_getElem]
   intro i j hi hj hij
   have hsz:=ap.size
   have hi':i<p.size:=by simpa using hi
   have hj':j<p.size:=by simpa using hj
   have:=up i j (Nat.le_of_lt hij) (by omega)
   unfold bP rkK at this
   have gi:p.getD i 0=p[i]:=by rw[Array.getD_eq_getD_getElem?,Array.getElem?_eq_getElem hi'];rfl
   have gj:p.getD j 0=p[j]:=by rw[Array.getD_eq_getD_getElem?,Array.getElem?_eq_getElem hj'];rfl
   have lj:=ap.lt (k:=j) (by omega)
   have mj:ks.getD (p.getD j 0) []∈ks:=by
    have h':p.getD j 0<ks.length:=by omega
    rw[List.getD_eq_getElem?_getD,List.getElem?_eq_getElem h'];exact List.getElem_mem h'
   have nl:¬cJ (ks.getD (p.getD j 0) [])<cJ (ks.getD (p.getD i 0) []):=λz=>by
    have:=xI (cs:=ks.map cJ) (List.mem_map.mpr ⟨_,mj,rfl⟩) z
    omega
   simp only[List.getElem_map,Array.getElem_toList]
   unfold leF
   rw[←gi,←gj]
   exact nl
 rw[←e,List.map_map]
 rfl
@[simp] def lr (f:FE) (kf:Env->D->Option D):FE:=λρ=>(f ρ).bind λx=>match x.1 with
 | .lst ds=>(hX (kf ρ) ds).bind λkds=>(cY kds).bind λks=>if ks.length<64/\eE ks=true/\d9 ks=true/\(ks.map cJ).Nodup then some (.lst (iq ks ds),true)else none
 | _=>none
section
variable {X:Cx}{e ke:Expr}{p pos kp:Pos}
theorem ui {f:FE}{kf:Env->D->Option D}(hm:X.mg "sorted" = none) (he:JE X e f) (hk:JK X X.A.in1.in1 ke kf) (hg:Gl X "sorted":=by rfl)
  (hes:starEach [e] X.env=[(false,eval e X.env)]:=by rfl) (heb:backTo pos (starEach [e] X.env)=(false,eval e X.env)::backTo pos (starEach [] X.env):=by rfl) (hpl:(backTo pos (starEach [e] X.env)).any (·.1)=false:=by rfl)
  (hall:(backToKw pos (keywordEach [⟨some "key",ke,kp⟩] X.env)).all (·.1.isSome)=true:=by rfl) (hkw:(backToKw pos (keywordEach [⟨some "key",ke,kp⟩] X.env)).any (·.1.isNone)=false:=by rfl)
  (hnm:(backToKw pos (keywordEach [⟨some "key",ke,kp⟩] X.env)).filterMap (·.1)=[("key" : Str)]:=by rfl) :
  JE X (.Call (.Name "sorted" p) [e] [⟨some "key",ke,kp⟩] pos) (lr f kf):=by
 intro pins s σ H Q I h
 obtain⟨B,ρ,d,b,sB,rep,ee,q⟩:=h
 obtain⟨⟨xd,xb⟩,ex,ee⟩:=oX ee
 cases xd<;>try (cases ee;done)
 rename_i ds
 obtain⟨kds,em,ee⟩:=oX ee
 obtain⟨ks,ek,ee⟩:=oX ee
 split at ee
 ·rename_i hh
  obtain⟨h64,hc,hf,nd⟩:=hh
  cases ee
  refine wpAny_Call_Name_kw (jk I hg hm (u:=.builtin "sorted") rfl ?_)
  refine callWith_kw (thn ((fE he hZ hes) pos pins s σ H (λvs H1=>∃v N,vs=[v]/\Ext B N H H1/\Is X.K N v (.lst ds)) I ⟨B,ρ,_,_,sB,rep,ex,λv H1 N x1 i1 _=>⟨v,N,rfl,x1,i1⟩⟩) λus s1 hA=>?_) heb hpl hall hkw
  obtain⟨vs1,H1,I1,r1,v,N,rfl,x1,i1⟩:=hA
  obtain⟨u,rfl,ru⟩:=fD r1
  refine kws_cons (hk pins s1 σ H1 N ρ _ _ I1 x1.nh (rep.mono x1.bn) λqa H2 s2 I2 m2 kfn=>kws_nil ?_)
  rw[hnm]
  show wpAny _ _ (call (.builtin "sorted") [u] [(("key" : Str),.ref qa)]) _ _ _
  cases i1
  rename_i l vs hq il
  cases ru
  have sN:aR N H2:=x1.nh.trans m2
  obtain⟨its,rv,pl,hz⟩:=I2.list (sN.seq hq)
  have hvl:vs.length=its.length:=rv.length
  have hdl:ds.length=vs.length:=il.length.symm
  have hkd:kds.length=ds.length:=ft em
  have hks:ks.length=kds.length:=eV ek
  have h64':its.length<64:=by omega
  refine call_function_entry_kw kind_sorted plain_sorted entry_sorted (ksk_s1 _ _) ?_
  unfold Builtin.«sorted»
  refine wX (m:=checkCount "sorted" 1 1 _) (wY (wX (collect_list pl.isList (wX (wpAny_newList ?_ (by rw[sizeLine_eq];omega))) (by rw[sizeLine_eq];omega))))
  let h1:Heap:=(s2.heap.push (seqObj "list" #[] 0)).update s2.heap.objs.size (Obj.mapSeq (· ++ its.toArray))
  have hsz:h1.objs.size=s2.heap.objs.size+1:=by show(Heap.update _ _ _).objs.size=_;rw[Heap.size_update,size_push']
  have keep1:∀b o,s2.heap.get? b=some o->h1.get? b=some o:=λb o q=>(Heap.get?_update_ne _ _ _ _ (Nat.ne_of_lt (Heap.lt_size q))).trans (Heap.get?_push_of_some _ q)
  have I3:Inv X ((h1.objs.size,seqObj "list" its.toArray 0)::pins) σ H2 { s2 with heap:=h1.push (seqObj "list" its.toArray 0) } :=
   mB (t':=s2.toks) I2 (λb u q=>Heap.get?_push_of_some _ (keep1 b u q)) (by rw[hsz];exact Nat.le_succ _) (Heap.get?_push_size _ rfl) c8
  have p3:=I3.pin (h1.objs.size,seqObj "list" its.toArray 0) (mY _ mX)
  show wpAny (model X.prog X.w) X.A.in1 (holding [.ref h1.objs.size] (call (.builtin "list.sort") [.ref h1.objs.size] [(("key" : Str),.ref qa)])>>=_) _ _ { s2 with heap:=h1.push (seqObj "list" its.toArray 0) }
  refine wX (wpAny_holding (wpAny_call_entry_kw slot_list_sort ⟨_,p3.1,rfl⟩ entry_list_sort ?_ (ksk_l1 _ _)))
  show wpAny (model X.prog X.w) X.A.in1.in1 (Builtin.«list.sort» ⟨[.ref h1.objs.size],[(Str.ofString "key",.ref qa)]⟩) _ _ _
  rw[ksk_t1]
  refine wt I3 (Nat.le_trans I2.sz (by rw[hsz];exact Nat.le_succ _)) (λq hq=>by rw[hsz];exact Nat.ne_of_lt (Nat.lt_succ_of_lt (Heap.lt_size (I2.pin q hq).1))) kfn rv il sN em ek hc hf h64' λpm s' H' N' ap up J x3 hn=>⟨_,rfl,wY ⟨_,rfl, ?_⟩⟩
  have hpl:its.length=ds.length:=by omega
  rw[hpl]at ap up
  have er:=wu (by omega) hc (uh nd) ap up
  have hin:∀i∈pm.toList,i<ds.length:=λi hi=>List.mem_range.mp (ap.perm.mem_iff.mp hi)
  have ip:=uc (il.mono x3.bn) pm.toList hin
  rw[er]at ip
  have x4:Ext B N' H H':=(x1.trans (.grow x1.nh m2)).trans x3
  have hN:N' h1.objs.size=none:=x3.nh.free hn
  have x5:=x4.trans (Ext.laid (o:=.lst (pm.toList.map λi=>vs.getD i .non)) x3.nh hn)
  exact⟨.ref h1.objs.size,_,J,rfl,q _ _ _ x5 (.lst (SqL.of aJ) (ip.mono (Ext.laid (o:=.lst (pm.toList.map λi=>vs.getD i .non)) x3.nh hn).bn)) λ_=>⟨_,_,_,rfl,rfl,x4.hh.free hn,aJ,ip.mono (Ext.laid (o:=.lst (pm.toList.map λi=>vs.getD i .non)) x3.nh hn).bn⟩⟩
 ·cases ee
end
section
variable {prog:Program}{w:World}{A:Around}{E:Value->Shared->Prop}{s:Shared}
theorem gg.type {xs:List At}{v:Value}(h:gg s.heap xs v):s.TypeIs v "tuple":=by
 obtain⟨a,o,its,n,rfl,ho,hc,_⟩:=h
 exact⟨o,ho,hc⟩
theorem AH {xs ys:List At}{a b:Addr}{r:Bool}{P:PySem.Fin->Shared->Prop}(hx:gg s.heap xs (.ref a)) (hy:gg s.heap ys (.ref b)) (h:bv xs ys=some r) (q:P (.done (.ret (.bool r))) s):wpAny (model prog w) A (Builtin.«tuple.__lt__» ⟨[.ref a,.ref b],[]⟩) P E s:=by
 have hTb:=hy.type
 obtain⟨a',oa,its,na,ea,hoa,_,hda,ra⟩:=hx
 obtain⟨b',ob,jts,nb,eb,hob,_,hdb,rb⟩:=hy
 cases ea
 cases eb
 show wpAny _ _ (isInstance (.ref _) (.type "tuple")>>=_) _ _ s
 refine wX (wpAny_isInstance hTb isSubtype_tuple_tuple ?_)
 simp only[Bool.not_true,Bool.false_eq_true,if_false]
 refine wX (wpAny_tupleItemsOf hoa hda ?_)
 refine wX (wpAny_tupleItemsOf hob hdb ?_)
 refine wX ?_
 refine wpAny_forIn_list _
  (λa9 z s'=>z.1=none/\s'=s/\∃xs' ys' its' jts' n,a9=List.zip its' jts'/\Paired atV xs' its'/\Paired atV ys' jts'/\bv xs' ys'=some r/\its'.length+n=its.size/\jts'.length+n=jts.size)
  _ ?_ ?_ _ _ ⟨rfl,rfl,xs,ys,its.toList,jts.toList,0,rfl,ra,rb,h,by simp,by simp⟩
 ·rintro⟨u,v⟩ a9 z s' ⟨hz,rfl,xs',ys',its',jts',n,e,p1,p2,hl,n1,n2⟩
  cases p1 with
  | nil=>simp at e
  | @cons x u' xs'' its'' r1 p1' =>
   cases p2 with
   | nil=>simp at e
   | @cons y v' ys'' jts'' r2 p2' =>
    simp only[List.zip_cons_cons,List.cons.injEq,Prod.mk.injEq]at e
    obtain⟨⟨rfl,rfl⟩,rfl⟩:=e
    cases x with
    | i i =>
     cases y with
     | s j=>simp[bv]at hl
     | i j =>
      obtain⟨t,rfl⟩:=r1
      obtain⟨t',rfl⟩:=r2
      rw[bv]at hl
      refine wX (wpAny_eqBool_int ?_)
      by_cases hk:i=j
      ·rw[if_pos hk]at hl
       rw[show(i == j)=true by simp[hk]]
       simp only[Bool.not_true,Bool.false_eq_true,if_false]
       exact wY ⟨rfl,rfl,xs'',ys'',its'',jts'',n+1,rfl,p1',p2',hl,by rw[←n1,List.length_cons];omega,by rw[←n2,List.length_cons];omega⟩
      ·rw[if_neg hk]at hl
       cases hl
       rw[show(i == j)=false by simp[hk]]
       simp only[Bool.not_false,if_true]
       refine wX (wpAny_rule (wX (m:=richCompare .Lt (.int i t) (.int j t')) (wpAny_mono (show wpAny _ _ (richCompare .Lt (.int i t) (.int j t')) (λv s''=>v=.bool (decide (i<j))/\s''=s') E s' from PyProof.Rows.lt_int ⟨rfl,rfl⟩) (λv s'' hv=>?_) λ_ _ z=>z)))
       obtain⟨rfl,rfl⟩:=hv
       exact wX (wY (wY (wY q)))
    | s i =>
     cases y with
     | i j=>simp[bv]at hl
     | s j =>
      obtain⟨t,rfl⟩:=r1
      obtain⟨t',rfl⟩:=r2
      rw[bv]at hl
      refine wX (wpAny_eqBool_str ?_)
      by_cases hk:i=j
      ·rw[if_pos hk]at hl
       rw[decide_eq_true hk]
       simp only[Bool.not_true,Bool.false_eq_true,if_false]
       exact wY ⟨rfl,rfl,xs'',ys'',its'',jts'',n+1,rfl,p1',p2',hl,by rw[←n1,List.length_cons];omega,by rw[←n2,List.length_cons];omega⟩
      ·rw[if_neg hk]at hl
       cases hl
       rw[decide_eq_false hk]
       simp only[Bool.not_false,if_true]
       refine wX (wpAny_rule (wX (m:=richCompare .Lt (.str i t) (.str j t')) (wpAny_mono (show wpAny _ _ (richCompare .Lt (.str i t) (.str j t')) (λv s''=>v=.bool (decide (i.cps.toList<j.cps.toList))/\s''=s') E s' from PySem.P.lt_str ⟨rfl,rfl⟩) (λv s'' hv=>?_) λ_ _ z=>z)))
       obtain⟨rfl,rfl⟩:=hv
       exact wX (wY (wY (wY q)))
 ·rintro⟨z1,z2⟩ s' ⟨hz,rfl,xs',ys',its',jts',n,e,p1,p2,hl,n1,n2⟩
  simp only at hz
  subst hz
  refine wY ?_
  have:decide (its.size<jts.size)=r:=by
   cases p1 with
   | nil =>
    cases p2 with
    | nil=>simp[bv]at hl;subst hl;simp at n1 n2;simp;omega
    | cons _ _=>simp[bv]at hl;subst hl;simp at n1 n2;simp;omega
   | cons _ _ =>
    cases p2 with
    | nil=>simp[bv]at hl;subst hl;simp at n1 n2;simp;omega
    | cons _ _=>simp at e
  show P (.done (.ret (.bool (decide (its.size<jts.size))))) s'
  rw[this];exact q
theorem AI {xs ys:List At}{a b:Addr}{r:Bool}{P:PySem.Fin->Shared->Prop}(hx:gg s.heap xs (.ref a)) (hy:gg s.heap ys (.ref b)) (h:bv ys xs=some r) (q:P (.done (.ret (.bool r))) s):wpAny (model prog w) A (Builtin.«tuple.__gt__» ⟨[.ref a,.ref b],[]⟩) P E s:=by
 have hTb:=hy.type
 obtain⟨a',oa,its,na,ea,hoa,_,hda,ra⟩:=hx
 obtain⟨b',ob,jts,nb,eb,hob,_,hdb,rb⟩:=hy
 cases ea
 cases eb
 show wpAny _ _ (isInstance (.ref _) (.type "tuple")>>=_) _ _ s
 refine wX (wpAny_isInstance hTb isSubtype_tuple_tuple ?_)
 simp only[Bool.not_true,Bool.false_eq_true,if_false]
 refine wX (wpAny_tupleItemsOf hoa hda ?_)
 refine wX (wpAny_tupleItemsOf hob hdb ?_)
 refine wX ?_
 refine wpAny_forIn_list _
  (λa9 z s'=>z.1=none/\s'=s/\∃xs' ys' its' jts' n,a9=List.zip its' jts'/\Paired atV xs' its'/\Paired atV ys' jts'/\bv ys' xs'=some r/\its'.length+n=its.size/\jts'.length+n=jts.size)
  _ ?_ ?_ _ _ ⟨rfl,rfl,xs,ys,its.toList,jts.toList,0,rfl,ra,rb,h,by simp,by simp⟩
 ·rintro⟨u,v⟩ a9 z s' ⟨hz,rfl,xs',ys',its',jts',n,e,p1,p2,hl,n1,n2⟩
  cases p1 with
  | nil=>simp at e
  | @cons x u' xs'' its'' r1 p1' =>
   cases p2 with
   | nil=>simp at e
   | @cons y v' ys'' jts'' r2 p2' =>
    simp only[List.zip_cons_cons,List.cons.injEq,Prod.mk.injEq]at e
    obtain⟨⟨rfl,rfl⟩,rfl⟩:=e
    cases x with
    | i i =>
     cases y with
     | s j=>simp[bv]at hl
     | i j =>
      obtain⟨t,rfl⟩:=r1
      obtain⟨t',rfl⟩:=r2
      rw[bv]at hl
      refine wX (wpAny_eqBool_int ?_)
      by_cases hk:j=i
      ·rw[if_pos hk]at hl
       rw[show(i == j)=true by simp[hk]]
       simp only[Bool.not_true,Bool.false_eq_true,if_false]
       exact wY ⟨rfl,rfl,xs'',ys'',its'',jts'',n+1,rfl,p1',p2',hl,by rw[←n1,List.length_cons];omega,by rw[←n2,List.length_cons];omega⟩
      ·rw[if_neg hk]at hl
       cases hl
       rw[show(i == j)=false by simp;exact λz=>hk z.symm]
       simp only[Bool.not_false,if_true]
       refine wX (wpAny_rule (wX (m:=richCompare .Gt (.int i t) (.int j t')) (wpAny_mono (show wpAny _ _ (richCompare .Gt (.int i t) (.int j t')) (λv s''=>v=.bool (decide (j<i))/\s''=s') E s' from PyProof.Rows.gt_int ⟨rfl,rfl⟩) (λv s'' hv=>?_) λ_ _ z=>z)))
       obtain⟨rfl,rfl⟩:=hv
       exact wX (wY (wY (wY q)))
    | s i =>
     cases y with
     | i j=>simp[bv]at hl
     | s j =>
      obtain⟨t,rfl⟩:=r1
      obtain⟨t',rfl⟩:=r2
      rw[bv]at hl
      refine wX (wpAny_eqBool_str ?_)
      by_cases hk:j=i
      ·rw[if_pos hk]at hl
       rw[decide_eq_true hk.symm]
       simp only[Bool.not_true,Bool.false_eq_true,if_false]
       exact wY ⟨rfl,rfl,xs'',ys'',its'',jts'',n+1,rfl,p1',p2',hl,by rw[←n1,List.length_cons];omega,by rw[←n2,List.length_cons];omega⟩
      ·rw[if_neg hk]at hl
       cases hl
       rw[decide_eq_false λz=>hk z.symm]
       simp only[Bool.not_false,if_true]
       refine wX (wpAny_rule (wX (m:=richCompare .Gt (.str i t) (.str j t')) (wpAny_mono (show wpAny _ _ (richCompare .Gt (.str i t) (.str j t')) (λv s''=>v=.bool (decide (j.cps.toList<i.cps.toList))/\s''=s') E s' from PySem.P.gt_str ⟨rfl,rfl⟩) (λv s'' hv=>?_) λ_ _ z=>z)))
       obtain⟨rfl,rfl⟩:=hv
       exact wX (wY (wY (wY q)))
 ·rintro⟨z1,z2⟩ s' ⟨hz,rfl,xs',ys',its',jts',n,e,p1,p2,hl,n1,n2⟩
  simp only at hz
  subst hz
  refine wY ?_
  have:decide (jts.size<its.size)=r:=by
   cases p1 with
   | nil =>
    cases p2 with
    | nil=>simp[bv]at hl;subst hl;simp at n1 n2;simp;omega
    | cons _ _=>simp[bv]at hl;subst hl;simp at n1 n2;simp;omega
   | cons _ _ =>
    cases p2 with
    | nil=>simp[bv]at hl;subst hl;simp at n1 n2;simp;omega
    | cons _ _=>simp at e
  show P (.done (.ret (.bool (decide (jts.size<its.size))))) s'
  rw[this];exact q
theorem GQ {xs ys:List At}{x y:Value}{r:Bool}{Q:Value->Shared->Prop}(hx:gg s.heap xs x) (hy:gg s.heap ys y) (h:bv xs ys=some r) (hu:A.units<cLine) (q:Q (.bool r) s):wpAny (model prog w) A (richCompare .Lt x y) Q E s:=by
 have tx:=hx.type
 have ty:=hy.type
 obtain⟨a,_,_,_,rfl,_⟩:=id hx
 obtain⟨b,_,_,_,rfl,_⟩:=id hy
 exact wpAny_richCompare_same_room (op:=.Lt) tx ty PySem.F.slot_tuple_lt (wpAny_call_entry PySem.F.slot_tuple_lt tx PySem.F.entry_tuple_lt (AH hx hy h ⟨_,rfl,(λe=>nomatch e),q⟩) (PySem.F.args_tuple_lt_2 _ _)) hu
theorem GR {xs ys:List At}{x y:Value}{r:Bool}{Q:Value->Shared->Prop}(hx:gg s.heap xs x) (hy:gg s.heap ys y) (h:bv ys xs=some r) (hu:A.units<cLine) (q:Q (.bool r) s):wpAny (model prog w) A (richCompare .Gt x y) Q E s:=by
 have tx:=hx.type
 have ty:=hy.type
 obtain⟨a,_,_,_,rfl,_⟩:=id hx
 obtain⟨b,_,_,_,rfl,_⟩:=id hy
 exact wpAny_richCompare_same_room (op:=.Gt) tx ty PySem.F.slot_tuple_gt (wpAny_call_entry PySem.F.slot_tuple_gt tx PySem.F.entry_tuple_gt (AI hx hy h ⟨_,rfl,(λe=>nomatch e),q⟩) (PySem.F.args_tuple_gt_2 _ _)) hu
end
def jW:List At×D->List (List At×D)->D
 | b,[]=>b.2
 | b,x::r=>if bv b.1 x.1=some true then jW x r else jW b r
def jf:List At×D->List (List At×D)->D
 | b,[]=>b.2
 | b,x::r=>if bv x.1 b.1=some true then jf x r else jf b r
def mmP {f:String->CmpOp->Builtin}(_:f "max" .Gt=Builtin.«max.loop»):=f
def mmL:String->CmpOp->Builtin:=mmP rfl
def mmQ {f:String->Builtin}(_:f "max" = Builtin.«max»):=f
def mmF:String->Builtin:=mmQ rfl
structure MM (nm lp:String) (ns:Str) (op:CmpOp) (lt:List At->List At->Option Bool) (go:List At×D->List (List At×D)->D):Prop where
 hn:(toString nm++toString ".loop" : String)=lp
 en:entryFor table lp=some (mmL nm op)
 pl:plainId lp=true
 k2:builtinKind nm=none
 p2:plainId nm=true
 e2:entryFor table nm=some (mmF nm)
 ka:∀a v:Value,argsOk nm ⟨[a],[(Str.ofString "key",v)]⟩
 bt:bootBuiltins ns=some (.builtin nm)
 n1:ns ≠ "__name__"
 n2:(ns == ("__debug__" : Str))=false
 g0:∀b,go b []=b.2
 g1:∀b x r,go b (x::r)=if lt b.1 x.1=some true then go x r else go b r
 cg:∀ {ks:List (List At)},eE ks=true->∀ {a b},a∈ks->b∈ks->∃r,lt a b=some r
 rc:∀ {prog:Program}{w:World}{A:Around}{E:Value->Shared->Prop}{s:Shared}{xs ys:List At}{x y:Value}{r:Bool}{Q:Value->Shared->Prop},gg s.heap xs x->gg s.heap ys y->lt ys xs=some r->A.units<cLine->Q (.bool r) s->wpAny (model prog w) A (richCompare op x y) Q E s
theorem mmx:MM "max" "max.loop" "max" .Gt bv jW :=
 ⟨by decide,PySem.F.entry_max_loop,PySem.F.plain_max_loop,PySem.F.kind_max,PySem.F.plain_max,PySem.F.entry_max,λ_ _=>by unfold argsOk;kernel_rfl,rfl,by decide,by decide,λ_=>rfl,λ_ _ _=>rfl,λh _ _ a b=>⟨_,gf h a b⟩,GR⟩
theorem mmn:MM "min" "min.loop" "min" .Lt (λa b=>bv b a) jf :=
 ⟨by decide,PySem.F.entry_min_loop,PySem.F.plain_min_loop,PySem.F.kind_min,PySem.F.plain_min,PySem.F.entry_min,λ_ _=>by unfold argsOk;kernel_rfl,rfl,by decide,by decide,λ_=>rfl,λ_ _ _=>rfl,λh _ _ a b=>⟨_,gf h b a⟩,GQ⟩
section
variable {X:Cx}{pins:List (Addr×Obj)}{σ:St}
theorem nq {o1 o2:Obj}{H':Hp}{s':Shared}{a1 a2:Addr}(J:Inv X ((a1,o1)::(a2,o2)::pins) σ H' s'):Inv X ((a2,o2)::(a1,o1)::pins) σ H' s' :=
 J.pins_of λq hq=>J.pin q (by
  rcases List.mem_cons.mp hq with rfl|hq
  ·exact mY _ (mZ _ mX)
  ·rcases List.mem_cons.mp hq with rfl|hq
   ·exact mY _ mX
   ·exact mY _ (mZ _ (mZ _ hq)))
theorem nr {S a:Addr}{o:Obj}(hp:∀q∈X.pn++pins,q.1≠a) (h:S≠a):∀q∈X.pn++((S,o)::pins),q.1≠a:=λq hq=>by
 rcases List.mem_append.mp hq with hq|hq
 ·exact hp q (List.mem_append_left _ hq)
 ·rcases List.mem_cons.mp hq with rfl|hq
  ·exact h
  ·exact hp q (mY _ hq)
theorem xN {pins:List (Addr×Obj)}{H:Hp}{s:Shared}{v:V}{u:Value}{d:D}{k:List At}(I:Inv X pins σ H s) (r:aT v u) (i:Is X.K H v d) (e:tY d=some k):gg s.heap k u:=by
 have:=rJ I (ys:=[v]) (ds:=[d]) (ks:=[k]) (its:=[u]) (.cons r .nil) (.cons i .nil) (by simp only[cY,e];rfl)
 cases this;assumption
theorem CA {nm lp:String}{ns:Str}{op:CmpOp}{lt:List At->List At->Option Bool}{go:List At×D->List (List At×D)->D}(M:MM nm lp ns op lt go) {qv:Value}{l S It:Addr}{vs:List V}{ds kds:List D}{ks:List (List At)}{B H1:Hp}{kf:D->Option D}{d0:D}{R:Result->Shared->Prop}(hh:X.A.handled=none) (hu:X.A.in1.units<cLine) (kfn:AF X X.A.in1 σ qv B H1 kf) (hqv:∃a,qv=.ref a) (hq:SqL X.K B l vs) (iv:IsL X.K B vs ds)
  (em:hX kf ds=some kds) (ek:cY kds=some ks) (hc:eE ks=true) (S0:X.s₀.heap.objs.size<=S) (I0:X.s₀.heap.objs.size<=It) (hSp:∀q∈X.pn++pins,q.1≠S) (hIp:∀q∈X.pn++pins,q.1≠It) (hSI:S≠It) (hSl:S≠l) (hIl:l≠It)
  (hR:∀(s':Shared) (H' N:Hp) (v:V) (u:Value),Inv X pins σ H' s'->Ext B N H1 H'->aT v u->Is X.K N v d0->R (.ok (.ret u)) s') :
  ∀(r j:Nat) (s:Shared) (H N:Hp) (ub kub:Value) (vb kvb:V) (db kdb:D) (kb:List At) (c:Nat) (oI:Obj),vs.length - j=r->j<=vs.length->Inv X ((S,seqObj "list" #[ub,kub] c)::(It,oI)::pins) σ H s->s.heap.IsListIter It l j->Ext B N H1 H ->
   aT vb ub->Is X.K N vb db->aT kvb kub->Is X.K N kvb kdb->tY kdb=some kb->kb∈ks->go (kb,db) ((ks.zip ds).drop j)=d0 ->
   codeAny (model X.prog X.w) X.A (.builtin lp ⟨[.ref It,qv,.ref S],[]⟩) R s:=by
 obtain⟨qa,rfl⟩:=hqv
 intro r
 induction r with
 | zero =>
  intro j s H N ub kub vb kvb db kdb kb c oI hr hj I hit x1 r1 i1 r2 i2 ekb mk hd
  have pS:=I.pin (S,seqObj "list" #[ub,kub] c) (mY _ mX)
  have sB:aR B H:=x1.bn.trans x1.nh
  obtain⟨its,rv,pl,_⟩:=I.list (sB.seq hq)
  have hl:=pl.isList
  have W:=Walks.list (prog:=X.prog) (w:=X.w) (A:=X.A.in1) hh It l hIl its.toArray
  have hsz:its.toArray.size=its.length:=List.size_toArray ..
  have hvl:vs.length=its.length:=rv.length
  have hdl:ds.length=its.length:=by rw[←iv.length];exact rv.length
  have hkl:ks.length=ds.length:=by rw[eV ek,ft em]
  have hd':db=d0:=by
   rw[List.drop_of_length_le (by rw[List.length_zip];omega)]at hd
   rw[M.g0]at hd;exact hd
  subst hd'
  refine codeAny_builtin M.en ?_
  rw[Around.under_plainId M.pl _]
  show wpAny _ X.A.in1 (seqItems? (.ref S)>>=_) _ _ _
  refine wX (wpAny_seqItems pS.1 rfl ?_)
  show wpAny _ X.A.in1 (tryCatch (pyNext (.ref It)) _>>=_) _ _ _
  refine wX (wpAny_tryCatch (W.done _ _ _ ⟨by rw[hsz,show its.length=j by omega];exact hit,hl⟩ λh' tk' hk'=>?_))
  have J1:Inv X ((It,oI)::(S,seqObj "list" #[ub,kub] c)::pins) σ H s:=nq I
  have hIp':∀q∈X.pn++((S,seqObj "list" #[ub,kub] c)::pins),q.1≠It:=nr hIp hSI
  have J2:Inv X ((S,seqObj "list" #[ub,kub] c)::pins) σ H { s with heap:=h',toks:=tk' } :=
   (io J1).turned (t':=tk') (λb o n e=>hk' b o (by simpa using n) e) (J1.pin (It,oI) (mY _ mX)).2.1 (J1.pin (It,oI) (mY _ mX)).2.2.1 (.inr I0) (lq J1) hIp'
  have pS2:=J2.pin (S,seqObj "list" #[ub,kub] c) (mY _ mX)
  obtain⟨c2,hc2⟩:∃c2,(h'.update S (Obj.mapSeq λ_=>(#[]:Array Value))).get? S=some (seqObj "list" #[] c2):=⟨_,get?_update_seq pS2.1 λ_=>#[]⟩
  have u2:=Heap.SameBut.update h' S (Obj.mapSeq λ_=>(#[]:Array Value))
  show wpAny _ X.A.in1 (updateSeq S (λ_=>#[])>>=_) _ _ _
  refine wX ?_
  refine wpAny_updateSeq pS2.1 rfl (wX (wpAny_letGo (wY ?_)))
  exact hR _ H N vb ub (io (eF (t':=tk') J2 S0 hSp (λb o n e=>(u2.2 b n).trans e) hc2 c8)) x1 r1 i1
 | succ r ih =>
  intro j s H N ub kub vb kvb db kdb kb c oI hr hj I hit x1 r1 i1 r2 i2 ekb mk hd
  have hlt:j<vs.length:=by omega
  have pS:=I.pin (S,seqObj "list" #[ub,kub] c) (mY _ mX)
  have sB:aR B H:=x1.bn.trans x1.nh
  obtain⟨its,rv,pl,_⟩:=I.list (sB.seq hq)
  have hl:=pl.isList
  have W:=Walks.list (prog:=X.prog) (w:=X.w) (A:=X.A.in1) hh It l hIl its.toArray
  have hsz:its.toArray.size=its.length:=List.size_toArray ..
  have hvl:vs.length=its.length:=rv.length
  have hdl:ds.length=its.length:=by rw[←iv.length];exact rv.length
  have hkl:ks.length=ds.length:=by rw[eV ek,ft em]
  refine codeAny_builtin M.en ?_
  rw[Around.under_plainId M.pl _]
  show wpAny _ X.A.in1 (seqItems? (.ref S)>>=_) _ _ _
  refine wX (wpAny_seqItems pS.1 rfl ?_)
  show wpAny _ X.A.in1 (tryCatch (pyNext (.ref It)) _>>=_) _ _ _
  refine wX (wpAny_tryCatch (W.item j _ _ _ (by rw[hsz];omega) ⟨hit,hl⟩ λu h' tk' hP hst' hk'=>?_))
  have hu':its[j]? = some u:=by simpa using hP
  obtain⟨d,hdj⟩:∃d,ds[j]? = some d:=⟨_,List.getElem?_eq_getElem (by omega)⟩
  obtain⟨v,hv,iv'⟩:=iv.get hdj
  obtain⟨kd,hkj,hkf⟩:=jV em hdj
  obtain⟨u2,hu2,ru⟩:=rv.get hv
  rw[hu']at hu2;cases hu2
  obtain⟨k,hk1⟩:∃k,ks[j]? = some k:=⟨_,List.getElem?_eq_getElem (by omega)⟩
  have ekd:tY kd=some k:=by
   have:=ln ek (i:=j) (by rw[ft em];omega)
   rw[List.getD_eq_getElem?_getD,hkj,List.getD_eq_getElem?_getD,hk1]at this
   exact this
  have hm:k∈ks:=List.mem_of_getElem? hk1
  obtain⟨oI',hoI',hoc,hod⟩:=id hst'.1
  have J1:Inv X ((It,oI)::(S,seqObj "list" #[ub,kub] c)::pins) σ H s:=nq I
  have hIp':∀q∈X.pn++((S,seqObj "list" #[ub,kub] c)::pins),q.1≠It:=nr hIp hSI
  have hSp':∀q∈X.pn++((It,oI')::pins),q.1≠S:=nr hSp hSI.symm
  have J2:Inv X ((It,oI')::(S,seqObj "list" #[ub,kub] c)::pins) σ H { s with heap:=h',toks:=tk' } :=
   eF (t':=tk') J1 I0 hIp' (λb o n e=>hk' b o (by simpa using n) e) hoI' (λv z=>by rw[hod]at z;cases z)
  have J3:Inv X ((S,seqObj "list" #[ub,kub] c)::(It,oI')::pins) σ H { s with heap:=h',toks:=tk' }:=nq J2
  show wpAny _ X.A.in1 (tryCatch (holding [u] (call (.ref qa) [u])) _>>=_) _ _ _
  refine wX (wpAny_tryCatch (wpAny_holding (wpAny_mono (kfn _ _ H N v u d kd J3 x1.hh x1.bn x1.nh (iv'.mono x1.bn) ru hkf) (λku s2 he=>?_) λ_ _ hF=>hF.elim)))
  obtain⟨kv,H2,J4,rk,N2,x2,ik⟩:=he
  have pI4:=J4.pin (It,oI') (mY _ (mZ _ mX))
  have pS4:=J4.pin (S,seqObj "list" #[ub,kub] c) (mY _ mX)
  have hit2:s2.heap.IsListIter It l (j+1):=⟨oI',pI4.1,hoc,hod⟩
  have t1:=xN J4 rk (ik.mono x2.nh) ekd
  have t2:=xN J4 r2 (i2.mono (x2.bn.trans x2.nh)) ekb
  have hz:(ks.zip ds).drop j=(k,d)::(ks.zip ds).drop (j+1):=by
   have hj':j<(ks.zip ds).length:=by rw[List.length_zip];omega
   rw[List.drop_eq_getElem_cons hj']
   have:(ks.zip ds)[j]? = some (k,d):=List.getElem?_zip_eq_some.mpr ⟨hk1,hdj⟩
   rw[List.getElem?_eq_getElem hj']at this
   rw[Option.some.inj this]
  rw[hz,M.g1]at hd
  obtain⟨r,hlx⟩:=M.cg hc mk hm
  show wpAny _ X.A.in1 (tryCatch (holding [u,ku] (richCompare op ku kub>>=_)) _>>=_) _ _ _
  refine wX (wpAny_tryCatch (wpAny_holding (wX (M.rc t1 t2 hlx hu ?_))))
  refine wX (wpAny_holding (wpAny_truthy_bool ?_))
  refine wX (wpAny_letGo (wY ?_))
  cases r with
  | true =>
   rw[if_pos hlx]at hd
   obtain⟨c2,hc2⟩:∃c2,(s2.heap.update S (Obj.mapSeq λ_=>#[u,ku])).get? S=some (seqObj "list" #[u,ku] c2):=⟨_,get?_update_seq pS4.1 λ_=>#[u,ku]⟩
   have u2:=Heap.SameBut.update s2.heap S (Obj.mapSeq λ_=>#[u,ku])
   simp only[if_true]
   refine wX ?_
   refine wpAny_updateSeq pS4.1 rfl (wX (wpAny_letGo ?_))
   rw[M.hn]
   exact wY ⟨plainId_quiet M.pl _,ih (j+1) _ H2 N2 u ku v kv d kd k c2 oI' (by omega) hlt (eF (t':=s2.toks) J4 S0 hSp' (λb o n e=>(u2.2 b n).trans e) hc2 c8) ⟨oI',(u2.2 It hSI.symm).trans pI4.1,hoc,hod⟩ (x1.trans x2) ru (iv'.mono (x1.bn.trans x2.bn)) rk ik ekd hm hd⟩
  | false =>
   rw[if_neg (by rw[hlx];simp)]at hd
   simp only[Bool.false_eq_true,if_false]
   refine wX (wpAny_letGo ?_)
   rw[M.hn]
   exact wY ⟨plainId_quiet M.pl _,ih (j+1) _ H2 N2 ub kub vb kvb db kdb kb c oI' (by omega) hlt J4 hit2 (x1.trans x2) r1 (i1.mono x2.bn) r2 (i2.mono x2.bn) ekb mk hd⟩
end
@[simp] def fKK (go:List At×D->List (List At×D)->D) (f:FE) (kf:Env->D->Option D):FE:=λρ=>(f ρ).bind λx=>match x.1 with
 | .lst ds=>(hX (kf ρ) ds).bind λkds=>(cY kds).bind λks=>if eE ks=true then match ks.zip ds with
  | []=>none
  | y::r=>some (go y r,false)
  else none
 | _=>none
@[simp] def qi:=fKK jW
@[simp] def qj:=fKK jf
section
variable {X:Cx}{e ke:Expr}{p pos kp:Pos}
theorem uj {nm lp:String}{ns:Str}{op:CmpOp}{lt:List At->List At->Option Bool}{go:List At×D->List (List At×D)->D}(M:MM nm lp ns op lt go) {f:FE}{kf:Env->D->Option D}{k:Nat}(hm:X.mg ns=none) (he:JE X e f) (hk:JK X X.A.in1 ke kf) (hr:Room k X.A) (hg:Gl X ns:=by rfl)
  (hes:starEach [e] X.env=[(false,eval e X.env)]:=by rfl) (heb:backTo pos (starEach [e] X.env)=(false,eval e X.env)::backTo pos (starEach [] X.env):=by rfl) (hpl:(backTo pos (starEach [e] X.env)).any (·.1)=false:=by rfl)
  (hall:(backToKw pos (keywordEach [⟨some "key",ke,kp⟩] X.env)).all (·.1.isSome)=true:=by rfl) (hkw:(backToKw pos (keywordEach [⟨some "key",ke,kp⟩] X.env)).any (·.1.isNone)=false:=by rfl)
  (hnm:(backToKw pos (keywordEach [⟨some "key",ke,kp⟩] X.env)).filterMap (·.1)=[("key" : Str)]:=by rfl) :
  JE X (.Call (.Name ns p) [e] [⟨some "key",ke,kp⟩] pos) (fKK go f kf):=by
 intro pins s σ H Q I h
 obtain⟨B,ρ,d,b,sB,rep,ee,q⟩:=h
 obtain⟨⟨xd,xb⟩,ex,ee⟩:=oX ee
 cases xd<;>try (cases ee;done)
 rename_i ds
 obtain⟨kds,em,ee⟩:=oX ee
 obtain⟨ks,ek,ee⟩:=oX ee
 split at ee
 ·rename_i hc
  split at ee
  ·cases ee
  ·rename_i y a9 ez
   cases ee
   refine wpAny_Call_Name_kw (jk I hg hm M.bt ?_ M.n1 M.n2)
   refine callWith_kw (thn ((fE he hZ hes) pos pins s σ H (λvs H1=>∃v N,vs=[v]/\Ext B N H H1/\Is X.K N v (.lst ds)) I ⟨B,ρ,_,_,sB,rep,ex,λv H1 N x1 i1 _=>⟨v,N,rfl,x1,i1⟩⟩) λus s1 hA=>?_) heb hpl hall hkw
   obtain⟨vs1,H1,I1,r1,v,N,rfl,x1,i1⟩:=hA
   obtain⟨u,rfl,ru⟩:=fD r1
   refine kws_cons (hk pins s1 σ H1 N ρ _ _ I1 x1.nh (rep.mono x1.bn) λqa H2 s2 I2 m2 kfn=>kws_nil ?_)
   rw[hnm]
   show wpAny _ _ (call (.builtin nm) [u] [(("key" : Str),.ref qa)]) _ _ _
   cases i1
   rename_i l vs hq il
   cases ru
   have sN:aR N H2:=x1.nh.trans m2
   obtain⟨its,rv,pl,hz⟩:=I2.list (sN.seq hq)
   have hvl:vs.length=its.length:=rv.length
   have hdl:ds.length=vs.length:=il.length.symm
   have hkd:kds.length=ds.length:=ft em
   have hks:ks.length=kds.length:=eV ek
   have hll:l<s2.heap.objs.size:=by
    obtain⟨ol,hol,_⟩:=pl.isList
    exact Heap.lt_size hol
   -- the first item
   obtain⟨k0,d0⟩:=y
   have hne:0<its.length:=by
    have:=congrArg List.length ez
    rw[List.length_zip,List.length_cons]at this
    omega
   have z0:(ks.zip ds)[0]? = some (k0,d0):=by rw[ez];rfl
   obtain⟨hk0,hd0⟩:=List.getElem?_zip_eq_some.mp z0
   have hrest:(ks.zip ds).drop 1=a9:=by rw[ez];rfl
   refine kmk_tree M.k2 M.p2 M.e2 (M.ka _ _) ?_
   show wpAny _ X.A.in1 (Builtin.Builtins.bindParams nm ["key","default"] 0 ⟨[],[(Str.ofString "key",.ref qa)]⟩>>=_) _ _ s2
   refine wX (wpAny_of_eq (show Builtin.Builtins.bindParams nm ["key","default"] 0 ⟨[],[(Str.ofString "key",.ref qa)]⟩=pure [some (.ref qa),none]from rfl) ?_)
   refine wX (wY ?_)
   refine wX (wpAny_pyIter_list pl.isList ?_)
   refine wX (wpAny_newList ?_ (Nat.zero_le _))
   rw[M.hn]
   let It:Addr:=s2.heap.objs.size
   let oI:Obj:={ cls:=.type "list_iterator",data:=.fields #[.ref l,.int 0 0] }
   let S:Addr:=(s2.heap.push oI).objs.size
   have hS:S=s2.heap.objs.size+1:=size_push' ..
   have hSI:S≠It:=by rw[hS];exact Nat.ne_of_gt (Nat.lt_succ_self _)
   have J1:Inv X ((It,oI)::pins) σ H2 { s2 with heap:=s2.heap.push oI }:=mB (t':=s2.toks) I2 (λb u q=>Heap.get?_push_of_some _ q) (Nat.le_refl _) (Heap.get?_push_size _ rfl) (λv z=>by cases z)
   have J2:Inv X ((S,seqObj "list" #[] 0)::(It,oI)::pins) σ H2 { s2 with heap:=(s2.heap.push oI).push (seqObj "list" #[] 0) }:=mB (s:={ s2 with heap:=s2.heap.push oI }) (t':=s2.toks) J1 (λb u q=>Heap.get?_push_of_some _ q) (Nat.le_refl _) (Heap.get?_push_size _ rfl) c8
   have I0:X.s₀.heap.objs.size<=It:=I2.sz
   have S0:X.s₀.heap.objs.size<=S:=by rw[hS];exact Nat.le_succ_of_le I2.sz
   have hIp:∀q∈X.pn++pins,q.1≠It:=λq hq=>Nat.ne_of_lt (Heap.lt_size (I2.pin q hq).1)
   have hSp:∀q∈X.pn++pins,q.1≠S:=λq hq=>by rw[hS];exact Nat.ne_of_lt (Nat.lt_succ_of_lt (Heap.lt_size (I2.pin q hq).1))
   have hIl:l≠It:=Nat.ne_of_lt hll
   have hSl:S≠l:=by rw[hS];exact Nat.ne_of_gt (Nat.lt_succ_of_lt hll)
   have hh:X.A.handled=none:=hr.hd
   have hu:X.A.in1.units<cLine:=by have:=hr.un;show X.A.units+1<cLine;omega
   have pS:=J2.pin (S,seqObj "list" #[] 0) (mY _ mX)
   have pI:=J2.pin (It,oI) (mY _ (mZ _ mX))
   obtain⟨its2,rv2,pl2,_⟩:=J2.list (sN.seq hq)
   have hv2:vs.length=its2.length:=rv2.length
   have W:=Walks.list (prog:=X.prog) (w:=X.w) (A:=X.A.in1) hh It l hIl its2.toArray
   have hsz:its2.toArray.size=its2.length:=List.size_toArray ..
   refine wY ⟨plainId_quiet M.pl _, ?_⟩
   refine codeAny_builtin M.en ?_
   rw[Around.under_plainId M.pl _]
   show wpAny _ X.A.in1 (seqItems? (.ref S)>>=_) _ _ { s2 with heap:=(s2.heap.push oI).push (seqObj "list" #[] 0) }
   refine wX (wpAny_seqItems pS.1 rfl ?_)
   show wpAny _ X.A.in1 (tryCatch (pyNext (.ref It)) _>>=_) _ _ _
   refine wX (wpAny_tryCatch (W.item 0 _ _ _ (by rw[hsz];omega) ⟨⟨oI,pI.1,rfl,rfl⟩,pl2.isList⟩ λu h' tk' hP hst' hk'=>?_))
   have hu':its2[0]? = some u:=by simpa using hP
   obtain⟨v,hv,iv'⟩:=il.get hd0
   obtain⟨kd,hkj,hkf⟩:=jV em hd0
   obtain⟨u2,hu2,ru⟩:=rv2.get hv
   rw[hu']at hu2;cases hu2
   have ekd:tY kd=some k0:=by
    have:=ln ek (i:=0) (by omega)
    rw[List.getD_eq_getElem?_getD,hkj,List.getD_eq_getElem?_getD,hk0]at this
    exact this
   obtain⟨oI',hoI',hoc,hod⟩:=id hst'.1
   have hIp':∀q∈X.pn++((S,seqObj "list" #[] 0)::pins),q.1≠It:=nr hIp hSI
   have hSp':∀q∈X.pn++((It,oI')::pins),q.1≠S:=nr hSp hSI.symm
   have J3:=nq (eF (t':=tk') (nq J2) I0 hIp' (λb o n e=>hk' b o (by simpa using n) e) hoI' (λv z=>by rw[hod]at z;cases z))
   show wpAny _ X.A.in1 (tryCatch (holding [u] (call (.ref qa) [u])) _>>=_) _ _ _
   refine wX (wpAny_tryCatch (wpAny_holding (wpAny_mono (kfn _ _ H2 N v u d0 kd J3 (.refl _) (.refl _) sN iv' ru hkf) (λku s3 he=>?_) λ_ _ hF=>hF.elim)))
   obtain⟨kv,H3,J4,rk,N3,x3,ik⟩:=he
   have pI4:=J4.pin (It,oI') (mY _ (mZ _ mX))
   have pS4:=J4.pin (S,seqObj "list" #[] 0) (mY _ mX)
   obtain⟨c2,hc2⟩:∃c2,(s3.heap.update S (Obj.mapSeq λ_=>#[u,ku])).get? S=some (seqObj "list" #[u,ku] c2):=⟨_,get?_update_seq pS4.1 λ_=>#[u,ku]⟩
   have u2:=Heap.SameBut.update s3.heap S (Obj.mapSeq λ_=>#[u,ku])
   show wpAny _ X.A.in1 (updateSeq S (λ_=>#[u,ku])>>=_) _ _ _
   refine wX ?_
   refine wpAny_updateSeq pS4.1 rfl ?_
   rw[M.hn]
   have xx:Ext B N H H2:=x1.trans (.grow x1.nh m2)
   refine wY ⟨plainId_quiet M.pl _,CA M (S:=S) (It:=It) hh hu kfn ⟨qa,rfl⟩ hq il em ek hc S0 I0 hSp hIp hSI hSl hIl (λs' H' N' v' u' J' x' r' i'=>⟨v',H',J',r',q _ _ _ (xx.trans x') i' (by simp)⟩) _ 1 _ H3 N3 u ku v kv d0 kd k0 c2 oI' rfl (by omega)
    (eF (t':=s3.toks) J4 S0 hSp' (λb o n e=>(u2.2 b n).trans e) hc2 c8) ⟨oI',(u2.2 It hSI.symm).trans pI4.1,hoc,hod⟩ x3 ru (iv'.mono x3.bn) rk ik ekd (List.mem_of_getElem? hk0) (by rw[hrest])⟩
 ·cases ee
end
section
variable {X:Cx}
@[simp] def tLt:D->D->Option (D×Bool)
 | .tup xs,.tup ys=>(fq xs).bind λas=>(fq ys).bind λbs=>(bv as bs).map λr=>(.bl r,false)
 | _,_=>none
@[simp] def tGt:D->D->Option (D×Bool)
 | .tup xs,.tup ys=>(fq xs).bind λas=>(fq ys).bind λbs=>(bv bs as).map λr=>(.bl r,false)
 | _,_=>none
end
section
variable {X:Cx}{a b:Expr}{p pos:Pos}
@[simp] def He (f g:FE):FA:=λρ=>(f ρ).bind λx=>(g ρ).bind λy=>match x.1,y.1 with
 | .int i,.int j=>if -1000<=i/\i<=1000/\-1000<=j/\j<=1000 then some (dL i (j - i).toNat)else none
 | _,_=>none
end
@[simp] def HW:List D->Option (D×Bool)
 | [.tup xs,.tup ys]=>(fq xs).bind λas=>(fq ys).bind λbs=>(bv as bs).map λr=>(if r=true then .tup ys else .tup xs,false)
 | _=>none
end DL
namespace DL
open PySem PySem.Spec PyProof.Rows L2
section
variable {X:Cx}
def nu:D->D->Option (D×Bool)
 | .tup xs,.tup ys=>if xs.isEmpty=true then some (.tup ys,false)else none
 | _,_=>none
theorem CB:OpR X (binaryOp .Add) (rD X.K nu):=by
 intro pins s σ H x y v u Q I rx ry q
 obtain⟨B,dx,dy,d,bb,sB,ix,iy,ee,q⟩:=q
 cases ix<;>cases iy<;>try (simp[nu]at ee;done)
 rename_i l vs ds h hl l' ws es h' hl'
 simp only[nu]at ee
 split at ee
 ·rename_i hz
  cases ee
  cases rx
  cases ry
  obtain⟨its,r1,p1,_⟩:=I.tuple (bd sB h)
  obtain⟨its2,r2,p2,_⟩:=I.tuple (bd sB h')
  have he:its.toArray.isEmpty=true:=by
   have e1:=hl.length
   have e2:=r1.length
   have e3:=List.isEmpty_iff.mp hz
   rw[e3]at e1
   cases its with
   | nil=>rfl
   | cons a b=>rw[e1]at e2;simp at e2
  obtain⟨⟨cls,dd,data,sl⟩,ho,hc,n,hd⟩:=id p1
  obtain⟨⟨cls2,dd2,data2,sl2⟩,ho2,hc2,n2,hd2⟩:=id p2
  dsimp only at hc hd hc2 hd2
  subst hc;subst hd;subst hc2;subst hd2
  exact concat_meets ⟨_,ho,rfl⟩ ⟨_,ho2,rfl⟩ noFill_tuple_add seq_tuple_add PySem.F.slot_tuple_add PySem.F.entry_tuple_add (PySem.F.args_tuple_add_2 _ _)
   (tuple_addW0 l l' its.toArray its2.toArray n n2 dd dd2 sl sl2 he) ⟨ho,ho2,⟨.ref l',H,I,rfl,q.one sB (.tup h' hl')⟩⟩
 ·cases ee
@[simp] def xO:D->D->Option (D×Bool)
 | .tup xs,.tup ys=>if xs.length+ys.length<=sizeLine then some (.tup (xs++ys),false)else none
 | _,_=>none
theorem CC (xs ys:List D) (z:xs.length+ys.length<=sizeLine):orD mP nu (.tup xs) (.tup ys)=some (.tup (xs++ys),false):=by
 cases xs with
 | nil =>
  have:mP (.tup []) (.tup ys)=none:=if_neg (λh=>by cases h.2)
  show(match mP (.tup []) (.tup ys) with|some z=>some z|none=>nu (.tup []) (.tup ys))=_
  rw[this]
  rfl
 | cons a l =>
  have:mP (.tup (a::l)) (.tup ys)=some (.tup (a::l++ys),false):=if_pos ⟨z,rfl⟩
  show(match mP (.tup (a::l)) (.tup ys) with|some z=>some z|none=>nu (.tup (a::l)) (.tup ys))=_
  rw[this]
theorem AJ:OpR X (binaryOp .Add) (rD X.K xO):=by
 refine fS (r:=rD X.K (orD mP nu)) (lb Ap CB) λx y H Q q=>?_
 obtain⟨B,dx,dy,d,bb,sB,ix,iy,ee,q⟩:=q
 refine⟨B,dx,dy,d,bb,sB,ix,iy, ?_,q⟩
 cases ix<;>try (cases ee;done)
 cases iy<;>try (cases ee;done)
 rename_i l vs ds h hl l' ws es h' hl'
 simp only[xO]at ee
 split at ee
 ·rename_i hz
  rw[CC _ _ hz]
  exact ee
 ·cases ee
end
section
variable {X:Cx}
@[simp] def Hf:List D->Option (D×Bool)
 | [d,.tup [.ty n,.ty m]]=>if GC d=true then none else if n = "list"/\m = "tuple" then some (.bl (ig d == "list" || ig d == "tuple"),false)else none
 | _=>none
end
@[simp] def jX:D->Option Key
 | .int i=>some (.inl i)
 | .str x=>some (.inr x)
 | _=>none
theorem AK {K:PySem.W.Frag}{B:Hp}{v:V}{d:D}{k:Key}(i:Is K B v d) (e:jX d=some k):v=kV k:=by
 cases i<;>simp only[jX]at e<;>cases e<;>rfl
def cu {κ:Type}[DecidableEq κ]:List κ->List D->κ->Option D
 | k'::ks,d::ds,k=>if k'=k then some d else cu ks ds k
 | _,_,_=>none
theorem ww {κ:Type}[DecidableEq κ] {K:PySem.W.Frag}{B:Hp}(k:κ):∀ {ks:List κ}{vs:List V}{ds:List D},ks.length=vs.length->IsL K B vs ds ->
  (∃v d,jl (ks.zip vs) k=some v/\cu ks ds k=some d/\Is K B v d)∨(jl (ks.zip vs) k=none/\cu ks ds k=none)
 | [],vs,ds,_,_=>.inr ⟨by cases vs<;>rfl,by cases ds<;>rfl⟩
 | k'::ks,[],_,h,_=>by simp at h
 | k'::ks,v::vs,_,h,.cons i is=>by
  rw[List.zip_cons_cons]
  unfold cu
  by_cases e:k'=k
  ·rw[if_pos e]
   exact .inl ⟨v,_,jJ (p:=(k',v)) e,rfl,i⟩
  ·rw[if_neg e,jK (p:=(k',v)) e]
   exact ww k (by simpa using h) is
section
variable {X:Cx}{o e i:Expr}{pos:Pos}
@[simp] def wx:D->D->Option (D×Bool)
 | .dk ks vs,y=>(jX y).map λk=>((cu ks vs k).getD .non,false)
 | _,_=>none
theorem ul {apos cpos:Pos}{fo fe:FE}(hu:X.A.units+1<cLine) (ho:JE X o fo) (he:JE X e fe) (m:M1 X o "get" apos e cpos):JE X (.Call (.Attribute o "get" apos) [e] [] cpos) (f2 wx fo fe):=by
 refine PE.to (sO hu ho he m) λσ H Q q=>?_
 obtain⟨B,ρ,d,bb,sB,r,ee,q⟩:=q
 obtain⟨x,ex,ee⟩:=oX ee
 obtain⟨y,ey,ee⟩:=oX ee
 refine⟨B,ρ,x.1,x.2,sB,r,ex,λv H1 N1 x1 i1 ff=>?_⟩
 obtain⟨xd,xb⟩:=x
 cases i1 with
 | @dk a ks vs ds ob h hl hs =>
  simp only[wx]at ee
  obtain⟨k,hk,ee⟩:=oY ee
  cases ee
  refine⟨a,rfl,.inl ⟨_,_,.inl (x1.nh _ _ h)⟩,N1,ρ,y.1,y.2,x1.nh,r.mono x1.bn,ey,λv2 H2 N2 x2 i2 _=>?_⟩
  have hv:=AK i2 hk
  subst hv
  refine⟨jl (ks.zip vs) k,.inl ⟨_,k,_,.inl (x2.nh _ _ (x2.bn _ _ h)),rfl,rfl⟩, ?_⟩
  have hs2:=hs.mono x2.bn
  rcases ww k hl hs2 with ⟨v,d',e1,e2,i3⟩|⟨e1,e2⟩
  ·rw[e1]
   rw[e2]at q
   exact(q.into (x1.trans x2)).one x2.nh i3
  ·rw[e1]
   rw[e2]at q
   exact(q.into (x1.trans x2)).one x2.nh .non
 | _=>simp[wx]at ee
@[simp] def ixK:D->D->Option (D×Bool)
 | .dk ks vs,y=>(jX y).bind λk=>(cu ks vs k).map λd=>(d,false)
 | _,_=>none
@[simp] def inK:D->D->Option (D×Bool)
 | y,.dk ks vs=>(jX y).map λk=>(.bl (cu ks vs k).isSome,false)
 | _,_=>none
@[simp] def HK:D->D->Option (D×Bool)
 | y,.dk ks vs=>(jX y).map λk=>(.bl (!(cu ks vs k).isSome),false)
 | _,_=>none
end
def dF {κ:Type}[DecidableEq κ] (ks:List κ) (k:κ):List κ:=if k∈ks then ks else ks++[k]
def dG {κ α:Type}[DecidableEq κ] (ks:List κ) (xs:List α) (k:κ) (x:α):List α:=if k∈ks then List.zipWith (λk' x'=>if k'=k then x else x') ks xs else xs++[x]
theorem xP {κ:Type}[DecidableEq κ] (k:κ):∀ {ks:List κ}{vs:List V},ks.length=vs.length->((ks.zip vs).any λkv=>decide (kv.1=k))=decide (k∈ks)
 | [],_,_=>by simp
 | k'::ks,[],h=>by simp at h
 | k'::ks,v::vs,h=>by
  have ih:=xP k (ks:=ks) (vs:=vs) (by simpa using h)
  rw[List.zip_cons_cons,List.any_cons,ih]
  by_cases e:k'=k
  ·simp[e]
  ·have e':¬k=k':=λz=>e z.symm
   simp[e,e']
theorem xQ {κ:Type}[DecidableEq κ] (k:κ) (v:V):∀(ks:List κ) (vs:List V),(ks.zip vs).map (λkv=>if kv.1=k then (kv.1,v)else kv)=ks.zip (List.zipWith (λk' x'=>if k'=k then v else x') ks vs)
 | [],_=>by simp
 | _::_,[]=>by simp
 | k'::ks,w::vs=>by
  rw[List.zip_cons_cons,List.map_cons,xQ k v ks vs,List.zipWith_cons_cons,List.zip_cons_cons]
  by_cases e:k'=k
  ·simp[e]
  ·simp[e]
theorem xR {κ:Type}[DecidableEq κ] {ks:List κ}{vs:List V}(hl:ks.length=vs.length) (k:κ) (v:V):jI (ks.zip vs) k v=(dF ks k).zip (dG ks vs k v):=by
 unfold jI dF dG
 rw[xP k hl]
 by_cases h:k∈ks
 ·rw[if_pos (decide_eq_true h),if_pos h,if_pos h,xQ]
 ·rw[if_neg (by simpa using h),if_neg h,if_neg h,List.zip_append hl]
  rfl
theorem rL {κ α:Type}[DecidableEq κ] {ks:List κ}{xs:List α}(hl:ks.length=xs.length) (k:κ) (x:α):(dF ks k).length=(dG ks xs k x).length:=by
 unfold dF dG
 split<;>simp[hl]
theorem IsL.zipWith {κ:Type}[DecidableEq κ] {K:PySem.W.Frag}{B:Hp}{k:κ}{v:V}{d:D}(i:Is K B v d):∀ {ks:List κ}{vs:List V}{ds:List D},IsL K B vs ds->IsL K B (List.zipWith (λk' x'=>if k'=k then v else x') ks vs) (List.zipWith (λk' x'=>if k'=k then d else x') ks ds)
 | [],_,_,_=>by simpa using IsL.nil
 | _::_,_,_,.nil=>by simpa using IsL.nil
 | k'::ks,_,_,.cons h t=>by
  rw[List.zipWith_cons_cons,List.zipWith_cons_cons]
  refine .cons ?_ (IsL.zipWith i t)
  by_cases e:k'=k
  ·rw[if_pos e,if_pos e];exact i
  ·rw[if_neg e,if_neg e];exact h
theorem IsL.put {κ:Type}[DecidableEq κ] {K:PySem.W.Frag}{B:Hp}{k:κ}{v:V}{d:D}(i:Is K B v d) {ks:List κ}{vs:List V}{ds:List D}(h:IsL K B vs ds):IsL K B (dG ks vs k v) (dG ks ds k d):=by
 unfold dG
 split
 ·exact h.zipWith i
 ·exact h.append (.cons i .nil)
section
variable {K:PySem.W.Frag}{E:Ends}{σ:St}{H:Hp}
def AL (i:Nat):FS:=λρ=>some (.nx (ρ.set i (some (.dt [] [],true))))
theorem StN.newBox {B0 H0 N:Hp}{ρ:Env}(s:StN K B0 H0 N H σ ρ) {p:Addr}{ob:HO}{dd:D}(i:Nat) (hp:H p=none) (hb:∀C,Bx K C ob dd):StN K B0 H0 (upd N p ob) (upd H p ob) (σ.set i (some (.ref p))) (ρ.set i (some (dd,true))):=by
 have x:=Ext.laid (o:=ob) s.ext.nh hp
 have s1:=s.grow x
 have hNp:N p=none:=s.ext.nh.free hp
 have hop:¬own σ ρ p:=λz=>by obtain⟨ws,⟨q,_⟩,_⟩:=s.owned z;rw[hNp]at q;cases q
 have c:aR (cut N (own σ ρ)) (cut (upd N p ob) (λb=>own σ ρ b∨b=p)):=dw λb u e q=>⟨x.bn _ _ e,λz=>z.elim q λz=>by subst z;rw[hNp]at e;cases e⟩
 refine s1.bindOwn aJ (s.ext.hh.free hp) (λj e q z=>hop ⟨j,e,q,z⟩) (λj e _ q=>?_) (λj e _ q=>?_) (hb _)
 ·obtain⟨w,h1,h2⟩:=s.sh j e q;exact⟨w,h1,h2.mono c⟩
 ·obtain⟨a',o',h1,h2,_,h4⟩:=s.ow j e q
  exact⟨a',o',h1,x.bn _ _ h2,h4.mono c⟩
theorem AM {i:Nat}(q:tDS K (AL i) E σ H):yz zS (lG i) E σ H:=by
 obtain⟨B0,H0,ρ,r,⟨N,s⟩,e,p⟩:=q
 cases e
 exact λa ha=>p _ _ ⟨_,s.newBox i ha λ_=>.dt (ks:=[]) (vs:=[]) rfl .nil⟩
end
section
variable {X:Cx}{pos:Pos}{e k:Expr}
theorem CD {i:Nat}{x:Str}{p dp:Pos}(hN:X.N.Nodup) (hi:X.N[i]? = some x:=by rfl) (hx:Loc X.env.scope x:=by first|exact Or.inl rfl|exact Or.inr rfl) (hs:swapsWith (.Dict [] [] dp) (some (.Name x p)) pos.line X.env=pure false:=by rfl)
  (hf:X.fn x=true∨X.env.scope.names.lookup x=some .local:=by first|exact .inl rfl|exact .inr rfl):JS X (.Assign [.Name x p] (.Dict [] [] dp) pos) (AL i):=PS.to (z9 hN hi hx zT hs hf) λ_ _ _ q=>AM q
end
section
variable {prog:Program}{w:World}{A:Around}{E:Value->Shared->Prop}{s:Shared}
abbrev Fp (h:Heap) (z TI TO T0:Addr) (f:Bool):Prop:=h.get? z=some { cls:=.type "zip",dict:=none,data:=.fields #[rawInt T0,.bool f,.bool false,.ref TI,.ref TO],slots:=#[] }
end
def ZSt (k1 k2:Bool) (z TI TO i1 i2 l1 l2 S:Addr) (i:Nat) (h:Heap):Prop :=
 IsPair h TI (.ref i1) (.ref i2)/\KIt k1 h i1 l1 i/\KIt k2 h i2 l2 i/\((IsZip h z TI TO .none/\∃a b,IsPair h TO a b) ∨ ∃T0 f oT oO,Fp h z TI TO T0 f/\h.get? T0=some oT/\T0∉[z,TI,TO,i1,i2]/\T0≠S/\h.get? TO=some oO)
section
variable {prog:Program}{w:World}{A:Around}{E:Value->Shared->Prop}{s:Shared}{k1 k2:Bool}{z TI TO i1 i2 l1 l2 S:Addr}{j:Nat}{xs ys:Array Value}
theorem ZSt.ty {h:Heap}(st:ZSt k1 k2 z TI TO i1 i2 l1 l2 S j h):∃o,h.get? z=some o/\o.cls=.type "zip":=by
 obtain⟨_,_,_,a4⟩:=st
 rcases a4 with ⟨b1,_⟩|⟨T0,f,oT,oO,b1,_⟩
 ·exact⟨_,b1,rfl⟩
 ·exact⟨_,b1,rfl⟩
end
theorem nv {H:Hp}{a:Addr}{o:HO}(h:H a=none):aR H (upd H a o):=λb u e=>by rw[aL (aS e h)];exact e
@[simp] def fLZ (fa fb:FE):FE:=λρ=>(HF fa fb ρ).map λds=>(.lst ds,true)
end DL
namespace DL
open PySem PySem.Spec PyProof.Rows
theorem rM:typeLookup (.type "list") "keys" = pure none:=by rw[typeLookup_type,builtinLookup_eq_fast];kernel_rfl
theorem za {prog:Program}{w:World}{A:Around}{E:Value->Shared->Prop}{s:Shared}{a:Addr}{xs:Array Value}{k:Nat}{sl:Array (Option Value)}{Q:Option Value->Shared->Prop}
  (hx:s.heap.get? a=some { cls:=.type "list",dict:=none,data:=.seq xs k,slots:=sl }) (hA:A.handled=none)
  (h:∀h' tk,(∀b o,s.heap.get? b=some o->h'.get? b=some o)->Q none { s with heap:=h',toks:=tk }) :
  wpAny (model prog w) A (getAttr? (.ref a) "keys") Q E s:=by
 obtain⟨hp,g,d,tk,os⟩:=s
 have hT:∀tk',(⟨hp,g,d,tk',os⟩:Shared).TypeIs (.ref a) "list":=λ_=>⟨_,hx,rfl⟩
 have f1:=sub_AttributeError
 have f3:=PySem.F.slot_list_getattribute.lookup
 have f4:=PySem.F.slot_list_getattribute.bind (.ref a)
 have f5:=am_list_getattr_none
 unfold getAttr? getAttrBy? getAttrBy
 repeat (any_goals (first|assumption|exact hT _|((with_reducible show wpAny _ _ (call (Value.builtin "list.__getattribute__") _ _) _ _ _);refine call_meets PySem.F.slot_list_getattribute (hT _) am_entry_list_getattribute (PySem.F.args_list_getattribute_2 _ _) (meets_getattribute_miss_list a xs k sl "keys" _ rM (by decide) (by decide)) ⟨hx,hA,λh' tk' e hx'=>?_⟩)|wp_step))
 obtain⟨t',u',he⟩:=hx'.there
 show wpAny _ _ (getattributeRaised _ _ _ _ _ _ _) _ _ _
 unfold getattributeRaised
 repeat (any_goals (first|assumption|wp_step))
 exact h _ _ hx'.of.keeps
end DL
namespace DL
open PySem PySem.Spec PyProof.Rows L2
def fU:List D->Option (List (Key×D))
 | []=>some []
 | .tup [k,v]::r=>(jX k).bind λkk=>(fU r).map λl=>(kk,v)::l
 | _=>none
def nw (a:List Key×List D) (p:Key×D):List Key×List D:=(dF a.1 p.1,dG a.1 a.2 p.1 p.2)
def bE (l:List (Key×D)):List Key×List D:=l.foldl nw ([],[])
theorem ny (l:List (Key×D)) (p:Key×D):bE (l++[p])=nw (bE l) p:=by unfold bE;rw[List.foldl_append];rfl
theorem nz:∀ {ds:List D}{l:List (Key×D)},fU ds=some l->l.length=ds.length
 | [],l,h=>by simp[fU]at h;subst h;rfl
 | d::r,l,h=>by
  unfold fU at h
  split at h
  ·rename_i h0;cases h0
  ·rename_i k v r' h0
   cases h0
   obtain⟨kk,_,h⟩:=oX h
   obtain⟨l',h1,rfl⟩:=oY h
   simp[nz h1]
  ·cases h
theorem n0:∀ {ds:List D}{l:List (Key×D)}{i:Nat}{d:D},fU ds=some l->ds[i]? = some d->∃k v kk,d=.tup [k,v]/\jX k=some kk/\l[i]? = some (kk,v)
 | [],l,i,d,_,h=>by simp at h
 | d0::r,l,i,d,h,hi=>by
  unfold fU at h
  split at h
  ·rename_i h0;cases h0
  ·rename_i k v r' h0
   cases h0
   obtain⟨kk,h2,h⟩:=oX h
   obtain⟨l',h1,rfl⟩:=oY h
   cases i with
   | zero=>simp at hi;subst hi;exact⟨k,v,kk,rfl,h2,rfl⟩
   | succ i=>simp only[List.getElem?_cons_succ]at hi ⊢;exact n0 h1 hi
  ·cases h
theorem AN (l:List (Key×D)):∀a:List Key×List D,a.1.length=a.2.length->(l.foldl nw a).1.length=(l.foldl nw a).2.length/\(l.foldl nw a).1.length<=a.1.length+l.length:=by
 induction l with
 | nil=>intro a h;exact⟨h,Nat.le_refl _⟩
 | cons p l ih =>
  intro a h
  have h1:(nw a p).1.length<=a.1.length+1:=by
   show(dF _ _).length<=_
   unfold dF
   split<;>simp
  have:=ih (nw a p) (rL h _ _)
  rw[List.foldl_cons,List.length_cons]
  exact⟨this.1,by omega⟩
theorem zb (l:List (Key×D)):(bE l).1.length=(bE l).2.length/\(bE l).1.length<=l.length:=by
 have:=AN l ([],[]) rfl
 exact⟨this.1,Nat.le_trans this.2 (by simp)⟩
theorem qk:entryFor table "dict.update.loop" = some Builtin.«dict.update.loop»:=entryFor_of_tree (by kernel_rfl)
theorem iR:plainId "dict.update.loop" = true:=by decide +kernel
section
variable {X:Cx}{pins:List (Addr×Obj)}{σ:St}{B H0:Hp}{A:Around}{R:Result->Shared->Prop}{it l d:Addr}{us:List V}{ds:List D}{kds:List (Key×D)}
theorem wy (hA:A.handled=none) (nl:l≠it) (nd:d≠it) (hl:SqL X.K B l us) (il:IsL X.K B us ds) (hp:fU ds=some kds)
  (hR:∀Hc N vs ob s',Inv X pins σ (upd Hc d (.dK ((bE kds).1.zip vs) ob)) s'->Hc d=none->Ext B N H0 Hc->(bE kds).1.length=vs.length->IsL X.K N vs (bE kds).2->R (.ok (.ret .none)) s') :
  ∀(k i:Nat) (tk:Nat) (s:Shared) (Hc N:Hp) (vs:List V) (ob:Obj),ds.length - i=k->i<=ds.length->Inv X pins σ (upd Hc d (.dK ((bE (kds.take i)).1.zip vs) ob)) s->Hc d=none->Ext B N H0 Hc->kT X pins (upd Hc d (.dK ((bE (kds.take i)).1.zip vs) ob)) it ->
   s.heap.IsListIter it l i->(bE (kds.take i)).1.length=vs.length->IsL X.K N vs (bE (kds.take i)).2 ->
   codeAny (model X.prog X.w) A (.builtin "dict.update.loop" ⟨[.ref d,.ref it,.int i tk,.none],[]⟩) R s:=by
 have n1:=il.length
 have n2:=nz hp
 intro k
 induction k with
 | zero =>
  intro i tk s Hc N vs ob hk hi I hc xt fp st hz hv
  have hin:i=ds.length:=by omega
  have sm:aR B (upd Hc d (.dK ((bE (kds.take i)).1.zip vs) ob)):=(xt.bn.trans xt.nh).trans (nv hc)
  obtain⟨its,r1,p1,z1⟩:=I.list (sm.seq hl)
  have e1:=r1.length
  refine codeAny_builtin qk ?_
  rw[Around.under_plainId iR _]
  show wpAny _ A.in1 (pyNext (.ref it)>>=_) _ _ s
  refine wX (wpAny_pyNext_list_end (A:=A.in1) hA st p1.isList (by simp;omega) λh' hk'=>?_)
  show wpAny _ _ (Builtin.Dict.addKeywords d []>>=_) _ _ _
  refine wX (wY (wY ?_))
  have I1:=r0 (t':=s.toks) (h':=h') (ch:=[it]) I (λb hb=>by rw[List.mem_singleton.mp hb];exact fp) λb o hb e=>hk' b o (λq=>hb (by simp[q])) e
  rw[hin,←n2,List.take_length]at I1 hz hv
  exact hR Hc N vs ob _ I1 hc xt hz hv
 | succ k ih =>
  intro i tk s Hc N vs ob hk hi I hc xt fp st hz hv
  have hlt:i<ds.length:=by omega
  have sm:aR B (upd Hc d (.dK ((bE (kds.take i)).1.zip vs) ob)):=(xt.bn.trans xt.nh).trans (nv hc)
  obtain⟨its,r1,p1,z1⟩:=I.list (sm.seq hl)
  obtain⟨kd,vd,kk,ed,ek,el⟩:=n0 hp (List.getElem?_eq_getElem hlt)
  obtain⟨x,hx,ix⟩:=il.get (List.getElem?_eq_getElem hlt)
  rw[ed]at ix
  cases ix with
  | @tup T xs _ hT hxs =>
   cases hxs with
   | cons ik r =>
    cases r with
    | cons iv r =>
     cases r
     rename_i xk xv
     have exk:=AK ik ek
     subst exk
     obtain⟨u,hu,ru⟩:=r1.get hx
     cases (show u=Value.ref T from ru)
     refine codeAny_builtin qk ?_
     rw[Around.under_plainId iR _]
     show wpAny _ A.in1 (pyNext (.ref it)>>=_) _ _ s
     refine wX (wpAny_pyNext_list_item (A:=A.in1) st p1.isList (x:=.ref T) (by simpa using hu) λh' st' hs=>?_)
     have I1:=r0 (t':=s.toks) (h':=h') (ch:=[it]) I (λb hb=>by rw[List.mem_singleton.mp hb];exact fp) λb o hb e=>hs.extBut b o (λq=>hb (by simp[q])) e
     obtain⟨ps,r2,p2,z2⟩:=I1.tuple (bd sm hT)
     obtain⟨uk,uv,rfl,rk,rv⟩:=r2.two
     have hpr:Shared.TypeIs { s with heap:=h' } (.ref T) "tuple":=by obtain⟨o,e,c,_⟩:=p2;exact⟨o,e,c⟩
     dsimp only
     refine wX (wpAny_holding (wX (wpAny_tryCatch ?_)))
     unfold Builtin.Dict.pairItems
     refine wX (wpAny_typeOf hpr ?_)
     obtain⟨oT,eT,cT,nT,dT⟩:=p2
     rw[if_pos (by decide)]
     refine wX (wpAny_seqItems eT dT (wY ?_))
     show wpAny _ _ (holding [uk,uv] (dictSet d uk uv)) _ _ _
     obtain⟨zz,hsm,vs0,rel,dd⟩:=sM I1.hok (a:=d) aJ
     have hz0:vs0.length<=sizeLine:=by rw[←rel.length];exact zz
     have nk:((bE (kds.take i)).1.zip vs).length<sizeLine:=by
      have a1:=(zb (kds.take i)).2
      have a2:=z1
      rw[List.length_take]at a1
      rw[List.length_zip]
      omega
     refine wpAny_holding (wpAny_dictSet_pairs (hsz:=hz0) (xc rk) dd λh2 dd2 hs2=>?_)
     have hl2:(jI ((bE (kds.take i)).1.zip vs) kk xv).length<=sizeLine:=by have:=ib ((bE (kds.take i)).1.zip vs) kk xv;omega
     obtain⟨ob2,he2⟩:∃q,h2.get? d=some q:=let ⟨q,_,_,hq,_⟩:=dd2;⟨q,hq⟩
     have I2:=qY (t':=s.toks+1) I1 (a:=d) (ob:=.dK (jI ((bE (kds.take i)).1.zip vs) kk xv) ob2) (by rw[aJ];exact True.intro) hs2 ⟨_,he2⟩ (zP hl2 hsm (rel.put kk rv) dd2 he2)
     rw[BA,xR hz]at I2
     have et:kds.take (i+1)=kds.take i++[(kk,vd)]:=by rw[List.take_add_one,el];rfl
     have ed1:(bE (kds.take (i+1))).1=dF (bE (kds.take i)).1 kk:=by rw[et,ny];rfl
     have ed2:(bE (kds.take (i+1))).2=dG (bE (kds.take i)).1 (bE (kds.take i)).2 kk vd:=by rw[et,ny];rfl
     refine wY ⟨plainId_quiet iR _, ?_⟩
     refine ih (i+1) 0 _ Hc N (dG (bE (kds.take i)).1 vs kk xv) ob2 (by omega) hlt (by rw[ed1];exact I2) hc xt ?_ ?_ ?_ ?_
     ·obtain⟨f0,f1⟩:=fp
      refine⟨?_,f1⟩
      rw[aL nd.symm]at f0 ⊢
      exact f0
     ·exact st'.at λo e=>(hs2.2 it nd.symm).trans e
     ·rw[ed1];exact rL hz _ _
     ·rw[ed2]
      exact hv.put (iv.mono xt.bn)
end
@[simp] def gG:List D->Option (D×Bool)
 | [.lst ds]=>(fU ds).map λkds=>(.dk (bE kds).1 (bE kds).2,false)
 | _=>none
theorem Fq:bootBuiltins "dict" = some (.type "dict"):=by decide +kernel
section
variable {X:Cx}
theorem Fr (hcal:X.calm=true):bI X (.type "dict") (rDA X.K gG):=by
 intro pins s σ H xs us Q I r h
 obtain⟨B,dds,d0,bb,sB,i0,ee,q⟩:=h
 cases i0 with
 | nil=>simp[gG]at ee
 | cons i1 i2 =>
  cases i2 with
  | cons _ _=>cases i1<;>simp[gG]at ee
  | nil =>
   cases i1<;>try (simp[gG]at ee;done)
   rename_i l ws ds hl il
   simp only[gG]at ee
   obtain⟨kds,hp,ee⟩:=oY ee
   cases ee
   obtain⟨u,rfl,rx⟩:=fD r
   cases rx
   have hA:X.A.handled=none:=I.ok.hd hcal
   refine callType_codes (Q₁:=λobj s₁=>obj=.ref s.heap.objs.size/\s₁={ s with heap:=s.heap.push { cls:=.type "dict",data:=.dict #[] } }) PySem.F.kt_called_dict (PySem.F.kt_typeCall_dict_1 _) PySem.F.entry_dict_init (kt_code_dict_new _ ⟨rfl,rfl⟩) ?_
   rintro obj s₁ ⟨rfl,rfl⟩
   have I1:Inv X pins σ (upd H s.heap.objs.size (.dK [] { cls:=.type "dict",data:=.dict #[] })) { s with heap:=s.heap.push { cls:=.type "dict",data:=.dict #[] } }:=I.laid (t':=s.toks) (λb o e=>Heap.get?_push_of_some _ e) (Nat.le_refl _) (zQ s.heap I.big)
   have hc0:H s.heap.objs.size=none:=I.fresh
   have hT:Shared.TypeIs { s with heap:=s.heap.push { cls:=.type "dict",data:=.dict #[] } } (.ref s.heap.objs.size) "dict":=⟨_,Heap.get?_push_size _ rfl,rfl⟩
   refine⟨hT,PySem.F.args_dict_init_2 _ _, ?_⟩
   unfold Builtin.«dict.__init__»
   refine wX ?_
   unfold Builtin.Dict.selfAndRest
   refine wX (wpAny_notOrdered_dict hT ?_)
   show wpAny _ _ (pure (s.heap.objs.size,[Value.ref l])) _ _ _
   refine wY ?_
   show wpAny _ _ (Builtin.Dict.updateFrom "dict.__init__" s.heap.objs.size (.ref l) [] .none) _ _ _
   unfold Builtin.Dict.updateFrom
   have sm:aR B (upd H s.heap.objs.size (.dK [] { cls:=.type "dict",data:=.dict #[] })):=sB.trans (nv hc0)
   obtain⟨its,r1,p1,z1⟩:=I1.list (sm.seq hl)
   have pl:=p1.isList
   obtain⟨ol,nl,eol,cl,ddl,dl⟩:=p1
   have hTl:Shared.TypeIs { s with heap:=s.heap.push { cls:=.type "dict",data:=.dict #[] } } (.ref l) "list":=⟨ol,eol,cl⟩
   refine wX (wpAny_typeOf hTl ?_)
   rw[if_pos (by decide)]
   obtain⟨oc,od,oo,os⟩:=ol
   simp only at cl ddl dl
   subst cl ddl dl
   refine wX (za eol (by exact hA) λh' tk hk=>?_)
   dsimp only[Option.isNone_none]
   rw[if_pos rfl]
   have I2:Inv X pins σ (upd H s.heap.objs.size (.dK [] { cls:=.type "dict",data:=.dict #[] })) { s with heap:=h',toks:=tk }:=I1.kept (t':=tk) hk
   refine wX (wpAny_rule ?_)
   refine wX (wpAny_pyIter_list (items:=its.toArray) ⟨_,hk _ _ eol,rfl,nl,rfl⟩ ?_)
   have I3:Inv X pins σ (upd H s.heap.objs.size (.dK [] { cls:=.type "dict",data:=.dict #[] })) { s with heap:=h'.push { cls:=.type "list_iterator",data:=.fields #[.ref l,.int 0 0] },toks:=tk }:=I2.kept (t':=tk) λb o e=>Heap.get?_push_of_some _ e
   have ld:s.heap.objs.size<h'.objs.size:=Heap.lt_size (hk _ _ (Heap.get?_push_size _ rfl))
   have ll:l<h'.objs.size:=Heap.lt_size (hk _ _ eol)
   refine wY ⟨plainId_quiet iR _,wy (A:=X.A.in1) (B:=B) (H0:=H) (l:=l) (d:=s.heap.objs.size) (it:=h'.objs.size) hA (Nat.ne_of_lt ll) (Nat.ne_of_lt ld) hl il hp (λHc N vs ob s' I' hc' xt hz hv=>?_) _ 0 0 _ H B [] _ rfl (Nat.zero_le _) I3 hc0 (Ext.refl sB) (I2.fpOk (Nat.le_refl _) (I2.hok.fresh (Nat.le_refl _))) ⟨_,Heap.get?_push_size _ rfl,rfl,rfl⟩ rfl .nil⟩
   refine⟨rfl,.ref s.heap.objs.size,_,I',rfl, ?_⟩
   have x3:=xt.trans (Ext.laid (o:=.dK ((bE kds).1.zip vs) ob) xt.nh hc')
   exact q _ _ _ x3 (.dk aJ hz (hv.mono (Ext.laid (o:=.dK ((bE kds).1.zip vs) ob) xt.nh hc').bn)) (by simp)
end
@[simp] def HX:FE:=λ_=>none
@[simp] def HY:FA:=λ_=>none
theorem hu1 {n:Nat}(h:n+40<cLine):n+1<cLine:=by omega
@[simp] def Fs:D->D->Option (D×Bool)
 | .lst ds,.int k=>if 0<=k/\ds.length*k.toNat<=1000/\k<=1000 then some (.lst (List.replicate k.toNat ds).flatten,true)else none
 | _,_=>none
@[simp] def um (fa fb:FE):FE:=λρ=>(fa ρ).bind λx=>if x.2=true then (fb ρ).bind λy=>Fs x.1 y.1 else none
theorem IsL.rep {K:PySem.W.Frag}{H:Hp}{vs:List V}{ds:List D}(h:IsL K H vs ds):∀k:Nat,IsL K H (List.replicate k vs).flatten (List.replicate k ds).flatten
 | 0=>.nil
 | k+1=>by rw[List.replicate_succ,List.replicate_succ,List.flatten_cons,List.flatten_cons];exact h.append (IsL.rep h k)
section
variable {X:Cx}{a b:Expr}{pos:Pos}
theorem wz {fa fb:FE}(ha:JE X a fa) (hb:JE X b fb):JE X (.BinOp a .Mult b pos) (um fa fb):=by
 refine PE.to (Dm EA ha hb) λσ H Q q=>?_
 obtain⟨B,ρ,d,bb,sB,r,ee,q⟩:=q
 obtain⟨x,ex,ee⟩:=oX ee
 split at ee
 ·rename_i hx
  obtain⟨⟨yd,yb⟩,ey,ee⟩:=oX ee
  refine⟨B,ρ,x.1,x.2,sB,r,ex,λv H1 N1 x1 i1 fr=>⟨N1,ρ,yd,yb,x1.nh,r.mono x1.bn,ey,λu H2 N2 x2 i2 hfr=>?_⟩⟩
  obtain⟨a0,vs,ds,rfl,e1,h0,h1,il⟩:=fr hx
  rw[e1]at ee
  clear hfr
  cases i2<;>try (simp[Fs]at ee;done)
  rename_i k
  simp only[Fs]at ee
  split at ee
  ·rename_i hk
   cases ee
   have hl:=il.length
   refine⟨a0,k,vs,rfl,rfl,x2.nh _ _ (x2.bn _ _ h1),by omega,by omega,by rw[hl];exact Nat.le_trans hk.2.1 (by decide:(1000:Nat)<=sizeLine),λp hp=>?_⟩
   have x3:=Ext.laid (o:=.lst (List.replicate k.toNat vs).flatten) x2.nh hp
   have il3:=((il.mono x2.bn).mono x3.bn).rep k.toNat
   exact q _ _ _ ((x1.trans x2).trans x3) (.lst (SqL.of aJ) il3) λ_=>⟨_,_,_,rfl,rfl,(x1.trans x2).hh.free hp,aJ,il3⟩
  ·cases ee
 ·cases ee
end
def fJ:List D->Option (List Key)
 | []=>some []
 | d::ds=>(jX d).bind λk=>(fJ ds).map (k :: ·)
theorem w4 {K:PySem.W.Frag}{B:Hp}:∀ {vs:List V}{ds:List D}{ks:List Key},IsL K B vs ds->fJ ds=some ks->vs=ks.map kV
 | _,_,ks,.nil,e=>by simp[fJ]at e;subst e;rfl
 | _,_,ks,.cons i is,e=>by
  simp only[fJ]at e
  obtain⟨k,h1,e⟩:=oX e
  obtain⟨r,h2,rfl⟩:=oY e
  rw[AK i h1,w4 is h2]
  rfl
@[simp] def AO (fo:FE) (fa:FA):FE:=λρ=>(fo ρ).bind λx=>(fa ρ).bind λds=>match x.1 with
 | .dt kss vs=>if ds.length<=sizeLine then (fJ ds).map λk=>((cu kss vs k).getD .non,false)else none
 | _=>none
section
variable {X:Cx}{o:Expr}{es:List Expr}{pos:Pos}
theorem AQ {apos cpos tpos:Pos}{x1:Nat}{fo:FE}{fa:FA}(hu:X.A.units+1<cLine) (ho:JE X o fo) (ha:JA X es fa) (m:M1 X o "get" apos (.Tuple es x1 tpos) cpos):JE X (.Call (.Attribute o "get" apos) [.Tuple es x1 tpos] [] cpos) (AO fo fa):=by
 refine PE.to (sO hu ho (vE ha) m) λσ H Q q=>?_
 obtain⟨B,ρ,d,bb,sB,r,ee,q⟩:=q
 obtain⟨x,ex,ee⟩:=oX ee
 obtain⟨ds,ey,ee⟩:=oX ee
 refine⟨B,ρ,x.1,x.2,sB,r,ex,λv H1 N1 x1 i1 ff=>?_⟩
 obtain⟨xd,xb⟩:=x
 cases i1 with
 | @dt a ks vs dvs h hl hs =>
  simp only at ee
  split at ee
  ·rename_i hz
   obtain⟨k,hk,ee⟩:=oY ee
   cases ee
   refine⟨a,rfl,.inr ⟨_,.inl (x1.nh _ _ h)⟩,N1,ρ,ds,x1.nh,r.mono x1.bn,ey,λus H2 N2 x2 i2=>?_⟩
   have hv:=w4 i2 hk
   have hul:us.length<=sizeLine:=by rw[i2.length];exact hz
   refine⟨hul,λp hp=>?_⟩
   have x3:=Ext.laid (o:=.tup us) x2.nh hp
   have ha2:N2 a=some (.dT (ks.zip vs)):=x2.bn _ _ h
   refine⟨jl (ks.zip vs) k,.inr ⟨_,k,p,.inl (x3.nh _ _ (x3.bn _ _ ha2)),rfl,by rw[aJ,hv],rfl⟩, ?_⟩
   have hs2:=(hs.mono x2.bn).mono x3.bn
   rcases ww k hl hs2 with ⟨v,d',e1,e2,i3⟩|⟨e1,e2⟩
   ·rw[e1]
    rw[e2]at q
    exact(q.into ((x1.trans x2).trans x3)).one x3.nh i3
   ·rw[e1]
    rw[e2]at q
    exact(q.into ((x1.trans x2).trans x3)).one x3.nh .non
  ·cases ee
 | _=>simp at ee
end
section
variable {K:PySem.W.Frag}{E:Ends}{σ:St}{H:Hp}
def ql (i:Nat) (fk:FA) (fv:FE):FS:=λρ=>match ρ[i]? with
 | some (some (.dt ks vs,true))=>(fv ρ).bind λv=>(fk ρ).bind λkd=>(fJ kd).bind λkk=>if bi v.1=true/\ks.length<sizeLine/\kd.length<=sizeLine then some (.nx (ρ.set i (some (.dt (dF ks kk) (dG ks vs kk v.1),true))))else none
 | _=>none
theorem AR {i:Nat}{fk:FA}{fv:FE}(q:tDS K (ql i fk fv) E σ H):Ds (Ea i) (Gm (tDA K fk)) (tD K fv) E σ H:=by
 obtain⟨B0,H0,ρ,r,⟨N,s⟩,e,p⟩:=q
 unfold ql at e
 split at e
 ·rename_i ks ds ei
  obtain⟨v,ev,e⟩:=oX e
  obtain⟨kd,ek,e⟩:=oX e
  obtain⟨kk,hk,e⟩:=oX e
  split at e
  ·rename_i hx
   cases e
   refine⟨N,ρ,v.1,v.2,s.ext.nh,s.rep,ev,λv1 H1 N1 x1 i1 _=>?_⟩
   have s1:=s.grow x1
   obtain⟨a,o,h1,h2,h3,h4⟩:=s1.ow i _ ei
   refine⟨.ref a,h1,N1,ρ,kd,s1.ext.nh,s1.rep,ek,λus H2 N2 x2 i2=>?_⟩
   have s2:=s1.grow x2
   have hv:=w4 i2 hk
   refine⟨by rw[i2.length];exact hx.2.2,λpp hp=>?_⟩
   have x3:=Ext.laid (o:=.tup us) s2.ext.nh hp
   have s3:=s2.grow x3
   obtain⟨a',o',k1,k2,k3,k4⟩:=s3.ow i _ ei
   rw[h1]at k1
   cases k1
   cases k4 with
   | @dt ks vs ds hl h5 =>
    refine⟨a,rfl,.inr ⟨_,kk,pp,s3.ext.nh _ _ k2,rfl,by rw[aJ,hv], ?_, ?_⟩⟩
    ·rw[List.length_zip];omega
    ·rw[xR hl]
     exact p σ _ ⟨_,s3.writeB ei h1 (.dt (rL hl _ _) (h5.put (s3.flat ((i1.mono x2.bn).mono x3.bn) hx.1)))⟩
  ·cases e
 ·cases e
end
section
variable {X:Cx}{pos:Pos}{e:Expr}{es:List Expr}
theorem CF {i:Nat}{y:Str}{py pt tpos:Pos}{x1:Nat}{fk:FA}{fv:FE}(hu:X.A.units+1<cLine) (hv:JE X e fv) (hk:JA X es fk) (hN:X.N[i]? = some y:=by rfl) (hvis:Vis X.env.scope y:=by first|exact Or.inl rfl|exact Or.inr (Or.inl rfl)|exact Or.inr (Or.inr rfl)) (hd:(y == ("__debug__" : Str))=false:=by decide)
  (hcd:(y == ("__classdict__" : Str))=false:=by decide) (hs:swapsWith e (some (.Subscript (.Name y py) (.Tuple es x1 tpos) pt)) pos.line X.env=pure false:=by rfl):JS X (.Assign [.Subscript (.Name y py) (.Tuple es x1 tpos) pt] e pos) (ql i fk fv) :=
 PS.to (BY hu (mF hN hvis hd hcd) (vE hk) hv hs) λ_ _ _ q=>AR q
end
end DL
namespace DL
open PySem PySem.Spec PySem.W PyProof.Rows L2
section
variable {X:Cx}{a b c:Expr}{p pos:Pos}
def Ft (lo c:Int) (n:Nat):List D:=(List.range n).map λ(k:Nat)=>.int (lo+(k:Int)*c)
@[simp] def Hg (f g h:FE):FA:=λρ=>(f ρ).bind λx=>(g ρ).bind λy=>(h ρ).bind λz=>match x.1,y.1,z.1 with
 | .int i,.int j,.int c=>if(-1000<=i/\i<=1000/\-1000<=j/\j<=1000)/\(c=1∨c=2∨c=3)then some (Ft i c (Builtin.Range.rangeSize i j c).toNat)else none
 | _,_,_=>none
end
end DL
namespace L2
open PySem PySem.Spec PyProof.Rows
def ItV (a:Addr) (kvs:List (Key×V)) (ob:Obj):It:=⟨λi H=>H a=some (.dK kvs ob)/\i<kvs.length,λi H x H'=>H'=H/\∃k,kvs[i]? = some (k,x),λi H=>H a=some (.dK kvs ob)/\kvs.length<=i⟩
theorem KV.get {kvs:List (Key×V)}{vs:List (Key×Value)}(r:KV kvs vs) {i:Nat}{k:Key}{x:V}(h:kvs[i]? = some (k,x)):∃u,vs[i]? = some (k,u)/\aT x u:=by
 unfold KV at r
 induction r generalizing i with
 | nil=>simp at h
 | @cons p q ps qs hq t ih =>
  cases i with
  | zero =>
   cases (show p=(k,x)from Option.some.inj h)
   obtain⟨q1,q2⟩:=q
   exact⟨q2,by rw[show k=q1 from hq.1];rfl,hq.2⟩
  | succ i=>exact ih h
section
variable {P:Program}{w:World}{H:Hp}{h:Heap}{a:Addr}
theorem AS {kvs:List (Key×V)}{ob:Obj}{es:Array DictEntry}{ep:Nat}(ok:HOk P w H h) (e:H a=some (.dK kvs ob)) (hd:ob.data=.dict es ep):∃vs,KV kvs vs/\h.DictAt (ce P w) a vs ep:=by
 obtain⟨_,_,vs,r,o,es',ep',h1,h2,h3,h4⟩:=sM ok e
 rw[vK ok e]at h1
 cases h1
 rw[hd]at h3
 cases h3
 exact⟨vs,r,ob,es,vK ok e,h2,hd,h4⟩
theorem CG {kvs:List (Key×V)}{ob:Obj}(ok:HOk P w H h) (e:H a=some (.dK kvs ob)):∃es ep,ob.data=.dict es ep:=by
 obtain⟨_,_,vs,r,o,es',ep',h1,h2,h3,h4⟩:=sM ok e
 rw[vK ok e]at h1
 cases h1
 exact⟨es',ep',h3⟩
end
theorem zc {P:Program}{w:World}{K:PySem.W.Frag}{tg:Expr}(a it:Addr) (kvs:List (Key×V)) (ob:Obj) {es:Array DictEntry}{ep:Nat}(hd:ob.data=.dict es ep):Turn P w K tg (ItV a kvs ob) [it] it (λi h=>h.IsValIter it a i kvs.length ep) where
 mem:=by simp
 obj:=λi h st b hb=>by
  have e:b=it:=by simpa using hb
  subst e
  obtain⟨o,e,c,d⟩:=st
  exact⟨o,e,λv z=>by rw[d]at z;cases z⟩
 keep:=λi h h' st k=>st.at λo e=>k it (by simp) o e
 item:=by
  intro X hP hw hK hc i pins s σ H E I hf st hg
  subst hP hw hK
  obtain⟨hH,hlt⟩:=hg
  obtain⟨vs,r,m⟩:=AS I.hok hH hd
  obtain⟨f0,f1,f2,f3,f4,f5⟩:=hf it (by simp)
  have hl:vs.length=kvs.length:=(Paired.length r).symm
  obtain⟨u,hu,ru⟩:=r.get (k:=kvs[i].1) (x:=kvs[i].2) (List.getElem?_eq_getElem hlt)
  refine wpAny_pyNext_values_item (by rw[hl];exact st) m hu λh' st' sb=>?_
  rw[hl]at st'
  have I1:Inv X pins σ H { s with heap:=h' }:=I.turned (t':=s.toks) (λb o hb e=>(sb.2 b hb).trans e) f0 f1 f3 f4 f5
  obtain⟨o,e,c,d⟩:=id st'
  exact⟨u,rfl,p9 (s:={ s with heap:=h' }) e c d (by decide) ⟨kvs[i].2,H,I1,ru,⟨rfl,kvs[i].1,List.getElem?_eq_getElem hlt⟩,st',λb hb=>(hf b hb).1⟩⟩
 done:=by
  intro X hP hw hK hc i pins s σ H E I hf st hg
  subst hP hw hK
  obtain⟨hH,hle⟩:=hg
  obtain⟨vs,r,m⟩:=AS I.hok hH hd
  obtain⟨f0,f1,f2,f3,f4,f5⟩:=hf it (by simp)
  have hl:vs.length=kvs.length:=(Paired.length r).symm
  exact wpAny_pyNext_values_end (I.ok.hd hc) (by rw[hl];exact st) m (List.getElem?_eq_none (by omega)) λh' eb=>⟨rfl,I.turned (t':=s.toks) (λb o hb e=>eb b o hb e) f0 f1 f3 f4 f5⟩
 self:=λ_ _ _ _ _ st h=>wpAny_pyIter_valiter st h
section
variable {X:Cx}{tg:Expr}
def GS (td:TE):TI:=λσ H R=>td σ H λx H1=>∃a kvs ob,x=.ref a/\H1 a=some (.dK kvs ob)/\R (ItV a kvs ob) H1
theorem CH {o:Expr}{td:TE}{apos cpos:Pos}(ho:PE X o td) (hbase:attributeBase o "values" X.env (eval o X.env)=eval o X.env:=by rfl) (hline:(apos.endLine == cpos.line)=true:=by rfl):PI X tg (.Call (.Attribute o "values" apos) [] [] cpos) (GS td):=by
 intro pins s σ H R I h
 refine wpAny_Call_method0_late hbase hline (thn (ho pins s σ H _ I h) λv s1 ⟨x,H1,I1,r1,a,kvs,ob,ex,hH,q⟩=>?_)
 subst ex
 obtain⟨h1,h2⟩:=zK I1 r1 (T:="dict") (.inr (.inr (.inl ⟨rfl,.inl ⟨kvs,ob,hH⟩⟩)))
 cases r1
 obtain⟨es,ep,hd⟩:=CG I1.hok hH
 obtain⟨vs,r,m⟩:=AS I1.hok hH hd
 have hl:vs.length=kvs.length:=(Paired.length r).symm
 refine⟨"dict","dict.values",PySem.F.plainAttrs_dict,PySem.F.slot_dict_values,PySem.F.type_dict_values,h1,h2,Calls.callWith_builtin rfl (PySem.evalArgs_none ?_)⟩
 refine call_meetsIn PySem.F.slot_dict_values h1 PySem.F.entry_dict_values (PySem.F.args_dict_values_1 _) (meets_dict_values (ce X.prog X.w) a (sM I1.hok hH).2.1) ⟨⟨vs,m.dictOf⟩, ?_⟩
 have I2:Inv X pins σ H1 { s1 with heap:=s1.heap.push { cls:=.type "dict_values",data:=.fields #[.ref a] } }:=I1.kept (t':=s1.toks) λb o e=>Heap.get?_push_of_some _ e
 refine wpAny_pyIter_values (v:=s1.heap.objs.size) ⟨_,Heap.get?_push_size _ rfl,rfl,rfl⟩ (m.keep λb o e=>Heap.get?_push_of_some _ e) ?_
 rw[hl]
 refine⟨(s1.heap.push { cls:=.type "dict_values",data:=.fields #[.ref a] }).objs.size,[(s1.heap.push { cls:=.type "dict_values",data:=.fields #[.ref a] }).objs.size],_,_,H1,rfl,I2.kept (t':=s1.toks) λb o e=>Heap.get?_push_of_some _ e,zc a _ kvs ob hd,⟨_,Heap.get?_push_size _ rfl,rfl,rfl⟩,λb hb=>?_,q⟩
 have e:b=(s1.heap.push { cls:=.type "dict_values",data:=.fields #[.ref a] }).objs.size:=by simpa using hb
 subst e
 exact I2.fpOk (Nat.le_refl _) (I2.hok.fresh (Nat.le_refl _))
end
end L2
namespace DL
open PySem PySem.Spec PySem.W PyProof.Rows L2
def kD:Key->D
 | .inl i=>.int i
 | .inr z=>.str z
section
variable {K:PySem.W.Frag}{B:Hp}
theorem CI {a:Addr}{ks:List Key}{vs:List V}{ds:List D}{ob:Obj}(h:B a=some (.dK (ks.zip vs) ob)) (hl:ks.length=vs.length) (hs:IsL K B vs ds):pe K (ItV a (ks.zip vs) ob) B ds:=by
 intro i H s
 have hz:(ks.zip vs).length=vs.length:=by rw[List.length_zip];omega
 refine⟨λd ed=>?_,λhlen=>⟨s _ _ h,by rw[hz,hs.length];exact hlen⟩⟩
 obtain⟨v,ev,iv⟩:=hs.get ed
 have hlt:i<vs.length:=(List.getElem?_eq_some_iff.mp ev).1
 refine⟨⟨s _ _ h,by rw[hz];exact hlt⟩,λy H3 hy=>?_⟩
 obtain⟨rfl,k,e⟩:=hy
 have:=(List.getElem?_zip_eq_some.mp e).2
 rw[ev]at this
 cases this
 exact⟨B,.refl s,iv⟩
end
section
variable {X:Cx}{e:Expr}{tg:Expr}
@[simp] def w6 (f:FE):FA:=λρ=>(f ρ).bind λx=>match x.1 with|.dk _ ds=>some ds|_=>none
@[simp] def HL (f:FE):FA:=λρ=>(f ρ).bind λx=>match x.1 with|.dk ks _=>some (ks.map kD)|_=>none
theorem CJ {f:FE}{apos cpos:Pos}(h:JE X e f) (hbase:attributeBase e "values" X.env (eval e X.env)=eval e X.env:=by rfl) (hline:(apos.endLine == cpos.line)=true:=by rfl):JI X tg (.Call (.Attribute e "values" apos) [] [] cpos) (w6 f):=by
 intro pins s σ H R I q
 obtain⟨B,ρ,ds,sB,r,e',q⟩:=q
 obtain⟨⟨xd,xb⟩,ex,es⟩:=oX e'
 cases xd<;>try (cases es;done)
 cases es
 refine CH h hbase hline pins s σ H R I ⟨B,ρ,_,_,sB,r,ex,λv H1 N1 x1 i1 _=>?_⟩
 cases i1 with
 | @dk a ks vs ds ob hd hl hs=>exact⟨a,_,ob,rfl,x1.nh _ _ hd,q _ H1 N1 x1 (CI hd hl hs)⟩
end
end DL
namespace DL
open PySem L2
theorem jY {tg:FG}{g:FS}(I:Nat->Env->Prop) (ds:List D) (ρ0:Env) (h0:I 0 ρ0)
  (step:∀i d ρ,ds[i]? = some d->I i ρ->∃ρ1 ρ',tg d ρ=some ρ1/\(g ρ1=some (.nx ρ')∨g ρ1=some (.ct ρ'))/\I (i+1) ρ') :
  ∃ρ',eK tg g ds ρ0=some (.nx ρ')/\I ds.length ρ':=by
 have key:∀(es:List D) (i:Nat) (ρ:Env),ds.drop i=es->i+es.length=ds.length->I i ρ->∃ρ',eK tg g es ρ=some (.nx ρ')/\I ds.length ρ':=by
  intro es
  induction es with
  | nil=>intro i ρ e hl h;refine⟨ρ,by rw[sQ], ?_⟩;rw[←hl];exact h
  | cons d es ih =>
   intro i ρ e hl h
   have hd:ds[i]? = some d:=by
    have:(ds.drop i)[0]? = some d:=by rw[e];rfl
    rwa [List.getElem?_drop,Nat.add_zero]at this
   obtain⟨ρ1,ρ',h1,h2,h3⟩:=step i d ρ hd h
   have he:ds.drop (i+1)=es:=by rw[←List.drop_drop,e];rfl
   obtain⟨ρ2,k1,k2⟩:=ih (i+1) ρ' he (by simp at hl;omega) h3
   refine⟨ρ2, ?_,k2⟩
   rw[iK,h1]
   rcases h2 with h2|h2<;>simp only[Option.bind_some,h2]<;>exact k1
 exact key ds 0 ρ0 (by simp) (by simp) h0
theorem gh {tg:FG}{g:FS}(n:Nat) (I:Nat->Env->Prop) (ρ0:Env) (h0:I 0 ρ0)
  (step:∀(i:Nat) ρ,i<n->I i ρ->∃ρ1 ρ',tg (.int (i:Int)) ρ=some ρ1/\(g ρ1=some (.nx ρ')∨g ρ1=some (.ct ρ'))/\I (i+1) ρ') :
  ∃ρ',eK tg g (dL 0 n) ρ0=some (.nx ρ')/\I n ρ':=by
 have hl:(dL 0 n).length=n:=by simp[dL]
 obtain⟨ρ',h1,h2⟩:=jY (tg:=tg) (g:=g) I (dL 0 n) ρ0 h0 λi d ρ hd h=>by
  unfold dL at hd
  rw[List.getElem?_map]at hd
  obtain⟨k,hk,hd⟩:=oY hd
  obtain⟨hlt,hk⟩:=List.getElem?_eq_some_iff.mp hk
  rw[List.length_range]at hlt
  rw[List.getElem_range]at hk
  subst hk
  rw[Int.zero_add]at hd
  subst hd
  exact step i ρ hlt h
 rw[hl]at h2
 exact⟨ρ',h1,h2⟩
theorem ir {α:Type}{xs:List α}{j:Nat}(h:j<xs.length):atI xs (j:Int)=some xs[j]:=BT (by simp[h])
theorem rN {α:Type}{xs:List α}{i:Int}(h0:0<=i) (h:i.toNat<xs.length):atI xs i=some xs[i.toNat]:=by
 have:=ir h
 rwa [Int.toNat_of_nonneg h0]at this
@[simp] theorem DP (xs:List Int):bx (xs.map D.int)=true:=by
 induction xs with
 | nil=>simp
 | cons x xs ih=>simp[ih]
@[simp] theorem B9 (n:Nat) (xs:List Int):(xs.map D.int).all (ak n)=true:=by
 induction xs with
 | nil=>simp
 | cons x xs ih=>simpa using ih
@[simp] theorem CK (xs:List Int):(xs.map D.int).all eP=true:=by
 induction xs with
 | nil=>simp
 | cons x xs ih=>simpa using ih
theorem zd (n:Nat):dL 0 n=((List.range n).map λ(k:Nat)=>(k:Int)).map D.int:=by
 unfold dL
 rw[List.map_map]
 apply List.map_congr_left
 intro k _
 simp
mutual
def jZ:D->D->Bool
 | .non,.non=>true
 | .bl a,.bl b=>a == b
 | .int a,.int b=>decide (a=b)
 | .str a,.str b=>decide (a=b)
 | .ty a,.ty b=>decide (a=b)
 | .tup xs,.tup ys=>n6 xs ys
 | .lst xs,.lst ys=>n6 xs ys
 | _,_=>false
def n6:List D->List D->Bool
 | [],[]=>true
 | x::xs,y::ys=>jZ x y && n6 xs ys
 | _,_=>false
end
mutual
theorem xS:∀ {x y:D},jZ x y=true->x=y
 | .non,.non,_=>rfl
 | .bl a,.bl b,h=>by simp[jZ]at h;rw[h]
 | .int a,.int b,h=>by simp[jZ]at h;rw[h]
 | .str a,.str b,h=>by simp[jZ]at h;rw[h]
 | .ty a,.ty b,h=>by simp[jZ]at h;rw[h]
 | .tup xs,.tup ys,h=>by rw[jZ]at h;rw[n8 h]
 | .lst xs,.lst ys,h=>by rw[jZ]at h;rw[n8 h]
theorem n8:∀ {xs ys:List D},n6 xs ys=true->xs=ys
 | [],[],_=>rfl
 | x::xs,y::ys,h=>by
  rw[n6,Bool.and_eq_true]at h
  rw[xS h.1,n8 h.2]
end
def isR (r:Option (D×Bool)) (d:D) (b:Bool):Bool:=match r with
 | some (e,c)=>jZ e d && c == b
 | none=>false
theorem br {r:Option (D×Bool)}{d:D}{b:Bool}(h:isR r d b=true):r=some (d,b):=by
 unfold isR at h
 split at h
 ·rw[Bool.and_eq_true]at h
  rw[xS h.1,eq_of_beq h.2]
 ·cases h
section
variable {f:FE}{c:FT}{g g' h:FS}{ρ ρ':Env}{i:Nat}{d:D}{b:Bool}{r:Option Res}{ds:List D}
theorem aA {n k:Nat}(hl:ds.length=n) (e:g (ds.map (λd=>some (d,false))++List.replicate k none)=some (.rt d b)):aY g n k ds=some (d,b):=by
 unfold aY;rw[if_pos hl,e]
theorem qm (n:bi d=true):setE ρ i d b=ρ.set i (some (d,false)):=by unfold setE;rw[if_pos n]
theorem uo (n:bx ds=true):setE ρ i (.lst ds) true=ρ.set i (some (.lst ds,true)):=by
 unfold setE
 rw[if_neg (by simp),if_pos ⟨rfl,by simpa using n⟩]
theorem DQ (e:f ρ=some (d,b)) (k:h (setE ρ i d b)=r):aG (aW i f) h ρ=r:=by simp[e];exact k
theorem aO (e:f ρ=some (d,b)) (n:bi d=true) (k:h (ρ.set i (some (d,false)))=r):aG (aW i f) h ρ=r:=DQ e (by rw[qm n];exact k)
theorem cy (e:f ρ=some (.lst ds,true)) (n:bx ds=true) (k:h (ρ.set i (some (.lst ds,true)))=r):aG (aW i f) h ρ=r:=DQ e (by rw[uo n];exact k)
theorem de (e:g ρ=some (.nx ρ')) (k:h ρ'=r):aG g h ρ=r:=by unfold aG;rw[e];exact k
theorem GT (e:g ρ=some (.rt d b)):aG g h ρ=some (.rt d b):=by unfold aG;rw[e]
theorem HM (e:g ρ=some (.ct ρ')):aG g h ρ=some (.ct ρ'):=by unfold aG;rw[e]
theorem gk (e:c ρ=some true) (k:g ρ=r):gIf c g g' ρ=r:=by unfold gIf;rw[e];exact k
theorem gl (e:c ρ=some false) (k:g' ρ=r):gIf c g g' ρ=r:=by unfold gIf;rw[e];exact k
theorem bF (e:c ρ=some true) (k:g ρ=some (.rt d b)):aG (gIf c g g') h ρ=some (.rt d b):=GT (gk e k)
theorem aM (e:c ρ=some false) (k:h ρ=r):aG (gIf c g bo) h ρ=r:=de (gl e rfl) k
theorem aE (e:f ρ=some (d,b)):bp f ρ=some (.rt d b):=by simp[e]
theorem kg (e:ρ[i]? = some (some (d,b))) (hb:Du d=false:=by rfl):jM i ρ=some (.rt d b):=by simp only[jM,e,hb];simp
theorem nA (e:f ρ=some (d,b)) (n:bi d=true):aW i f ρ=some (.nx (ρ.set i (some (d,false)))):=by
 show(f ρ).map _=_
 rw[e,Option.map_some,qm n]
theorem rO (e:f ρ=some (.lst ds,true)) (n:bx ds=true):aW i f ρ=some (.nx (ρ.set i (some (.lst ds,true)))):=by
 show(f ρ).map _=_
 rw[e,Option.map_some,uo n]
theorem fu (e:ρ[i]? = some (some (.lst ds,true))) (ef:f ρ=some (d,b)) (n:bi d=true) (l:ds.length<sizeLine):ga i f ρ=some (.nx (ρ.set i (some (.lst (ds++[d]),true)))):=by
 simp[e,ef,n,l]
theorem DR (e:ρ[i]? = some (some (.lst ds,true))) (ef:f ρ=some (d,b)) (n:bi d=true) (l:ds.length<sizeLine) (k:h (ρ.set i (some (.lst (ds++[d]),true)))=r):aG (ga i f) h ρ=r:=de (fu e ef n l) k
theorem gm {fi:FA}{tg:FG}{ds:List D}(e:fi ρ=some ds) (k:eK tg g ds ρ=some (.nx ρ')):jb fi tg g ρ=some (.nx ρ'):=by unfold jb;rw[e];exact k
theorem mC {fi:FA}{tg:FG}{ds:List D}(e:fi (sP ρ)=some ds) (k:eK tg g ds ρ=some (.nx ρ')):mL fi tg g ρ=some (.nx ρ'):=by unfold mL;rw[e];exact k
theorem dN {f:FE}{j:Nat}(e:f ρ=some (.int j,b)) (hj:j<=1000):dn f ρ=some (dL 0 j):=by
 unfold dn;rw[e];simp only[];rw[if_pos (by omega)];simp
theorem aF {x:Bool}(e:f ρ=some (.bl x,b)):tOf f ρ=some x:=by unfold tOf;rw[e]
theorem ah {F:List D->Option (D×Bool)}{fa:FA}{x:Option (D×Bool)}(e:fa ρ=some ds) (k:F ds=x):fA F fa ρ=x:=by unfold fA;rw[e,Option.bind_some];exact k
theorem AT {f1 g1:D->D->Option (D×Bool)}{fa fb fc:FE}{x y z:D}{b1 b2 b3 b4 p q:Bool}(ea:fa ρ=some (x,b1)) (eb:fb ρ=some (y,b2)) (ec:fc ρ=some (z,b3)) (e1:f1 x y=some (.bl p,b4)) (e2:p=true->g1 y z=some (.bl q,false)):kZ f1 g1 fa fb fc ρ=some (.bl (p && q),false):=by
 unfold kZ
 rw[ea,eb,ec]
 simp only[Option.bind_some,e1]
 cases p
 ·rfl
 ·exact e2 rfl
theorem fV {f1 f2:FE}{p q b1:Bool}(e1:f1 ρ=some (.bl p,b1)) (e2:p=true->f2 ρ=some (.bl q,false)):ie f1 f2 ρ=some (.bl (p && q),false):=by
 unfold ie
 rw[e1]
 cases p
 ·rfl
 ·exact e2 rfl
theorem AU {f1 f2:FE}{p q b1:Bool}(e1:f1 ρ=some (.bl p,b1)) (e2:p=false->f2 ρ=some (.bl q,false)):fOr f1 f2 ρ=some (.bl (p || q),false):=by
 unfold fOr
 rw[e1]
 cases p
 ·exact e2 rfl
 ·rfl
theorem CL {f1:FE}{p b1:Bool}(e1:f1 ρ=some (.bl p,b1)):vP f1 ρ=some (.bl (!p),false):=by
 unfold vP;rw[e1]
theorem au {fr:FA}{xs:List D}(e1:f ρ=some (d,b)) (e2:fr ρ=some xs):ae f fr ρ=some (d::xs):=by
 unfold ae;rw[e1,Option.bind_some,e2,Option.bind_some]
theorem aB {op:D->D->Option (D×Bool)}{fa fb:FE}{x y:D}{b1 b2:Bool}{z:Option (D×Bool)}(e1:fa ρ=some (x,b1)) (e2:fb ρ=some (y,b2)) (e3:op x y=z):f2 op fa fb ρ=z:=by
 unfold f2;rw[e1,Option.bind_some,e2,Option.bind_some];exact e3
theorem bS {c1 c2:FT}{p q:Bool}(e1:c1 ρ=some p) (e2:p=true->c2 ρ=some q):cD c1 c2 ρ=some (p && q):=by
 unfold cD
 rw[e1]
 cases p
 ·rfl
 ·exact e2 rfl
theorem cA {c1 c2:FT}{p q:Bool}(e1:c1 ρ=some p) (e2:p=false->c2 ρ=some q):hU c1 c2 ρ=some (p || q):=by
 unfold hU
 rw[e1]
 cases p
 ·exact e2 rfl
 ·rfl
theorem gH {c1:FT}{p:Bool}(e1:c1 ρ=some p):fZ c1 ρ=some (!p):=by
 unfold fZ;rw[e1];rfl
end
theorem lt1 (a c:Nat):decide ([a]<[c])=decide (a<c):=by
 congr 1
 rw[List.cons_lt_cons_iff]
 simp
@[simp] theorem Hh (a c:Nat):dLe (.str ⟨#[a]⟩) (.str ⟨#[c]⟩)=some (.bl (decide (a<=c)),false):=by
 unfold dLe
 show some (D.bl (!decide ([c]<[a])),false)=_
 rw[lt1]
 congr 3
 by_cases h:c<a
 ·rw[decide_eq_true h,decide_eq_false (by omega)];rfl
 ·rw[decide_eq_false h,decide_eq_true (by omega)];rfl
theorem bG {n:Nat}(h:n<=100000):n<sizeLine:=Nat.lt_of_le_of_lt h (by decide)
theorem cN {n:Nat}(h:n<=100000):n<=sizeLine:=Nat.le_of_lt (bG h)
theorem jg {α:Type}{fi:FA}{nT:Nat}{cap:List Nat}{tg:FG}{c:FT}{fe:FE}{ρ:DL.Env}(l:List α) (g:α->D) (p:α->Bool) (h:α->D) (e:fi ρ=some (l.map g)) (hl:l.length<=100000)
  (k:∀x∈l,∃ρ1,tg (g x) (bV nT cap ρ)=some ρ1/\c ρ1=some (p x)/\(p x=true->∃b,fe ρ1=some (h x,b))):cr fi nT cap tg c fe ρ=some (.lst ((l.filter p).map h),true):=by
 have key:∀l':List α,(∀x∈l',x∈l)->eX tg c fe (bV nT cap ρ) (l'.map g)=some ((l'.filter p).map h):=by
  intro l'
  induction l' with
  | nil=>intro _;simp
  | cons x l' ih =>
   intro hm
   obtain⟨ρ1,h1,h2,h3⟩:=k x (hm x mX)
   have ih:=ih λy hy=>hm y (mZ _ hy)
   rw[List.map_cons,vO,h1,Option.bind_some,h2,Option.bind_some]
   cases hp:p x with
   | false=>simp[hp,ih]
   | true =>
    obtain⟨b,h4⟩:=h3 hp
    simp[hp,ih,h4]
 unfold cr
 rw[e,Option.bind_some,if_pos (cN (by simpa using hl)),key l λ_ h=>h,Option.map_some]
theorem qo {α:Type}{fi:FA}{nT:Nat}{cap:List Nat}{tg:FG}{fe:FE}{ρ:DL.Env}(l:List α) (g:α->D) (h:α->D) (e:fi ρ=some (l.map g)) (hl:l.length<=100000)
  (k:∀x∈l,∃ρ1,tg (g x) (bV nT cap ρ)=some ρ1/\∃b,fe ρ1=some (h x,b)):cr fi nT cap tg gV fe ρ=some (.lst (l.map h),true):=by
 have:=jg (c:=gV) (fe:=fe) l g (λ_=>true) h e hl λx hx=>by
  obtain⟨ρ1,h1,h2⟩:=k x hx
  exact⟨ρ1,h1,rfl,λ_=>h2⟩
 rw[List.filter_eq_self.mpr λ_ _=>rfl]at this
 exact this
@[simp] theorem uq {α:Type}(f:α->Bool) (l:List α):pj (l.map λx=>.bl (f x))=some (l.map f):=by
 induction l with
 | nil=>rfl
 | cons x l ih=>simp[ih]
theorem vI {z:Str}{i:Int}(h0:0<=i) (h:i.toNat<z.cps.size) (hz:z.length<=100000):ixD (.str z) (.int i)=some (.str ⟨#[z.cps.toList.getD i.toNat 0]⟩,false):=by
 have hh:i.toNat<z.cps.toList.length:=by simpa using h
 simp only[ixD]
 rw[if_pos (cN hz),rN h0 hh]
 simp[List.getD,h]
theorem wA {ds:List D}{i:Int}(h0:0<=i) (h:i.toNat<ds.length):ixD (.lst ds) (.int i)=some (ds.getD i.toNat .non,false):=by
 simp only[ixD]
 rw[rN h0 h]
 simp[List.getD,h]
theorem qS {ds:List D}{i:Int}(h0:0<=i) (h:i.toNat<ds.length):ixD (.tup ds) (.int i)=some (ds.getD i.toNat .non,false):=by
 simp only[ixD]
 rw[rN h0 h]
 simp[List.getD,h]
theorem xT {xs:List Int}{i:Int}(h0:0<=i) (h:i.toNat<xs.length):ixD (.lst (xs.map .int)) (.int i)=some (.int (xs.getD i.toNat 0),false):=by
 rw[wA h0 (by simpa using h)]
 simp[List.getD,h]
theorem mod_lt {x m:Int}(hm:0<m):0<=x % m/\x % m<m:=⟨Int.emod_nonneg _ (by omega),Int.emod_lt_of_pos _ hm⟩
theorem CM {ds:List D}:eZ [.lst ds]=some (.int ds.length,false):=rfl
theorem xU {i j:Int}:dEq (.int i) (.int j)=some (.bl (decide (i=j)),false):=by simp
end DL
namespace Lw
open PySem DL
noncomputable def nB:D:=(.tup [(.str "paper"),(.str "like"),(.str "copy")])
noncomputable def eQ:List (PySem.Str×D):=[(("root" : Str),(.tup [(.str "office"),(.str "matters"),(.str "further"),(.str "rule")])),(("named" : Str),(.tup [(.str "day"),(.str "office"),(.str "person")])),(("chosen" : Str),(.tup [(.str "day"),(.str "by"),(.str "office"),(.str "person"),(.str "since")])),(("heir" : Str),(.tup [(.str "day"),(.str "by"),(.str "office"),(.str "person")])),(("death" : Str),(.tup [(.str "day"),(.str "person")])),(("lost" : Str),(.tup [(.str "day"),(.str "person")])),(("found" : Str),(.tup [(.str "day"),(.str "person")])),(("leave" : Str),(.tup [(.str "day"),(.str "by"),(.str "person"),(.str "matters"),(.str "stretch"),(.str "further")])),(("paper" : Str),(.tup [(.str "day"),(.str "by"),(.str "matters"),(.str "stretch"),(.str "whom"),(.str "pieces")])),(("like" : Str),(.tup [(.str "day"),(.str "by"),(.str "matters"),(.str "stretch"),(.str "whom"),(.str "of"),(.str "changes")])),(("copy" : Str),(.tup [(.str "day"),(.str "by"),(.str "of")])),(("call" : Str),(.tup [(.str "day"),(.str "by"),(.str "of")]))]
noncomputable def dO:D:=(.tup [(.str "chosen"),(.str "heir"),(.str "leave"),(.str "paper"),(.str "like"),(.str "copy"),(.str "call")])
noncomputable def qp:FS :=
  (bp (f2 ixD (f2 ixD (af 0) (fC (.int 1))) (fC (.int 0))))
noncomputable def aD:List D->Option (D×Bool):=aY qp 1 0
noncomputable def qq:FS :=
  (bp (f2 ixD (f2 ixD (af 0) (fC (.int 1))) (f2 bD (fC (.int 1)) (f2 (np eQ) (fA aD (ae (af 0) aj)) (af 1)))))
noncomputable def av:List D->Option (D×Bool):=aY qq 2 0
noncomputable def ur:FS :=
  (aG (gIf (tOf (f2 dEq (fA aD (ae (af 0) aj)) (fC (.str "root")))) (bp (fC .non)) bo)
  (bp (fA av (ae (af 0) (ae (fC (.str "day")) aj)))))
noncomputable def aP:List D->Option (D×Bool):=aY ur 1 0
noncomputable def xV:FS :=
  (bp (cr (A0 (af 0)) 2 [1] (tgT [0,1]) (tOf (f2 dLe (f2 ixD (af 1) (fC (.int 0))) (af 2))) (af 0)))
noncomputable def bT:List D->Option (D×Bool):=aY xV 2 0
noncomputable def AV:FS :=
  (bp (fA ba (ae (fA aP (ae (f2 ixD (af 0) (af 1)) aj)) (ae (af 1) aj))))
noncomputable def dq:List D->Option (D×Bool):=aY AV 2 0
noncomputable def nD:FS :=
  (aG (aW 2 (cr (cK (fA bT (ae (af 0) (ae (af 1) aj)))) 1 [0] (tgN 0) (tOf (f2 lf (fA aP (ae (f2 ixD (af 1) (af 0)) aj)) (fC .non))) (af 0)))
  (bp (lr (af 2) (ug [0] (fA dq (ae (af 1) (ae (af 0) aj)))))))
noncomputable def dP:List D->Option (D×Bool):=aY nD 2 1
noncomputable def lN:FS :=
  (bp (fA ba (ae (f2 ixD (af 0) (fC (.int 0))) (ae (f2 ixD (af 0) (fC (.int 2))) (ae (f2 ixD (af 0) (fC (.int 4))) aj)))))
noncomputable def dr:List D->Option (D×Bool):=aY lN 1 0
noncomputable def xW:FS :=
  (aG (aW 2 (cr (cK (fA bT (ae (af 0) (ae (af 1) aj)))) 1 [0] (tgN 0) gV (f2 ixD (af 1) (af 0))))
  (bp (fA gG (ae (cr (cK (af 2)) 1 [] (tgN 0) (tOf (f2 dEq (fA aD (ae (af 0) aj)) (fC (.str "root")))) (fA ba (ae (fA av (ae (af 0) (ae (fC (.str "office")) aj))) (ae (af 0) aj)))) aj))))
noncomputable def di:List D->Option (D×Bool):=aY xW 2 1
noncomputable def nE:FS :=
  (bp (ie (kZ dLe dLt (fC (.int 0)) (af 2) (fA eZ (ae (af 0) aj))) (f2 dLe (f2 ixD (f2 ixD (af 0) (af 2)) (fC (.int 0))) (af 1))))
noncomputable def cn:List D->Option (D×Bool):=aY nE 3 0
noncomputable def xX:FS :=
  (bp (ie (f2 dIn (fA aD (ae (af 0) aj)) (af 1)) (ie (f2 dEq (fA av (ae (af 0) (ae (fC (.str "person")) aj))) (af 2)) (f2 dLe (fA aP (ae (af 0) aj)) (af 3)))))
noncomputable def kh:List D->Option (D×Bool):=aY xX 4 0
noncomputable def qr:FS :=
  (bp (cr (cK (fA bT (ae (af 0) (ae (af 1) aj)))) 1 [2,3,4,0] (tgN 0) (tOf (fA kh (ae (f2 ixD (af 4) (af 0)) (ae (af 1) (ae (af 2) (ae (af 3) aj)))))) (af 0)))
noncomputable def cW:List D->Option (D×Bool):=aY qr 5 0
noncomputable def xY:FS :=
  (bp (f2 dEq (fA eZ (ae (fA cW (ae (af 0) (ae (af 1) (ae (fA ba (ae (fC (.str "death")) aj)) (ae (af 2) (ae (af 3) aj)))))) aj)) (fC (.int 0))))
noncomputable def gI:List D->Option (D×Bool):=aY xY 4 0
noncomputable def nF:FS :=
  (aG (aW 4 (fA cW (ae (af 0) (ae (af 1) (ae (fA ba (ae (fC (.str "lost")) (ae (fC (.str "found")) aj))) (ae (af 2) (ae (af 3) aj)))))))
  (aG (gIf (tOf (f2 dEq (fA eZ (ae (af 4) aj)) (fC (.int 0)))) (bp (fC (.bl true))) bo)
  (bp (f2 dEq (fA aD (ae (f2 ixD (af 0) (qi (af 4) (ug [0] (fA dq (ae (af 1) (ae (af 0) aj)))))) aj)) (fC (.str "found"))))))
noncomputable def gJ:List D->Option (D×Bool):=aY nF 4 1
noncomputable def nG:FS :=
  (aG (gIf (hU (fZ (tOf (fA cn (ae (af 0) (ae (af 1) (ae (af 2) aj)))))) (tOf (f2 dJ (fA aD (ae (f2 ixD (af 0) (af 2)) aj)) (fC dO)))) (bp (fC (.bl false))) bo)
  (aG (aW 3 (fA av (ae (f2 ixD (af 0) (af 2)) (ae (fC (.str "by")) aj))))
  (aG (aW 4 (fA aP (ae (f2 ixD (af 0) (af 2)) aj)))
  (bp (ie (fA gI (ae (af 0) (ae (af 1) (ae (af 3) (ae (af 4) aj))))) (fA gJ (ae (af 0) (ae (af 1) (ae (af 3) (ae (af 4) aj))))))))))
noncomputable def cq:List D->Option (D×Bool):=aY nG 3 2
noncomputable def qt:FS :=
  (bp (ie (f2 dLe (f2 ixD (af 1) (fC (.int 0))) (af 0)) (fOr (f2 dIs (f2 ixD (af 1) (fC (.int 1))) (fC .non)) (f2 dLt (af 0) (f2 ixD (af 1) (fC (.int 1)))))))
noncomputable def iS:List D->Option (D×Bool):=aY qt 2 0
noncomputable def nH:FS :=
  (bp (fA iS (ae (af 1) (ae (fA ba (ae (f2 ixD (af 0) (fC (.int 2))) (ae (f2 ixD (af 0) (fC (.int 3))) aj))) aj))))
noncomputable def bJ:List D->Option (D×Bool):=aY nH 2 0
noncomputable def nI:FS :=
  (bp (fA ba (ae (f2 ixD (af 0) (fC (.int 2))) (ae (f2 ixD (af 0) (fC (.int 4))) aj))))
noncomputable def bX:List D->Option (D×Bool):=aY nI 1 0
noncomputable def nJ:FS :=
  (aG (gIf (tOf (f2 dEq (af 1) (fC (.str "last")))) (bp (f2 ixD (qi (af 0) (pz bX)) (fC (.int 1)))) bo)
  (bp (f2 ixD (qj (af 0) (pz bX)) (fC (.int 1)))))
noncomputable def gK:List D->Option (D×Bool):=aY nJ 2 0
noncomputable def lO:FS :=
  (aG (aW 3 (cr (cK (af 0)) 1 [2,1] (tgN 0) (cD (tOf (f2 dEq (f2 ixD (af 0) (fC (.int 0))) (fA av (ae (af 2) (ae (fC (.str "office")) aj))))) (tOf (fA bJ (ae (af 0) (ae (af 1) aj))))) (af 0)))
  (aG (aW 4 (f1 eD (cr (cK (af 3)) 1 [] (tgN 0) gV (f2 ixD (af 0) (fC (.int 1))))))
  (aG (gIf (tOf (f2 dEq (fA eZ (ae (af 4) aj)) (fC (.int 0)))) (bp (fA ba (ae (fC (.str "none")) aj))) bo)
  (aG (gIf (cD (tOf (f2 iGt (fA eZ (ae (af 4) aj)) (fC (.int 1)))) (tOf (f2 dEq (fA av (ae (af 1) (ae (fC (.str "rule")) aj))) (fC (.str "open"))))) (bp (fA ba (ae (fC (.str "parted")) (ae (af 4) aj)))) bo)
  (aG (aW 5 (fA gK (ae (af 3) (ae (fA av (ae (af 1) (ae (fC (.str "rule")) aj))) aj))))
  (aG (aW 6 (qj (cr (cK (af 3)) 1 [5] (tgN 0) (tOf (f2 dEq (f2 ixD (af 0) (fC (.int 1))) (af 1))) (af 0)) (pz bX)))
  (bp (fA ba (ae (fC (.str "one")) (ae (af 5) (ae (f2 ixD (af 6) (fC (.int 4))) aj)))))))))))
noncomputable def c7:List D->Option (D×Bool):=aY lO 3 4
noncomputable def ki:FS :=
  (bp (f2 dEq (fSl (fA c7 (ae (af 0) (ae (af 1) (ae (af 3) aj)))) t4 (pN (fC (.int 2)))) (fA ba (ae (fC (.str "one")) (ae (af 2) aj)))))
noncomputable def cf:List D->Option (D×Bool):=aY ki 4 0
noncomputable def gn:FS :=
  (aG (aW 3 (f2 ixD (af 0) (af 2)))
  (aG (aW 4 (fA cW (ae (af 0) (ae (af 1) (ae (fA ba (ae (fC (.str "death")) aj)) (ae (fA av (ae (af 3) (ae (fC (.str "person")) aj))) (ae (fA aP (ae (af 3) aj)) aj)))))))
  (bp (f2 dEq (qj (af 4) (ug [0] (fA dq (ae (af 1) (ae (af 0) aj))))) (af 2)))))
noncomputable def cX:List D->Option (D×Bool):=aY gn 3 2
noncomputable def ut:FS :=
  (aG (aW 4 (f2 ixD (af 0) (af 3)))
  (aG (gIf (tOf (f2 dEq (fA aD (ae (af 4) aj)) (fC (.str "death")))) (bp (fA cX (ae (af 0) (ae (af 1) (ae (af 3) aj))))) bo)
  (aG (gIf (tOf (f2 dJ (fA aD (ae (af 4) aj)) (fA ba (ae (fC (.str "named")) (ae (fC (.str "chosen")) (ae (fC (.str "heir")) aj)))))) (bp (fC (.bl false))) bo)
  (aG (aW 5 (f2 wx (fA di (ae (af 0) (ae (af 1) aj))) (fA av (ae (af 4) (ae (fC (.str "office")) aj)))))
  (aG (gIf (tOf (f2 dIs (af 5) (fC .non))) (bp (fC (.bl false))) bo)
  (aG (gIf (tOf (f2 dEq (fA aD (ae (af 4) aj)) (fC (.str "named")))) (bp (fC (.bl true))) bo)
  (bp (ie (fA cq (ae (af 0) (ae (af 1) (ae (af 3) aj)))) (fA cf (ae (af 2) (ae (af 5) (ae (fA av (ae (af 4) (ae (fC (.str "by")) aj))) (ae (fA aP (ae (af 4) aj)) aj)))))))))))))
noncomputable def iu:List D->Option (D×Bool):=aY ut 4 2
noncomputable def lP:FS :=
  (bp (fA ba (ae (fA av (ae (af 0) (ae (fC (.str "office")) aj))) (ae (fA av (ae (af 0) (ae (fC (.str "person")) aj))) (ae (af 1) (ae (fC .non) (ae (af 2) aj)))))))
noncomputable def cO:List D->Option (D×Bool):=aY lP 3 0
noncomputable def nK:FS :=
  (gIf (hU (tOf (f2 dJ (f2 ixD (af 5) (fC (.int 0))) (af 1))) (hU (tOf (f2 dNe (f2 ixD (af 5) (fC (.int 1))) (af 2))) (fZ (hU (tOf (fA bJ (ae (af 5) (ae (af 3) aj)))) (tOf (f2 iGt (f2 ixD (af 5) (fC (.int 2))) (af 3))))))) (ga 4 (af 5)) (gIf (tOf (f2 dLt (f2 ixD (af 5) (fC (.int 2))) (af 3))) (ga 4 (fA ba (ae (f2 ixD (af 5) (fC (.int 0))) (ae (af 2) (ae (f2 ixD (af 5) (fC (.int 2))) (ae (af 3) (ae (f2 ixD (af 5) (fC (.int 4))) aj))))))) bo))
noncomputable def xZ:FS :=
  (aG (aW 4 (fA bB aj))
  (aG (mL (cK (af 0)) (tgN 5) nK)
  (jM 4)))
noncomputable def iT:List D->Option (D×Bool):=aY xZ 4 2
noncomputable def iw:FS :=
  (aG (aW 3 (fA av (ae (af 1) (ae (fC (.str "since")) aj))))
  (aG (aW 4 (fA iT (ae (af 0) (ae (fA bB (ae (fA av (ae (af 1) (ae (fC (.str "office")) aj))) aj)) (ae (fA av (ae (af 1) (ae (fC (.str "by")) aj))) (ae (af 3) aj))))))
  (bp (f2 bD (af 4) (fA bB (ae (fA cO (ae (af 1) (ae (af 3) (ae (af 2) aj)))) aj))))))
noncomputable def dA:List D->Option (D×Bool):=aY iw 3 2
noncomputable def eR:FS :=
  (aG (aW 9 (AO (af 3) (ae (af 8) (ae (af 5) aj))))
  (gIf (cD (tOf (f2 lf (af 9) (fC .non))) (tOf (fA gI (ae (af 0) (ae (af 1) (ae (af 9) (ae (af 6) aj))))))) (ga 7 (fA ba (ae (af 8) (ae (af 9) (ae (af 6) (ae (fC .non) (ae (af 4) aj))))))) bo))
noncomputable def lQ:FS :=
  (aG (aW 5 (fA av (ae (f2 ixD (af 0) (af 4)) (ae (fC (.str "person")) aj))))
  (aG (aW 6 (fA aP (ae (f2 ixD (af 0) (af 4)) aj)))
  (aG (aW 7 (fA bB aj))
  (aG (gUn [5,6] (mL (cK (f1 eD (cr (cK (af 2)) 1 [5,6] (tgN 0) (cD (tOf (f2 dEq (f2 ixD (af 0) (fC (.int 1))) (af 1))) (tOf (fA bJ (ae (af 0) (ae (af 2) aj))))) (f2 ixD (af 0) (fC (.int 0)))))) (tgN 8) eR))
  (jM 7)))))
noncomputable def fK:List D->Option (D×Bool):=aY lQ 5 5
noncomputable def jh:FS :=
  (aG (aW 5 (cr (cK (af 2)) 1 [] (tgN 0) gV (f2 ixD (af 0) (fC (.int 0)))))
  (aG (aW 6 (fA iT (ae (af 2) (ae (af 5) (ae (fA av (ae (f2 ixD (af 0) (af 4)) (ae (fC (.str "person")) aj))) (ae (fA aP (ae (f2 ixD (af 0) (af 4)) aj)) aj))))))
  (bp (f2 bD (af 6) (fA fK (ae (af 0) (ae (af 1) (ae (af 2) (ae (af 3) (ae (af 4) aj))))))))))
noncomputable def eu:List D->Option (D×Bool):=aY jh 5 2
noncomputable def iU:FS :=
  (aG (aW 5 (f2 ixD (af 0) (af 4)))
  (aG (gIf (fZ (tOf (fA iu (ae (af 0) (ae (af 1) (ae (af 2) (ae (af 4) aj))))))) DJ bo)
  (gIf (tOf (f2 dEq (fA aD (ae (af 5) aj)) (fC (.str "named")))) (aW 2 (f2 bD (af 2) (fA bB (ae (fA cO (ae (af 5) (ae (fA aP (ae (af 5) aj)) (ae (af 4) aj)))) aj)))) (gIf (tOf (f2 dEq (fA aD (ae (af 5) aj)) (fC (.str "chosen")))) (aW 2 (fA dA (ae (af 2) (ae (af 5) (ae (af 4) aj))))) (gIf (tOf (f2 dEq (fA aD (ae (af 5) aj)) (fC (.str "heir")))) (ql 3 (ae (fA av (ae (af 5) (ae (fC (.str "office")) aj))) (ae (fA av (ae (af 5) (ae (fC (.str "by")) aj))) aj)) (fA av (ae (af 5) (ae (fC (.str "person")) aj)))) (aW 2 (fA eu (ae (af 0) (ae (af 1) (ae (af 2) (ae (af 3) (ae (af 4) aj))))))))))))
noncomputable def uu:FS :=
  (aG (aW 2 (fA bB aj))
  (aG (AL 3)
  (aG (mL (cK (fA dP (ae (af 0) (ae (af 1) aj)))) (tgN 4) iU)
  (bp (lr (af 2) (pz dr))))))
noncomputable def gp:List D->Option (D×Bool):=aY uu 2 4
noncomputable def nM:FS :=
  (bp (ie (fA cn (ae (af 0) (ae (af 1) (ae (af 2) aj)))) (f2 dIn (fA aD (ae (f2 ixD (af 0) (af 2)) aj)) (fC nB))))
noncomputable def gL:List D->Option (D×Bool):=aY nM 3 0
noncomputable def nN:FS :=
  (bp (ie (fA cn (ae (af 0) (ae (af 1) (ae (af 2) aj)))) (f2 dEq (fA aD (ae (f2 ixD (af 0) (af 2)) aj)) (fC (.str "leave")))))
noncomputable def gM:List D->Option (D×Bool):=aY nN 3 0
noncomputable def nO:FS :=
  (bp (fOr (fA gM (ae (af 0) (ae (af 1) (ae (af 2) aj)))) (fA gL (ae (af 0) (ae (af 1) (ae (af 2) aj))))))
noncomputable def gN:List D->Option (D×Bool):=aY nO 3 0
noncomputable def nQ:FS :=
  (bp (f2 dEq (f2 Cm (af 0) (af 1)) (af 1)))
noncomputable def gq:List D->Option (D×Bool):=aY nQ 2 0
noncomputable def nR:FS :=
  (aG (aW 5 (f2 ixD (af 0) (af 4)))
  (aG (aW 6 (fA av (ae (f2 ixD (af 0) (af 3)) (ae (fC (.str "by")) aj))))
  (aG (gIf (tOf (f2 dEq (af 6) (fA av (ae (af 5) (ae (fC (.str "by")) aj))))) (bp (fC (.bl true))) bo)
  (aG (gIf (tOf (f2 dEq (fA aD (ae (af 5) aj)) (fC (.str "copy")))) (bp (fC (.bl false))) bo)
  (aG (aW 7 (cr (w6 (fA di (ae (af 0) (ae (af 1) aj)))) 1 [5] (tgN 0) (tOf (fA gq (ae (fA av (ae (af 0) (ae (fC (.str "matters")) aj))) (ae (fA av (ae (af 1) (ae (fC (.str "matters")) aj))) aj)))) (af 0)))
  (bp (fA GF (ae (cr (cK (af 7)) 1 [2,6,0,3] (tgN 0) gV (fA cf (ae (af 1) (ae (af 0) (ae (af 2) (ae (fA aP (ae (f2 ixD (af 3) (af 4)) aj)) aj)))))) aj))))))))
noncomputable def gO:List D->Option (D×Bool):=aY nR 5 3
noncomputable def nS:FS :=
  (aG (aW 6 (f2 ixD (af 0) (af 3)))
  (aG (gIf (hU (tOf (f2 dNe (fA aD (ae (af 6) aj)) (fC (.str "call")))) (hU (tOf (f2 dNe (fA av (ae (af 6) (ae (fC (.str "of")) aj))) (af 4))) (tOf (f2 iGt (fA aP (ae (af 6) aj)) (af 5))))) (bp (fC (.bl false))) bo)
  (bp (ie (fA cq (ae (af 0) (ae (af 1) (ae (af 3) aj)))) (fA gO (ae (af 0) (ae (af 1) (ae (af 2) (ae (af 3) (ae (af 4) aj))))))))))
noncomputable def fw:List D->Option (D×Bool):=aY nS 6 1
noncomputable def nU:FS :=
  (aG (gIf (fZ (tOf (fA gN (ae (af 0) (ae (af 1) (ae (af 3) aj)))))) (bp (fA bB aj)) bo)
  (bp (cr (cK (fA bT (ae (af 0) (ae (af 1) aj)))) 1 [0,1,2,3,4] (tgN 0) (tOf (fA fw (ae (af 1) (ae (af 2) (ae (af 3) (ae (af 0) (ae (af 4) (ae (af 5) aj)))))))) (af 0))))
noncomputable def gP:List D->Option (D×Bool):=aY nU 5 0
noncomputable def ya:FS :=
  (bp (fA gP (ae (af 0) (ae (af 1) (ae (fA gp (ae (af 0) (ae (af 1) aj))) (ae (af 2) (ae (af 3) aj)))))))
noncomputable def kj:List D->Option (D×Bool):=aY ya 4 0
noncomputable def uw:FS :=
  (aG (aW 2 (fC (.int 5)))
  (aG (gIf (tOf (f2 iGt (fA eZ (ae (af 0) aj)) (fC (.int 0)))) (aW 2 (f2 ixD (af 0) (f2 bC (af 1) (fA eZ (ae (af 0) aj))))) bo)
  (aG (aW 2 (f2 bC (f2 eA (f2 bD (f2 bD (f2 bC (af 2) (fC (.int 2147483629))) (f2 eA (fC (.int 6151)) (af 1))) (fC (.int 1))) (fC (.int 48271))) (fC (.int 2147483647))))
  (bp (f2 bC (f2 eA (af 2) (f2 bD (f2 bD (f2 bC (af 2) (fC (.int 65519))) (af 1)) (fC (.int 2)))) (fC (.int 2147483629)))))))
noncomputable def bQ:List D->Option (D×Bool):=aY uw 2 1
noncomputable def jv:FS :=
  (aG (aW 6 (fA fH (ae (af 2) aj)))
  (aG (yQ 6 (af 3) (f2 ixD (af 1) (f2 bC (f2 bD (f2 c6 (af 0) (fC (.int 64))) (f2 eA (fC (.int 3)) (af 5))) (fC (.int 26)))))
  (ga 4 (f2 lK (fC (.str "")) (af 6)))))
noncomputable def qu:FS :=
  (aG (aW 1 (fC (.str "abcdefghijklmnopqrstuvwxyz")))
  (aG (aW 2 (cr (dn (f2 bD (fC (.int 1)) (f2 bC (af 0) (fC (.int 8))))) 1 [1,0] (tgN 0) gV (f2 ixD (af 1) (f2 bC (f2 c6 (af 2) (f2 bD (fC (.int 3)) (f2 eA (fC (.int 4)) (af 0)))) (fC (.int 26))))))
  (aG (aW 3 (f2 bC (f2 c6 (af 0) (fC (.int 8))) (fA eZ (ae (af 2) aj))))
  (aG (aW 4 (fA bB aj))
  (aG (jb (dn (fC (.int 7))) (tgN 5) jv)
  (aG (gIf (tOf (f2 dEq (f2 bC (f2 c6 (af 0) (fC (.int 1000))) (fC (.int 8))) (fC (.int 1)))) (yQ 4 (fC (.int 5)) (f2 ixD (af 4) (fC (.int 0)))) bo)
  (jM 4)))))))
noncomputable def iV:List D->Option (D×Bool):=aY qu 1 6
noncomputable def lR:FS :=
  (aG (aW 3 (fA bB (ae (fA ba (ae (fC (.int 0)) (ae (fC .non) aj))) (ae (fA ba (ae (af 1) (ae (fC .non) aj))) (ae (fA ba (ae (af 1) (ae (f2 bD (af 1) (f2 eA (fC (.int 3)) (af 2))) aj))) (ae (fA ba (ae (fC (.int 0)) (ae (f2 bD (af 1) (f2 eA (fC (.int 2)) (af 2))) aj))) (ae (fA ba (ae (fC (.int 0)) (ae (f2 eA (fC (.int 9)) (af 2)) aj))) aj)))))))
  (aG (aW 3 (f2 bD (af 3) (fA bB (ae (fA ba (ae (f2 bD (af 1) (af 2)) (ae (f2 bD (af 1) (f2 eA (fC (.int 4)) (af 2))) aj))) (ae (fA ba (ae (f2 c6 (af 1) (fC (.int 2))) (ae (f2 bD (af 1) (f2 eA (fC (.int 6)) (af 2))) aj))) (ae (fA ba (ae (fC (.int 0)) (ae (fC .non) aj))) aj))))))
  (bp (f2 ixD (af 3) (f2 bC (af 0) (fC (.int 8)))))))
noncomputable def du:List D->Option (D×Bool):=aY lR 3 1
noncomputable def ux:FS :=
  (aG (aW 7 (f2 bD (f2 bD (f2 bD (um (fA bB (ae (fC (.str "leave")) aj)) (fC (.int 3))) (um (fA bB (ae (fC (.str "paper")) aj)) (fC (.int 2)))) (fA bB (ae (fC (.str "like")) (ae (fC (.str "copy")) aj)))) (um (fA bB (ae (fC (.str "call")) aj)) (fC (.int 7)))))
  (aG (aW 7 (f2 bD (af 7) (fA bB (ae (fC (.str "lost")) (ae (fC (.str "death")) (ae (fC (.str "chosen")) (ae (fC (.str "heir")) aj)))))))
  (aG (aW 8 (f2 ixD (af 7) (f2 bC (af 1) (fC (.int 18)))))
  (aG (aW 9 (f2 ixD (af 5) (f2 vQ (f1 Aj (fC (.int 1))) (f2 bC (f2 c6 (af 1) (fC (.int 18))) (fA Cq (ae (fC (.int 3)) (ae (fA eZ (ae (af 5) aj)) aj)))))))
  (aG (gIf (tOf (f2 dEq (f2 bC (f2 c6 (af 1) (fC (.int 54))) (fC (.int 6))) (fC (.int 1)))) (aW 9 (f2 ixD (af 3) (f2 bC (f2 c6 (af 1) (fC (.int 324))) (fC (.int 5))))) bo)
  (aG (aW 10 (f2 ixD (af 3) (f2 bC (f2 c6 (af 1) (fC (.int 1620))) (fC (.int 5)))))
  (aG (aW 11 (fA Cp (ae (fC (.int 0)) (ae (f2 vQ (f2 vQ (af 0) (fC (.int 1))) (f2 bC (af 2) (fC (.int 4)))) aj))))
  (aG (gIf (tOf (f2 dEq (f2 bC (f2 c6 (af 2) (fC (.int 4))) (fC (.int 8))) (fC (.int 1)))) (aW 11 (f2 bC (f2 c6 (af 2) (fC (.int 32))) (fC (.int 60)))) bo)
  (aG (gIf (tOf (f2 dEq (af 8) (fC (.str "leave")))) (aG (aW 12 (f2 ixD (fA bB (ae (fC (.int 3)) (ae (fC (.int 1)) (ae (fC (.int 7)) (ae (fC (.int 2)) (ae (fC (.int 255)) (ae (fC (.int 5)) (ae (fC (.int 1)) (ae (fC (.int 3)) aj))))))))) (f2 bC (f2 c6 (af 1) (fC (.int 8100))) (fC (.int 8)))))
  (aG (aW 13 (f2 bC (f2 c6 (af 2) (fC (.int 256))) (f2 ixD (fA bB (ae (fC (.int 5)) (ae (fC (.int 5)) (ae (fC (.int 5)) (ae (fC (.int 10)) aj))))) (f2 bC (f2 c6 (af 2) (fC (.int 2560))) (fC (.int 4))))))
  (bp (fA ba (ae (af 8) (ae (af 4) (ae (af 9) (ae (af 10) (ae (af 12) (ae (fA du (ae (f2 c6 (af 2) (fC (.int 32))) (ae (af 4) (ae (af 6) aj)))) (ae (af 13) aj))))))))))) bo)
  (aG (gIf (hU (tOf (f2 dEq (af 8) (fC (.str "paper")))) (tOf (f2 dEq (af 8) (fC (.str "like"))))) (aG (aW 12 (f2 ixD (fA bB (ae (fC (.int 1)) (ae (fC (.int 1)) (ae (fC (.int 3)) (ae (fC (.int 2)) (ae (fC (.int 4)) (ae (fC (.int 5)) (ae (fC (.int 128)) (ae (fC (.int 7)) aj))))))))) (f2 bC (f2 c6 (af 1) (fC (.int 8100))) (fC (.int 8)))))
  (aG (aW 14 (fA ba (ae (af 8) (ae (af 4) (ae (af 9) (ae (af 12) (ae (fA du (ae (f2 c6 (af 2) (fC (.int 32))) (ae (af 4) (ae (af 6) aj)))) (ae (f2 ixD (fA bB (ae (fC .non) (ae (af 10) aj))) (f2 bC (f2 c6 (af 2) (fC (.int 256))) (fC (.int 2)))) aj))))))))
  (aG (gIf (tOf (f2 dEq (af 8) (fC (.str "like")))) (bp (f2 xO (af 14) (fA ba (ae (af 11) (ae (fA ba (ae (fA ba (ae (fC (.int 0)) (ae (af 10) aj))) aj)) aj))))) bo)
  (bp (f2 xO (af 14) (fA ba (ae (fA ba (ae (af 10) aj)) aj))))))) bo)
  (aG (gIf (tOf (f2 dIn (af 8) (fA ba (ae (fC (.str "copy")) (ae (fC (.str "call")) aj))))) (bp (fA ba (ae (af 8) (ae (af 4) (ae (af 9) (ae (af 11) aj)))))) bo)
  (aG (gIf (tOf (f2 dEq (af 8) (fC (.str "named")))) (bp (fA ba (ae (af 8) (ae (af 4) (ae (f2 ixD (af 3) (f2 bD (fC (.int 5)) (f2 bC (af 2) (fC (.int 2))))) (ae (af 10) aj)))))) bo)
  (aG (gIf (tOf (f2 dEq (af 8) (fC (.str "chosen")))) (bp (fA ba (ae (af 8) (ae (af 4) (ae (af 9) (ae (f2 ixD (af 3) (f2 bD (fC (.int 5)) (f2 bC (af 2) (fC (.int 2))))) (ae (af 10) (ae (f2 bD (af 4) (f2 eA (f2 bC (f2 c6 (af 2) (fC (.int 32))) (fC (.int 3))) (af 6))) aj)))))))) bo)
  (aG (gIf (tOf (f2 dEq (af 8) (fC (.str "heir")))) (bp (fA ba (ae (af 8) (ae (af 4) (ae (af 9) (ae (f2 ixD (af 3) (f2 bD (fC (.int 5)) (f2 bC (af 2) (fC (.int 2))))) (ae (af 10) aj))))))) bo)
  (bp (fA ba (ae (af 8) (ae (af 4) (ae (af 9) aj)))))))))))))))))))
noncomputable def km:List D->Option (D×Bool):=aY ux 7 8
noncomputable def ls:FS :=
  (aG (aW 8 (f2 ixD (fA bB (ae (fC (.str "open")) (ae (fC (.str "first")) (ae (fC (.str "last")) aj)))) (f2 bC (f2 c6 (af 4) (f2 bD (fC (.int 64)) (f2 eA (fC (.int 9)) (af 7)))) (fC (.int 3)))))
  (aG (aW 9 (f2 ixD (fA bB (ae (fC (.int 7)) (ae (fC (.int 255)) (ae (fC (.int 3)) (ae (fC (.int 15)) aj))))) (f2 bC (f2 c6 (af 4) (f2 bD (fC (.int 2)) (f2 eA (fC (.int 8)) (af 7)))) (fC (.int 4)))))
  (aG (aW 10 (f2 eA (f2 eA (fA pq (ae (f2 dEq (f2 bC (f2 c6 (af 4) (f2 bD (fC (.int 512)) (af 7))) (fC (.int 8))) (fC (.int 1))) aj)) (fC (.int 4))) (af 2)))
  (aG (aW 11 (f2 bC (f2 c6 (af 4) (f2 bD (fC (.int 1024)) (f2 eA (fC (.int 5)) (af 7)))) (f2 ixD (fA bB (ae (fC (.int 5)) (ae (fC (.int 5)) (ae (fC (.int 10)) aj)))) (f2 bC (f2 c6 (af 4) (f2 bD (fC (.int 31)) (af 7))) (fC (.int 3))))))
  (aG (ga 5 (fA ba (ae (af 10) (ae (fA ba (ae (fC (.str "root")) (ae (f2 ixD (af 1) (f2 bD (fC (.int 5)) (af 7))) (ae (af 9) (ae (af 11) (ae (af 8) aj)))))) aj))))
  (aG (ga 5 (fA ba (ae (fC (.int 0)) (ae (fA ba (ae (fC (.str "named")) (ae (fC (.int 0)) (ae (f2 ixD (af 1) (f2 bD (fC (.int 5)) (af 7))) (ae (f2 ixD (af 1) (af 7)) aj))))) aj))))
  (ga 6 (f2 ixD (af 1) (af 7)))))))))
noncomputable def lu:FS :=
  (aG (aW 12 (fA bQ (ae (af 0) (ae (f2 bD (fC (.int 5)) (af 7)) aj))))
  (aG (aW 13 (f2 eA (f2 bD (f2 c6 (af 7) (fC (.int 2))) (f2 bC (f2 c6 (af 12) (fC (.int 7))) (fC (.int 3)))) (af 2)))
  (aG (aW 14 (fA km (ae (fA eZ (ae (af 5) aj)) (ae (fA bQ (ae (af 0) (ae (f2 bD (fC (.int 30)) (af 7)) aj))) (ae (fA bQ (ae (af 0) (ae (f2 bD (fC (.int 60)) (af 7)) aj))) (ae (af 1) (ae (af 13) (ae (af 6) (ae (af 2) aj)))))))))
  (aG (gIf (tOf (f2 dIn (f2 ixD (af 14) (fC (.int 0))) (fA ba (ae (fC (.str "leave")) (ae (fC (.str "named")) aj))))) (ga 6 (f2 ixD (af 14) (fC (.int 3)))) bo)
  (aG (gIf (tOf (f2 dEq (f2 ixD (af 14) (fC (.int 0))) (fC (.str "chosen")))) (ga 6 (f2 ixD (af 14) (fC (.int 4)))) bo)
  (ga 5 (fA ba (ae (f2 bD (af 13) (f2 eA (f2 ixD (fA bB (ae (fC (.int 0)) (ae (fC (.int 0)) (ae (fC (.int 0)) (ae (fC (.int 0)) (ae (fC (.int 1)) (ae (fC (.int 4)) aj))))))) (f2 bC (f2 c6 (af 12) (fC (.int 21))) (fC (.int 6)))) (af 2))) (ae (af 14) aj)))))))))
noncomputable def uy:FS :=
  (aG (aW 4 (fA bQ (ae (af 0) (ae (fC (.int 1)) aj))))
  (aG (aW 5 (fA bB aj))
  (aG (aW 6 (fA bB aj))
  (aG (jb (dn (f2 bD (fC (.int 1)) (f2 bC (af 4) (fC (.int 2))))) (tgN 7) ls)
  (aG (jb (dn (f2 bD (fC (.int 3)) (f2 bC (fA bQ (ae (af 0) (ae (fC (.int 2)) aj))) (af 3)))) (tgN 7) lu)
  (bp (fA eC (ae (af 5) aj))))))))
noncomputable def kn:List D->Option (D×Bool):=aY uy 4 11
noncomputable def uz:FS :=
  (aG (aW 4 (f2 wx (fA di (ae (af 0) (ae (af 1) aj))) (af 2)))
  (aG (gIf (tOf (f2 dIs (af 4) (fC .non))) (bp (fA ba (ae (fC (.str "none")) aj))) bo)
  (bp (fA c7 (ae (fA gp (ae (af 0) (ae (af 1) aj))) (ae (af 4) (ae (af 3) aj)))))))
noncomputable def gs:List D->Option (D×Bool):=aY uz 4 1
noncomputable def nV:FS :=
  (bp (fA Cs (ae (cr (dn (fC (.int 8))) 1 [0,1] (tgN 0) (tOf (f2 dEq (f2 Cm (f2 EM (af 2) (af 0)) (fC (.int 1))) (fC (.int 1)))) (f2 dEq (f2 Cm (f2 EM (af 1) (af 0)) (fC (.int 1))) (fC (.int 1)))) aj)))
noncomputable def dQ:List D->Option (D×Bool):=aY nV 2 0
noncomputable def u0:FS :=
  (gIf (cD (tOf (f2 dLe (af 4) (af 1))) (cD (tOf (f2 dEq (f2 ixD (af 5) (fC (.int 0))) (fC (.str "root")))) (tOf (fA dQ (ae (f2 ixD (af 5) (fC (.int 2))) (ae (f2 ixD (af 3) (f2 bD (fC (.int 3)) (fA pq (ae (f2 dEq (f2 ixD (af 3) (fC (.int 0))) (fC (.str "leave"))) aj)))) aj)))))) (gIf (tOf (f2 dEq (fSl (fA gs (ae (af 0) (ae (af 1) (ae (f2 ixD (af 5) (fC (.int 1))) (ae (f2 ixD (af 2) (fC (.int 1))) aj))))) t4 (pN (fC (.int 2)))) (fA ba (ae (fC (.str "one")) (ae (f2 ixD (af 2) (fC (.int 2))) aj))))) (bp (fC (.bl true))) bo) bo)
noncomputable def yc:FS :=
  (aG (gIf (tOf (f2 dEq (f2 ixD (af 2) (fC (.int 2))) (f2 ixD (af 3) (fC (.int 2))))) (bp (fC (.bl true))) bo)
  (aG (gIf (tOf (f2 dEq (f2 ixD (af 3) (fC (.int 0))) (fC (.str "copy")))) (bp (fC (.bl false))) bo)
  (aG (mL (cK (af 0)) (tgT [4,5]) u0)
  (bp (fC (.bl false))))))
noncomputable def iW:List D->Option (D×Bool):=aY yc 4 2
noncomputable def ko:FS :=
  (aG (aW 8 (f2 ixD (f2 ixD (af 0) (af 7)) (fC (.int 1))))
  (gIf (cD (tOf (f2 dLe (f2 ixD (f2 ixD (af 0) (af 7)) (fC (.int 0))) (af 1))) (cD (tOf (f2 dEq (f2 ixD (af 8) (fC (.int 0))) (fC (.str "call")))) (cD (tOf (f2 dEq (f2 ixD (af 8) (fC (.int 3))) (af 2))) (tOf (f2 dLe (f2 ixD (af 8) (fC (.int 1))) (af 3)))))) (gIf (cD (tOf (fA cq (ae (af 0) (ae (af 1) (ae (af 7) aj))))) (tOf (fA iW (ae (af 0) (ae (af 1) (ae (af 8) (ae (af 5) aj))))))) (ga 6 (af 7)) bo) bo))
noncomputable def ye:FS :=
  (aG (tI [4,5] (f2 ixD (af 0) (af 2)))
  (aG (gIf (hU (tOf (f2 iGt (af 4) (af 1))) (tOf (f2 dJ (f2 ixD (af 5) (fC (.int 0))) (fA ba (ae (fC (.str "leave")) (ae (fC (.str "paper")) (ae (fC (.str "like")) (ae (fC (.str "copy")) aj)))))))) (bp (fA bB aj)) bo)
  (aG (aW 6 (fA bB aj))
  (aG (jb (dn (fA eZ (ae (af 0) aj))) (tgN 7) ko)
  (jM 6)))))
noncomputable def mD:List D->Option (D×Bool):=aY ye 4 5
noncomputable def wB:FS :=
  (aG (aW 10 (fA kj (ae (af 5) (ae (af 4) (ae (af 6) (ae (af 7) aj))))))
  (aG (gIf (hU (fZ (tOf (fA bU (ae (af 10) (ae (fC (.ty "list")) aj))))) (tOf (f2 dNe (af 10) (af 8)))) (bp (fC (.bl false))) bo)
  (aG (gIf (fZ (tOf (fA Cs (ae (cr (cK (af 10)) 1 [] (tgN 0) gV (ie (fA bU (ae (af 0) (ae (fC (.ty "int")) aj))) (vP (fA bU (ae (af 0) (ae (fC (.ty "bool")) aj)))))) aj)))) (bp (fC (.bl false))) bo)
  (ga 10 (fC (.int 0))))))
noncomputable def AW:FS :=
  (aG (aW 7 (f2 ixD (fA bB (ae (fC (.int 9999)) (ae (f2 eA (f2 bC (f2 c6 (fA bQ (ae (af 0) (ae (f2 bD (fC (.int 90)) (af 6)) aj))) (fC (.int 2))) (fC (.int 13))) (af 2)) aj))) (f2 bC (fA bQ (ae (af 0) (ae (f2 bD (fC (.int 90)) (af 6)) aj))) (fC (.int 2)))))
  (aG (aW 8 (fA mD (ae (af 3) (ae (af 4) (ae (af 6) (ae (af 7) aj))))))
  (jb (dn (fC (.int 2))) (tgN 9) wB)))
noncomputable def AX:FS :=
  (aG (aW 1 (fA iV (ae (fA bQ (ae (af 0) (ae (fC (.int 0)) aj))) aj)))
  (aG (aW 2 (f2 ixD (fA bB (ae (fC (.int 1)) (ae (fC (.int 1)) (ae (fC (.int 500)) aj)))) (f2 bC (fA bQ (ae (af 0) (ae (fC (.int 3)) aj))) (fC (.int 3)))))
  (aG (aW 3 (fA kn (ae (af 0) (ae (af 1) (ae (af 2) (ae (fC (.int 14)) aj))))))
  (aG (aW 4 (f2 ixD (fA bB (ae (fC (.int 9999)) (ae (f2 eA (f2 bC (f2 c6 (fA bQ (ae (af 0) (ae (fC (.int 3)) aj))) (fC (.int 3))) (fC (.int 13))) (af 2)) aj))) (f2 c6 (f2 bC (fA bQ (ae (af 0) (ae (fC (.int 4)) aj))) (fC (.int 3))) (fC (.int 2)))))
  (aG (aW 5 (fA eC (ae (fA fH (ae (af 3) aj)) aj)))
  (aG (jb (dn (fA eZ (ae (af 3) aj))) (tgN 6) AW)
  (bp (f2 dEq (af 5) (af 3)))))))))
noncomputable def F_law:List D->Option (D×Bool):=aY AX 1 10
end Lw
namespace DL
open PySem L2
theorem gQ:∀(n m:Nat) (d:D),n<=m->ak n d=true->ak m d=true
 | n,m,.non,_,_=>by simp
 | n,m,.bl _,_,_=>by simp
 | n,m,.int _,_,_=>by simp
 | n,m,.str _,_,_=>by simp
 | n,m,.ty _,_,h=>by cases n<;>simp[ak]at h
 | n,m,.dk _ _,_,h=>by simp at h
 | n,m,.dt _ _,_,h=>by simp at h
 | 0,m,.tup _,_,h=>by simp[ak]at h
 | 0,m,.lst _,_,h=>by simp[ak]at h
 | n+1,0,_,h,_=>by omega
 | n+1,m+1,.tup ds,hl,h=>by
  simp only[ak,List.all_eq_true]at h ⊢
  exact λd hd=>gQ n m d (by omega) (h d hd)
 | n+1,m+1,.lst ds,hl,h=>by
  simp only[ak,List.all_eq_true]at h ⊢
  exact λd hd=>gQ n m d (by omega) (h d hd)
theorem lw:∀(ds:List D),(∀d∈ds,eqD d d=true)->d7 ds ds=true
 | [],_=>by simp only[d7]
 | d::ds,h=>by
  simp only[d7,h d mX,Bool.true_and]
  exact lw ds λe he=>h e (mZ _ he)
theorem kq:∀(n:Nat) (d:D),ak n d=true->eqD d d=true
 | n,.non,_=>by simp
 | n,.bl _,_=>by simp
 | n,.int _,_=>by simp
 | n,.str _,_=>by simp
 | n,.ty _,h=>by cases n<;>simp[ak]at h
 | n,.dk _ _,h=>by simp at h
 | n,.dt _ _,h=>by simp at h
 | 0,.tup _,h=>by simp[ak]at h
 | 0,.lst _,h=>by simp[ak]at h
 | n+1,.tup ds,h=>by
  simp only[ak,List.all_eq_true]at h
  simp only[eqD]
  exact lw ds λd hd=>kq n d (h d hd)
 | n+1,.lst ds,h=>by
  simp only[ak,List.all_eq_true]at h
  simp only[eqD]
  exact lw ds λd hd=>kq n d (h d hd)
theorem AY {d:D}(h:ak 40 d=true):dEq d d=some (.bl true,false):=by unfold dEq;rw[if_pos ⟨h,h⟩,kq 40 d h]
theorem AZ {tg:FG}{g:FS}{d:D}{b:Bool}(I:Nat->Env->Prop) (ok:Nat->Bool) (ds:List D) (ρ0:Env) (h0:I 0 ρ0)
  (step:∀i x ρ,ds[i]? = some x->I i ρ->∃ρ1,tg x ρ=some ρ1/\((ok i=true/\∃ρ',g ρ1=some (.nx ρ')/\I (i+1) ρ')∨(ok i=false/\g ρ1=some (.rt d b)))) :
  ((∀i,i<ds.length->ok i=true)/\∃ρ',eK tg g ds ρ0=some (.nx ρ')/\I ds.length ρ')∨((∃i,i<ds.length/\ok i=false)/\eK tg g ds ρ0=some (.rt d b)):=by
 have key:∀(es:List D) (i:Nat) (ρ:Env),ds.drop i=es->i+es.length=ds.length->I i ρ ->
   ((∀j,i<=j->j<ds.length->ok j=true)/\∃ρ',eK tg g es ρ=some (.nx ρ')/\I ds.length ρ')∨((∃j,j<ds.length/\ok j=false)/\eK tg g es ρ=some (.rt d b)):=by
  intro es
  induction es with
  | nil =>
   intro i ρ e hl h
   refine .inl ⟨λj h1 h2=>?_,ρ,by rw[sQ],by rw[←hl];exact h⟩
   simp at hl;omega
  | cons x es ih =>
   intro i ρ e hl h
   have hd:ds[i]? = some x:=by
    have:(ds.drop i)[0]? = some x:=by rw[e];rfl
    rwa [List.getElem?_drop,Nat.add_zero]at this
   have he:ds.drop (i+1)=es:=by rw[←List.drop_drop,e];rfl
   have hi:i<ds.length:=(List.getElem?_eq_some_iff.mp hd).1
   obtain⟨ρ1,h1,⟨h2,ρ',h3,h4⟩|⟨h2,h3⟩⟩:=step i x ρ hd h
   ·rcases ih (i+1) ρ' he (by simp at hl;omega) h4 with ⟨a1,ρ2,a2,a3⟩|⟨a1,a2⟩
    ·refine .inl ⟨λj k1 k2=>?_,ρ2, ?_,a3⟩
     ·by_cases q:j=i
      ·rw[q];exact h2
      ·exact a1 j (by omega) k2
     ·rw[iK,h1];simp only[Option.bind_some,h3];exact a2
    ·exact .inr ⟨a1,by rw[iK,h1];simp only[Option.bind_some,h3];exact a2⟩
   ·exact .inr ⟨⟨i,hi,h2⟩,by rw[iK,h1];simp only[Option.bind_some,h3]⟩
 rcases key ds 0 ρ0 (by simp) (by simp) h0 with ⟨a1,a2⟩|a
 ·exact .inl ⟨λi hi=>a1 i (Nat.zero_le _) hi,a2⟩
 ·exact .inr a
end DL
namespace Lw
open PySem DL L2
theorem at0 (d:D) (r:List D):atI (d::r) 0=some d:=by have:=ir (xs:=d::r) (j:=0) (by simp);simpa using this
theorem at1 (d e:D) (r:List D):atI (d::e::r) 1=some e:=by have:=ir (xs:=d::e::r) (j:=1) (by simp);simpa using this
theorem at2 (d e f:D) (r:List D):atI (d::e::f::r) 2=some f:=by have:=ir (xs:=d::e::f::r) (j:=2) (by simp);simpa using this
def cw (k:Str):Bool:=decide (k=("death" : Str)) || decide (k=("lost" : Str)) || decide (k=("found" : Str))
def cP (k:Str):Bool:=decide (k=("chosen" : Str)) || decide (k=("heir" : Str)) || decide (k=("leave" : Str)) || decide (k=("paper" : Str)) || decide (k=("like" : Str)) || decide (k=("copy" : Str)) || decide (k=("call" : Str))
structure DeedP (kind:Str) (a9:List D):Prop where
 flat:bx a9=true
 plain:a9.all (ak 5)=true
 three:cw kind=true->∃(day:Int) (p:Str),a9=[.int day,.str p]
 slg:cP kind=true->∃(day:Int) (p:Str) (r:List D),a9=.int day::.str p::r
def row (h:Int) (kind:Str) (a9:List D):D:=.tup [.int h,.tup (.str kind::a9)]
def kx (r:D):Prop:=∃h kind a9,r=row h kind a9/\DeedP kind a9
theorem kx.flat {r:D}(h:kx r):bi r=true:=by obtain⟨a,k,a9,rfl,dp⟩:=h;simp[row,dp.flat]
theorem kx.plain {r:D}(h:kx r):ak 39 r=true:=by
 obtain⟨a,k,a9,rfl,dp⟩:=h
 refine gQ 7 39 _ (by decide) ?_
 have:=dp.plain
 simp only[row,ak,List.all_cons,List.all_nil,Bool.and_true,Bool.true_and]
 exact this
theorem cQ {ds:List D}(h:∀d∈ds,bi d=true):bx ds=true:=by
 induction ds with
 | nil=>rfl
 | cons d r ih=>simp[h d (by simp),ih λe he=>h e (by simp[he])]
theorem cR (zs:List Str):bx (zs.map D.str)=true:=by
 induction zs with
 | nil=>rfl
 | cons a l ih=>simp[ih]
theorem CN {rows:List D}(h:∀r∈rows,kx r):dEq (.tup rows) (.tup rows)=some (.bl true,false):=by
 refine AY ?_
 simp only[ak,List.all_eq_true]
 exact λr hr=>(h r hr).plain
def aZ:D->Int
 | .tup (.int h::_)=>h
 | _=>0
def kindOf:D->Str
 | .tup [_,.tup (.str k::_)]=>k
 | _=>("" : Str)
def aQ:D->Int
 | .tup [_,.tup (_::.int d::_)]=>d
 | _=>0
def qw (p:Str) (day:Int):List D->Bool
 | [.int d,.str q]=>decide (q=p) && decide (d<=day)
 | _=>false
def told (ws:List Str) (p:Str) (day:Int):D->Bool
 | .tup [_,.tup (.str kind::a9)]=>decide (kind∈ws) && qw p day a9
 | _=>false
theorem fL (h:Int) (kind:Str) (a9:List D):aD [row h kind a9]=some (.str kind,false):=aA rfl (aE (by simp[row,at1,at0]))
theorem iz {k:Str}(h:cw k=true):k=("death" : Str)∨k=("lost" : Str)∨k=("found" : Str):=by
 unfold cw at h
 simp only[Bool.or_eq_true,decide_eq_true_eq]at h
 rcases h with (h|h)|h
 ·exact .inl h
 ·exact .inr (.inl h)
 ·exact .inr (.inr h)
theorem jw {k:Str}(h:cP k=true):k=("chosen" : Str)∨k=("heir" : Str)∨k=("leave" : Str)∨k=("paper" : Str)∨k=("like" : Str)∨k=("copy" : Str)∨k=("call" : Str):=by
 unfold cP at h
 simp only[Bool.or_eq_true,decide_eq_true_eq]at h
 rcases h with (((((h|h)|h)|h)|h)|h)|h
 ·exact .inl h
 ·exact .inr (.inl h)
 ·exact .inr (.inr (.inl h))
 ·exact .inr (.inr (.inr (.inl h)))
 ·exact .inr (.inr (.inr (.inr (.inl h))))
 ·exact .inr (.inr (.inr (.inr (.inr (.inl h)))))
 ·exact .inr (.inr (.inr (.inr (.inr (.inr h)))))
theorem CO {k:Str}(h:cw k=true∨cP k=true):np eQ (.str k) (.str "day")=some (.int 0,false):=by
 rcases h with h|h
 ·rcases iz h with rfl|rfl|rfl<;>exact br (by decide +kernel)
 ·rcases jw h with rfl|rfl|rfl|rfl|rfl|rfl|rfl<;>exact br (by decide +kernel)
theorem wC {k:Str}(h:cw k=true):np eQ (.str k) (.str "person")=some (.int 1,false):=by
 rcases iz h with rfl|rfl|rfl<;>exact br (by decide +kernel)
theorem Ba {k:Str}(h:cw k=true∨cP k=true):dEq (.str k) (.str "root")=some (.bl false,false):=by
 rcases h with h|h
 ·rcases iz h with rfl|rfl|rfl<;>exact br (by decide +kernel)
 ·rcases jw h with rfl|rfl|rfl|rfl|rfl|rfl|rfl<;>exact br (by decide +kernel)
theorem bw {h:Int}{k:Str}{a9:List D}{part:Str}{i:Nat}{d:D}(hi:np eQ (.str k) (.str part)=some (.int i,false)) (hd:a9[i]? = some d):av [row h k a9,.str part]=some (d,false):=by
 refine aA rfl (aE ?_)
 refine aB (x:=.tup (.str k::a9)) (y:=.int (1+i)) (b1:=false) (b2:=false) (by simp[row,at1]) (aB (x:=.int 1) (y:=.int i) (b1:=false) (b2:=false) rfl (aB (x:=.str k) (y:=.str part) (b1:=false) (b2:=false) (ah (ds:=[row h k a9]) rfl (fL _ _ _)) rfl hi) (by simp)) ?_
 have hlt:i<a9.length:=(List.getElem?_eq_some_iff.mp hd).1
 have:atI (.str k::a9) (1+(i:Int))=some d:=by
  have:=ir (xs:=(.str k:D)::a9) (j:=i+1) (by simp;omega)
  rw[show(1+(i:Int))=((i+1:Nat):Int) by omega,this]
  simp only[List.getElem_cons_succ]
  rw[List.getElem?_eq_getElem hlt]at hd
  exact hd
 simp[this]
theorem gt {h:Int}{k:Str}{a9:List D}{d:Int}{r:List D}(hk:cw k=true∨cP k=true) (hr:a9=.int d::r):aP [row h k a9]=some (.int d,false):=by
 subst hr
 refine aA rfl (aM (aF (b:=false) (aB (x:=.str k) (y:=.str "root") (b1:=false) (b2:=false) (ah (ds:=[row h k (.int d::r)]) rfl (fL _ _ _)) rfl (Ba hk))) (aE (ah (ds:=[row h k (.int d::r),.str "day"]) rfl (bw (i:=0) (CO hk) rfl))))
theorem nW (k:Str) (ws:List Str):inD (.str k) (ws.map .str)=decide (k∈ws):=by
 induction ws with
 | nil=>simp[inD]
 | cons w ws ih =>
  have:inD (.str k) ((w::ws).map .str)=(eqD (.str w) (.str k) || inD (.str k) (ws.map .str)):=rfl
  rw[this,ih,lI]
  by_cases e:w=k
  ·simp[e]
  ·have e':¬k=w:=λz=>e z.symm
   simp[e,e']
theorem lx (ws:List Str):(ws.map D.str).all eP=true:=by
 induction ws with
 | nil=>rfl
 | cons w ws ih=>simp[eP]
theorem dB (k:Str) (ws:List Str):dIn (.str k) (.tup (ws.map .str))=some (.bl (decide (k∈ws)),false):=by
 simp only[dIn,fg,Option.bind_some,nW]
 rw[if_pos ⟨rfl,lx ws⟩]
theorem Bb {r:D}(hr:kx r) (ws:List Str) (hw:∀w∈ws,cw w=true) (p:Str) (day:Int):kh [r,.tup (ws.map .str),.str p,.int day]=some (.bl (told ws p day r),false):=by
 obtain⟨h,kind,a9,rfl,dp⟩:=hr
 have hin:f2 dIn (fA aD (ae (af 0) aj)) (af 1) [some (row h kind a9,false),some (.tup (ws.map .str),false),some (.str p,false),some (.int day,false)]=some (.bl (decide (kind∈ws)),false) :=
  aB (x:=.str kind) (y:=.tup (ws.map .str)) (b1:=false) (b2:=false) (ah (ds:=[row h kind a9]) rfl (fL _ _ _)) rfl (dB kind ws)
 have ht:told ws p day (row h kind a9)=(decide (kind∈ws) && qw p day a9):=rfl
 rw[ht]
 refine aA rfl (aE (fV (b1:=false) hin λhk=>?_))
 have h3:=hw kind (of_decide_eq_true hk)
 obtain⟨d,q,rfl⟩:=dp.three h3
 show ie _ _ _=some (.bl (decide (q=p) && decide (d<=day)),false)
 refine fV (b1:=false) ?_ λ_=>?_
 ·exact aB (x:=.str q) (y:=.str p) (b1:=false) (b2:=false) (ah (ds:=[row h kind [.int d,.str q],.str "person"]) rfl (bw (i:=1) (wC h3) rfl)) rfl (by simp)
 ·exact aB (x:=.int d) (y:=.int day) (b1:=false) (b2:=false) (ah (ds:=[row h kind [.int d,.str q]]) rfl (gt (.inl h3) rfl)) rfl (by simp)
theorem Bc (ds:List D):pR ds=ds.zipIdx.map λx=>.tup [.int x.2,x.1]:=by
 unfold pR
 apply List.ext_getElem?
 intro i
 simp[List.getElem?_mapIdx,List.getElem?_zipIdx]
 cases ds[i]?<;>simp
def aq (rows:List D) (known:Int):List (D×Nat):=rows.zipIdx.filter λx=>decide (aZ x.1<=known)
theorem ky (rows:List D) (hr:∀r∈rows,kx r) (hl:rows.length<=1000) (known:Int):bT [.tup rows,.int known]=some (.lst ((aq rows known).map λx=>.int x.2),true):=by
 have hc:=jg (fi:=A0 (af 0)) (nT:=2) (cap:=[1]) (tg:=tgT [0,1]) (c:=tOf (f2 dLe (f2 ixD (af 1) (fC (.int 0))) (af 2))) (fe:=af 0) (ρ:=[some (.tup rows,false),some (.int known,false)]) rows.zipIdx (λx=>.tup [.int x.2,x.1]) (λx=>decide (aZ x.1<=known)) (λx=>.int x.2)
  (by simp[Bc]) (by simp;omega) λx hx=>by
   obtain⟨h,kind,a9,e,_⟩:=hr x.1 (List.fst_mem_of_mem_zipIdx hx)
   refine⟨_,rfl,aF (b:=false) ?_,λ_=>⟨false,by simp[bV]⟩⟩
   simp[bV,e,row,at0,aZ]
 exact aA rfl (aE hc)
def m5 (rows:List D) (known:Int) (ws:List Str) (p:Str) (day:Int):List (D×Nat):=(aq rows known).filter λx=>told ws p day x.1
theorem yf {rows:List D}{known:Int}{ws:List Str}{p:Str}{day:Int}{x:D×Nat}(h:x∈m5 rows known ws p day):rows[x.2]? = some x.1/\told ws p day x.1=true:=by
 obtain⟨h1,h2⟩:=List.mem_filter.mp h
 exact⟨(List.mk_mem_zipIdx_iff_getElem? (x:=x.1) (i:=x.2)).mp (List.mem_filter.mp h1).1,h2⟩
theorem dR {rows:List D}{i:Nat}{r:D}(h:rows[i]? = some r):atI rows (i:Int)=some r:=by
 obtain⟨hlt,e⟩:=List.getElem?_eq_some_iff.mp h
 rw[ir hlt,e]
theorem CP (rows:List D) (known:Int) (ws:List Str) (p:Str) (day:Int):(m5 rows known ws p day).length<=rows.length:=by
 have h1:=List.length_filter_le (λx:D×Nat=>told ws p day x.1) (aq rows known)
 have h2:=List.length_filter_le (λx:D×Nat=>decide (aZ x.1<=known)) rows.zipIdx
 rw[List.length_zipIdx]at h2
 exact Nat.le_trans h1 h2
theorem rP (rows:List D) (hr:∀r∈rows,kx r) (hl:rows.length<=1000) (known:Int) (ws:List Str) (hw:∀w∈ws,cw w=true) (p:Str) (day:Int) :
  cW [.tup rows,.int known,.tup (ws.map .str),.str p,.int day]=some (.lst ((m5 rows known ws p day).map λx=>.int x.2),true):=by
 have hc:=jg (fi:=cK (fA bT (ae (af 0) (ae (af 1) aj)))) (nT:=1) (cap:=[2,3,4,0]) (tg:=tgN 0) (c:=tOf (fA kh (ae (f2 ixD (af 4) (af 0)) (ae (af 1) (ae (af 2) (ae (af 3) aj)))))) (fe:=af 0)
  (ρ:=[some (.tup rows,false),some (.int known,false),some (.tup (ws.map .str),false),some (.str p,false),some (.int day,false)]) (aq rows known) (λx=>.int x.2) (λx=>told ws p day x.1) (λx=>.int x.2)
  (by
   show(fA bT (ae (af 0) (ae (af 1) aj)) _).bind _=_
   rw[ah (ds:=[.tup rows,.int known]) rfl (ky rows hr hl known)]
   rfl) (by have:=List.length_filter_le (λx:D×Nat=>decide (aZ x.1<=known)) rows.zipIdx;rw[List.length_zipIdx]at this;exact Nat.le_trans this (by omega)) λx hx=>by
   have hg:rows[x.2]? = some x.1:=(List.mk_mem_zipIdx_iff_getElem? (x:=x.1) (i:=x.2)).mp (List.mem_filter.mp hx).1
   refine⟨_,rfl,aF (b:=false) (ah (ds:=[x.1,.tup (ws.map .str),.str p,.int day]) ?_ (Bb (hr _ (List.mem_of_getElem? hg)) ws hw p day)),λ_=>⟨false,by simp[bV]⟩⟩
   have ha:=dR hg
   simp[bV,ha]
 exact aA rfl (aE hc)
def kA (x:D×Nat):List At:=[.i (aQ x.1),.i x.2]
def gu (a b:D×Nat):Bool:=decide (aQ a.1<aQ b.1∨(aQ a.1=aQ b.1/\(a.2:Int)<b.2))
def eO:D×Nat->List (D×Nat)->D×Nat
 | b,[]=>b
 | b,x::r=>if gu b x=true then eO x r else eO b r
def DS:List (D×Nat)->Option (D×Nat)
 | []=>none
 | x::r=>some (eO x r)
theorem GU (a b c d:Int):bv [.i a,.i b] [.i c,.i d]=some (decide (a<c∨(a=c/\b<d))):=by
 rw[bv]
 by_cases h:a=c
 ·rw[if_pos h,bv]
  by_cases h2:b=d
  ·rw[if_pos h2,bv];simp[h,h2]
  ·rw[if_neg h2];simp[h]
 ·rw[if_neg h];simp[h]
theorem wD (a b:D×Nat):bv (kA a) (kA b)=some (gu a b):=GU _ _ _ _
theorem rQ (l:List (D×Nat)):eE (l.map kA)=true:=by
 unfold eE
 simp[List.all_eq_true,wD]
theorem ly:∀(r:List (D×Nat)) (b:D×Nat),jW (kA b,.int b.2) (r.map λx=>(kA x,D.int x.2))=.int (eO b r).2
 | [],b=>rfl
 | x::r,b=>by
  rw[List.map_cons,jW,eO]
  show(if bv (kA b) (kA x)=some true then _ else _)=_
  rw[wD]
  by_cases h:gu b x=true
  ·rw[if_pos h,if_pos (by rw[h])];exact ly r x
  ·rw[if_neg h,if_neg (by simpa using h)];exact ly r b
theorem nX:∀(r:List (D×Nat)) (b:D×Nat),eO b r∈b::r
 | [],b=>by simp[eO]
 | x::r,b=>by
  rw[eO]
  split
  ·exact mZ _ (nX r x)
  ·rcases List.mem_cons.mp (nX r b)with h|h
   ·rw[h];exact mX
   ·exact mZ _ (mZ _ h)
theorem gw {α:Type}{f:D->Option D}{g h:α->D}:∀(l:List α),(∀x∈l,f (g x)=some (h x))->hX f (l.map g)=some (l.map h)
 | [],_=>rfl
 | x::l,hx=>by
  rw[List.map_cons,hX,hx x mX,Option.bind_some,gw l λy hy=>hx y (mZ _ hy)]
  rfl
theorem eW {α:Type}{g:α->D}{h:α->List At}:∀(l:List α),(∀x∈l,tY (g x)=some (h x))->cY (l.map g)=some (l.map h)
 | [],_=>rfl
 | x::l,hx=>by
  rw[List.map_cons,cY,hx x mX,Option.bind_some,eW l λy hy=>hx y (mZ _ hy)]
  rfl
def k6:List Str:=[("lost" : Str),("found" : Str)]
theorem lS:∀w∈k6,cw w=true:=by
 intro w hw
 rcases List.mem_cons.mp hw with rfl|hw
 ·decide +kernel
 ·rcases List.mem_cons.mp hw with rfl|hw
  ·decide +kernel
  ·cases hw
def u5 (rows:List D) (known:Int) (p:Str) (day:Int):Bool:=match DS (m5 rows known k6 p day) with
 | none=>true
 | some b=>decide (kindOf b.1=("found" : Str))
theorem nY {ws:List Str}(hw:∀w∈ws,cw w=true) {p:Str}{day:Int}{r:D}(hr:kx r) (ht:told ws p day r=true):∃h k d,r=row h k [.int d,.str p]/\cw k=true/\k∈ws/\d<=day:=by
 obtain⟨h,kind,a9,rfl,dp⟩:=hr
 have ht':(decide (kind∈ws) && qw p day a9)=true:=ht
 rw[Bool.and_eq_true]at ht'
 have hm:=of_decide_eq_true ht'.1
 obtain⟨d,q,rfl⟩:=dp.three (hw _ hm)
 have hq:(decide (q=p) && decide (d<=day))=true:=ht'.2
 rw[Bool.and_eq_true]at hq
 have:=of_decide_eq_true hq.1
 subst this
 exact⟨h,kind,d,rfl,hw _ hm,hm,of_decide_eq_true hq.2⟩
theorem yg {rows:List D}{i:Nat}{h d:Int}{k p:Str}(hg:rows[i]? = some (row h k [.int d,.str p])) (h3:cw k=true):dq [.tup rows,.int i]=some (.tup [.int d,.int i],false):=by
 have ha:=dR hg
 refine aA rfl (aE (ah (ds:=[.int d,.int i]) (au (d:=.int d) (b:=false) (ah (ds:=[row h k [.int d,.str p]]) (by simp[ha]) (gt (.inl h3) rfl)) rfl) (by simp[sizeLine])))
theorem CQ (rows:List D) (hr:∀r∈rows,kx r) (hl:rows.length<=1000) (known:Int) (p:Str) (day:Int):gJ [.tup rows,.int known,.str p,.int day]=some (.bl (u5 rows known p day),false):=by
 have ht:=rP rows hr hl known k6 lS p day
 have hsl:=CP rows known k6 p day
 have key:∀x∈m5 rows known k6 p day,∃h k d,rows[x.2]? = some (row h k [.int d,.str p])/\x.1=row h k [.int d,.str p]/\cw k=true:=λx hx=>by
  obtain⟨hg,htl⟩:=yf hx
  obtain⟨h,k,d,e,h3,_⟩:=nY lS (hr _ (List.mem_of_getElem? hg)) htl
  exact⟨h,k,d,by rw[hg,e],e,h3⟩
 unfold u5
 generalize hsel:m5 rows known k6 p day=sel at ht key hsl ⊢
 have hset:fA cW (ae (af 0) (ae (af 1) (ae (fA ba (ae (fC (.str "lost")) (ae (fC (.str "found")) aj))) (ae (af 2) (ae (af 3) aj))))) [some (.tup rows,false),some (.int known,false),some (.str p,false),some (.int day,false),none]=some (.lst (sel.map λx=>.int x.2),true) :=
  ah (ds:=[.tup rows,.int known,.tup (k6.map .str),.str p,.int day]) (by simp[k6,sizeLine]) ht
 have hnl:bx (sel.map λx=>D.int x.2)=true:=cQ λd hd=>by obtain⟨x,_,rfl⟩:=List.mem_map.mp hd;rfl
 cases sel with
 | nil=>exact aA rfl (cy hset hnl (bF (aF (b:=false) (by simp)) (aE rfl)))
 | cons x r =>
  refine aA rfl (cy hset hnl (aM (aF (b:=false) (by simp;omega)) (aE ?_)))
  obtain⟨h,k,d,hg,e,h3⟩:=key (eO x r) (nX r x)
  have hb:kindOf (eO x r).1=k:=by rw[e];rfl
  show _=some (D.bl (decide (kindOf (eO x r).1=("found" : Str))),false)
  rw[hb]
  refine aB (x:=.str k) (y:=.str "found") (b1:=false) (b2:=false) (ah (ds:=[row h k [.int d,.str p]]) (au (d:=row h k [.int d,.str p]) (b:=false) (aB (x:=.tup rows) (y:=.int (eO x r).2) (b1:=false) (b2:=false) rfl ?_ (by simp[dR hg])) rfl) (fL _ _ _)) rfl (by simp)
  have hm:∀ρ:DL.Env,ρ[0]? = some (some (.tup rows,false))->hX (ug [0] (fA dq (ae (af 1) (ae (af 0) aj))) ρ) ((x::r).map λx=>D.int x.2)=some ((x::r).map λx=>.tup [.int (aQ x.1),.int x.2]):=λρ h0 =>
   gw (x::r) λy hy=>by
    obtain⟨h,k,d,hg,e,h3⟩:=key y hy
    have hd:aQ y.1=d:=by rw[e];rfl
    rw[hd]
    show(fA dq _ _).map _=_
    rw[ah (ds:=[.tup rows,.int y.2]) (by simp[bV,h0]) (yg hg h3)]
    rfl
  have hk:cY ((x::r).map λx=>D.tup [.int (aQ x.1),.int x.2])=some ((x::r).map kA):=eW (x::r) λy _=>rfl
  have hz:((x::r).map kA).zip ((x::r).map λx=>D.int x.2)=(kA x,.int x.2)::r.map λx=>(kA x,D.int x.2):=by
   rw[List.zip_map']
   rfl
  show(qi (af 4) _ _)=_
  unfold qi fKK
  show((some (D.lst ((x::r).map λx=>D.int x.2),false)).bind _)=_
  simp only[Option.bind_some]
  rw[hm _ rfl]
  simp only[Option.bind_some]
  rw[hk]
  simp only[Option.bind_some]
  rw[if_pos (rQ _),hz]
  simp only[ly]
def cS:List Str:=[("death" : Str)]
theorem gR:∀w∈cS,cw w=true:=by
 intro w hw
 rcases List.mem_cons.mp hw with rfl|hw
 ·decide +kernel
 ·cases hw
def lz (rows:List D) (known:Int) (p:Str) (day:Int):Bool:=(m5 rows known cS p day).isEmpty
theorem u6 (rows:List D) (hr:∀r∈rows,kx r) (hl:rows.length<=1000) (known:Int) (p:Str) (day:Int):gI [.tup rows,.int known,.str p,.int day]=some (.bl (lz rows known p day),false):=by
 have ht:=rP rows hr hl known cS gR p day
 unfold lz
 generalize m5 rows known cS p day=sel at ht ⊢
 refine aA rfl (aE (aB (x:=.int ((sel.map λx=>D.int x.2).length:Nat)) (y:=.int 0) (b1:=false) (b2:=false) ?_ rfl ?_))
 ·exact ah (ds:=[.lst (sel.map λx=>.int x.2)]) (au (d:=.lst (sel.map λx=>.int x.2)) (b:=true) (ah (ds:=[.tup rows,.int known,.tup (cS.map .str),.str p,.int day]) (by simp[sizeLine,cS]) ht) rfl) CM
 ·rw[xU]
  cases sel<;>simp
  omega
def eG:D->Str
 | .tup [_,.tup (_::_::.str p::_)]=>p
 | _=>("" : Str)
def uA:List Str:=[("chosen" : Str),("heir" : Str),("leave" : Str),("paper" : Str),("like" : Str),("copy" : Str),("call" : Str)]
theorem nZ (k:Str):cP k=decide (k∈uA):=by
 unfold cP uA
 simp[List.mem_cons,Bool.or_assoc]
theorem wE:dO=.tup (uA.map .str):=rfl
theorem i6 (k:Str) (ws:List Str):dJ (.str k) (.tup (ws.map .str))=some (.bl (!decide (k∈ws)),false):=by
 simp only[dJ,fg,Option.bind_some,nW]
 rw[if_pos ⟨rfl,lx ws⟩]
theorem Bd {k:Str}(h:cP k=true):np eQ (.str k) (.str "by")=some (.int 1,false):=by
 rcases jw h with rfl|rfl|rfl|rfl|rfl|rfl|rfl<;>exact br (by decide +kernel)
def i7 (rows:List D) (known:Int) (r:D):Bool:=(decide (aZ r<=known) && cP (kindOf r)) && (lz rows known (eG r) (aQ r) && u5 rows known (eG r) (aQ r))
theorem uB {rows:List D}{i:Nat}{h:Int}{kind:Str}{a9:List D}(hg:rows[i]? = some (row h kind a9)) (known:Int):cn [.tup rows,.int known,.int i]=some (.bl (decide (h<=known)),false):=by
 have hlt:i<rows.length:=(List.getElem?_eq_some_iff.mp hg).1
 have ha:=dR hg
 refine aA rfl (aE ?_)
 have:=fV (f1:=kZ dLe dLt (fC (.int 0)) (af 2) (fA eZ (ae (af 0) aj))) (f2:=f2 dLe (f2 ixD (f2 ixD (af 0) (af 2)) (fC (.int 0))) (af 1)) (ρ:=[some (.tup rows,false),some (.int known,false),some (.int i,false)]) (p:=true) (q:=decide (h<=known)) (b1:=false)
  (by
   refine(AT (x:=.int 0) (y:=.int i) (z:=.int rows.length) (b1:=false) (b2:=false) (b3:=false) (b4:=false) (p:=true) (q:=true) rfl rfl (by simp) (by simp) λ_=>?_).trans rfl
   simp;omega) λ_=>by simp[ha,row,at0]
 exact this
theorem oe (rows:List D) (hr:∀r∈rows,kx r) (hl:rows.length<=1000) (known:Int) {i:Nat}{r:D}(hg:rows[i]? = some r):cq [.tup rows,.int known,.int i]=some (.bl (i7 rows known r),false):=by
 obtain⟨h,kind,a9,rfl,dp⟩:=hr r (List.mem_of_getElem? hg)
 have hk:=uB hg known
 have ha:=dR hg
 have hword:∀(ρ:DL.Env),f2 ixD (af 0) (af 2) ρ=some (row h kind a9,false)->fA aD (ae (f2 ixD (af 0) (af 2)) aj) ρ=some (.str kind,false):=λρ e=>ah (ds:=[row h kind a9]) (au e rfl) (fL _ _ _)
 have hrow:f2 ixD (af 0) (af 2) [some (.tup rows,false),some (.int known,false),some (.int i,false),none,none]=some (row h kind a9,false):=by simp[ha]
 have hc:(hU (fZ (tOf (fA cn (ae (af 0) (ae (af 1) (ae (af 2) aj)))))) (tOf (f2 dJ (fA aD (ae (f2 ixD (af 0) (af 2)) aj)) (fC dO)))) [some (.tup rows,false),some (.int known,false),some (.int i,false),none,none]=some (!decide (h<=known) || !cP kind):=by
  refine cA (gH (aF (b:=false) (ah (ds:=[.tup rows,.int known,.int i]) rfl hk))) λ_=>aF (b:=false) (aB (x:=.str kind) (y:=dO) (b1:=false) (b2:=false) (hword _ hrow) rfl ?_)
  rw[wE,nZ]
  exact i6 kind uA
 have hs:i7 rows known (row h kind a9)=((decide (h<=known) && cP kind) && (lz rows known (eG (row h kind a9)) (aQ (row h kind a9)) && u5 rows known (eG (row h kind a9)) (aQ (row h kind a9)))):=rfl
 cases hb:(decide (h<=known) && cP kind) with
 | false =>
  rw[hs,hb]
  refine aA rfl (bF (hc.trans ?_) (aE rfl))
  rw[←Bool.not_and,hb];rfl
 | true =>
  rw[hs,hb]
  rw[Bool.and_eq_true]at hb
  obtain⟨day,p,r',rfl⟩:=dp.slg hb.2
  show _=some (D.bl (true && (lz rows known p day && u5 rows known p day)),false)
  rw[Bool.true_and]
  refine aA rfl (aM (hc.trans (by rw[hb.1,hb.2];rfl)) (aO (d:=.str p) (b:=false) (ah (ds:=[row h kind (.int day::.str p::r'),.str "by"]) (au hrow rfl) (bw (i:=1) (Bd hb.2) rfl)) rfl (aO (d:=.int day) (b:=false) (ah (ds:=[row h kind (.int day::.str p::r')]) (au (d:=row h kind (.int day::.str p::r')) (b:=false) (by simp[ha]) rfl) (gt (.inr hb.2) rfl)) rfl (aE ?_))))
  exact fV (b1:=false) (ah (ds:=[.tup rows,.int known,.str p,.int day]) (by simp) (u6 rows hr hl known p day)) λ_=>ah (ds:=[.tup rows,.int known,.str p,.int day]) (by simp) (CQ rows hr hl known p day)
inductive Cd:Str->List D->Prop
 | root (o r:Str) (m f:Int):Cd ("root" : Str) [.str o,.int m,.int f,.str r]
 | named (d:Int) (o p:Str):Cd ("named" : Str) [.int d,.str o,.str p]
 | chosen (d:Int) (b o p:Str) (s:Int):Cd ("chosen" : Str) [.int d,.str b,.str o,.str p,.int s]
 | heir (d:Int) (b o p:Str):Cd ("heir" : Str) [.int d,.str b,.str o,.str p]
 | three (k:Str) (hk:k=("death" : Str)∨k=("lost" : Str)∨k=("found" : Str)) (d:Int) (p:Str):Cd k [.int d,.str p]
 | other (k:Str) (hk:k=("leave" : Str)∨k=("paper" : Str)∨k=("like" : Str)∨k=("copy" : Str)∨k=("call" : Str)) (d:Int) (b:Str) (r:List D) (hf:bx r=true) (hp:r.all (ak 5)=true):Cd k (.int d::.str b::r)
theorem Cd.deed {k:Str}{r:List D}(h:Cd k r):DeedP k r:=by
 cases h with
 | root o rl m f=>exact⟨rfl,by simp,λh=>absurd h (by decide +kernel),λh=>absurd h (by decide +kernel)⟩
 | named d o p=>exact⟨rfl,by simp,λh=>absurd h (by decide +kernel),λh=>absurd h (by decide +kernel)⟩
 | chosen d b o p s=>exact⟨rfl,by simp,λh=>absurd h (by decide +kernel),λ_=>⟨d,b,_,rfl⟩⟩
 | heir d b o p=>exact⟨rfl,by simp,λh=>absurd h (by decide +kernel),λ_=>⟨d,b,_,rfl⟩⟩
 | three k hk d p=>exact⟨rfl,by simp,λ_=>⟨d,p,rfl⟩,λh=>by rcases hk with rfl|rfl|rfl<;>exact absurd h (by decide +kernel)⟩
 | other k hk d b r hf hp=>exact⟨by simp[hf],by simp only[List.all_cons,hp,ak,Bool.and_true],λh=>by rcases hk with rfl|rfl|rfl|rfl|rfl<;>exact absurd h (by decide +kernel),λ_=>⟨d,b,r,rfl⟩⟩
def rR (r:D):Prop:=∃h k a9,r=row h k a9/\Cd k a9
theorem rR.rp {r:D}(h:rR r):kx r:=by obtain⟨a,k,a9,rfl,d⟩:=h;exact⟨a,k,a9,rfl,d.deed⟩
def bf (r:D):Bool:=decide (kindOf r=("root" : Str))
theorem Cd.day {k:Str}{r:List D}(h:Cd k r) (hk:k≠("root" : Str)):∃d q,r=.int d::q:=by
 cases h with
 | root=>exact absurd rfl hk
 | named d=>exact⟨d,_,rfl⟩
 | chosen d=>exact⟨d,_,rfl⟩
 | heir d=>exact⟨d,_,rfl⟩
 | three _ _ d=>exact⟨d,_,rfl⟩
 | other _ _ d=>exact⟨d,_,rfl⟩
theorem Cd.day_idx {k:Str}{r:List D}(h:Cd k r) (hk:k≠("root" : Str)):np eQ (.str k) (.str "day")=some (.int 0,false):=by
 cases h with
 | root=>exact absurd rfl hk
 | named=>exact br (by decide +kernel)
 | chosen=>exact br (by decide +kernel)
 | heir=>exact br (by decide +kernel)
 | three _ hh=>rcases hh with rfl|rfl|rfl<;>exact br (by decide +kernel)
 | other _ hh=>rcases hh with rfl|rfl|rfl|rfl|rfl<;>exact br (by decide +kernel)
theorem aK {f:FE}{ρ:DL.Env}{a b:Str}{x:Bool}{bb:Bool}(e:f ρ=some (.str a,bb)) (h:decide (a=b)=x):tOf (f2 dEq f (fC (.str b))) ρ=some x:=aF (b:=false) (aB (x:=.str a) (y:=.str b) (b1:=bb) (b2:=false) e rfl (by rw[←h];simp))
def rS (r:D):D:=if bf r=true then .non else .int (aQ r)
theorem l5 {r:D}(g:rR r):aD [r]=some (.str (kindOf r),false):=by
 obtain⟨h,k,a9,rfl,_⟩:=g
 exact fL h k a9
theorem qx {r:D}(g:rR r):aP [r]=some (rS r,false):=by
 obtain⟨h,k,a9,rfl,d⟩:=g
 unfold rS
 by_cases hk:k=("root" : Str)
 ·have:bf (row h k a9)=true:=decide_eq_true hk
  rw[if_pos this]
  exact aA rfl (bF (aK (a:=k) (bb:=false) (ah (ds:=[row h k a9]) rfl (fL _ _ _)) (decide_eq_true hk)) (aE rfl))
 ·have:bf (row h k a9)=false:=decide_eq_false hk
  rw[if_neg (by rw[this];decide)]
  obtain⟨dd,q,rfl⟩:=d.day hk
  exact aA rfl (aM (aK (a:=k) (bb:=false) (ah (ds:=[row h k (.int dd::q)]) rfl (fL _ _ _)) (decide_eq_false hk)) (aE (ah (ds:=[row h k (.int dd::q),.str "day"]) rfl (bw (i:=0) (d.day_idx hk) rfl))))
def eI (rows:List D):Prop:=rows.length<=60/\∀r∈rows,rR r
theorem eI.rp {rows:List D}(g:eI rows):∀r∈rows,kx r:=λr hr=>(g.2 r hr).rp
theorem eI.le {rows:List D}(g:eI rows):rows.length<=1000:=Nat.le_trans g.1 (by decide)
theorem cB {rows:List D}{known:Int}{x:D×Nat}(h:x∈aq rows known):rows[x.2]? = some x.1:=by
 obtain⟨h1,_⟩:=List.mem_filter.mp h
 exact List.mem_zipIdx_iff_getElem?.mp h1
theorem dS (rows:List D) (known:Int):(aq rows known).length<=rows.length:=by
 have:=List.length_filter_le (λx:D×Nat=>decide (aZ x.1<=known)) rows.zipIdx
 rw[List.length_zipIdx]at this
 exact this
theorem k7 (rows:List D) (known:Int):((aq rows known).map (·.2)).Nodup:=by
 have h1:(rows.zipIdx.map (·.2)).Nodup:=by rw[List.zipIdx_map_snd];exact List.nodup_range'
 exact List.Nodup.sublist (List.Sublist.map _ (List.filter_sublist)) h1
def cz (rows:List D) (known:Int):List (D×Nat):=(aq rows known).filter λx=>!bf x.1
def GV (rows:List D) (known:Int):List (D×Nat):=gY (λx=>cJ (kA x)) (cz rows known)
theorem Be {a b:D×Nat}(h:cJ (kA a)=cJ (kA b)):a.2=b.2:=by
 have h:[aQ a.1,(a.2:Int)]=[aQ b.1,(b.2:Int)]:=h
 injection h with _ h
 injection h with h
 omega
theorem CS {rows:List D}{known:Int}{a b:D×Nat}(ha:a∈aq rows known) (hb:b∈aq rows known) (h:a.2=b.2):a=b:=by
 have h1:=cB ha
 have h2:=cB hb
 rw[h,h2]at h1
 exact Prod.ext (Option.some.inj h1).symm h
theorem uC {rows:List D}(g:eI rows) (known:Int):dP [.tup rows,.int known]=some (.lst ((GV rows known).map λx=>.int x.2),true):=by
 have hl:=g.1
 have hll:=dS rows known
 have hrow:∀x∈aq rows known,atI rows (x.2:Int)=some x.1/\rR x.1:=λx hx=>⟨dR (cB hx),g.2 _ (List.mem_of_getElem? (cB hx))⟩
 have hc:=jg (fi:=cK (fA bT (ae (af 0) (ae (af 1) aj)))) (nT:=1) (cap:=[0]) (tg:=tgN 0) (c:=tOf (f2 lf (fA aP (ae (f2 ixD (af 1) (af 0)) aj)) (fC .non))) (fe:=af 0) (ρ:=[some (.tup rows,false),some (.int known,false),none]) (aq rows known) (λx=>.int x.2) (λx=>!bf x.1) (λx=>.int x.2)
  (by
   show(fA bT (ae (af 0) (ae (af 1) aj)) _).bind _=_
   rw[ah (ds:=[.tup rows,.int known]) rfl (ky rows g.rp g.le known)]
   rfl) (by omega) λx hx=>by
   obtain⟨ha,gx⟩:=hrow x hx
   refine⟨_,rfl,aF (b:=false) (aB (x:=rS x.1) (y:=.non) (b1:=false) (b2:=false) (ah (ds:=[x.1]) (by simp[bV,ha]) (qx gx)) rfl ?_),λ_=>⟨false,by simp[bV]⟩⟩
   unfold rS
   cases bf x.1<;>simp[yJ]
 have hc':cr (cK (fA bT (ae (af 0) (ae (af 1) aj)))) 1 [0] (tgN 0) (tOf (f2 lf (fA aP (ae (f2 ixD (af 1) (af 0)) aj)) (fC .non))) (af 0) [some (.tup rows,false),some (.int known,false),none]=some (.lst ((cz rows known).map λx=>.int x.2),true):=hc
 have hfl:bx ((cz rows known).map λx=>D.int x.2)=true:=cQ λd hd=>by obtain⟨x,_,rfl⟩:=List.mem_map.mp hd;rfl
 have hdl:(cz rows known).length<=60:=Nat.le_trans (List.length_filter_le _ _) (by omega)
 have hmem:∀x∈cz rows known,x∈aq rows known/\bf x.1=false:=λx hx=>by
  obtain⟨h1,h2⟩:=List.mem_filter.mp hx
  exact⟨h1,by simpa using h2⟩
 have hm:∀ρ:DL.Env,ρ[0]? = some (some (.tup rows,false))->hX (ug [0] (fA dq (ae (af 1) (ae (af 0) aj))) ρ) ((cz rows known).map λx=>.int x.2)=some ((cz rows known).map λx=>.tup [.int (aQ x.1),.int x.2]):=λρ h0 =>
  gw (cz rows known) λx hx=>by
   obtain⟨h1,h2⟩:=hmem x hx
   obtain⟨ha,gx⟩:=hrow x h1
   have hd:=qx gx
   unfold rS at hd
   rw[h2,if_neg (by decide)]at hd
   have hr:dq [.tup rows,.int x.2]=some (.tup [.int (aQ x.1),.int x.2],false):=aA rfl (aE (ah (ds:=[.int (aQ x.1),.int x.2]) (au (d:=.int (aQ x.1)) (b:=false) (ah (ds:=[x.1]) (by simp[ha]) hd) rfl) (by simp[sizeLine])))
   show(fA dq _ _).map _=_
   rw[ah (ds:=[.tup rows,.int x.2]) (by simp[bV,h0]) hr]
   rfl
 have hk:cY ((cz rows known).map λx=>D.tup [.int (aQ x.1),.int x.2])=some ((cz rows known).map kA):=eW _ λx _=>rfl
 have hz:((cz rows known).map kA).zip ((cz rows known).map λx=>D.int x.2)=(cz rows known).map λx=>(kA x,D.int x.2):=by rw[List.zip_map']
 have hnd:((cz rows known).map (·.2)).Nodup:=List.Nodup.sublist (List.Sublist.map _ (List.filter_sublist)) (k7 rows known)
 have hcond:((cz rows known).map kA).length<64/\eE ((cz rows known).map kA)=true/\d9 ((cz rows known).map kA)=true/\(((cz rows known).map kA).map cJ).Nodup:=by
  refine⟨by rw[List.length_map];omega,rQ _, ?_, ?_⟩
  ·unfold d9
   rw[Bool.or_eq_true]
   left
   simp[List.all_eq_true,kA]
  ·rw[List.map_map]
   exact List.Pairwise.map _ (λa b h e=>h (Be e)) (List.pairwise_map.mp hnd)
 refine aA rfl (cy hc' hfl (aE ?_))
 show(lr (af 2) _ _)=_
 unfold lr
 show((some (D.lst ((cz rows known).map λx=>D.int x.2),false)).bind _)=_
 simp only[Option.bind_some]
 rw[hm _ rfl]
 simp only[Option.bind_some]
 rw[hk]
 simp only[Option.bind_some]
 rw[if_pos hcond]
 unfold iq
 rw[hz]
 have key:((GV rows known).map λx=>(kA x,D.int x.2))=gY (λp:List At×D=>cJ p.1) ((cz rows known).map λx=>(kA x,D.int x.2)):=by
  refine nj _ (λx hx y hy e=>?_) ((cM _ _).map _) ?_
  ·obtain⟨a,ha,rfl⟩:=List.mem_map.mp hx
   obtain⟨b,hb,rfl⟩:=List.mem_map.mp hy
   rw[CS (hmem a ha).1 (hmem b hb).1 (Be e)]
  ·exact List.pairwise_map.mpr (gF _ _)
 rw[←key,List.map_map]
 rfl
structure Cl where
 o:Str
 p:Str
 s:Int
 u:Option Int
 n:Nat
def uD:Option Int->D
 | none=>.non
 | some x=>.int x
def clD (c:Cl):D:=.tup [.str c.o,.str c.p,.int c.s,uD c.u,.int c.n]
theorem CT (u:Option Int):bi (uD u)=true:=by cases u<;>rfl
theorem k8 (c:Cl):bi (clD c)=true:=by simp[clD,CT]
theorem gy (cs:List Cl):bx (cs.map clD)=true:=cQ λd hd=>by obtain⟨c,_,rfl⟩:=List.mem_map.mp hd;exact k8 c
def fz (c:Cl) (day:Int):Bool:=decide (c.s<=day) && (match c.u with|none=>true|some x=>decide (day<x))
theorem at3 (d e f g:D) (r:List D):atI (d::e::f::g::r) 3=some g:=by have:=ir (xs:=d::e::f::g::r) (j:=3) (by simp);simpa using this
theorem at4 (d e f g h:D) (r:List D):atI (d::e::f::g::h::r) 4=some h:=by have:=ir (xs:=d::e::f::g::h::r) (j:=4) (by simp);simpa using this
theorem cl0 (c:Cl):ixD (clD c) (.int 0)=some (.str c.o,false):=by simp[clD,at0]
theorem cl1 (c:Cl):ixD (clD c) (.int 1)=some (.str c.p,false):=by simp[clD,at1]
theorem cl2 (c:Cl):ixD (clD c) (.int 2)=some (.int c.s,false):=by simp[clD,at2]
theorem cl3 (c:Cl):ixD (clD c) (.int 3)=some (uD c.u,false):=by simp[clD,at3]
theorem cl4 (c:Cl):ixD (clD c) (.int 4)=some (.int c.n,false):=by simp[clD,at4]
theorem dC (ds:List D) (h:ds.length<=100):ba ds=some (.tup ds,false):=if_pos (cN (by omega))
theorem f6 (ds:List D) (h:ds.length<=100):bB ds=some (.lst ds,true):=if_pos (cN (by omega))
theorem CU (s day:Int) (u:Option Int):iS [.int day,.tup [.int s,uD u]]=some (.bl (decide (s<=day) && (match u with|none=>true|some x=>decide (day<x))),false):=by
 refine aA rfl (aE (fV (b1:=false) (by simp[at0]) λ_=>?_))
 cases u with
 | none=>exact AU (p:=true) (q:=true) (b1:=false) (by simp[at1,uD]) (by simp)
 | some x=>exact AU (p:=false) (q:=decide (day<x)) (b1:=false) (by simp[at1,uD]) λ_=>by simp[at1,uD]
theorem oh (c:Cl) (day:Int):bJ [clD c,.int day]=some (.bl (fz c day),false) :=
 aA rfl (aE (ah (ds:=[.int day,.tup [.int c.s,uD c.u]]) (au (b:=false) rfl (au (b:=false) (ah (ds:=[.int c.s,uD c.u]) (au (aB (x:=clD c) (y:=.int 2) (b1:=false) (b2:=false) rfl rfl (cl2 c)) (au (aB (x:=clD c) (y:=.int 3) (b1:=false) (b2:=false) rfl rfl (cl3 c)) rfl)) (dC _ (by simp))) rfl)) (CU c.s day c.u)))
theorem uE (c:Cl):bX [clD c]=some (.tup [.int c.s,.int c.n],false) :=
 aA rfl (aE (ah (ds:=[.int c.s,.int c.n]) (au (aB (x:=clD c) (y:=.int 2) (b1:=false) (b2:=false) rfl rfl (cl2 c)) (au (aB (x:=clD c) (y:=.int 4) (b1:=false) (b2:=false) rfl rfl (cl4 c)) rfl)) (dC _ (by simp))))
theorem rT (c:Cl):dr [clD c]=some (.tup [.str c.o,.int c.s,.int c.n],false) :=
 aA rfl (aE (ah (ds:=[.str c.o,.int c.s,.int c.n]) (au (aB (x:=clD c) (y:=.int 0) (b1:=false) (b2:=false) rfl rfl (cl0 c)) (au (aB (x:=clD c) (y:=.int 2) (b1:=false) (b2:=false) rfl rfl (cl2 c)) (au (aB (x:=clD c) (y:=.int 4) (b1:=false) (b2:=false) rfl rfl (cl4 c)) rfl))) (dC _ (by simp))))
def kS (c:Cl):List At:=[.i c.s,.i c.n]
def k9:Cl->List Cl->Cl
 | b,[]=>b
 | b,x::r=>if bv (kS x) (kS b)=some true then k9 x r else k9 b r
def p4:Cl->List Cl->Cl
 | b,[]=>b
 | b,x::r=>if bv (kS b) (kS x)=some true then p4 x r else p4 b r
theorem oi:∀(r:List Cl) (b:Cl),jf (kS b,clD b) (r.map λx=>(kS x,clD x))=clD (k9 b r)
 | [],b=>rfl
 | x::r,b=>by
  rw[List.map_cons,jf,k9]
  split
  ·exact oi r x
  ·exact oi r b
theorem oj:∀(r:List Cl) (b:Cl),jW (kS b,clD b) (r.map λx=>(kS x,clD x))=clD (p4 b r)
 | [],b=>rfl
 | x::r,b=>by
  rw[List.map_cons,jW,p4]
  split
  ·exact oj r x
  ·exact oj r b
theorem yh (cs:List Cl):eE (cs.map kS)=true:=by
 unfold eE
 simp[List.all_eq_true,kS,GU]
theorem om (ρ:DL.Env) (cs:List Cl):hX (pz bX ρ) (cs.map clD)=some (cs.map λc=>.tup [.int c.s,.int c.n]):=gw cs λc _=>by
 show(bX [clD c]).map _=_
 rw[uE]
 rfl
theorem lT (cs:List Cl):cY (cs.map λc=>D.tup [.int c.s,.int c.n])=some (cs.map kS):=eW cs λc _=>rfl
theorem Bf {f:FE}{ρ:DL.Env}{b:Cl}{r:List Cl}{bb:Bool}(e:f ρ=some (.lst ((b::r).map clD),bb)):qj f (pz bX) ρ=some (clD (k9 b r),false):=by
 unfold qj fKK
 rw[e,Option.bind_some]
 dsimp only
 rw[om,Option.bind_some,lT,Option.bind_some,if_pos (yh _)]
 have:((b::r).map kS).zip ((b::r).map clD)=(kS b,clD b)::r.map λx=>(kS x,clD x):=by rw[List.zip_map'];rfl
 rw[this]
 show some (jf _ _,false)=_
 rw[oi]
theorem Fu {f:FE}{ρ:DL.Env}{b:Cl}{r:List Cl}{bb:Bool}(e:f ρ=some (.lst ((b::r).map clD),bb)):qi f (pz bX) ρ=some (clD (p4 b r),false):=by
 unfold qi fKK
 rw[e,Option.bind_some]
 dsimp only
 rw[om,Option.bind_some,lT,Option.bind_some,if_pos (yh _)]
 have:((b::r).map kS).zip ((b::r).map clD)=(kS b,clD b)::r.map λx=>(kS x,clD x):=by rw[List.zip_map'];rfl
 rw[this]
 show some (jW _ _,false)=_
 rw[oj]
def gS (rl:Str) (b:Cl) (r:List Cl):Cl:=if rl=("last" : Str)then p4 b r else k9 b r
theorem Bg (rl:Str) (b:Cl) (r:List Cl):gK [.lst ((b::r).map clD),.str rl]=some (.str (gS rl b r).p,false):=by
 unfold gS
 by_cases h:rl=("last" : Str)
 ·rw[if_pos h]
  exact aA rfl (bF (aK (a:=rl) (bb:=false) rfl (decide_eq_true h)) (aE (aB (x:=clD (p4 b r)) (y:=.int 1) (b1:=false) (b2:=false) (Fu (bb:=false) rfl) rfl (cl1 _))))
 ·rw[if_neg h]
  exact aA rfl (aM (aK (a:=rl) (bb:=false) rfl (decide_eq_false h)) (aE (aB (x:=clD (k9 b r)) (y:=.int 1) (b1:=false) (b2:=false) (Bf (bb:=false) rfl) rfl (cl1 _))))
theorem oq:∀(r:List Cl) (b:Cl),k9 b r∈b::r
 | [],b=>by simp[k9]
 | x::r,b=>by
  rw[k9]
  split
  ·exact mZ _ (oq r x)
  ·rcases List.mem_cons.mp (oq r b)with h|h
   ·rw[h];exact mX
   ·exact mZ _ (mZ _ h)
theorem ot:∀(r:List Cl) (b:Cl),p4 b r∈b::r
 | [],b=>by simp[p4]
 | x::r,b=>by
  rw[p4]
  split
  ·exact mZ _ (ot r x)
  ·rcases List.mem_cons.mp (ot r b)with h|h
   ·rw[h];exact mX
   ·exact mZ _ (mZ _ h)
theorem ze (rl:Str) (b:Cl) (r:List Cl):gS rl b r∈b::r:=by
 unfold gS
 split
 ·exact ot r b
 ·exact oq r b
def alL (cs:List Cl) (o:Str) (day:Int):List Cl:=cs.filter λc=>decide (c.o=o) && fz c day
def kB (cs:List Cl):List Str:=je (fB (cs.map (·.p)))
def GW:List Cl->Nat
 | []=>0
 | b::r=>(k9 b r).n
def ou (rl:Str):List Cl->D
 | []=>.tup [.str "none"]
 | b::r=>if 1<(kB (b::r)).length/\rl=("open" : Str)then .tup [.str "parted",.lst ((kB (b::r)).map .str)]
  else .tup [.str "one",.str (gS rl b r).p,.int (GW ((b::r).filter λc=>decide (c.p=(gS rl b r).p)))]
def kE (cs:List Cl) (o rl:Str) (day:Int):D:=ou rl (alL cs o day)
theorem CV {z:Str}{zs:List Str}:fB (z::zs)≠[]:=by
 have:∀(ss:List Str) (ts:List Str),z∈ts->z∈ss.foldl hW ts:=λss=>by
  induction ss with
  | nil=>intro ts h;exact h
  | cons a l ih=>intro ts h;exact ih _ (tO.mpr (.inl h))
 have h:=this zs (hW [] z) (tO.mpr (.inr rfl))
 intro e
 unfold fB at e
 rw[List.foldl_cons]at e
 rw[e]at h
 cases h
theorem lU {h:Int}{o rl:Str}{m f:Int}:av [row h ("root" : Str) [.str o,.int m,.int f,.str rl],.str "office"]=some (.str o,false):=bw (i:=0) (br (by decide +kernel)) rfl
theorem zf {h:Int}{o rl:Str}{m f:Int}:av [row h ("root" : Str) [.str o,.int m,.int f,.str rl],.str "rule"]=some (.str rl,false):=bw (i:=3) (br (by decide +kernel)) rfl
theorem oy (zs:List Str):fm (zs.map .str)=some zs:=by
 induction zs with
 | nil=>rfl
 | cons z zs ih=>simp[ih]
theorem kF (cs:List Cl) (hl:cs.length<=60) {h:Int}{o rl:Str}{m f:Int}(day:Int):c7 [.lst (cs.map clD),row h ("root" : Str) [.str o,.int m,.int f,.str rl],.int day]=some (kE cs o rl day,false):=by
 let rt:D:=row h ("root" : Str) [.str o,.int m,.int f,.str rl]
 have h1:=jg (fi:=cK (af 0)) (nT:=1) (cap:=[2,1]) (tg:=tgN 0) (c:=cD (tOf (f2 dEq (f2 ixD (af 0) (fC (.int 0))) (fA av (ae (af 2) (ae (fC (.str "office")) aj))))) (tOf (fA bJ (ae (af 0) (ae (af 1) aj))))) (fe:=af 0)
  (ρ:=[some (.lst (cs.map clD),false),some (rt,false),some (.int day,false),none,none,none,none]) cs clD (λc=>decide (c.o=o) && fz c day) clD (by simp) (by omega) λc hc=>by
   refine⟨_,rfl,bS (aF (b:=false) (aB (x:=.str c.o) (y:=.str o) (b1:=false) (b2:=false) (aB (x:=clD c) (y:=.int 0) (b1:=false) (b2:=false) (by simp[bV]) rfl (cl0 c)) (ah (ds:=[rt,.str "office"]) (by simp[bV]) lU) (by simp))) λ_=>aF (b:=false) (ah (ds:=[clD c,.int day]) (by simp[bV]) (oh c day)),λ_=>⟨false,by simp[bV]⟩⟩
 have h1':cr (cK (af 0)) 1 [2,1] (tgN 0) (cD (tOf (f2 dEq (f2 ixD (af 0) (fC (.int 0))) (fA av (ae (af 2) (ae (fC (.str "office")) aj))))) (tOf (fA bJ (ae (af 0) (ae (af 1) aj))))) (af 0) [some (.lst (cs.map clD),false),some (rt,false),some (.int day,false),none,none,none,none]=some (.lst ((alL cs o day).map clD),true):=h1
 have hal:(alL cs o day).length<=60:=Nat.le_trans (List.length_filter_le _ _) hl
 unfold kE
 generalize alL cs o day=al at h1' hal
 have h2:∀ρ:DL.Env,ρ[3]? = some (some (.lst (al.map clD),true))->f1 eD (cr (cK (af 3)) 1 [] (tgN 0) gV (f2 ixD (af 0) (fC (.int 1)))) ρ=some (.lst ((kB al).map .str),true):=λρ h3=>by
  have hc:=qo (fi:=cK (af 3)) (nT:=1) (cap:=[]) (tg:=tgN 0) (fe:=f2 ixD (af 0) (fC (.int 1))) (ρ:=ρ) al clD (λc=>.str c.p) (by simp[h3]) (by omega) λc hc=>⟨_,rfl,false,aB (x:=clD c) (y:=.int 1) (b1:=false) (b2:=false) (by simp[bV]) rfl (cl1 c)⟩
  have e2:al.map (λc=>D.str c.p)=(al.map (·.p)).map .str:=by rw[List.map_map];rfl
  rw[e2]at hc
  unfold f1
  rw[hc,Option.bind_some]
  show(fm ((al.map (·.p)).map .str)).bind _=_
  rw[oy,Option.bind_some,if_pos (by rw[List.length_map];omega)]
  rfl
 have hpl:bx ((kB al).map D.str)=true:=cR _
 refine aA rfl (cy (ds:=al.map clD) h1' (gy al) (cy (ds:=(kB al).map .str) (h2 _ rfl) hpl ?_))
 cases al with
 | nil=>exact bF (aF (b:=false) (by simp[kB,fB,je])) (aE (ah (ds:=[.str "none"]) rfl (dC _ (by simp))))
 | cons b r =>
  have hne:(kB (b::r)).length≠0:=by
   unfold kB
   rw[(dM _).length_eq]
   intro e
   exact CV (List.length_eq_zero_iff.mp e)
  refine aM (aF (b:=false) (by simp[hne])) ?_
  have hrule:∀ρ:DL.Env,ρ[1]? = some (some (rt,false))->fA av (ae (af 1) (ae (fC (.str "rule")) aj)) ρ=some (.str rl,false):=λρ q1=>ah (ds:=[rt,.str "rule"]) (by simp[q1]) zf
  by_cases hp:1<(kB (b::r)).length/\rl=("open" : Str)
  ·have:ou rl (b::r)=.tup [.str "parted",.lst ((kB (b::r)).map .str)]:=by rw[ou,if_pos hp]
   rw[this]
   exact bF (bS (p:=true) (q:=true) (aF (b:=false) (by simp;omega)) λ_=>aK (bb:=false) (hrule _ rfl) (decide_eq_true hp.2)) (aE (ah (ds:=[.str "parted",.lst ((kB (b::r)).map .str)]) (by simp) (dC _ (by simp))))
  ·have:ou rl (b::r)=.tup [.str "one",.str (gS rl b r).p,.int (GW ((b::r).filter λc=>decide (c.p=(gS rl b r).p)))]:=by rw[ou,if_neg hp]
   rw[this]
   have hcond:cD (tOf (f2 iGt (fA eZ (ae (af 4) aj)) (fC (.int 1)))) (tOf (f2 dEq (fA av (ae (af 1) (ae (fC (.str "rule")) aj))) (fC (.str "open")))) [some (.lst (cs.map clD),false),some (rt,false),some (.int day,false),some (.lst ((b::r).map clD),true),some (.lst ((kB (b::r)).map .str),true),none,none]=some false:=by
    by_cases h5:1<(kB (b::r)).length
    ·exact bS (p:=true) (q:=false) (aF (b:=false) (by simp;omega)) λ_=>aK (bb:=false) (hrule _ rfl) (decide_eq_false λe=>hp ⟨h5,e⟩)
    ·exact bS (p:=false) (q:=false) (aF (b:=false) (by simp;omega)) (by simp)
   have hmem:=ze rl b r
   let ch:=gS rl b r
   have h6:=jg (fi:=cK (af 3)) (nT:=1) (cap:=[5]) (tg:=tgN 0) (c:=tOf (f2 dEq (f2 ixD (af 0) (fC (.int 1))) (af 1))) (fe:=af 0) (ρ:=[some (.lst (cs.map clD),false),some (rt,false),some (.int day,false),some (.lst ((b::r).map clD),true),some (.lst ((kB (b::r)).map .str),true),some (.str ch.p,false),none]) (b::r) clD (λc=>decide (c.p=ch.p)) clD (by simp) (by omega) λc hc=>⟨_,rfl,aF (b:=false) (aB (x:=.str c.p) (y:=.str ch.p) (b1:=false) (b2:=false) (aB (x:=clD c) (y:=.int 1) (b1:=false) (b2:=false) (by simp[bV]) rfl (cl1 c)) (by simp[bV]) (by simp)),λ_=>⟨false,by simp[bV]⟩⟩
   obtain⟨b2,r2,hf⟩:∃b2 r2,(b::r).filter (λc=>decide (c.p=ch.p))=b2::r2:=by
    cases hq:(b::r).filter (λc=>decide (c.p=ch.p)) with
    | nil =>
     have:=List.filter_eq_nil_iff.mp hq _ hmem
     simp[ch]at this
    | cons b2 r2=>exact⟨b2,r2,rfl⟩
   rw[hf]at h6 ⊢
   refine aM hcond (aO (d:=.str ch.p) (b:=false) (ah (ds:=[.lst ((b::r).map clD),.str rl]) (au (b:=false) (by simp) (au (hrule _ rfl) rfl)) (Bg rl b r)) rfl (aO (d:=clD (k9 b2 r2)) (b:=false) (Bf (bb:=true) h6) (k8 _) (aE (ah (ds:=[.str "one",.str ch.p,.int (k9 b2 r2).n]) (au (b:=false) rfl (au (b:=false) rfl (au (aB (x:=clD (k9 b2 r2)) (y:=.int 4) (b1:=false) (b2:=false) rfl rfl (cl4 _)) rfl))) (dC _ (by simp))))))
def yi:D->D
 | .tup ds=>.tup (pi ds none (some 2))
 | d=>d
def fM (cs:List Cl) (o rl p:Str) (day:Int):Bool:=eqD (yi (kE cs o rl day)) (.tup [.str "one",.str p])
theorem wF (n:Nat) (zs:List Str):(zs.map D.str).all (ak n)=true:=by
 induction zs with
 | nil=>rfl
 | cons a l ih=>simp
theorem qy (rl:Str) (al:List Cl):∃ds,ou rl al=.tup ds/\ds.all (ak 5)=true:=by
 cases al with
 | nil=>exact⟨_,rfl,by simp⟩
 | cons b r =>
  rw[ou]
  split
  ·exact⟨_,rfl,by simp only[List.all_cons,List.all_nil,ak,Bool.and_true,Bool.true_and];exact wF _ _⟩
  ·exact⟨_,rfl,by simp⟩
theorem oz {ds:List D}{lo hi:Option Int}(h:ds.all (ak 5)=true):(pi ds lo hi).all (ak 5)=true:=by
 rw[List.all_eq_true]at h ⊢
 exact λd hd=>h d (List.mem_of_mem_drop (List.mem_of_mem_take hd))
theorem iX {ds:List D}(h:ds.all (ak 5)=true):ak 40 (.tup ds)=true:=gQ 6 40 _ (by decide) (by simpa only[ak]using h)
theorem yj (cs:List Cl) (hl:cs.length<=60) {h:Int}{o rl:Str}{m f:Int}(p:Str) (day:Int):cf [.lst (cs.map clD),row h ("root" : Str) [.str o,.int m,.int f,.str rl],.str p,.int day]=some (.bl (fM cs o rl p day),false):=by
 have hb:=kF cs hl (h:=h) (o:=o) (rl:=rl) (m:=m) (f:=f) day
 obtain⟨ds,e,hd⟩:=qy rl (alL cs o day)
 have e':kE cs o rl day=.tup ds:=e
 refine aA rfl (aE (aB (x:=yi (kE cs o rl day)) (y:=.tup [.str "one",.str p]) (b1:=false) (b2:=false) ?_ (by simp[sizeLine]) ?_))
 ·have hc:=ah (F:=c7) (fa:=ae (af 0) (ae (af 1) (ae (af 3) aj))) (ρ:=[some (.lst (cs.map clD),false),some (row h ("root" : Str) [.str o,.int m,.int f,.str rl],false),some (.str p,false),some (.int day,false)]) (ds:=[.lst (cs.map clD),row h ("root" : Str) [.str o,.int m,.int f,.str rl],.int day]) rfl hb
  rw[e']at hc ⊢
  show fSl (fA c7 (ae (af 0) (ae (af 1) (ae (af 3) aj)))) t4 (pN (fC (.int 2))) _=_
  unfold fSl
  rw[show(List.map (λd=>some (d,false)) [D.lst (cs.map clD),row h ("root" : Str) [.str o,.int m,.int f,.str rl],.str p,.int day]++List.replicate 0 none:DL.Env)=[some (.lst (cs.map clD),false),some (row h ("root" : Str) [.str o,.int m,.int f,.str rl],false),some (.str p,false),some (.int day,false)]from rfl,hc]
  rfl
 ·unfold fM dEq
  rw[if_pos]
  rw[e']
  exact⟨iX (oz hd),iX (by simp)⟩
def a7 (j:Nat):D->Str
 | .tup [_,.tup (_::a9)]=>match a9[j]? with
  | some (.str s)=>s
  | _=>("" : Str)
 | _=>("" : Str)
def iA (j:Nat):D->Int
 | .tup [_,.tup (_::a9)]=>match a9[j]? with
  | some (.int s)=>s
  | _=>0
 | _=>0
theorem Cd.root_of {r:List D}(h:Cd ("root" : Str) r):∃o rl,∃m f:Int,r=[.str o,.int m,.int f,.str rl]:=by
 generalize hk:("root" : Str)=k at h
 cases h with
 | root o rl m f=>exact⟨o,rl,m,f,rfl⟩
 | named=>exact absurd hk (by decide +kernel)
 | chosen=>exact absurd hk (by decide +kernel)
 | heir=>exact absurd hk (by decide +kernel)
 | three _ hh=>rcases hh with rfl|rfl|rfl<;>exact absurd hk (by decide +kernel)
 | other _ hh=>rcases hh with rfl|rfl|rfl|rfl|rfl<;>exact absurd hk (by decide +kernel)
theorem qz {κ α:Type}[DecidableEq κ] {ks:List κ}{k:κ}{x y:α}:∀ {xs:List α},y∈dG ks xs k x->y=x∨y∈xs:=by
 intro xs h
 unfold dG at h
 split at h
 ·rename_i hk0
  clear hk0
  induction ks generalizing xs with
  | nil=>simp at h
  | cons a ks ih =>
   cases xs with
   | nil=>simp at h
   | cons b xs =>
    rw[List.zipWith_cons_cons,List.mem_cons]at h
    rcases h with h|h
    ·split at h
     ·exact .inl h
     ·exact .inr (by rw[h];exact mX)
    ·rcases ih h with h|h
     ·exact .inl h
     ·exact .inr (mZ _ h)
 ·rcases List.mem_append.mp h with h|h
  ·exact .inr h
  ·exact .inl (List.mem_singleton.mp h)
theorem q8:∀(l:List (Key×D)) (a:List Key×List D) (y:D),y∈(l.foldl nw a).2->y∈a.2 ∨ ∃p∈l,p.2=y
 | [],a,y,h=>.inl h
 | p::l,a,y,h=>by
  rw[List.foldl_cons]at h
  rcases q8 l _ y h with h|⟨q,hq,e⟩
  ·rcases qz (show y∈dG a.1 a.2 p.1 p.2 from h)with h|h
   ·exact .inr ⟨p,mX,h.symm⟩
   ·exact .inl h
  ·exact .inr ⟨q,mZ _ hq,e⟩
theorem qA {α:Type}(f:α->Str) (g:α->D):∀(l:List α),fU (l.map λx=>D.tup [.str (f x),g x])=some (l.map λx=>(.inr (f x),g x))
 | []=>rfl
 | x::l=>by
  rw[List.map_cons,fU,qA f g l]
  rfl
theorem o0 {κ:Type}[DecidableEq κ]:∀ {ks:List κ}{vs:List D}{k:κ}{v:D},cu ks vs k=some v->v∈vs
 | k'::ks,d::ds,k,v,h=>by
  unfold cu at h
  split at h
  ·cases h;exact mX
  ·exact mZ _ (o0 h)
 | [],_,_,_,h=>by simp[cu]at h
 | _::_,[],_,_,h=>by simp[cu]at h
def iB (KL:List (D×Nat)):List (Key×D):=(KL.filter λx=>bf x.1).map λx=>(.inr (a7 0 x.1),x.1)
def kG (KL:List (D×Nat)) (o:Str):Option D:=cu (bE (iB KL)).1 (bE (iB KL)).2 (.inr o)
theorem o3 {r:D}(g:rR r) (h:bf r=true):∃a o rl,∃m f:Int,r=row a ("root" : Str) [.str o,.int m,.int f,.str rl]:=by
 obtain⟨a,k,a9,rfl,d⟩:=g
 have hk:k=("root" : Str):=of_decide_eq_true h
 subst hk
 obtain⟨o,rl,m,f,rfl⟩:=d.root_of
 exact⟨a,o,rl,m,f,rfl⟩
theorem cF {rows:List D}(g:eI rows) {known:Int}{x:D×Nat}(hx:x∈aq rows known):atI rows (x.2:Int)=some x.1/\rR x.1:=⟨dR (cB hx),g.2 _ (List.mem_of_getElem? (cB hx))⟩
theorem lV {rows:List D}(g:eI rows) {known:Int}{o:Str}{v:D}(h:kG (aq rows known) o=some v):∃a o2 rl,∃m f:Int,v=row a ("root" : Str) [.str o2,.int m,.int f,.str rl]:=by
 have hv:=o0 h
 rcases q8 _ ([],[]) v hv with h|⟨p,hp,e⟩
 ·cases h
 ·obtain⟨x,hx,rfl⟩:=List.mem_map.mp hp
  obtain⟨h1,h2⟩:=List.mem_filter.mp hx
  rw[←e]
  exact o3 (cF g h1).2 h2
theorem o4 {rows:List D}(g:eI rows) (known:Int):di [.tup rows,.int known]=some (.dk (bE (iB (aq rows known))).1 (bE (iB (aq rows known))).2,false):=by
 have hl:=dS rows known
 have hl2:=g.1
 have h1:=qo (fi:=cK (fA bT (ae (af 0) (ae (af 1) aj)))) (nT:=1) (cap:=[0]) (tg:=tgN 0) (fe:=f2 ixD (af 1) (af 0)) (ρ:=[some (.tup rows,false),some (.int known,false),none]) (aq rows known) (λx=>.int x.2) Prod.fst
  (by
   show(fA bT (ae (af 0) (ae (af 1) aj)) _).bind _=_
   rw[ah (ds:=[.tup rows,.int known]) rfl (ky rows g.rp g.le known)]
   rfl) (by omega) λx hx=>by
   have ha:=(cF g hx).1
   exact⟨_,rfl,false,by simp[bV,ha]⟩
 have hn:bx ((aq rows known).map Prod.fst)=true:=cQ λd hd=>by
  obtain⟨x,hx,rfl⟩:=List.mem_map.mp hd
  exact(cF g hx).2.rp.flat
 have h2:=jg (fi:=cK (af 2)) (nT:=1) (cap:=[]) (tg:=tgN 0) (c:=tOf (f2 dEq (fA aD (ae (af 0) aj)) (fC (.str "root")))) (fe:=fA ba (ae (fA av (ae (af 0) (ae (fC (.str "office")) aj))) (ae (af 0) aj)))
  (ρ:=[some (.tup rows,false),some (.int known,false),some (.lst ((aq rows known).map Prod.fst),true)]) (aq rows known) Prod.fst (λx=>bf x.1) (λx=>.tup [.str (a7 0 x.1),x.1]) (by simp) (by omega) λx hx=>by
   have gr:=(cF g hx).2
   refine⟨_,rfl,aK (a:=kindOf x.1) (bb:=false) (ah (ds:=[x.1]) rfl (l5 gr)) rfl,λhp=>⟨false, ?_⟩⟩
   obtain⟨a,o,rl,m,f,e⟩:=o3 gr hp
   refine ah (ds:=[.str (a7 0 x.1),x.1]) (au (b:=false) (ah (ds:=[x.1,.str "office"]) rfl ?_) rfl) (dC _ (by simp))
   rw[e]
   exact lU
 refine aA rfl (cy (ds:=(aq rows known).map Prod.fst) h1 hn (aE (ah (ds:=[.lst (((aq rows known).filter λx:D×Nat=>bf x.1).map λx:D×Nat=>D.tup [.str (a7 0 x.1),x.1])]) (au h2 rfl) ?_)))
 rw[gG,qA (λx:D×Nat=>a7 0 x.1) Prod.fst]
 rfl
def m6:D×Nat->List (D×Nat)->D×Nat
 | b,[]=>b
 | b,x::r=>if bv (kA x) (kA b)=some true then m6 x r else m6 b r
theorem rV:∀(r:List (D×Nat)) (b:D×Nat),jf (kA b,.int b.2) (r.map λx=>(kA x,D.int x.2))=.int (m6 b r).2
 | [],b=>rfl
 | x::r,b=>by
  rw[List.map_cons,jf,m6]
  split
  ·exact rV r x
  ·exact rV r b
def f7 (KL:List (D×Nat)) (p:Str) (day:Int) (i:Nat):Bool:=match KL.filter (λx=>told cS p day x.1) with
 | []=>false
 | b::r=>decide ((m6 b r).2=i)
theorem Bh {rows:List D}(g:eI rows) (known:Int) {x:D×Nat}(hx:x∈aq rows known) {a d:Int}{p:Str}(e:x.1=row a ("death" : Str) [.int d,.str p]):cX [.tup rows,.int known,.int x.2]=some (.bl (f7 (aq rows known) p d x.2),false):=by
 have ha:=(cF g hx).1
 have gx:=(cF g hx).2
 have ht:=rP rows g.rp g.le known cS gR p d
 have hpart:av [x.1,.str "person"]=some (.str p,false):=by rw[e];exact bw (i:=1) (br (by decide +kernel)) rfl
 have hday:aP [x.1]=some (.int d,false):=by rw[e];exact gt (.inl (by decide +kernel)) rfl
 have hmem:x∈m5 rows known cS p d:=List.mem_filter.mpr ⟨hx,by rw[e];simp[told,row,cS,qw]⟩
 have hfv:f7 (aq rows known) p d x.2=match m5 rows known cS p d with|[]=>false|b::r=>decide ((m6 b r).2=x.2):=rfl
 have key:∀y∈m5 rows known cS p d,∃h k dd,rows[y.2]? = some (row h k [.int dd,.str p])/\y.1=row h k [.int dd,.str p]/\cw k=true:=λy hy=>by
  obtain⟨hg,htl⟩:=yf hy
  obtain⟨h,k,dd,e2,h3,_⟩:=nY gR (g.rp _ (List.mem_of_getElem? hg)) htl
  exact⟨h,k,dd,by rw[hg,e2],e2,h3⟩
 rw[hfv]
 cases hs:m5 rows known cS p d with
 | nil=>rw[hs]at hmem;cases hmem
 | cons b r =>
  rw[hs]at ht key
  have hm:∀ρ:DL.Env,ρ[0]? = some (some (.tup rows,false))->hX (ug [0] (fA dq (ae (af 1) (ae (af 0) aj))) ρ) ((b::r).map λy=>.int y.2)=some ((b::r).map λy=>.tup [.int (aQ y.1),.int y.2]):=λρ h0 =>
   gw (b::r) λy hy=>by
    obtain⟨h,k,dd,hg,e2,h3⟩:=key y hy
    show(fA dq _ _).map _=_
    rw[ah (ds:=[.tup rows,.int y.2]) (by simp[bV,h0]) (yg hg h3),e2]
    rfl
  have hk:cY ((b::r).map λy=>D.tup [.int (aQ y.1),.int y.2])=some ((b::r).map kA):=eW _ λy _=>rfl
  have hz:((b::r).map kA).zip ((b::r).map λy=>D.int y.2)=(kA b,D.int b.2)::r.map λy=>(kA y,D.int y.2):=by rw[List.zip_map'];rfl
  have hfl:bx ((b::r).map λy=>D.int y.2)=true:=cQ λd hd=>by obtain⟨y,_,rfl⟩:=List.mem_map.mp hd;rfl
  refine aA rfl (aO (d:=x.1) (b:=false) (by simp[ha]) gx.rp.flat (cy (ds:=(b::r).map λy=>.int y.2) (ah (ds:=[.tup rows,.int known,.tup (cS.map .str),.str p,.int d]) (au (b:=false) rfl (au (b:=false) rfl (au (b:=false) (ah (ds:=[.str "death"]) rfl (dC _ (by simp))) (au (ah (ds:=[x.1,.str "person"]) rfl hpart) (au (ah (ds:=[x.1]) rfl hday) rfl))))) ht) hfl (aE (aB (x:=.int (m6 b r).2) (y:=.int x.2) (b1:=false) (b2:=false) ?_ rfl ?_))))
  ·unfold qj fKK
   show((some (D.lst ((b::r).map λy=>D.int y.2),false)).bind _)=_
   rw[Option.bind_some]
   dsimp only
   rw[hm _ rfl,Option.bind_some,hk,Option.bind_some,if_pos (rQ _),hz]
   show some (jf _ _,false)=_
   rw[rV]
  ·rw[xU]
   congr 3
   apply decide_eq_decide.mpr
   omega
abbrev KL:=List (D×Nat)
def o5 (K:KL) (p:Str) (day:Int):Bool:=(K.filter λx=>told cS p day x.1).isEmpty
def GX (K:KL) (p:Str) (day:Int):Bool:=match DS (K.filter λx=>told k6 p day x.1) with
 | none=>true
 | some x=>decide (kindOf x.1=("found" : Str))
def rW (K:KL) (r:D):Bool:=cP (kindOf r) && (o5 K (eG r) (aQ r) && GX K (eG r) (aQ r))
def Bi (r:D):Str:=if kindOf r=("named" : Str)then a7 1 r else a7 2 r
def rX:List Str:=[("named" : Str),("chosen" : Str),("heir" : Str)]
def cj (K:KL) (so:List Cl) (x:D×Nat):Bool :=
 if kindOf x.1=("death" : Str)then f7 K (a7 1 x.1) (aQ x.1) x.2
 else if kindOf x.1∈rX then match kG K (Bi x.1) with
  | none=>false
  | some v=>if kindOf x.1=("named" : Str)then true else rW K x.1 && fM so (a7 0 v) (a7 3 v) (a7 1 x.1) (aQ x.1)
 else false
theorem CW (rows:List D) (known:Int) (p:Str) (day:Int):lz rows known p day=o5 (aq rows known) p day:=rfl
theorem CY {rows:List D}{known:Int}{r:D}(h:aZ r<=known):i7 rows known r=rW (aq rows known) r:=by
 unfold i7 rW
 rw[decide_eq_true h,Bool.true_and]
 rfl
theorem zg {rows:List D}(g:eI rows) (known:Int) (so:List Cl) (hso:so.length<=60) {x:D×Nat}(hx:x∈aq rows known) (hnr:bf x.1=false):iu [.tup rows,.int known,.lst (so.map clD),.int x.2]=some (.bl (cj (aq rows known) so x),false):=by
 obtain⟨ha,gx⟩:=cF g hx
 have hh:aZ x.1<=known:=of_decide_eq_true (List.mem_filter.mp hx).2
 have hf:bi x.1=true:=gx.rp.flat
 have hw:∀ρ:DL.Env,ρ[4]? = some (some (x.1,false))->fA aD (ae (af 4) aj) ρ=some (.str (kindOf x.1),false):=λρ h4=>ah (ds:=[x.1]) (by simp[h4]) (l5 gx)
 have hni:∀ρ:DL.Env,ρ[4]? = some (some (x.1,false))->tOf (f2 dJ (fA aD (ae (af 4) aj)) (fA ba (ae (fC (.str "named")) (ae (fC (.str "chosen")) (ae (fC (.str "heir")) aj))))) ρ=some (!decide (kindOf x.1∈rX)):=λρ h4 =>
  aF (b:=false) (aB (x:=.str (kindOf x.1)) (y:=.tup (rX.map .str)) (b1:=false) (b2:=false) (hw ρ h4) (by simp[sizeLine,rX]) (i6 _ _))
 by_cases hd:kindOf x.1=("death" : Str)
 ·obtain⟨a,k,a9,e,d⟩:=gx
  have hk:k=("death" : Str):=by rw[e]at hd;exact hd
  subst hk
  obtain⟨dd,p,rfl⟩:=d.deed.three (by decide +kernel)
  have hc:cj (aq rows known) so x=f7 (aq rows known) p dd x.2:=by
   unfold cj
   rw[if_pos hd,e]
   rfl
  rw[hc]
  exact aA rfl (aO (d:=x.1) (b:=false) (by simp[ha]) hf (bF (aK (bb:=false) (hw _ rfl) (decide_eq_true hd)) (aE (ah (ds:=[.tup rows,.int known,.int x.2]) rfl (Bh g known hx e)))))
 ·by_cases h3:kindOf x.1∈rX
  ·have hoff:av [x.1,.str "office"]=some (.str (Bi x.1),false):=by
    obtain⟨a,k,a9,e,d⟩:=gx
    rw[e]at h3 hd hnr ⊢
    replace h3:k∈rX:=h3
    clear hd hnr
    cases d with
    | root=>exact absurd h3 (by decide +kernel)
    | named d o p=>exact bw (i:=1) (br (by decide +kernel)) rfl
    | chosen d b o p s=>exact bw (i:=2) (br (by decide +kernel)) rfl
    | heir d b o p=>exact bw (i:=2) (br (by decide +kernel)) rfl
    | three _ hk=>rcases hk with rfl|rfl|rfl<;>exact absurd h3 (by decide +kernel)
    | other _ hk=>rcases hk with rfl|rfl|rfl|rfl|rfl<;>exact absurd h3 (by decide +kernel)
   have e5:∀ρ:DL.Env,ρ[0]? = some (some (.tup rows,false))->ρ[1]? = some (some (.int known,false))->ρ[4]? = some (some (x.1,false))->f2 wx (fA di (ae (af 0) (ae (af 1) aj))) (fA av (ae (af 4) (ae (fC (.str "office")) aj))) ρ=some ((kG (aq rows known) (Bi x.1)).getD .non,false):=λρ q0 q1 q4 =>
    aB (x:=.dk (bE (iB (aq rows known))).1 (bE (iB (aq rows known))).2) (y:=.str (Bi x.1)) (b1:=false) (b2:=false) (ah (ds:=[.tup rows,.int known]) (by simp[q0,q1]) (o4 g known)) (ah (ds:=[x.1,.str "office"]) (by simp[q4]) hoff) rfl
   cases hr:kG (aq rows known) (Bi x.1) with
   | none =>
    rw[hr]at e5
    have hc:cj (aq rows known) so x=false:=by unfold cj;rw[if_neg hd,if_pos h3,hr]
    rw[hc]
    exact aA rfl (aO (d:=x.1) (b:=false) (by simp[ha]) hf (aM (aK (bb:=false) (hw _ rfl) (decide_eq_false hd)) (aM (by rw[hni _ rfl,decide_eq_true h3];rfl) (aO (d:=.non) (b:=false) (e5 _ rfl rfl rfl) rfl (bF (aF (b:=false) (aB (x:=.non) (y:=.non) (b1:=false) (b2:=false) rfl rfl (by simp))) (aE rfl))))))
   | some v =>
    rw[hr]at e5
    obtain⟨va,vo,vrl,vm,vf,ev⟩:=lV g hr
    have hvf:bi v=true:=by rw[ev];rfl
    have hvn:dIs v .non=some (.bl false,false):=by rw[ev];simp[row]
    by_cases hn:kindOf x.1=("named" : Str)
    ·have hc:cj (aq rows known) so x=true:=by unfold cj;rw[if_neg hd,if_pos h3,hr];dsimp only;rw[if_pos hn]
     rw[hc]
     exact aA rfl (aO (d:=x.1) (b:=false) (by simp[ha]) hf (aM (aK (bb:=false) (hw _ rfl) (decide_eq_false hd)) (aM (by rw[hni _ rfl,decide_eq_true h3];rfl) (aO (d:=v) (b:=false) (e5 _ rfl rfl rfl) hvf (aM (aF (b:=false) (aB (x:=v) (y:=.non) (b1:=false) (b2:=false) rfl rfl hvn)) (bF (aK (bb:=false) (hw _ rfl) (decide_eq_true hn)) (aE rfl)))))))
    ·have hc:cj (aq rows known) so x=(rW (aq rows known) x.1 && fM so (a7 0 v) (a7 3 v) (a7 1 x.1) (aQ x.1)):=by unfold cj;rw[if_neg hd,if_pos h3,hr];dsimp only;rw[if_neg hn]
     have hby:av [x.1,.str "by"]=some (.str (a7 1 x.1),false)/\aP [x.1]=some (.int (aQ x.1),false):=by
      refine⟨?_,by rw[qx gx];unfold rS;rw[hnr];rfl⟩
      obtain⟨a,k,a9,e,d⟩:=gx
      rw[e]at h3 hn ⊢
      replace h3:k∈rX:=h3
      cases d with
      | root=>exact absurd h3 (by decide +kernel)
      | named=>exact absurd rfl hn
      | chosen d b o p s=>exact bw (i:=1) (br (by decide +kernel)) rfl
      | heir d b o p=>exact bw (i:=1) (br (by decide +kernel)) rfl
      | three _ hk=>rcases hk with rfl|rfl|rfl<;>exact absurd h3 (by decide +kernel)
      | other _ hk=>rcases hk with rfl|rfl|rfl|rfl|rfl<;>exact absurd h3 (by decide +kernel)
     have hs:=oe rows g.rp g.le known (cB hx)
     rw[CY hh]at hs
     have hheld:cf [.lst (so.map clD),v,.str (a7 1 x.1),.int (aQ x.1)]=some (.bl (fM so (a7 0 v) (a7 3 v) (a7 1 x.1) (aQ x.1)),false):=by
      rw[ev]
      exact yj so hso _ _
     rw[hc]
     refine aA rfl (aO (d:=x.1) (b:=false) (by simp[ha]) hf (aM (aK (bb:=false) (hw _ rfl) (decide_eq_false hd)) (aM (by rw[hni _ rfl,decide_eq_true h3];rfl) (aO (d:=v) (b:=false) (e5 _ rfl rfl rfl) hvf (aM (aF (b:=false) (aB (x:=v) (y:=.non) (b1:=false) (b2:=false) rfl rfl hvn)) (aM (aK (bb:=false) (hw _ rfl) (decide_eq_false hn)) (aE ?_)))))))
     exact fV (b1:=false) (ah (ds:=[.tup rows,.int known,.int x.2]) rfl hs) λ_=>ah (ds:=[.lst (so.map clD),v,.str (a7 1 x.1),.int (aQ x.1)]) (au (b:=false) rfl (au (b:=false) rfl (au (ah (ds:=[x.1,.str "by"]) rfl hby.1) (au (ah (ds:=[x.1]) rfl hby.2) rfl)))) hheld
  ·have hc:cj (aq rows known) so x=false:=by unfold cj;rw[if_neg hd,if_neg h3]
   rw[hc]
   exact aA rfl (aO (d:=x.1) (b:=false) (by simp[ha]) hf (aM (aK (bb:=false) (hw _ rfl) (decide_eq_false hd)) (bF (by rw[hni _ rfl,decide_eq_false h3];rfl) (aE rfl))))
def dU (offs:List Str) (p:Str) (day:Int) (c:Cl):List Cl :=
 if(!decide (c.o∈offs) || (!decide (c.p=p) || !(fz c day || decide (day<c.s))))=true then [c]else if c.s<day then [⟨c.o,p,c.s,some day,c.n⟩]else []
def bK (so:List Cl) (offs:List Str) (p:Str) (day:Int):List Cl:=so.flatMap (dU offs p day)
theorem dW (offs:List Str) (p:Str) (day:Int):∀so:List Cl,(bK so offs p day).length<=so.length
 | []=>Nat.le_refl _
 | c::so=>by
  unfold bK
  rw[List.flatMap_cons,List.length_append,List.length_cons]
  have h1:=dW offs p day so
  have h2:(dU offs p day c).length<=1:=by
   unfold dU
   split
   ·simp
   ·split<;>simp
  unfold bK at h1
  omega
theorem wG (k:Str) (ws:List Str):dJ (.str k) (.lst (ws.map .str))=some (.bl (!decide (k∈ws)),false):=by
 simp only[dJ,fg,Option.bind_some,nW]
 rw[if_pos ⟨rfl,lx ws⟩]
theorem uF (so:List Cl) (hso:so.length<=60) (offs:List Str) (p:Str) (day:Int):iT [.lst (so.map clD),.lst (offs.map .str),.str p,.int day]=some (.lst ((bK so offs p day).map clD),true):=by
 obtain⟨ρ',e,v5,rfl⟩:=jY (tg:=tgN 5) (g:=nK) (λj ρ=>∃v5:Option (D×Bool),ρ=[some (.lst (so.map clD),false),some (.lst (offs.map .str),false),some (.str p,false),some (.int day,false),some (.lst ((bK (so.take j) offs p day).map clD),true),v5]) (so.map clD)
  [some (.lst (so.map clD),false),some (.lst (offs.map .str),false),some (.str p,false),some (.int day,false),some (.lst [],true),none] ⟨none,rfl⟩ (by
   rintro j d ρ hd ⟨v5,rfl⟩
   rw[List.getElem?_map]at hd
   obtain⟨c,hc,rfl⟩:=oY hd
   have hj:j<so.length:=(List.getElem?_eq_some_iff.mp hc).1
   have et:bK (so.take (j+1)) offs p day=bK (so.take j) offs p day++dU offs p day c:=by
    unfold bK
    rw[List.take_add_one,hc,Option.toList_some,List.flatMap_append,List.flatMap_cons,List.flatMap_nil,List.append_nil]
   have hlen:(bK (so.take j) offs p day).length<=60:=Nat.le_trans (dW offs p day _) (by rw[List.length_take];omega)
   let ρ1:DL.Env:=[some (.lst (so.map clD),false),some (.lst (offs.map .str),false),some (.str p,false),some (.int day,false),some (.lst ((bK (so.take j) offs p day).map clD),true),some (clD c,false)]
   have q0:f2 ixD (af 5) (fC (.int 0)) ρ1=some (.str c.o,false):=aB (x:=clD c) (y:=.int 0) (b1:=false) (b2:=false) rfl rfl (cl0 c)
   have q1:f2 ixD (af 5) (fC (.int 1)) ρ1=some (.str c.p,false):=aB (x:=clD c) (y:=.int 1) (b1:=false) (b2:=false) rfl rfl (cl1 c)
   have q2:f2 ixD (af 5) (fC (.int 2)) ρ1=some (.int c.s,false):=aB (x:=clD c) (y:=.int 2) (b1:=false) (b2:=false) rfl rfl (cl2 c)
   have q4:f2 ixD (af 5) (fC (.int 4)) ρ1=some (.int c.n,false):=aB (x:=clD c) (y:=.int 4) (b1:=false) (b2:=false) rfl rfl (cl4 c)
   have hcond:hU (tOf (f2 dJ (f2 ixD (af 5) (fC (.int 0))) (af 1))) (hU (tOf (f2 dNe (f2 ixD (af 5) (fC (.int 1))) (af 2))) (fZ (hU (tOf (fA bJ (ae (af 5) (ae (af 3) aj)))) (tOf (f2 iGt (f2 ixD (af 5) (fC (.int 2))) (af 3)))))) ρ1=some (!decide (c.o∈offs) || (!decide (c.p=p) || !(fz c day || decide (day<c.s)))) :=
    cA (aF (b:=false) (aB (x:=.str c.o) (y:=.lst (offs.map .str)) (b1:=false) (b2:=false) q0 rfl (wG _ _))) λ_=>cA (aF (b:=false) (aB (x:=.str c.p) (y:=.str p) (b1:=false) (b2:=false) q1 rfl (by simp))) λ_=>gH (cA (aF (b:=false) (ah (ds:=[clD c,.int day]) rfl (oh c day))) λ_=>aF (b:=false) (aB (x:=.int c.s) (y:=.int day) (b1:=false) (b2:=false) q2 rfl (by simp)))
   by_cases h1:(!decide (c.o∈offs) || (!decide (c.p=p) || !(fz c day || decide (day<c.s))))=true
   ·have eo:dU offs p day c=[c]:=by unfold dU;rw[if_pos h1]
    rw[h1]at hcond
    refine⟨_,_,rfl,.inl (gk hcond (fu (ds:=(bK (so.take j) offs p day).map clD) (d:=clD c) (b:=false) rfl rfl (k8 c) (bG (by simp;omega)))),some (clD c,false), ?_⟩
    rw[et,eo,List.map_append]
    rfl
   ·rw[Bool.not_eq_true]at h1
    rw[h1]at hcond
    by_cases h2:c.s<day
    ·have eo:dU offs p day c=[⟨c.o,p,c.s,some day,c.n⟩]:=by unfold dU;rw[if_neg (by rw[h1];decide),if_pos h2]
     refine⟨_,_,rfl,.inl (gl hcond (gk (aF (b:=false) (aB (x:=.int c.s) (y:=.int day) (b1:=false) (b2:=false) q2 rfl (by simp[h2]))) (fu (ds:=(bK (so.take j) offs p day).map clD) (d:=clD ⟨c.o,p,c.s,some day,c.n⟩) (b:=false) rfl (ah (ds:=[.str c.o,.str p,.int c.s,.int day,.int c.n]) (au q0 (au (b:=false) rfl (au q2 (au (b:=false) rfl (au q4 rfl))))) (dC _ (by simp))) (k8 _) (bG (by simp;omega))))),some (clD c,false), ?_⟩
     rw[et,eo,List.map_append]
     rfl
    ·have eo:dU offs p day c=[]:=by unfold dU;rw[if_neg (by rw[h1];decide),if_neg h2]
     refine⟨_,_,rfl,.inl (gl hcond (gl (aF (b:=false) (aB (x:=.int c.s) (y:=.int day) (b1:=false) (b2:=false) q2 rfl (by simp;omega))) rfl)),some (clD c,false), ?_⟩
     rw[et,eo,List.append_nil]
     rfl)
 have e':eK (tgN 5) nK (so.map clD) [some (.lst (so.map clD),false),some (.lst (offs.map .str),false),some (.str p,false),some (.int day,false),some (.lst [],true),none]=some (.nx [some (.lst (so.map clD),false),some (.lst (offs.map .str),false),some (.str p,false),some (.int day,false),some (.lst ((bK so offs p day).map clD),true),v5]):=by
  rw[e]
  have:so.take (so.map clD).length=so:=by rw[List.length_map,List.take_length]
  rw[this]
 exact aA rfl (cy (ds:=[]) (by simp[sizeLine]) rfl (de (mC (ds:=so.map clD) (by simp[sP]) e') (kg rfl)))
theorem DT {r:D}{o p:Str}(ho:av [r,.str "office"]=some (.str o,false)) (hp:av [r,.str "person"]=some (.str p,false)) (s:Int) (n:Nat):cO [r,.int s,.int n]=some (clD ⟨o,p,s,none,n⟩,false) :=
 aA rfl (aE (ah (ds:=[.str o,.str p,.int s,.non,.int n]) (au (ah (ds:=[r,.str "office"]) rfl ho) (au (ah (ds:=[r,.str "person"]) rfl hp) rfl)) (dC _ (by simp))))
theorem zh (so:List Cl) (hso:so.length<=60) {a d s:Int}{b o p:Str}(n:Nat):dA [.lst (so.map clD),row a ("chosen" : Str) [.int d,.str b,.str o,.str p,.int s],.int n]=some (.lst ((bK so [o] b s++[(⟨o,p,s,none,n⟩:Cl)]).map clD),true):=by
 let r:D:=row a ("chosen" : Str) [.int d,.str b,.str o,.str p,.int s]
 have ho:av [r,.str "office"]=some (.str o,false):=bw (i:=2) (br (by decide +kernel)) rfl
 have hp:av [r,.str "person"]=some (.str p,false):=bw (i:=3) (br (by decide +kernel)) rfl
 have hb:av [r,.str "by"]=some (.str b,false):=bw (i:=1) (br (by decide +kernel)) rfl
 have hs:av [r,.str "since"]=some (.int s,false):=bw (i:=4) (br (by decide +kernel)) rfl
 have hl:=dW [o] b s so
 refine aA rfl (aO (d:=.int s) (b:=false) (ah (ds:=[r,.str "since"]) rfl hs) rfl (cy (ds:=(bK so [o] b s).map clD) (ah (ds:=[.lst (so.map clD),.lst ([o].map .str),.str b,.int s]) (au (b:=false) rfl (au (b:=true) (ah (ds:=[.str o]) (au (ah (ds:=[r,.str "office"]) rfl ho) rfl) (f6 _ (by simp))) (au (ah (ds:=[r,.str "by"]) rfl hb) rfl))) (uF so hso [o] b s)) (gy _) (aE ?_)))
 refine aB (x:=.lst ((bK so [o] b s).map clD)) (y:=.lst [clD ⟨o,p,s,none,n⟩]) (b1:=false) (b2:=true) rfl (ah (ds:=[clD ⟨o,p,s,none,n⟩]) (au (ah (ds:=[r,.int s,.int n]) rfl (DT ho hp s n)) rfl) (f6 _ (by simp))) ?_
 rw[List.map_append]
 exact if_pos (cN (by rw[List.length_map,List.length_singleton];omega))
def uG (hk:List (List Key)) (hv:List D) (o p:Str):Option Str:=match cu hk hv [.inr o,.inr p] with
 | some (.str h)=>some h
 | _=>none
def cU (K:KL) (hk:List (List Key)) (hv:List D) (p:Str) (day:Int) (n:Nat) (o:Str):List Cl:=match uG hk hv o p with
 | some h=>if o5 K h day=true then [⟨o,h,day,none,n⟩]else []
 | none=>[]
def cC (so:List Cl) (p:Str) (day:Int):List Str:=je (fB ((so.filter λc=>decide (c.p=p) && fz c day).map (·.o)))
def o6 (K:KL) (so:List Cl) (hk:List (List Key)) (hv:List D) (p:Str) (day:Int) (n:Nat):List Cl:=(cC so p day).flatMap (cU K hk hv p day n)
theorem jx (K:KL) (hk:List (List Key)) (hv:List D) (p:Str) (day:Int) (n:Nat) (o:Str):(cU K hk hv p day n o).length<=1:=by
 unfold cU
 split
 ·split<;>simp
 ·simp
theorem o7 {α β:Type}(f:α->List β) (h:∀a,(f a).length<=1):∀l:List α,(l.flatMap f).length<=l.length
 | []=>Nat.le_refl _
 | a::l=>by
  rw[List.flatMap_cons,List.length_append,List.length_cons]
  have:=h a
  have:=o7 f h l
  omega
theorem uH (so:List Cl) (p:Str) (day:Int):(cC so p day).length<=so.length:=by
 unfold cC
 rw[(dM _).length_eq]
 refine Nat.le_trans (mQ _) ?_
 rw[List.length_map]
 exact List.length_filter_le _ _
theorem rY {rows:List D}(g:eI rows) (known:Int) (so:List Cl) (hso:so.length<=60) (hk:List (List Key)) (hv:List D) (hhv:∀v∈hv,∃s,v=.str s) {x:D×Nat}(hx:x∈aq rows known) {a d:Int}{p:Str}(e:x.1=row a ("death" : Str) [.int d,.str p]) :
  fK [.tup rows,.int known,.lst (so.map clD),.dt hk hv,.int x.2]=some (.lst ((o6 (aq rows known) so hk hv p d x.2).map clD),true):=by
 have ha:=(cF g hx).1
 have hpart:av [x.1,.str "person"]=some (.str p,false):=by rw[e];exact bw (i:=1) (br (by decide +kernel)) rfl
 have hday:aP [x.1]=some (.int d,false):=by rw[e];exact gt (.inl (by decide +kernel)) rfl
 have holen:=uH so p d
 have hstep:∀(o:Str) (l:List Cl) (v9:Option (D×Bool)),l.length<=60->eR [some (.tup rows,false),some (.int known,false),some (.lst (so.map clD),false),some (.dt hk hv,false),some (.int x.2,false),some (.str p,false),some (.int d,false),some (.lst (l.map clD),true),some (.str o,false),v9]=some (.nx [some (.tup rows,false),some (.int known,false),some (.lst (so.map clD),false),some (.dt hk hv,false),some (.int x.2,false),some (.str p,false),some (.int d,false),some (.lst ((l++cU (aq rows known) hk hv p d x.2 o).map clD),true),some (.str o,false),some ((cu hk hv [.inr o,.inr p]).getD .non,false)]):=λo l v9 hl=>by
  have eg:AO (af 3) (ae (af 8) (ae (af 5) aj)) [some (.tup rows,false),some (.int known,false),some (.lst (so.map clD),false),some (.dt hk hv,false),some (.int x.2,false),some (.str p,false),some (.int d,false),some (.lst (l.map clD),true),some (.str o,false),v9]=some ((cu hk hv [.inr o,.inr p]).getD .non,false):=by
   simp[fJ,sizeLine]
  cases hlk:cu hk hv [.inr o,.inr p] with
  | none =>
   rw[hlk]at eg
   have ei:cU (aq rows known) hk hv p d x.2 o=[]:=by unfold cU uG;rw[hlk]
   rw[ei,List.append_nil]
   exact aO (d:=.non) (b:=false) eg rfl (gl (bS (p:=false) (q:=false) (aF (b:=false) (by simp)) (by simp)) rfl)
  | some v =>
   obtain⟨h,rfl⟩:=hhv v (o0 hlk)
   rw[hlk]at eg
   have hlv:=u6 rows g.rp g.le known h d
   rw[CW]at hlv
   have hand:∀ρ:DL.Env,ρ[0]? = some (some (.tup rows,false))->ρ[1]? = some (some (.int known,false))->ρ[6]? = some (some (.int d,false))->ρ[9]? = some (some (.str h,false))->cD (tOf (f2 lf (af 9) (fC .non))) (tOf (fA gI (ae (af 0) (ae (af 1) (ae (af 9) (ae (af 6) aj)))))) ρ=some (true && o5 (aq rows known) h d):=λρ q0 q1 q6 q9 =>
    bS (aF (b:=false) (by simp[q9])) λ_=>aF (b:=false) (ah (ds:=[.tup rows,.int known,.str h,.int d]) (by simp[q0,q1,q6,q9]) hlv)
   cases hl2:o5 (aq rows known) h d with
   | false =>
    have ei:cU (aq rows known) hk hv p d x.2 o=[]:=by unfold cU uG;rw[hlk];dsimp only;rw[hl2];rfl
    rw[ei,List.append_nil]
    exact aO (d:=.str h) (b:=false) eg rfl (gl (by rw[hand _ rfl rfl rfl rfl,hl2];rfl) rfl)
   | true =>
    have ei:cU (aq rows known) hk hv p d x.2 o=[⟨o,h,d,none,x.2⟩]:=by unfold cU uG;rw[hlk];dsimp only;rw[hl2];rfl
    rw[ei,List.map_append]
    exact aO (d:=.str h) (b:=false) eg rfl (gk (by rw[hand _ rfl rfl rfl rfl,hl2];rfl) (fu (ds:=l.map clD) (d:=clD ⟨o,h,d,none,x.2⟩) (b:=false) rfl (ah (ds:=[.str o,.str h,.int d,.non,.int x.2]) rfl (dC _ (by simp))) rfl (bG (by simp;omega))))
 obtain⟨ρ',el,v8,v9,rfl⟩:=jY (tg:=tgN 8) (g:=eR) (λj ρ=>∃v8 v9:Option (D×Bool),ρ=[some (.tup rows,false),some (.int known,false),some (.lst (so.map clD),false),some (.dt hk hv,false),some (.int x.2,false),some (.str p,false),some (.int d,false),some (.lst ((((cC so p d).take j).flatMap (cU (aq rows known) hk hv p d x.2)).map clD),true),v8,v9]) ((cC so p d).map .str)
  [some (.tup rows,false),some (.int known,false),some (.lst (so.map clD),false),some (.dt hk hv,false),some (.int x.2,false),some (.str p,false),some (.int d,false),some (.lst [],true),none,none] ⟨none,none,rfl⟩ (by
   rintro j dd ρ hd ⟨v8,v9,rfl⟩
   rw[List.getElem?_map]at hd
   obtain⟨o,ho,rfl⟩:=oY hd
   have hl:(((cC so p d).take j).flatMap (cU (aq rows known) hk hv p d x.2)).length<=60:=Nat.le_trans (o7 _ (jx _ _ _ _ _ _) _) (by rw[List.length_take];omega)
   refine⟨_,_,rfl,.inl (hstep o _ v9 hl),some (.str o,false),some ((cu hk hv [.inr o,.inr p]).getD .non,false), ?_⟩
   rw[List.take_add_one,ho,Option.toList_some,List.flatMap_append,List.flatMap_cons,List.flatMap_nil,List.append_nil])
 have e':eK (tgN 8) eR ((cC so p d).map .str) [some (.tup rows,false),some (.int known,false),some (.lst (so.map clD),false),some (.dt hk hv,false),some (.int x.2,false),some (.str p,false),some (.int d,false),some (.lst [],true),none,none]=some (.nx [some (.tup rows,false),some (.int known,false),some (.lst (so.map clD),false),some (.dt hk hv,false),some (.int x.2,false),some (.str p,false),some (.int d,false),some (.lst ((o6 (aq rows known) so hk hv p d x.2).map clD),true),v8,v9]):=by
  rw[el]
  have:(cC so p d).take ((cC so p d).map D.str).length=cC so p d:=by rw[List.length_map,List.take_length]
  rw[this]
  rfl
 have hset:∀ρ:DL.Env,ρ[2]? = some (some (.lst (so.map clD),false))->ρ[5]? = some (some (.str p,false))->ρ[6]? = some (some (.int d,false))->cK (f1 eD (cr (cK (af 2)) 1 [5,6] (tgN 0) (cD (tOf (f2 dEq (f2 ixD (af 0) (fC (.int 1))) (af 1))) (tOf (fA bJ (ae (af 0) (ae (af 2) aj))))) (f2 ixD (af 0) (fC (.int 0))))) ρ=some ((cC so p d).map .str):=λρ q2 q5 q6=>by
  have hc:=jg (fi:=cK (af 2)) (nT:=1) (cap:=[5,6]) (tg:=tgN 0) (c:=cD (tOf (f2 dEq (f2 ixD (af 0) (fC (.int 1))) (af 1))) (tOf (fA bJ (ae (af 0) (ae (af 2) aj))))) (fe:=f2 ixD (af 0) (fC (.int 0))) (ρ:=ρ) so clD (λc=>decide (c.p=p) && fz c d) (λc=>.str c.o) (by simp[q2]) (by omega) λc hc =>
   ⟨_,rfl,bS (aF (b:=false) (aB (x:=.str c.p) (y:=.str p) (b1:=false) (b2:=false) (aB (x:=clD c) (y:=.int 1) (b1:=false) (b2:=false) (by simp[bV]) rfl (cl1 c)) (by simp[bV,q5]) (by simp))) λ_=>aF (b:=false) (ah (ds:=[clD c,.int d]) (by simp[bV,q6]) (oh c d)),λ_=>⟨false,aB (x:=clD c) (y:=.int 0) (b1:=false) (b2:=false) (by simp[bV]) rfl (cl0 c)⟩⟩
  have e2:(so.filter λc=>decide (c.p=p) && fz c d).map (λc=>D.str c.o)=((so.filter λc=>decide (c.p=p) && fz c d).map (·.o)).map .str:=by rw[List.map_map];rfl
  rw[e2]at hc
  show(f1 eD _ ρ).bind _=_
  unfold f1
  rw[hc,Option.bind_some]
  have hln:((so.filter λc=>decide (c.p=p) && fz c d).map (·.o)).length<64:=by rw[List.length_map];exact Nat.lt_of_le_of_lt (List.length_filter_le _ _) (by omega)
  show((fm _).bind _).bind _=_
  rw[oy,Option.bind_some,if_pos hln]
  rfl
 refine aA rfl (aO (d:=.str p) (b:=false) (ah (ds:=[x.1,.str "person"]) (by simp[ha]) hpart) rfl (aO (d:=.int d) (b:=false) (ah (ds:=[x.1]) (by simp[ha]) hday) rfl (cy (ds:=[]) (by simp[sizeLine]) rfl (de (ρ':=[some (.tup rows,false),some (.int known,false),some (.lst (so.map clD),false),some (.dt hk hv,false),some (.int x.2,false),some (.str p,false),some (.int d,false),some (.lst ((o6 (aq rows known) so hk hv p d x.2).map clD),true),v8,v9]) ?_ (kg rfl)))))
 exact mC (ρ:=[some (.tup rows,false),some (.int known,false),some (.lst (so.map clD),false),some (.dt hk hv,false),some (.int x.2,false),some (.str p,false),some (.int d,false),some (.lst [],true),none,none]) (hset _ rfl rfl rfl) e'
theorem Bj {rows:List D}(g:eI rows) (known:Int) (so:List Cl) (hso:so.length<=60) (hk:List (List Key)) (hv:List D) (hhv:∀v∈hv,∃s,v=.str s) {x:D×Nat}(hx:x∈aq rows known) {a d:Int}{p:Str}(e:x.1=row a ("death" : Str) [.int d,.str p]) :
  eu [.tup rows,.int known,.lst (so.map clD),.dt hk hv,.int x.2]=some (.lst ((bK so (so.map Cl.o) p d++o6 (aq rows known) so hk hv p d x.2).map clD),true):=by
 have ha:=(cF g hx).1
 have hpart:av [x.1,.str "person"]=some (.str p,false):=by rw[e];exact bw (i:=1) (br (by decide +kernel)) rfl
 have hday:aP [x.1]=some (.int d,false):=by rw[e];exact gt (.inl (by decide +kernel)) rfl
 have h1:=qo (fi:=cK (af 2)) (nT:=1) (cap:=[]) (tg:=tgN 0) (fe:=f2 ixD (af 0) (fC (.int 0))) (ρ:=[some (.tup rows,false),some (.int known,false),some (.lst (so.map clD),false),some (.dt hk hv,false),some (.int x.2,false),none,none]) so clD (λc=>.str c.o) (by simp) (by omega) λc hc=>⟨_,rfl,false,aB (x:=clD c) (y:=.int 0) (b1:=false) (b2:=false) (by simp[bV]) rfl (cl0 c)⟩
 have e2:so.map (λc=>D.str c.o)=(so.map Cl.o).map .str:=by rw[List.map_map];rfl
 rw[e2]at h1
 have hl1:=dW (so.map Cl.o) p d so
 have hl2:(o6 (aq rows known) so hk hv p d x.2).length<=60:=Nat.le_trans (o7 _ (jx _ _ _ _ _ _) _) (Nat.le_trans (uH so p d) hso)
 refine aA rfl (cy (ds:=(so.map Cl.o).map .str) h1 (cR _) (cy (ds:=(bK so (so.map Cl.o) p d).map clD) (ah (ds:=[.lst (so.map clD),.lst ((so.map Cl.o).map .str),.str p,.int d]) (au (b:=false) rfl (au (b:=false) rfl (au (b:=false) (ah (ds:=[x.1,.str "person"]) (by simp[ha]) hpart) (au (b:=false) (ah (ds:=[x.1]) (by simp[ha]) hday) rfl)))) (uF so hso _ p d)) (gy _) (aE ?_)))
 refine aB (x:=.lst ((bK so (so.map Cl.o) p d).map clD)) (y:=.lst ((o6 (aq rows known) so hk hv p d x.2).map clD)) (b1:=false) (b2:=true) rfl (ah (ds:=[.tup rows,.int known,.lst (so.map clD),.dt hk hv,.int x.2]) rfl (rY g known so hso hk hv hhv hx e)) ?_
 rw[List.map_append]
 exact if_pos (cN (by rw[List.length_map,List.length_map];omega))
abbrev St3:=List Cl×List (List Key)×List D
def df (K:KL) (st:St3) (x:D×Nat):St3 :=
 if cj K st.1 x=true then
  if kindOf x.1=("named" : Str)then (st.1++[⟨a7 1 x.1,a7 2 x.1,aQ x.1,none,x.2⟩],st.2)
  else if kindOf x.1=("chosen" : Str)then (bK st.1 [a7 2 x.1] (a7 1 x.1) (iA 4 x.1)++[⟨a7 2 x.1,a7 3 x.1,iA 4 x.1,none,x.2⟩],st.2)
  else if kindOf x.1=("heir" : Str)then (st.1,dF st.2.1 [.inr (a7 2 x.1),.inr (a7 1 x.1)],dG st.2.1 st.2.2 [.inr (a7 2 x.1),.inr (a7 1 x.1)] (.str (a7 3 x.1)))
  else (bK st.1 (st.1.map Cl.o) (a7 1 x.1) (aQ x.1)++o6 K st.1 st.2.1 st.2.2 (a7 1 x.1) (aQ x.1) x.2,st.2)
 else st
def dD (K:KL):KL:=gY (λx=>cJ (kA x)) (K.filter λx=>!bf x.1)
def kH (K:KL) (l:KL):St3:=l.foldl (df K) ([],[],[])
def kC (c:Cl):List At:=[.s c.o,.i c.s,.i c.n]
def aV (K:KL):List Cl:=gY (λc=>cJ (kC c)) (kH K (dD K)).1
def wH:List Key->Str
 | [_,.inr p]=>p
 | _=>("" : Str)
def lvK (dd:List Str) (ks:List (List Key)):Nat:=(ks.filter λk=>decide (wH k∉dd)).length
structure SoOk (K l:KL) (dd:List Str) (st:St3):Prop where
 len:st.1.length+lvK dd st.2.1<=l.length
 ded:∀q∈dd,∃y∈l,f7 K q (aQ y.1) y.2=true
 nod:(st.1.map λc=>(c.o,c.n)).Nodup
 num:∀c∈st.1,c.n∈l.map (·.2)
 hs:∀v∈st.2.2,∃s,v=D.str s
 hk:st.2.1.length<=l.length
theorem yk {ws:List Str}{p:Str}{d:Int}{r:D}(h:told ws p d r=true):aQ r<=d/\∀d',aQ r<=d'->told ws p d' r=true:=by
 unfold told at h
 split at h
 ·rename_i k a9
  rw[Bool.and_eq_true]at h
  obtain⟨h1,h2⟩:=h
  unfold qw at h2
  split at h2
  ·rename_i dd q
   rw[Bool.and_eq_true]at h2
   refine⟨of_decide_eq_true h2.2,λd' hd=>?_⟩
   unfold told
   rw[Bool.and_eq_true]
   refine⟨h1, ?_⟩
   unfold qw
   rw[Bool.and_eq_true]
   exact⟨h2.1,decide_eq_true hd⟩
  ·cases h2
 ·cases h
theorem o8:∀(r:KL) (b:D×Nat),m6 b r∈b::r/\∀y∈b::r,gu y (m6 b r)=false
 | [],b=>⟨by simp[m6],λy hy=>by rw[List.mem_singleton.mp hy];simp[m6,gu]⟩
 | x::r,b=>by
  rw[m6,wD]
  by_cases h:gu x b=true
  ·rw[if_pos (by rw[h])]
   obtain⟨h1,h2⟩:=o8 r x
   refine⟨mZ _ h1,λy hy=>?_⟩
   rcases List.mem_cons.mp hy with rfl|hy
   ·have:=h2 x mX
    unfold gu at *
    simp at *
    omega
   ·exact h2 y hy
  ·rw[if_neg (by simpa using h)]
   obtain⟨h1,h2⟩:=o8 r b
   refine⟨?_,λy hy=>?_⟩
   ·rcases List.mem_cons.mp h1 with e|e
    ·rw[e];exact mX
    ·exact mZ _ (mZ _ e)
   ·rcases List.mem_cons.mp hy with rfl|hy
    ·exact h2 _ mX
    ·rcases List.mem_cons.mp hy with rfl|hy
     ·have:=h2 b mX
      unfold gu at *
      simp at *
      omega
     ·exact h2 y (mZ _ hy)
theorem o9 {K:KL}{p:Str}{d:Int}{i:Nat}(h:f7 K p d i=true):∃m∈K,told cS p d m.1=true/\m.2=i/\∀y∈K,told cS p d y.1=true->gu y m=false:=by
 unfold f7 at h
 split at h
 ·cases h
 ·rename_i b r e
  obtain⟨h1,h2⟩:=o8 r b
  rw[←e]at h1 h2
  obtain⟨h3,h4⟩:=List.mem_filter.mp h1
  exact⟨_,h3,h4,of_decide_eq_true h,λy hy ht=>h2 y (List.mem_filter.mpr ⟨hy,ht⟩)⟩
theorem wI {K:KL}{p:Str}{d1 d2:Int}{i1 i2:Nat}(h1:f7 K p d1 i1=true) (h2:f7 K p d2 i2=true):i1=i2:=by
 obtain⟨m1,k1,t1,e1,q1⟩:=o9 h1
 obtain⟨m2,k2,t2,e2,q2⟩:=o9 h2
 have a1:=yk t1
 have a2:=yk t2
 by_cases hd:d1<=d2
 ·have z1:=q2 m1 k1 (a1.2 d2 (by omega))
  have hm:aQ m2.1<=aQ m1.1:=by unfold gu at z1;simp at z1;omega
  have z2:=q1 m2 k2 (a2.2 d1 (by omega))
  unfold gu at z1 z2
  simp at z1 z2
  omega
 ·have z1:=q1 m2 k2 (a2.2 d1 (by omega))
  have hm:aQ m1.1<=aQ m2.1:=by unfold gu at z1;simp at z1;omega
  have z2:=q2 m1 k1 (a1.2 d2 (by omega))
  unfold gu at z1 z2
  simp at z1 z2
  omega
theorem uI {κ:Type}[DecidableEq κ]:∀ {ks:List κ}{vs:List D}{k:κ}{v:D},cu ks vs k=some v->k∈ks
 | k'::ks,d::ds,k,v,h=>by
  unfold cu at h
  split at h
  ·rename_i e;rw[←e];exact mX
  ·exact mZ _ (uI h)
 | [],_,_,_,h=>by simp[cu]at h
 | _::_,[],_,_,h=>by simp[cu]at h
theorem oA (p:Str) (dd:List Str) (hp:p∉dd):∀ks:List (List Key),lvK dd ks=lvK (p::dd) ks+(ks.filter λk=>decide (wH k=p)).length
 | []=>rfl
 | k::ks=>by
  have ih:=oA p dd hp ks
  unfold lvK at ih ⊢
  by_cases e:wH k=p
  ·rw[List.filter_cons_of_pos (by simpa [e]using hp),List.filter_cons_of_neg (by simp[e]),List.filter_cons_of_pos (by simp[e]),List.length_cons,List.length_cons]
   omega
  ·by_cases h:wH k∈dd
   ·rw[List.filter_cons_of_neg (by simp[h]),List.filter_cons_of_neg (by simp[h]),List.filter_cons_of_neg (by simp[e])]
    exact ih
   ·rw[List.filter_cons_of_pos (by simp[h]),List.filter_cons_of_pos (by simp[h,e]),List.filter_cons_of_neg (by simp[e]),List.length_cons,List.length_cons]
    omega
theorem iY (offs:List Str) (p:Str) (day:Int):∀so:List Cl,((bK so offs p day).map λc=>(c.o,c.n)).Sublist (so.map λc=>(c.o,c.n))
 | []=>List.Sublist.slnil
 | c::so=>by
  have ih:=iY offs p day so
  unfold bK at ih ⊢
  rw[List.flatMap_cons,List.map_append,List.map_cons]
  have:((dU offs p day c).map λc=>(c.o,c.n))=[(c.o,c.n)]∨((dU offs p day c).map λc=>(c.o,c.n))=[]:=by
   unfold dU
   split
   ·exact .inl rfl
   ·split
    ·exact .inl rfl
    ·exact .inr rfl
  rcases this with h|h
  ·rw[h];exact ih.cons₂ _
  ·rw[h];exact ih.cons _
theorem iZ {offs:List Str}{p:Str}{day:Int}{so:List Cl}{c:Cl}(h:c∈bK so offs p day):∃c'∈so,c'.o=c.o/\c'.n=c.n:=by
 have:=(iY offs p day so).subset (List.mem_map.mpr ⟨c,h,rfl⟩)
 obtain⟨c',h1,h2⟩:=List.mem_map.mp this
 injection h2 with h3 h4
 exact⟨c',h1,h3,h4⟩
theorem gz:∀(ss ts:List Str),ts.Nodup->(ss.foldl hW ts).Nodup
 | [],_,h=>h
 | s::ss,ts,h=>gz ss _ (wc h s)
theorem oB (so:List Cl) (p:Str) (day:Int):(cC so p day).Nodup:=(dM _).nodup_iff.mpr (gz _ [] List.nodup_nil)
theorem uJ (K:KL) (hk:List (List Key)) (hv:List D) (p:Str) (day:Int) (n:Nat):∀os:List Str,((os.flatMap (cU K hk hv p day n)).map λc=>(c.o,c.n)).Sublist (os.map λo=>(o,n))
 | []=>List.Sublist.slnil
 | o::os=>by
  have ih:=uJ K hk hv p day n os
  rw[List.flatMap_cons,List.map_append,List.map_cons]
  have:((cU K hk hv p day n o).map λc=>(c.o,c.n))=[(o,n)]∨((cU K hk hv p day n o).map λc=>(c.o,c.n))=[]:=by
   unfold cU
   split
   ·split
    ·exact .inl rfl
    ·exact .inr rfl
   ·exact .inr rfl
  rcases this with h|h
  ·rw[h];exact ih.cons₂ _
  ·rw[h];exact ih.cons _
theorem qB {α:Type}[DecidableEq α]:∀(l m:List α),l.Nodup->(∀x∈l,x∈m)->l.length<=m.length
 | [],_,_,_=>Nat.zero_le _
 | x::l,m,h,s=>by
  rw[List.nodup_cons]at h
  have hx:=s x mX
  have:=qB l (m.erase x) h.2 λy hy=>(List.mem_erase_of_ne (a:=y) (b:=x) (λe=>h.1 (by rw[←e];exact hy))).mpr (s y (mZ _ hy))
  rw[List.length_erase_of_mem hx]at this
  have:0<m.length:=List.length_pos_of_mem hx
  rw[List.length_cons]
  omega
theorem qC {α β:Type}(f:α->List β) (q:α->Bool) (h:∀a,(f a).length<=1/\(q a=false->f a=[])):∀l:List α,(l.flatMap f).length<=(l.filter q).length
 | []=>Nat.le_refl _
 | a::l=>by
  have ih:=qC f q h l
  rw[List.flatMap_cons,List.length_append]
  cases hq:q a with
  | true=>rw[List.filter_cons_of_pos hq,List.length_cons];have:=(h a).1;omega
  | false=>rw[List.filter_cons_of_neg (by rw[hq];decide),(h a).2 hq];simpa using ih
theorem CZ (K:KL) (so:List Cl) (hk:List (List Key)) (hv:List D) (p:Str) (day:Int) (n:Nat):(o6 K so hk hv p day n).length<=(hk.filter λk=>decide (wH k=p)).length:=by
 refine Nat.le_trans (qC _ (λo=>(cu hk hv [.inr o,.inr p]).isSome) (λo=>⟨jx _ _ _ _ _ _ _,λh=>?_⟩) _) ?_
 ·have hl:cu hk hv [.inr o,.inr p]=none:=by simpa using h
  unfold cU uG
  rw[hl]
 ·have hnd:(((cC so p day).filter λo=>(cu hk hv [.inr o,.inr p]).isSome).map λo=>([.inr o,.inr p]:List Key)).Nodup:=List.Pairwise.map _ (λa b hab e=>hab (by injection e with e _;injection e)) ((oB so p day).filter _)
  have:=qB _ (hk.filter λk=>decide (wH k=p)) hnd λk hm=>by
   obtain⟨o,ho,rfl⟩:=List.mem_map.mp hm
   obtain⟨v,hv⟩:=Option.isSome_iff_exists.mp (List.mem_filter.mp ho).2
   exact List.mem_filter.mpr ⟨uI hv,decide_eq_true rfl⟩
  rwa [List.length_map]at this
theorem SoOk.step {K l:KL}{dd:List Str}{st:St3}(h:SoOk K l dd st) {x:D×Nat}(hx:x.2∉l.map (·.2)):∃dd',SoOk K (l++[x]) dd' (df K st x):=by
 have up:∀ {n:Nat},n∈l.map (·.2)->n∈(l++[x]).map (·.2):=λh=>by rw[List.map_append];exact List.mem_append_left _ h
 have me:x.2∈(l++[x]).map (·.2):=by simp
 have ll:(l++[x]).length=l.length+1:=by simp
 have dup:∀q∈dd,∃y∈l++[x],f7 K q (aQ y.1) y.2=true:=λq hq=>by
  obtain⟨y,h1,h2⟩:=h.ded q hq
  exact⟨y,List.mem_append_left _ h1,h2⟩
 have wk:SoOk K (l++[x]) dd st:=⟨by have:=h.len;omega,dup,h.nod,λc hc=>up (h.num c hc),h.hs,by have:=h.hk;omega⟩
 have hlen:=h.len
 unfold df
 split
 ·rename_i hcount
  split
  ·refine⟨dd,by simp;omega,dup, ?_,λc hc=>?_,h.hs,by rw[ll];exact Nat.le_succ_of_le h.hk⟩
   ·rw[List.map_append,List.nodup_append]
    refine⟨h.nod,by simp,λa ha b hb e=>?_⟩
    obtain⟨c,hc,rfl⟩:=List.mem_map.mp ha
    simp at hb
    subst hb
    injection e with _ e2
    exact hx (e2 ▸ h.num c hc)
   ·rcases List.mem_append.mp hc with hc|hc
    ·exact up (h.num c hc)
    ·rw[List.mem_singleton.mp hc];exact me
  ·split
   ·have hl:=dW [a7 2 x.1] (a7 1 x.1) (iA 4 x.1) st.1
    refine⟨dd,by simp;omega,dup, ?_,λc hc=>?_,h.hs,by rw[ll];exact Nat.le_succ_of_le h.hk⟩
    ·rw[List.map_append,List.nodup_append]
     refine⟨h.nod.sublist (iY _ _ _ _),by simp,λa ha b hb e=>?_⟩
     obtain⟨c,hc,rfl⟩:=List.mem_map.mp ha
     simp at hb
     subst hb
     injection e with _ e2
     obtain⟨c',h1,_,h3⟩:=iZ hc
     exact hx (e2 ▸ h3 ▸ h.num c' h1)
    ·rcases List.mem_append.mp hc with hc|hc
     ·obtain⟨c',h1,_,h3⟩:=iZ hc
      rw[←h3];exact up (h.num c' h1)
     ·rw[List.mem_singleton.mp hc];exact me
   ·split
    ·have hp:∀k:List Key,lvK dd (dF st.2.1 k)<=lvK dd st.2.1+1/\(dF st.2.1 k).length<=st.2.1.length+1:=λk=>by
      unfold dF
      split
      ·omega
      ·have:([k].filter λk=>decide (wH k∉dd)).length<=1:=List.length_filter_le _ _
       unfold lvK
       rw[List.filter_append,List.length_append,List.length_append,List.length_singleton]
       omega
     refine⟨dd, ?_,dup,wk.nod,wk.num,λv hv=>?_, ?_⟩
     ·have:=(hp [.inr (a7 2 x.1),.inr (a7 1 x.1)]).1
      rw[ll]
      show st.1.length+lvK dd (dF st.2.1 [.inr (a7 2 x.1),.inr (a7 1 x.1)])<=_
      omega
     ·rcases qz hv with hv|hv
      ·exact⟨_,hv⟩
      ·exact h.hs v hv
     ·have:=(hp [.inr (a7 2 x.1),.inr (a7 1 x.1)]).2
      have:=h.hk
      rw[ll]
      show(dF _ _).length<=_
      omega
    ·rename_i n1 n2 n3
     have hd:kindOf x.1=("death" : Str):=by
      unfold cj at hcount
      by_cases hd:kindOf x.1=("death" : Str)
      ·exact hd
      ·rw[if_neg hd,if_neg (by simp[rX,n1,n2,n3])]at hcount
       cases hcount
     have hf:f7 K (a7 1 x.1) (aQ x.1) x.2=true:=by unfold cj at hcount;rwa [if_pos hd]at hcount
     have hnp:a7 1 x.1∉dd:=λhm=>by
      obtain⟨y,h1,h2⟩:=h.ded _ hm
      exact hx (by rw[←wI h2 hf];exact List.mem_map.mpr ⟨y,h1,rfl⟩)
     have hl:=dW (st.1.map Cl.o) (a7 1 x.1) (aQ x.1) st.1
     have hio:=CZ K st.1 st.2.1 st.2.2 (a7 1 x.1) (aQ x.1) x.2
     have hks:=oA (a7 1 x.1) dd hnp st.2.1
     have hik:=uJ K st.2.1 st.2.2 (a7 1 x.1) (aQ x.1) x.2 (cC st.1 (a7 1 x.1) (aQ x.1))
     have him:∀c∈o6 K st.1 st.2.1 st.2.2 (a7 1 x.1) (aQ x.1) x.2,c.o∈cC st.1 (a7 1 x.1) (aQ x.1)/\c.n=x.2:=λc hc=>by
      have:=hik.subset (List.mem_map.mpr ⟨c,hc,rfl⟩)
      obtain⟨o,h1,h2⟩:=List.mem_map.mp this
      injection h2 with h3 h4
      exact⟨h3 ▸ h1,h4.symm⟩
     refine⟨a7 1 x.1::dd, ?_,λq hq=>?_, ?_,λc hc=>?_,h.hs,by rw[ll];exact Nat.le_succ_of_le h.hk⟩
     ·rw[ll]
      show(bK st.1 (st.1.map Cl.o) (a7 1 x.1) (aQ x.1)++o6 K st.1 st.2.1 st.2.2 (a7 1 x.1) (aQ x.1) x.2).length+lvK _ st.2.1<=_
      rw[List.length_append]
      omega
     ·rcases List.mem_cons.mp hq with rfl|hq
      ·exact⟨x,by simp,hf⟩
      ·exact dup q hq
     ·rw[List.map_append,List.nodup_append]
      refine⟨h.nod.sublist (iY _ _ _ _),List.Nodup.sublist hik (List.Pairwise.map _ (λa b hab e=>hab (by injection e)) (oB _ _ _)),λa ha b hb e=>?_⟩
      obtain⟨c,hc,rfl⟩:=List.mem_map.mp ha
      obtain⟨c2,hc2,rfl⟩:=List.mem_map.mp hb
      injection e with _ e2
      obtain⟨c',h1,_,h3⟩:=iZ hc
      exact hx ((him c2 hc2).2 ▸ e2 ▸ h3 ▸ h.num c' h1)
     ·rcases List.mem_append.mp hc with hc|hc
      ·obtain⟨c',h1,_,h3⟩:=iZ hc
       rw[←h3];exact up (h.num c' h1)
      ·rw[(him c hc).2];exact me
 ·exact⟨dd,wk⟩
theorem Da {ρ:DL.Env}{i:Nat}{ks:List (List Key)}{vs:List D}{fk:FA}{fv:FE}{d:D}{b:Bool}{kd:List D}{kk:List Key}(e:ρ[i]? = some (some (.dt ks vs,true))) (ev:fv ρ=some (d,b)) (ek:fk ρ=some kd) (hk:fJ kd=some kk) (hf:bi d=true) (h1:ks.length<=1000) (h2:kd.length<=1000):ql i fk fv ρ=some (.nx (ρ.set i (some (.dt (dF ks kk) (dG ks vs kk d),true)))):=by
 unfold ql
 rw[e]
 dsimp only
 rw[ev,Option.bind_some,ek,Option.bind_some,hk,Option.bind_some,if_pos ⟨hf,bG (by omega),cN (by omega)⟩]
theorem HN (a b:Cl):(bv (kC a) (kC b)).isSome=true:=by
 unfold kC
 rw[bv]
 split
 ·rw[bv]
  split
  ·rw[bv]
   split
   ·rw[bv];rfl
   ·rfl
  ·rfl
 ·rfl
theorem ym (cs:List Cl):eE (cs.map kC)=true:=by
 unfold eE
 simp[List.all_eq_true,HN]
theorem qD {α β:Type}(f:α->β):∀ {l:List α},(l.map f).Nodup->∀ {a b:α},a∈l->b∈l->f a=f b->a=b
 | [],_,_,_,ha,_,_=>by cases ha
 | c::l,h,a,b,ha,hb,e=>by
  rw[List.map_cons,List.nodup_cons]at h
  rcases List.mem_cons.mp ha with ea|ha1
  ·rcases List.mem_cons.mp hb with eb|hb1
   ·rw[ea,eb]
   ·exact absurd (List.mem_map.mpr ⟨b,hb1,by rw[←e,ea]⟩) h.1
  ·rcases List.mem_cons.mp hb with eb|hb1
   ·exact absurd (List.mem_map.mpr ⟨a,ha1,by rw[e,eb]⟩) h.1
   ·exact qD f h.2 ha1 hb1 e
theorem Bk {cs:List Cl}{a b:Cl}(ha:a∈cs) (hb:b∈cs) (e:cJ (kC a)=cJ (kC b)):(a.o,a.n)=(b.o,b.n):=by
 have h:=qe (ym cs) (List.mem_map.mpr ⟨a,ha,rfl⟩) (List.mem_map.mpr ⟨b,hb,rfl⟩) e
 unfold kC at h
 injection h with h1 h2
 injection h1 with h1
 injection h2 with _ h3
 injection h3 with h3 _
 injection h3 with h3
 rw[h1,show a.n=b.n by omega]
theorem Db {rows:List D}(g:eI rows) (known:Int) {l:KL}{dd:List Str}{st:St3}(h:SoOk (aq rows known) l dd st) (hj:l.length<=60) {x:D×Nat}(hx:x∈aq rows known) (hnr:bf x.1=false) (v5:Option (D×Bool)) :
  ∃w5,(iU [some (.tup rows,false),some (.int known,false),some (.lst (st.1.map clD),true),some (.dt st.2.1 st.2.2,true),some (.int x.2,false),v5]=some (.nx [some (.tup rows,false),some (.int known,false),some (.lst ((df (aq rows known) st x).1.map clD),true),some (.dt (df (aq rows known) st x).2.1 (df (aq rows known) st x).2.2,true),some (.int x.2,false),w5])
   ∨ iU [some (.tup rows,false),some (.int known,false),some (.lst (st.1.map clD),true),some (.dt st.2.1 st.2.2,true),some (.int x.2,false),v5]=some (.ct [some (.tup rows,false),some (.int known,false),some (.lst ((df (aq rows known) st x).1.map clD),true),some (.dt (df (aq rows known) st x).2.1 (df (aq rows known) st x).2.2,true),some (.int x.2,false),w5])):=by
 obtain⟨ha,gx⟩:=cF g hx
 have hso:st.1.length<=60:=by have:=h.len;omega
 have hf:bi x.1=true:=gx.rp.flat
 have ec:=zg g known st.1 hso hx hnr
 have ecall:fZ (tOf (fA iu (ae (af 0) (ae (af 1) (ae (af 2) (ae (af 4) aj)))))) [some (.tup rows,false),some (.int known,false),some (.lst (st.1.map clD),true),some (.dt st.2.1 st.2.2,true),some (.int x.2,false),some (x.1,false)]=some (!cj (aq rows known) st.1 x) :=
  gH (aF (b:=false) (ah (ds:=[.tup rows,.int known,.lst (st.1.map clD),.int x.2]) (by simp) ec))
 have hw:fA aD (ae (af 5) aj) [some (.tup rows,false),some (.int known,false),some (.lst (st.1.map clD),true),some (.dt st.2.1 st.2.2,true),some (.int x.2,false),some (x.1,false)]=some (.str (kindOf x.1),false):=ah (ds:=[x.1]) rfl (l5 gx)
 refine⟨some (x.1,false), ?_⟩
 cases hc:cj (aq rows known) st.1 x with
 | false =>
  rw[hc]at ecall
  have es:df (aq rows known) st x=st:=by unfold df;rw[hc];rfl
  rw[es]
  exact .inr (aO (d:=x.1) (b:=false) (by simp[ha]) hf (HM (gk ecall rfl)))
 | true =>
  rw[hc]at ecall
  left
  refine aO (d:=x.1) (b:=false) (by simp[ha]) hf (de (gl ecall rfl) ?_)
  by_cases hn:kindOf x.1=("named" : Str)
  ·have es:df (aq rows known) st x=(st.1++[⟨a7 1 x.1,a7 2 x.1,aQ x.1,none,x.2⟩],st.2):=by unfold df;rw[hc,if_pos rfl,if_pos hn]
   rw[es]
   refine gk (aK (bb:=false) hw (decide_eq_true hn)) ?_
   have hpo:av [x.1,.str "office"]=some (.str (a7 1 x.1),false)/\av [x.1,.str "person"]=some (.str (a7 2 x.1),false):=by
    obtain⟨a,k,a9,e,d⟩:=gx
    rw[e]at hn ⊢
    replace hn:k=("named" : Str):=hn
    cases d with
    | named d o p=>exact⟨bw (i:=1) (br (by decide +kernel)) rfl,bw (i:=2) (br (by decide +kernel)) rfl⟩
    | root=>exact absurd hn (by decide +kernel)
    | chosen=>exact absurd hn (by decide +kernel)
    | heir=>exact absurd hn (by decide +kernel)
    | three _ hk=>rcases hk with rfl|rfl|rfl<;>exact absurd hn (by decide +kernel)
    | other _ hk=>rcases hk with rfl|rfl|rfl|rfl|rfl<;>exact absurd hn (by decide +kernel)
   have hday:aP [x.1]=some (.int (aQ x.1),false):=by rw[qx gx];unfold rS;rw[hnr];rfl
   have e2:f2 bD (af 2) (fA bB (ae (fA cO (ae (af 5) (ae (fA aP (ae (af 5) aj)) (ae (af 4) aj)))) aj)) [some (.tup rows,false),some (.int known,false),some (.lst (st.1.map clD),true),some (.dt st.2.1 st.2.2,true),some (.int x.2,false),some (x.1,false)]=some (.lst (st.1.map clD++[clD ⟨a7 1 x.1,a7 2 x.1,aQ x.1,none,x.2⟩]),true):=by
    refine aB (x:=.lst (st.1.map clD)) (y:=.lst [clD ⟨a7 1 x.1,a7 2 x.1,aQ x.1,none,x.2⟩]) (b1:=false) (b2:=true) rfl ?_ (if_pos (cN (by rw[List.length_map,List.length_singleton];omega)))
    exact ah (ds:=[clD ⟨a7 1 x.1,a7 2 x.1,aQ x.1,none,x.2⟩]) (au (ah (ds:=[x.1,.int (aQ x.1),.int x.2]) (au (b:=false) rfl (au (b:=false) (ah (ds:=[x.1]) rfl hday) rfl)) (DT hpo.1 hpo.2 _ _)) rfl) (f6 _ (by simp))
   have:=rO (i:=2) e2 (by have hq:=gy (st.1++[(⟨a7 1 x.1,a7 2 x.1,aQ x.1,none,x.2⟩:Cl)]);rwa [List.map_append]at hq)
   rw[List.map_append]
   exact this
  ·refine gl (aK (bb:=false) hw (decide_eq_false hn)) ?_
   by_cases hch:kindOf x.1=("chosen" : Str)
   ·have es:df (aq rows known) st x=(bK st.1 [a7 2 x.1] (a7 1 x.1) (iA 4 x.1)++[⟨a7 2 x.1,a7 3 x.1,iA 4 x.1,none,x.2⟩],st.2):=by unfold df;rw[hc,if_pos rfl,if_neg hn,if_pos hch]
    rw[es]
    refine gk (aK (bb:=false) hw (decide_eq_true hch)) (rO (i:=2) (ah (ds:=[.lst (st.1.map clD),x.1,.int x.2]) rfl ?_) (gy _))
    obtain⟨a,k,a9,e,d⟩:=gx
    rw[e]at hch ⊢
    replace hch:k=("chosen" : Str):=hch
    cases d with
    | chosen d b o p s=>exact zh st.1 hso x.2
    | root=>exact absurd hch (by decide +kernel)
    | named=>exact absurd hch (by decide +kernel)
    | heir=>exact absurd hch (by decide +kernel)
    | three _ hk=>rcases hk with rfl|rfl|rfl<;>exact absurd hch (by decide +kernel)
    | other _ hk=>rcases hk with rfl|rfl|rfl|rfl|rfl<;>exact absurd hch (by decide +kernel)
   ·refine gl (aK (bb:=false) hw (decide_eq_false hch)) ?_
    by_cases hh:kindOf x.1=("heir" : Str)
    ·have es:df (aq rows known) st x=(st.1,dF st.2.1 [.inr (a7 2 x.1),.inr (a7 1 x.1)],dG st.2.1 st.2.2 [.inr (a7 2 x.1),.inr (a7 1 x.1)] (.str (a7 3 x.1))):=by unfold df;rw[hc,if_pos rfl,if_neg hn,if_neg hch,if_pos hh]
     rw[es]
     have hpo:av [x.1,.str "office"]=some (.str (a7 2 x.1),false)/\av [x.1,.str "by"]=some (.str (a7 1 x.1),false)/\av [x.1,.str "person"]=some (.str (a7 3 x.1),false):=by
      obtain⟨a,k,a9,e,d⟩:=gx
      rw[e]at hh ⊢
      replace hh:k=("heir" : Str):=hh
      cases d with
      | heir d b o p=>exact⟨bw (i:=2) (br (by decide +kernel)) rfl,bw (i:=1) (br (by decide +kernel)) rfl,bw (i:=3) (br (by decide +kernel)) rfl⟩
      | root=>exact absurd hh (by decide +kernel)
      | named=>exact absurd hh (by decide +kernel)
      | chosen=>exact absurd hh (by decide +kernel)
      | three _ hk=>rcases hk with rfl|rfl|rfl<;>exact absurd hh (by decide +kernel)
      | other _ hk=>rcases hk with rfl|rfl|rfl|rfl|rfl<;>exact absurd hh (by decide +kernel)
     exact gk (aK (bb:=false) hw (decide_eq_true hh)) (Da (ks:=st.2.1) (vs:=st.2.2) (kd:=[.str (a7 2 x.1),.str (a7 1 x.1)]) (b:=false) rfl (ah (ds:=[x.1,.str "person"]) rfl hpo.2.2) (au (ah (ds:=[x.1,.str "office"]) rfl hpo.1) (au (ah (ds:=[x.1,.str "by"]) rfl hpo.2.1) rfl)) rfl rfl (by have:=h.hk;omega) (by simp))
    ·refine gl (aK (bb:=false) hw (decide_eq_false hh)) ?_
     have es:df (aq rows known) st x=(bK st.1 (st.1.map Cl.o) (a7 1 x.1) (aQ x.1)++o6 (aq rows known) st.1 st.2.1 st.2.2 (a7 1 x.1) (aQ x.1) x.2,st.2):=by unfold df;rw[hc,if_pos rfl,if_neg hn,if_neg hch,if_neg hh]
     rw[es]
     have hd:kindOf x.1=("death" : Str):=by
      unfold cj at hc
      by_cases hd:kindOf x.1=("death" : Str)
      ·exact hd
      ·rw[if_neg hd,if_neg (by simp[rX,hn,hch,hh])]at hc
       cases hc
     refine rO (i:=2) (ah (ds:=[.tup rows,.int known,.lst (st.1.map clD),.dt st.2.1 st.2.2,.int x.2]) (by simp) ?_) (gy _)
     obtain⟨a,k,a9,e,d⟩:=gx
     have hk:k=("death" : Str):=by rw[e]at hd;exact hd
     subst hk
     obtain⟨dd,p,rfl⟩:=d.deed.three (by decide +kernel)
     have:=Bj g known st.1 hso st.2.1 st.2.2 h.hs hx e
     rw[this,e]
     rfl
theorem yn (K:KL):∀(l l0:KL) (st:St3) (dd:List Str),SoOk K l0 dd st->((l0++l).map (·.2)).Nodup->∃dd',SoOk K (l0++l) dd' (l.foldl (df K) st)
 | [],l0,st,dd,h,_=>⟨dd,by rw[List.append_nil];exact h⟩
 | x::l,l0,st,dd,h,hn=>by
  have hx:x.2∉l0.map (·.2):=λhm=>by
   rw[List.map_append,List.nodup_append]at hn
   exact hn.2.2 _ hm x.2 (by simp) rfl
  obtain⟨dd',h'⟩:=h.step hx
  have e:l0++x::l=(l0++[x])++l:=by simp
  rw[e]at hn ⊢
  exact yn K l _ _ _ h' hn
theorem yo (K l:KL) (h:(l.map (·.2)).Nodup):∃dd,SoOk K l dd (kH K l):=by
 have:=yn K l [] ([],[],[]) [] ⟨Nat.zero_le _,by simp,by simp,by simp,by simp,Nat.zero_le _⟩ h
 exact this
theorem zi {K:KL}(h:(K.map (·.2)).Nodup):((dD K).map (·.2)).Nodup:=((cM _ _).map _).nodup_iff.mpr (List.Nodup.sublist (List.Sublist.map _ List.filter_sublist) h)
theorem qE {rows:List D}(g:eI rows) (known:Int) (hlen:(dD (aq rows known)).length<=60):gp [.tup rows,.int known]=some (.lst ((aV (aq rows known)).map clD),true)/\(aV (aq rows known)).length<=60:=by
 have eL:dP [.tup rows,.int known]=some (.lst ((dD (aq rows known)).map λx=>.int x.2),true):=uC g known
 generalize hK:aq rows known=K at hlen eL ⊢
 have hmem:∀x∈dD K,x∈K/\bf x.1=false:=λx hx=>by
  obtain⟨h1,h2⟩:=List.mem_filter.mp ((cM _ _).mem_iff.mp hx)
  exact⟨h1,by simpa using h2⟩
 have hnd:((dD K).map (·.2)).Nodup:=zi (by rw[←hK];exact k7 rows known)
 obtain⟨ρ',e,v4,v5,rfl⟩:=jY (tg:=tgN 4) (g:=iU) (λj ρ=>∃v4 v5:Option (D×Bool),ρ=[some (.tup rows,false),some (.int known,false),some (.lst ((kH K ((dD K).take j)).1.map clD),true),some (.dt (kH K ((dD K).take j)).2.1 (kH K ((dD K).take j)).2.2,true),v4,v5]) ((dD K).map λx=>.int x.2)
  [some (.tup rows,false),some (.int known,false),some (.lst [],true),some (.dt [] [],true),none,none] ⟨none,none,rfl⟩ (by
   rintro j d ρ hd ⟨v4,v5,rfl⟩
   rw[List.getElem?_map]at hd
   obtain⟨x,hx,rfl⟩:=oY hd
   have hjl:j<(dD K).length:=(List.getElem?_eq_some_iff.mp hx).1
   have et:(dD K).take (j+1)=(dD K).take j++[x]:=by rw[List.take_add_one,hx];rfl
   have ef:kH K ((dD K).take (j+1))=df K (kH K ((dD K).take j)) x:=by rw[et];unfold kH;rw[List.foldl_append];rfl
   obtain⟨hxK,hxr⟩:=hmem x (List.mem_of_getElem? hx)
   obtain⟨dd,h⟩:=yo K ((dD K).take j) (List.Nodup.sublist (List.Sublist.map _ (List.take_sublist _ _)) hnd)
   rw[←hK]at h
   have hst:=Db g known h (by rw[hK,List.length_take];omega) (x:=x) (by rw[hK];exact hxK) hxr v5
   rw[hK]at hst
   obtain⟨w5,hst⟩:=hst
   exact⟨_,_,rfl,hst,some (.int x.2,false),w5,by rw[ef]⟩)
 have hall:(dD K).take ((dD K).map λx=>D.int x.2).length=dD K:=by rw[List.length_map,List.take_length]
 rw[hall]at e
 obtain⟨dd,hso⟩:=yo K (dD K) hnd
 generalize hcs:(kH K (dD K))=st at e hso
 have hcl:st.1.length<=60:=by have:=hso.len;omega
 have hCk:aV K=gY (λc=>cJ (kC c)) st.1:=by unfold aV;rw[hcs]
 have hm:∀ρ:DL.Env,hX (pz dr ρ) (st.1.map clD)=some (st.1.map λc=>.tup [.str c.o,.int c.s,.int c.n]):=λρ=>gw st.1 λc _=>by
  show(dr [clD c]).map _=_
  rw[rT]
  rfl
 have hk:cY (st.1.map λc=>D.tup [.str c.o,.int c.s,.int c.n])=some (st.1.map kC):=eW st.1 λc _=>rfl
 have hcond:(st.1.map kC).length<64/\eE (st.1.map kC)=true/\d9 (st.1.map kC)=true/\((st.1.map kC).map cJ).Nodup:=by
  refine⟨by rw[List.length_map];omega,ym _, ?_, ?_⟩
  ·unfold d9
   rw[Bool.or_eq_true]
   right
   simp[List.all_eq_true,kC]
  ·rw[List.map_map]
   have h1:st.1.Pairwise λa b=>(a.o,a.n)≠(b.o,b.n):=List.pairwise_map.mp hso.nod
   have h2:st.1.Pairwise λa b=>cJ (kC a)≠cJ (kC b):=by
    refine List.Pairwise.imp_of_mem ?_ h1
    intro a b ha hb hne e
    exact hne (Bk ha hb e)
   exact List.pairwise_map.mpr h2
 have hz:(st.1.map kC).zip (st.1.map clD)=st.1.map λc=>(kC c,clD c):=by rw[List.zip_map']
 have key:((aV K).map λc=>(kC c,clD c))=gY (λp:List At×D=>cJ p.1) (st.1.map λc=>(kC c,clD c)):=by
  rw[hCk]
  refine nj _ (λx hx y hy e=>?_) ((cM _ _).map _) ?_
  ·obtain⟨a,ha,rfl⟩:=List.mem_map.mp hx
   obtain⟨b,hb,rfl⟩:=List.mem_map.mp hy
   rw[qD (λc:Cl=>(c.o,c.n)) hso.nod ha hb (Bk ha hb e)]
  ·exact List.pairwise_map.mpr (gF _ _)
 refine⟨aA rfl (cy (ds:=[]) (by simp[sizeLine]) rfl (de (ρ':=[some (.tup rows,false),some (.int known,false),some (.lst [],true),some (.dt [] [],true),none,none]) rfl (de (mC (ds:=(dD K).map λx=>.int x.2) ?_ e) (aE ?_)))),by rw[hCk,(cM _ _).length_eq];exact hcl⟩
 ·show(fA dP (ae (af 0) (ae (af 1) aj)) _).bind _=_
  rw[ah (ds:=[.tup rows,.int known]) rfl eL]
  rfl
 ·unfold lr
  show((some (D.lst (st.1.map clD),false)).bind _)=_
  simp only[Option.bind_some]
  rw[hm]
  simp only[Option.bind_some]
  rw[hk]
  simp only[Option.bind_some]
  rw[if_pos hcond]
  unfold iq
  rw[hz,←key,List.map_map]
  rfl
def fN (K:KL) (o:Str) (day:Int):D:=match kG K o with
 | none=>.tup [.str "none"]
 | some v=>kE (aV K) (a7 0 v) (a7 3 v) day
theorem zj {rows:List D}(g:eI rows) (known:Int) (hlen:(dD (aq rows known)).length<=60) (o:Str) (day:Int):gs [.tup rows,.int known,.str o,.int day]=some (fN (aq rows known) o day,false):=by
 obtain⟨ec,hcl⟩:=qE g known hlen
 have e4:f2 wx (fA di (ae (af 0) (ae (af 1) aj))) (af 2) [some (.tup rows,false),some (.int known,false),some (.str o,false),some (.int day,false),none]=some ((kG (aq rows known) o).getD .non,false) :=
  aB (x:=.dk (bE (iB (aq rows known))).1 (bE (iB (aq rows known))).2) (y:=.str o) (b1:=false) (b2:=false) (ah (ds:=[.tup rows,.int known]) rfl (o4 g known)) rfl rfl
 unfold fN
 cases hr:kG (aq rows known) o with
 | none =>
  rw[hr]at e4
  exact aA rfl (aO (d:=.non) (b:=false) e4 rfl (bF (aF (b:=false) (by simp)) (aE (ah (ds:=[.str "none"]) rfl (dC _ (by simp))))))
 | some v =>
  rw[hr]at e4
  obtain⟨va,vo,vrl,vm,vf,ev⟩:=lV g hr
  subst ev
  exact aA rfl (aO (d:=row va ("root" : Str) [.str vo,.int vm,.int vf,.str vrl]) (b:=false) e4 rfl (aM (aF (b:=false) (by simp[row])) (aE (ah (ds:=[.lst ((aV (aq rows known)).map clD),row va ("root" : Str) [.str vo,.int vm,.int vf,.str vrl],.int day]) (au (ah (ds:=[.tup rows,.int known]) rfl ec) rfl) (kF _ hcl day)))))
end Lw
namespace Lw
open PySem PySem.Spec DL L2
theorem uK (ns:List Int) (k:Nat) (x:Int):∃c:Int,(aG (aW 2 (f2 bC (f2 eA (f2 bD (f2 bD (f2 bC (af 2) (fC (.int 2147483629))) (f2 eA (fC (.int 6151)) (af 1))) (fC (.int 1))) (fC (.int 48271))) (fC (.int 2147483647))))
  (bp (f2 bC (f2 eA (af 2) (f2 bD (f2 bD (f2 bC (af 2) (fC (.int 65519))) (af 1)) (fC (.int 2)))) (fC (.int 2147483629))))) [some (.lst (ns.map .int),false),some (.int k,false),some (.int x,false)]=some (.rt (.int c) false)/\0<=c:=by
 obtain⟨y,hy⟩:∃y,((x % 2147483629+6151*k+1)*48271) % 2147483647=y:=⟨_,rfl⟩
 have hb:0<=y/\y<2147483647:=by rw[←hy];exact mod_lt (by decide)
 have hc : -18446744073709551616<y/\y<18446744073709551616:=by omega
 exact⟨(y*(y % 65519+k+2)) % 2147483629,aO (d:=.int y) (b:=false) (by simp[hy]) rfl (aE (by simp[hc])),(mod_lt (by decide)).1⟩
theorem eS (ns:List Int) (k:Nat):∃c:Int,bQ [.lst (ns.map .int),.int k]=some (.int c,false)/\0<=c:=by
 by_cases h:ns.length=0
 ·have e:ns=[]:=List.length_eq_zero_iff.mp h
  subst e
  obtain⟨c,h1,h2⟩:=uK [] k 5
  exact⟨c,aA rfl (aO (d:=.int 5) (b:=false) rfl rfl (aM (aF (b:=false) (by simp)) h1)),h2⟩
 ·have hm:=mod_lt (x:=(k:Int)) (m:=ns.length) (by omega)
  obtain⟨c,h1,h2⟩:=uK ns k (ns.getD ((k:Int) % ns.length).toNat 0)
  refine⟨c,aA rfl (aO (d:=.int 5) (b:=false) rfl rfl (de (gk (aF (b:=false) (by simp;omega)) (nA (d:=.int (ns.getD ((k:Int) % ns.length).toNat 0)) (b:=false) ?_ rfl)) h1)),h2⟩
  refine aB (x:=.lst (ns.map .int)) (y:=.int ((k:Int) % ns.length)) (b1:=false) (b2:=false) rfl ?_ (xT hm.1 (by omega))
  refine aB (x:=.int k) (y:=.int ns.length) (b1:=false) (b2:=false) rfl (by simp) ?_
  have hne:¬ns=[]:=λe=>h (by rw[e];rfl)
  simp[bC,hne]
theorem Bl {ρ:DL.Env}{i n:Nat}{ds:List D}{fk fv:FE}{d:D}{b b':Bool}(e:ρ[i]? = some (some (.lst ds,true))) (ev:fv ρ=some (d,b)) (ek:fk ρ=some (.int n,b')) (hn:n<ds.length) (hf:bi d=true):yQ i fk fv ρ=some (.nx (ρ.set i (some (.lst (ds.set n d),true)))):=by
 have hx:ixN ds.length (n:Int)=some n:=by
  unfold ixN
  rw[if_pos (by omega)]
  simp[hn]
 simp only[yQ,e,ev,ek,Option.bind_some,hx,if_pos hf]
theorem yp:∀(zs:List Str),(∀z∈zs,z.length=1)->(zs.map (·.length)).sum=zs.length
 | [],_=>rfl
 | z::zs,h=>by
  rw[List.map_cons,List.sum_cons,yp zs λy hy=>h y (mZ _ hy),h z mX,List.length_cons]
  omega
theorem yq (x:Int):0<=x % 26/\x % 26<26:=mod_lt (by decide)
def kI:PySem.Str:="abcdefghijklmnopqrstuvwxyz"
theorem zk:kI.cps.size=26:=by decide +kernel
def ltr (x:Int):Str:=⟨#[kI.cps.toList.getD (x % 26).toNat 0]⟩
theorem Bm (x:Int):ixD (.str kI) (.int (x % 26))=some (.str (ltr x),false):=DL.vI (yq x).1 (by rw[zk];have:=yq x;omega) (by decide +kernel)
theorem uL:∀(zs:List Str) (y:Str),(Str.join ("" : Str) (y::zs)).cps.toList=(y::zs).flatMap λz=>z.cps.toList
 | [],y=>by rw[List.flatMap_cons,List.flatMap_nil,List.append_nil];rfl
 | z::r,y=>by
  have e3:∀a b:Str,(a++b).cps.toList=a.cps.toList++b.cps.toList:=λa b=>by show(a.cps++b.cps).toList=_;simp
  show(y++("" : Str)++Str.join ("" : Str) (z::r)).cps.toList=_
  rw[e3,e3,uL r z,show("" : Str).cps.toList=[]from rfl,List.append_nil]
  rfl
theorem Bn {zs:List Str}(h:zs≠[]):(Txt.join ("" : Str) zs).cps.toList=zs.flatMap λz=>z.cps.toList:=by
 cases zs with
 | nil=>exact absurd rfl h
 | cons y zs =>
  unfold Txt.join
  rw[StrLaws.glued_eq_join]
  exact uL zs y
theorem kJ (x y:Nat):∀(bs:List Str) (a:Nat),a<bs.length->(∀z∈bs,∃c,z.cps.toList=[c])->((bs.set a ⟨#[x]⟩).flatMap λz=>z.cps.toList)=((bs.set a ⟨#[y]⟩).flatMap λz=>z.cps.toList)->x=y
 | b::bs,0,_,_,h=>by
  rw[List.set_cons_zero,List.set_cons_zero,List.flatMap_cons,List.flatMap_cons]at h
  exact(List.cons.inj h).1
 | b::bs,a+1,hl,hb,h=>by
  rw[List.set_cons_succ,List.set_cons_succ,List.flatMap_cons,List.flatMap_cons]at h
  exact kJ x y bs a (by simpa using hl) (λz hz=>hb z (mZ _ hz)) (List.append_cancel_left h)
theorem Bo:∀i j:Fin 26,kI.cps.toList.getD i.val 0=kI.cps.toList.getD j.val 0->i=j:=by decide +kernel
def uM (bs:List Str) (a:Nat) (c:Int) (i:Nat):Str:=Txt.join ("" : Str) (bs.set a (ltr (c / 64+3*(i:Int))))
theorem DU {bs:List Str}{a:Nat}{c:Int}{i j:Nat}(ha:a<bs.length) (hb:∀z∈bs,∃c,z.cps.toList=[c]) (hij:(3*(i:Int) - 3*(j:Int)) % 26≠0):uM bs a c i≠uM bs a c j:=by
 intro e
 have e:=congrArg (λs:Str=>s.cps.toList) e
 unfold uM at e
 have hne:∀x,bs.set a x≠[]:=λx z=>by have:=congrArg List.length z;rw[List.length_set,List.length_nil]at this;omega
 simp only[Bn (hne _)]at e
 have:=kJ _ _ bs a ha hb e
 have h1:=yq (c / 64+3*(i:Int))
 have h2:=yq (c / 64+3*(j:Int))
 have:=Bo ⟨((c / 64+3*(i:Int)) % 26).toNat,by omega⟩ ⟨((c / 64+3*(j:Int)) % 26).toNat,by omega⟩ this
 have:=congrArg Fin.val this
 simp only at this
 omega
theorem Bp (c:Int) (hc:0<=c):∃zs:List Str,iV [.int c]=some (.lst (zs.map .str),true)/\zs.length=7/\∀x y,zs[5]? = some x->zs[6]? = some y->x≠y:=by
 have h8:=mod_lt (x:=c) (m:=8) (by decide)
 obtain⟨n,hn⟩:∃n:Nat,1+c % 8=n:=⟨(1+c % 8).toNat,by omega⟩
 have hn1:1<=n:=by omega
 have hn8:n<=8:=by omega
 let bs:List Str:=(List.range n).map λ(k:Nat)=>ltr (c / (3+4*k))
 have hbl:bs.length=n:=by simp[bs]
 have hb:=qo (fi:=dn (f2 bD (fC (.int 1)) (f2 bC (af 0) (fC (.int 8))))) (nT:=1) (cap:=[1,0]) (tg:=tgN 0) (fe:=f2 ixD (af 1) (f2 bC (f2 c6 (af 2) (f2 bD (fC (.int 3)) (f2 eA (fC (.int 4)) (af 0)))) (fC (.int 26))))
  (ρ:=[some (.int c,false),some (.str kI,false),none,none,none,none,none]) (List.range n) (λ(k:Nat)=>.int k) (λ(k:Nat)=>.str (ltr (c / (3+4*k))))
  (by rw[dN (j:=n) (b:=false) (by simp;omega) (by omega),zd];simp) (by simp;omega) λk hk=>by
   have hk:=List.mem_range.mp hk
   refine⟨_,rfl,false,aB (x:=.str kI) (y:=.int (c / (3+4*k) % 26)) (b1:=false) (b2:=false) (by simp[bV]) ?_ (Bm _)⟩
   have h1:(0:Int)<3+4*k:=by omega
   have h2:(3:Int)+4*k<1073741824:=by omega
   simp[bV,h1,h2]
 have hb':cr (dn (f2 bD (fC (.int 1)) (f2 bC (af 0) (fC (.int 8))))) 1 [1,0] (tgN 0) gV (f2 ixD (af 1) (f2 bC (f2 c6 (af 2) (f2 bD (fC (.int 3)) (f2 eA (fC (.int 4)) (af 0)))) (fC (.int 26)))) [some (.int c,false),some (.str kI,false),none,none,none,none,none]=some (.lst (bs.map .str),true):=by
  rw[hb];simp[bs]
 have hat:=mod_lt (x:=c / 8) (m:=n) (by omega)
 obtain⟨a,ha⟩:∃a:Nat,c / 8 % n=a:=⟨(c / 8 % n).toNat,by omega⟩
 obtain⟨zs,v5,v6,e,hz,hzz⟩:∃(zs:List Str) (v5 v6:Option (D×Bool)),eK (tgN 5) jv (dL 0 7) [some (.int c,false),some (.str kI,false),some (.lst (bs.map .str),true),some (.int (c / 8 % n),false),some (.lst [],true),none,none]=some (.nx [some (.int c,false),some (.str kI,false),some (.lst (bs.map .str),true),some (.int (c / 8 % n),false),some (.lst (zs.map .str),true),v5,v6])/\zs.length=7/\zs=(List.range 7).map (uM bs a c):=by
  obtain⟨ρ',e,zs,v5,v6,rfl,hz,hzz⟩:=gh (tg:=tgN 5) (g:=jv) 7 (λi ρ=>∃(zs:List Str) (v5 v6:Option (D×Bool)),ρ=[some (.int c,false),some (.str kI,false),some (.lst (bs.map .str),true),some (.int (c / 8 % n),false),some (.lst (zs.map .str),true),v5,v6]/\zs.length=i/\zs=(List.range i).map (uM bs a c))
   [some (.int c,false),some (.str kI,false),some (.lst (bs.map .str),true),some (.int (c / 8 % n),false),some (.lst [],true),none,none] ⟨[],none,none,rfl,rfl,rfl⟩ (by
    rintro i ρ hi ⟨zs,v5,v6,rfl,hz,hzz⟩
    let l:=ltr (c / 64+3*i)
    let nm:=bs.set a l
    have h1:∀z∈nm,z.length=1:=λz hz=>by
     rcases List.mem_or_eq_of_mem_set hz with h|h
     ·obtain⟨k,_,rfl⟩:=List.mem_map.mp h;rfl
     ·rw[h];rfl
    have hnl:nm.length=n:=by simp[nm,hbl]
    refine⟨_,_,rfl,.inl (cy (ds:=bs.map .str) (by simp) (cR _) (de (Bl (n:=a) (ds:=bs.map .str) (d:=.str l) (b:=false) (b':=false) rfl ?_ ?_ (by simp[hbl];omega) rfl) (fu (ds:=zs.map .str) (d:=.str (Txt.join ("" : Str) nm)) (b:=false) rfl ?_ rfl (bG (by simp;omega))))),zs++[Txt.join ("" : Str) nm],some (.int i,false),some (.lst (nm.map .str),true), ?_,by simp[hz],by rw[hzz,List.range_succ,List.map_append];rfl⟩
    ·exact aB (x:=.str kI) (y:=.int ((c / 64+3*i) % 26)) (b1:=false) (b2:=false) rfl (by simp) (Bm _)
    ·simp[ha]
    ·refine aB (x:=.str "") (y:=.lst (nm.map .str)) (b1:=false) (b2:=false) rfl (by simp[nm]) ?_
     show(fm (nm.map .str)).bind _=_
     rw[oy]
     have:=yp nm h1
     have h0:("" : Str).length=0:=rfl
     show(if _ then _ else _)=_
     rw[if_pos (by rw[this,h0,hnl];omega)]
    ·simp[nm])
  exact⟨zs,v5,v6,e,hz,hzz⟩
 have hsz:(bs.length:Int)=n:=by omega
 refine⟨if c / 1000 % 8=1 then zs.set 5 (zs.getD 0 ⟨#[]⟩)else zs, ?_,by split<;>simp[hz], ?_⟩
 refine aA rfl (aO (d:=.str kI) (b:=false) rfl rfl (cy (ds:=bs.map .str) hb' (cR _) (aO (d:=.int (c / 8 % n)) (b:=false) ?_ rfl (cy (ds:=[]) (by simp[sizeLine]) (by simp) (de (gm (dN (j:=7) (b:=false) rfl (by decide)) e) ?_)))))
 ·have:(bs.length:Int)≠0:=by omega
  refine aB (x:=.int (c / 8)) (y:=.int n) (b1:=false) (b2:=false) (by simp) (by simp[hbl]) ?_
  have h1:(0:Int)<n:=by omega
  show(if decide ((0:Int)<n)=true then _ else _)=_
  rw[if_pos (decide_eq_true h1)]
 ·by_cases h:c / 1000 % 8=1
  ·rw[if_pos h]
   have h5:5<(zs.map D.str).length:=by simp[hz]
   obtain⟨z0,zr,rfl⟩:∃z0 zr,zs=z0::zr:=by cases zs with|nil=>simp at hz|cons a b=>exact⟨a,b,rfl⟩
   refine de (gk (aF (b:=false) (by simp[h])) (Bl (n:=5) (ds:=(z0::zr).map .str) (d:=.str z0) (b:=false) (b':=false) rfl ?_ rfl h5 rfl)) (kg ?_)
   ·exact aB (x:=.lst ((z0::zr).map .str)) (y:=.int 0) (b1:=false) (b2:=false) rfl rfl (by simp[at0])
   ·simp
  ·rw[if_neg h]
   exact aM (aF (b:=false) (by simp[h])) (kg rfl)
 ·have hal:a<bs.length:=by omega
  have hbc:∀z∈bs,∃c,z.cps.toList=[c]:=λz hz=>by obtain⟨k,_,rfl⟩:=List.mem_map.mp hz;exact⟨_,rfl⟩
  intro x y hx hy
  have h0:zs[0]? = some (uM bs a c 0):=by rw[hzz];rfl
  have h5:zs[5]? = some (uM bs a c 5):=by rw[hzz];rfl
  have h6:zs[6]? = some (uM bs a c 6):=by rw[hzz];rfl
  split at hx
  ·rename_i hc8
   rw[if_pos hc8,List.getElem?_set_ne (by decide),h6]at hy
   rw[List.getElem?_set_self (by omega),List.getD_eq_getElem?_getD,h0]at hx
   cases hx;cases hy
   exact DU hal hbc (by decide)
  ·rename_i hc8
   rw[if_neg hc8,h6]at hy
   rw[h5]at hx
   cases hx;cases hy
   exact DU hal hbc (by decide)
theorem wJ (a d m:Int):∃s,du [.int a,.int d,.int m]=some (s,false)/\bi s=true/\ak 5 s=true:=by
 have h8:=mod_lt (x:=a) (m:=8) (by decide)
 let L1:List D:=[.tup [.int 0,.non],.tup [.int d,.non],.tup [.int d,.int (d+3*m)],.tup [.int 0,.int (d+2*m)],.tup [.int 0,.int (9*m)]]
 let L2:List D:=[.tup [.int (d+m),.int (d+4*m)],.tup [.int (d / 2),.int (d+6*m)],.tup [.int 0,.non]]
 have hz:∀x∈L1++L2,bi x=true/\ak 5 x=true:=by intro x hx;simp only[L1,L2,List.cons_append,List.nil_append,List.mem_cons,List.not_mem_nil,or_false]at hx;rcases hx with rfl|rfl|rfl|rfl|rfl|rfl|rfl|rfl<;>exact⟨rfl,by simp⟩
 have hl:(L1++L2).length=8:=rfl
 have hi:(a % 8).toNat<(L1++L2).length:=by rw[hl];omega
 refine⟨(L1++L2).getD (a % 8).toNat .non,aA rfl (cy (ds:=L1) (by simp[L1,sizeLine]) rfl (cy (ds:=L1++L2) ?_ rfl (aE (aB (x:=.lst (L1++L2)) (y:=.int (a % 8)) (b1:=false) (b2:=false) rfl (by simp) (wA h8.1 hi))))), ?_⟩
 ·refine aB (x:=.lst L1) (y:=.lst L2) (b1:=false) (b2:=true) rfl (by simp[L2,sizeLine]) ?_
  simp[L1,L2,sizeLine]
 ·apply hz
  rw[List.getD_eq_getElem?_getD,List.getElem?_eq_getElem hi]
  exact List.getElem_mem hi
theorem jy {zs:List Str}{i:Int}(h1 : -(zs.length:Int)<=i) (h2:i<zs.length):∃z∈zs,ixD (.lst (zs.map .str)) (.int i)=some (.str z,false):=by
 obtain⟨j,hj,hl⟩:∃j,ixN (zs.map D.str).length i=some j/\j<zs.length:=by
  unfold ixN
  rw[List.length_map]
  by_cases h0:0<=i
  ·rw[if_pos h0,if_pos h2];exact⟨_,rfl,by omega⟩
  ·rw[if_neg h0,if_pos (by omega)];exact⟨_,rfl,by omega⟩
 refine⟨zs[j],List.getElem_mem hl, ?_⟩
 have:atI (zs.map D.str) i=some (.str zs[j]):=by unfold atI;rw[hj,Option.bind_some,List.getElem?_map,List.getElem?_eq_getElem hl];rfl
 simp[this]
def MR:List Nat:=[7,255,3,15]
def MS:List Nat:=[1,2,3,4,5,7,128,255]
inductive Dd:Str->List D->Prop
 | root (o r:Str) (m:Nat) (hm:m∈MR) (f:Int):Dd ("root" : Str) [.str o,.int m,.int f,.str r]
 | named (d:Int) (o p:Str):Dd ("named" : Str) [.int d,.str o,.str p]
 | chosen (d:Int) (b o p:Str) (s:Int):Dd ("chosen" : Str) [.int d,.str b,.str o,.str p,.int s]
 | heir (d:Int) (b o p:Str):Dd ("heir" : Str) [.int d,.str b,.str o,.str p]
 | three (k:Str) (hk:k=("death" : Str)∨k=("lost" : Str)) (d:Int) (p:Str):Dd k [.int d,.str p]
 | leave (d:Int) (b p:Str) (m:Nat) (hm:m∈MS) (r:List D) (hf:bx r=true) (hp:r.all (ak 5)=true):Dd ("leave" : Str) (.int d::.str b::.str p::.int m::r)
 | paper (k:Str) (hk:k=("paper" : Str)∨k=("like" : Str)) (d:Int) (b:Str) (m:Nat) (hm:m∈MS) (r:List D) (hf:bx r=true) (hp:r.all (ak 5)=true):Dd k (.int d::.str b::.int m::r)
 | copy (k:Str) (hk:k=("copy" : Str)∨k=("call" : Str)) (d:Int) (b:Str) (n:Nat):Dd k [.int d,.str b,.int n]
theorem Dd.cd {k:Str}{r:List D}(h:Dd k r):Cd k r:=by
 cases h with
 | root o r m hm f=>exact .root _ _ _ _
 | named d o p=>exact .named _ _ _
 | chosen d b o p s=>exact .chosen _ _ _ _ _
 | heir d b o p=>exact .heir _ _ _ _
 | three k hk d p=>exact .three _ (hk.elim .inl λh=>.inr (.inl h)) _ _
 | leave d b p m hm r hf hp=>exact .other _ (.inl rfl) _ _ _ (by simp[hf]) (by simp only[List.all_cons,hp,ak,Bool.and_true])
 | paper k hk d b m hm r hf hp=>exact .other _ (hk.elim (λh=>.inr (.inl h)) λh=>.inr (.inr (.inl h))) _ _ _ (by simp[hf]) (by simp only[List.all_cons,hp,ak,Bool.and_true])
 | copy k hk d b n=>exact .other _ (hk.elim (λh=>.inr (.inr (.inr (.inl h)))) λh=>.inr (.inr (.inr (.inr h)))) _ _ _ rfl (by simp)
theorem Dd.flat {k:Str}{r:List D}(h:Dd k r):bx r=true:=h.cd.deed.flat
def eJ:List Str:=[("leave" : Str),("leave" : Str),("leave" : Str),("paper" : Str),("paper" : Str),("like" : Str),("copy" : Str),("call" : Str),("call" : Str),("call" : Str),("call" : Str),("call" : Str),("call" : Str),("call" : Str),("lost" : Str),("death" : Str),("chosen" : Str),("heir" : Str)]
theorem zl {w:Str}(h:w∈eJ):w=("leave" : Str)∨w=("paper" : Str)∨w=("like" : Str)∨w=("copy" : Str)∨w=("call" : Str)∨w=("lost" : Str)∨w=("death" : Str)∨w=("chosen" : Str)∨w=("heir" : Str):=by
 simp only[eJ,List.mem_cons,List.not_mem_nil,or_false]at h
 rcases h with rfl|rfl|rfl|rfl|rfl|rfl|rfl|rfl|rfl|rfl|rfl|rfl|rfl|rfl|rfl|rfl|rfl|rfl<;>simp
theorem Bq (many c o day m:Int) (zs had:List Str) (hz:zs.length=7) (hh:had≠[]) :
  ∃(w by_ p:Str) (ofn:Nat),w∈eJ/\∀(h:FS) (r:Option Res),h [some (.int many,false),some (.int c,false),some (.int o,false),some (.lst (zs.map .str),false),some (.int day,false),some (.lst (had.map .str),false),some (.int m,false),some (.lst (eJ.map .str),true),some (.str w,false),some (.str by_,false),some (.str p,false),some (.int ofn,false),none,none,none]=r ->
   (aG (aW 7 (f2 bD (f2 bD (f2 bD (um (fA bB (ae (fC (.str "leave")) aj)) (fC (.int 3))) (um (fA bB (ae (fC (.str "paper")) aj)) (fC (.int 2)))) (fA bB (ae (fC (.str "like")) (ae (fC (.str "copy")) aj)))) (um (fA bB (ae (fC (.str "call")) aj)) (fC (.int 7))))) (aG (aW 7 (f2 bD (af 7) (fA bB (ae (fC (.str "lost")) (ae (fC (.str "death")) (ae (fC (.str "chosen")) (ae (fC (.str "heir")) aj))))))) (aG (aW 8 (f2 ixD (af 7) (f2 bC (af 1) (fC (.int 18))))) (aG (aW 9 (f2 ixD (af 5) (f2 vQ (f1 Aj (fC (.int 1))) (f2 bC (f2 c6 (af 1) (fC (.int 18))) (fA Cq (ae (fC (.int 3)) (ae (fA eZ (ae (af 5) aj)) aj))))))) (aG (gIf (tOf (f2 dEq (f2 bC (f2 c6 (af 1) (fC (.int 54))) (fC (.int 6))) (fC (.int 1)))) (aW 9 (f2 ixD (af 3) (f2 bC (f2 c6 (af 1) (fC (.int 324))) (fC (.int 5))))) bo) (aG (aW 10 (f2 ixD (af 3) (f2 bC (f2 c6 (af 1) (fC (.int 1620))) (fC (.int 5))))) (aG (aW 11 (fA Cp (ae (fC (.int 0)) (ae (f2 vQ (f2 vQ (af 0) (fC (.int 1))) (f2 bC (af 2) (fC (.int 4)))) aj)))) (aG (gIf (tOf (f2 dEq (f2 bC (f2 c6 (af 2) (fC (.int 4))) (fC (.int 8))) (fC (.int 1)))) (aW 11 (f2 bC (f2 c6 (af 2) (fC (.int 32))) (fC (.int 60)))) bo) h)))))))) [some (.int many,false),some (.int c,false),some (.int o,false),some (.lst (zs.map .str),false),some (.int day,false),some (.lst (had.map .str),false),some (.int m,false),none,none,none,none,none,none,none,none]=r:=by
 have h18:=mod_lt (x:=c) (m:=18) (by decide)
 obtain⟨w,hw,ew⟩:=jy (zs:=eJ) (i:=c % 18) (by simp[eJ];omega) (by simp[eJ];omega)
 obtain⟨n,hn,hn1,hn3⟩:∃n:Int,(if(had.length:Int)<3 then (had.length:Int)else 3)=n/\0<n/\n<=had.length:=by
  have:0<had.length:=List.length_pos_iff.mpr hh
  split
  ·exact⟨_,rfl,by omega,by omega⟩
  ·exact⟨_,rfl,by omega,by omega⟩
 have hmn:=mod_lt (x:=c / 18) (m:=n) hn1
 obtain⟨b0,_,eb0⟩:=jy (zs:=had) (i:=-1 - c / 18 % n) (by omega) (by omega)
 have h5:=mod_lt (x:=c / 324) (m:=5) (by decide)
 obtain⟨b1,_,eb1⟩:=jy (zs:=zs) (i:=c / 324 % 5) (by omega) (by omega)
 have h5':=mod_lt (x:=c / 1620) (m:=5) (by decide)
 obtain⟨p,_,ep⟩:=jy (zs:=zs) (i:=c / 1620 % 5) (by omega) (by omega)
 have h60:=mod_lt (x:=o / 32) (m:=60) (by decide)
 obtain⟨f0,hf0⟩:∃f0:Nat,(if many - 1 - o % 4 > 0 then many - 1 - o % 4 else 0)=(f0:Int):=by
  split
  ·exact⟨(many - 1 - o % 4).toNat,by omega⟩
  ·exact⟨0,rfl⟩
 obtain⟨f1,hf1⟩:∃f1:Nat,o / 32 % 60=(f1:Int):=⟨(o / 32 % 60).toNat,by omega⟩
 refine⟨w,if c / 54 % 6=1 then b1 else b0,p,if o / 4 % 8=1 then f1 else f0,hw,λh r hr=>?_⟩
 refine cy (ds:=(eJ.take 14).map .str) ?_ (cR _) (cy (ds:=eJ.map .str) ?_ (cR _) (aO (d:=.str w) (b:=false) (aB (x:=.lst (eJ.map .str)) (y:=.int (c % 18)) (b1:=false) (b2:=false) rfl (by simp) ew) rfl (aO (d:=.str b0) (b:=false) ?_ rfl (de (ρ':=[some (.int many,false),some (.int c,false),some (.int o,false),some (.lst (zs.map .str),false),some (.int day,false),some (.lst (had.map .str),false),some (.int m,false),some (.lst (eJ.map .str),true),some (.str w,false),some (.str (if c / 54 % 6=1 then b1 else b0),false),none,none,none,none,none]) ?_ (aO (d:=.str p) (b:=false) ?_ rfl (aO (d:=.int f0) (b:=false) ?_ rfl (de ?_ hr)))))))
 ·have e1:∀(s:Str) (k:Nat),k<=100->um (fA bB (ae (fC (.str s)) aj)) (fC (.int k)) [some (.int many,false),some (.int c,false),some (.int o,false),some (.lst (zs.map .str),false),some (.int day,false),some (.lst (had.map .str),false),some (.int m,false),none,none,none,none,none,none,none,none]=some (.lst (List.replicate k (.str s)),true):=λs k hk=>by
   have h1:(k:Int)<=1000:=by omega
   have h2:k<=1000:=by omega
   have h3:∀n:Nat,(List.replicate n [D.str s]).flatten=List.replicate n (.str s):=λn=>by
    induction n with
    | zero=>rfl
    | succ n ih=>rw[List.replicate_succ,List.flatten_cons,ih,List.replicate_succ];rfl
   simp[sizeLine,h1,h2,h3]
  have z:∀n:Nat,n<=100->n<=sizeLine:=λn h=>cN (by omega)
  refine aB (x:=.lst ((eJ.take 7).map .str)) (y:=.lst (List.replicate 7 (.str "call"))) (b1:=true) (b2:=true) (aB (x:=.lst ((eJ.take 5).map .str)) (y:=.lst [.str "like",.str "copy"]) (b1:=true) (b2:=true) (aB (x:=.lst ((eJ.take 3).map .str)) (y:=.lst (List.replicate 2 (.str "paper"))) (b1:=true) (b2:=true) (e1 _ 3 (by decide)) (e1 _ 2 (by decide)) ?_) ?_ ?_) (e1 _ 7 (by decide)) ?_
  ·refine(if_pos (c:=5<=sizeLine) (e:=none) (z 5 (by decide))).trans ?_;rfl
  ·exact ah (ds:=[.str "like",.str "copy"]) rfl (f6 _ (by simp))
  ·refine(if_pos (c:=7<=sizeLine) (e:=none) (z 7 (by decide))).trans ?_;rfl
  ·refine(if_pos (c:=14<=sizeLine) (e:=none) (z 14 (by decide))).trans ?_;rfl
 ·refine aB (x:=.lst ((eJ.take 14).map .str)) (y:=.lst ((eJ.drop 14).map .str)) (b1:=false) (b2:=true) rfl (ah (ds:=(eJ.drop 14).map .str) rfl (f6 _ (by decide))) ?_
  refine(if_pos (c:=18<=sizeLine) (e:=none) (cN (by decide))).trans ?_;rfl
 ·refine aB (x:=.lst (had.map .str)) (y:=.int (-1 - c / 18 % n)) (b1:=false) (b2:=false) rfl ?_ eb0
  refine aB (x:=.int (-1)) (y:=.int (c / 18 % n)) (b1:=false) (b2:=false) rfl ?_ rfl
  refine aB (x:=.int (c / 18)) (y:=.int n) (b1:=false) (b2:=false) (by simp) (by simp[hn]) ?_
  show(if decide ((0:Int)<n)=true then _ else _)=_
  rw[if_pos (decide_eq_true hn1)]
 ·by_cases hx:c / 54 % 6=1
  ·rw[if_pos hx]
   exact gk (aF (b:=false) (by simp[hx])) (nA (d:=.str b1) (b:=false) (aB (x:=.lst (zs.map .str)) (y:=.int (c / 324 % 5)) (b1:=false) (b2:=false) rfl (by simp) eb1) rfl)
  ·rw[if_neg hx]
   exact gl (aF (b:=false) (by simp[hx])) rfl
 ·exact aB (x:=.lst (zs.map .str)) (y:=.int (c / 1620 % 5)) (b1:=false) (b2:=false) rfl (by simp) ep
 ·show some (D.int (if many - 1 - o % 4 > 0 then many - 1 - o % 4 else 0),false)=_
  rw[hf0]
 ·by_cases hx:o / 4 % 8=1
  ·simp only[if_pos hx]
   exact gk (aF (b:=false) (by simp[hx])) (nA (d:=.int f1) (b:=false) (by simp[hf1]) rfl)
  ·simp only[if_neg hx]
   exact gl (aF (b:=false) (by simp[hx])) rfl
theorem kK {ns:List Int}{i:Int}(h1:0<=i) (h2:i<ns.length):∃m∈ns,ixD (.lst (ns.map .int)) (.int i)=some (.int m,false):=by
 have h:i.toNat<ns.length:=by omega
 refine⟨ns.getD i.toNat 0, ?_,xT h1 h⟩
 rw[List.getD_eq_getElem?_getD,List.getElem?_eq_getElem h]
 exact List.getElem_mem h
theorem l7 {a b:Int}(h : -1000<=a/\a<=1000):EL (.int a) (.int b)=some (.int (a*b),false):=by
 have : -18446744073709551616<a/\a<18446744073709551616:=by omega
 simp[this]
theorem Dc (many c o day m:Int) (zs had:List Str) (hz:zs.length=7) (hh:had≠[]) :
  ∃k r,km [.int many,.int c,.int o,.lst (zs.map .str),.int day,.lst (had.map .str),.int m]=some (.tup (.str k::r),false)/\Dd k r/\k≠("root" : Str)/\(k=("leave" : Str)∨k=("named" : Str)->∃p,r[2]? = some (.str p))/\(k=("chosen" : Str)->∃p,r[3]? = some (.str p)):=by
 obtain⟨w,by_,p,ofn,hw,pre⟩:=Bq many c o day m zs had hz hh
 obtain⟨s,es,hs,hsp⟩:=wJ (o / 32) day m
 have h8:=mod_lt (x:=c / 8100) (m:=8) (by decide)
 obtain⟨m1i,hm1i,em1⟩:=kK (ns:=[3,1,7,2,255,5,1,3]) (i:=c / 8100 % 8) h8.1 h8.2
 obtain⟨m2i,hm2i,em2⟩:=kK (ns:=[1,1,3,2,4,5,128,7]) (i:=c / 8100 % 8) h8.1 h8.2
 obtain⟨m1,em1',hm1⟩:∃m1:Nat,m1i=m1/\m1∈MS:=by
  simp only[List.mem_cons,List.not_mem_nil,or_false]at hm1i
  rcases hm1i with rfl|rfl|rfl|rfl|rfl|rfl|rfl|rfl<;>first|exact⟨1,rfl,by decide⟩|exact⟨2,rfl,by decide⟩|exact⟨3,rfl,by decide⟩|exact⟨4,rfl,by decide⟩|exact⟨5,rfl,by decide⟩|exact⟨7,rfl,by decide⟩|exact⟨128,rfl,by decide⟩|exact⟨255,rfl,by decide⟩
 obtain⟨m2,em2',hm2⟩:∃m2:Nat,m2i=m2/\m2∈MS:=by
  simp only[List.mem_cons,List.not_mem_nil,or_false]at hm2i
  rcases hm2i with rfl|rfl|rfl|rfl|rfl|rfl|rfl|rfl<;>first|exact⟨1,rfl,by decide⟩|exact⟨2,rfl,by decide⟩|exact⟨3,rfl,by decide⟩|exact⟨4,rfl,by decide⟩|exact⟨5,rfl,by decide⟩|exact⟨7,rfl,by decide⟩|exact⟨128,rfl,by decide⟩|exact⟨255,rfl,by decide⟩
 rw[em1']at em1
 rw[em2']at em2
 have h4:=mod_lt (x:=o / 2560) (m:=4) (by decide)
 obtain⟨dv,hdv,ed⟩:=kK (ns:=[5,5,5,10]) (i:=o / 2560 % 4) h4.1 h4.2
 have hd0:0<dv:=by simp only[List.mem_cons,List.not_mem_nil,or_false]at hdv;omega
 have h2:=mod_lt (x:=o / 256) (m:=2) (by decide)
 obtain⟨wv,ewv,hwv,hwp⟩:∃wv,ixD (.lst [.non,.str p]) (.int (o / 256 % 2))=some (wv,false)/\bi wv=true/\ak 5 wv=true:=by
  rcases (show o / 256 % 2=0∨o / 256 % 2=1 by omega)with h|h
  ·rw[h];exact⟨.non,by simp[at0],rfl,by simp⟩
  ·rw[h];exact⟨.str p,by simp[at1],rfl,by simp⟩
 have h2':=mod_lt (x:=o) (m:=2) (by decide)
 obtain⟨off,_,eo⟩:=jy (zs:=zs) (i:=5+o % 2) (by omega) (by omega)
 have mk:∀(ds:List D),ds.length<=100->ba ds=some (.tup ds,false):=λds h=>if_pos (cN (by omega))
 have stq:∀(ρ:DL.Env),ρ[2]? = some (some (.int o,false))->ρ[4]? = some (some (.int day,false))->ρ[6]? = some (some (.int m,false))->fA du (ae (f2 c6 (af 2) (fC (.int 32))) (ae (af 4) (ae (af 6) aj))) ρ=some (s,false):=λρ q1 q2 q3 =>
  ah (ds:=[.int (o / 32),.int day,.int m]) (by simp[q1,q2,q3]) es
 have h3o:=mod_lt (x:=o / 32) (m:=3) (by decide)
 rcases zl hw with rfl|rfl|rfl|rfl|rfl|rfl|rfl|rfl|rfl
 ·refine⟨("leave" : Str),[.int day,.str by_,.str p,.int m1,s,.int (o / 256 % dv)],aA rfl (pre _ _ ?_),.leave _ _ _ _ hm1 _ (by simp[hs]) (by simp[hsp]),by decide +kernel,λ_=>⟨p,rfl⟩,λh=>absurd h (by decide +kernel)⟩
  refine bF (aK (a:=("leave" : Str)) (bb:=false) rfl (by decide +kernel)) (aO (d:=.int m1) (b:=false) ?_ rfl (aO (d:=.int (o / 256 % dv)) (b:=false) ?_ rfl (aE (ah (ds:=[.str "leave",.int day,.str by_,.str p,.int m1,s,.int (o / 256 % dv)]) ?_ (mk _ (by simp))))))
  ·exact aB (x:=.lst (([3,1,7,2,255,5,1,3]:List Int).map .int)) (y:=.int (c / 8100 % 8)) (b1:=true) (b2:=false) (by simp[sizeLine]) (by simp) em1
  ·refine aB (x:=.int (o / 256)) (y:=.int dv) (b1:=false) (b2:=false) (by simp) (aB (x:=.lst (([5,5,5,10]:List Int).map .int)) (y:=.int (o / 2560 % 4)) (b1:=true) (b2:=false) (by simp[sizeLine]) (by simp) ed) ?_
   show(if decide ((0:Int)<dv)=true then _ else _)=_
   rw[if_pos (decide_eq_true hd0)]
  ·exact au (b:=false) rfl (au (b:=false) rfl (au (b:=false) rfl (au (b:=false) rfl (au (b:=false) rfl (au (stq _ rfl rfl rfl) (au (b:=false) rfl rfl))))))
 ·refine⟨("paper" : Str),[.int day,.str by_,.int m2,s,wv,.tup [.str p]],aA rfl (pre _ _ ?_),.paper _ (.inl rfl) _ _ _ hm2 _ (by simp[hs,hwv]) (by simp[hsp,hwp]),by decide +kernel,λh=>absurd h (by decide +kernel),λh=>absurd h (by decide +kernel)⟩
  refine aM (aK (a:=("paper" : Str)) (bb:=false) rfl (by decide +kernel)) (bF (cA (p:=true) (q:=false) (aK (a:=("paper" : Str)) (bb:=false) rfl (by decide +kernel)) λ_=>aK (a:=("paper" : Str)) (bb:=false) rfl (by decide +kernel)) (aO (d:=.int m2) (b:=false) ?_ rfl (aO (d:=.tup [.str "paper",.int day,.str by_,.int m2,s,wv]) (b:=false) (ah (ds:=[.str "paper",.int day,.str by_,.int m2,s,wv]) ?_ (mk _ (by simp))) (by simp[hs,hwv]) (aM (aK (a:=("paper" : Str)) (bb:=false) rfl (by decide +kernel)) (aE ?_)))))
  ·exact aB (x:=.lst (([1,1,3,2,4,5,128,7]:List Int).map .int)) (y:=.int (c / 8100 % 8)) (b1:=true) (b2:=false) (by simp[sizeLine]) (by simp) em2
  ·exact au (b:=false) rfl (au (b:=false) rfl (au (b:=false) rfl (au (b:=false) rfl (au (stq _ rfl rfl rfl) (au (aB (x:=.lst [.non,.str p]) (y:=.int (o / 256 % 2)) (b1:=true) (b2:=false) (by simp[sizeLine]) (by simp) ewv) rfl)))))
  ·exact aB (x:=.tup [.str "paper",.int day,.str by_,.int m2,s,wv]) (y:=.tup [.tup [.str p]]) (b1:=false) (b2:=false) rfl (by simp[sizeLine]) (by simp[sizeLine])
 ·refine⟨("like" : Str),[.int day,.str by_,.int m2,s,wv,.int ofn,.tup [.tup [.int 0,.str p]]],aA rfl (pre _ _ ?_),.paper _ (.inr rfl) _ _ _ hm2 _ (by simp[hs,hwv]) (by simp[hsp,hwp]),by decide +kernel,λh=>absurd h (by decide +kernel),λh=>absurd h (by decide +kernel)⟩
  refine aM (aK (a:=("like" : Str)) (bb:=false) rfl (by decide +kernel)) (bF (cA (p:=false) (q:=true) (aK (a:=("like" : Str)) (bb:=false) rfl (by decide +kernel)) λ_=>aK (a:=("like" : Str)) (bb:=false) rfl (by decide +kernel)) (aO (d:=.int m2) (b:=false) ?_ rfl (aO (d:=.tup [.str "like",.int day,.str by_,.int m2,s,wv]) (b:=false) (ah (ds:=[.str "like",.int day,.str by_,.int m2,s,wv]) ?_ (mk _ (by simp))) (by simp[hs,hwv]) (bF (aK (a:=("like" : Str)) (bb:=false) rfl (by decide +kernel)) (aE ?_)))))
  ·exact aB (x:=.lst (([1,1,3,2,4,5,128,7]:List Int).map .int)) (y:=.int (c / 8100 % 8)) (b1:=true) (b2:=false) (by simp[sizeLine]) (by simp) em2
  ·exact au (b:=false) rfl (au (b:=false) rfl (au (b:=false) rfl (au (b:=false) rfl (au (stq _ rfl rfl rfl) (au (aB (x:=.lst [.non,.str p]) (y:=.int (o / 256 % 2)) (b1:=true) (b2:=false) (by simp[sizeLine]) (by simp) ewv) rfl)))))
  ·exact aB (x:=.tup [.str "like",.int day,.str by_,.int m2,s,wv]) (y:=.tup [.int ofn,.tup [.tup [.int 0,.str p]]]) (b1:=false) (b2:=false) rfl (by simp[sizeLine]) (by simp[sizeLine])
 ·refine⟨("copy" : Str),[.int day,.str by_,.int ofn],aA rfl (pre _ _ ?_),.copy _ (.inl rfl) _ _ _,by decide +kernel,λh=>absurd h (by decide +kernel),λh=>absurd h (by decide +kernel)⟩
  refine aM (aK (a:=("copy" : Str)) (bb:=false) rfl (by decide +kernel)) (aM (cA (p:=false) (q:=false) (aK (a:=("copy" : Str)) (bb:=false) rfl (by decide +kernel)) λ_=>aK (a:=("copy" : Str)) (bb:=false) rfl (by decide +kernel)) (bF (aF (b:=false) (aB (x:=.str "copy") (y:=.tup ([("copy" : Str),("call" : Str)].map .str)) (b1:=false) (b2:=false) rfl (by simp[sizeLine]) ?_)) (aE (ah (ds:=[.str "copy",.int day,.str by_,.int ofn]) rfl (mk _ (by simp))))))
  rw[dB]
  simp
 ·refine⟨("call" : Str),[.int day,.str by_,.int ofn],aA rfl (pre _ _ ?_),.copy _ (.inr rfl) _ _ _,by decide +kernel,λh=>absurd h (by decide +kernel),λh=>absurd h (by decide +kernel)⟩
  refine aM (aK (a:=("call" : Str)) (bb:=false) rfl (by decide +kernel)) (aM (cA (p:=false) (q:=false) (aK (a:=("call" : Str)) (bb:=false) rfl (by decide +kernel)) λ_=>aK (a:=("call" : Str)) (bb:=false) rfl (by decide +kernel)) (bF (aF (b:=false) (aB (x:=.str "call") (y:=.tup ([("copy" : Str),("call" : Str)].map .str)) (b1:=false) (b2:=false) rfl (by simp[sizeLine]) ?_)) (aE (ah (ds:=[.str "call",.int day,.str by_,.int ofn]) rfl (mk _ (by simp))))))
  rw[dB]
  simp
 ·refine⟨("lost" : Str),[.int day,.str by_],aA rfl (pre _ _ ?_),.three _ (.inr rfl) _ _,by decide +kernel,λh=>absurd h (by decide +kernel),λh=>absurd h (by decide +kernel)⟩
  refine(aM (aK (a:=("lost" : Str)) (bb:=false) rfl (by decide +kernel)) (aM (cA (p:=false) (q:=false) (aK (a:=("lost" : Str)) (bb:=false) rfl (by decide +kernel)) λ_=>aK (a:=("lost" : Str)) (bb:=false) rfl (by decide +kernel)) (aM (aF (b:=false) (aB (x:=.str "lost") (y:=.tup ([("copy" : Str),("call" : Str)].map .str)) (b1:=false) (b2:=false) rfl (by simp[sizeLine]) ?_)) (aM (aK (a:=("lost" : Str)) (bb:=false) rfl (by decide +kernel)) (aM (aK (a:=("lost" : Str)) (bb:=false) rfl (by decide +kernel)) (aM (aK (a:=("lost" : Str)) (bb:=false) rfl (by decide +kernel)) (aE (ah (ds:=[.str "lost",.int day,.str by_]) rfl (mk _ (by simp))))))))))
  ·rw[dB,decide_eq_false (by decide +kernel)]
 ·refine⟨("death" : Str),[.int day,.str by_],aA rfl (pre _ _ ?_),.three _ (.inl rfl) _ _,by decide +kernel,λh=>absurd h (by decide +kernel),λh=>absurd h (by decide +kernel)⟩
  refine(aM (aK (a:=("death" : Str)) (bb:=false) rfl (by decide +kernel)) (aM (cA (p:=false) (q:=false) (aK (a:=("death" : Str)) (bb:=false) rfl (by decide +kernel)) λ_=>aK (a:=("death" : Str)) (bb:=false) rfl (by decide +kernel)) (aM (aF (b:=false) (aB (x:=.str "death") (y:=.tup ([("copy" : Str),("call" : Str)].map .str)) (b1:=false) (b2:=false) rfl (by simp[sizeLine]) ?_)) (aM (aK (a:=("death" : Str)) (bb:=false) rfl (by decide +kernel)) (aM (aK (a:=("death" : Str)) (bb:=false) rfl (by decide +kernel)) (aM (aK (a:=("death" : Str)) (bb:=false) rfl (by decide +kernel)) (aE (ah (ds:=[.str "death",.int day,.str by_]) rfl (mk _ (by simp))))))))))
  ·rw[dB,decide_eq_false (by decide +kernel)]
 ·refine⟨("chosen" : Str),[.int day,.str by_,.str off,.str p,.int (day+o / 32 % 3*m)],aA rfl (pre _ _ ?_),.chosen _ _ _ _ _,by decide +kernel,λh=>absurd h (by decide +kernel),λ_=>⟨p,rfl⟩⟩
  refine(aM (aK (a:=("chosen" : Str)) (bb:=false) rfl (by decide +kernel)) (aM (cA (p:=false) (q:=false) (aK (a:=("chosen" : Str)) (bb:=false) rfl (by decide +kernel)) λ_=>aK (a:=("chosen" : Str)) (bb:=false) rfl (by decide +kernel)) (aM (aF (b:=false) (aB (x:=.str "chosen") (y:=.tup ([("copy" : Str),("call" : Str)].map .str)) (b1:=false) (b2:=false) rfl (by simp[sizeLine]) ?_)) (aM (aK (a:=("chosen" : Str)) (bb:=false) rfl (by decide +kernel)) (bF (aK (a:=("chosen" : Str)) (bb:=false) rfl (by decide +kernel)) (aE (ah (ds:=[.str "chosen",.int day,.str by_,.str off,.str p,.int (day+o / 32 % 3*m)]) ?_ (mk _ (by simp)))))))))
  ·rw[dB,decide_eq_false (by decide +kernel)]
  ·exact au (b:=false) rfl (au (b:=false) rfl (au (b:=false) rfl (au (aB (x:=.lst (zs.map .str)) (y:=.int (5+o % 2)) (b1:=false) (b2:=false) rfl (by simp) eo) (au (b:=false) rfl (au (b:=false) (aB (x:=.int day) (y:=.int (o / 32 % 3*m)) (b1:=false) (b2:=false) rfl (aB (x:=.int (o / 32 % 3)) (y:=.int m) (b1:=false) (b2:=false) (by simp) rfl (l7 (by omega))) rfl) rfl)))))
 ·refine⟨("heir" : Str),[.int day,.str by_,.str off,.str p],aA rfl (pre _ _ ?_),.heir _ _ _ _,by decide +kernel,λh=>absurd h (by decide +kernel),λh=>absurd h (by decide +kernel)⟩
  refine(aM (aK (a:=("heir" : Str)) (bb:=false) rfl (by decide +kernel)) (aM (cA (p:=false) (q:=false) (aK (a:=("heir" : Str)) (bb:=false) rfl (by decide +kernel)) λ_=>aK (a:=("heir" : Str)) (bb:=false) rfl (by decide +kernel)) (aM (aF (b:=false) (aB (x:=.str "heir") (y:=.tup ([("copy" : Str),("call" : Str)].map .str)) (b1:=false) (b2:=false) rfl (by simp[sizeLine]) ?_)) (aM (aK (a:=("heir" : Str)) (bb:=false) rfl (by decide +kernel)) (aM (aK (a:=("heir" : Str)) (bb:=false) rfl (by decide +kernel)) (bF (aK (a:=("heir" : Str)) (bb:=false) rfl (by decide +kernel)) (aE (ah (ds:=[.str "heir",.int day,.str by_,.str off,.str p]) ?_ (mk _ (by simp))))))))))
  ·rw[dB,decide_eq_false (by decide +kernel)]
  ·exact au (b:=false) rfl (au (b:=false) rfl (au (b:=false) rfl (au (aB (x:=.lst (zs.map .str)) (y:=.int (5+o % 2)) (b1:=false) (b2:=false) rfl (by simp) eo) (au (b:=false) rfl rfl))))
def g7 (r:D):Prop:=∃h k a9,r=row h k a9/\Dd k a9
theorem g7.c {r:D}(g:g7 r):rR r:=by obtain⟨h,k,a9,e,d⟩:=g;exact⟨h,k,a9,e,d.cd⟩
theorem g7.flat {r:D}(g:g7 r):bi r=true:=g.c.rp.flat
theorem GY (c1 m most:Int) (xs zs had:List Str) (ns:List Int) (rows:List D) (hz:zs.length=7) (i:Nat) (hi:i<2) (hr:rows.length<=100) (hh:had.length<=100) (v8 v9 v10 v11:Option (D×Bool)) :
  ∃r1 r2 p w8 w9 w10 w11,(g7 r1/\bf r1=true/\zs[5+i]? = some (a7 0 r1))/\(g7 r2/\bf r2=false)/\ls [some (.lst (ns.map .int),false),some (.lst (zs.map .str),false),some (.int m,false),some (.int most,false),some (.int c1,false),some (.lst rows,true),some (.lst (had.map .str),true),some (.int i,false),v8,v9,v10,v11,none,none,none]
   = some (.nx [some (.lst (ns.map .int),false),some (.lst (zs.map .str),false),some (.int m,false),some (.int most,false),some (.int c1,false),some (.lst (rows++[r1]++[r2]),true),some (.lst ((had++[p]).map .str),true),some (.int i,false),w8,w9,w10,w11,none,none,none]):=by
 have h3:=mod_lt (x:=c1 / (64+9*i)) (m:=3) (by decide)
 obtain⟨rl,_,erl⟩:=jy (zs:=[("open" : Str),("first" : Str),("last" : Str)]) (i:=c1 / (64+9*i) % 3) (by simp;omega) (by simp;omega)
 have h4:=mod_lt (x:=c1 / (2+8*i)) (m:=4) (by decide)
 obtain⟨mti,hmti,emti⟩:=kK (ns:=[7,255,3,15]) (i:=c1 / (2+8*i) % 4) h4.1 h4.2
 obtain⟨mt,emt',hmt⟩:∃mt:Nat,mti=mt/\mt∈MR:=by
  simp only[List.mem_cons,List.not_mem_nil,or_false]at hmti
  rcases hmti with rfl|rfl|rfl|rfl<;>first|exact⟨7,rfl,by decide⟩|exact⟨255,rfl,by decide⟩|exact⟨3,rfl,by decide⟩|exact⟨15,rfl,by decide⟩
 have emt:=emti
 rw[emt']at emt
 have h3':=mod_lt (x:=c1 / (31+i)) (m:=3) (by decide)
 obtain⟨dv,hdv,ed⟩:=kK (ns:=[5,5,10]) (i:=c1 / (31+i) % 3) h3'.1 h3'.2
 have hd0:0<dv:=by simp only[List.mem_cons,List.not_mem_nil,or_false]at hdv;omega
 obtain⟨of,hof,eof⟩:∃of,zs[5+i]? = some of/\ixD (.lst (zs.map .str)) (.int (5+i))=some (.str of,false):=by
  have hl:5+i<zs.length:=by omega
  refine⟨zs[5+i],List.getElem?_eq_getElem hl, ?_⟩
  have hl2:((5:Int)+i).toNat<(zs.map D.str).length:=by rw[List.length_map];omega
  rw[DL.wA (by omega) hl2,show((5:Int)+i).toNat=5+i by omega,List.getD_eq_getElem?_getD,List.getElem?_map,List.getElem?_eq_getElem hl];rfl
 obtain⟨pn,_,epn⟩:=jy (zs:=zs) (i:=i) (by omega) (by omega)
 have b64:(0:Int)<64+9*i/\(64:Int)+9*i<1073741824:=by omega
 have b2:(0:Int)<2+8*i/\(2:Int)+8*i<1073741824:=by omega
 have b512:(0:Int)<512+i/\(512:Int)+i<1073741824:=by omega
 have b1024:(0:Int)<1024+5*i/\(1024:Int)+5*i<1073741824:=by omega
 have b31:(0:Int)<31+i/\(31:Int)+i<1073741824:=by omega
 let t:Int:=if c1 / (512+i) % 8=1 then 1 else 0
 have ht:0<=t/\t<=1:=by show 0<=(if _ then (1:Int)else 0)/\(if _ then (1:Int)else 0)<=1;split<;>omega
 refine⟨row (t*4*m) ("root" : Str) [.str of,.int mt,.int (c1 / (1024+5*i) % dv),.str rl],row 0 ("named" : Str) [.int 0,.str of,.str pn],pn,some (.str rl,false),some (.int mt,false),some (.int (t*4*m),false),some (.int (c1 / (1024+5*i) % dv),false),⟨⟨_,_,_,rfl,.root _ _ _ hmt _⟩,decide_eq_true rfl,hof⟩,⟨⟨_,_,_,rfl,.named _ _ _⟩,show decide (("named" : Str)=("root" : Str))=false by decide +kernel⟩, ?_⟩
 refine aO (d:=.str rl) (b:=false) ?_ rfl (aO (d:=.int mt) (b:=false) ?_ rfl (aO (d:=.int (t*4*m)) (b:=false) ?_ rfl (aO (d:=.int (c1 / (1024+5*i) % dv)) (b:=false) ?_ rfl (DR (ds:=rows) (d:=row (t*4*m) ("root" : Str) [.str of,.int mt,.int (c1 / (1024+5*i) % dv),.str rl]) (b:=false) rfl ?_ rfl (bG (by omega)) (DR (ds:=rows++[row (t*4*m) ("root" : Str) [.str of,.int mt,.int (c1 / (1024+5*i) % dv),.str rl]]) (d:=row 0 ("named" : Str) [.int 0,.str of,.str pn]) (b:=false) rfl ?_ rfl (bG (by simp;omega)) ((fu (ds:=had.map .str) (d:=.str pn) (b:=false) rfl ?_ rfl (bG (by simp;omega))).trans ?_))))))
 ·exact aB (x:=.lst (([("open" : Str),("first" : Str),("last" : Str)]:List Str).map .str)) (y:=.int (c1 / (64+9*i) % 3)) (b1:=true) (b2:=false) (by simp[sizeLine]) (by simp[b64]) erl
 ·exact aB (x:=.lst (([7,255,3,15]:List Int).map .int)) (y:=.int (c1 / (2+8*i) % 4)) (b1:=true) (b2:=false) (by simp[sizeLine]) (by simp[b2]) emt
 ·refine aB (x:=.int (t*4)) (y:=.int m) (b1:=false) (b2:=false) (aB (x:=.int t) (y:=.int 4) (b1:=false) (b2:=false) ?_ rfl (by simp)) rfl (l7 (by omega))
  refine ah (ds:=[.bl (decide (c1 / (512+i) % 8=1))]) (au (b:=false) (aB (x:=.int (c1 / (512+i) % 8)) (y:=.int 1) (b1:=false) (b2:=false) (by simp[b512]) rfl (by simp)) rfl) ?_
  simp[t]
 ·refine aB (x:=.int (c1 / (1024+5*i))) (y:=.int dv) (b1:=false) (b2:=false) (by simp[b1024]) (aB (x:=.lst (([5,5,10]:List Int).map .int)) (y:=.int (c1 / (31+i) % 3)) (b1:=true) (b2:=false) (by simp[sizeLine]) (by simp[b31]) ed) ?_
  show(if decide ((0:Int)<dv)=true then _ else _)=_
  rw[if_pos (decide_eq_true hd0)]
 ·refine ah (ds:=[.int (t*4*m),.tup [.str "root",.str of,.int mt,.int (c1 / (1024+5*i) % dv),.str rl]]) (au (b:=false) rfl (au (b:=false) (ah (ds:=[.str "root",.str of,.int mt,.int (c1 / (1024+5*i) % dv),.str rl]) (au (b:=false) rfl (au (aB (x:=.lst (zs.map .str)) (y:=.int (5+i)) (b1:=false) (b2:=false) rfl (by simp) eof) (au (b:=false) rfl (au (b:=false) rfl (au (b:=false) rfl rfl))))) (dC _ (by simp))) rfl)) (dC _ (by simp))
 ·refine ah (ds:=[.int 0,.tup [.str "named",.int 0,.str of,.str pn]]) (au (b:=false) rfl (au (b:=false) (ah (ds:=[.str "named",.int 0,.str of,.str pn]) (au (b:=false) rfl (au (b:=false) rfl (au (aB (x:=.lst (zs.map .str)) (y:=.int (5+i)) (b1:=false) (b2:=false) rfl (by simp) eof) (au (aB (x:=.lst (zs.map .str)) (y:=.int i) (b1:=false) (b2:=false) rfl rfl epn) rfl)))) (dC _ (by simp))) rfl)) (dC _ (by simp))
 ·exact aB (x:=.lst (zs.map .str)) (y:=.int i) (b1:=false) (b2:=false) rfl rfl epn
 ·simp
def ji (rows:List D):List Str:=(rows.filter bf).map (a7 0)
theorem l8 (rows:List D) (r:D):ji (rows++[r])=ji rows++if bf r=true then [a7 0 r]else []:=by
 unfold ji
 rw[List.filter_append,List.map_append,List.filter_cons]
 split
 ·rename_i h;rfl
 ·rename_i h;rfl
theorem GZ (c1 m most:Int) (zs had:List Str) (ns:List Int) (rows:List D) (hz:zs.length=7) (i:Nat) (hi:i<100) (hr:rows.length<=200) (hh:had≠[]) (hh2:had.length<=200) (v8 v9 v10 v11 v12 v13 v14:Option (D×Bool)) :
  ∃r1 had' w12 w13 w14,(g7 r1/\bf r1=false)/\had'≠[]/\had'.length<=had.length+1/\lu [some (.lst (ns.map .int),false),some (.lst (zs.map .str),false),some (.int m,false),some (.int most,false),some (.int c1,false),some (.lst rows,true),some (.lst (had.map .str),true),some (.int i,false),v8,v9,v10,v11,v12,v13,v14]
   = some (.nx [some (.lst (ns.map .int),false),some (.lst (zs.map .str),false),some (.int m,false),some (.int most,false),some (.int c1,false),some (.lst (rows++[r1]),true),some (.lst (had'.map .str),true),some (.int i,false),v8,v9,v10,v11,w12,w13,w14]):=by
 obtain⟨ca,eca,ca0⟩:=eS ns (5+i)
 obtain⟨cb,ecb,cb0⟩:=eS ns (30+i)
 obtain⟨cc,ecc,cc0⟩:=eS ns (60+i)
 have h3:=mod_lt (x:=ca / 7) (m:=3) (by decide)
 obtain⟨day,hday⟩:∃day:Int,((i:Int) / 2+ca / 7 % 3)*m=day:=⟨_,rfl⟩
 obtain⟨k,r,ed,hD,hk1,hk3,hk4⟩:=Dc rows.length cb cc day m zs had hz hh
 have h6:=mod_lt (x:=ca / 21) (m:=6) (by decide)
 obtain⟨tv,htv,etv⟩:=kK (ns:=[0,0,0,0,1,4]) (i:=ca / 21 % 6) h6.1 h6.2
 have htb : -1000<=tv/\tv<=1000:=by simp only[List.mem_cons,List.not_mem_nil,or_false]at htv;omega
 have hdf:bi (.tup (.str k::r))=true:=by simp[hD.flat]
 have e4:∀(ρ:DL.Env),ρ[14]? = some (some (.tup (.str k::r),false))->f2 ixD (af 14) (fC (.int 0)) ρ=some (.str k,false):=λρ h=>aB (x:=.tup (.str k::r)) (y:=.int 0) (b1:=false) (b2:=false) (by simp[h]) rfl (by simp[at0])
 have e1:∀(b:Bool),decide (k=("leave" : Str)∨k=("named" : Str))=b->tOf (f2 dIn (f2 ixD (af 14) (fC (.int 0))) (fA ba (ae (fC (.str "leave")) (ae (fC (.str "named")) aj)))) [some (.lst (ns.map .int),false),some (.lst (zs.map .str),false),some (.int m,false),some (.int most,false),some (.int c1,false),some (.lst rows,true),some (.lst (had.map .str),true),some (.int i,false),v8,v9,v10,v11,some (.int ca,false),some (.int day,false),some (.tup (.str k::r),false)]=some b:=λb hb=>aF (b:=false) (aB (x:=.str k) (y:=.tup (([("leave" : Str),("named" : Str)]:List Str).map .str)) (b1:=false) (b2:=false) (e4 _ rfl) (by simp[sizeLine]) (by rw[dB,←hb];simp))
 have at_:∀(j:Nat) (p:Str),r[j]? = some (.str p)->∀ρ:DL.Env,ρ[14]? = some (some (.tup (.str k::r),false))->f2 ixD (af 14) (fC (.int ((j+1:Nat):Int))) ρ=some (.str p,false):=λj p hp ρ hρ=>by
  have hl:j<r.length:=(List.getElem?_eq_some_iff.mp hp).1
  refine aB (x:=.tup (.str k::r)) (y:=.int ((j+1:Nat):Int)) (b1:=false) (b2:=false) (by simp[hρ]) rfl ?_
  rw[DL.qS (by omega) (by simp;omega),show((j+1:Nat):Int).toNat=j+1 by omega,List.getD_eq_getElem?_getD]
  show some ((r[j]?).getD .non,false)=_
  rw[hp];rfl
 obtain⟨had',hne',hlen',hgo⟩:∃had':List Str,had'≠[]/\had'.length<=had.length+1/\∀(h:FS) (rr:Option Res),h [some (.lst (ns.map .int),false),some (.lst (zs.map .str),false),some (.int m,false),some (.int most,false),some (.int c1,false),some (.lst rows,true),some (.lst (had'.map .str),true),some (.int i,false),v8,v9,v10,v11,some (.int ca,false),some (.int day,false),some (.tup (.str k::r),false)]=rr->aG (gIf (tOf (f2 dIn (f2 ixD (af 14) (fC (.int 0))) (fA ba (ae (fC (.str "leave")) (ae (fC (.str "named")) aj))))) (ga 6 (f2 ixD (af 14) (fC (.int 3)))) bo) (aG (gIf (tOf (f2 dEq (f2 ixD (af 14) (fC (.int 0))) (fC (.str "chosen")))) (ga 6 (f2 ixD (af 14) (fC (.int 4)))) bo) h) [some (.lst (ns.map .int),false),some (.lst (zs.map .str),false),some (.int m,false),some (.int most,false),some (.int c1,false),some (.lst rows,true),some (.lst (had.map .str),true),some (.int i,false),v8,v9,v10,v11,some (.int ca,false),some (.int day,false),some (.tup (.str k::r),false)]=rr:=by
  by_cases hx:k=("leave" : Str)∨k=("named" : Str)
  ·obtain⟨p,hp⟩:=hk3 hx
   have hnc:k≠("chosen" : Str):=by rcases hx with rfl|rfl<;>decide +kernel
   refine⟨had++[p],by simp,by simp,λh rr hr=>de (gk (e1 true (decide_eq_true hx)) (fu (ds:=had.map .str) (d:=.str p) (b:=false) rfl (at_ 2 p hp _ rfl) rfl (bG (by simp;omega)))) (aM (aK (a:=k) (bb:=false) (e4 _ rfl) (decide_eq_false hnc)) ?_)⟩
   rw[List.map_append]at hr
   exact hr
  ·by_cases hy:k=("chosen" : Str)
   ·obtain⟨p,hp⟩:=hk4 hy
    refine⟨had++[p],by simp,by simp,λh rr hr=>aM (e1 false (decide_eq_false hx)) (de (gk (aK (a:=k) (bb:=false) (e4 _ rfl) (decide_eq_true hy)) (fu (ds:=had.map .str) (d:=.str p) (b:=false) rfl (at_ 3 p hp _ rfl) rfl (bG (by simp;omega)))) ?_)⟩
    rw[List.map_append]at hr
    exact hr
   ·exact⟨had,hh,by omega,λh rr hr=>aM (e1 false (decide_eq_false hx)) (aM (aK (a:=k) (bb:=false) (e4 _ rfl) (decide_eq_false hy)) hr)⟩
 refine⟨row (day+tv*m) k r,had',some (.int ca,false),some (.int day,false),some (.tup (.str k::r),false),⟨⟨_,_,_,rfl,hD⟩,decide_eq_false hk1⟩,hne',hlen', ?_⟩
 refine aO (d:=.int ca) (b:=false) (ah (ds:=[.lst (ns.map .int),.int ((5+i:Nat):Int)]) (by simp) eca) rfl (aO (d:=.int day) (b:=false) ?_ rfl (aO (d:=.tup (.str k::r)) (b:=false) ?_ hdf (hgo _ _ ((fu (ds:=rows) (d:=row (day+tv*m) k r) (b:=false) rfl ?_ (by simp[row,hD.flat]) (bG (by omega))).trans ?_))))
 ·refine aB (x:=.int ((i:Int) / 2+ca / 7 % 3)) (y:=.int m) (b1:=false) (b2:=false) (by simp) rfl ?_
  rw[←hday]
  exact l7 (by omega)
 ·refine ah (ds:=[.int rows.length,.int cb,.int cc,.lst (zs.map .str),.int day,.lst (had.map .str),.int m]) (au (b:=false) (by simp) (au (ah (ds:=[.lst (ns.map .int),.int ((30+i:Nat):Int)]) (by simp) ecb) (au (ah (ds:=[.lst (ns.map .int),.int ((60+i:Nat):Int)]) (by simp) ecc) (au (b:=false) rfl (au (b:=false) rfl (au (b:=false) rfl (au (b:=false) rfl rfl))))))) ed
 ·refine ah (ds:=[.int (day+tv*m),.tup (.str k::r)]) (au (b:=false) (aB (x:=.int day) (y:=.int (tv*m)) (b1:=false) (b2:=false) rfl (aB (x:=.int tv) (y:=.int m) (b1:=false) (b2:=false) (aB (x:=.lst (([0,0,0,0,1,4]:List Int).map .int)) (y:=.int (ca / 21 % 6)) (b1:=true) (b2:=false) (by simp[sizeLine]) (by simp) etv) rfl (l7 htb)) rfl) (au (b:=false) rfl rfl)) (dC _ (by simp))
 ·simp
theorem De (ns:List Int) (zs:List Str) (hz:zs.length=7) (m:Int):∃rows:List D,kn [.lst (ns.map .int),.lst (zs.map .str),.int m,.int 14]=some (.tup rows,false)/\(∀r∈rows,g7 r)/\rows.length<=20/\ji rows=(zs.drop 5).take (ji rows).length:=by
 obtain⟨c1,e1,h1⟩:=eS ns 1
 obtain⟨c2,e2,h2⟩:=eS ns 2
 have hm1:=mod_lt (x:=c1) (m:=2) (by decide)
 have hm2:=mod_lt (x:=c2) (m:=14) (by decide)
 obtain⟨n1,hn1⟩:∃n1:Nat,1+c1 % 2=n1:=⟨(1+c1 % 2).toNat,by omega⟩
 obtain⟨n2,hn2⟩:∃n2:Nat,3+c2 % 14=n2:=⟨(3+c2 % 14).toNat,by omega⟩
 obtain⟨ρ1,f1,rows1,had1,u7,u8,u9,u10,u11,rfl,g1,l1,k1,o1⟩:=gh (tg:=tgN 7) (g:=ls) n1 (λi ρ=>∃(rows:List D) (had:List Str) (v7 v8 v9 v10 v11:Option (D×Bool)),ρ=[some (.lst (ns.map .int),false),some (.lst (zs.map .str),false),some (.int m,false),some (.int 14,false),some (.int c1,false),some (.lst rows,true),some (.lst (had.map .str),true),v7,v8,v9,v10,v11,none,none,none]/\(∀r∈rows,g7 r)/\rows.length=2*i/\had.length=i/\ji rows=(zs.drop 5).take i)
  [some (.lst (ns.map .int),false),some (.lst (zs.map .str),false),some (.int m,false),some (.int 14,false),some (.int c1,false),some (.lst [],true),some (.lst [],true),none,none,none,none,none,none,none,none] ⟨[],[],none,none,none,none,none,rfl,by simp,rfl,rfl,rfl⟩ (by
   rintro i ρ hi ⟨rows,had,v7,v8,v9,v10,v11,rfl,g,l,k,o⟩
   obtain⟨r1,r2,p,w8,w9,w10,w11,q1,q2,e⟩:=GY c1 m 14 [] zs had ns rows hz i (by omega) (by omega) (by omega) v8 v9 v10 v11
   refine⟨_,_,rfl,.inl e,rows++[r1]++[r2],had++[p],_,w8,w9,w10,w11,rfl, ?_,by simp;omega,by simp[k],by rw[l8,l8,if_pos q1.2.1,if_neg (by rw[q2.2];decide),List.append_nil,o,List.take_add_one,List.getElem?_drop,q1.2.2];rfl⟩
   intro r hr
   simp only[List.mem_append,List.mem_singleton]at hr
   rcases hr with (hr|rfl)|rfl
   ·exact g r hr
   ·exact q1.1
   ·exact q2.1)
 obtain⟨ρ2,f2',rows2,had2,w7,w12,w13,w14,rfl,g2,l2,k2,k3,o2⟩:=gh (tg:=tgN 7) (g:=lu) n2 (λi ρ=>∃(rows:List D) (had:List Str) (v7 v12 v13 v14:Option (D×Bool)),ρ=[some (.lst (ns.map .int),false),some (.lst (zs.map .str),false),some (.int m,false),some (.int 14,false),some (.int c1,false),some (.lst rows,true),some (.lst (had.map .str),true),v7,u8,u9,u10,u11,v12,v13,v14]/\(∀r∈rows,g7 r)/\rows.length=2*n1+i/\had≠[]/\had.length<=n1+i/\ji rows=(zs.drop 5).take n1)
  [some (.lst (ns.map .int),false),some (.lst (zs.map .str),false),some (.int m,false),some (.int 14,false),some (.int c1,false),some (.lst rows1,true),some (.lst (had1.map .str),true),u7,u8,u9,u10,u11,none,none,none] ⟨rows1,had1,u7,none,none,none,rfl,g1,by omega,λe=>by rw[e]at k1;simp at k1;omega,by omega,o1⟩ (by
   rintro i ρ hi ⟨rows,had,v7,v12,v13,v14,rfl,g,l,k,k',o⟩
   obtain⟨r1,had',w12,w13,w14,q1,q2,q3,e⟩:=GZ c1 m 14 zs had ns rows hz i (by omega) (by omega) k (by omega) u8 u9 u10 u11 v12 v13 v14
   refine⟨_,_,rfl,.inl e,rows++[r1],had',_,w12,w13,w14,rfl, ?_,by simp;omega,q2,by omega,by rw[l8,if_neg (by rw[q1.2];decide),List.append_nil,o]⟩
   intro r hr
   simp only[List.mem_append,List.mem_singleton]at hr
   rcases hr with hr|rfl
   ·exact g r hr
   ·exact q1.1)
 refine⟨rows2,aA rfl (aO (d:=.int c1) (b:=false) (ah (ds:=[.lst (ns.map .int),.int ((1:Nat):Int)]) (by simp) e1) rfl (cy (ds:=[]) (by simp[sizeLine]) rfl (cy (ds:=[]) (by simp[sizeLine]) rfl (de (gm (dN (j:=n1) (b:=false) (by simp;omega) (by omega)) f1) (de (gm (dN (j:=n2) (b:=false) ?_ (by omega)) f2') (aE (by simp))))))),g2,by omega, ?_⟩
 ·refine aB (x:=.int 3) (y:=.int (c2 % 14)) (b1:=false) (b2:=false) rfl (aB (x:=.int c2) (y:=.int 14) (b1:=false) (b2:=false) (ah (ds:=[.lst (ns.map .int),.int ((2:Nat):Int)]) (by simp) e2) rfl (by simp)) ?_
  rw[←hn2]
  rfl
 ·have hl:(ji rows2).length<=n1:=by rw[o2,List.length_take];omega
  rw[o2,List.length_take]
  congr 1
  rw[List.length_drop]
  omega
theorem zm (a b:Nat):gq [.int a,.int b]=some (.bl (decide (a &&& b=b)),false):=by
 have:Builtin.bitAnd (a:Int) (b:Int)=((a &&& b:Nat):Int):=by simp[Builtin.bitAnd]
 simp[gq,nQ,this]
 omega
theorem wK:∀a∈MR,∀b∈MS,isR (dQ [.int (a:Int),.int (b:Int)]) (.bl (decide (a &&& b=b))) false=true:=by decide +kernel
theorem zn {a b:Nat}(ha:a∈MR) (hb:b∈MS):dQ [.int a,.int b]=some (.bl (decide (a &&& b=b)),false):=br (wK a ha b hb)
def mAt (r:D):Nat:=(if kindOf r=("root" : Str)then iA 1 r else if kindOf r=("leave" : Str)then iA 3 r else iA 2 r).toNat
theorem kL (a:Int) (k:Str) (a9:List D):kindOf (row a k a9)=k:=rfl
def qF:List Str:=[("leave" : Str),("paper" : Str),("like" : Str)]
theorem wL {r:D}(g:g7 r) (h:bf r=true):∃a o rl,∃m:Nat,∃f:Int,r=row a ("root" : Str) [.str o,.int m,.int f,.str rl]/\m∈MR/\mAt r=m:=by
 obtain⟨a,k,a9,rfl,d⟩:=g
 have hk:k=("root" : Str):=of_decide_eq_true h
 clear h
 cases d with
 | root o rl m hm f=>exact⟨a,o,rl,m,f,rfl,hm,by unfold mAt;rw[kL,if_pos rfl];rfl⟩
 | named=>exact absurd hk (by decide +kernel)
 | chosen=>exact absurd hk (by decide +kernel)
 | heir=>exact absurd hk (by decide +kernel)
 | three k hk'=>rcases hk' with rfl|rfl<;>exact absurd hk (by decide +kernel)
 | leave=>exact absurd hk (by decide +kernel)
 | paper k hk'=>rcases hk' with rfl|rfl<;>exact absurd hk (by decide +kernel)
 | copy k hk'=>rcases hk' with rfl|rfl<;>exact absurd hk (by decide +kernel)
theorem Df {r:D}(g:g7 r) (h:bf r=true):av [r,.str "matters"]=some (.int (mAt r),false):=by
 obtain⟨a,o,rl,m,f,rfl,_,e⟩:=wL g h
 rw[e]
 exact bw (i:=1) (br (by decide +kernel)) rfl
theorem Br {a:Int}{k:Str}{a9:List D}(d:Dd k a9) (h:k∈qF):mAt (row a k a9)∈MS/\(∃i:Nat,np eQ (.str k) (.str "matters")=some (.int i,false)/\a9[i]? = some (.int (mAt (row a k a9))))/\(D.str k::a9).getD (3+if k=("leave" : Str)then 1 else 0) .non=.int (mAt (row a k a9))/\(3+if k=("leave" : Str)then 1 else 0)<(D.str k::a9).length:=by
 cases d with
 | leave d b p m hm r hf hp =>
  have e:mAt (row a ("leave" : Str) (.int d::.str b::.str p::.int m::r))=m:=by unfold mAt;rw[kL,if_neg (by decide +kernel),if_pos rfl];rfl
  rw[e]
  refine⟨hm,⟨3,br (by decide +kernel),rfl⟩, ?_, ?_⟩
  ·rw[if_pos rfl];rfl
  ·rw[if_pos rfl];simp
 | paper k hk d b m hm r hf hp =>
  have hl:k≠("leave" : Str):=by rcases hk with rfl|rfl<;>decide +kernel
  have hr:k≠("root" : Str):=by rcases hk with rfl|rfl<;>decide +kernel
  have e:mAt (row a k (.int d::.str b::.int m::r))=m:=by unfold mAt;rw[kL,if_neg hr,if_neg hl];rfl
  rw[e]
  refine⟨hm,⟨2,by rcases hk with rfl|rfl<;>exact br (by decide +kernel),rfl⟩, ?_, ?_⟩
  ·rw[if_neg hl];rfl
  ·rw[if_neg hl];simp
 | root=>exact absurd h (by decide +kernel)
 | named=>exact absurd h (by decide +kernel)
 | chosen=>exact absurd h (by decide +kernel)
 | heir=>exact absurd h (by decide +kernel)
 | three k hk'=>rcases hk' with rfl|rfl<;>exact absurd h (by decide +kernel)
 | copy k hk'=>rcases hk' with rfl|rfl<;>exact absurd h (by decide +kernel)
theorem Dg {r:D}(g:g7 r) (h:kindOf r∈qF):av [r,.str "matters"]=some (.int (mAt r),false):=by
 obtain⟨a,k,a9,rfl,d⟩:=g
 obtain⟨_,⟨i,h1,h2⟩,_⟩:=Br (a:=a) d h
 exact bw h1 h2
def cH:List Str:=[("leave" : Str),("paper" : Str),("like" : Str),("copy" : Str)]
theorem jz {k:Str}(h:k∈cH∨k=("call" : Str)):cP k=true:=by
 rw[nZ]
 refine decide_eq_true ?_
 rcases h with h|rfl
 ·have:∀k∈cH,k∈uA:=by decide +kernel
  exact this k h
 ·decide +kernel
theorem yr {k:Str}{a9:List D}(d:Dd k a9) (h:cP k=true):∃(dd:Int) (b:Str) (r:List D),a9=.int dd::.str b::r:=d.cd.deed.slg h
theorem DV {r:D}(g:g7 r) (h:cP (kindOf r)=true):av [r,.str "by"]=some (.str (eG r),false):=by
 obtain⟨a,k,a9,rfl,d⟩:=g
 obtain⟨dd,b,q,rfl⟩:=yr d h
 exact bw (i:=1) (Bd h) rfl
def cE (K:KL):List D:=(K.filter λx=>bf x.1).map (·.1)
theorem uN:∀(l:List (Key×D)) (a:List Key×List D),(a.1++l.map (·.1)).Nodup->l.foldl nw a=(a.1++l.map (·.1),a.2++l.map (·.2))
 | [],a,_=>by simp
 | p::l,a,h=>by
  have hn:p.1∉a.1:=by
   rw[List.map_cons,List.nodup_append]at h
   exact λz=>h.2.2 _ z _ mX rfl
  have e:nw a p=(a.1++[p.1],a.2++[p.2]):=by unfold nw dF dG;rw[if_neg hn,if_neg hn]
  rw[List.foldl_cons,e,uN l _ (by rw[List.append_assoc];exact h)]
  simp
theorem yt:∀ {vs:List D}{v:D},(vs.map (a7 0)).Nodup->v∈vs->cu (vs.map λv=>(.inr (a7 0 v):Key)) vs (.inr (a7 0 v))=some v
 | w::vs,v,h,hv=>by
  rw[List.map_cons,List.nodup_cons]at h
  rw[List.map_cons,cu]
  rcases List.mem_cons.mp hv with rfl|hv
  ·rw[if_pos rfl]
  ·rw[if_neg λz=>h.1 (by have e:a7 0 w=a7 0 v:=Sum.inr.inj z;rw[e];exact List.mem_map_of_mem hv)]
   exact yt h.2 hv
section
variable {K:KL}(hn:((cE K).map (a7 0)).Nodup)
include hn
theorem oC:bE (iB K)=((cE K).map λv=>(.inr (a7 0 v):Key),cE K):=by
 have e:iB K=(cE K).map λv=>((.inr (a7 0 v):Key),v):=by unfold iB cE;rw[List.map_map];rfl
 have hn2:((cE K).map λv=>(.inr (a7 0 v):Key)).Nodup:=by
  refine List.pairwise_map.mpr ((List.pairwise_map.mp hn).imp λh z=>h (Sum.inr.inj z))
 rw[e]
 unfold bE
 rw[uN _ _ (by rw[List.map_map];exact hn2),List.map_map,List.map_map]
 simp only[List.nil_append]
 congr 1
 exact List.map_id _
theorem zo {v:D}(hv:v∈cE K):kG K (a7 0 v)=some v:=by
 unfold kG
 rw[oC hn]
 exact yt hn hv
end
def uO (K:KL) (c r:D):Bool:=decide (eG c=eG r) || (!decide (kindOf r=("copy" : Str)) && (cE K).any λv=>decide (mAt v &&& mAt r=mAt r) && fM (aV K) (a7 0 v) (a7 3 v) (eG c) (aQ c))
theorem any_filter {α:Type}(l:List α) (p f:α->Bool):((l.filter p).map f).any id=l.any λx=>p x && f x:=by
 induction l with
 | nil=>rfl
 | cons x l ih =>
  rw[List.filter_cons,List.any_cons,←ih]
  cases h:p x with
  | true=>rw[if_pos rfl,List.map_cons,List.any_cons];rfl
  | false=>rw[if_neg (by decide)];rfl
theorem Fv {rows:List D}(g:∀r∈rows,g7 r) (hl:rows.length<=60) (known:Int) (hlen:(aV (aq rows known)).length<=60) (hn:((cE (aq rows known)).map (a7 0)).Nodup) {ci ri:Nat}{c r:D}(hc:rows[ci]? = some c) (hr:rows[ri]? = some r) (kc:kindOf c=("call" : Str)) (kr:kindOf r∈cH) :
  gO [.tup rows,.int known,.lst ((aV (aq rows known)).map clD),.int ci,.int ri]=some (.bl (uO (aq rows known) c r),false):=by
 have gC:eI rows:=⟨hl,λr hr=>(g r hr).c⟩
 have gc:=g c (List.mem_of_getElem? hc)
 have gr:=g r (List.mem_of_getElem? hr)
 have ac:=dR hc
 have ar:=dR hr
 have pc:=DV gc (jz (.inr kc))
 have pr:=DV gr (jz (.inl kr))
 have hrl:∀v∈cE (aq rows known),g7 v/\bf v=true:=λv hv=>by
  obtain⟨x,hx,rfl⟩:=List.mem_map.mp hv
  obtain⟨h1,h2⟩:=List.mem_filter.mp hx
  exact⟨g _ (List.mem_of_getElem? (cB h1)),h2⟩
 have hrn:(cE (aq rows known)).length<=60:=by
  unfold cE;rw[List.length_map]
  exact Nat.le_trans (List.length_filter_le _ _) (Nat.le_trans (dS rows known) hl)
 have hcd:aP [c]=some (.int (aQ c),false):=by
  have:=qx gc.c
  unfold rS at this
  rwa [if_neg (by unfold bf;rw[kc];decide +kernel)]at this
 have tby:∀(v7:Option (D×Bool)),tOf (f2 dEq (af 6) (fA av (ae (af 5) (ae (fC (.str "by")) aj)))) [some (.tup rows,false),some (.int known,false),some (.lst ((aV (aq rows known)).map clD),false),some (.int ci,false),some (.int ri,false),some (r,false),some (.str (eG c),false),v7]=some (decide (eG c=eG r)):=λv7=>aF (b:=false) (aB (x:=.str (eG c)) (y:=.str (eG r)) (b1:=false) (b2:=false) rfl (ah (ds:=[r,.str "by"]) rfl pr) (by simp))
 have tcp:∀(v7:Option (D×Bool)),tOf (f2 dEq (fA aD (ae (af 5) aj)) (fC (.str "copy"))) [some (.tup rows,false),some (.int known,false),some (.lst ((aV (aq rows known)).map clD),false),some (.int ci,false),some (.int ri,false),some (r,false),some (.str (eG c),false),v7]=some (decide (kindOf r=("copy" : Str))):=λv7=>aK (a:=kindOf r) (bb:=false) (ah (ds:=[r]) rfl (l5 gr.c)) rfl
 refine aA rfl (aO (d:=r) (b:=false) (aB (x:=.tup rows) (y:=.int ri) (b1:=false) (b2:=false) rfl rfl (by simp[ar])) gr.flat (aO (d:=.str (eG c)) (b:=false) (ah (ds:=[c,.str "by"]) (au (b:=false) (aB (x:=.tup rows) (y:=.int ci) (b1:=false) (b2:=false) rfl rfl (by simp[ac])) rfl) pc) rfl ?_))
 unfold uO
 cases h1:decide (eG c=eG r) with
 | true=>exact bF ((tby none).trans (by rw[h1])) (aE rfl)
 | false =>
  refine aM ((tby none).trans (by rw[h1])) ?_
  cases h2:decide (kindOf r=("copy" : Str)) with
  | true=>exact bF ((tcp none).trans (by rw[h2])) (aE rfl)
  | false =>
   have kb:kindOf r∈qF:=by
    have hne:=of_decide_eq_false h2
    have:∀k∈cH,k≠("copy" : Str)->k∈qF:=by decide +kernel
    exact this _ kr hne
   have pm:=Dg gr kb
   refine aM ((tcp none).trans (by rw[h2])) ?_
   have hover:=jg (fi:=w6 (fA di (ae (af 0) (ae (af 1) aj)))) (nT:=1) (cap:=[5]) (tg:=tgN 0) (c:=tOf (fA gq (ae (fA av (ae (af 0) (ae (fC (.str "matters")) aj))) (ae (fA av (ae (af 1) (ae (fC (.str "matters")) aj))) aj)))) (fe:=af 0)
    (ρ:=[some (.tup rows,false),some (.int known,false),some (.lst ((aV (aq rows known)).map clD),false),some (.int ci,false),some (.int ri,false),some (r,false),some (.str (eG c),false),none]) (cE (aq rows known)) id (λv=>decide (mAt v &&& mAt r=mAt r)) id
    (by show(fA di _ _).bind _=_;rw[ah (ds:=[.tup rows,.int known]) rfl (o4 gC known),oC hn];simp) (by omega) λv hv=>by
     obtain⟨gv,hv2⟩:=hrl v hv
     exact⟨[some (v,false),some (r,false)],rfl,aF (b:=false) (ah (ds:=[.int (mAt v),.int (mAt r)]) (au (ah (ds:=[v,.str "matters"]) rfl (Df gv hv2)) (au (ah (ds:=[r,.str "matters"]) rfl pm) rfl)) (zm _ _)),λ_=>⟨false,rfl⟩⟩
   rw[List.map_id]at hover
   refine cy (ds:=(cE (aq rows known)).filter λv=>decide (mAt v &&& mAt r=mAt r)) hover (cQ λv hv=>(hrl v (List.mem_filter.mp hv).1).1.flat) (aE ?_)
   have hheld:=qo (fi:=cK (af 7)) (nT:=1) (cap:=[2,6,0,3]) (tg:=tgN 0) (fe:=fA cf (ae (af 1) (ae (af 0) (ae (af 2) (ae (fA aP (ae (f2 ixD (af 3) (af 4)) aj)) aj)))))
    (ρ:=[some (.tup rows,false),some (.int known,false),some (.lst ((aV (aq rows known)).map clD),false),some (.int ci,false),some (.int ri,false),some (r,false),some (.str (eG c),false),some (.lst ((cE (aq rows known)).filter λv=>decide (mAt v &&& mAt r=mAt r)),true)]) ((cE (aq rows known)).filter λv=>decide (mAt v &&& mAt r=mAt r)) id (λv=>.bl (fM (aV (aq rows known)) (a7 0 v) (a7 3 v) (eG c) (aQ c)))
    (by simp) (Nat.le_trans (List.length_filter_le _ _) (by omega)) λv hv=>by
     obtain⟨gv,hv2⟩:=hrl v (List.mem_filter.mp hv).1
     obtain⟨a,o,rl,m,f,rfl,_,_⟩:=wL gv hv2
     exact⟨[some (row a ("root" : Str) [.str o,.int m,.int f,.str rl],false),some (.lst ((aV (aq rows known)).map clD),false),some (.str (eG c),false),some (.tup rows,false),some (.int ci,false)],rfl,false,ah (ds:=[.lst ((aV (aq rows known)).map clD),row a ("root" : Str) [.str o,.int m,.int f,.str rl],.str (eG c),.int (aQ c)]) (au (b:=false) rfl (au (b:=false) rfl (au (b:=false) rfl (au (ah (ds:=[c]) (au (b:=false) (aB (x:=.tup rows) (y:=.int ci) (b1:=false) (b2:=false) rfl rfl (by simp[ac])) rfl) hcd) rfl)))) (yj _ hlen _ _)⟩
   refine(ah (ds:=[_]) (au hheld rfl) ?_)
   show(pj _).map _=_
   rw[uq,Option.map_some,any_filter]
   rfl
theorem oD {r:D}(g:g7 r) (h:kindOf r=("call" : Str)):∃a d b,∃n:Nat,r=row a ("call" : Str) [.int d,.str b,.int n]:=by
 obtain⟨a,k,a9,rfl,d⟩:=g
 have hk:k=("call" : Str):=h
 clear h
 cases d with
 | copy k hk' d b n=>subst hk;exact⟨a,d,b,n,rfl⟩
 | root=>exact absurd hk (by decide +kernel)
 | named=>exact absurd hk (by decide +kernel)
 | chosen=>exact absurd hk (by decide +kernel)
 | heir=>exact absurd hk (by decide +kernel)
 | three k hk'=>rcases hk' with rfl|rfl<;>exact absurd hk (by decide +kernel)
 | leave=>exact absurd hk (by decide +kernel)
 | paper k hk'=>rcases hk' with rfl|rfl<;>exact absurd hk (by decide +kernel)
def rZ (rows:List D) (known:Int) (ri:Nat) (r:D) (day:Int) (c:D):Bool:=decide (kindOf c=("call" : Str)) && (decide (iA 2 c=ri) && (decide (aQ c<=day) && (i7 rows known c && uO (aq rows known) c r)))
theorem Fw {f:FE}{ρ:DL.Env}{a b:Str}{bb:Bool}(e:f ρ=some (.str a,bb)):tOf (f2 dNe f (fC (.str b))) ρ=some (!decide (a=b)):=aF (b:=false) (aB (x:=.str a) (y:=.str b) (b1:=bb) (b2:=false) e rfl (by simp))
section
variable {rows:List D}(g:∀r∈rows,g7 r) (hl:rows.length<=60) (known:Int) (hlen:(aV (aq rows known)).length<=60) (hn:((cE (aq rows known)).map (a7 0)).Nodup)
include g hl hlen hn
theorem uP {ci ri:Nat}{c r:D}(hc:rows[ci]? = some c) (hr:rows[ri]? = some r) (kr:kindOf r∈cH) (day:Int):fw [.tup rows,.int known,.lst ((aV (aq rows known)).map clD),.int ci,.int ri,.int day]=some (.bl (rZ rows known ri r day c),false):=by
 have gc:=g c (List.mem_of_getElem? hc)
 have ac:=dR hc
 have tw:tOf (f2 dNe (fA aD (ae (af 6) aj)) (fC (.str "call"))) [some (.tup rows,false),some (.int known,false),some (.lst ((aV (aq rows known)).map clD),false),some (.int ci,false),some (.int ri,false),some (.int day,false),some (c,false)]=some (!decide (kindOf c=("call" : Str))):=Fw (a:=kindOf c) (bb:=false) (ah (ds:=[c]) rfl (l5 gc.c))
 refine aA rfl (aO (d:=c) (b:=false) (aB (x:=.tup rows) (y:=.int ci) (b1:=false) (b2:=false) rfl rfl (by simp[ac])) gc.flat ?_)
 unfold rZ
 by_cases hk:kindOf c=("call" : Str)
 ·obtain⟨a,d,b,n,ec⟩:=oD gc hk
  have e1:iA 2 c=(n:Int):=by rw[ec];rfl
  have e2:aQ c=d:=by rw[ec];rfl
  have po:av [c,.str "of"]=some (.int n,false):=by rw[ec];exact bw (i:=2) (br (by decide +kernel)) rfl
  have pd:aP [c]=some (.int d,false):=by
   have:=qx gc.c
   unfold rS at this
   rwa [if_neg (by unfold bf;rw[hk];decide +kernel),e2]at this
  have t2:tOf (f2 dNe (fA av (ae (af 6) (ae (fC (.str "of")) aj))) (af 4)) [some (.tup rows,false),some (.int known,false),some (.lst ((aV (aq rows known)).map clD),false),some (.int ci,false),some (.int ri,false),some (.int day,false),some (c,false)]=some (!decide ((n:Int)=ri)):=aF (b:=false) (aB (x:=.int n) (y:=.int ri) (b1:=false) (b2:=false) (ah (ds:=[c,.str "of"]) rfl po) rfl (by simp))
  have t3:tOf (f2 iGt (fA aP (ae (af 6) aj)) (af 5)) [some (.tup rows,false),some (.int known,false),some (.lst ((aV (aq rows known)).map clD),false),some (.int ci,false),some (.int ri,false),some (.int day,false),some (c,false)]=some (decide (day<d)):=aF (b:=false) (aB (x:=.int d) (y:=.int day) (b1:=false) (b2:=false) (ah (ds:=[c]) rfl pd) rfl rfl)
  have tt:=cA tw λ_=>cA t2 λ_=>t3
  rw[e1,e2,decide_eq_true hk,Bool.true_and]
  rw[decide_eq_true hk]at tt
  by_cases h1:(n:Int)=ri
  ·by_cases h2:d<=day
   ·rw[decide_eq_true h1,decide_eq_true h2,Bool.true_and,Bool.true_and]
    rw[decide_eq_true h1,decide_eq_false (by omega)]at tt
    exact aM tt (aE (fV (ah (ds:=[.tup rows,.int known,.int ci]) rfl (oe rows (λr hr=>(g r hr).c.rp) (by omega) known hc)) λ_=>ah (ds:=[.tup rows,.int known,.lst ((aV (aq rows known)).map clD),.int ci,.int ri]) rfl (Fv g hl known hlen hn hc hr hk kr)))
   ·rw[decide_eq_false h2,Bool.false_and,Bool.and_false]
    rw[decide_eq_true h1,decide_eq_true (show day<d by omega)]at tt
    exact bF tt (aE rfl)
  ·rw[decide_eq_false h1,Bool.false_and]
   rw[decide_eq_false h1]at tt
   exact bF tt (aE rfl)
 ·rw[decide_eq_false hk,Bool.false_and]
  refine bF (cA (p:=true) (q:=false) (tw.trans (by rw[decide_eq_false hk];rfl)) λh=>by cases h) (aE rfl)
def dc (rows:List D) (known:Int) (ri:Nat) (r:D) (day:Int):List Nat:=if aZ r<=known/\kindOf r∈cH then ((aq rows known).filter λx=>rZ rows known ri r day x.1).map (·.2)else []
theorem uQ {ri:Nat}{r:D}(hr:rows[ri]? = some r) (day:Int):gP [.tup rows,.int known,.lst ((aV (aq rows known)).map clD),.int ri,.int day]=some (.lst ((dc rows known ri r day).map λn:Nat=>.int n),true):=by
 have gr:=g r (List.mem_of_getElem? hr)
 have ar:=dR hr
 have hkn:cn [.tup rows,.int known,.int ri]=some (.bl (decide (aZ r<=known)),false):=by
  obtain⟨a,k,a9,e,d⟩:=gr
  rw[e]at hr
  rw[show aZ r=a by rw[e];rfl]
  exact uB hr known
 have wd:∀ρ:DL.Env,ρ[0]? = some (some (.tup rows,false))->ρ[2]? = some (some (.int ri,false))->fA aD (ae (f2 ixD (af 0) (af 2)) aj) ρ=some (.str (kindOf r),false):=λρ h0 h2=>ah (ds:=[r]) (au (b:=false) (aB (x:=.tup rows) (y:=.int ri) (b1:=false) (b2:=false) (by simp[h0]) (by simp[h2]) (by simp[ar])) rfl) (l5 gr.c)
 have hlv:gM [.tup rows,.int known,.int ri]=some (.bl (decide (aZ r<=known) && decide (kindOf r=("leave" : Str))),false):=aA rfl (aE (fV (ah (ds:=[.tup rows,.int known,.int ri]) rfl hkn) λ_=>aB (x:=.str (kindOf r)) (y:=.str "leave") (b1:=false) (b2:=false) (wd _ rfl rfl) rfl (by simp)))
 have hpp:gL [.tup rows,.int known,.int ri]=some (.bl (decide (aZ r<=known) && decide (kindOf r∈[("paper" : Str),("like" : Str),("copy" : Str)])),false):=aA rfl (aE (fV (ah (ds:=[.tup rows,.int known,.int ri]) rfl hkn) λ_=>aB (x:=.str (kindOf r)) (y:=.tup ([("paper" : Str),("like" : Str),("copy" : Str)].map .str)) (b1:=false) (b2:=false) (wd _ rfl rfl) rfl (dB _ _)))
 have hb:gN [.tup rows,.int known,.int ri]=some (.bl (decide (aZ r<=known/\kindOf r∈cH)),false):=by
  refine(aA rfl (aE (AU (ah (ds:=[.tup rows,.int known,.int ri]) rfl hlv) λ_=>ah (ds:=[.tup rows,.int known,.int ri]) rfl hpp))).trans ?_
  congr 3
  simp only[cH,List.mem_cons,List.not_mem_nil,or_false]
  by_cases h1:aZ r<=known
  ·simp[h1]
  ·simp[h1]
 unfold dc
 by_cases hx:aZ r<=known/\kindOf r∈cH
 ·rw[if_pos hx]
  refine aA rfl (aM (gH (p:=true) (aF (b:=false) (ah (ds:=[.tup rows,.int known,.int ri]) rfl (by rw[hb,decide_eq_true hx])))) (aE ?_))
  have hcomp:=jg (fi:=cK (fA bT (ae (af 0) (ae (af 1) aj)))) (nT:=1) (cap:=[0,1,2,3,4]) (tg:=tgN 0) (c:=tOf (fA fw (ae (af 1) (ae (af 2) (ae (af 3) (ae (af 0) (ae (af 4) (ae (af 5) aj)))))))) (fe:=af 0)
   (ρ:=[some (.tup rows,false),some (.int known,false),some (.lst ((aV (aq rows known)).map clD),false),some (.int ri,false),some (.int day,false)]) (aq rows known) (λx=>.int x.2) (λx=>rZ rows known ri r day x.1) (λx=>.int x.2)
   (by show(fA bT _ _).bind _=_;rw[ah (ds:=[.tup rows,.int known]) rfl (ky rows (λr hr=>(g r hr).c.rp) (by omega) known)];rfl) (Nat.le_trans (dS rows known) (by omega)) λx hx2=>by
    exact⟨_,rfl,aF (b:=false) (ah (ds:=[.tup rows,.int known,.lst ((aV (aq rows known)).map clD),.int x.2,.int ri,.int day]) rfl (uP g hl known hlen hn (cB hx2) hr hx.2 day)),λ_=>⟨false,rfl⟩⟩
  rw[List.map_map]
  exact hcomp
 ·rw[if_neg hx]
  exact aA rfl (bF (gH (p:=false) (aF (b:=false) (ah (ds:=[.tup rows,.int known,.int ri]) rfl (by rw[hb,decide_eq_false hx])))) (aE (ah (ds:=[]) rfl (f6 _ (by simp)))))
omit hlen in
theorem Bs (ho:(dD (aq rows known)).length<=60) {ri:Nat}{r:D}(hr:rows[ri]? = some r) (day:Int):kj [.tup rows,.int known,.int ri,.int day]=some (.lst ((dc rows known ri r day).map λn:Nat=>.int n),true):=by
 obtain⟨ec,hcl⟩:=qE (rows:=rows) ⟨hl,λr hr=>(g r hr).c⟩ known ho
 exact aA rfl (aE (ah (ds:=[.tup rows,.int known,.lst ((aV (aq rows known)).map clD),.int ri,.int day]) (au (b:=false) rfl (au (b:=false) rfl (au (ah (ds:=[.tup rows,.int known]) rfl ec) (au (b:=false) rfl (au (b:=false) rfl rfl))))) (uQ g hl known hcl hn hr day)))
end
theorem Bt (rows:List D) (known:Int) (f:D->Bool):(cE (aq rows known)).any f=rows.any λv=>decide (aZ v<=known) && (bf v && f v):=by
 unfold cE aq
 rw[List.any_map,List.any_filter,List.any_filter]
 have:∀(l:List (D×Nat)) (q:D->Bool),(l.any λx=>q x.1)=(l.map (·.1)).any q:=λl q=>by rw[List.any_map];rfl
 refine(this rows.zipIdx (λv=>decide (aZ v<=known) && (bf v && f v))).trans ?_
 rw[List.zipIdx_map_fst]
theorem uR (K:KL) (o:Str) (day:Int):∃ds,fN K o day=.tup ds/\ak 40 (yi (fN K o day))=true:=by
 unfold fN
 split
 ·exact⟨_,rfl,iX (oz (by simp))⟩
 ·rename_i v _
  obtain⟨ds,e,hd⟩:=qy (a7 3 v) (alL (aV K) (a7 0 v) day)
  have e':kE (aV K) (a7 0 v) (a7 3 v) day=.tup ds:=e
  rw[e']
  exact⟨ds,rfl,iX (oz hd)⟩
section
variable {rows:List D}(g:∀r∈rows,g7 r) (hl:rows.length<=60) (known:Int) (ho:(dD (aq rows known)).length<=60) (hn:((cE (aq rows known)).map (a7 0)).Nodup)
include g hl ho hn
theorem Dh {a2:Int}{d:Int}{b:Str}{n:Nat}{a:Int}{k:Str}{a9:List D}(dk:Dd k a9) (kr:k∈cH) :
  iW [.tup rows,.int known,.tup [.str "call",.int d,.str b,.int n],.tup (.str k::a9)]=some (.bl (uO (aq rows known) (row a2 ("call" : Str) [.int d,.str b,.int n]) (row a k a9)),false):=by
 have gC:eI rows:=⟨hl,λr hr=>(g r hr).c⟩
 obtain⟨dd,b2,q,er⟩:=yr dk (jz (.inl kr))
 have eb:eG (row a k a9)=b2:=by rw[er];rfl
 have ec:eG (row a2 ("call" : Str) [.int d,.str b,.int n])=b:=rfl
 have ecd:aQ (row a2 ("call" : Str) [.int d,.str b,.int n])=d:=rfl
 have t1:tOf (f2 dEq (f2 ixD (af 2) (fC (.int 2))) (f2 ixD (af 3) (fC (.int 2)))) [some (.tup rows,false),some (.int known,false),some (.tup [.str "call",.int d,.str b,.int n],false),some (.tup (.str k::a9),false),none,none]=some (decide (b=b2)):=by
  refine aF (b:=false) (aB (x:=.str b) (y:=.str b2) (b1:=false) (b2:=false) (aB (x:=.tup [.str "call",.int d,.str b,.int n]) (y:=.int 2) (b1:=false) (b2:=false) rfl rfl (by simp[at2])) (aB (x:=.tup (.str k::a9)) (y:=.int 2) (b1:=false) (b2:=false) rfl rfl (by rw[er];simp[at2])) (by simp))
 have tk:∀(w:Str) (v4 v5:Option (D×Bool)),tOf (f2 dEq (f2 ixD (af 3) (fC (.int 0))) (fC (.str w))) [some (.tup rows,false),some (.int known,false),some (.tup [.str "call",.int d,.str b,.int n],false),some (.tup (.str k::a9),false),v4,v5]=some (decide (k=w)):=λw v4 v5=>aK (a:=k) (bb:=false) (aB (x:=.tup (.str k::a9)) (y:=.int 0) (b1:=false) (b2:=false) rfl rfl (by simp[at0])) rfl
 unfold uO
 rw[eb,ec,ecd,kL]
 refine aA rfl ?_
 cases h1:decide (b=b2) with
 | true=>exact bF (t1.trans (by rw[h1])) (aE rfl)
 | false =>
  refine aM (t1.trans (by rw[h1])) ?_
  cases h2:decide (k=("copy" : Str)) with
  | true=>exact bF ((tk _ none none).trans (by rw[h2])) (aE rfl)
  | false =>
   have kb:k∈qF:=by
    have:∀k∈cH,k≠("copy" : Str)->k∈qF:=by decide +kernel
    exact this _ kr (of_decide_eq_false h2)
   obtain⟨hms,_,hmi,hmil⟩:=Br (a:=a) dk kb
   refine aM ((tk _ none none).trans (by rw[h2])) ?_
   rw[Bt]
   generalize hM:mAt (row a k a9)=M at hms hmi
   let P:D->Bool:=λv=>decide (aZ v<=known) && (bf v && (decide (mAt v &&& M=M) && fM (aV (aq rows known)) (a7 0 v) (a7 3 v) b d))
   have em:∀v4 v5:Option (D×Bool),f2 ixD (af 3) (f2 bD (fC (.int 3)) (fA pq (ae (f2 dEq (f2 ixD (af 3) (fC (.int 0))) (fC (.str "leave"))) aj))) [some (.tup rows,false),some (.int known,false),some (.tup [.str "call",.int d,.str b,.int n],false),some (.tup (.str k::a9),false),v4,v5]=some (.int M,false):=λv4 v5=>by
    have e0:f2 dEq (f2 ixD (af 3) (fC (.int 0))) (fC (.str "leave")) [some (.tup rows,false),some (.int known,false),some (.tup [.str "call",.int d,.str b,.int n],false),some (.tup (.str k::a9),false),v4,v5]=some (.bl (decide (k=("leave" : Str))),false):=aB (x:=.str k) (y:=.str "leave") (b1:=false) (b2:=false) (aB (x:=.tup (.str k::a9)) (y:=.int 0) (b1:=false) (b2:=false) rfl rfl (by simp[at0])) rfl (by simp)
    refine aB (x:=.tup (.str k::a9)) (y:=.int ((3+if k=("leave" : Str)then 1 else 0:Nat):Int)) (b1:=false) (b2:=false) rfl (aB (x:=.int 3) (y:=.int (if k=("leave" : Str)then 1 else 0)) (b1:=false) (b2:=false) rfl (ah (ds:=[.bl (decide (k=("leave" : Str)))]) (au e0 rfl) ?_) ?_) ?_
    ·by_cases hh:k=("leave" : Str)
     ·rw[decide_eq_true hh,if_pos hh];rfl
     ·rw[decide_eq_false hh,if_neg hh];rfl
    ·by_cases hh:k=("leave" : Str)
     ·rw[if_pos hh,if_pos hh];rfl
     ·rw[if_neg hh,if_neg hh];rfl
    ·rw[DL.qS (by omega) (by omega),Int.toNat_natCast,hmi]
   have step:=AZ (tg:=tgT [4,5]) (g:=u0) (d:=.bl true) (b:=false) (λ_ ρ=>∃v4 v5:Option (D×Bool),ρ=[some (.tup rows,false),some (.int known,false),some (.tup [.str "call",.int d,.str b,.int n],false),some (.tup (.str k::a9),false),v4,v5]) (λi=>!P (rows.getD i .non)) rows
    [some (.tup rows,false),some (.int known,false),some (.tup [.str "call",.int d,.str b,.int n],false),some (.tup (.str k::a9),false),none,none] ⟨none,none,rfl⟩ (by
     rintro i x ρ hx ⟨v4,v5,rfl⟩
     have hgd:rows.getD i .non=x:=by rw[List.getD_eq_getElem?_getD,hx];rfl
     have gx:=g x (List.mem_of_getElem? hx)
     obtain⟨xa,xk,xr,ex,xd⟩:=id gx
     refine⟨[some (.tup rows,false),some (.int known,false),some (.tup [.str "call",.int d,.str b,.int n],false),some (.tup (.str k::a9),false),some (.int xa,false),some (.tup (.str xk::xr),false)],by rw[ex];rfl, ?_⟩
     rw[hgd]
     have hxa:aZ x=xa:=by rw[ex];rfl
     have hxk:bf x=decide (xk=("root" : Str)):=by rw[ex];rfl
     have c1:tOf (f2 dLe (af 4) (af 1)) [some (.tup rows,false),some (.int known,false),some (.tup [.str "call",.int d,.str b,.int n],false),some (.tup (.str k::a9),false),some (.int xa,false),some (.tup (.str xk::xr),false)]=some (decide (xa<=known)):=aF (b:=false) (by simp)
     have c2:tOf (f2 dEq (f2 ixD (af 5) (fC (.int 0))) (fC (.str "root"))) [some (.tup rows,false),some (.int known,false),some (.tup [.str "call",.int d,.str b,.int n],false),some (.tup (.str k::a9),false),some (.int xa,false),some (.tup (.str xk::xr),false)]=some (decide (xk=("root" : Str))):=aK (a:=xk) (bb:=false) (aB (x:=.tup (.str xk::xr)) (y:=.int 0) (b1:=false) (b2:=false) rfl rfl (by simp[at0])) rfl
     by_cases k1:xa<=known
     ·by_cases k2:xk=("root" : Str)
      ·have hroot:bf x=true:=by rw[hxk,decide_eq_true k2]
       obtain⟨a',o,rl,m,f,ex',hm,emx⟩:=wL gx hroot
       have exr:(.str xk::xr:List D)=[.str "root",.str o,.int m,.int f,.str rl]:=by
        rw[ex]at ex'
        unfold row at ex'
        injection ex' with ex'
        injection ex' with _ ex'
        injection ex' with ex'
        injection ex' with ex'
       have hxin:x∈cE (aq rows known):=List.mem_map.mpr ⟨(x,i),List.mem_filter.mpr ⟨List.mem_filter.mpr ⟨List.mk_mem_zipIdx_iff_getElem?.mpr hx,decide_eq_true (by rw[hxa];exact k1)⟩,hroot⟩,rfl⟩
       have so:a7 0 x=o:=by rw[ex'];rfl
       have sr:a7 3 x=rl:=by rw[ex'];rfl
       have hh:fN (aq rows known) o d=kE (aV (aq rows known)) o rl d:=by
        unfold fN
        rw[←so,zo hn hxin]
        show kE _ (a7 0 x) (a7 3 x) d=_
        rw[so,sr]
       have c3:tOf (fA dQ (ae (f2 ixD (af 5) (fC (.int 2))) (ae (f2 ixD (af 3) (f2 bD (fC (.int 3)) (fA pq (ae (f2 dEq (f2 ixD (af 3) (fC (.int 0))) (fC (.str "leave"))) aj)))) aj))) [some (.tup rows,false),some (.int known,false),some (.tup [.str "call",.int d,.str b,.int n],false),some (.tup (.str k::a9),false),some (.int xa,false),some (.tup (.str xk::xr),false)]=some (decide (m &&& M=M)):=aF (b:=false) (ah (ds:=[.int m,.int M]) (au (b:=false) (aB (x:=.tup (.str xk::xr)) (y:=.int 2) (b1:=false) (b2:=false) rfl rfl (by rw[exr];simp[at2])) (au (em _ _) rfl)) (zn hm hms))
       have ctest:=bS c1 λ_=>bS c2 λ_=>c3
       obtain⟨ds,ehd,hpl⟩:=uR (aq rows known) o d
       have c4:tOf (f2 dEq (fSl (fA gs (ae (af 0) (ae (af 1) (ae (f2 ixD (af 5) (fC (.int 1))) (ae (f2 ixD (af 2) (fC (.int 1))) aj))))) t4 (pN (fC (.int 2)))) (fA ba (ae (fC (.str "one")) (ae (f2 ixD (af 2) (fC (.int 2))) aj)))) [some (.tup rows,false),some (.int known,false),some (.tup [.str "call",.int d,.str b,.int n],false),some (.tup (.str k::a9),false),some (.int xa,false),some (.tup (.str xk::xr),false)]=some (fM (aV (aq rows known)) o rl b d):=by
        have eh:=ah (F:=gs) (fa:=ae (af 0) (ae (af 1) (ae (f2 ixD (af 5) (fC (.int 1))) (ae (f2 ixD (af 2) (fC (.int 1))) aj)))) (ρ:=[some (.tup rows,false),some (.int known,false),some (.tup [.str "call",.int d,.str b,.int n],false),some (.tup (.str k::a9),false),some (.int xa,false),some (.tup (.str xk::xr),false)]) (ds:=[.tup rows,.int known,.str o,.int d]) (au (b:=false) rfl (au (b:=false) rfl (au (b:=false) (aB (x:=.tup (.str xk::xr)) (y:=.int 1) (b1:=false) (b2:=false) rfl rfl (by rw[exr];simp[at1])) (au (b:=false) (aB (x:=.tup [.str "call",.int d,.str b,.int n]) (y:=.int 1) (b1:=false) (b2:=false) rfl rfl (by simp[at1])) rfl)))) (zj gC known ho o d)
        refine aF (b:=false) (aB (x:=yi (fN (aq rows known) o d)) (y:=.tup [.str "one",.str b]) (b1:=false) (b2:=false) ?_ (ah (ds:=[.str "one",.str b]) (au (b:=false) rfl (au (b:=false) (aB (x:=.tup [.str "call",.int d,.str b,.int n]) (y:=.int 2) (b1:=false) (b2:=false) rfl rfl (by simp[at2])) rfl)) (dC _ (by simp))) ?_)
        ·unfold fSl
         rw[eh,ehd]
         rfl
        ·show(if _ then _ else _)=_
         rw[if_pos ⟨hpl,by simp[ak]⟩,hh]
         rfl
       have hP:P x=(decide (m &&& M=M) && fM (aV (aq rows known)) o rl b d):=by
        show(decide (aZ x<=known) && (bf x && (decide (mAt x &&& M=M) && fM _ (a7 0 x) (a7 3 x) b d)))=_
        rw[hxa,decide_eq_true k1,hroot,emx,so,sr];rfl
       rw[decide_eq_true k1,decide_eq_true k2,Bool.true_and,Bool.true_and]at ctest
       rw[hP]
       cases hA:decide (m &&& M=M) with
       | false =>
        rw[hA]at ctest
        exact .inl ⟨rfl,_,gl ctest rfl,_,_,rfl⟩
       | true =>
        rw[hA]at ctest
        cases hB:fM (aV (aq rows known)) o rl b d with
        | true=>exact .inr ⟨rfl,gk ctest (gk (c4.trans (by rw[hB])) (aE rfl))⟩
        | false=>exact .inl ⟨rfl,_,gk ctest (gl (c4.trans (by rw[hB])) rfl),_,_,rfl⟩
      ·have hP:P x=false:=by
        show(decide (aZ x<=known) && (bf x && _))=false
        rw[hxk,decide_eq_false k2,Bool.false_and,Bool.and_false]
       refine .inl ⟨by rw[hP];rfl,_,gl (bS (p:=true) (q:=false) (c1.trans (by rw[decide_eq_true k1])) λ_=>bS (p:=false) (q:=false) (c2.trans (by rw[decide_eq_false k2])) λh=>by cases h) rfl,_,_,rfl⟩
     ·have hP:P x=false:=by
       show(decide (aZ x<=known) && _)=false
       rw[hxa,decide_eq_false k1,Bool.false_and]
      refine .inl ⟨by rw[hP];rfl,_,gl (bS (p:=false) (q:=false) (c1.trans (by rw[decide_eq_false k1])) λh=>by cases h) rfl,_,_,rfl⟩)
   show aG (mL _ _ _) _ _=_
   rcases step with ⟨hall,ρ',e,v4,v5,rfl⟩|⟨⟨i,hi,hbad⟩,e⟩
   ·have:rows.any P=false:=List.any_eq_false.mpr λx hx=>by
     obtain⟨i,hi⟩:=List.mem_iff_getElem?.mp hx
     have:=hall i (List.getElem?_eq_some_iff.mp hi).1
     rw[List.getD_eq_getElem?_getD,hi]at this
     simpa using this
    rw[show(rows.any λv=>decide (aZ v<=known) && (bf v && (decide (mAt v &&& M=M) && fM (aV (aq rows known)) (a7 0 v) (a7 3 v) b d)))=false from this]
    exact de (mC (ds:=rows) rfl e) (aE rfl)
   ·have:rows.any P=true:=List.any_eq_true.mpr ⟨rows[i],List.getElem_mem hi,by
     rw[List.getD_eq_getElem?_getD,List.getElem?_eq_getElem hi]at hbad
     simpa using hbad⟩
    rw[show(rows.any λv=>decide (aZ v<=known) && (bf v && (decide (mAt v &&& M=M) && fM (aV (aq rows known)) (a7 0 v) (a7 3 v) b d)))=true from this]
    refine GT ?_
    show mL _ _ _ _=_
    unfold mL
    show(some rows).bind _=_
    exact e
end
theorem Fx {i j:Nat}{f:FE}{ρ:DL.Env}{x y:D}{b:Bool}{h:FS}{r:Option Res}(e:f ρ=some (.tup [x,y],b)) (hx:bi x=true) (hy:bi y=true) (k:h ((ρ.set i (some (x,false))).set j (some (y,false)))=r):aG (tI [i,j] f) h ρ=r:=by
 refine de (ρ':=(ρ.set i (some (x,false))).set j (some (y,false))) ?_ k
 have hn:bx [x,y]=true:=by simp[hx,hy]
 simp only[tI,e,Option.bind_some,fg,hn,if_true]
 simp[dE]
def lA (rows:List D) (known:Int) (ri:Nat) (r:D) (day:Int) (x:D×Nat):Bool:=rZ rows known ri r day x.1 && decide (aZ x.1<=known)
theorem wM {rows:List D}{known:Int}{ri:Nat}{r:D}{day:Int}(h:aZ r<=known/\kindOf r∈cH):dc rows known ri r day=(rows.zipIdx.filter (lA rows known ri r day)).map (·.2):=by
 unfold dc aq
 rw[if_pos h,List.filter_filter]
 rfl
section
variable {rows:List D}(g:∀r∈rows,g7 r) (hl:rows.length<=60) (known:Int) (ho:(dD (aq rows known)).length<=60) (hn:((cE (aq rows known)).map (a7 0)).Nodup)
include g hl ho hn
theorem Fy {ri:Nat}{r:D}(hr:rows[ri]? = some r) (day:Int):mD [.tup rows,.int known,.int ri,.int day]=some (.lst ((dc rows known ri r day).map λn:Nat=>.int n),true):=by
 obtain⟨a,k,a9,er,dk⟩:=id (g r (List.mem_of_getElem? hr))
 have ar:=dR hr
 have hfl:bi (.tup (.str k::a9))=true:=by simp[dk.flat]
 have ha:aZ r=a:=by rw[er];rfl
 have hk:kindOf r=k:=by rw[er];rfl
 have c1:tOf (f2 iGt (af 4) (af 1)) [some (.tup rows,false),some (.int known,false),some (.int ri,false),some (.int day,false),some (.int a,false),some (.tup (.str k::a9),false),none,none,none]=some (decide (known<a)):=aF (b:=false) rfl
 have c2:tOf (f2 dJ (f2 ixD (af 5) (fC (.int 0))) (fA ba (ae (fC (.str "leave")) (ae (fC (.str "paper")) (ae (fC (.str "like")) (ae (fC (.str "copy")) aj)))))) [some (.tup rows,false),some (.int known,false),some (.int ri,false),some (.int day,false),some (.int a,false),some (.tup (.str k::a9),false),none,none,none]=some (!decide (k∈cH)):=aF (b:=false) (aB (x:=.str k) (y:=.tup (cH.map .str)) (b1:=false) (b2:=false) (aB (x:=.tup (.str k::a9)) (y:=.int 0) (b1:=false) (b2:=false) rfl rfl (by simp[at0])) (ah (ds:=cH.map .str) rfl (dC _ (by simp[cH]))) (i6 _ _))
 refine aA rfl (Fx (x:=.int a) (y:=.tup (.str k::a9)) (b:=false) (aB (x:=.tup rows) (y:=.int ri) (b1:=false) (b2:=false) rfl rfl (by rw[←show r=.tup [.int a,.tup (.str k::a9)]from er];simp[ar])) rfl hfl ?_)
 by_cases h1:a<=known
 ·by_cases h2:k∈cH
  ·have hb:aZ r<=known/\kindOf r∈cH:=by rw[ha,hk];exact⟨h1,h2⟩
   rw[wM hb]
   refine aM (cA (p:=false) (q:=false) (c1.trans (by rw[decide_eq_false (by omega)])) λ_=>c2.trans (by rw[decide_eq_true h2];rfl)) (cy (ds:=[]) (ah (ds:=[]) rfl (f6 _ (by simp))) rfl ?_)
   obtain⟨ρ',e,v7,v8,rfl⟩:=gh (tg:=tgN 7) (g:=ko) rows.length (λi ρ=>∃v7 v8:Option (D×Bool),ρ=[some (.tup rows,false),some (.int known,false),some (.int ri,false),some (.int day,false),some (.int a,false),some (.tup (.str k::a9),false),some (.lst ((((rows.zipIdx.take i).filter (lA rows known ri r day)).map (·.2)).map λn:Nat=>.int n),true),v7,v8])
    [some (.tup rows,false),some (.int known,false),some (.int ri,false),some (.int day,false),some (.int a,false),some (.tup (.str k::a9),false),some (.lst [],true),none,none] ⟨none,none,rfl⟩ (by
     rintro i ρ hi ⟨v7,v8,rfl⟩
     have hx:rows[i]? = some rows[i]:=List.getElem?_eq_getElem hi
     generalize rows[i]=x at hx
     have gx:=g x (List.mem_of_getElem? hx)
     have ax:=dR hx
     obtain⟨xa,xk,xr,ex,xd⟩:=id gx
     have hxf:bi (.tup (.str xk::xr))=true:=by simp[xd.flat]
     have hxa:aZ x=xa:=by rw[ex];rfl
     have hxk:kindOf x=xk:=by rw[ex];rfl
     have ex':x=.tup [.int xa,.tup (.str xk::xr)]:=ex
     have et:rows.zipIdx.take (i+1)=rows.zipIdx.take i++[(x,i)]:=by
      rw[List.take_add_one,List.getElem?_zipIdx,hx];simp
     have efl:(((rows.zipIdx.take (i+1)).filter (lA rows known ri r day)).map (·.2)).map (λn:Nat=>D.int n)=(((rows.zipIdx.take i).filter (lA rows known ri r day)).map (·.2)).map (λn:Nat=>D.int n)++if lA rows known ri r day (x,i)=true then [.int i]else []:=by
      rw[et,List.filter_append,List.map_append,List.map_append,List.filter_cons]
      split<;>rfl
     have rk:∀v8:Option (D×Bool),f2 ixD (af 0) (af 7) [some (.tup rows,false),some (.int known,false),some (.int ri,false),some (.int day,false),some (.int a,false),some (.tup (.str k::a9),false),some (.lst ((((rows.zipIdx.take i).filter (lA rows known ri r day)).map (·.2)).map λn:Nat=>.int n),true),some (.int i,false),v8]=some (x,false):=λv8=>aB (x:=.tup rows) (y:=.int i) (b1:=false) (b2:=false) rfl rfl (by simp[ax])
     let E8:DL.Env:=[some (.tup rows,false),some (.int known,false),some (.int ri,false),some (.int day,false),some (.int a,false),some (.tup (.str k::a9),false),some (.lst ((((rows.zipIdx.take i).filter (lA rows known ri r day)).map (·.2)).map λn:Nat=>.int n),true),some (.int i,false),some (.tup (.str xk::xr),false)]
     have e8:f2 ixD (f2 ixD (af 0) (af 7)) (fC (.int 1)) [some (.tup rows,false),some (.int known,false),some (.int ri,false),some (.int day,false),some (.int a,false),some (.tup (.str k::a9),false),some (.lst ((((rows.zipIdx.take i).filter (lA rows known ri r day)).map (·.2)).map λn:Nat=>.int n),true),some (.int i,false),v8]=some (.tup (.str xk::xr),false):=aB (x:=x) (y:=.int 1) (b1:=false) (b2:=false) (rk v8) rfl (by rw[ex'];simp[at1])
     have d1:tOf (f2 dLe (f2 ixD (f2 ixD (af 0) (af 7)) (fC (.int 0))) (af 1)) E8=some (decide (xa<=known)):=aF (b:=false) (aB (x:=.int xa) (y:=.int known) (b1:=false) (b2:=false) (aB (x:=x) (y:=.int 0) (b1:=false) (b2:=false) (rk _) rfl (by rw[ex'];simp[at0])) rfl (by simp))
     have d2:tOf (f2 dEq (f2 ixD (af 8) (fC (.int 0))) (fC (.str "call"))) E8=some (decide (xk=("call" : Str))):=aK (a:=xk) (bb:=false) (aB (x:=.tup (.str xk::xr)) (y:=.int 0) (b1:=false) (b2:=false) rfl rfl (by simp[at0])) rfl
     have stay:lA rows known ri r day (x,i)=false->∀e:gIf (cD (tOf (f2 dLe (f2 ixD (f2 ixD (af 0) (af 7)) (fC (.int 0))) (af 1))) (cD (tOf (f2 dEq (f2 ixD (af 8) (fC (.int 0))) (fC (.str "call")))) (cD (tOf (f2 dEq (f2 ixD (af 8) (fC (.int 3))) (af 2))) (tOf (f2 dLe (f2 ixD (af 8) (fC (.int 1))) (af 3)))))) (gIf (cD (tOf (fA cq (ae (af 0) (ae (af 1) (ae (af 7) aj))))) (tOf (fA iW (ae (af 0) (ae (af 1) (ae (af 8) (ae (af 5) aj))))))) (ga 6 (af 7)) bo) bo E8=some (.nx E8),∃ρ1 ρ',tgN 7 (.int (i:Int)) [some (.tup rows,false),some (.int known,false),some (.int ri,false),some (.int day,false),some (.int a,false),some (.tup (.str k::a9),false),some (.lst ((((rows.zipIdx.take i).filter (lA rows known ri r day)).map (·.2)).map λn:Nat=>.int n),true),v7,v8]=some ρ1/\(ko ρ1=some (.nx ρ')∨ko ρ1=some (.ct ρ'))/\∃v7 v8:Option (D×Bool),ρ'=[some (.tup rows,false),some (.int known,false),some (.int ri,false),some (.int day,false),some (.int a,false),some (.tup (.str k::a9),false),some (.lst ((((rows.zipIdx.take (i+1)).filter (lA rows known ri r day)).map (·.2)).map λn:Nat=>.int n),true),v7,v8]:=λhd e =>
      ⟨_,E8,rfl,.inl (aO (d:=.tup (.str xk::xr)) (b:=false) e8 hxf e),some (.int i,false),some (.tup (.str xk::xr),false),by rw[efl,hd,if_neg (by decide),List.append_nil]⟩
     by_cases k1:xa<=known
     ·by_cases k2:xk=("call" : Str)
      ·obtain⟨xa',xdd,xb,xn,exc⟩:=oD gx (by rw[hxk];exact k2)
       have exr:(.str xk::xr:List D)=[.str "call",.int xdd,.str xb,.int xn]:=by
        have:=ex'.symm.trans exc
        unfold row at this
        injection this with this
        injection this with _ this
        injection this with this
        injection this with this
       have hxe:x=row xa ("call" : Str) [.int xdd,.str xb,.int xn]:=by rw[ex',exr];rfl
       have i2:iA 2 x=(xn:Int):=by rw[hxe];rfl
       have dy:aQ x=xdd:=by rw[hxe];rfl
       have d3:tOf (f2 dEq (f2 ixD (af 8) (fC (.int 3))) (af 2)) E8=some (decide ((xn:Int)=ri)):=aF (b:=false) (aB (x:=.int xn) (y:=.int ri) (b1:=false) (b2:=false) (aB (x:=.tup (.str xk::xr)) (y:=.int 3) (b1:=false) (b2:=false) rfl rfl (by rw[exr];simp[at3])) rfl (by simp))
       have d4:tOf (f2 dLe (f2 ixD (af 8) (fC (.int 1))) (af 3)) E8=some (decide (xdd<=day)):=aF (b:=false) (aB (x:=.int xdd) (y:=.int day) (b1:=false) (b2:=false) (aB (x:=.tup (.str xk::xr)) (y:=.int 1) (b1:=false) (b2:=false) rfl rfl (by rw[exr];simp[at1])) rfl (by simp))
       have d5:tOf (fA cq (ae (af 0) (ae (af 1) (ae (af 7) aj)))) E8=some (i7 rows known x):=aF (b:=false) (ah (ds:=[.tup rows,.int known,.int i]) rfl (oe rows (λr hr=>(g r hr).c.rp) (by omega) known hx))
       have d6:tOf (fA iW (ae (af 0) (ae (af 1) (ae (af 8) (ae (af 5) aj))))) E8=some (uO (aq rows known) x r):=aF (b:=false) (ah (ds:=[.tup rows,.int known,.tup (.str xk::xr),.tup (.str k::a9)]) rfl (by rw[exr,hxe,er];exact Dh g hl known ho hn dk h2))
       have t1:=bS d1 λ_=>bS d2 λ_=>bS d3 λ_=>d4
       have t2:=bS d5 λ_=>d6
       have hv:lA rows known ri r day (x,i)=(decide ((xn:Int)=ri) && (decide (xdd<=day) && (i7 rows known x && uO (aq rows known) x r))):=by
        show(rZ rows known ri r day x && decide (aZ x<=known))=_
        unfold rZ
        rw[hxk,decide_eq_true k2,hxa,decide_eq_true k1,i2,dy,Bool.true_and,Bool.and_true]
       rw[decide_eq_true k1,decide_eq_true k2,Bool.true_and,Bool.true_and]at t1
       cases hA:(decide ((xn:Int)=ri) && decide (xdd<=day)) with
       | false =>
        rw[hA]at t1
        exact stay (by rw[hv,←Bool.and_assoc,hA,Bool.false_and]) (gl t1 rfl)
       | true =>
        rw[hA]at t1
        cases hB:(i7 rows known x && uO (aq rows known) x r) with
        | false =>
         rw[hB]at t2
         exact stay (by rw[hv,←Bool.and_assoc,hA,hB];rfl) (gk t1 (gl t2 rfl))
        | true =>
         rw[hB]at t2
         refine⟨_,_,rfl,.inl (aO (d:=.tup (.str xk::xr)) (b:=false) e8 hxf (gk t1 (gk t2 (fu (ds:=(((rows.zipIdx.take i).filter (lA rows known ri r day)).map (·.2)).map λn:Nat=>.int n) (d:=.int i) (b:=false) rfl rfl rfl (bG ?_))))),some (.int i,false),some (.tup (.str xk::xr),false), ?_⟩
         ·rw[List.length_map,List.length_map]
          exact Nat.le_trans (List.length_filter_le _ _) (by rw[List.length_take,List.length_zipIdx];omega)
         ·rw[efl,hv,←Bool.and_assoc,hA,hB];rfl
      ·exact stay (by show(rZ rows known ri r day x && _)=false;unfold rZ;rw[hxk,decide_eq_false k2,Bool.false_and,Bool.false_and]) (gl (bS (p:=true) (q:=false) (d1.trans (by rw[decide_eq_true k1])) λ_=>bS (p:=false) (q:=false) (d2.trans (by rw[decide_eq_false k2])) λh=>by cases h) rfl)
     ·exact stay (by show(_ && decide (aZ x<=known))=false;rw[hxa,decide_eq_false k1,Bool.and_false]) (gl (bS (p:=false) (q:=false) (d1.trans (by rw[decide_eq_false k1])) λh=>by cases h) rfl))
   rw[show rows.zipIdx.take rows.length=rows.zipIdx from List.take_of_length_le (by rw[List.length_zipIdx];exact Nat.le_refl _)]at e
   exact de (gm (dN (j:=rows.length) (b:=false) (by simp) (by omega)) e) (kg rfl)
  ·have:dc rows known ri r day=[]:=by unfold dc;rw[if_neg (by rw[hk];exact λz=>h2 z.2)]
   rw[this]
   exact bF (cA (p:=false) (q:=true) (c1.trans (by rw[decide_eq_false (by omega)])) λ_=>c2.trans (by rw[decide_eq_false h2];rfl)) (aE (ah (ds:=[]) rfl (f6 _ (by simp))))
 ·have:dc rows known ri r day=[]:=by unfold dc;rw[if_neg (by rw[ha];exact λz=>h1 z.1)]
  rw[this]
  exact bF (cA (p:=true) (q:=false) (c1.trans (by rw[decide_eq_true (by omega)])) λh=>by cases h) (aE (ah (ds:=[]) rfl (f6 _ (by simp))))
end
theorem Bu {d:D}(h:ak 40 d=true):dNe d d=some (.bl false,false):=by
 unfold dNe
 rw[if_pos ⟨h,h⟩,kq 40 _ h]
 rfl
def nL (L:List Nat):List D:=L.map λn:Nat=>.int n
theorem yu (L:List Nat):bx (nL L)=true:=cQ λd hd=>by obtain⟨n,_,rfl⟩:=List.mem_map.mp hd;rfl
theorem Bv (L:List Nat):ak 40 (.lst (nL L))=true:=by
 simp only[ak,List.all_eq_true]
 intro d hd
 obtain⟨n,_,rfl⟩:=List.mem_map.mp hd
 simp
theorem Bw (rows:List D) (known:Int):((cE (aq rows known)).map (a7 0)).Sublist (ji rows):=by
 unfold cE aq ji
 refine List.Sublist.map _ ?_
 have h1:((rows.zipIdx.filter λx=>decide (aZ x.1<=known)).filter λx=>bf x.1).Sublist (rows.zipIdx.filter λx=>bf x.1):=List.Sublist.filter _ List.filter_sublist
 have h2:(rows.zipIdx.filter λx=>bf x.1).map (·.1)=rows.filter bf:=by
  have:∀(l:List (D×Nat)),(l.filter λx=>bf x.1).map (·.1)=(l.map (·.1)).filter bf:=λl=>by rw[List.filter_map];rfl
  rw[this,List.zipIdx_map_fst]
 rw[←h2]
 exact h1.map _
theorem Di {rows:List D}{known:Int}{i:Nat}{day:Int}{L:List Nat}(hL:L.length<=100) (ec:kj [.tup rows,.int known,.int i,.int day]=some (.lst (nL L),true)) (v0 v1 v2 v3 v9 v10:Option (D×Bool)) :
  ∃w10,wB [v0,v1,v2,v3,some (.int known,false),some (.tup rows,false),some (.int i,false),some (.int day,false),some (.lst (nL L),true),v9,v10]=some (.nx [v0,v1,v2,v3,some (.int known,false),some (.tup rows,false),some (.int i,false),some (.int day,false),some (.lst (nL L),true),v9,w10]):=by
 let E:DL.Env:=[v0,v1,v2,v3,some (.int known,false),some (.tup rows,false),some (.int i,false),some (.int day,false),some (.lst (nL L),true),v9,some (.lst (nL L),true)]
 have t1:tOf (fA bU (ae (af 10) (ae (fC (.ty "list")) aj))) E=some true:=aF (b:=false) (ah (ds:=[.lst (nL L),.ty "list"]) rfl (br rfl))
 have t2:tOf (f2 dNe (af 10) (af 8)) E=some false:=aF (b:=false) (aB (x:=.lst (nL L)) (y:=.lst (nL L)) (b1:=false) (b2:=false) rfl rfl (Bu (Bv L)))
 have hall:=qo (fi:=cK (af 10)) (nT:=1) (cap:=[]) (tg:=tgN 0) (fe:=ie (fA bU (ae (af 0) (ae (fC (.ty "int")) aj))) (vP (fA bU (ae (af 0) (ae (fC (.ty "bool")) aj))))) (ρ:=E) L (λn:Nat=>.int n) (λ_=>.bl true) rfl (by omega) λn _=>⟨[some (.int n,false)],rfl,false,fV (p:=true) (q:=true) (b1:=false) (ah (ds:=[.int n,.ty "int"]) rfl rfl) λ_=>CL (p:=false) (b1:=false) (ah (ds:=[.int n,.ty "bool"]) rfl rfl)⟩
 have t3:tOf (fA Cs (ae (cr (cK (af 10)) 1 [] (tgN 0) gV (ie (fA bU (ae (af 0) (ae (fC (.ty "int")) aj))) (vP (fA bU (ae (af 0) (ae (fC (.ty "bool")) aj)))))) aj)) E=some true:=by
  refine aF (b:=false) (ah (ds:=[.lst (L.map λ_=>.bl true)]) (au hall rfl) ?_)
  show(pj _).map _=_
  rw[uq (λ_=>true),Option.map_some]
  congr 3
  rw[List.all_eq_true]
  intro b hb
  obtain⟨_,_,rfl⟩:=List.mem_map.mp hb
  rfl
 exact⟨some (.lst (nL L++[.int 0]),true),cy (ds:=nL L) (ah (ds:=[.tup rows,.int known,.int i,.int day]) rfl ec) (yu L) (aM (cA (p:=false) (q:=false) (gH t1) λ_=>t2) (aM (gH t3) (fu (ds:=nL L) (d:=.int 0) (b:=false) rfl rfl rfl (bG (by unfold nL;rw[List.length_map];omega)))))⟩
theorem law_true (ns:List Int) (_:ns.length<=63):∃b,F_law [.lst (ns.map .int)]=some (.bl true,b):=by
 obtain⟨c0,e0,h0⟩:=eS ns 0
 obtain⟨c3,e3,h3⟩:=eS ns 3
 obtain⟨c4,e4,h4⟩:=eS ns 4
 obtain⟨zs,ez,hz,hzd⟩:=Bp c0 h0
 have hm3:=mod_lt (x:=c3) (m:=3) (by decide)
 obtain⟨ms,hms,ems⟩:=kK (ns:=[1,1,500]) (i:=c3 % 3) hm3.1 hm3.2
 obtain⟨rows,erw,hrw,hrl,hoff⟩:=De ns zs hz ms
 have hm13:=mod_lt (x:=c3 / 3) (m:=13) (by decide)
 have hm4:=mod_lt (x:=c4) (m:=3) (by decide)
 obtain⟨known,hkn,ekn⟩:=kK (ns:=[9999,c3 / 3 % 13*ms]) (i:=c4 % 3 / 2) (by omega) (by simp;omega)
 have hflat:bi (.tup rows)=true:=by simp[cQ λd hd=>(hrw d hd).flat]
 have hn:((cE (aq rows known)).map (a7 0)).Nodup:=by
  refine List.Nodup.sublist (Bw rows known) ?_
  rw[hoff]
  refine List.Nodup.sublist (List.take_sublist _ _) ?_
  obtain⟨x,hx⟩:∃x,zs[5]? = some x:=⟨_,List.getElem?_eq_getElem (by omega)⟩
  obtain⟨y,hy⟩:∃y,zs[6]? = some y:=⟨_,List.getElem?_eq_getElem (by omega)⟩
  have e:zs.drop 5=[x,y]:=by
   refine List.ext_getElem? λj=>?_
   rw[List.getElem?_drop]
   match j with
   | 0=>exact hx
   | 1=>exact hy
   | j+2=>rw[List.getElem?_eq_none (by omega)];rfl
  rw[e]
  simp[hzd x y hx hy]
 have ho:(dD (aq rows known)).length<=60:=by
  unfold dD
  rw[(cM _ _).length_eq]
  exact Nat.le_trans (List.length_filter_le _ _) (Nat.le_trans (dS rows known) (by omega))
 obtain⟨ρ',el,v6,v7,v8,v9,v10,rfl⟩:=gh (tg:=tgN 6) (g:=AW) rows.length (λ_ ρ=>∃v6 v7 v8 v9 v10:Option (D×Bool),ρ=[some (.lst (ns.map .int),false),some (.lst (zs.map .str),true),some (.int ms,false),some (.tup rows,false),some (.int known,false),some (.tup rows,false),v6,v7,v8,v9,v10])
  [some (.lst (ns.map .int),false),some (.lst (zs.map .str),true),some (.int ms,false),some (.tup rows,false),some (.int known,false),some (.tup rows,false),none,none,none,none,none] ⟨none,none,none,none,none,rfl⟩ (by
   rintro i ρ hi ⟨v6,v7,v8,v9,v10,rfl⟩
   have hr:rows[i]? = some rows[i]:=List.getElem?_eq_getElem hi
   obtain⟨c9,e9,h9⟩:=eS ns (90+i)
   have hm2:=mod_lt (x:=c9) (m:=2) (by decide)
   have hmd:=mod_lt (x:=c9 / 2) (m:=13) (by decide)
   obtain⟨day,_,eday⟩:=kK (ns:=[9999,c9 / 2 % 13*ms]) (i:=c9 % 2) (by omega) (by simp;omega)
   have ed:=Fy hrw (by omega) known ho hn hr day
   have ec:=Bs hrw (by omega) known hn ho hr day
   have hL:(dc rows known i rows[i] day).length<=100:=by
    unfold dc
    split
    ·rw[List.length_map]
     exact Nat.le_trans (List.length_filter_le _ _) (Nat.le_trans (dS rows known) (by omega))
    ·simp
   obtain⟨ρ2,e2,w9,w10,rfl⟩:=gh (tg:=tgN 9) (g:=wB) 2 (λ_ ρ=>∃w9 w10:Option (D×Bool),ρ=[some (.lst (ns.map .int),false),some (.lst (zs.map .str),true),some (.int ms,false),some (.tup rows,false),some (.int known,false),some (.tup rows,false),some (.int i,false),some (.int day,false),some (.lst (nL (dc rows known i rows[i] day)),true),w9,w10])
    [some (.lst (ns.map .int),false),some (.lst (zs.map .str),true),some (.int ms,false),some (.tup rows,false),some (.int known,false),some (.tup rows,false),some (.int i,false),some (.int day,false),some (.lst (nL (dc rows known i rows[i] day)),true),v9,v10] ⟨v9,v10,rfl⟩ (by
     rintro t ρ ht ⟨w9,w10,rfl⟩
     obtain⟨x10,e⟩:=Di hL ec (some (.lst (ns.map .int),false)) (some (.lst (zs.map .str),true)) (some (.int ms,false)) (some (.tup rows,false)) (some (.int t,false)) w10
     exact⟨_,_,rfl,.inl e,_,x10,rfl⟩)
   have ecell:∀ρ:DL.Env,ρ[0]? = some (some (.lst (ns.map .int),false))->ρ[6]? = some (some (.int i,false))->fA bQ (ae (af 0) (ae (f2 bD (fC (.int 90)) (af 6)) aj)) ρ=some (.int c9,false):=λρ p0 p6=>ah (ds:=[.lst (ns.map .int),.int ((90+i:Nat):Int)]) (by simp[p0,p6]) e9
   refine⟨_,_,rfl,.inl (aO (d:=.int day) (b:=false) ?_ rfl (cy (ds:=nL (dc rows known i rows[i] day)) (ah (ds:=[.tup rows,.int known,.int i,.int day]) rfl ed) (yu _) (gm (dN (j:=2) (b:=false) rfl (by decide)) e2))),some (.int i,false),some (.int day,false),some (.lst (nL (dc rows known i rows[i] day)),true),w9,w10,rfl⟩
   refine aB (x:=.lst (([9999,c9 / 2 % 13*ms]:List Int).map .int)) (y:=.int (c9 % 2)) (b1:=true) (b2:=false) (ah (ds:=[.int 9999,.int (c9 / 2 % 13*ms)]) (au (b:=false) rfl (au (b:=false) (aB (x:=.int (c9 / 2 % 13)) (y:=.int ms) (b1:=false) (b2:=false) (aB (x:=.int (c9 / 2)) (y:=.int 13) (b1:=false) (b2:=false) (aB (x:=.int c9) (y:=.int 2) (b1:=false) (b2:=false) (ecell _ rfl rfl) rfl (by simp)) rfl (by simp)) rfl (l7 (by omega))) rfl)) (f6 _ (by simp))) (aB (x:=.int c9) (y:=.int 2) (b1:=false) (b2:=false) (ecell _ rfl rfl) rfl (by simp)) eday)
 refine⟨false,aA rfl (cy (ds:=zs.map .str) (ah (ds:=[.int c0]) (au (ah (ds:=[.lst (ns.map .int),.int ((0:Nat):Int)]) rfl e0) rfl) ez) (cR zs) (aO (d:=.int ms) (b:=false) ?_ rfl (aO (d:=.tup rows) (b:=false) (ah (ds:=[.lst (ns.map .int),.lst (zs.map .str),.int ms,.int 14]) rfl erw) hflat (aO (d:=.int known) (b:=false) ?_ rfl (aO (d:=.tup rows) (b:=false) (ah (ds:=[.lst rows]) (au (b:=true) (ah (ds:=[.tup rows]) rfl rfl) rfl) rfl) hflat (de (gm (dN (j:=rows.length) (b:=false) (by simp) (by omega)) el) (aE (aB (x:=.tup rows) (y:=.tup rows) (b1:=false) (b2:=false) rfl rfl (CN λr hr=>(hrw r hr).c.rp)))))))))⟩
 ·exact aB (x:=.lst (([1,1,500]:List Int).map .int)) (y:=.int (c3 % 3)) (b1:=true) (b2:=false) (by simp[sizeLine]) (aB (x:=.int c3) (y:=.int 3) (b1:=false) (b2:=false) (ah (ds:=[.lst (ns.map .int),.int ((3:Nat):Int)]) rfl e3) rfl (by simp)) ems
 ·refine aB (x:=.lst (([9999,c3 / 3 % 13*ms]:List Int).map .int)) (y:=.int (c4 % 3 / 2)) (b1:=true) (b2:=false) (ah (ds:=[.int 9999,.int (c3 / 3 % 13*ms)]) (au (b:=false) rfl (au (b:=false) (aB (x:=.int (c3 / 3 % 13)) (y:=.int ms) (b1:=false) (b2:=false) (aB (x:=.int (c3 / 3)) (y:=.int 13) (b1:=false) (b2:=false) (aB (x:=.int c3) (y:=.int 3) (b1:=false) (b2:=false) (ah (ds:=[.lst (ns.map .int),.int ((3:Nat):Int)]) rfl e3) rfl (by simp)) rfl (by simp)) rfl (l7 (by omega))) rfl)) (f6 _ (by simp))) (aB (x:=.int (c4 % 3)) (y:=.int 2) (b1:=false) (b2:=false) (aB (x:=.int c4) (y:=.int 3) (b1:=false) (b2:=false) (ah (ds:=[.lst (ns.map .int),.int ((4:Nat):Int)]) rfl e4) rfl (by simp)) rfl (by simp)) ekn
end Lw
namespace Lw
open PySem PySem.Spec PyProof.Rows L2 DL
theorem bM {X:Cx}{es:List Expr}{g:FA}{i:Int}{j:Nat}{pos:Pos}(hr:JA X es g):JA X (.Constant (.int i) j pos::es) (ae (fC (.int i)) g):=aa ai hr
def top (i:Nat):Stmt:=PySem.Challenge.pw_sealchain_k27_called_in.main.body.getD i (.Pass ⟨0,0,0,0⟩)
structure Tx (K:PySem.W.Frag) (P:Params) (mg:Str->Option Value):Prop where
 n_all:mg "all" = none
 n_any:mg "any" = none
 n_bool:mg "bool" = none
 n_dict:mg "dict" = none
 n_enumerate:mg "enumerate" = none
 n_int:mg "int" = none
 n_isinstance:mg "isinstance" = none
 n_len:mg "len" = none
 n_list:mg "list" = none
 n_max:mg "max" = none
 n_min:mg "min" = none
 n_range:mg "range" = none
 n_set:mg "set" = none
 n_sorted:mg "sorted" = none
 n_tuple:mg "tuple" = none
 k_PAPERS:∃u v,mg "PAPERS" = some u/\aT v u/\∀B,Is K B v nB
 k_PARTS:∃d,mg "PARTS" = some (.ref d)/\pQ K P d eQ
 k_SEALINGS:∃u v,mg "SEALINGS" = some u/\aT v u/\∀B,Is K B v dO
section
variable {P:Program}{w:World}{K:PySem.W.Frag}{mg:Str->Option Value}{base h:Heap}
abbrev lB:Stmt:=top 5
theorem oE:FnScope ["row"] ["row"] (ay lB):=by refine⟨rfl,rfl,rfl, ?_,rfl, ?_, ?_⟩<;>decide +kernel
theorem wN (T:Tx K w.params mg) (F:Def K "word_of" lB) (KX:K.In h) (G:h.Ns mainGlobals mg)  : Fn P w K mg base 1 "word_of" aD :=
 F.fn (k:=0) KX G oE (λ_ _ _ _ _ _ us hl=>match us,hl with|[_],_=>rfl) λf cdv A outer s H E hr =>
  have hu:=bR hr
  have nd:=oE.nd
  (show JSs _ _ qp from
   (az (aH (aC (aC (ab 0) ai) ai))))
abbrev lC:Stmt:=top 6
theorem oF:FnScope ["row","part"] ["row","part"] (ay lC):=by refine⟨rfl,rfl,rfl, ?_,rfl, ?_, ?_⟩<;>decide +kernel
theorem wO (T:Tx K w.params mg) (F:Def K "part_of" lC) (KX:K.In h) (G:h.Ns mainGlobals mg) (f_word_of:Fn P w K mg base 1 "word_of" aD):Fn P w K mg base 2 "part_of" av :=
 F.fn (k:=1) KX G oF (λ_ _ _ _ _ _ us hl=>match us,hl with|[_,_],_=>rfl) λf cdv A outer s H E hr =>
  have hu:=bR hr
  have nd:=oF.nd
  (show JSs _ _ qq from
   (az (aH (aC (aC (ab 0) ai) (aw bc ai (C5 T.k_PARTS (am f_word_of (hr.mono (by decide)) (aa (ab 0) ag)) (ab 1)))))))
abbrev oG:Stmt:=top 7
theorem qG:FnScope ["row"] ["row"] (ay oG):=by refine⟨rfl,rfl,rfl, ?_,rfl, ?_, ?_⟩<;>decide +kernel
theorem zp (T:Tx K w.params mg) (F:Def K "day_of" oG) (KX:K.In h) (G:h.Ns mainGlobals mg) (f_word_of:Fn P w K mg base 1 "word_of" aD) (f_part_of:Fn P w K mg base 2 "part_of" av):Fn P w K mg base 3 "day_of" aP :=
 F.fn (k:=2) KX G qG (λ_ _ _ _ _ _ us hl=>match us,hl with|[_],_=>rfl) λf cdv A outer s H E hr =>
  have hu:=bR hr
  have nd:=qG.nd
  (show JSs _ _ ur from
   (ao (bz (aN (bY hu) (am f_word_of (hr.mono (by decide)) (aa (ab 0) ag)) a8) (az (aH eM)) bg)
   (az (aH (am f_part_of (hr.mono (by decide)) (aa (ab 0) (aa a8 ag)))))))
abbrev sd:Stmt:=top 9
theorem uS:FnScope ["book","known"] ["book","known"] (ay sd):=by refine⟨rfl,rfl,rfl, ?_,rfl, ?_, ?_⟩<;>decide +kernel
theorem By (T:Tx K w.params mg) (F:Def K "heard" sd) (KX:K.In h) (G:h.Ns mainGlobals mg)  : Fn P w K mg base 1 "heard" bT :=
 F.fn (k:=0) KX G uS (λ_ _ _ _ _ _ us hl=>match us,hl with|[_,_],_=>rfl) λf cdv A outer s H E hr =>
  have hu:=bR hr
  have nd:=uS.nd
  (show JSs _ _ xV from
   (az (aH (dY rfl (nT:=2) (cap:=[1]) (N':=["number","row","known"]) (cZ (by decide +kernel) rfl (by decide +kernel) rfl) (.cons rfl rfl (Or.inl rfl) (Or.inl rfl) (bq (by decide +kernel) rfl) (.nil rfl)) (Cz T.n_enumerate (ab 0)) (λ_ _ _ _=>(z7 rfl (fX (bj (i:=0) (show List.Nodup (α:=Str) ["number","row","known"] by decide +kernel) rfl (Or.inl rfl)) (fX (bj (i:=1) (show List.Nodup (α:=Str) ["number","row","known"] by decide +kernel) rfl (Or.inl rfl)) qP)))) (GL (by decide)) (λ_ _ _ _=>(fP (aN lJ (aC (ab 1) ai) (ab 2)))) (λ_ _ _ _=>(ab 0))))))
abbrev wP:Stmt:=top 11
theorem yv:FnScope ["book","number"] ["book","number"] (ay wP):=by refine⟨rfl,rfl,rfl, ?_,rfl, ?_, ?_⟩<;>decide +kernel
theorem Dj (T:Tx K w.params mg) (F:Def K "rank" wP) (KX:K.In h) (G:h.Ns mainGlobals mg) (f_day_of:Fn P w K mg base 3 "day_of" aP):Fn P w K mg base 4 "rank" dq :=
 F.fn (k:=3) KX G yv (λ_ _ _ _ _ _ us hl=>match us,hl with|[_,_],_=>rfl) λf cdv A outer s H E hr =>
  have hu:=bR hr
  have nd:=yv.nd
  (show JSs _ _ AV from
   (az (aH (aU (aa (am f_day_of (hr.mono (by decide)) (aa (aC (ab 0) (ab 1)) ag)) (aa (ab 1) ag))))))
abbrev j0:Stmt:=top 12
theorem lW:FnScope ["book","known","dated"] ["book","known"] (ay j0):=by refine⟨rfl,rfl,rfl, ?_,rfl, ?_, ?_⟩<;>decide +kernel
theorem uT (T:Tx K w.params mg) (F:Def K "in_order" j0) (KX:K.In h) (G:h.Ns mainGlobals mg) (f_day_of:Fn P w K mg base 3 "day_of" aP) (f_heard:Fn P w K mg base 1 "heard" bT) (f_rank:Fn P w K mg base 4 "rank" dq) (l_in_order:rK K "in_order"):Fn P w K mg base 8 "in_order" dP :=
 F.fnL (k:=7) KX G lW (λ_ _ _ _ _ _ us hl=>match us,hl with|[_,_],_=>rfl) λf cdv A outer s H E hcd hr =>
  have hu:=bR hr
  have nd:=lW.nd
  (show JSs _ _ nD from
   (ao (iL (i:=2) rfl nd rfl rfl rfl (nT:=1) (cap:=[0]) (N':=["number","book"]) (cZ (by decide +kernel) rfl (by decide +kernel) rfl) (.cons rfl rfl (Or.inl rfl) (Or.inl rfl) (bq (by decide +kernel) rfl) (.nil rfl)) (da (am f_heard (hr.mono (by decide)) (aa (ab 0) (aa (ab 1) ag)))) (λ_ _ _ _=>(bj (i:=0) (show List.Nodup (α:=Str) ["number","book"] by decide +kernel) rfl (Or.inl rfl))) (bW (by decide)) (λ_ _ _ _=>(fP (aN xw (am f_day_of (hr.mono (by decide)) (aa (aC (ab 1) (ab 0)) ag)) eM))) (λ_ _ _ _=>(ab 0)))
   (az (aH (ui T.n_sorted (ab 2) (wq (cap:=[0]) (N':=["number","book"]) (by decide +kernel) l_in_order hcd rfl rfl (AE (by decide +kernel) rfl rfl rfl rfl rfl) rfl (.cons rfl rfl (Or.inl rfl) rfl (bq (by decide +kernel) rfl) (.nil rfl)) rfl hr.in1.in1 (λ_ _ _ _=>rfl) λ_ _ _ _ hr=>have hu:=bR hr;(am f_rank (hr.mono (by decide)) (aa (ab 1) (aa (ab 0) ag)))))))))
abbrev iC:Stmt:=top 24
theorem kM:FnScope ["claim"] ["claim"] (ay iC):=by refine⟨rfl,rfl,rfl, ?_,rfl, ?_, ?_⟩<;>decide +kernel
theorem se (T:Tx K w.params mg) (F:Def K "by_office" iC) (KX:K.In h) (G:h.Ns mainGlobals mg)  : Fn P w K mg base 1 "by_office" dr :=
 F.fn (k:=0) KX G kM (λ_ _ _ _ _ _ us hl=>match us,hl with|[_],_=>rfl) λf cdv A outer s H E hr =>
  have hu:=bR hr
  have nd:=kM.nd
  (show JSs _ _ lN from
   (az (aH (aU (aa (aC (ab 0) ai) (aa (aC (ab 0) ai) (aa (aC (ab 0) ai) ag)))))))
abbrev sf:Stmt:=top 13
theorem uU:FnScope ["book","known","known_rows"] ["book","known"] (ay sf):=by refine⟨rfl,rfl,rfl, ?_,rfl, ?_, ?_⟩<;>decide +kernel
theorem Bz (T:Tx K w.params mg) (F:Def K "roots" sf) (KX:K.In h) (G:h.Ns mainGlobals mg) (f_word_of:Fn P w K mg base 1 "word_of" aD) (f_part_of:Fn P w K mg base 2 "part_of" av) (f_heard:Fn P w K mg base 1 "heard" bT):Fn P w K mg base 3 "roots" di :=
 F.fn (k:=2) KX G uU (λ_ _ _ _ _ _ us hl=>match us,hl with|[_,_],_=>rfl) λf cdv A outer s H E hr =>
  have hu:=bR hr
  have nd:=uU.nd
  (show JSs _ _ xW from
   (ao (iL (i:=2) rfl nd rfl rfl rfl (nT:=1) (cap:=[0]) (N':=["number","book"]) (cZ (by decide +kernel) rfl (by decide +kernel) rfl) (.cons rfl rfl (Or.inl rfl) (Or.inl rfl) (bq (by decide +kernel) rfl) (.nil rfl)) (da (am f_heard (hr.mono (by decide)) (aa (ab 0) (aa (ab 1) ag)))) (λ_ _ _ _=>(bj (i:=0) (show List.Nodup (α:=Str) ["number","book"] by decide +kernel) rfl (Or.inl rfl))) (bW (by decide)) (λ_ _ _ _=>kY) (λ_ _ _ _=>(aC (ab 1) (ab 0))))
   (az (aH (dI (Fr rfl) T.n_dict Fq (aa (dY rfl (nT:=1) (cap:=[]) (N':=["row"]) (cZ (by decide +kernel) rfl (by decide +kernel) rfl) (.nil rfl) (da (ab 2)) (λ_ _ _ _=>(bj (i:=0) (show List.Nodup (α:=Str) ["row"] by decide +kernel) rfl (Or.inl rfl))) (bW (by decide)) (λ_ _ _ _=>(fP (aN (bY hu) (am f_word_of (hr.mono (by decide)) (aa (ab 0) ag)) a8))) (λ_ _ _ _=>(aU (aa (am f_part_of (hr.mono (by decide)) (aa (ab 0) (aa a8 ag))) (aa (ab 0) ag))))) ag))))))
abbrev j3:Stmt:=top 10
theorem lX:FnScope ["book","known","number"] ["book","known","number"] (ay j3):=by refine⟨rfl,rfl,rfl, ?_,rfl, ?_, ?_⟩<;>decide +kernel
theorem uV (T:Tx K w.params mg) (F:Def K "is_known" j3) (KX:K.In h) (G:h.Ns mainGlobals mg)  : Fn P w K mg base 1 "is_known" cn :=
 F.fn (k:=0) KX G lX (λ_ _ _ _ _ _ us hl=>match us,hl with|[_,_,_],_=>rfl) λf cdv A outer s H E hr =>
  have hu:=bR hr
  have nd:=lX.nd
  (show JSs _ _ nE from
   (az (aH (fR (Ac lJ Ai ai (ab 2) (b8 gW T.n_len gX (aa (ab 0) ag))) (eY (cG lJ (aC (aC (ab 0) (ab 2)) ai) (ab 1)))))))
abbrev sg:Stmt:=top 16
theorem uW:FnScope ["row","words","person","day"] ["row","words","person","day"] (ay sg):=by refine⟨rfl,rfl,rfl, ?_,rfl, ?_, ?_⟩<;>decide +kernel
theorem B1 (T:Tx K w.params mg) (F:Def K "tells" sg) (KX:K.In h) (G:h.Ns mainGlobals mg) (f_word_of:Fn P w K mg base 1 "word_of" aD) (f_part_of:Fn P w K mg base 2 "part_of" av) (f_day_of:Fn P w K mg base 3 "day_of" aP):Fn P w K mg base 4 "tells" kh :=
 F.fn (k:=3) KX G uW (λ_ _ _ _ _ _ us hl=>match us,hl with|[_,_,_,_],_=>rfl) λf cdv A outer s H E hr =>
  have hu:=bR hr
  have nd:=uW.nd
  (show JSs _ _ xX from
   (az (aH (fR (cG xy (am f_word_of (hr.mono (by decide)) (aa (ab 0) ag)) (ab 1)) (fR (cG (bY hu) (am f_part_of (hr.mono (by decide)) (aa (ab 0) (aa a8 ag))) (ab 2)) (eY (cG lJ (am f_day_of (hr.mono (by decide)) (aa (ab 0) ag)) (ab 3))))))))
abbrev lD:Stmt:=top 17
theorem oH:FnScope ["book","known","words","person","day"] ["book","known","words","person","day"] (ay lD):=by refine⟨rfl,rfl,rfl, ?_,rfl, ?_, ?_⟩<;>decide +kernel
theorem wQ (T:Tx K w.params mg) (F:Def K "told_of" lD) (KX:K.In h) (G:h.Ns mainGlobals mg) (f_heard:Fn P w K mg base 1 "heard" bT) (f_tells:Fn P w K mg base 4 "tells" kh):Fn P w K mg base 5 "told_of" cW :=
 F.fn (k:=4) KX G oH (λ_ _ _ _ _ _ us hl=>match us,hl with|[_,_,_,_,_],_=>rfl) λf cdv A outer s H E hr =>
  have hu:=bR hr
  have nd:=oH.nd
  (show JSs _ _ qr from
   (az (aH (dY rfl (nT:=1) (cap:=[2,3,4,0]) (N':=["number","words","person","day","book"]) (cZ (by decide +kernel) rfl (by decide +kernel) rfl) (.cons rfl rfl (Or.inl rfl) (Or.inl rfl) (bq (by decide +kernel) rfl) (.cons rfl rfl (Or.inl rfl) (Or.inl rfl) (bq (by decide +kernel) rfl) (.cons rfl rfl (Or.inl rfl) (Or.inl rfl) (bq (by decide +kernel) rfl) (.cons rfl rfl (Or.inl rfl) (Or.inl rfl) (bq (by decide +kernel) rfl) (.nil rfl))))) (da (am f_heard (hr.mono (by decide)) (aa (ab 0) (aa (ab 1) ag)))) (λ_ _ _ _=>(bj (i:=0) (show List.Nodup (α:=Str) ["number","words","person","day","book"] by decide +kernel) rfl (Or.inl rfl))) (bW (by decide)) (λ_ _ _ _=>(fP (dm (am f_tells (hr.mono (by decide)) (aa (aC (ab 4) (ab 0)) (aa (ab 1) (aa (ab 2) (aa (ab 3) ag)))))))) (λ_ _ _ _=>(ab 0))))))
abbrev si:Stmt:=top 18
theorem uX:FnScope ["book","known","person","day"] ["book","known","person","day"] (ay si):=by refine⟨rfl,rfl,rfl, ?_,rfl, ?_, ?_⟩<;>decide +kernel
theorem B3 (T:Tx K w.params mg) (F:Def K "lives" si) (KX:K.In h) (G:h.Ns mainGlobals mg) (f_told_of:Fn P w K mg base 5 "told_of" cW):Fn P w K mg base 6 "lives" gI :=
 F.fn (k:=5) KX G uX (λ_ _ _ _ _ _ us hl=>match us,hl with|[_,_,_,_],_=>rfl) λf cdv A outer s H E hr =>
  have hu:=bR hr
  have nd:=uX.nd
  (show JSs _ _ xY from
   (az (aH (cG (bY hu) (b8 gW T.n_len gX (aa (am f_told_of (hr.mono (by decide)) (aa (ab 0) (aa (ab 1) (aa (aU (aa a8 ag)) (aa (ab 2) (aa (ab 3) ag)))))) ag)) ai))))
abbrev j4:Stmt:=top 19
theorem lY:FnScope ["book","known","person","day","told"] ["book","known","person","day"] (ay j4):=by refine⟨rfl,rfl,rfl, ?_,rfl, ?_, ?_⟩<;>decide +kernel
theorem uY (T:Tx K w.params mg) (F:Def K "has_seal" j4) (KX:K.In h) (G:h.Ns mainGlobals mg) (f_word_of:Fn P w K mg base 1 "word_of" aD) (f_rank:Fn P w K mg base 4 "rank" dq) (f_told_of:Fn P w K mg base 5 "told_of" cW) (l_has_seal:rK K "has_seal"):Fn P w K mg base 8 "has_seal" gJ :=
 F.fnL (k:=7) KX G lY (λ_ _ _ _ _ _ us hl=>match us,hl with|[_,_,_,_],_=>rfl) λf cdv A outer s H E hcd hr =>
  have hu:=bR hr
  have nd:=lY.nd
  (show JSs _ _ nF from
   (ao (aI (i:=4) nd (am f_told_of (hr.mono (by decide)) (aa (ab 0) (aa (ab 1) (aa (aU (aa a8 (aa a8 ag))) (aa (ab 2) (aa (ab 3) ag)))))))
   (ao (bz (aN (bY hu) (b8 gW T.n_len gX (aa (ab 4) ag)) ai) (az (aH fG)) bg)
   (az (aH (cG (bY hu) (am f_word_of (hr.mono (by decide)) (aa (aC (ab 0) (uj mmx T.n_max (ab 4) (wq (cap:=[0]) (N':=["number","book"]) (by decide +kernel) l_has_seal hcd rfl rfl (AE (by decide +kernel) rfl rfl rfl rfl rfl) rfl (.cons rfl rfl (Or.inl rfl) rfl (bq (by decide +kernel) rfl) (.nil rfl)) rfl hr.in1 (λ_ _ _ _=>rfl) λ_ _ _ _ hr=>have hu:=bR hr;(am f_rank (hr.mono (by decide)) (aa (ab 1) (aa (ab 0) ag)))) hr)) ag)) a8))))))
abbrev j5:Stmt:=top 20
theorem lZ:FnScope ["book","known","number","sealer","day"] ["book","known","number"] (ay j5):=by refine⟨rfl,rfl,rfl, ?_,rfl, ?_, ?_⟩<;>decide +kernel
theorem uZ (T:Tx K w.params mg) (F:Def K "is_sound" j5) (KX:K.In h) (G:h.Ns mainGlobals mg) (f_word_of:Fn P w K mg base 1 "word_of" aD) (f_part_of:Fn P w K mg base 2 "part_of" av) (f_day_of:Fn P w K mg base 3 "day_of" aP) (f_is_known:Fn P w K mg base 1 "is_known" cn) (f_lives:Fn P w K mg base 6 "lives" gI) (f_has_seal:Fn P w K mg base 8 "has_seal" gJ):Fn P w K mg base 9 "is_sound" cq :=
 F.fn (k:=8) KX G lZ (λ_ _ _ _ _ _ us hl=>match us,hl with|[_,_,_],_=>rfl) λf cdv A outer s H E hr =>
  have hu:=bR hr
  have nd:=lZ.nd
  (show JSs _ _ nG from
   (ao (bz (jQ (jP (la (dm (am f_is_known (hr.mono (by decide)) (aa (ab 0) (aa (ab 1) (aa (ab 2) ag)))))) (jm (aN jR (am f_word_of (hr.mono (by decide)) (aa (aC (ab 0) (ab 2)) ag)) (t6 T.k_SEALINGS))))) (az (aH fG)) bg)
   (ao (aI (i:=3) nd (am f_part_of (hr.mono (by decide)) (aa (aC (ab 0) (ab 2)) (aa a8 ag))))
   (ao (aI (i:=4) nd (am f_day_of (hr.mono (by decide)) (aa (aC (ab 0) (ab 2)) ag)))
   (az (aH (fR (am f_lives (hr.mono (by decide)) (aa (ab 0) (aa (ab 1) (aa (ab 3) (aa (ab 4) ag))))) (eY (am f_has_seal (hr.mono (by decide)) (aa (ab 0) (aa (ab 1) (aa (ab 3) (aa (ab 4) ag)))))))))))))
abbrev lE:Stmt:=top 1
theorem oJ:FnScope ["day","stretch"] ["day","stretch"] (ay lE):=by refine⟨rfl,rfl,rfl, ?_,rfl, ?_, ?_⟩<;>decide +kernel
theorem wR (T:Tx K w.params mg) (F:Def K "lies_in" lE) (KX:K.In h) (G:h.Ns mainGlobals mg)  : Fn P w K mg base 1 "lies_in" iS :=
 F.fn (k:=0) KX G oJ (λ_ _ _ _ _ _ us hl=>match us,hl with|[_,_],_=>rfl) λf cdv A outer s H E hr =>
  have hu:=bR hr
  have nd:=oJ.nd
  (show JSs _ _ qt from
   (az (aH (fR (cG lJ (aC (ab 1) ai) (ab 0)) (eY (Dw (cG EY (aC (ab 1) ai) eM) (eY (cG Ai (ab 0) (aC (ab 1) ai)))))))))
abbrev j6:Stmt:=top 22
theorem ma:FnScope ["claim","day"] ["claim","day"] (ay j6):=by refine⟨rfl,rfl,rfl, ?_,rfl, ?_, ?_⟩<;>decide +kernel
theorem vc (T:Tx K w.params mg) (F:Def K "is_alive" j6) (KX:K.In h) (G:h.Ns mainGlobals mg) (f_lies_in:Fn P w K mg base 1 "lies_in" iS):Fn P w K mg base 2 "is_alive" bJ :=
 F.fn (k:=1) KX G ma (λ_ _ _ _ _ _ us hl=>match us,hl with|[_,_],_=>rfl) λf cdv A outer s H E hr =>
  have hu:=bR hr
  have nd:=ma.nd
  (show JSs _ _ nH from
   (az (aH (am f_lies_in (hr.mono (by decide)) (aa (ab 1) (aa (aU (aa (aC (ab 0) ai) (aa (aC (ab 0) ai) ag))) ag))))))
abbrev j7:Stmt:=top 23
theorem md:FnScope ["claim"] ["claim"] (ay j7):=by refine⟨rfl,rfl,rfl, ?_,rfl, ?_, ?_⟩<;>decide +kernel
theorem ve (T:Tx K w.params mg) (F:Def K "by_since" j7) (KX:K.In h) (G:h.Ns mainGlobals mg)  : Fn P w K mg base 1 "by_since" bX :=
 F.fn (k:=0) KX G md (λ_ _ _ _ _ _ us hl=>match us,hl with|[_],_=>rfl) λf cdv A outer s H E hr =>
  have hu:=bR hr
  have nd:=md.nd
  (show JSs _ _ nI from
   (az (aH (aU (aa (aC (ab 0) ai) (aa (aC (ab 0) ai) ag))))))
abbrev j8:Stmt:=top 25
theorem mf:FnScope ["alive","rule"] ["alive","rule"] (ay j8):=by refine⟨rfl,rfl,rfl, ?_,rfl, ?_, ?_⟩<;>decide +kernel
theorem vg (T:Tx K w.params mg) (F:Def K "chief_of" j8) (KX:K.In h) (G:h.Ns mainGlobals mg) (f_by_since:Fn P w K mg base 1 "by_since" bX):Fn P w K mg base 5 "chief_of" gK :=
 F.fn (k:=4) KX G mf (λ_ _ _ _ _ _ us hl=>match us,hl with|[_,_],_=>rfl) λf cdv A outer s H E hr =>
  have hu:=bR hr
  have nd:=mf.nd
  (show JSs _ _ nJ from
   (ao (bz (aN (bY hu) (ab 1) a8) (az (aH (aC (uj mmx T.n_max (ab 0) (xM f_by_since (hr.in1.mono (by decide)) rfl) hr) ai))) bg)
   (az (aH (aC (uj mmn T.n_min (ab 0) (xM f_by_since (hr.in1.mono (by decide)) rfl) hr) ai)))))
abbrev iD:Stmt:=top 26
theorem kN:FnScope ["claimed","root","day","alive","people","person","oldest"] ["claimed","root","day"] (ay iD):=by refine⟨rfl,rfl,rfl, ?_,rfl, ?_, ?_⟩<;>decide +kernel
theorem sj (T:Tx K w.params mg) (F:Def K "holder_by" iD) (KX:K.In h) (G:h.Ns mainGlobals mg) (f_part_of:Fn P w K mg base 2 "part_of" av) (f_is_alive:Fn P w K mg base 2 "is_alive" bJ) (f_by_since:Fn P w K mg base 1 "by_since" bX) (f_chief_of:Fn P w K mg base 5 "chief_of" gK):Fn P w K mg base 6 "holder_by" c7 :=
 F.fn (k:=5) KX G kN (λ_ _ _ _ _ _ us hl=>match us,hl with|[_,_,_],_=>rfl) λf cdv A outer s H E hr =>
  have hu:=bR hr
  have nd:=kN.nd
  (show JSs _ _ lO from
   (ao (iL (i:=3) rfl nd rfl rfl rfl (nT:=1) (cap:=[2,1]) (N':=["claim","day","root"]) (cZ (by decide +kernel) rfl (by decide +kernel) rfl) (.cons rfl rfl (Or.inl rfl) (Or.inl rfl) (bq (by decide +kernel) rfl) (.cons rfl rfl (Or.inl rfl) (Or.inl rfl) (bq (by decide +kernel) rfl) (.nil rfl))) (da (ab 0)) (λ_ _ _ _=>(bj (i:=0) (show List.Nodup (α:=Str) ["claim","day","root"] by decide +kernel) rfl (Or.inl rfl))) (bW (by decide)) (λ_ _ _ _=>(fP (jQ (fQ (aN (bY hu) (aC (ab 0) ai) (am f_part_of (hr.mono (by decide)) (aa (ab 2) (aa a8 ag)))) (g9 (dm (am f_is_alive (hr.mono (by decide)) (aa (ab 0) (aa (ab 1) ag))))))))) (λ_ _ _ _=>(ab 0)))
   (ao (aI (i:=4) nd (ng rfl T.n_sorted T.n_set (dY rfl (nT:=1) (cap:=[]) (N':=["claim"]) (cZ (by decide +kernel) rfl (by decide +kernel) rfl) (.nil rfl) (da (ab 3)) (λ_ _ _ _=>(bj (i:=0) (show List.Nodup (α:=Str) ["claim"] by decide +kernel) rfl (Or.inl rfl))) (bW (by decide)) (λ_ _ _ _=>kY) (λ_ _ _ _=>(aC (ab 0) ai)))))
   (ao (bz (aN (bY hu) (b8 gW T.n_len gX (aa (ab 4) ag)) ai) (az (aH (aU (aa a8 ag)))) bg)
   (ao (bz (jQ (fQ (aN Af (b8 gW T.n_len gX (aa (ab 4) ag)) ai) (g9 (aN (bY hu) (am f_part_of (hr.mono (by decide)) (aa (ab 1) (aa a8 ag))) a8)))) (az (aH (aU (aa a8 (aa (ab 4) ag))))) bg)
   (ao (aI (i:=5) nd (am f_chief_of (hr.mono (by decide)) (aa (ab 3) (aa (am f_part_of (hr.mono (by decide)) (aa (ab 1) (aa a8 ag))) ag))))
   (ao (aI (i:=6) nd (uj mmn T.n_min (dY rfl (nT:=1) (cap:=[5]) (N':=["claim","person"]) (cZ (by decide +kernel) rfl (by decide +kernel) rfl) (.cons rfl rfl (Or.inl rfl) (Or.inl rfl) (bq (by decide +kernel) rfl) (.nil rfl)) (da (ab 3)) (λ_ _ _ _=>(bj (i:=0) (show List.Nodup (α:=Str) ["claim","person"] by decide +kernel) rfl (Or.inl rfl))) (bW (by decide)) (λ_ _ _ _=>(fP (aN (bY hu) (aC (ab 0) ai) (ab 1)))) (λ_ _ _ _=>(ab 0))) (xM f_by_since (hr.in1.mono (by decide)) rfl) hr))
   (az (aH (aU (aa a8 (aa (ab 5) (aa (aC (ab 6) ai) ag)))))))))))))
abbrev gT:Stmt:=top 27
theorem jj:FnScope ["claimed","root","person","day"] ["claimed","root","person","day"] (ay gT):=by refine⟨rfl,rfl,rfl, ?_,rfl, ?_, ?_⟩<;>decide +kernel
theorem p5 (T:Tx K w.params mg) (F:Def K "is_held_by" gT) (KX:K.In h) (G:h.Ns mainGlobals mg) (f_holder_by:Fn P w K mg base 6 "holder_by" c7):Fn P w K mg base 7 "is_held_by" cf :=
 F.fn (k:=6) KX G jj (λ_ _ _ _ _ _ us hl=>match us,hl with|[_,_,_,_],_=>rfl) λf cdv A outer s H E hr =>
  have hu:=bR hr
  have nd:=jj.nd
  (show JSs _ _ ki from
   (az (aH (cG (bY hu) (tG (am f_holder_by (hr.mono (by decide)) (aa (ab 0) (aa (ab 1) (aa (ab 3) ag)))) xo (xp ai)) (aU (aa a8 (aa (ab 2) ag)))))))
abbrev dX:Stmt:=top 28
theorem fO:FnScope ["book","known","number","row","deaths"] ["book","known","number"] (ay dX):=by refine⟨rfl,rfl,rfl, ?_,rfl, ?_, ?_⟩<;>decide +kernel
theorem kO (T:Tx K w.params mg) (F:Def K "is_first_death" dX) (KX:K.In h) (G:h.Ns mainGlobals mg) (f_part_of:Fn P w K mg base 2 "part_of" av) (f_day_of:Fn P w K mg base 3 "day_of" aP) (f_rank:Fn P w K mg base 4 "rank" dq) (f_told_of:Fn P w K mg base 5 "told_of" cW) (l_is_first_death:rK K "is_first_death"):Fn P w K mg base 8 "is_first_death" cX :=
 F.fnL (k:=7) KX G fO (λ_ _ _ _ _ _ us hl=>match us,hl with|[_,_,_],_=>rfl) λf cdv A outer s H E hcd hr =>
  have hu:=bR hr
  have nd:=fO.nd
  (show JSs _ _ gn from
   (ao (aI (i:=3) nd (aC (ab 0) (ab 2)))
   (ao (aI (i:=4) nd (am f_told_of (hr.mono (by decide)) (aa (ab 0) (aa (ab 1) (aa (aU (aa a8 ag)) (aa (am f_part_of (hr.mono (by decide)) (aa (ab 3) (aa a8 ag))) (aa (am f_day_of (hr.mono (by decide)) (aa (ab 3) ag)) ag)))))))
   (az (aH (cG (bY hu) (uj mmn T.n_min (ab 4) (wq (cap:=[0]) (N':=["each","book"]) (by decide +kernel) l_is_first_death hcd rfl rfl (AE (by decide +kernel) rfl rfl rfl rfl rfl) rfl (.cons rfl rfl (Or.inl rfl) rfl (bq (by decide +kernel) rfl) (.nil rfl)) rfl hr.in1 (λ_ _ _ _=>rfl) λ_ _ _ _ hr=>have hu:=bR hr;(am f_rank (hr.mono (by decide)) (aa (ab 1) (aa (ab 0) ag)))) hr) (ab 2)))))))
abbrev oK:Stmt:=top 29
theorem qH:FnScope ["book","known","so_far","number","row","root"] ["book","known","so_far","number"] (ay oK):=by refine⟨rfl,rfl,rfl, ?_,rfl, ?_, ?_⟩<;>decide +kernel
theorem zq (T:Tx K w.params mg) (F:Def K "counts" oK) (KX:K.In h) (G:h.Ns mainGlobals mg) (f_word_of:Fn P w K mg base 1 "word_of" aD) (f_part_of:Fn P w K mg base 2 "part_of" av) (f_day_of:Fn P w K mg base 3 "day_of" aP) (f_roots:Fn P w K mg base 3 "roots" di) (f_is_sound:Fn P w K mg base 9 "is_sound" cq) (f_is_held_by:Fn P w K mg base 7 "is_held_by" cf) (f_is_first_death:Fn P w K mg base 8 "is_first_death" cX):Fn P w K mg base 10 "counts" iu :=
 F.fn (k:=9) KX G qH (λ_ _ _ _ _ _ us hl=>match us,hl with|[_,_,_,_],_=>rfl) λf cdv A outer s H E hr =>
  have hu:=bR hr
  have nd:=qH.nd
  (show JSs _ _ ut from
   (ao (aI (i:=4) nd (aC (ab 0) (ab 3)))
   (ao (bz (aN (bY hu) (am f_word_of (hr.mono (by decide)) (aa (ab 4) ag)) a8) (az (aH (am f_is_first_death (hr.mono (by decide)) (aa (ab 0) (aa (ab 1) (aa (ab 3) ag)))))) bg)
   (ao (bz (aN jR (am f_word_of (hr.mono (by decide)) (aa (ab 4) ag)) (aU (aa a8 (aa a8 (aa a8 ag))))) (az (aH fG)) bg)
   (ao (aI (i:=5) nd (ul (hu1 hu) (am f_roots (hr.mono (by decide)) (aa (ab 0) (aa (ab 1) ag))) (am f_part_of (hr.mono (by decide)) (aa (ab 4) (aa a8 ag))) ⟨rfl,rfl,rfl,rfl⟩))
   (ao (bz (aN EY (ab 5) eM) (az (aH fG)) bg)
   (ao (bz (aN (bY hu) (am f_word_of (hr.mono (by decide)) (aa (ab 4) ag)) a8) (az (aH fG)) bg)
   (az (aH (fR (am f_is_sound (hr.mono (by decide)) (aa (ab 0) (aa (ab 1) (aa (ab 3) ag)))) (eY (am f_is_held_by (hr.mono (by decide)) (aa (ab 2) (aa (ab 5) (aa (am f_part_of (hr.mono (by decide)) (aa (ab 4) (aa a8 ag))) (aa (am f_day_of (hr.mono (by decide)) (aa (ab 4) ag)) ag))))))))))))))))
abbrev iE:Stmt:=top 30
theorem kP:FnScope ["row","since","number"] ["row","since","number"] (ay iE):=by refine⟨rfl,rfl,rfl, ?_,rfl, ?_, ?_⟩<;>decide +kernel
theorem sk (T:Tx K w.params mg) (F:Def K "new_claim" iE) (KX:K.In h) (G:h.Ns mainGlobals mg) (f_part_of:Fn P w K mg base 2 "part_of" av):Fn P w K mg base 3 "new_claim" cO :=
 F.fn (k:=2) KX G kP (λ_ _ _ _ _ _ us hl=>match us,hl with|[_,_,_],_=>rfl) λf cdv A outer s H E hr =>
  have hu:=bR hr
  have nd:=kP.nd
  (show JSs _ _ lP from
   (az (aH (aU (aa (am f_part_of (hr.mono (by decide)) (aa (ab 0) (aa a8 ag))) (aa (am f_part_of (hr.mono (by decide)) (aa (ab 0) (aa a8 ag))) (aa (ab 1) (aa eM (aa (ab 2) ag)))))))))
abbrev sn:Stmt:=top 31
theorem vh:FnScope ["so_far","offices","person","day","left","claim"] ["so_far","offices","person","day"] (ay sn):=by refine⟨rfl,rfl,rfl, ?_,rfl, ?_, ?_⟩<;>decide +kernel
theorem B4 (T:Tx K w.params mg) (F:Def K "ended" sn) (KX:K.In h) (G:h.Ns mainGlobals mg) (f_is_alive:Fn P w K mg base 2 "is_alive" bJ):Fn P w K mg base 3 "ended" iT :=
 F.fn (k:=2) KX G vh (λ_ _ _ _ _ _ us hl=>match us,hl with|[_,_,_,_],_=>rfl) λf cdv A outer s H E hr =>
  have hu:=bR hr
  have nd:=vh.nd
  (show JSs _ _ xZ from
   (ao (aI (i:=4) nd (b9 ag))
   (ao (rg PassesOwn.never rfl (da (ab 0)) (bj (i:=5) nd rfl (Or.inl rfl)) dz (az (bz (jQ (jP (aN jR (aC (ab 5) ai) (ab 1)) (jP (aN (Cn hu) (aC (ab 5) ai) (ab 2)) (jm (la (jQ (jP (dm (am f_is_alive (hr.mono (by decide)) (aa (ab 5) (aa (ab 3) ag)))) (jm (aN Af (aC (ab 5) ai) (ab 3)))))))))) (az (eN (i:=4) (ab 5))) (az (bz (aN Ai (aC (ab 5) ai) (ab 3)) (az (eN (i:=4) (aU (aa (aC (ab 5) ai) (aa (ab 2) (aa (aC (ab 5) ai) (aa (ab 3) (aa (aC (ab 5) ai) ag)))))))) bg)))))
   (az (m9 4)))))
abbrev f8:Stmt:=top 32
theorem gZ:FnScope ["so_far","row","number","since","left"] ["so_far","row","number"] (ay f8):=by refine⟨rfl,rfl,rfl, ?_,rfl, ?_, ?_⟩<;>decide +kernel
theorem m7 (T:Tx K w.params mg) (F:Def K "after_choice" f8) (KX:K.In h) (G:h.Ns mainGlobals mg) (f_part_of:Fn P w K mg base 2 "part_of" av) (f_new_claim:Fn P w K mg base 3 "new_claim" cO) (f_ended:Fn P w K mg base 3 "ended" iT):Fn P w K mg base 4 "after_choice" dA :=
 F.fn (k:=3) KX G gZ (λ_ _ _ _ _ _ us hl=>match us,hl with|[_,_,_],_=>rfl) λf cdv A outer s H E hr =>
  have hu:=bR hr
  have nd:=gZ.nd
  (show JSs _ _ iw from
   (ao (aI (i:=3) nd (am f_part_of (hr.mono (by decide)) (aa (ab 1) (aa a8 ag))))
   (ao (aI (i:=4) nd (am f_ended (hr.mono (by decide)) (aa (ab 0) (aa (b9 (aa (am f_part_of (hr.mono (by decide)) (aa (ab 1) (aa a8 ag))) ag)) (aa (am f_part_of (hr.mono (by decide)) (aa (ab 1) (aa a8 ag))) (aa (ab 3) ag))))))
   (az (aH (aw bc (ab 4) (b9 (aa (am f_new_claim (hr.mono (by decide)) (aa (ab 1) (aa (ab 3) (aa (ab 2) ag)))) ag))))))))
abbrev iF:Stmt:=top 33
theorem kQ:FnScope ["book","known","so_far","heirs","number","person","day","told","office","heir"] ["book","known","so_far","heirs","number"] (ay iF):=by refine⟨rfl,rfl,rfl, ?_,rfl, ?_, ?_⟩<;>decide +kernel
theorem su (T:Tx K w.params mg) (F:Def K "inherited" iF) (KX:K.In h) (G:h.Ns mainGlobals mg) (f_part_of:Fn P w K mg base 2 "part_of" av) (f_day_of:Fn P w K mg base 3 "day_of" aP) (f_lives:Fn P w K mg base 6 "lives" gI) (f_is_alive:Fn P w K mg base 2 "is_alive" bJ):Fn P w K mg base 7 "inherited" fK :=
 F.fn (k:=6) KX G kQ (λ_ _ _ _ _ _ us hl=>match us,hl with|[_,_,_,_,_],_=>rfl) λf cdv A outer s H E hr =>
  have hu:=bR hr
  have nd:=kQ.nd
  (show JSs _ _ lQ from
   (ao (aI (i:=5) nd (am f_part_of (hr.mono (by decide)) (aa (aC (ab 0) (ab 4)) (aa a8 ag))))
   (ao (aI (i:=6) nd (am f_day_of (hr.mono (by decide)) (aa (aC (ab 0) (ab 4)) ag)))
   (ao (aI (i:=7) nd (b9 ag))
   (ao (GN [5,6] (rg PassesOwn.never rfl (da (ng rfl T.n_sorted T.n_set (dY rfl (nT:=1) (cap:=[5,6]) (N':=["claim","person","day"]) (cZ (by decide +kernel) rfl (by decide +kernel) rfl) (.cons rfl rfl (Or.inl rfl) (Or.inl rfl) (bq (by decide +kernel) rfl) (.cons rfl rfl (Or.inl rfl) (Or.inl rfl) (bq (by decide +kernel) rfl) (.nil rfl))) (da (ab 2)) (λ_ _ _ _=>(bj (i:=0) (show List.Nodup (α:=Str) ["claim","person","day"] by decide +kernel) rfl (Or.inl rfl))) (bW (by decide)) (λ_ _ _ _=>(fP (jQ (fQ (aN (bY hu) (aC (ab 0) ai) (ab 1)) (g9 (dm (am f_is_alive (hr.mono (by decide)) (aa (ab 0) (aa (ab 2) ag))))))))) (λ_ _ _ _=>(aC (ab 0) ai))))) (bj (i:=8) nd rfl (Or.inl rfl)) dz (ao (aI (i:=9) nd (AQ (hu1 hu) (ab 3) (aa (ab 8) (aa (ab 5) ag)) ⟨rfl,rfl,rfl,rfl⟩))
   (az (bz (jQ (fQ (aN xw (ab 9) eM) (g9 (dm (am f_lives (hr.mono (by decide)) (aa (ab 0) (aa (ab 1) (aa (ab 9) (aa (ab 6) ag))))))))) (az (eN (i:=7) (aU (aa (ab 8) (aa (ab 9) (aa (ab 6) (aa eM (aa (ab 4) ag)))))))) bg)))))
   (az (m9 7)))))))
abbrev fW:Stmt:=top 34
theorem iG:FnScope ["book","known","so_far","heirs","number","offices","left"] ["book","known","so_far","heirs","number"] (ay fW):=by refine⟨rfl,rfl,rfl, ?_,rfl, ?_, ?_⟩<;>decide +kernel
theorem oM (T:Tx K w.params mg) (F:Def K "after_death" fW) (KX:K.In h) (G:h.Ns mainGlobals mg) (f_part_of:Fn P w K mg base 2 "part_of" av) (f_day_of:Fn P w K mg base 3 "day_of" aP) (f_ended:Fn P w K mg base 3 "ended" iT) (f_inherited:Fn P w K mg base 7 "inherited" fK):Fn P w K mg base 8 "after_death" eu :=
 F.fn (k:=7) KX G iG (λ_ _ _ _ _ _ us hl=>match us,hl with|[_,_,_,_,_],_=>rfl) λf cdv A outer s H E hr =>
  have hu:=bR hr
  have nd:=iG.nd
  (show JSs _ _ jh from
   (ao (iL (i:=5) rfl nd rfl rfl rfl (nT:=1) (cap:=[]) (N':=["claim"]) (cZ (by decide +kernel) rfl (by decide +kernel) rfl) (.nil rfl) (da (ab 2)) (λ_ _ _ _=>(bj (i:=0) (show List.Nodup (α:=Str) ["claim"] by decide +kernel) rfl (Or.inl rfl))) (bW (by decide)) (λ_ _ _ _=>kY) (λ_ _ _ _=>(aC (ab 0) ai)))
   (ao (aI (i:=6) nd (am f_ended (hr.mono (by decide)) (aa (ab 2) (aa (ab 5) (aa (am f_part_of (hr.mono (by decide)) (aa (aC (ab 0) (ab 4)) (aa a8 ag))) (aa (am f_day_of (hr.mono (by decide)) (aa (aC (ab 0) (ab 4)) ag)) ag))))))
   (az (aH (aw bc (ab 6) (am f_inherited (hr.mono (by decide)) (aa (ab 0) (aa (ab 1) (aa (ab 2) (aa (ab 3) (aa (ab 4) ag))))))))))))
abbrev oN:Stmt:=top 35
theorem qI:FnScope ["book","known","so_far","heirs","number","row"] ["book","known"] (ay oN):=by refine⟨rfl,rfl,rfl, ?_,rfl, ?_, ?_⟩<;>decide +kernel
theorem zu (T:Tx K w.params mg) (F:Def K "claims" oN) (KX:K.In h) (G:h.Ns mainGlobals mg) (f_word_of:Fn P w K mg base 1 "word_of" aD) (f_part_of:Fn P w K mg base 2 "part_of" av) (f_day_of:Fn P w K mg base 3 "day_of" aP) (f_in_order:Fn P w K mg base 8 "in_order" dP) (f_by_office:Fn P w K mg base 1 "by_office" dr) (f_counts:Fn P w K mg base 10 "counts" iu) (f_new_claim:Fn P w K mg base 3 "new_claim" cO) (f_after_choice:Fn P w K mg base 4 "after_choice" dA) (f_after_death:Fn P w K mg base 8 "after_death" eu):Fn P w K mg base 11 "claims" gp :=
 F.fn (k:=10) KX G qI (λ_ _ _ _ _ _ us hl=>match us,hl with|[_,_],_=>rfl) λf cdv A outer s H E hr =>
  have hu:=bR hr
  have nd:=qI.nd
  (show JSs _ _ uu from
   (ao (aI (i:=2) nd (b9 ag))
   (ao (CD (i:=3) nd)
   (ao (rg PassesOwn.never rfl (da (am f_in_order (hr.mono (by decide)) (aa (ab 0) (aa (ab 1) ag)))) (bj (i:=4) nd rfl (Or.inl rfl)) dz (ao (aI (i:=5) nd (aC (ab 0) (ab 4)))
   (ao (bz (la (dm (am f_counts (hr.mono (by decide)) (aa (ab 0) (aa (ab 1) (aa (ab 2) (aa (ab 4) ag))))))) (az Cv) bg)
   (az (bz (aN (bY hu) (am f_word_of (hr.mono (by decide)) (aa (ab 5) ag)) a8) (az (aI (i:=2) nd (aw bc (ab 2) (b9 (aa (am f_new_claim (hr.mono (by decide)) (aa (ab 5) (aa (am f_day_of (hr.mono (by decide)) (aa (ab 5) ag)) (aa (ab 4) ag)))) ag))))) (az (bz (aN (bY hu) (am f_word_of (hr.mono (by decide)) (aa (ab 5) ag)) a8) (az (aI (i:=2) nd (am f_after_choice (hr.mono (by decide)) (aa (ab 2) (aa (ab 5) (aa (ab 4) ag)))))) (az (bz (aN (bY hu) (am f_word_of (hr.mono (by decide)) (aa (ab 5) ag)) a8) (az (CF (i:=3) (hu1 hu) (am f_part_of (hr.mono (by decide)) (aa (ab 5) (aa a8 ag))) (aa (am f_part_of (hr.mono (by decide)) (aa (ab 5) (aa a8 ag))) (aa (am f_part_of (hr.mono (by decide)) (aa (ab 5) (aa a8 ag))) ag)))) (az (aI (i:=2) nd (am f_after_death (hr.mono (by decide)) (aa (ab 0) (aa (ab 1) (aa (ab 2) (aa (ab 3) (aa (ab 4) ag)))))))))))))))))
   (az (aH (ui T.n_sorted (ab 2) (xM f_by_office (hr.in1.in1.mono (by decide)) rfl))))))))
abbrev j9:Stmt:=top 39
theorem mh:FnScope ["book","known","number"] ["book","known","number"] (ay j9):=by refine⟨rfl,rfl,rfl, ?_,rfl, ?_, ?_⟩<;>decide +kernel
theorem vi (T:Tx K w.params mg) (F:Def K "is_paper" j9) (KX:K.In h) (G:h.Ns mainGlobals mg) (f_word_of:Fn P w K mg base 1 "word_of" aD) (f_is_known:Fn P w K mg base 1 "is_known" cn):Fn P w K mg base 2 "is_paper" gL :=
 F.fn (k:=1) KX G mh (λ_ _ _ _ _ _ us hl=>match us,hl with|[_,_,_],_=>rfl) λf cdv A outer s H E hr =>
  have hu:=bR hr
  have nd:=mh.nd
  (show JSs _ _ nM from
   (az (aH (fR (am f_is_known (hr.mono (by decide)) (aa (ab 0) (aa (ab 1) (aa (ab 2) ag)))) (eY (cG xy (am f_word_of (hr.mono (by decide)) (aa (aC (ab 0) (ab 2)) ag)) (t6 T.k_PAPERS)))))))
abbrev jA:Stmt:=top 40
theorem ml:FnScope ["book","known","number"] ["book","known","number"] (ay jA):=by refine⟨rfl,rfl,rfl, ?_,rfl, ?_, ?_⟩<;>decide +kernel
theorem vj (T:Tx K w.params mg) (F:Def K "is_leave" jA) (KX:K.In h) (G:h.Ns mainGlobals mg) (f_word_of:Fn P w K mg base 1 "word_of" aD) (f_is_known:Fn P w K mg base 1 "is_known" cn):Fn P w K mg base 2 "is_leave" gM :=
 F.fn (k:=1) KX G ml (λ_ _ _ _ _ _ us hl=>match us,hl with|[_,_,_],_=>rfl) λf cdv A outer s H E hr =>
  have hu:=bR hr
  have nd:=ml.nd
  (show JSs _ _ nN from
   (az (aH (fR (am f_is_known (hr.mono (by decide)) (aa (ab 0) (aa (ab 1) (aa (ab 2) ag)))) (eY (cG (bY hu) (am f_word_of (hr.mono (by decide)) (aa (aC (ab 0) (ab 2)) ag)) a8))))))
abbrev jB:Stmt:=top 41
theorem mm:FnScope ["book","known","number"] ["book","known","number"] (ay jB):=by refine⟨rfl,rfl,rfl, ?_,rfl, ?_, ?_⟩<;>decide +kernel
theorem vk (T:Tx K w.params mg) (F:Def K "is_borne" jB) (KX:K.In h) (G:h.Ns mainGlobals mg) (f_is_paper:Fn P w K mg base 2 "is_paper" gL) (f_is_leave:Fn P w K mg base 2 "is_leave" gM):Fn P w K mg base 3 "is_borne" gN :=
 F.fn (k:=2) KX G mm (λ_ _ _ _ _ _ us hl=>match us,hl with|[_,_,_],_=>rfl) λf cdv A outer s H E hr =>
  have hu:=bR hr
  have nd:=mm.nd
  (show JSs _ _ nO from
   (az (aH (Dw (am f_is_leave (hr.mono (by decide)) (aa (ab 0) (aa (ab 1) (aa (ab 2) ag)))) (eY (am f_is_paper (hr.mono (by decide)) (aa (ab 0) (aa (ab 1) (aa (ab 2) ag)))))))))
abbrev oP:Stmt:=top 2
theorem qJ:FnScope ["matters","some"] ["matters","some"] (ay oP):=by refine⟨rfl,rfl,rfl, ?_,rfl, ?_, ?_⟩<;>decide +kernel
theorem zv (T:Tx K w.params mg) (F:Def K "covers" oP) (KX:K.In h) (G:h.Ns mainGlobals mg)  : Fn P w K mg base 1 "covers" gq :=
 F.fn (k:=0) KX G qJ (λ_ _ _ _ _ _ us hl=>match us,hl with|[_,_],_=>rfl) λf cdv A outer s H E hr =>
  have hu:=bR hr
  have nd:=qJ.nd
  (show JSs _ _ nQ from
   (az (aH (cG (bY hu) (aw Ae (ab 0) (ab 1)) (ab 1)))))
abbrev jC:Stmt:=top 42
theorem mn:FnScope ["book","known","claimed","call","number","row","caller","over"] ["book","known","claimed","call","number"] (ay jC):=by refine⟨rfl,rfl,rfl, ?_,rfl, ?_, ?_⟩<;>decide +kernel
theorem vn (T:Tx K w.params mg) (F:Def K "may_call" jC) (KX:K.In h) (G:h.Ns mainGlobals mg) (f_covers:Fn P w K mg base 1 "covers" gq) (f_word_of:Fn P w K mg base 1 "word_of" aD) (f_part_of:Fn P w K mg base 2 "part_of" av) (f_day_of:Fn P w K mg base 3 "day_of" aP) (f_roots:Fn P w K mg base 3 "roots" di) (f_is_held_by:Fn P w K mg base 7 "is_held_by" cf):Fn P w K mg base 8 "may_call" gO :=
 F.fn (k:=7) KX G mn (λ_ _ _ _ _ _ us hl=>match us,hl with|[_,_,_,_,_],_=>rfl) λf cdv A outer s H E hr =>
  have hu:=bR hr
  have nd:=mn.nd
  (show JSs _ _ nR from
   (ao (aI (i:=5) nd (aC (ab 0) (ab 4)))
   (ao (aI (i:=6) nd (am f_part_of (hr.mono (by decide)) (aa (aC (ab 0) (ab 3)) (aa a8 ag))))
   (ao (bz (aN (bY hu) (ab 6) (am f_part_of (hr.mono (by decide)) (aa (ab 5) (aa a8 ag)))) (az (aH fG)) bg)
   (ao (bz (aN (bY hu) (am f_word_of (hr.mono (by decide)) (aa (ab 5) ag)) a8) (az (aH fG)) bg)
   (ao (iL (i:=7) rfl nd rfl rfl rfl (nT:=1) (cap:=[5]) (N':=["root","row"]) (cZ (by decide +kernel) rfl (by decide +kernel) rfl) (.cons rfl rfl (Or.inl rfl) (Or.inl rfl) (bq (by decide +kernel) rfl) (.nil rfl)) (CJ (am f_roots (hr.mono (by decide)) (aa (ab 0) (aa (ab 1) ag)))) (λ_ _ _ _=>(bj (i:=0) (show List.Nodup (α:=Str) ["root","row"] by decide +kernel) rfl (Or.inl rfl))) (bW (by decide)) (λ_ _ _ _=>(fP (dm (am f_covers (hr.mono (by decide)) (aa (am f_part_of (hr.mono (by decide)) (aa (ab 0) (aa a8 ag))) (aa (am f_part_of (hr.mono (by decide)) (aa (ab 1) (aa a8 ag))) ag)))))) (λ_ _ _ _=>(ab 0)))
   (az (aH (b8 GG T.n_any GH (aa (dY rfl (nT:=1) (cap:=[2,6,0,3]) (N':=["root","claimed","caller","book","call"]) (cZ (by decide +kernel) rfl (by decide +kernel) rfl) (.cons rfl rfl (Or.inl rfl) (Or.inl rfl) (bq (by decide +kernel) rfl) (.cons rfl rfl (Or.inl rfl) (Or.inl rfl) (bq (by decide +kernel) rfl) (.cons rfl rfl (Or.inl rfl) (Or.inl rfl) (bq (by decide +kernel) rfl) (.cons rfl rfl (Or.inl rfl) (Or.inl rfl) (bq (by decide +kernel) rfl) (.nil rfl))))) (da (ab 7)) (λ_ _ _ _=>(bj (i:=0) (show List.Nodup (α:=Str) ["root","claimed","caller","book","call"] by decide +kernel) rfl (Or.inl rfl))) (bW (by decide)) (λ_ _ _ _=>kY) (λ_ _ _ _=>(am f_is_held_by (hr.mono (by decide)) (aa (ab 1) (aa (ab 0) (aa (ab 2) (aa (am f_day_of (hr.mono (by decide)) (aa (aC (ab 3) (ab 4)) ag)) ag))))))) ag))))))))))
abbrev jD:Stmt:=top 43
theorem mo:FnScope ["book","known","claimed","call","number","day","row"] ["book","known","claimed","call","number","day"] (ay jD):=by refine⟨rfl,rfl,rfl, ?_,rfl, ?_, ?_⟩<;>decide +kernel
theorem vp (T:Tx K w.params mg) (F:Def K "calls_in" jD) (KX:K.In h) (G:h.Ns mainGlobals mg) (f_word_of:Fn P w K mg base 1 "word_of" aD) (f_part_of:Fn P w K mg base 2 "part_of" av) (f_day_of:Fn P w K mg base 3 "day_of" aP) (f_is_sound:Fn P w K mg base 9 "is_sound" cq) (f_may_call:Fn P w K mg base 8 "may_call" gO):Fn P w K mg base 10 "calls_in" fw :=
 F.fn (k:=9) KX G mo (λ_ _ _ _ _ _ us hl=>match us,hl with|[_,_,_,_,_,_],_=>rfl) λf cdv A outer s H E hr =>
  have hu:=bR hr
  have nd:=mo.nd
  (show JSs _ _ nS from
   (ao (aI (i:=6) nd (aC (ab 0) (ab 3)))
   (ao (bz (jQ (jP (aN (Cn hu) (am f_word_of (hr.mono (by decide)) (aa (ab 6) ag)) a8) (jP (aN (Cn hu) (am f_part_of (hr.mono (by decide)) (aa (ab 6) (aa a8 ag))) (ab 4)) (jm (aN Af (am f_day_of (hr.mono (by decide)) (aa (ab 6) ag)) (ab 5)))))) (az (aH fG)) bg)
   (az (aH (fR (am f_is_sound (hr.mono (by decide)) (aa (ab 0) (aa (ab 1) (aa (ab 3) ag)))) (eY (am f_may_call (hr.mono (by decide)) (aa (ab 0) (aa (ab 1) (aa (ab 2) (aa (ab 3) (aa (ab 4) ag)))))))))))))
abbrev jE:Stmt:=top 44
theorem mq:FnScope ["book","known","claimed","number","day"] ["book","known","claimed","number","day"] (ay jE):=by refine⟨rfl,rfl,rfl, ?_,rfl, ?_, ?_⟩<;>decide +kernel
theorem vq (T:Tx K w.params mg) (F:Def K "calls_by" jE) (KX:K.In h) (G:h.Ns mainGlobals mg) (f_heard:Fn P w K mg base 1 "heard" bT) (f_is_borne:Fn P w K mg base 3 "is_borne" gN) (f_calls_in:Fn P w K mg base 10 "calls_in" fw):Fn P w K mg base 11 "calls_by" gP :=
 F.fn (k:=10) KX G mq (λ_ _ _ _ _ _ us hl=>match us,hl with|[_,_,_,_,_],_=>rfl) λf cdv A outer s H E hr =>
  have hu:=bR hr
  have nd:=mq.nd
  (show JSs _ _ nU from
   (ao (bz (la (dm (am f_is_borne (hr.mono (by decide)) (aa (ab 0) (aa (ab 1) (aa (ab 3) ag)))))) (az (aH (b9 ag))) bg)
   (az (aH (dY rfl (nT:=1) (cap:=[0,1,2,3,4]) (N':=["call","book","known","claimed","number","day"]) (cZ (by decide +kernel) rfl (by decide +kernel) rfl) (.cons rfl rfl (Or.inl rfl) (Or.inl rfl) (bq (by decide +kernel) rfl) (.cons rfl rfl (Or.inl rfl) (Or.inl rfl) (bq (by decide +kernel) rfl) (.cons rfl rfl (Or.inl rfl) (Or.inl rfl) (bq (by decide +kernel) rfl) (.cons rfl rfl (Or.inl rfl) (Or.inl rfl) (bq (by decide +kernel) rfl) (.cons rfl rfl (Or.inl rfl) (Or.inl rfl) (bq (by decide +kernel) rfl) (.nil rfl)))))) (da (am f_heard (hr.mono (by decide)) (aa (ab 0) (aa (ab 1) ag)))) (λ_ _ _ _=>(bj (i:=0) (show List.Nodup (α:=Str) ["call","book","known","claimed","number","day"] by decide +kernel) rfl (Or.inl rfl))) (bW (by decide)) (λ_ _ _ _=>(fP (dm (am f_calls_in (hr.mono (by decide)) (aa (ab 1) (aa (ab 2) (aa (ab 3) (aa (ab 0) (aa (ab 4) (aa (ab 5) ag)))))))))) (λ_ _ _ _=>(ab 0)))))))
abbrev sv:Stmt:=top 45
theorem vt:FnScope ["book","known","number","day"] ["book","known","number","day"] (ay sv):=by refine⟨rfl,rfl,rfl, ?_,rfl, ?_, ?_⟩<;>decide +kernel
theorem B5 (T:Tx K w.params mg) (F:Def K "calls" sv) (KX:K.In h) (G:h.Ns mainGlobals mg) (f_claims:Fn P w K mg base 11 "claims" gp) (f_calls_by:Fn P w K mg base 11 "calls_by" gP):Fn P w K mg base 12 "calls" kj :=
 F.fn (k:=11) KX G vt (λ_ _ _ _ _ _ us hl=>match us,hl with|[_,_,_,_],_=>rfl) λf cdv A outer s H E hr =>
  have hu:=bR hr
  have nd:=vt.nd
  (show JSs _ _ ya from
   (az (aH (am f_calls_by (hr.mono (by decide)) (aa (ab 0) (aa (ab 1) (aa (am f_claims (hr.mono (by decide)) (aa (ab 0) (aa (ab 1) ag))) (aa (ab 2) (aa (ab 3) ag)))))))))
abbrev oQ:Stmt:=top 47
theorem qK:FnScope ["_law_script","_law_k","_law_cell_here"] ["_law_script","_law_k"] (ay oQ):=by refine⟨rfl,rfl,rfl, ?_,rfl, ?_, ?_⟩<;>decide +kernel
theorem zw (T:Tx K w.params mg) (F:Def K "_law_cell" oQ) (KX:K.In h) (G:h.Ns mainGlobals mg)  : Fn P w K mg base 1 "_law_cell" bQ :=
 F.fn (k:=0) KX G qK (λ_ _ _ _ _ _ us hl=>match us,hl with|[_,_],_=>rfl) λf cdv A outer s H E hr =>
  have hu:=bR hr
  have nd:=qK.nd
  (show JSs _ _ uw from
   (ao (aI (i:=2) nd ai)
   (ao (bz (aN Af (b8 gW T.n_len gX (aa (ab 0) ag)) ai) (az (aI (i:=2) nd (aC (ab 0) (aw b7 (ab 1) (b8 gW T.n_len gX (aa (ab 0) ag)))))) bg)
   (ao (aI (i:=2) nd (aw b7 (aw cx (aw bc (aw bc (aw b7 (ab 2) ai) (aw cx ai (ab 1))) ai) ai) ai))
   (az (aH (aw b7 (aw cx (ab 2) (aw bc (aw bc (aw b7 (ab 2) ai) (ab 1)) ai)) ai)))))))
abbrev lF:Stmt:=top 48
theorem oR:FnScope ["_law_cell_here","_law_letters","_law_base","_law_at","_law_names_here","_law_k","_law_name"] ["_law_cell_here"] (ay lF):=by refine⟨rfl,rfl,rfl, ?_,rfl, ?_, ?_⟩<;>decide +kernel
theorem wS (T:Tx K w.params mg) (F:Def K "_law_names" lF) (KX:K.In h) (G:h.Ns mainGlobals mg)  : Fn P w K mg base 1 "_law_names" iV :=
 F.fn (k:=0) KX G oR (λ_ _ _ _ _ _ us hl=>match us,hl with|[_],_=>rfl) λf cdv A outer s H E hr =>
  have hu:=bR hr
  have nd:=oR.nd
  (show JSs _ _ qu from
   (ao (aI (i:=1) nd a8)
   (ao (iL (i:=2) rfl nd rfl rfl rfl (nT:=1) (cap:=[1,0]) (N':=["_law_k","_law_letters","_law_cell_here"]) (cZ (by decide +kernel) rfl (by decide +kernel) rfl) (.cons rfl rfl (Or.inl rfl) (Or.inl rfl) (bq (by decide +kernel) rfl) (.cons rfl rfl (Or.inl rfl) (Or.inl rfl) (bq (by decide +kernel) rfl) (.nil rfl))) (t9 T.n_range (aw bc ai (aw b7 (ab 0) ai))) (λ_ _ _ _=>(bj (i:=0) (show List.Nodup (α:=Str) ["_law_k","_law_letters","_law_cell_here"] by decide +kernel) rfl (Or.inl rfl))) (bW (by decide)) (λ_ _ _ _=>kY) (λ_ _ _ _=>(aC (ab 1) (aw b7 (aw bA (ab 2) (aw bc ai (aw cx ai (ab 0)))) ai))))
   (ao (aI (i:=3) nd (aw b7 (aw bA (ab 0) ai) (b8 gW T.n_len gX (aa (ab 2) ag))))
   (ao (aI (i:=4) nd (b9 ag))
   (ao (iM PassesOwn.never rfl (fj T.n_range ai) (bj (i:=5) nd rfl (Or.inl rfl)) dz (ao (aI (i:=6) nd (dI Av T.n_list vX (aa (ab 2) ag)))
   (ao (Ay (i:=6) (aC (ab 1) (aw b7 (aw bc (aw bA (ab 0) ai) (aw cx ai (ab 5))) ai)) (ab 3))
   (az (eN (i:=4) (Fe PySem.F.slot_str_join PySem.F.type_str_join Fg As a8 (ab 6)))))))
   (ao (bz (aN (bY hu) (aw b7 (aw bA (ab 0) ai) ai) ai) (az (Ay (i:=4) (aC (ab 4) ai) ai)) bg)
   (az (m9 4)))))))))
abbrev iH:Stmt:=top 49
theorem kR:FnScope ["_law_cell_here","_law_day","_law_measure","_law_some"] ["_law_cell_here","_law_day","_law_measure"] (ay iH):=by refine⟨rfl,rfl,rfl, ?_,rfl, ?_, ?_⟩<;>decide +kernel
theorem sw (T:Tx K w.params mg) (F:Def K "_law_stretch" iH) (KX:K.In h) (G:h.Ns mainGlobals mg)  : Fn P w K mg base 1 "_law_stretch" du :=
 F.fn (k:=0) KX G kR (λ_ _ _ _ _ _ us hl=>match us,hl with|[_,_,_],_=>rfl) λf cdv A outer s H E hr =>
  have hu:=bR hr
  have nd:=kR.nd
  (show JSs _ _ lR from
   (ao (aI (i:=3) nd (b9 (aa (aU (bM (aa eM ag))) (aa (aU (aa (ab 1) (aa eM ag))) (aa (aU (aa (ab 1) (aa (aw bc (ab 1) (aw cx ai (ab 2))) ag))) (aa (aU (bM (aa (aw bc (ab 1) (aw cx ai (ab 2))) ag))) (aa (aU (bM (aa (aw cx ai (ab 2)) ag))) ag)))))))
   (ao (aI (i:=3) nd (aw bc (ab 3) (b9 (aa (aU (aa (aw bc (ab 1) (ab 2)) (aa (aw bc (ab 1) (aw cx ai (ab 2))) ag))) (aa (aU (aa (aw bA (ab 1) ai) (aa (aw bc (ab 1) (aw cx ai (ab 2))) ag))) (aa (aU (bM (aa eM ag))) ag))))))
   (az (aH (aC (ab 3) (aw b7 (ab 0) ai)))))))
abbrev oS:Stmt:=top 50
theorem qL:FnScope ["_law_many","_law_cell_here","_law_other","_law_names_here","_law_day","_law_had","_law_measure","_law_kinds","_law_word","_law_by","_law_person","_law_of","_law_matters","_law_further","_law_start"] ["_law_many","_law_cell_here","_law_other","_law_names_here","_law_day","_law_had","_law_measure"] (ay oS):=by refine⟨rfl,rfl,rfl, ?_,rfl, ?_, ?_⟩<;>decide +kernel
theorem zx (T:Tx K w.params mg) (F:Def K "_law_deed" oS) (KX:K.In h) (G:h.Ns mainGlobals mg) (f_w_stretch:Fn P w K mg base 1 "_law_stretch" du):Fn P w K mg base 2 "_law_deed" km :=
 F.fn (k:=1) KX G qL (λ_ _ _ _ _ _ us hl=>match us,hl with|[_,_,_,_,_,_,_],_=>rfl) λf cdv A outer s H E hr =>
  have hu:=bR hr
  have nd:=qL.nd
  (show JSs _ _ ux from
   (ao (aI (i:=7) nd (aw bc (aw bc (aw bc (wz (b9 (aa a8 ag)) ai) (wz (b9 (aa a8 ag)) ai)) (b9 (aa a8 (aa a8 ag)))) (wz (b9 (aa a8 ag)) ai)))
   (ao (aI (i:=7) nd (aw bc (ab 7) (b9 (aa a8 (aa a8 (aa a8 (aa a8 ag)))))))
   (ao (aI (i:=8) nd (aC (ab 7) (aw b7 (ab 1) ai)))
   (ao (aI (i:=9) nd (aC (ab 5) (aw Ad (G1 G7 ai) (aw b7 (aw bA (ab 1) ai) (b8 GB T.n_min G9 (bM (aa (b8 gW T.n_len gX (aa (ab 5) ag)) ag)))))))
   (ao (bz (aN (bY hu) (aw b7 (aw bA (ab 1) ai) ai) ai) (az (aI (i:=9) nd (aC (ab 3) (aw b7 (aw bA (ab 1) ai) ai)))) bg)
   (ao (aI (i:=10) nd (aC (ab 3) (aw b7 (aw bA (ab 1) ai) ai)))
   (ao (aI (i:=11) nd (b8 GA T.n_max G8 (bM (aa (aw Ad (aw Ad (ab 0) ai) (aw b7 (ab 2) ai)) ag))))
   (ao (bz (aN (bY hu) (aw b7 (aw bA (ab 2) ai) ai) ai) (az (aI (i:=11) nd (aw b7 (aw bA (ab 2) ai) ai))) bg)
   (ao (bz (aN (bY hu) (ab 8) a8) (ao (aI (i:=12) nd (by refine aC (hs:=?_) ?_ ?_;refine b9 ?_;refine bM ?_;refine bM ?_;refine bM ?_;refine bM ?_;refine bM ?_;refine bM ?_;refine bM ?_;refine bM ?_;exact ag;exact(aw b7 (aw bA (ab 1) ai) ai);intro _ _;rfl))
   (ao (aI (i:=13) nd (aw b7 (aw bA (ab 2) ai) (aC (b9 (bM (bM (bM (bM ag))))) (aw b7 (aw bA (ab 2) ai) ai))))
   (az (aH (aU (aa (ab 8) (aa (ab 4) (aa (ab 9) (aa (ab 10) (aa (ab 12) (aa (am f_w_stretch (hr.mono (by decide)) (aa (aw bA (ab 2) ai) (aa (ab 4) (aa (ab 6) ag)))) (aa (ab 13) ag)))))))))))) bg)
   (ao (bz (jQ (jP (aN (bY hu) (ab 8) a8) (jm (aN (bY hu) (ab 8) a8)))) (ao (aI (i:=12) nd (by refine aC (hs:=?_) ?_ ?_;refine b9 ?_;refine bM ?_;refine bM ?_;refine bM ?_;refine bM ?_;refine bM ?_;refine bM ?_;refine bM ?_;refine bM ?_;exact ag;exact(aw b7 (aw bA (ab 1) ai) ai);intro _ _;rfl))
   (ao (aI (i:=14) nd (aU (aa (ab 8) (aa (ab 4) (aa (ab 9) (aa (ab 12) (aa (am f_w_stretch (hr.mono (by decide)) (aa (aw bA (ab 2) ai) (aa (ab 4) (aa (ab 6) ag)))) (aa (aC (b9 (aa eM (aa (ab 10) ag))) (aw b7 (aw bA (ab 2) ai) ai)) ag))))))))
   (ao (bz (aN (bY hu) (ab 8) a8) (az (aH (aw AJ (ab 14) (aU (aa (ab 11) (aa (aU (aa (aU (bM (aa (ab 10) ag))) ag)) ag)))))) bg)
   (az (aH (aw AJ (ab 14) (aU (aa (aU (aa (ab 10) ag)) ag)))))))) bg)
   (ao (bz (aN xy (ab 8) (aU (aa a8 (aa a8 ag)))) (az (aH (aU (aa (ab 8) (aa (ab 4) (aa (ab 9) (aa (ab 11) ag))))))) bg)
   (ao (bz (aN (bY hu) (ab 8) a8) (az (aH (aU (aa (ab 8) (aa (ab 4) (aa (aC (ab 3) (aw bc ai (aw b7 (ab 2) ai))) (aa (ab 10) ag))))))) bg)
   (ao (bz (aN (bY hu) (ab 8) a8) (az (aH (aU (aa (ab 8) (aa (ab 4) (aa (ab 9) (aa (aC (ab 3) (aw bc ai (aw b7 (ab 2) ai))) (aa (ab 10) (aa (aw bc (ab 4) (aw cx (aw b7 (aw bA (ab 2) ai) ai) (ab 6))) ag))))))))) bg)
   (ao (bz (aN (bY hu) (ab 8) a8) (az (aH (aU (aa (ab 8) (aa (ab 4) (aa (ab 9) (aa (aC (ab 3) (aw bc ai (aw b7 (ab 2) ai))) (aa (ab 10) ag)))))))) bg)
   (az (aH (aU (aa (ab 8) (aa (ab 4) (aa (ab 9) ag)))))))))))))))))))))
abbrev oU:Stmt:=top 51
theorem qM:FnScope ["_law_script","_law_names_here","_law_measure","_law_most","_law_head","_law_rows_here","_law_had","_law_k","_law_rule","_law_matters","_law_late","_law_further","_law_cell_here","_law_day","_law_deed_here"] ["_law_script","_law_names_here","_law_measure","_law_most"] (ay oU):=by refine⟨rfl,rfl,rfl, ?_,rfl, ?_, ?_⟩<;>decide +kernel
theorem zy (T:Tx K w.params mg) (F:Def K "_law_rows" oU) (KX:K.In h) (G:h.Ns mainGlobals mg) (f_w_cell:Fn P w K mg base 1 "_law_cell" bQ) (f_w_deed:Fn P w K mg base 2 "_law_deed" km):Fn P w K mg base 3 "_law_rows" kn :=
 F.fn (k:=2) KX G qM (λ_ _ _ _ _ _ us hl=>match us,hl with|[_,_,_,_],_=>rfl) λf cdv A outer s H E hr =>
  have hu:=bR hr
  have nd:=qM.nd
  (show JSs _ _ uy from
   (ao (aI (i:=4) nd (am f_w_cell (hr.mono (by decide)) (aa (ab 0) (bM ag))))
   (ao (aI (i:=5) nd (b9 ag))
   (ao (aI (i:=6) nd (b9 ag))
   (ao (iM PassesOwn.never rfl (fj T.n_range (aw bc ai (aw b7 (ab 4) ai))) (bj (i:=7) nd rfl (Or.inl rfl)) dz (ao (aI (i:=8) nd (aC (b9 (aa a8 (aa a8 (aa a8 ag)))) (aw b7 (aw bA (ab 4) (aw bc ai (aw cx ai (ab 7)))) ai)))
   (ao (aI (i:=9) nd (aC (b9 (bM (bM (bM (bM ag))))) (aw b7 (aw bA (ab 4) (aw bc ai (aw cx ai (ab 7)))) ai)))
   (ao (aI (i:=10) nd (aw cx (aw cx (dI DK T.n_int Al (aa (cG (bY hu) (aw b7 (aw bA (ab 4) (aw bc ai (ab 7))) ai) ai) ag)) ai) (ab 2)))
   (ao (aI (i:=11) nd (aw b7 (aw bA (ab 4) (aw bc ai (aw cx ai (ab 7)))) (aC (b9 (bM (bM (bM ag)))) (aw b7 (aw bA (ab 4) (aw bc ai (ab 7))) ai))))
   (ao (eN (i:=5) (aU (aa (ab 10) (aa (aU (aa a8 (aa (aC (ab 1) (aw bc ai (ab 7))) (aa (ab 9) (aa (ab 11) (aa (ab 8) ag)))))) ag))))
   (ao (eN (i:=5) (aU (bM (aa (aU (aa a8 (bM (aa (aC (ab 1) (aw bc ai (ab 7))) (aa (aC (ab 1) (ab 7)) ag))))) ag))))
   (az (eN (i:=6) (aC (ab 1) (ab 7)))))))))))
   (ao (iM PassesOwn.never rfl (fj T.n_range (aw bc ai (aw b7 (am f_w_cell (hr.mono (by decide)) (aa (ab 0) (bM ag))) (ab 3)))) (bj (i:=7) nd rfl (Or.inl rfl)) dz (ao (aI (i:=12) nd (am f_w_cell (hr.mono (by decide)) (aa (ab 0) (aa (aw bc ai (ab 7)) ag))))
   (ao (aI (i:=13) nd (aw cx (aw bc (aw bA (ab 7) ai) (aw b7 (aw bA (ab 12) ai) ai)) (ab 2)))
   (ao (aI (i:=14) nd (am f_w_deed (hr.mono (by decide)) (aa (b8 gW T.n_len gX (aa (ab 5) ag)) (aa (am f_w_cell (hr.mono (by decide)) (aa (ab 0) (aa (aw bc ai (ab 7)) ag))) (aa (am f_w_cell (hr.mono (by decide)) (aa (ab 0) (aa (aw bc ai (ab 7)) ag))) (aa (ab 1) (aa (ab 13) (aa (ab 6) (aa (ab 2) ag)))))))))
   (ao (bz (aN xy (aC (ab 14) ai) (aU (aa a8 (aa a8 ag)))) (az (eN (i:=6) (aC (ab 14) ai))) bg)
   (ao (bz (aN (bY hu) (aC (ab 14) ai) a8) (az (eN (i:=6) (aC (ab 14) ai))) bg)
   (az (eN (i:=5) (aU (aa (aw bc (ab 13) (aw cx (by refine aC (hs:=?_) ?_ ?_;refine b9 ?_;refine bM ?_;refine bM ?_;refine bM ?_;refine bM ?_;refine bM ?_;refine bM ?_;exact ag;exact(aw b7 (aw bA (ab 12) ai) ai);intro _ _;rfl) (ab 2))) (aa (ab 14) ag)))))))))))
   (az (aH (dI xC T.n_tuple xz (aa (ab 5) ag))))))))))
abbrev oV:Stmt:=top 36
theorem qN:FnScope ["book","known","office","day","root"] ["book","known","office","day"] (ay oV):=by refine⟨rfl,rfl,rfl, ?_,rfl, ?_, ?_⟩<;>decide +kernel
theorem z4 (T:Tx K w.params mg) (F:Def K "holder" oV) (KX:K.In h) (G:h.Ns mainGlobals mg) (f_roots:Fn P w K mg base 3 "roots" di) (f_holder_by:Fn P w K mg base 6 "holder_by" c7) (f_claims:Fn P w K mg base 11 "claims" gp):Fn P w K mg base 12 "holder" gs :=
 F.fn (k:=11) KX G qN (λ_ _ _ _ _ _ us hl=>match us,hl with|[_,_,_,_],_=>rfl) λf cdv A outer s H E hr =>
  have hu:=bR hr
  have nd:=qN.nd
  (show JSs _ _ uz from
   (ao (aI (i:=4) nd (ul (hu1 hu) (am f_roots (hr.mono (by decide)) (aa (ab 0) (aa (ab 1) ag))) (ab 2) ⟨rfl,rfl,rfl,rfl⟩))
   (ao (bz (aN EY (ab 4) eM) (az (aH (aU (aa a8 ag)))) bg)
   (az (aH (am f_holder_by (hr.mono (by decide)) (aa (am f_claims (hr.mono (by decide)) (aa (ab 0) (aa (ab 1) ag))) (aa (ab 4) (aa (ab 3) ag)))))))))
abbrev jF:Stmt:=top 52
theorem mr:FnScope ["_law_matters","_law_some"] ["_law_matters","_law_some"] (ay jF):=by refine⟨rfl,rfl,rfl, ?_,rfl, ?_, ?_⟩<;>decide +kernel
theorem vv (T:Tx K w.params mg) (F:Def K "_law_within" jF) (KX:K.In h) (G:h.Ns mainGlobals mg)  : Fn P w K mg base 1 "_law_within" dQ :=
 F.fn (k:=0) KX G mr (λ_ _ _ _ _ _ us hl=>match us,hl with|[_,_],_=>rfl) λf cdv A outer s H E hr =>
  have hu:=bR hr
  have nd:=mr.nd
  (show JSs _ _ nV from
   (az (aH (b8 DH T.n_all DG (aa (dY rfl (nT:=1) (cap:=[0,1]) (N':=["_law_bit","_law_matters","_law_some"]) (cZ (by decide +kernel) rfl (by decide +kernel) rfl) (.cons rfl rfl (Or.inl rfl) (Or.inl rfl) (bq (by decide +kernel) rfl) (.cons rfl rfl (Or.inl rfl) (Or.inl rfl) (bq (by decide +kernel) rfl) (.nil rfl))) (t9 T.n_range ai) (λ_ _ _ _=>(bj (i:=0) (show List.Nodup (α:=Str) ["_law_bit","_law_matters","_law_some"] by decide +kernel) rfl (Or.inl rfl))) (bW (by decide)) (λ_ _ _ _=>(fP (aN (bY hu) (aw Ae (aw Dx (ab 2) (ab 0)) ai) ai))) (λ_ _ _ _=>(cG (bY hu) (aw Ae (aw Dx (ab 1) (ab 0)) ai) ai))) ag)))))
abbrev sx:Stmt:=top 53
theorem vw:FnScope ["_law_rows_here","_law_known","_law_call","_law_deed_here","_law_there","_law_root"] ["_law_rows_here","_law_known","_law_call","_law_deed_here"] (ay sx):=by refine⟨rfl,rfl,rfl, ?_,rfl, ?_, ?_⟩<;>decide +kernel
theorem B6 (T:Tx K w.params mg) (F:Def K "_law_may" sx) (KX:K.In h) (G:h.Ns mainGlobals mg) (f_holder:Fn P w K mg base 12 "holder" gs) (f_w_within:Fn P w K mg base 1 "_law_within" dQ):Fn P w K mg base 13 "_law_may" iW :=
 F.fn (k:=12) KX G vw (λ_ _ _ _ _ _ us hl=>match us,hl with|[_,_,_,_],_=>rfl) λf cdv A outer s H E hr =>
  have hu:=bR hr
  have nd:=vw.nd
  (show JSs _ _ yc from
   (ao (bz (aN (bY hu) (aC (ab 2) ai) (aC (ab 3) ai)) (az (aH fG)) bg)
   (ao (bz (aN (bY hu) (aC (ab 3) ai) a8) (az (aH fG)) bg)
   (ao (rg PassesOwn.never rfl (da (ab 0)) (z7 rfl (fX (bj (i:=4) nd rfl (Or.inl rfl)) (fX (bj (i:=5) nd rfl (Or.inl rfl)) qP))) GK (az (bz (jQ (fQ (aN lJ (ab 4) (ab 1)) (fQ (aN (bY hu) (aC (ab 5) ai) a8) (g9 (dm (am f_w_within (hr.mono (by decide)) (aa (aC (ab 5) ai) (aa (aC (ab 3) (aw bc ai (dI DK T.n_int Al (aa (cG (bY hu) (aC (ab 3) ai) a8) ag)))) ag)))))))) (az (bz (aN (bY hu) (tG (am f_holder (hr.mono (by decide)) (aa (ab 0) (aa (ab 1) (aa (aC (ab 5) ai) (aa (aC (ab 2) ai) ag))))) xo (xp ai)) (aU (aa a8 (aa (aC (ab 2) ai) ag)))) (az (aH fG)) bg)) bg)))
   (az (aH fG))))))
abbrev sy:Stmt:=top 54
theorem vx:FnScope ["_law_rows_here","_law_known","_law_number","_law_day","_law_there","_law_deed_here","_law_found","_law_k","_law_call"] ["_law_rows_here","_law_known","_law_number","_law_day"] (ay sy):=by refine⟨rfl,rfl,rfl, ?_,rfl, ?_, ?_⟩<;>decide +kernel
theorem B7 (T:Tx K w.params mg) (F:Def K "_law_due" sy) (KX:K.In h) (G:h.Ns mainGlobals mg) (f_is_sound:Fn P w K mg base 9 "is_sound" cq) (f_w_may:Fn P w K mg base 13 "_law_may" iW):Fn P w K mg base 14 "_law_due" mD :=
 F.fn (k:=13) KX G vx (λ_ _ _ _ _ _ us hl=>match us,hl with|[_,_,_,_],_=>rfl) λf cdv A outer s H E hr =>
  have hu:=bR hr
  have nd:=vx.nd
  (show JSs _ _ ye from
   (ao (Cw (is:=[4,5]) (aC (ab 0) (ab 2)) (Fi rfl (fX (bj (i:=4) nd rfl (Or.inl rfl)) (fX (bj (i:=5) nd rfl (Or.inl rfl)) qP))))
   (ao (bz (jQ (jP (aN Af (ab 4) (ab 1)) (jm (aN jR (aC (ab 5) ai) (aU (aa a8 (aa a8 (aa a8 (aa a8 ag))))))))) (az (aH (b9 ag))) bg)
   (ao (aI (i:=6) nd (b9 ag))
   (ao (iM PassesOwn.never rfl (fj T.n_range (b8 gW T.n_len gX (aa (ab 0) ag))) (bj (i:=7) nd rfl (Or.inl rfl)) dz (ao (aI (i:=8) nd (aC (aC (ab 0) (ab 7)) ai))
   (az (bz (jQ (fQ (aN lJ (aC (aC (ab 0) (ab 7)) ai) (ab 1)) (fQ (aN (bY hu) (aC (ab 8) ai) a8) (fQ (aN (bY hu) (aC (ab 8) ai) (ab 2)) (g9 (aN lJ (aC (ab 8) ai) (ab 3))))))) (az (bz (jQ (fQ (dm (am f_is_sound (hr.mono (by decide)) (aa (ab 0) (aa (ab 1) (aa (ab 7) ag))))) (g9 (dm (am f_w_may (hr.mono (by decide)) (aa (ab 0) (aa (ab 1) (aa (ab 8) (aa (ab 5) ag))))))))) (az (eN (i:=6) (ab 7))) bg)) bg))))
   (az (m9 6)))))))
abbrev vy:Stmt:=top 55
theorem B8:FnScope ["_law_script","_law_names_here","_law_measure","_law_rows_here","_law_known","_law_handed","_law_number","_law_day","_law_due_here","_law_turn","_law_found"] ["_law_script"] (ay vy):=by refine⟨rfl,rfl,rfl, ?_,rfl, ?_, ?_⟩<;>decide +kernel
theorem Fz {P:Program}{w:World}{K:PySem.W.Frag}{mg:Str->Option Value}{base:Heap}(T:Tx K w.params mg) (f_calls:Fn P w K mg base 12 "calls" kj) (f_w_cell:Fn P w K mg base 1 "_law_cell" bQ) (f_w_names:Fn P w K mg base 1 "_law_names" iV) (f_w_rows:Fn P w K mg base 3 "_law_rows" kn) (f_w_due:Fn P w K mg base 14 "_law_due" mD) (f:Addr) (cdv:Value) (A:Around) (outer:List PySem.Env) (s:Shared) (H:Hp) (E:XK) (hr:Room 14 (A.deeper (envOfC "law" (ay vy) s.heap.objs.size f cdv))):JSs (mH CX0 P w K mg base ["_law_script","_law_names_here","_law_measure","_law_rows_here","_law_known","_law_handed","_law_number","_law_day","_law_due_here","_law_turn","_law_found"] "law" (ay vy) f cdv A outer s H E).nox (cI vy) AX :=
  have hu:=bR hr
  have nd:=B8.nd
  (show JSs _ _ AX from
   (ao (aI (i:=1) nd (am f_w_names (hr.mono (by decide)) (aa (am f_w_cell (hr.mono (by decide)) (aa (ab 0) (bM ag))) ag)))
   (ao (aI (i:=2) nd (aC (b9 (bM (bM (bM ag)))) (aw b7 (am f_w_cell (hr.mono (by decide)) (aa (ab 0) (bM ag))) ai)))
   (ao (aI (i:=3) nd (am f_w_rows (hr.mono (by decide)) (aa (ab 0) (aa (ab 1) (aa (ab 2) (bM ag))))))
   (ao (aI (i:=4) nd (aC (b9 (bM (aa (aw cx (aw b7 (aw bA (am f_w_cell (hr.mono (by decide)) (aa (ab 0) (bM ag))) ai) ai) (ab 2)) ag))) (aw bA (aw b7 (am f_w_cell (hr.mono (by decide)) (aa (ab 0) (bM ag))) ai) ai)))
   (ao (aI (i:=5) nd (dI xC T.n_tuple xz (aa (dI Av T.n_list vX (aa (ab 3) ag)) ag)))
   (ao (iM PassesOwn.never rfl (fj T.n_range (b8 gW T.n_len gX (aa (ab 3) ag))) (bj (i:=6) nd rfl (Or.inl rfl)) dz (ao (aI (i:=7) nd (aC (b9 (bM (aa (aw cx (aw b7 (aw bA (am f_w_cell (hr.mono (by decide)) (aa (ab 0) (aa (aw bc ai (ab 6)) ag))) ai) ai) (ab 2)) ag))) (aw b7 (am f_w_cell (hr.mono (by decide)) (aa (ab 0) (aa (aw bc ai (ab 6)) ag))) ai)))
   (ao (aI (i:=8) nd (am f_w_due (hr.mono (by decide)) (aa (ab 3) (aa (ab 4) (aa (ab 6) (aa (ab 7) ag))))))
   (az (iM PassesOwn.never rfl (fj T.n_range ai) (bj (i:=9) nd rfl (Or.inl rfl)) dz (ao (aI (i:=10) nd (am f_calls (hr.mono (by decide)) (aa (ab 5) (aa (ab 4) (aa (ab 6) (aa (ab 7) ag))))))
   (ao (bz (jQ (jP (la (dm (b8 gB T.n_isinstance gA (aa (ab 10) (aa (Ah T.n_list vX) ag))))) (jm (aN (Cn hu) (ab 10) (ab 8))))) (az (aH fG)) bg)
   (ao (bz (la (dm (b8 DH T.n_all DG (aa (dY rfl (nT:=1) (cap:=[]) (N':=["_law_one"]) (cZ (by decide +kernel) rfl (by decide +kernel) rfl) (.nil rfl) (da (ab 10)) (λ_ _ _ _=>(bj (i:=0) (show List.Nodup (α:=Str) ["_law_one"] by decide +kernel) rfl (Or.inl rfl))) (bW (by decide)) (λ_ _ _ _=>kY) (λ_ _ _ _=>(fR (b8 gB T.n_isinstance gA (aa (ab 0) (aa (Ah T.n_int Al) ag))) (eY (EJ (b8 gB T.n_isinstance gA (aa (ab 0) (aa (Ah T.n_bool EZ) ag)))))))) ag)))) (az (aH fG)) bg)
   (az (eN (i:=10) ai))))))))))
   (az (aH (cG (bY hu) (ab 5) (ab 3)))))))))))
end
theorem head {P:Program}{w:World}{K:PySem.W.Frag}{h:Heap}{mg:Str->Option Value}{fa:Addr}(X:K.In h) (G:h.Ns mainGlobals mg) (hfa:mg "law" = some (.ref fa))
  (d_word_of:Def K "word_of" lB) (d_part_of:Def K "part_of" lC) (d_day_of:Def K "day_of" oG) (d_heard:Def K "heard" sd) (d_rank:Def K "rank" wP) (d_in_order:Def K "in_order" j0) (d_by_office:Def K "by_office" iC) (d_roots:Def K "roots" sf) (d_is_known:Def K "is_known" j3) (d_tells:Def K "tells" sg) (d_told_of:Def K "told_of" lD) (d_lives:Def K "lives" si) (d_has_seal:Def K "has_seal" j4) (d_is_sound:Def K "is_sound" j5) (d_lies_in:Def K "lies_in" lE) (d_is_alive:Def K "is_alive" j6) (d_by_since:Def K "by_since" j7) (d_chief_of:Def K "chief_of" j8) (d_holder_by:Def K "holder_by" iD) (d_is_held_by:Def K "is_held_by" gT) (d_is_first_death:Def K "is_first_death" dX) (d_counts:Def K "counts" oK) (d_new_claim:Def K "new_claim" iE) (d_ended:Def K "ended" sn) (d_after_choice:Def K "after_choice" f8) (d_inherited:Def K "inherited" iF) (d_after_death:Def K "after_death" fW) (d_claims:Def K "claims" oN) (d_is_paper:Def K "is_paper" j9) (d_is_leave:Def K "is_leave" jA) (d_is_borne:Def K "is_borne" jB) (d_covers:Def K "covers" oP) (d_may_call:Def K "may_call" jC) (d_calls_in:Def K "calls_in" jD) (d_calls_by:Def K "calls_by" jE) (d_calls:Def K "calls" sv) (d_w_cell:Def K "_law_cell" oQ) (d_w_names:Def K "_law_names" lF) (d_w_stretch:Def K "_law_stretch" iH) (d_w_deed:Def K "_law_deed" oS) (d_w_rows:Def K "_law_rows" oU) (d_holder:Def K "holder" oV) (d_w_within:Def K "_law_within" jF) (d_w_may:Def K "_law_may" sx) (d_w_due:Def K "_law_due" sy) (d_law:Def K "law" vy)
  (z_all:PySem.W.nsIn K mainGlobals "all" = some none) (z_any:PySem.W.nsIn K mainGlobals "any" = some none) (z_bool:PySem.W.nsIn K mainGlobals "bool" = some none) (z_dict:PySem.W.nsIn K mainGlobals "dict" = some none) (z_enumerate:PySem.W.nsIn K mainGlobals "enumerate" = some none) (z_int:PySem.W.nsIn K mainGlobals "int" = some none) (z_isinstance:PySem.W.nsIn K mainGlobals "isinstance" = some none) (z_len:PySem.W.nsIn K mainGlobals "len" = some none) (z_list:PySem.W.nsIn K mainGlobals "list" = some none) (z_max:PySem.W.nsIn K mainGlobals "max" = some none) (z_min:PySem.W.nsIn K mainGlobals "min" = some none) (z_range:PySem.W.nsIn K mainGlobals "range" = some none) (z_set:PySem.W.nsIn K mainGlobals "set" = some none) (z_sorted:PySem.W.nsIn K mainGlobals "sorted" = some none) (z_tuple:PySem.W.nsIn K mainGlobals "tuple" = some none)
  (k_PAPERS:∃u v,PySem.W.nsIn K mainGlobals "PAPERS" = some (some u)/\aT v u/\∀B,Is K B v nB) (k_PARTS:∃d,PySem.W.nsIn K mainGlobals "PARTS" = some (some (.ref d))/\pQ K w.params d eQ) (k_SEALINGS:∃u v,PySem.W.nsIn K mainGlobals "SEALINGS" = some (some u)/\aT v u/\∀B,Is K B v dO)
  (l_in_order:rK K "in_order") (l_has_seal:rK K "has_seal") (l_is_first_death:rK K "is_first_death") :
  ∃fd:FuncData,(∀(s:Shared) (u:Value),BindsTo s fd ⟨[u],[]⟩ [("_law_script",u)])/\∀base:Heap,K.In base->base.Ns mainGlobals mg->FnOk P w K mg base CX0 15 fa fd ["_law_script"] (spD K F_law):=by
 have T:Tx K w.params mg:=⟨PySem.W.mg_none_of X G z_all,PySem.W.mg_none_of X G z_any,PySem.W.mg_none_of X G z_bool,PySem.W.mg_none_of X G z_dict,PySem.W.mg_none_of X G z_enumerate,PySem.W.mg_none_of X G z_int,PySem.W.mg_none_of X G z_isinstance,PySem.W.mg_none_of X G z_len,PySem.W.mg_none_of X G z_list,PySem.W.mg_none_of X G z_max,PySem.W.mg_none_of X G z_min,PySem.W.mg_none_of X G z_range,PySem.W.mg_none_of X G z_set,PySem.W.mg_none_of X G z_sorted,PySem.W.mg_none_of X G z_tuple,(let ⟨u,v,e,r⟩:=k_PAPERS;⟨u,v,PySem.W.mg_of X G e,r⟩),(let ⟨d,e,r⟩:=k_PARTS;⟨d,PySem.W.mg_of X G e,r⟩),(let ⟨u,v,e,r⟩:=k_SEALINGS;⟨u,v,PySem.W.mg_of X G e,r⟩)⟩
 refine Def.law d_law X G hfa B8 (λ_ _ _ _ _ _ u=>rfl) λbase kb nb=>?_
 have f_word_of:=wN (P:=P) (w:=w) (base:=base) T d_word_of X G 
 have f_part_of:=wO (P:=P) (w:=w) (base:=base) T d_part_of X G f_word_of
 have f_day_of:=zp (P:=P) (w:=w) (base:=base) T d_day_of X G f_word_of f_part_of
 have f_heard:=By (P:=P) (w:=w) (base:=base) T d_heard X G 
 have f_rank:=Dj (P:=P) (w:=w) (base:=base) T d_rank X G f_day_of
 have f_in_order:=uT (P:=P) (w:=w) (base:=base) T d_in_order X G f_day_of f_heard f_rank l_in_order
 have f_by_office:=se (P:=P) (w:=w) (base:=base) T d_by_office X G 
 have f_roots:=Bz (P:=P) (w:=w) (base:=base) T d_roots X G f_word_of f_part_of f_heard
 have f_is_known:=uV (P:=P) (w:=w) (base:=base) T d_is_known X G 
 have f_tells:=B1 (P:=P) (w:=w) (base:=base) T d_tells X G f_word_of f_part_of f_day_of
 have f_told_of:=wQ (P:=P) (w:=w) (base:=base) T d_told_of X G f_heard f_tells
 have f_lives:=B3 (P:=P) (w:=w) (base:=base) T d_lives X G f_told_of
 have f_has_seal:=uY (P:=P) (w:=w) (base:=base) T d_has_seal X G f_word_of f_rank f_told_of l_has_seal
 have f_is_sound:=uZ (P:=P) (w:=w) (base:=base) T d_is_sound X G f_word_of f_part_of f_day_of f_is_known f_lives f_has_seal
 have f_lies_in:=wR (P:=P) (w:=w) (base:=base) T d_lies_in X G 
 have f_is_alive:=vc (P:=P) (w:=w) (base:=base) T d_is_alive X G f_lies_in
 have f_by_since:=ve (P:=P) (w:=w) (base:=base) T d_by_since X G 
 have f_chief_of:=vg (P:=P) (w:=w) (base:=base) T d_chief_of X G f_by_since
 have f_holder_by:=sj (P:=P) (w:=w) (base:=base) T d_holder_by X G f_part_of f_is_alive f_by_since f_chief_of
 have f_is_held_by:=p5 (P:=P) (w:=w) (base:=base) T d_is_held_by X G f_holder_by
 have f_is_first_death:=kO (P:=P) (w:=w) (base:=base) T d_is_first_death X G f_part_of f_day_of f_rank f_told_of l_is_first_death
 have f_counts:=zq (P:=P) (w:=w) (base:=base) T d_counts X G f_word_of f_part_of f_day_of f_roots f_is_sound f_is_held_by f_is_first_death
 have f_new_claim:=sk (P:=P) (w:=w) (base:=base) T d_new_claim X G f_part_of
 have f_ended:=B4 (P:=P) (w:=w) (base:=base) T d_ended X G f_is_alive
 have f_after_choice:=m7 (P:=P) (w:=w) (base:=base) T d_after_choice X G f_part_of f_new_claim f_ended
 have f_inherited:=su (P:=P) (w:=w) (base:=base) T d_inherited X G f_part_of f_day_of f_lives f_is_alive
 have f_after_death:=oM (P:=P) (w:=w) (base:=base) T d_after_death X G f_part_of f_day_of f_ended f_inherited
 have f_claims:=zu (P:=P) (w:=w) (base:=base) T d_claims X G f_word_of f_part_of f_day_of f_in_order f_by_office f_counts f_new_claim f_after_choice f_after_death
 have f_is_paper:=vi (P:=P) (w:=w) (base:=base) T d_is_paper X G f_word_of f_is_known
 have f_is_leave:=vj (P:=P) (w:=w) (base:=base) T d_is_leave X G f_word_of f_is_known
 have f_is_borne:=vk (P:=P) (w:=w) (base:=base) T d_is_borne X G f_is_paper f_is_leave
 have f_covers:=zv (P:=P) (w:=w) (base:=base) T d_covers X G 
 have f_may_call:=vn (P:=P) (w:=w) (base:=base) T d_may_call X G f_covers f_word_of f_part_of f_day_of f_roots f_is_held_by
 have f_calls_in:=vp (P:=P) (w:=w) (base:=base) T d_calls_in X G f_word_of f_part_of f_day_of f_is_sound f_may_call
 have f_calls_by:=vq (P:=P) (w:=w) (base:=base) T d_calls_by X G f_heard f_is_borne f_calls_in
 have f_calls:=B5 (P:=P) (w:=w) (base:=base) T d_calls X G f_claims f_calls_by
 have f_w_cell:=zw (P:=P) (w:=w) (base:=base) T d_w_cell X G 
 have f_w_names:=wS (P:=P) (w:=w) (base:=base) T d_w_names X G 
 have f_w_stretch:=sw (P:=P) (w:=w) (base:=base) T d_w_stretch X G 
 have f_w_deed:=zx (P:=P) (w:=w) (base:=base) T d_w_deed X G f_w_stretch
 have f_w_rows:=zy (P:=P) (w:=w) (base:=base) T d_w_rows X G f_w_cell f_w_deed
 have f_holder:=z4 (P:=P) (w:=w) (base:=base) T d_holder X G f_roots f_holder_by f_claims
 have f_w_within:=vv (P:=P) (w:=w) (base:=base) T d_w_within X G 
 have f_w_may:=B6 (P:=P) (w:=w) (base:=base) T d_w_may X G f_holder f_w_within
 have f_w_due:=B7 (P:=P) (w:=w) (base:=base) T d_w_due X G f_is_sound f_w_may
 exact Fz T f_calls f_w_cell f_w_names f_w_rows f_w_due
end Lw
namespace PySem.W.Fast
def tw10414182274940661949:=()
def tw17108522091488482969:=()
def tw6732385640697873944:=()
def tw14705728397465743236:=()
def tw18182974230251219597:=()
def tw9937014892747579570:=()
def tw9949138392559571527:=()
def tw12356285481644488725:=()
def tw5158071500900131552:=()
def tw1073845558039589208:=()
def tw6072013967074928612:=()
def tw14529597613996705842:=()
def tw3035307188593032763:=()
def tw1942423471269387610:=()
def tw17836586500067631992:=()
def tw13672858552291264891:=()
def tw3477806820836999969:=()
def tw917256937981695804:=()
def tw9852092174085972832:=()
def tw7344768206814603289:=()
def tw9461129143710350972:=()
def tw14972393930471688526:=()
def tw2880777628592555996:=()
def tw14188031622534479263:=()
def tw6353076339021470030:=()
def tw16458552879014817564:=()
def tw6580846237797194962:=()
def tw6138312072681502191:=()
def tw7525167061086720105:=()
def tw18126174135304167417:=()
def tw4204470205912831131:=()
def tw13366726949302687831:=()
def tw14579505548647695526:=()
def tw17657286774530358566:=()
def tw3947635898164179777:=()
def tw15019170977660344694:=()
def tw16761975705764659456:=()
def tw15141462403118909516:=()
def tw1167609576906181411:=()
def tw8586352780925923043:=()
def tw6904754164604046421:=()
def tw912455143930933357:=()
def tw14511674761228756439:=()
def tw5890949970865456771:=()
def tw14558767544809633803:=()
def tw11195305652593739398:=()
def tw14732271661205951383:=()
def tw1401490981543904587:=()
def tw13708798988850601098:=()
def tw5482107644266229209:=()
def tw17233404736497569392:=()
def tw11480320221175393188:=()
def tw7034315131472748546:=()
def tw7016305217083513675:=()
def tw14404512431008619771:=()
def tw2662285733007584054:=()
def tw13937284759125954402:=()
def tw10345864128403226842:=()
def tw9312915776779142586:=()
def tw15076108997880692432:=()
def tw4690237610992296725:=()
def tw2675995008911719607:=()
def tw6586238334994821167:=()
def tw15039877646517958513:=()
def tw78857437464248275:=()
def tw12202542455101832929:=()
def tw8430907699171966634:=()
def tw18390828431448233404:=()
def tw11337821257851735839:=()
def tw4620778949656044689:=()
def tw16173866274211045912:=()
def tw15973920268341077465:=()
def tw2986846271943069890:=()
def tw9481915613810931123:=()
def tw16416713702903971069:=()
def tw2356805055631403369:=()
def tw7602960996620521098:=()
def tw2896313128699140987:=()
def tw8374130735364843355:=()
def tw2824044925956303094:=()
def tw12729648095381100377:=()
def tw10366640245999563016:=()
def tw12221114563898694949:=()
def tw17922343270517605690:=()
def tw11590128705330707062:=()
def tw18026813124157962046:=()
def tw6966059178157262507:=()
def tw3552590249830829242:=()
def tw13743535373150692635:=()
def tw7524187007615448873:=()
def tw254521681016320909:=()
def tw18353672358394904804:=()
def tw5435335219276385422:=()
def tw4879755371146784188:=()
def tw15587158055160150273:=()
def tw9932512920262865545:=()
def tw2046049619359882001:=()
def tw11118739285041599350:=()
def tw10331360305903572414:=()
end PySem.W.Fast
open PySem PySem.W PyProof.Rows
set_option maxRecDepth 100000 in
set_option maxHeartbeats 0 in
theorem PySem.Challenge.cw_sealchain_k27_called_in_holds : PySem.Challenge.rw_sealchain_k27_called_in.Holds := by
 w_on; o_law; k_head; (case hw => w_witness2)
 k_fill
 refine' DL.walkD (l := PySem.Challenge.rw_sealchain_k27_called_in) (k := 15) (x := ("_law_script" : PySem.Str)) (f := Lw.F_law) (L := [(("in_order" : PySem.Str), ?t0), (("has_seal" : PySem.Str), ?t1), (("is_first_death" : PySem.Str), ?t2), (("bases_by" : PySem.Str), ?t3)]) rfl rfl ⟨rfl, by decide, by decide⟩ (fun w h Y => PySem.W.km_in_of Y) ?T ?D ?F Lw.law_true
 case T =>
  intro w
  refine' DL.tabs_fit ?h0 ?h1 ?h2 ?h3 ?ap ?nt
  (case h0 => refine' DL.tab_yes ?a ?l ?c ?m ?v; (case a => k_is); (case l => k_is); (case c => exact rfl); (case m => k_is); (case v => exact rfl))
  (case h1 => refine' DL.tab_yes ?a ?l ?c ?m ?v; (case a => k_is); (case l => k_is); (case c => exact rfl); (case m => k_is); (case v => exact rfl))
  (case h2 => refine' DL.tab_yes ?a ?l ?c ?m ?v; (case a => k_is); (case l => k_is); (case c => exact rfl); (case m => k_is); (case v => exact rfl))
  (case h3 => refine' DL.tab_no ?a; (case a => k_is))
  (case ap => decide)
  (case nt => kernel_rfl)
 case D => kernel_rfl
 case F =>
  intro w mg fa h KX G hmg
  refine' Lw.head KX G hmg ?d0 ?d1 ?d2 ?d3 ?d4 ?d5 ?d6 ?d7 ?d8 ?d9 ?d10 ?d11 ?d12 ?d13 ?d14 ?d15 ?d16 ?d17 ?d18 ?d19 ?d20 ?d21 ?d22 ?d23 ?d24 ?d25 ?d26 ?d27 ?d28 ?d29 ?d30 ?d31 ?d32 ?d33 ?d34 ?d35 ?d36 ?d37 ?d38 ?d39 ?d40 ?d41 ?d42 ?d43 ?d44 ?d45 ?z0 ?z1 ?z2 ?z3 ?z4 ?z5 ?z6 ?z7 ?z8 ?z9 ?z10 ?z11 ?z12 ?z13 ?z14 ?k0 ?k1 ?k2 ?q0 ?q1 ?q2
  iterate 46 (refine' DL.def_mk ?a ?l ?c ?k; (case a => k_is); (case l => k_is); (case c => k_is); (case k => k_is))
  (case z0 => k_is)
  (case z1 => k_is)
  (case z2 => k_is)
  (case z3 => k_is)
  (case z4 => k_is)
  (case z5 => k_is)
  (case z6 => k_is)
  (case z7 => k_is)
  (case z8 => k_is)
  (case z9 => k_is)
  (case z10 => k_is)
  (case z11 => k_is)
  (case z12 => k_is)
  (case z13 => k_is)
  (case z14 => k_is)
  (case k0 => refine' DL.const_tup ?e ?l ?v; (case e => k_is); (case l => k_is); (case v => decide +kernel))
  (case k1 => refine' DL.const_dict ?e ?l ?r ?s; (case e => k_is); (case l => k_is); (case r => refine' (DL.CRows.tup rfl ?l0 ?f0 (DL.CRows.tup rfl ?l1 ?f1 (DL.CRows.tup rfl ?l2 ?f2 (DL.CRows.tup rfl ?l3 ?f3 (DL.CRows.tup rfl ?l4 ?f4 (DL.CRows.tup rfl ?l5 ?f5 (DL.CRows.tup rfl ?l6 ?f6 (DL.CRows.tup rfl ?l7 ?f7 (DL.CRows.tup rfl ?l8 ?f8 (DL.CRows.tup rfl ?l9 ?f9 (DL.CRows.tup rfl ?l10 ?f10 (DL.CRows.tup rfl ?l11 ?f11 DL.CRows.nil)))))))))))); (case l0 => k_is); (case f0 => decide +kernel); (case l1 => k_is); (case f1 => decide +kernel); (case l2 => k_is); (case f2 => decide +kernel); (case l3 => k_is); (case f3 => decide +kernel); (case l4 => k_is); (case f4 => decide +kernel); (case l5 => k_is); (case f5 => decide +kernel); (case l6 => k_is); (case f6 => decide +kernel); (case l7 => k_is); (case f7 => decide +kernel); (case l8 => k_is); (case f8 => decide +kernel); (case l9 => k_is); (case f9 => decide +kernel); (case l10 => k_is); (case f10 => decide +kernel); (case l11 => k_is); (case f11 => decide +kernel)); (case s => decide +kernel))
  (case k2 => refine' DL.const_tup ?e ?l ?v; (case e => k_is); (case l => k_is); (case v => decide +kernel))
  (case q0 => refine' DL.lam_mk ?a ?l ?c ?m ?v1 ?v2 ?v3 ?v4 ?v5 ?v6 ?v7; (case a => k_is); (case l => k_is); (case c => exact rfl); (case m => k_is); (case v1 => exact rfl); (case v2 => exact rfl); (case v3 => exact rfl); (case v4 => exact rfl); (case v5 => exact rfl); (case v6 => exact rfl); (case v7 => decide))
  (case q1 => refine' DL.lam_mk ?a ?l ?c ?m ?v1 ?v2 ?v3 ?v4 ?v5 ?v6 ?v7; (case a => k_is); (case l => k_is); (case c => exact rfl); (case m => k_is); (case v1 => exact rfl); (case v2 => exact rfl); (case v3 => exact rfl); (case v4 => exact rfl); (case v5 => exact rfl); (case v6 => exact rfl); (case v7 => decide))
  (case q2 => refine' DL.lam_mk ?a ?l ?c ?m ?v1 ?v2 ?v3 ?v4 ?v5 ?v6 ?v7; (case a => k_is); (case l => k_is); (case c => exact rfl); (case m => k_is); (case v1 => exact rfl); (case v2 => exact rfl); (case v3 => exact rfl); (case v4 => exact rfl); (case v5 => exact rfl); (case v6 => exact rfl); (case v7 => decide))

