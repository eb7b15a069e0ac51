import PyProof.Rows.All
import Wide.All
import OpenK.AllK
import Wide.FinOn
import Lean
import PyProof.EqAt
import PyProof.EqKinds
import PyProof.TupleCall
import PyProof.AttrMissHeap
import PySem.Challenge.RW_sealchain_k25_offices_that_bear
set_option Elab.async false
set_option linter.all false
set_option maxRecDepth 100000
set_option bootstrap.genMatcherCode false
set_option maxHeartbeats 40000000
theorem mY {α:Type _}{a:α}(l:List α){k:List α}(h:a∈k):a∈l++k:=List.mem_append_right l h
theorem mZ {α:Type _}(b:α){a:α}{l:List α}(h:a∈l):a∈b::l:=List.mem_cons_of_mem b h
theorem mX {α:Type _}{a:α}{l:List α}:a∈a::l:=List.mem_cons_self
theorem oX {α β:Type _}{o:Option α}{f:α->Option β}{b:β}(h:o.bind f=some b):∃a,o=some a/\f a=some b:=Option.bind_eq_some_iff.mp h
theorem oY {α β:Type _}{f:α->β}{o:Option α}{b:β}(h:o.map f=some b):∃a,o=some a/\f a=b:=Option.map_eq_some_iff.mp h
def wX:=@PySem.wpAny_bind
def wY:=@PySem.wpAny_pure
namespace L2
open PySem PySem.Spec PyProof.Rows
abbrev Key:=Sum Int Str
noncomputable def oG:Key->Value->Bool
 |.inl k,v=>Value.isInt k v
 |.inr x,v=>Value.isStrOf x v
noncomputable def Hv (w:World):Key->Int
 |.inl k=>hashInt k
 |.inr x=>hashStr w x
theorem bZ:∀ {k:Key}{v:Value},oG k v=true->(∃i t,k=Sum.inl i/\v=Value.int i t)∨(∃x t,k=Sum.inr x/\v=Value.str x t)
 |.inl i,v,h=>by
  obtain⟨t,e⟩:=Value.isInt_shape (k:=i) (v:=v) h;exact .inl ⟨i,t,rfl,e⟩
 |.inr x,v,h=>by
  obtain⟨t,e⟩:=Value.isStrOf_shape (x:=x) (v:=v) h;exact .inr ⟨x,t,rfl,e⟩
theorem xW (i:Int)(t:Tok):oG (.inl i) (.int i t)=true:=by simp[oG,Value.isInt]
theorem xX (x:Str)(t:Tok):oG (.inr x) (.str x t)=true:=by simp[oG,Value.isStrOf]
theorem Ee (a b:Int):decide ((Sum.inl a:Key)=Sum.inl b)=(a == b):=by
 by_cases e:a=b
 ·subst e;simp
 ·have h:¬(Sum.inl a:Key)=Sum.inl b:=λq=>e (Sum.inl.inj q);rw[decide_eq_false h];exact(beq_eq_false_iff_ne.mpr e).symm
theorem Ef (a b:Str):decide ((Sum.inr a:Key)=Sum.inr b)=decide (a=b):=by
 by_cases e:a=b
 ·subst e;simp
 ·have h:¬(Sum.inr a:Key)=Sum.inr b:=λq=>e (Sum.inr.inj q);rw[decide_eq_false h,decide_eq_false e]
theorem Eg (a:Int)(b:Str):decide ((Sum.inl a:Key)=Sum.inr b)=false:=decide_eq_false (λq=>nomatch q)
theorem Eh (a:Str)(b:Int):decide ((Sum.inr a:Key)=Sum.inl b)=false:=decide_eq_false (λq=>nomatch q)
noncomputable def ce (prog:Program)(w:World):PySem.KeyKind prog w Key where
 is:=oG
 hash:=Hv w
 inj:=λv a b ha hb=>by
  rcases bZ ha with⟨i,t,rfl,rfl⟩|⟨x,t,rfl,rfl⟩
  ·rcases bZ hb with⟨j,u,rfl,e⟩|⟨y,u,rfl,e⟩
   ·injection e with e1 _;rw[e1]
   ·exact nomatch e
  ·rcases bZ hb with⟨j,u,rfl,e⟩|⟨y,u,rfl,e⟩
   ·exact nomatch e
   ·injection e with e1 _;rw[e1]
 byValue:=λk v h=>by
  rcases bZ h with⟨i,t,rfl,rfl⟩|⟨x,t,rfl,rfl⟩<;>rfl
 pyHash:=λhv h=>by
  rcases bZ hv with⟨i,t,rfl,rfl⟩|⟨x,t,rfl,rfl⟩
  ·exact wpAny_pyHash_int h
  ·exact wpAny_pyHash_str h
 eqBool:=λhu hv h=>by
  rcases bZ hu with⟨i,t,rfl,rfl⟩|⟨x,t,rfl,rfl⟩
  ·rcases bZ hv with⟨j,u,rfl,rfl⟩|⟨y,u,rfl,rfl⟩
   ·rw[Ee]at h;exact wpAny_eqBool_int h
   ·rw[Eg]at h;exact SeqAt.EqAt.int_str i t y u _ _ _ _ h
  ·rcases bZ hv with⟨j,u,rfl,rfl⟩|⟨y,u,rfl,rfl⟩
   ·rw[Eh]at h;exact SeqAt.EqAt.str_int x t j u _ _ _ _ h
   ·rw[Ef]at h;exact wpAny_eqBool_str h
 «strs»:=λk x t v h=>by
  rcases bZ h with⟨i,u,rfl,e⟩|⟨y,u,rfl,e⟩
  ·exact nomatch e
  ·injection e with e1 _;subst e1;cases v<;>rfl
theorem rK (prog:Program)(w:World)(i:Int)(t:Tok):(ce prog w).is (.inl i) (.int i t)=true:=xW i t
theorem rL (prog:Program)(w:World)(x:Str)(t:Tok):(ce prog w).is (.inr x) (.str x t)=true:=xX x t
inductive V where
 |non|bl (b:Bool)|int (i:Int)|str (x:Str)|byt (b:Array UInt8)|flt (b:UInt64)|ref (a:Addr)|ty (n:String)
 deriving DecidableEq
def aS:V->Value->Prop
 |.non,u=>u=Value.none
 |.bl b,u=>u=Value.bool b
 |.int i,u=>∃t,u=Value.int i t
 |.str x,u=>∃t,u=Value.str x t
 |.byt b,u=>∃t,u=Value.bytes b t
 |.flt b,u=>∃t,u=Value.float b t
 |.ref a,u=>u=Value.ref a
 |.ty n,u=>u=Value.type n
abbrev aQ:List V->List Value->Prop:=Paired aS
theorem aQ.length {xs:List V}{us:List Value}(r:aQ xs us):xs.length=us.length:=Paired.length r
theorem aQ.get:∀ {xs:List V}{us:List Value}{i:Nat}{x:V},aQ xs us->xs[i]? = some x->∃u,us[i]? = some u/\aS x u
 |_,_,_,_,.nil,e=>by simp at e
 |_,_,0,_,.cons r _,e=>by simp at e;subst e;exact⟨_,rfl,r⟩
 |_,_,i+1,x,.cons _ t,e=>by
  obtain⟨u,h1,h2⟩:=aQ.get (i:=i) (x:=x) t (by simpa using e);exact⟨u,by simpa using h1,h2⟩
theorem aQ.set {x:V}{u:Value}(r:aS x u):∀ {xs:List V}{us:List Value}(i:Nat),aQ xs us->aQ (xs.set i x) (us.set i u)
 |_,_,_,.nil=>.nil
 |_,_,0,.cons _ t=>.cons r t
 |_,_,i+1,.cons q t=>.cons q (aQ.set r i t)
theorem aQ.append:∀ {xs ys:List V}{us ws:List Value},aQ xs us->aQ ys ws->aQ (xs++ys) (us++ws)
 |_,_,_,_,.nil,s=>s
 |_,_,_,_,.cons r t,s=>.cons r (aQ.append t s)
theorem aQ.take:∀ {xs:List V}{us:List Value}(n:Nat),aQ xs us->aQ (xs.take n) (us.take n)
 |_,_,0,_=>.nil
 |_,_,_+1,.nil=>.nil
 |_,_,n+1,.cons r t=>.cons r (aQ.take n t)
theorem aQ.drop:∀ {xs:List V}{us:List Value}(n:Nat),aQ xs us->aQ (xs.drop n) (us.drop n)
 |_,_,0,r=>r
 |_,_,_+1,.nil=>.nil
 |_,_,n+1,.cons _ t=>aQ.drop n t
theorem aQ.none_of:∀ {xs:List V}{us:List Value}{i:Nat},aQ xs us->xs[i]? = none->us[i]? = none:=λ{xs us i} r e=>by
 have h1:=r.length;have h2:xs.length<=i:=List.getElem?_eq_none_iff.mp e;exact List.getElem?_eq_none_iff.mpr (by omega)
def lA:Option V->Option Value->Prop
 |some v,some u=>aS v u
 |none,none=>True
 |_,_=>False
def KV {κ:Type}:List (κ×V)->List (κ×Value)->Prop:=Paired λ(p:κ×V) (q:κ×Value)=>p.1=q.1/\aS p.2 q.2
noncomputable def kV:Key->V
 |.inl i=>.int i
 |.inr x=>.str x
inductive HO where
  |lst (xs:List V)
  |tup (xs:List V)
  |dK (kvs:List (Key×V)) (ob:Obj)|dT (kvs:List (List Key×V))
  |set (S:Int->Bool) (n:Nat)
  |ins (C dx:Addr) (fs:List (Str×V))
  |own (x:Addr)
  |xd (fs:List (Str×V))
  |met (f x:Addr)
  |rng (lo hi:Int)
  |frz (o:Obj) (u:HO)
  |tbl (q:Str)
  |ext (φ:Heap->Prop)
abbrev Hp:=Addr->Option HO
noncomputable def upd (H:Hp)(a:Addr)(o:HO):Hp:=λb=>if b=a then some o else H b
theorem aD {H:Hp}{a:Addr}{o:HO}:upd H a o a=some o:=by unfold upd;rw[if_pos rfl]
theorem aF {H:Hp}{a b:Addr}{o:HO}(h:b≠a):upd H a o b=H b:=by unfold upd;rw[if_neg h]
theorem BE {H:Hp}{a:Addr}{o u:HO}:upd (upd H a o) a u=upd H a u:=by
 funext b;unfold upd;split<;>rfl
theorem FV {H:Hp}{a b:Addr}{o u:HO}(h:H a=some o)(h':H b=some u)(d:o≠u):a≠b:=by
 intro e;subst e;rw[h]at h';exact d (Option.some.inj h')
theorem aR {H:Hp}{a b:Addr}{o:HO}(h:H a=some o)(h':H b=none):a≠b:=by
 intro e;subst e;rw[h]at h';cases h'
section
variable (P:Program) (w:World)
def b8 (H:Hp)(h:Heap)(a:Addr):HO->Prop
 |.lst xs=>xs.length<=sizeLine/\∃(its:List Value)(n:Nat),aQ xs its/\h.get? a=some { cls:=.type "list",data:=.seq its.toArray n }
 |.tup xs=>xs.length<=sizeLine/\∃its:List Value,aQ xs its/\IsTup h a its.toArray
 |.dK kvs ob=>h.get? a=some ob/\kvs.length<=sizeLine/\(a == sysModules)=false/\∃vs,KV kvs vs/\h.DictOf (ce P w) a vs
 |.dT kvs=>kvs.length<=sizeLine/\(a == sysModules)=false/\∃xs:List (List Key×Addr×Value),
   Paired (λ(p:List Key×V) (q:List Key×Addr×Value)=>p.1=q.1/\H q.2.1=some (.tup (p.1.map kV))/\aS p.2 q.2.2) kvs xs /\
   ∃o es ep,h.get? a=some o/\o.ExactDict/\o.data=.dict es ep/\es.toList=xs.map (entryOfKey (tupleKind (ce P w)))/\(xs.map (·.1)).Nodup
 |.set S n=>h.SetOf (intKind P w) a S n
 |.ins C dx fs=>H dx=some (.own a)/\fs.length<=1000/\dx≠a/\h.get? a=some (PySem.W.instObj C dx) /\
   ∃mA,h.Ns1 dx mA/\(∀f,lA (fs.lookup f) (mA f))/\PySem.Within mA (fs.map (·.1))
 |.own _=>∃o,h.get? a=some o
 |.xd fs=>∃mA,h.Ns1 a mA/\∀f,lA (fs.lookup f) (mA f)
 |.rng lo hi=>∃t u v,h.get? a=some { cls:=.type "range",data:=.fields #[.int lo t,.int hi u,.int 1 v] }
 |.frz o u=>h.get? a=some o/\b8 H h a u
 |.tbl q=>∃ps:Array Value,h.get? a=some { cls:=.none,data:=.fields ps }/\TriplesOk ps.toList/\∀pos cv,codeAmong pos ps.toList=some cv->∃(c:Addr)(oc:Obj)(u:HO)(vs:Array Value)(t:Tok),cv=.ref c/\H c=some (.frz oc u)/\oc.data=.fields vs/\vs[1]? = some (.str q t)
 |.met f x=>h.get? a=some (PySem.W.methodObj (.ref f) (.ref x))
 |.ext φ=>φ h/\(∃o,h.get? a=some o)/\∀h1 h2:Heap,φ h1->(∀o,h1.get? a=some o->h2.get? a=some o)->φ h2
def HOk (H:Hp)(h:Heap):Prop:=∀a o,H a=some o->b8 P w H h a o
end
section
variable {P:Program}{w:World}{H H':Hp}{h h':Heap}{a:Addr}{o:HO}
theorem b8.lt (x:b8 P w H h a o):a<h.objs.size:=by
 cases o with
 |lst xs=>obtain⟨_,_,_,_,e⟩:=x;exact Heap.lt_size e
 |tup xs=>obtain⟨_,_,_,p⟩:=x;exact p.lt
 |dK kvs ob=>exact Heap.lt_size (And.left x)
 |dT kvs=>obtain⟨_,_,_,_,o,_,_,e,_⟩:=x;exact Heap.lt_size e
 |set S n=>obtain⟨o,_,_,_,e,_⟩:=x;exact Heap.lt_size e
 |ins C dx fs=>obtain⟨_,_,_,e,_⟩:=x;exact Heap.lt_size e
 |own y=>obtain⟨_,e⟩:=x;exact Heap.lt_size e
 |xd fs=>obtain⟨_,⟨_,_,_,e,_⟩,_⟩:=x;exact Heap.lt_size e
 |rng lo hi=>obtain⟨_,_,_,e⟩:=x;exact Heap.lt_size e
 |frz ob u=>obtain⟨e,_⟩:=x;exact Heap.lt_size e
 |tbl q=>obtain⟨_,e,_⟩:=x;exact Heap.lt_size e
 |met f y=>exact Heap.lt_size (show h.get? a=some _ from x)
 |ext φ=>obtain⟨_,⟨_,e⟩,_⟩:=x;exact Heap.lt_size e
theorem Paired.mapP {α β:Type}{F G:α->β->Prop}:∀ {l₁:List α}{l₂:List β},Paired F l₁ l₂->(∀a b,F a b->G a b)->Paired G l₁ l₂
 |_,_,.nil,_=>.nil
 |_,_,.cons r t,f=>.cons (f _ _ r) (Paired.mapP t f)
theorem b8.stay (x:b8 P w H h a o)(k:∀b u,(b=a∨H b=some (.own a))->h.get? b=some u->h'.get? b=some u)
  (ho:∀b,H b=some (.own a)->H' b=some (.own a)) (ht:∀b xs,H b=some (.tup xs)->H' b=some (.tup xs)) (hf:∀b o u,H b=some (.frz o u)->H' b=some (.frz o u)):b8 P w H' h' a o:=by
 induction o with
 |lst xs=>obtain⟨z,its,n,r,e⟩:=x;exact⟨z,its,n,r,k _ _ (.inl rfl) e⟩
 |tup xs=>obtain⟨z,its,r,ob,e,c⟩:=x;exact⟨z,its,r,ob,k _ _ (.inl rfl) e,c⟩
 |dK kvs ob0=>obtain⟨g,z,y,vs,r,ob,es,ep,e,c⟩:=x;exact⟨k _ _ (.inl rfl) g,z,y,vs,r,ob,es,ep,k _ _ (.inl rfl) e,c⟩
 |dT kvs=>
  obtain⟨z,y,xs,r,ob,es,ep,e,c⟩:=x;exact⟨z,y,xs,Paired.mapP r λp q z=>⟨z.1,ht _ _ z.2.1,z.2.2⟩,ob,es,ep,k _ _ (.inl rfl) e,c⟩
 |set S n=>obtain⟨ob,es,ep,t,e,c⟩:=x;exact⟨ob,es,ep,t,k _ _ (.inl rfl) e,c⟩
 |ins C dx fs=>
  obtain⟨d,z,ne,e,mA,⟨od,es,ep,e2,c⟩,r⟩:=x;exact⟨ho _ d,z,ne,k _ _ (.inl rfl) e,mA,⟨od,es,ep,k _ _ (.inr d) e2,c⟩,r⟩
 |own y=>obtain⟨ob,e⟩:=x;exact⟨ob,k _ _ (.inl rfl) e⟩
 |xd fs=>obtain⟨mA,⟨od,es,ep,e,c⟩,r⟩:=x;exact⟨mA,⟨od,es,ep,k _ _ (.inl rfl) e,c⟩,r⟩
 |rng lo hi=>obtain⟨t,u,v,e⟩:=x;exact⟨t,u,v,k _ _ (.inl rfl) e⟩
 |frz ob u ih=>obtain⟨e,q⟩:=x;exact⟨k _ _ (.inl rfl) e,ih q⟩
 |tbl q=>obtain⟨ps,e,t,c⟩:=x;exact⟨ps,k a _ (.inl rfl) e,t,λpos cv z=>let ⟨d,oc,u,vs,tk,z1,z2,z3⟩:=c pos cv z;⟨d,oc,u,vs,tk,z1,hf _ _ _ z2,z3⟩⟩
 |met f y=>
  have e:h.get? a=some (PySem.W.methodObj (.ref f) (.ref y)):=x;show h'.get? a=some (PySem.W.methodObj (.ref f) (.ref y));exact k a _ (.inl rfl) e
 |ext φ=>obtain⟨p,⟨o,e⟩,st⟩:=x;exact⟨st _ _ p λo q=>k _ _ (.inl rfl) q,⟨o,k _ _ (.inl rfl) e⟩,st⟩
theorem HOk.lt (x:HOk P w H h)(e:H a=some o):a<h.objs.size:=(x a o e).lt
theorem HOk.fresh (x:HOk P w H h)(e:h.objs.size<=a):H a=none:=by
 cases q:H a with
 |none=>rfl
 |some u=>exact absurd (Nat.lt_of_lt_of_le (x.lt q) e) (Nat.lt_irrefl _)
theorem HOk.kept (x:HOk P w H h)(k:∀b u,h.get? b=some u->h'.get? b=some u):HOk P w H h':=λa o e=>
 (x a o e).stay (λb u _ q=>k b u q) (λ_ q=>q) (λ_ _ q=>q) λ_ _ _ q=>q
theorem HOk.laid (x:HOk P w H h)(k:∀b u,h.get? b=some u->h'.get? b=some u)(hp:h.objs.size<=a)(new:b8 P w (upd H a o) h' a o):HOk P w (upd H a o) h':=λb u e=>by
 have hn:=x.fresh hp;by_cases hb:b=a
 ·subst hb;rw[aD]at e;cases e;exact new
 ·rw[aF hb]at e;exact(x b u e).stay (λc v _ q=>k c v q) (λc q=>by rw[aF (aR q hn)];exact q) (λc xs q=>by rw[aF (aR q hn)];exact q) λc o xs q=>by rw[aF (aR q hn)];exact q
end
def Rd (H:Hp)(a:Addr)(u:HO):Prop:=H a=some u∨∃o,H a=some (.frz o u)
theorem Rd.of {H:Hp}{a:Addr}{u:HO}(h:H a=some u):Rd H a u:=.inl h
theorem Rd.ok {P:Program}{w:World}{H:Hp}{h:Heap}{a:Addr}{u:HO}(r:Rd H a u)(x:HOk P w H h):b8 P w H h a u:=by
 rcases r with r|⟨o,r⟩
 ·exact x a u r
 ·obtain⟨_,q⟩:=x a _ r;exact q
def Mut:Option HO->Prop
 |some (.lst _)=>True
 |some (.dK _ _)=>True
 |some (.dT _)=>True
 |some (.set _ _)=>True
 |some (.ins _ _ _)=>True
 |some (.ext _)=>True
 |_=>False
section
variable {P:Program}{w:World}{H:Hp}{h h':Heap}{x e:Addr}{o':HO}
theorem HOk.write (ok:HOk P w H h)(mu:Mut (H x))(he:e=x∨H e=some (.own x))(k:∀b u,b≠e->h.get? b=some u->h'.get? b=some u)(heo:∃u,h'.get? e=some u)
  (new:b8 P w (upd H x o') h' x o'):HOk P w (upd H x o') h':=λb u q=>by
 have nown:∀c y,H c=some (.own y)->c≠x:=λc y r z=>by subst z;rw[r]at mu;exact mu
 have ntup:∀c xs,H c=some (.tup xs)->c≠x:=λc xs r z=>by subst z;rw[r]at mu;exact mu
 by_cases hb:b=x
 ·subst hb;rw[aD]at q;cases q;exact new
 ·rw[aF hb]at q;by_cases hbe:b=e
  ·have q':H b=some (.own x):=by
    rcases he with z|z
    ·exact absurd (hbe.trans z) hb
    ·rw[hbe];exact z
   rw[q]at q';cases q';obtain⟨v,hv⟩:=heo;exact⟨v,by rw[hbe];exact hv⟩
  ·refine(ok b u q).stay (λc v hc r=>k c v ?_ r) (λc r=>by rw[aF (nown c b r)];exact r) (λc xs r=>by rw[aF (ntup c xs r)];exact r) λc o xs r=>by rw[aF (λz=>by subst z;rw[r]at mu;exact mu)];exact r
   rcases hc with rfl|hc
   ·exact hbe
   ·rintro rfl;rcases he with z|z
    ·exact nown c b hc z
    ·rw[hc]at z;cases z;exact hb rfl
end
structure Un (fs ex:List Addr)(H H':Hp)(h h':Heap):Prop where
 keep:∀b o,h.get? b=some o->H b=none->b∉fs->b∉ex->h'.get? b=some o
 slot:∀b o,h.get? b=some o->H b=none->b∈fs->b∉ex->∃sl,h'.get? b=some { o with slots:=sl }
 free:∀b o,h.get? b=some o->H b=none->b∉ex->H' b=none
 there:∀b o,h.get? b=some o->b∉ex->∃o',h'.get? b=some o'
 tups:∀b xs,H b=some (.tup xs)->H' b=some (.tup xs)
 frzs:∀b o u,H b=some (.frz o u)->H' b=some (.frz o u)
 tbls:∀b q,H b=some (.tbl q)->H' b=some (.tbl q)
section
variable {fs fs' ex ex':List Addr}{H H1 H2:Hp}{h h1 h2 h':Heap}{a x e:Addr}{o:HO}
theorem Un.any (u:Un fs ex H H1 h h1){b:Addr}{ob:Obj}(q:h.get? b=some ob)(n:H b=none)(hx:b∉ex):∃sl,h1.get? b=some { ob with slots:=sl }:=by
 by_cases hb:b∈fs
 ·exact u.slot b ob q n hb hx
 ·exact⟨ob.slots,u.keep b ob q n hb hx⟩
theorem Un.trans (a:Un fs ex H H1 h h1)(b:Un fs ex H1 H2 h1 h2):Un fs ex H H2 h h2 where
 keep:=λc ob q n hc hx=>b.keep c ob (a.keep c ob q n hc hx) (a.free c ob q n hx) hc hx
 slot:=λc ob q n hc hx=>by
  obtain⟨sl,e1⟩:=a.slot c ob q n hc hx;obtain⟨sl',e2⟩:=b.slot c _ e1 (a.free c ob q n hx) hc hx;exact⟨sl',e2⟩
 free:=λc ob q n hx=>by
  obtain⟨o',e1⟩:=a.there c ob q hx;exact b.free c o' e1 (a.free c ob q n hx) hx
 there:=λc ob q hx=>by
  obtain⟨o',e1⟩:=a.there c ob q hx;exact b.there c o' e1 hx
 tups:=λc xs q=>b.tups c xs (a.tups c xs q)
 frzs:=λc ob xs q=>b.frzs c ob xs (a.frzs c ob xs q)
 tbls:=λc ps q=>b.tbls c ps (a.tbls c ps q)
theorem Un.kept (k:∀b u,h.get? b=some u->h'.get? b=some u):Un fs ex H H h h' :=
 ⟨λb ob q _ _ _=>k b ob q,λb ob q _ _ _=>⟨ob.slots,k b ob q⟩,λ_ _ _ n _=>n,λb ob q _=>⟨ob,k b ob q⟩,λ_ _ q=>q,λ_ _ _ q=>q,λ_ _ q=>q⟩
theorem Un.refl:Un fs ex H H h h:=Un.kept λ_ _ q=>q
theorem Un.laid (k:∀b u,h.get? b=some u->h'.get? b=some u)(hp:h.objs.size<=a)(hn:H a=none):Un fs ex H (upd H a o) h h' where
 keep:=λb u q _ _ _=>k b u q
 slot:=λb u q _ _ _=>⟨u.slots,k b u q⟩
 free:=λb u q n _=>by rw[aF (Nat.ne_of_lt (Nat.lt_of_lt_of_le (Heap.lt_size q) hp))];exact n
 there:=λb u q _=>⟨u,k b u q⟩
 tups:=λb xs q=>by rw[aF (aR q hn)];exact q
 frzs:=λb u xs q=>by rw[aF (aR q hn)];exact q
 tbls:=λb ps q=>by rw[aF (aR q hn)];exact q
theorem Un.write (mu:Mut (H x))(he:e=x∨H e=some (.own x))(k:∀b u,b≠e->h.get? b=some u->h'.get? b=some u)(heo:∃u,h'.get? e=some u):Un fs ex H (upd H x o) h h':=by
 have hx:∀b,H b=none->b≠x:=λb n z=>by subst z;rw[n]at mu;exact mu
 have hb:∀b,H b=none->b≠e:=λb n z=>by
  subst z;rcases he with r|r
  ·exact hx b n r
  ·rw[n]at r;cases r
 have hm:∀b u,H b=some u->¬Mut (some u)->b≠x:=λb u q nm z=>by subst z;rw[q]at mu;exact nm mu
 refine⟨λb u q n _ _=>k b u (hb b n) q,λb u q n _ _=>⟨u.slots,k b u (hb b n) q⟩,λb u q n _=>by rw[aF (hx b n)];exact n,λb u q _=>?_,
  λb xs q=>by rw[aF (hm b _ q λz=>z)];exact q,λb u xs q=>by rw[aF (hm b _ q λz=>z)];exact q,λb ps q=>by rw[aF (hm b _ q λz=>z)];exact q⟩
 by_cases hbe:b=e
 ·subst hbe;exact heo
 ·exact⟨u,k b u hbe q⟩
end
noncomputable def trk (h:Heap)(H:Hp):List Addr:=(List.range h.objs.size).filter λa=>(H a).isSome
noncomputable def rM (h:Heap)(H:Hp):Heap:=PySem.W.hideAll h (trk h H)
theorem xY (h:Heap)(H:Hp):(rM h H).objs.size=h.objs.size:=PySem.W.hideAll_size _ _
theorem lS {h:Heap}{H:Hp}{b:Addr}{o:Obj}(e:h.get? b=some o)(n:H b=none):(rM h H).get? b=some o :=
 PySem.W.hideAll_get _ e λhm=>by
  have q:(H b).isSome=true:=(List.mem_filter.mp hm).2;rw[n]at q;simp at q
theorem BF {h:Heap}{H:Hp}{b:Addr}{o:Obj}(e:(rM h H).get? b=some o):h.get? b=some o/\H b=none:=by
 have e':h.get? b=some o:=PySem.W.of_hideAll (trk h H) e;refine⟨e',?_⟩;cases q:H b with
 |none=>rfl
 |some x=>
  have hm:b∈trk h H:=List.mem_filter.mpr ⟨List.mem_range.mpr (Heap.lt_size e'),by simp[q]⟩;have z:(rM h H).get? b=none:=PySem.W.hideAll_none (trk h H) hm;rw[z]at e;cases e
noncomputable def BG (g h:Heap)(L:Addr):List (Addr×Obj):=(List.range h.objs.size).filterMap λa=>if a=L∨(g.get? a).isSome=true then none else (h.get? a).map λo=>(a,o)
noncomputable def ay (g h:Heap)(L d:Addr):List (Addr×Obj):=(BG g h L).filter λp=>decide (p.1≠d)
structure Mod (K:PySem.W.Frag)(mg:Str->Option Value)(base:Heap):Prop where
 kin:K.In base
 glob:base.Ns mainGlobals mg
 blt:∃mb,base.Ns builtinsNs mb/\∀x:Str,x ≠ "__name__"->mb x=bootBuiltins x
 nolimit:base.NoLimit
 bmain:∃bm ob,mg "__builtins__" = some (.ref bm)/\bm≠builtinsNs/\base.get? bm=some ob/\ob.cls=.type "module"/\ob.dict=some builtinsNs/\ob.data=.plain
structure Cx where
 prog:Program
 w:World
 K:PySem.W.Frag
 mg:Str->Option Value
 base:Heap
 A:Around
 N:List Str
 s₀:Shared
 H₀:Hp
 env:Env
 outer:List Env
 stack:List Env
 ex:List Addr
 fn:Str->Bool
 calm:Bool
 pn:List (Addr×Obj)
 xe:Value->Shared->Prop
noncomputable def frs (l:List Env):List Addr:=l.filterMap (·.frame)
noncomputable abbrev Cx.fs (X:Cx):List Addr:=frs X.outer
def Vis (sc:Scope)(x:Str):Prop:=sc.names.lookup x=some .local∨sc.names.lookup x=some .cell∨sc.names.lookup x=some .free
def Loc (sc:Scope)(x:Str):Prop:=sc.names.lookup x=some .local∨sc.names.lookup x=some .cell
def Hw (env:Env)(h:Heap)(m:Str->Option Value)(x:Str)(u:Value):Prop :=
 (env.kindOf x=some .local/\m x=some u)∨((env.kindOf x=some .cell∨env.kindOf x=some .free)/\∃c,env.cells.lookup x=some c/\h.IsCell c (some u))
structure Cx.Ok (X:Cx):Prop where
 mod:Mod X.K X.mg X.base
 kind:X.env.scope.kind=.function
 glob:X.env.globals=mainGlobals
 blt:X.env.builtins=builtinsNs
 above:X.s₀.heap.objs.size<=X.env.locals
 inj:∀x y c,X.env.cells.lookup x=some c->X.env.cells.lookup y=some c->x=y
 has:∀x,(X.env.kindOf x=some .cell∨X.env.kindOf x=some .free)->∃c,X.env.cells.lookup x=some c
 cab:∀x c,X.fn x=true->X.env.cells.lookup x=some c->X.s₀.heap.objs.size<=c
 hd:X.calm=true->X.A.handled=none
 frames:X.A.frames=some X.stack
 stk:X.stack=X.outer∨(X.stack=X.env::X.outer/\X.env.frame=some X.env.locals)
 exf:∀b∈X.ex,b≠X.env.locals/\∀x c,X.env.cells.lookup x=some c->c≠b
 bs:∀b o,X.base.get? b=some o->X.s₀.heap.get? b=some o/\X.H₀ b=none
 bsz:X.base.objs.size<=X.s₀.heap.objs.size
 noex:∀b o,X.base.get? b=some o->b∉X.ex
 exfs:∀b∈X.ex,b∉X.fs
 funs:X.s₀.heap.FunFrames X.base X.outer
 frf:∀b∈X.fs,X.H₀ b=none
structure Inv (X:Cx)(pins:List (Addr×Obj))(σ:List (Option V))(H:Hp)(s:Shared):Prop where
 ok:X.Ok
 os:s.os=X.s₀.os
 bare:AllBare s.gens
 base:Un X.fs X.ex X.H₀ H X.s₀.heap s.heap
 loc:∃m,s.heap.Ns X.env.locals m/\∀(i:Nat)(x:Str)(v:V),X.N[i]? = some x->σ[i]? = some (some v)->Vis X.env.scope x->∃u,aS v u/\Hw X.env s.heap m x u
 cell:∀x c,X.env.cells.lookup x=some c->∃v,s.heap.IsCell c v
 free:H X.env.locals=none
 freeC:∀x c,X.env.cells.lookup x=some c->H c=none
 pin:∀p∈X.pn++pins,s.heap.get? p.1=some p.2/\H p.1=none/\p.1≠X.env.locals/\p.1∉X.fs/\∀v,p.2.data≠.cell v
 hok:HOk X.prog X.w H s.heap
 len:σ.length=X.N.length
section
variable {X:Cx}{pins:List (Addr×Obj)}{σ:List (Option V)}{H H':Hp}{s:Shared}{h':Heap}
theorem Cx.Ok.nofr (ok:X.Ok){b:Addr}{o:Obj}(e:X.base.get? b=some o):b∉X.fs:=λhb=>by
 have:=(ok.funs.mem hb).1;rw[e]at this;cases this
theorem Inv.bs (I:Inv X pins σ H s):∀b o,X.base.get? b=some o->s.heap.get? b=some o/\H b=none:=λb o e=>
 ⟨I.base.keep b o (I.ok.bs b o e).1 (I.ok.bs b o e).2 (I.ok.nofr e) (I.ok.noex b o e),I.base.free b o (I.ok.bs b o e).1 (I.ok.bs b o e).2 (I.ok.noex b o e)⟩
theorem Inv.bk (I:Inv X pins σ H s):∀b o,X.base.get? b=some o->s.heap.get? b=some o:=λb o e=>(I.bs b o e).1
theorem Inv.mod (I:Inv X pins σ H s):Mod X.K X.mg X.base:=I.ok.mod
theorem Inv.kIn (I:Inv X pins σ H s):X.K.In s.heap:=I.ok.mod.kin.keeps I.bk
theorem Inv.nolimit (I:Inv X pins σ H s):s.heap.NoLimit:=I.ok.mod.nolimit.keeps I.bk
theorem Inv.lt (I:Inv X pins σ H s):X.env.locals<s.heap.objs.size:=let ⟨_,hn,_⟩:=I.loc;hn.lt
theorem Inv.sz (I:Inv X pins σ H s):X.s₀.heap.objs.size<=s.heap.objs.size:=Nat.le_trans I.ok.above (Nat.le_of_lt I.lt)
theorem Inv.nofs (I:Inv X pins σ H s){a:Addr}(h:s.heap.objs.size<=a):a∉X.fs:=λhb=>by
 obtain⟨_,o,ho,_⟩:=I.ok.funs.mem hb;exact absurd (Nat.lt_of_lt_of_le (Heap.lt_size ho) (Nat.le_trans I.sz h)) (Nat.lt_irrefl _)
theorem Inv.cne (I:Inv X pins σ H s):∀x c,X.env.cells.lookup x=some c->c≠X.env.locals:=λx c e z=>by
 obtain⟨v,o,ho,hd⟩:=I.cell x c e;obtain⟨m,⟨o',es,ep,ho',hd',_⟩,_⟩:=I.loc;rw[z,ho']at ho;cases ho;rw[hd']at hd;cases hd
theorem Inv.funs (I:Inv X pins σ H s):s.heap.FunFrames X.base X.outer:=by
 have all:∀(l:List Env),(∀b∈frs l,b∈X.fs)->X.s₀.heap.FunFrames X.base l->s.heap.FunFrames X.base l:=by
  intro l;induction l with
  |nil=>intro _ _;trivial
  |cons env r ih=>
   intro hs hl;obtain⟨hk,⟨L,o,hf,hn,ho,hd⟩,hr⟩:=hl;have hL:L∈X.fs:=hs L (by unfold frs;rw[List.filterMap_cons,hf];exact mX);obtain⟨sl,e⟩:=I.base.slot L o ho (I.ok.frf L hL) hL λz=>I.ok.exfs L z hL;exact⟨hk,⟨L,_,hf,hn,e,hd⟩,ih (λb hb=>hs b (by unfold frs;rw[List.filterMap_cons,hf];exact mZ _ hb)) hr⟩
 exact all X.outer (λ_ hb=>hb) I.ok.funs
theorem Inv.stack (I:Inv X pins σ H s):s.heap.FunFrames X.base X.stack:=by
 rcases I.ok.stk with e|⟨e,hf⟩
 ·rw[e];exact I.funs
 ·rw[e];obtain⟨m,hn,_⟩:=I.loc;refine .cons (by rw[I.ok.kind];decide) hf hn ?_ I.funs;exact Heap.get?_none_of_le (Nat.le_trans I.ok.bsz I.ok.above)
theorem Inv.stkSub (I:Inv X pins σ H s):∀b∈frs X.stack,b∈X.env.locals::X.fs:=λb hb=>by
 rcases I.ok.stk with e|⟨e,hf⟩
 ·rw[e]at hb;exact mZ _ hb
 ·rw[e]at hb;unfold frs at hb;rw[List.filterMap_cons,hf]at hb;exact hb
theorem Inv.stkFree (I:Inv X pins σ H s):∀b∈frs X.stack,H b=none:=λb hb=>by
 rcases List.mem_cons.mp (I.stkSub b hb)with e|hb
 ·rw[e];exact I.free
 ·obtain⟨_,o,ho,_⟩:=I.ok.funs.mem hb;exact I.base.free b o ho (I.ok.frf b hb) λz=>I.ok.exfs b z hb
theorem Inv.step {g':Array GenState}{t':Nat}{d':Drawn}{ch:List Addr}(I:Inv X pins σ H s)
  (hch:∀b∈ch,(b∈X.ex∨X.s₀.heap.objs.size<=b)/\b≠X.env.locals/\(∀x c,X.env.cells.lookup x=some c->c≠b)/\∀p∈X.pn++pins,p.1≠b)
  (keep:∀b o,b≠X.env.locals->b∉X.fs->b∉ch->s.heap.get? b=some o->H b=none->h'.get? b=some o)
  (slot:∀b o,b≠X.env.locals->b∈X.fs->b∉ch->s.heap.get? b=some o->H b=none->∃sl,h'.get? b=some { o with slots:=sl }) (free:∀b o,b∉ch->s.heap.get? b=some o->H b=none->H' b=none)
  (there:∀b o,b∉ch->s.heap.get? b=some o->∃o',h'.get? b=some o')
  (tups:∀b xs,H b=some (.tup xs)->H' b=some (.tup xs)) (frzs:∀b o u,H b=some (.frz o u)->H' b=some (.frz o u)) (tbls:∀b q,H b=some (.tbl q)->H' b=some (.tbl q))
  (ns:∀m,s.heap.Ns X.env.locals m->h'.Ns X.env.locals m) (hok:HOk X.prog X.w H' h') (hg:AllBare g'):
  Inv X pins σ H' { s with heap:=h',gens:=g',drawn:=d',toks:=t' }:=by
 have neL:∀b o,X.s₀.heap.get? b=some o->b≠X.env.locals:=λb o e=>Nat.ne_of_lt (Nat.lt_of_lt_of_le (Heap.lt_size e) I.ok.above);have neC:∀b o,X.s₀.heap.get? b=some o->b∉X.ex->b∉ch:=λb o e hx hb=>by
  rcases (hch b hb).1 with z|z
  ·exact hx z
  ·exact absurd (Nat.lt_of_lt_of_le (Heap.lt_size e) z) (Nat.lt_irrefl _)
 have cellK:∀x c,X.env.cells.lookup x=some c->∀v,s.heap.IsCell c v->h'.IsCell c v:=λx c e v ⟨o,ho,hd⟩=>by
  have nch:c∉ch:=λz=>(hch c z).2.2.1 x c e rfl;by_cases hc:c∈X.fs
  ·obtain⟨sl,q⟩:=slot c o (I.cne x c e) hc nch ho (I.freeC x c e);exact⟨_,q,hd⟩
  ·exact⟨o,keep c o (I.cne x c e) hc nch ho (I.freeC x c e),hd⟩
 refine⟨I.ok,I.os,hg,⟨λb o e n hb hx=>?_,λb o e n hb hx=>?_,λb o e n hx=>?_,λb o e hx=>?_,λb xs e=>tups b xs (I.base.tups b xs e),λb o xs e=>frzs b o xs (I.base.frzs b o xs e),λb ps e=>?_⟩,?_,λx c e=>?_,?_,λx c e=>?_,λp hp=>?_,hok,I.len⟩
 ·exact keep b o (neL b o e) hb (neC b o e hx) (I.base.keep b o e n hb hx) (I.base.free b o e n hx)
 ·obtain⟨sl,e1⟩:=I.base.slot b o e n hb hx;obtain⟨sl',e2⟩:=slot b _ (neL b o e) hb (neC b o e hx) e1 (I.base.free b o e n hx);exact⟨sl',e2⟩
 ·obtain⟨o',e1⟩:=I.base.there b o e hx;exact free b o' (neC b o e hx) e1 (I.base.free b o e n hx)
 ·obtain⟨o',e1⟩:=I.base.there b o e hx;exact there b o' (neC b o e hx) e1
 ·exact tbls b _ (I.base.tbls b ps e)
 ·obtain⟨m,hn,hl⟩:=I.loc;refine⟨m,ns m hn,λi x v e1 e2 e3=>?_⟩;obtain⟨u,r,l⟩:=hl i x v e1 e2 e3;refine⟨u,r,?_⟩;rcases l with l|⟨k,c,e,z⟩
  ·exact .inl l
  ·exact .inr ⟨k,c,e,cellK x c e _ z⟩
 ·obtain⟨v,z⟩:=I.cell x c e;exact⟨v,cellK x c e v z⟩
 ·obtain⟨m,⟨o,_,_,ho,_⟩,_⟩:=I.loc;exact free _ o (λz=>(hch _ z).2.1 rfl) ho I.free
 ·obtain⟨v,o,ho,hd⟩:=I.cell x c e;exact free c o (λz=>(hch c z).2.2.1 x c e rfl) ho (I.freeC x c e)
 ·obtain⟨e,n,ne,nf,d⟩:=I.pin p hp;have nch:p.1∉ch:=λz=>(hch p.1 z).2.2.2 p hp rfl;exact⟨keep p.1 p.2 ne nf nch e n,free p.1 p.2 nch e n,ne,nf,d⟩
theorem Inv.un {t':Nat}(I:Inv X pins σ H s)(u:Un X.fs [] H H' s.heap h')(hok:HOk X.prog X.w H' h'):Inv X pins σ H' { s with heap:=h',toks:=t' }:=by
 obtain⟨m,⟨o,es,ep,ho,r⟩,_⟩:=id I.loc;obtain⟨sl,hL⟩:=u.any ho I.free (by simp);exact I.step (g':=s.gens) (d':=s.drawn) (ch:=[]) (λ_ z=>nomatch z) (λb o _ hb _ e n=>u.keep b o e n hb (by simp)) (λb o _ hb _ e n=>u.slot b o e n hb (by simp)) (λb o _ e n=>u.free b o e n (by simp)) (λb o _ e=>u.there b o e (by simp)) u.tups u.frzs u.tbls (λm' hm=>by
  obtain⟨o',es',ep',ho',r'⟩:=hm;rw[ho]at ho';cases ho';exact⟨_,es',ep',hL,r'⟩) hok I.bare
theorem Inv.call {g':Array GenState}{t':Nat}{d':Drawn}{ch:List Addr}(I:Inv X pins σ H s)(u:Un (frs X.stack) ch H H' s.heap h')(hok:HOk X.prog X.w H' h')(hg:AllBare g')
  (hch:∀b∈ch,(b∈X.ex∨X.s₀.heap.objs.size<=b)/\b≠X.env.locals/\(∀x c,X.env.cells.lookup x=some c->c≠b)/\∀p∈X.pn++pins,p.1≠b):
  Inv X pins σ H' { s with heap:=h',gens:=g',drawn:=d',toks:=t' }:=by
 obtain⟨m,⟨o,es,ep,ho,r⟩,_⟩:=id I.loc;obtain⟨sl,hL⟩:=u.any ho I.free λz=>(hch _ z).2.1 rfl;exact I.step (ch:=ch) hch (λb o hL hb hc e n=>u.keep b o e n (λz=>(List.mem_cons.mp (I.stkSub b z)).elim hL hb) hc) (λb o _ _ hc e n=>u.any e n hc) (λb o hc e n=>u.free b o e n hc) (λb o hc e=>u.there b o e hc) u.tups u.frzs u.tbls (λm' hm=>by
  obtain⟨o',es',ep',ho',r'⟩:=hm;rw[ho]at ho';cases ho';exact⟨_,es',ep',hL,r'⟩) hok hg
theorem Inv.turned {t':Nat}{it:Addr}(I:Inv X pins σ H s)(k:∀b o,b≠it->s.heap.get? b=some o->h'.get? b=some o)(hn:H it=none)(hL:it≠X.env.locals)
  (h1:it∈X.ex∨X.s₀.heap.objs.size<=it) (h2:∀x c,X.env.cells.lookup x=some c->c≠it) (h3:∀p∈X.pn++pins,p.1≠it):Inv X pins σ H { s with heap:=h',toks:=t' }:=by
 have nit:∀b u,H b=some u->b≠it:=λb u e z=>by rw[z,hn]at e;cases e
 refine I.step (g':=s.gens) (d':=s.drawn) (ch:=[it]) (λb hb=>?_) (λb o _ _ hc e _=>k b o (λz=>hc (by simp[z])) e) (λb o _ _ hc e _=>⟨o.slots,k b o (λz=>hc (by simp[z])) e⟩) (λ_ _ _ _ n=>n)
  (λb o hc e=>⟨o,k b o (λz=>hc (by simp[z])) e⟩) (λ_ _ e=>e) (λ_ _ _ e=>e) (λ_ _ e=>e) (λm hm=>?_) (λb u e=>?_) I.bare
 ·have e:b=it:=by simpa using hb
  subst e;exact⟨h1,hL,h2,h3⟩
 ·obtain⟨o,es,ep,ho,r⟩:=hm;exact⟨o,es,ep,k _ o (Ne.symm hL) ho,r⟩
 ·refine(I.hok b u e).stay (λc v hc q=>k c v ?_ q) (λ_ q=>q) (λ_ _ q=>q) λ_ _ _ q=>q;rcases hc with z|z
  ·rw[z];exact nit b u e
  ·exact nit c _ z
theorem Inv.tok (I:Inv X pins σ H s)(t:Nat):Inv X pins σ H { s with toks:=t }:=I.un (h':=s.heap) (t':=t) Un.refl I.hok
theorem Inv.kept {t':Nat}(I:Inv X pins σ H s)(k:∀b u,s.heap.get? b=some u->h'.get? b=some u):Inv X pins σ H { s with heap:=h',toks:=t' }:=I.un (Un.kept k) (I.hok.kept k)
theorem Inv.laid {a:Addr}{o:HO}{t':Nat}(I:Inv X pins σ H s)(k:∀b u,s.heap.get? b=some u->h'.get? b=some u)(hp:s.heap.objs.size<=a)(new:b8 X.prog X.w (upd H a o) h' a o):
  Inv X pins σ (upd H a o) { s with heap:=h',toks:=t' }:=I.un (Un.laid k hp (I.hok.fresh hp)) (I.hok.laid k hp new)
theorem Inv.write {x e:Addr}{o:HO}{t':Nat}(I:Inv X pins σ H s)(mu:Mut (H x))(he:e=x∨H e=some (.own x))(k:∀b u,b≠e->s.heap.get? b=some u->h'.get? b=some u)(heo:∃u,h'.get? e=some u)
  (new:b8 X.prog X.w (upd H x o) h' x o):Inv X pins σ (upd H x o) { s with heap:=h',toks:=t' }:=I.un (Un.write mu he k heo) (I.hok.write mu he k heo new)
theorem Inv.pins_of {pins':List (Addr×Obj)}(I:Inv X pins σ H s)(h:∀p∈pins',s.heap.get? p.1=some p.2/\H p.1=none/\p.1≠X.env.locals/\p.1∉X.fs/\∀v,p.2.data≠.cell v):Inv X pins' σ H s :=
 ⟨I.ok,I.os,I.bare,I.base,I.loc,I.cell,I.free,I.freeC,λp hp=>(List.mem_append.mp hp).elim (λz=>I.pin p (List.mem_append_left _ z)) (h p),I.hok,I.len⟩
theorem rN {N:List Str}(hN:N.Nodup){i j:Nat}{x:Str}(a:N[i]? = some x)(b:N[j]? = some x):i=j:=by
 obtain⟨h1,e1⟩:=List.getElem?_eq_some_iff.mp a;obtain⟨h2,e2⟩:=List.getElem?_eq_some_iff.mp b;exact(List.getElem_inj hN).mp (e1.trans e2.symm)
theorem oH {M:Model}{A:Around}{E:Value->Shared->Prop}{i:Nat}{x:Str}{v:V}{u:Value}{Q:Unit->Shared->Prop}(I:Inv X pins σ H s)(hN:X.N.Nodup)(hi:X.N[i]? = some x)(hx:Loc X.env.scope x)(r:aS v u)
  (h:∀s',Inv X pins (σ.set i (some v)) H s'->(∃a,Heap.SameBut a s.heap s'.heap/\(a=X.env.locals∨X.env.cells.lookup x=some a))->Q () s') (hf:X.fn x=true∨X.env.scope.names.lookup x=some .local:=by first|exact .inl rfl|exact .inr rfl|assumption):wpAny M A (storeName X.env x u) Q E s:=by
 obtain⟨m,hn,hl⟩:=id I.loc;have hcls:(X.env.scope.kind == .class || (X.env.scope.kind == .module && X.env.locals != X.env.globals))=false:=by rw[I.ok.kind];rfl
 have hiσ:i<σ.length:=by rw[I.len];exact(List.getElem?_eq_some_iff.mp hi).1
 have cne:=I.cne;have tracked:∀ {a:Addr}{h':Heap},(∃o,s.heap.get? a=some o/\H a=none)->Heap.SameBut a s.heap h'->HOk X.prog X.w H h':=λ{a h'} ha hs b ob e=>by
  obtain⟨_,_,hfree⟩:=ha;refine(I.hok b ob e).stay (λc w' hc q=>(hs.2 c ?_).trans q) (λ_ q=>q) (λ_ _ q=>q) λ_ _ _ q=>q;rintro rfl;rcases hc with rfl|hc
  ·rw[hfree]at e;cases e
  ·rw[hfree]at hc;cases hc
 rcases hx with hk|hk
 ·refine wpAny_storeName_local hk hn (λh' hn' hs=>?_) hcls;obtain⟨oL,_,_,hoL,_⟩:=id hn;refine h _ ⟨I.ok,I.os,I.bare,⟨λb o e n hb hx=>?_,λb o e n hb hx=>?_,I.base.free,λb o e hx=>?_,I.base.tups,I.base.frzs,I.base.tbls⟩,⟨_,hn',λj y v' e1 e2 e3=>?_⟩,λy c e=>?_,I.free,I.freeC,λp hp=>?_,tracked ⟨oL,hoL,I.free⟩ hs,by simpa using I.len⟩ ⟨_,hs,.inl rfl⟩
  ·exact(hs.2 b (Nat.ne_of_lt (Nat.lt_of_lt_of_le (Heap.lt_size e) I.ok.above))).trans (I.base.keep b o e n hb hx)
  ·obtain⟨sl,e1⟩:=I.base.slot b o e n hb hx;exact⟨sl,(hs.2 b (Nat.ne_of_lt (Nat.lt_of_lt_of_le (Heap.lt_size e) I.ok.above))).trans e1⟩
  ·obtain⟨o',e1⟩:=I.base.there b o e hx;exact⟨o',(hs.2 b (Nat.ne_of_lt (Nat.lt_of_lt_of_le (Heap.lt_size e) I.ok.above))).trans e1⟩
  ·by_cases hj:j=i
   ·subst hj;rw[hi]at e1;cases e1;rw[List.getElem?_set_self hiσ]at e2;cases e2
    exact⟨u,r,.inl ⟨hk,by simp⟩⟩
   ·rw[List.getElem?_set_ne (Ne.symm hj)]at e2;obtain⟨u',r',q⟩:=hl j y v' e1 e2 e3;refine⟨u',r',?_⟩;rcases q with⟨k,e⟩|⟨k,c,e,z⟩
    ·refine .inl ⟨k,?_⟩;have:y≠x:=λe=>hj (rN hN e1 (e ▸ hi));simp[this,e]
    ·exact .inr ⟨k,c,e,z.sameBut hs (cne y c e)⟩
  ·obtain⟨w',z⟩:=I.cell y c e;exact⟨w',z.sameBut hs (cne y c e)⟩
  ·obtain⟨e,n,ne,nf,d⟩:=I.pin p hp;exact⟨(hs.2 p.1 ne).trans e,n,ne,nf,d⟩
 ·have hfn:X.fn x=true:=by
   rcases hf with z|z
   ·exact z
   ·rw[z]at hk;cases hk
  obtain⟨c,hc⟩:=I.ok.has x (.inl hk);obtain⟨w',z⟩:=I.cell x c hc;refine wpAny_storeName_cell I.ok.kind hk hc z (λh' hc' hs=>?_);obtain⟨oc,hoc,hocd⟩:=id z;refine h { s with heap:=h' } ⟨I.ok,I.os,I.bare,⟨λb o e n hb hx=>?_,λb o e n hb hx=>?_,I.base.free,λb o e hx=>?_,I.base.tups,I.base.frzs,I.base.tbls⟩,⟨m,hn.sameBut hs (Ne.symm (cne x c hc)),λj y v' e1 e2 e3=>?_⟩,λy c' e=>?_,I.free,I.freeC,λp hp=>?_,tracked ⟨oc,hoc,I.freeC x c hc⟩ hs,by simpa using I.len⟩ ⟨c,hs,.inr hc⟩
  ·exact(hs.2 b (Nat.ne_of_lt (Nat.lt_of_lt_of_le (Heap.lt_size e) (I.ok.cab x c hfn hc)))).trans (I.base.keep b o e n hb hx)
  ·obtain⟨sl,e1⟩:=I.base.slot b o e n hb hx;exact⟨sl,(hs.2 b (Nat.ne_of_lt (Nat.lt_of_lt_of_le (Heap.lt_size e) (I.ok.cab x c hfn hc)))).trans e1⟩
  ·obtain⟨o',e1⟩:=I.base.there b o e hx;exact⟨o',(hs.2 b (Nat.ne_of_lt (Nat.lt_of_lt_of_le (Heap.lt_size e) (I.ok.cab x c hfn hc)))).trans e1⟩
  ·by_cases hj:j=i
   ·subst hj;rw[hi]at e1;cases e1;rw[List.getElem?_set_self hiσ]at e2;cases e2
    exact⟨u,r,.inr ⟨.inl hk,c,hc,hc'⟩⟩
   ·rw[List.getElem?_set_ne (Ne.symm hj)]at e2;obtain⟨u',r',q⟩:=hl j y v' e1 e2 e3;refine⟨u',r',?_⟩;rcases q with q|⟨k,c',e,z'⟩
    ·exact .inl q
    ·refine .inr ⟨k,c',e,z'.sameBut hs ?_⟩;rintro rfl;exact hj (rN hN e1 (I.ok.inj _ _ _ e hc ▸ hi))
  ·by_cases hcc:c'=c
   ·subst hcc;exact⟨_,hc'⟩
   ·obtain⟨w2,z2⟩:=I.cell y c' e;exact⟨w2,z2.sameBut hs hcc⟩
  ·obtain⟨e,n,ne,nf,d⟩:=I.pin p hp;refine⟨(hs.2 p.1 ?_).trans e,n,ne,nf,d⟩;intro q;rw[q,hoc]at e;have q':oc=p.2:=Option.some.inj e;exact d w' (by rw[←q'];exact hocd)
theorem rO {M:Model}{A:Around}{E:Value->Shared->Prop}{i:Nat}{x:Str}{v:V}{u:Value}{Q:Unit->Shared->Prop}(I:Inv X pins σ H s)(hN:X.N.Nodup)(hi:X.N[i]? = some x)(hx:Loc X.env.scope x)(r:aS v u)
  (h:∀s',Inv X pins (σ.set i (some v)) H s'->Q () s') (hf:X.fn x=true∨X.env.scope.names.lookup x=some .local:=by first|exact .inl rfl|exact .inr rfl|assumption):wpAny M A (storeName X.env x u) Q E s :=
 oH I hN hi hx r (λs' I' _=>h s' I') hf
theorem Inv.call' {s':Shared}{ch:List Addr}(I:Inv X pins σ H s)(ho:s'.os=s.os)(u:Un (frs X.stack) ch H H' s.heap s'.heap)(hok:HOk X.prog X.w H' s'.heap)(hg:AllBare s'.gens)
  (hch:∀b∈ch,(b∈X.ex∨X.s₀.heap.objs.size<=b)/\b≠X.env.locals/\(∀x c,X.env.cells.lookup x=some c->c≠b)/\∀p∈X.pn++pins,p.1≠b):Inv X pins σ H' s':=by
 obtain⟨h',g',d',t',o'⟩:=s';have e:o'=s.os:=ho;subst e;exact I.call (g':=g') (t':=t') (d':=d') u hok hg hch
end
abbrev XK:=Value->Option Addr->Hp->Prop
abbrev St:=List (Option V)
abbrev VK:=V->Hp->Prop
abbrev TE:=St->Hp->VK->Prop
abbrev TT:=St->Hp->(Bool->Hp->Prop)->Prop
abbrev TA:=St->Hp->(List V->Hp->Prop)->Prop
structure Ends where
 nx:St->Hp->Prop
 rt:VK
 bk:St->Hp->Prop:=λ_ _=>False
 ct:St->Hp->Prop:=λ_ _=>False
abbrev TS:=Ends->St->Hp->Prop
def EP (X:Cx)(pins:List (Addr×Obj))(σ:St)(Q:VK)(u:Value)(s':Shared):Prop:=∃v H',Inv X pins σ H' s'/\aS v u/\Q v H'
def TP (X:Cx)(pins:List (Addr×Obj))(σ:St)(Q:Bool->Hp->Prop)(b:Bool)(s':Shared):Prop:=∃H',Inv X pins σ H' s'/\Q b H'
def AP (X:Cx)(pins:List (Addr×Obj))(σ:St)(Q:List V->Hp->Prop)(us:List Value)(s':Shared):Prop:=∃vs H',Inv X pins σ H' s'/\aQ vs us/\Q vs H'
def SP (X:Cx)(pins:List (Addr×Obj))(D:Ends)(f:Flow)(s':Shared):Prop :=
 match f with
 |.next=>∃σ' H',Inv X pins σ' H' s'/\D.nx σ' H'
 |.brk=>∃σ' H',Inv X pins σ' H' s'/\D.bk σ' H'
 |.cont=>∃σ' H',Inv X pins σ' H' s'/\D.ct σ' H'
 |.ret u=>∃v σ' H',Inv X pins σ' H' s'/\aS v u/\D.rt v H'
def PE (X:Cx)(e:Expr)(t:TE):Prop :=
 ∀(pins:List (Addr×Obj))(s:Shared)(σ:St)(H:Hp)(Q:VK),Inv X pins σ H s->t σ H Q->wpAny (model X.prog X.w) X.A (eval e X.env) (EP X pins σ Q) X.xe s
def PT (X:Cx)(e:Expr)(t:TT):Prop :=
 ∀(pins:List (Addr×Obj))(s:Shared)(σ:St)(H:Hp)(Q:Bool->Hp->Prop),Inv X pins σ H s->t σ H Q->wpAny (model X.prog X.w) X.A (isTrue e X.env (eval e X.env)) (TP X pins σ Q) X.xe s
def PW (X:Cx)(e:Expr)(t:TT):Prop :=
 ∀(whole:Sem Value)(pins:List (Addr×Obj))(s:Shared)(σ:St)(H:Hp)(Q:Bool->Hp->Prop),Inv X pins σ H s->t σ H Q->wpAny (model X.prog X.w) X.A (isTrue e X.env whole) (TP X pins σ Q) X.xe s
theorem PW.pt {X:Cx}{e:Expr}{t:TT}(h:PW X e t):PT X e t:=h _
def PA (X:Cx)(es:List Expr)(t:TA):Prop :=
 ∀(pos:Pos)(pins:List (Addr×Obj))(s:Shared)(σ:St)(H:Hp)(Q:List V->Hp->Prop),Inv X pins σ H s->t σ H Q->wpAny (model X.prog X.w) X.A (spliced (backTo pos (starEach es X.env))) (AP X pins σ Q) X.xe s
def PS (X:Cx)(st:Stmt)(t:TS):Prop :=
 ∀(pins:List (Addr×Obj))(s:Shared)(σ:St)(H:Hp)(D:Ends),Inv X pins σ H s->t D σ H->wpAny (model X.prog X.w) X.A (exec st X.env) (SP X pins D) X.xe s
def PSs (X:Cx)(st:List Stmt)(t:TS):Prop :=
 ∀(pins:List (Addr×Obj))(s:Shared)(σ:St)(H:Hp)(D:Ends),Inv X pins σ H s->t D σ H->wpAny (model X.prog X.w) X.A (execs st X.env) (SP X pins D) X.xe s
theorem thn {α:Type}{t:Sem α}{Q Q':α->Shared->Prop}{M:Model}{A:Around}{E:Value->Shared->Prop}{s:Shared}(h:wpAny M A t Q E s)(hQ:∀a s,Q a s->Q' a s):wpAny M A t Q' E s:=wpAny_mono h hQ λ_ _ x=>x
section
variable {X:Cx}
theorem bin {a b:Expr}{ta tb:TE}(ha:PE X a ta)(hb:PE X b tb){pins:List (Addr×Obj)}{s:Shared}{σ:St}{H:Hp}{R:V->V->Hp->Prop}(I:Inv X pins σ H s)(h:ta σ H λx H1=>tb σ H1 λy H2=>R x y H2)
  {α:Type}{Q:α->Shared->Prop}{f:Value->Value->Sem α}
  (hf:∀v u s2 x y H2,Inv X pins σ H2 s2->aS x v->aS y u->R x y H2->wpAny (model X.prog X.w) X.A (f v u) Q X.xe s2):
  wpAny (model X.prog X.w) X.A (eval a X.env) (λv s₁=>wpAny (model X.prog X.w) X.A (eval b X.env) (λu s₂=>wpAny (model X.prog X.w) X.A (f v u) Q X.xe s₂) X.xe s₁) X.xe s:=by
 refine thn (ha pins s σ H _ I h) λv s1 ⟨x,H1,I1,r1,q1⟩=>?_;refine thn (hb pins s1 σ H1 _ I1 q1) λu s2 ⟨y,H2,I2,r2,q2⟩=>?_;exact hf v u s2 x y H2 I2 r1 r2 q2
def Ei (i:Nat):TE:=λσ H Q=>∃v,σ[i]? = some (some v)/\Q v H
def tC (v:V):TE:=λ_ H Q=>Q v H
theorem lT {i:Nat}{x:Str}{pos:Pos}(hN:X.N[i]? = some x)(hv:Vis X.env.scope x)(hd:(x == ("__debug__" : Str))=false:=by decide)(hcd:(x == ("__classdict__" : Str))=false:=by decide):PE X (.Name x pos) (Ei i):=by
 intro pins s σ H Q I h;obtain⟨v,e,h⟩:=h;obtain⟨m,hn,hl⟩:=I.loc;obtain⟨u,r,l⟩:=hl i x v hN e hv;have fin:EP X pins σ Q u s:=⟨v,H,I,r,h⟩;rcases l with⟨hk,hm⟩|⟨hk,c,hc,hcell⟩
 ·exact wpAny_Name (wpAny_loadName_local I.ok.kind hk hn hm fin) hd
 ·rcases hk with hk|hk
  ·exact wpAny_Name (wpAny_loadName_cell I.ok.kind hk hc hcell fin) hd
  ·exact wpAny_Name (wpAny_loadName_free I.ok.kind hk hc hcell fin hcd) hd
theorem Ej {i j pos}:PE X (.Constant (.int i) j pos) (tC (.int i)):=λ_ _ _ H _ I h=>wpAny_Constant_int ⟨.int i,H,I.tok _,⟨_,rfl⟩,h⟩
theorem FW {b j pos}:PE X (.Constant (.bool b) j pos) (tC (.bl b)):=λ_ _ _ H _ I h=>Constant_bool ⟨.bl b,H,I,rfl,h⟩
theorem Ek {j pos}:PE X (.Constant .none j pos) (tC .non):=λ_ _ _ H _ I h=>Constant_none ⟨.non,H,I,rfl,h⟩
theorem El {x j pos}:PE X (.Constant (.str x) j pos) (tC (.str x)):=λ_ _ _ H _ I h=>Calls.Constant_str ⟨.str x,H,I.tok _,⟨_,rfl⟩,h⟩
def Gl (X:Cx)(x:Str):Prop:=X.env.kindOf x=some .globalImplicit
theorem qh {E:Value->Shared->Prop}{pins:List (Addr×Obj)}{s:Shared}{σ:St}{H:Hp}{x:Str}{u:Value}{pos:Pos}{Q:Value->Shared->Prop}(I:Inv X pins σ H s)(hg:Gl X x)(hm:X.mg x=some u)(h:Q u s)
  (hd:(x == ("__debug__" : Str))=false:=by decide):wpAny (model X.prog X.w) X.A (eval (.Name x pos) X.env) Q E s :=
 Calls.Name_function_global I.ok.kind hg (Calls.loadGlobal_global (by rw[I.ok.glob];exact I.mod.glob.keeps I.bk) hm h) hd
theorem jj {E:Value->Shared->Prop}{pins:List (Addr×Obj)}{s:Shared}{σ:St}{H:Hp}{x:Str}{u:Value}{pos:Pos}{Q:Value->Shared->Prop}(I:Inv X pins σ H s)(hg:Gl X x)(hm:X.mg x=none)(hv:bootBuiltins x=some u)(h:Q u s)
  (hn:x ≠ "__name__":=by decide) (hd:(x == ("__debug__" : Str))=false:=by decide):wpAny (model X.prog X.w) X.A (eval (.Name x pos) X.env) Q E s:=by
 obtain⟨mb,h1,h2⟩:=I.mod.blt;exact Calls.Name_function_global I.ok.kind hg (Calls.loadGlobal_builtin (by rw[I.ok.glob];exact I.mod.glob.keeps I.bk) hm (by rw[I.ok.blt];exact h1.keeps I.bk) ((h2 x hn).trans hv) h) hd
theorem wl {x:Str}{v:V}{u:Value}{pos:Pos}(hg:Gl X x)(hm:X.mg x=some u)(r:aS v u)(hd:(x == ("__debug__" : Str))=false:=by decide):PE X (.Name x pos) (tC v) :=
 λ_ _ _ H _ I h=>qh I hg hm ⟨v,H,I,r,h⟩ hd
theorem BH {x:Str}{v:V}{u:Value}{pos:Pos}(hg:Gl X x)(hm:X.mg x=none)(hv:bootBuiltins x=some u)(r:aS v u)(hn:x ≠ "__name__":=by decide)(hd:(x == ("__debug__" : Str))=false:=by decide):PE X (.Name x pos) (tC v) :=
 λ_ _ _ H _ I h=>jj I hg hm hv ⟨v,H,I,r,h⟩ hn hd
def t2I (ta tb:TE)(k:Int->Int->Hp->Prop):St->Hp->Prop:=λσ H=>ta σ H λx H1=>tb σ H1 λy H2=>∃i j,x=.int i/\y=.int j/\k i j H2
variable {a b:Expr}{ta tb:TE}{pos:Pos}
def PC (X:Cx)(op:CmpOp)(a b:Expr)(t:TE):Prop :=
 ∀(pins:List (Addr×Obj))(s:Shared)(σ:St)(H:Hp)(Q:VK),Inv X pins σ H s->t σ H Q ->
  wpAny (model X.prog X.w) X.A (eval a X.env) (λv s₁=>wpAny (model X.prog X.w) X.A (eval b X.env) (λu s₂=>wpAny (model X.prog X.w) X.A (compareOp op v u) (EP X pins σ Q) X.xe s₂) X.xe s₁) X.xe s
theorem lU (b:Expr){op:CmpOp}(h:op≠.In)(h2:op≠.NotIn):behindInMarks op b=false:=by
 have e1:(op == CmpOp.In)=false:=by cases op<;>first|rfl|exact absurd rfl h
 have e2:(op == CmpOp.NotIn)=false:=by cases op<;>first|rfl|exact absurd rfl h2
 cases b<;>simp[behindInMarks,e1,e2]
def FX (p:Int->Int->Bool)(ta tb:TE):TE:=λσ H Q=>t2I ta tb (λi j H2=>Q (.bl (p i j)) H2) σ H
noncomputable abbrev tLt:TE->TE->TE:=FX λi j=>decide (i<j)
noncomputable abbrev tGt:TE->TE->TE:=FX λi j=>decide (j<i)
def tB (t:TE):TT:=λσ H Q=>t σ H λx H1=>∃c,x=.bl c/\Q c H1
theorem Hx {op:CmpOp}{t:TE}(h:PC X op a b t)(h1:behindInMarks op b=false:=by first|exact lU _ (by decide) (by decide)|rfl):PT X (.Compare a [op] [b] pos) (tB t):=by
 intro pins s σ H Q I hw;refine wpAny_isTrue_Compare1 (thn (h pins s σ H _ I hw) λv s1 h1=>thn h1 λu s2 h2=>thn h2 λc s3 ⟨x,H1,I1,r1,q1⟩=>?_) h1;obtain⟨d,rfl,q⟩:=q1;cases r1
 exact wpAny_truthy_bool ⟨H1,I1,q⟩
theorem Em {e:Expr}{t:TE}(h:PE X e t)(he:∀whole,isTrue e X.env whole=(do let v ←whole;standAt e.pos;holding [v] (truthy v)):=by intro _;rfl):PT X e (tB t):=by
 intro pins s σ H Q I hw;refine isTrue_plain (thn (h pins s σ H _ I hw) λv s1 ⟨x,H1,I1,r1,q1⟩=>?_) (he _);obtain⟨d,rfl,q⟩:=q1;cases r1
 exact wpAny_truthy_bool ⟨H1,I1,q⟩
variable {tA tB':TT}{ay:List Expr}
def FY (t u:TT):TT:=λσ H Q=>t σ H λc H1=>if c=true then u σ H1 Q else Q false H1
def tOr (t u:TT):TT:=λσ H Q=>t σ H λc H1=>if c=true then Q true H1 else u σ H1 Q
def FZ (t:TT):TT:=λσ H Q=>t σ H λc H1=>Q (!c) H1
theorem BI (ha:PT X a tA):PW X (.BoolOp .And [a] pos) tA:=by
 intro wh pins s σ H Q I h;refine isTrue_and (thn (ha pins s σ H Q I h) λc s1 e=>?_);cases c with
 |true=>exact isTrue_and_nil e
 |false=>exact e
theorem En (ha:PT X a tA):PW X (.BoolOp .Or [a] pos) tA:=by
 intro wh pins s σ H Q I h;refine isTrue_or (thn (ha pins s σ H Q I h) λc s1 e=>?_);cases c with
 |false=>exact isTrue_or_nil e
 |true=>exact e
theorem Eo (ha:PT X a tA)(hb:PW X (.BoolOp .And (b::ay) pos) tB'):PW X (.BoolOp .And (a::b::ay) pos) (FY tA tB'):=by
 intro wh pins s σ H Q I h;refine isTrue_and (thn (ha pins s σ H _ I h) λc s1 ⟨H1,I1,q1⟩=>?_);cases c with
 |true=>exact hb wh pins s1 σ H1 Q I1 q1
 |false=>exact⟨H1,I1,q1⟩
theorem Ga (ha:PT X a tA)(hb:PW X (.BoolOp .Or (b::ay) pos) tB'):PW X (.BoolOp .Or (a::b::ay) pos) (tOr tA tB'):=by
 intro wh pins s σ H Q I h;refine isTrue_or (thn (ha pins s σ H _ I h) λc s1 ⟨H1,I1,q1⟩=>?_);cases c with
 |true=>exact⟨H1,I1,q1⟩
 |false=>exact hb wh pins s1 σ H1 Q I1 q1
theorem Ep (ha:PT X a tA):PT X (.UnaryOp .Not a pos) (FZ tA):=by
 intro pins s σ H Q I h;exact isTrue_not (ha pins s σ H (λc H1=>Q (!c) H1) I h)
def Gb (ta tb:TE):TE:=λσ H Q=>ta σ H λx H1=>∃c,x=.bl c/\if c=true then tb σ H1 Q else Q (.bl false) H1
def Hy (ta tb:TE):TE:=λσ H Q=>ta σ H λx H1=>∃c,x=.bl c/\if c=true then Q (.bl true) H1 else tb σ H1 Q
theorem Er {op}{t:TE}(h:PE X a t):PE X (.BoolOp op [a] pos) t:=λpins s σ H Q I hw=>BoolOp_one (h pins s σ H Q I hw)
theorem Es (ha:PE X a ta)(hb:PE X (.BoolOp .And (b::ay) pos) tb):PE X (.BoolOp .And (a::b::ay) pos) (Gb ta tb):=by
 intro pins s σ H Q I h;refine BoolOp_and (thn (ha pins s σ H _ I h) λv s1 ⟨x,H1,I1,r1,q1⟩=>?_);obtain⟨c,rfl,q1⟩:=q1;cases r1
 refine wpAny_truthy_bool ?_;cases c with
 |true=>exact hb pins s1 σ H1 Q I1 q1
 |false=>exact⟨.bl false,H1,I1,rfl,q1⟩
theorem Gc (ha:PE X a ta)(hb:PE X (.BoolOp .Or (b::ay) pos) tb):PE X (.BoolOp .Or (a::b::ay) pos) (Hy ta tb):=by
 intro pins s σ H Q I h;refine BoolOp_or (thn (ha pins s σ H _ I h) λv s1 ⟨x,H1,I1,r1,q1⟩=>?_);obtain⟨c,rfl,q1⟩:=q1;cases r1
 refine wpAny_truthy_bool ?_;cases c with
 |false=>exact hb pins s1 σ H1 Q I1 q1
 |true=>exact⟨.bl true,H1,I1,rfl,q1⟩
end
def SqL (K:PySem.W.Frag)(H:Hp)(a:Addr)(xs:List V):Prop :=
 Rd H a (.lst xs) ∨
  ∃(o:Obj)(its:Array Value)(n:Nat),K.lookup a=some o/\o.cls=.type "list"/\o.dict=none/\o.data=.seq its n/\its.size<=sizeLine/\aQ xs its.toList
def SqT (K:PySem.W.Frag)(H:Hp)(a:Addr)(xs:List V):Prop :=
 Rd H a (.tup xs) ∨
  ∃(o:Obj)(its:Array Value)(n:Nat),K.lookup a=some o/\o.cls=.type "tuple"/\o.data=.seq its n/\its.size<=sizeLine/\aQ xs its.toList
noncomputable def Hz:Value->Option V
 |.none=>some .non
 |.bool b=>some (.bl b)
 |.int i _=>some (.int i)
 |.str x _=>some (.str x)
 |.bytes b _=>some (.byt b)
 |.float b _=>some (.flt b)
 |.ref a=>some (.ref a)
 |.type n=>some (.ty n)
 |_=>none
theorem aS.abs {x:V}{u:Value}(r:aS x u):Hz u=some x:=by
 cases x with
 |non=>cases r;rfl
 |bl _=>cases r;rfl
 |int _=>obtain⟨t,rfl⟩:=r;rfl
 |str _=>obtain⟨t,rfl⟩:=r;rfl
 |byt _=>obtain⟨t,rfl⟩:=r;rfl
 |flt _=>obtain⟨t,rfl⟩:=r;rfl
 |ref _=>cases r;rfl
 |ty _=>cases r;rfl
theorem aS.inj {x y:V}{u:Value}(r:aS x u)(q:aS y u):x=y:=Option.some.inj (r.abs.symm.trans q.abs)
theorem aQ.inj:∀ {xs ys:List V}{us:List Value},aQ xs us->aQ ys us->xs=ys
 |_,_,_,.nil,.nil=>rfl
 |_,_,_,.cons r t,.cons r' t'=>by rw[r.inj r',aQ.inj t t']
section
variable {X:Cx}{pins:List (Addr×Obj)}{σ:St}{H:Hp}{s:Shared}{a:Addr}{xs ys:List V}
theorem SqL.of {K:PySem.W.Frag}(h:H a=some (.lst xs)):SqL K H a xs:=.inl (.inl h)
theorem SqT.of {K:PySem.W.Frag}(h:H a=some (.tup xs)):SqT K H a xs:=.inl (.inl h)
theorem Inv.list (I:Inv X pins σ H s)(h:SqL X.K H a xs):∃its:List Value,aQ xs its/\PlainL s.heap a its.toArray/\xs.length<=sizeLine:=by
 rcases h with h|⟨o,its,n,hk,hc,hd,hs,hz,r⟩
 ·obtain⟨z,its,n,r,e⟩:=h.ok I.hok;exact⟨its,r,⟨_,n,e,rfl,rfl,rfl⟩,z⟩
 ·refine⟨its.toList,r,⟨o,n,I.kIn a o hk,hc,hd,by simpa using hs⟩,?_⟩;have e:=r.length;simp only[Array.length_toList]at e;omega
theorem Inv.tuple (I:Inv X pins σ H s)(h:SqT X.K H a xs):∃its:List Value,aQ xs its/\IsTup s.heap a its.toArray/\xs.length<=sizeLine:=by
 rcases h with h|⟨o,its,n,hk,hc,hs,hz,r⟩
 ·obtain⟨z,its,r,p⟩:=h.ok I.hok;exact⟨its,r,p,z⟩
 ·refine⟨its.toList,r,⟨o,I.kIn a o hk,hc,n,by simpa using hs⟩,?_⟩;have e:=r.length;simp only[Array.length_toList]at e;omega
theorem Inv.list_inj (I:Inv X pins σ H s)(h:SqL X.K H a xs)(h':SqL X.K H a ys):xs=ys:=by
 obtain⟨its,r,⟨o,n,e,_,_,d⟩,_⟩:=I.list h;obtain⟨its',r',⟨o',n',e',_,_,d'⟩,_⟩:=I.list h';rw[e]at e';cases e';rw[d]at d';injection d' with d1 _;have:its=its':=by simpa using congrArg Array.toList d1
 subst this;exact r.inj r'
theorem Inv.tuple_inj (I:Inv X pins σ H s)(h:SqT X.K H a xs)(h':SqT X.K H a ys):xs=ys:=by
 obtain⟨its,r,⟨o,e,_,n,d⟩,_⟩:=I.tuple h;obtain⟨its',r',⟨o',e',_,n',d'⟩,_⟩:=I.tuple h';rw[e]at e';cases e';rw[d]at d';injection d' with d1 _;have:its=its':=by simpa using congrArg Array.toList d1
 subst this;exact r.inj r'
end
noncomputable abbrev Cx.wish (X:Cx)(E:Value->Shared->Prop):Cx:={ X with xe:=E }
noncomputable abbrev Cx.nox (X:Cx):Cx:=X.wish λ_ _=>False
theorem Cx.Ok.wish {X:Cx}(ok:X.Ok)(E:Value->Shared->Prop):(X.wish E).Ok :=
 ⟨ok.mod,ok.kind,ok.glob,ok.blt,ok.above,ok.inj,ok.has,ok.cab,ok.hd,ok.frames,ok.stk,ok.exf,ok.bs,ok.bsz,ok.noex,ok.exfs,ok.funs,ok.frf⟩
theorem Cx.Ok.unwish {X:Cx}{E:Value->Shared->Prop}(ok:(X.wish E).Ok):X.Ok :=
 ⟨ok.mod,ok.kind,ok.glob,ok.blt,ok.above,ok.inj,ok.has,ok.cab,ok.hd,ok.frames,ok.stk,ok.exf,ok.bs,ok.bsz,ok.noex,ok.exfs,ok.funs,ok.frf⟩
section
variable {X:Cx}{pins:List (Addr×Obj)}{σ:St}{H:Hp}{s:Shared}{E:Value->Shared->Prop}
theorem Inv.wish (I:Inv X pins σ H s)(E:Value->Shared->Prop):Inv (X.wish E) pins σ H s:=⟨I.ok.wish E,I.os,I.bare,I.base,I.loc,I.cell,I.free,I.freeC,I.pin,I.hok,I.len⟩
theorem Inv.unwish (I:Inv (X.wish E) pins σ H s):Inv X pins σ H s:=⟨I.ok.unwish,I.os,I.bare,I.base,I.loc,I.cell,I.free,I.freeC,I.pin,I.hok,I.len⟩
theorem SP.unwish {D:Ends}{f:Flow}{s':Shared}(h:SP (X.wish E) pins D f s'):SP X pins D f s':=by
 cases f with
 |next=>obtain⟨σ',H',I,q⟩:=h;exact⟨σ',H',I.unwish,q⟩
 |brk=>obtain⟨σ',H',I,q⟩:=h;exact⟨σ',H',I.unwish,q⟩
 |cont=>obtain⟨σ',H',I,q⟩:=h;exact⟨σ',H',I.unwish,q⟩
 |ret u=>obtain⟨v,σ',H',I,r,q⟩:=h;exact⟨v,σ',H',I.unwish,r,q⟩
theorem PSs.nox {st:List Stmt}{t:TS}(h:PSs X.nox st t):PSs X st t:=λpins s σ H D I hw=>
 wpAny_mono (h pins s σ H D (I.wish _) hw) (λ_ _ q=>q.unwish) λ_ _ z=>False.elim z
end
section
variable {X:Cx}{st:Stmt}{ay:List Stmt}{t u:TS}{e:Expr}{te:TE}{pos:Pos}
def Dv:TS:=λD σ H=>D.nx σ H
def Gd (t u:TS):TS:=λD σ H=>t { D with nx:=u D } σ H
theorem BJ:PSs X [] Dv:=λ_ _ σ H _ I h=>wpAny_execs_nil ⟨σ,H,I,h⟩
theorem zp (h1:PS X st t)(h2:PSs X ay u):PSs X (st::ay) (Gd t u):=by
 intro pins s σ H D I h;refine wpAny_execs_cons (thn (h1 pins s σ H { D with nx:=u D } I h) λf s1 q=>?_);cases f with
 |next=>
  obtain⟨σ',H',I',q⟩:=q;exact h2 pins s1 σ' H' D I' q
 |ret v=>exact q
 |brk=>exact q
 |cont=>exact q
theorem BK (h1:PS X st t):PSs X [st] t:=by
 intro pins s σ H D I h;refine wpAny_execs_cons (thn (h1 pins s σ H D I h) λf s1 q=>?_);cases f with
 |next=>exact wpAny_execs_nil q
 |ret v=>exact q
 |brk=>exact q
 |cont=>exact q
def Ge:TS:=λD σ H=>D.ct σ H
theorem rP:PS X (.Continue pos) Ge:=λ_ _ σ H _ I h=>wpAny_Continue ⟨σ,H,I,h⟩
theorem Inv.quiet {pins:List (Addr×Obj)}{σ:St}{H:Hp}{s:Shared}(I:Inv X pins σ H s):interactive X.env=false:=by simp[interactive,I.ok.kind]
def Gf (te:TE):TS:=λD σ H=>te σ H λ_ H1=>D.nx σ H1
theorem BL (he:PE X e te)(hs:swapsWith e none pos.line X.env=pure false:=by rfl):PS X (.Expr e pos) (Gf te):=by
 intro pins s σ H D I h;exact wpAny_Expr_any (thn (he pins s σ H _ I h) λv s1 ⟨x,H1,I1,r1,q1⟩=>⟨σ,H1,I1,q1⟩) I.quiet hs
def Et (te:TE):TS:=λD σ H=>te σ H D.rt
theorem zq (he:PE X e te):PS X (.Return (some e) pos) (Et te):=by
 intro pins s σ H D I h;exact wpAny_Return_some (thn (he pins s σ H _ I h) λv s1 ⟨x,H1,I1,r1,q1⟩=>⟨x,σ,H1,I1,r1,q1⟩)
def Gg (c:TT)(t u:TS):TS:=λD σ H=>c σ H λb H1=>if b=true then t D σ H1 else u D σ H1
theorem Gh {c:Expr}{a b:List Stmt}{tc:TT}(hc:PT X c tc)(ha:PSs X a t)(hb:PSs X b u):PS X (.If c a b pos) (Gg tc t u):=by
 intro pins s σ H D I h;refine wpAny_If (thn (hc pins s σ H _ I h) λd s1 ⟨H1,I1,q1⟩=>?_);cases d with
 |true=>exact ha pins s1 σ H1 D I1 q1
 |false=>exact hb pins s1 σ H1 D I1 q1
end
abbrev TG:=V->St->Hp->(St->Hp->Prop)->Prop
abbrev TGs:=List V->St->Hp->(St->Hp->Prop)->Prop
def PG (X:Cx)(target:Expr)(t:TG):Prop :=
 ∀(pins:List (Addr×Obj))(s:Shared)(σ:St)(H:Hp)(v:V)(u:Value)(Q:St->Hp->Prop),Inv X pins σ H s->aS v u->t v σ H Q ->
  wpAny (model X.prog X.w) X.A (assign target X.env u) (λ_ s'=>∃σ' H',Inv X pins σ' H' s'/\Q σ' H') X.xe s
def PGs (X:Cx)(ts:List Expr)(t:TGs):Prop :=
 ∀(pins:List (Addr×Obj))(s:Shared)(σ:St)(H:Hp)(vs:List V)(us:List Value)(Q:St->Hp->Prop),Inv X pins σ H s->aQ vs us->t vs σ H Q ->
  wpAny (model X.prog X.w) X.A (assignInOrder ((assignEach ts X.env).map (·.2)) us) (λ_ s'=>∃σ' H',Inv X pins σ' H' s'/\Q σ' H') X.xe s
abbrev Eu:=V->V->V->Hp->(Hp->Prop)->Prop
def Gi (X:Cx)(t:Eu):Prop :=
 ∀(pins:List (Addr×Obj))(s:Shared)(σ:St)(H:Hp)(o i v:V)(ov iv u:Value)(Q:Hp->Prop),Inv X pins σ H s->aS o ov->aS i iv->aS v u->t o i v H Q ->
  wpAny (model X.prog X.w) X.A (setItem ov iv u) (λ_ s'=>∃H',Inv X pins σ H' s'/\Q H') X.xe s
section
variable {X:Cx}{pos:Pos}
def ie (i:Nat):TG:=λv σ H Q=>Q (σ.set i (some v)) H
theorem wm {i:Nat}{x:Str}(hN:X.N.Nodup)(hi:X.N[i]? = some x)(hx:Loc X.env.scope x)(hf:X.fn x=true∨X.env.scope.names.lookup x=some .local:=by first|exact .inl rfl|exact .inr rfl|assumption):PG X (.Name x pos) (ie i):=by
 intro pins s σ H v u Q I r h;exact wpAny_assign_Name (rO I hN hi hx r (λs' I'=>⟨_,H,I',h⟩) hf)
def Gj:TGs:=λvs σ H Q=>vs=[]/\Q σ H
def Dw (t:TG)(u:TGs):TGs:=λvs σ H Q=>∃v r,vs=v::r/\t v σ H λσ' H'=>u r σ' H' Q
theorem qi:PGs X [] Gj:=by
 intro pins s σ H vs us Q I r h;obtain⟨e,h⟩:=h;subst e;cases r
 exact assignInOrder_nil ⟨σ,H,I,h⟩
theorem gk {e:Expr}{es:List Expr}{t:TG}{u:TGs}(h1:PG X e t)(h2:PGs X es u)
  (hs:(assignEach (e::es) X.env).map (·.2)=assign e X.env::(assignEach es X.env).map (·.2):=by rfl):PGs X (e::es) (Dw t u):=by
 intro pins s σ H vs us Q I r h;obtain⟨v,vr,e1,h⟩:=h;subst e1;cases r with
 |cons r rr=>
  rw[hs];refine assignInOrder_cons (thn (h1 pins s σ H _ _ _ I r h) λ_ s1 ⟨σ1,H1,I1,q1⟩=>?_);exact h2 pins s1 σ1 H1 _ _ Q I1 rr q1
def Ev (K:PySem.W.Frag)(n:Nat)(t:TGs):TG:=λv σ H Q=>∃a xs,v=.ref a/\SqT K H a xs/\xs.length=n/\t xs σ H Q
theorem uI {es:List Expr}{k:Nat}{t:TGs}{n:Nat}(hc:X.calm=true)(h:PGs X es t)
  (hn:(assignEach es X.env).length=n:=by rfl) (hst:(assignEach es X.env).findIdx? (·.1)=none:=by rfl):PG X (.Tuple es k pos) (Ev X.K n t):=by
 intro pins s σ H v u Q I r hw;obtain⟨a,xs,e1,hq,hl,hw⟩:=hw;subst e1;cases r
 obtain⟨its,rv,ht,hz⟩:=I.tuple hq;refine assign_Tuple_tuple (I.ok.hd hc) ht (by simp[hn,←hl,rv.length]) hst λh' hx=>?_;have I1:Inv X pins σ H { s with heap:=h' }:=I.kept (t':=s.toks) λb o e=>hx b o (Nat.ne_of_lt (Heap.lt_size e)) e;exact h pins _ σ H xs _ Q I1 (by simpa using rv) hw
def HA (to ti:TE)(t:Eu):TG:=λv σ H Q=>to σ H λo H1=>ti σ H1 λi H2=>t o i v H2 λH3=>Q σ H3
theorem Ew {o i:Expr}{to ti:TE}{t:Eu}(ho:PE X o to)(hi:PE X i ti)(hs:Gi X t)
  (ha:∀v,assign (.Subscript o i pos) X.env v=(do
   let ov ←holding [v] (eval o X.env)
   let iv ←holding [v,ov] (eval i X.env)
   standAt pos
   holding [v,ov,iv] (setItem ov iv v)
   release [v,ov,iv] []):=by intro _;rfl):PG X (.Subscript o i pos) (HA to ti t):=by
 intro pins s σ H v u Q I r h;rw[ha];refine wX (wpAny_holding (thn (ho pins s σ H _ I h) λov s1 ⟨x,H1,I1,r1,q1⟩=>?_));refine wX (wpAny_holding (thn (hi pins s1 σ H1 _ I1 q1) λiv s2 ⟨y,H2,I2,r2,q2⟩=>?_));refine wX (wpAny_standAt (wX (wpAny_holding (thn (hs pins s2 σ H2 x y v ov iv u _ I2 r1 r2 r q2) λ_ s3 ⟨H3,I3,q3⟩=>?_))));exact wpAny_release ⟨σ,H3,I3,q3⟩
def xZ (te:TE)(g:TG):TS:=λD σ H=>te σ H λx H1=>g x σ H1 D.nx
theorem Ex {tg e:Expr}{te:TE}{g:TG}(he:PE X e te)(hg:PG X tg g)(hs:swapsWithSole [tg] e pos.line X.env=pure false:=by rfl)(hw:swappedStores [tg] e X.env=pure none:=by rfl)
  (h1:(assignEach [tg] X.env).map (·.2)=[assign tg X.env]:=by rfl):PS X (.Assign [tg] e pos) (xZ te g):=by
 intro pins s σ H D I h;refine wpAny_Assign_stores (thn (he pins s σ H _ I h) λv s1 ⟨x,H1,I1,r1,q1⟩=>?_) hs hw;rw[h1];exact thn (hg pins s1 σ H1 x v _ I1 r1 q1) λ_ s2 q=>q
theorem uJ {i:Nat}{x:Str}{e:Expr}{te:TE}{pos':Pos}(hN:X.N.Nodup)(hi:X.N[i]? = some x)(hx:Loc X.env.scope x)(he:PE X e te)(hs:swapsWith e (some (.Name x pos')) pos.line X.env=pure false:=by rfl)(hf:X.fn x=true∨X.env.scope.names.lookup x=some .local:=by first|exact .inl rfl|exact .inr rfl|assumption):
  PS X (.Assign [.Name x pos'] e pos) (xZ te (ie i)):=by
 intro pins s σ H D I h;refine wpAny_Assign_Name (thn (he pins s σ H _ I h) λv s1 ⟨y,H1,I1,r1,q1⟩=>?_) hs;exact rO I1 hN hi hx r1 (λs2 I2=>⟨_,H1,I2,q1⟩) hf
end
structure It where
 go:Nat->Hp->Prop
 yld:Nat->Hp->V->Hp->Prop
 stop:Nat->Hp->Prop
def ko (X:Cx)(pins:List (Addr×Obj))(H:Hp)(b:Addr):Prop :=
 H b=none/\b≠X.env.locals/\b∉X.fs/\(b∈X.ex∨X.s₀.heap.objs.size<=b)/\(∀x c,X.env.cells.lookup x=some c->c≠b)/\∀p∈X.pn++pins,p.1≠b
theorem Inv.fpOk {X:Cx}{pins:List (Addr×Obj)}{σ:St}{H H':Hp}{s:Shared}{b:Addr}(I:Inv X pins σ H s)(hb:s.heap.objs.size<=b)(hn:H' b=none):ko X pins H' b:=by
 refine⟨hn,Nat.ne_of_gt (Nat.lt_of_lt_of_le I.lt hb),I.nofs hb,.inr (Nat.le_trans I.sz hb),λx c e z=>?_,λp hp z=>?_⟩
 ·obtain⟨v,q⟩:=I.cell x c e;exact absurd (Nat.lt_of_lt_of_le q.lt (by rw[z];exact hb)) (Nat.lt_irrefl _)
 ·exact absurd (Nat.lt_of_lt_of_le (Heap.lt_size (I.pin p hp).1) (by rw[z];exact hb)) (Nat.lt_irrefl _)
structure Turn (P:Program)(w:World)(K:PySem.W.Frag)(tg:Expr)(J:It)(fp:List Addr)(it:Addr)(tn:Nat->Heap->Prop):Prop where
 mem:it∈fp
 obj:∀i h,tn i h->∀b∈fp,∃o,h.get? b=some o/\∀v,o.data≠.cell v
 keep:∀i h h',tn i h->(∀b∈fp,∀o,h.get? b=some o->h'.get? b=some o)->tn i h'
 item:∀(X:Cx),X.prog=P->X.w=w->X.K=K->X.calm=true->∀(i:Nat)(pins:List (Addr×Obj))(s:Shared)(σ:St)(H:Hp)(E:Value->Shared->Prop),Inv X pins σ H s->(∀b∈fp,ko X pins H b)->tn i s.heap->J.go i H ->
  wpAny (model P w) X.A (pyNext (.ref it)) (λr s1=>∃u,r=some u /\
   wpAny (model P w) X.A (letOwnedTupleGo tg (.ref it) u) (λ_ s2=>∃x H',Inv X pins σ H' s2/\aS x u/\J.yld i H x H'/\tn (i+1) s2.heap/\∀b∈fp,H' b=none) E s1) E s
 done:∀(X:Cx),X.prog=P->X.w=w->X.K=K->X.calm=true->∀(i:Nat)(pins:List (Addr×Obj))(s:Shared)(σ:St)(H:Hp)(E:Value->Shared->Prop),Inv X pins σ H s->(∀b∈fp,ko X pins H b)->tn i s.heap->J.stop i H ->
  wpAny (model P w) X.A (pyNext (.ref it)) (λr s1=>r=none/\Inv X pins σ H s1) E s
 self:∀(A:Around)(i:Nat)(s:Shared)(Q:Value->Shared->Prop)(E:Value->Shared->Prop),tn i s.heap->Q (.ref it) s->wpAny (model P w) A (pyIter (.ref it)) Q E s
abbrev TI:=St->Hp->(It->Hp->Prop)->Prop
def PIE (X:Cx)(pins:List (Addr×Obj))(σ:St)(tg:Expr)(R:It->Hp->Prop)(itv:Value)(s2:Shared):Prop :=
 ∃(it:Addr)(fp:List Addr)(tn:Nat->Heap->Prop)(J:It)(H':Hp),itv=.ref it/\Inv X pins σ H' s2/\Turn X.prog X.w X.K tg J fp it tn/\tn 0 s2.heap/\(∀b∈fp,ko X pins H' b)/\R J H'
def PI (X:Cx)(tg iter:Expr)(wi:TI):Prop :=
 ∀(pins:List (Addr×Obj))(s:Shared)(σ:St)(H:Hp)(R:It->Hp->Prop),Inv X pins σ H s->wi σ H R ->
  wpAny (model X.prog X.w) X.A (eval iter X.env) (λv s1=>wpAny (model X.prog X.w) X.A (pyIter v) (PIE X pins σ tg R) X.xe s1) X.xe s
theorem oJ {M:Model}{A:Around}{E:Value->Shared->Prop}{s:Shared}{tg:Expr}{it:Addr}{u:Value}{o:Obj}{n:String}{vs:Array Value}{Q:Unit->Shared->Prop}(ho:s.heap.get? it=some o)(hc:o.cls=.type n)(hd:o.data=.fields vs)
    (hn:["enumerate","zip","dict_itemiterator","dict_reverseitemiterator","odict_iterator","itertools.zip_longest","itertools.pairwise"].contains n=false) (hQ:Q () s):wpAny M A (letOwnedTupleGo tg (.ref it) u) Q E s:=by
  unfold letOwnedTupleGo;cases tg<;>first
    |exact wY hQ
    | (cases u<;>first
        |exact wY hQ
        | (refine wX (wpAny_load ho ?_)
           rw[hc,hd]
           show wpAny M A (if(["enumerate","zip","dict_itemiterator","dict_reverseitemiterator","odict_iterator","itertools.zip_longest","itertools.pairwise"].contains n && vs[0]? == some (rawInt _))=true then _ else _) Q E s
           rw[if_neg (by intro h;rw[hn,Bool.false_and]at h;cases h)]
           exact wY hQ))
noncomputable def Itl (K:PySem.W.Frag)(a:Addr):It :=
 ⟨λi H=>∃xs x,SqL K H a xs/\xs[i]? = some x,λi H x H'=>H'=H/\∀xs,SqL K H a xs->xs[i]? = some x,λi H=>∃xs,SqL K H a xs/\xs.length<=i⟩
noncomputable def Itt (K:PySem.W.Frag)(a:Addr):It :=
 ⟨λi H=>∃xs x,SqT K H a xs/\xs[i]? = some x,λi H x H'=>H'=H/\∀xs,SqT K H a xs->xs[i]? = some x,λi H=>∃xs,SqT K H a xs/\xs.length<=i⟩
noncomputable def Itr (lo:Int)(n:Nat):It:=⟨λi _=>i<n,λi H x H'=>H'=H/\x=.int (lo+i),λi _=>n<=i⟩
theorem ya {P:Program}{w:World}{K:PySem.W.Frag}{tg:Expr}(a it:Addr):Turn P w K tg (Itl K a) [it] it (λi h=>h.IsListIter it a i) where
 mem:=by simp
 obj:=λi h st b hb=>by
  have e:b=it:=by simpa using hb
  subst e;obtain⟨o,e,c,d⟩:=st;exact⟨o,e,λv z=>by rw[d]at z;cases z⟩
 keep:=λi h h' st k=>st.at λo e=>k it (by simp) o e
 item:=by
  intro X hP hw hK hc i pins s σ H E I hf st hg;subst hP hw hK;obtain⟨xs,x,hq,hx⟩:=hg;obtain⟨its,rv,p,hz⟩:=I.list hq;obtain⟨u,hu,ru⟩:=rv.get hx;obtain⟨f0,f1,f2,f3,f4,f5⟩:=hf it (by simp);refine wpAny_pyNext_list_item st p.isList (x:=u) (by simpa using hu) λh' st' sb=>?_;have I1:Inv X pins σ H { s with heap:=h' }:=I.turned (t':=s.toks) (λb o hb e=>(sb.2 b hb).trans e) f0 f1 f3 f4 f5;obtain⟨o,e,c,d⟩:=id st';exact⟨u,rfl,oJ (s:={ s with heap:=h' }) e c d (by decide) ⟨x,H,I1,ru,⟨rfl,λys hy=>by rw[I.list_inj hy hq];exact hx⟩,st',λb hb=>(hf b hb).1⟩⟩
 done:=by
  intro X hP hw hK hc i pins s σ H E I hf st hg;subst hP hw hK;obtain⟨xs,hq,hx⟩:=hg;obtain⟨its,rv,p,hz⟩:=I.list hq;obtain⟨f0,f1,f2,f3,f4,f5⟩:=hf it (by simp);have hl:=rv.length;exact wpAny_pyNext_list_end (I.ok.hd hc) st p.isList (by simp;omega) λh' eb=>⟨rfl,I.turned (t':=s.toks) (λb o hb e=>eb b o hb e) f0 f1 f3 f4 f5⟩
 self:=λ_ _ _ _ _ st h=>wpAny_pyIter_listiter st h
theorem uK {P:Program}{w:World}{K:PySem.W.Frag}{tg:Expr}(a it:Addr):Turn P w K tg (Itt K a) [it] it (λi h=>h.IsTupleIter it a i) where
 mem:=by simp
 obj:=λi h st b hb=>by
  have e:b=it:=by simpa using hb
  subst e;obtain⟨o,e,c,d⟩:=st;exact⟨o,e,λv z=>by rw[d]at z;cases z⟩
 keep:=λi h h' st k=>st.at λo e=>k it (by simp) o e
 item:=by
  intro X hP hw hK hc i pins s σ H E I hf st hg;subst hP hw hK;obtain⟨xs,x,hq,hx⟩:=hg;obtain⟨its,rv,p,hz⟩:=I.tuple hq;obtain⟨u,hu,ru⟩:=rv.get hx;obtain⟨f0,f1,f2,f3,f4,f5⟩:=hf it (by simp);refine wpAny_pyNext_tuple_item st (show s.heap.IsTuple a its.toArray from p) (x:=u) (by simpa using hu) λh' st' sb=>?_;have I1:Inv X pins σ H { s with heap:=h' }:=I.turned (t':=s.toks) (λb o hb e=>(sb.2 b hb).trans e) f0 f1 f3 f4 f5;obtain⟨o,e,c,d⟩:=id st';exact⟨u,rfl,oJ (s:={ s with heap:=h' }) e c d (by decide) ⟨x,H,I1,ru,⟨rfl,λys hy=>by rw[I.tuple_inj hy hq];exact hx⟩,st',λb hb=>(hf b hb).1⟩⟩
 done:=by
  intro X hP hw hK hc i pins s σ H E I hf st hg;subst hP hw hK;obtain⟨xs,hq,hx⟩:=hg;obtain⟨its,rv,p,hz⟩:=I.tuple hq;obtain⟨f0,f1,f2,f3,f4,f5⟩:=hf it (by simp);have hl:=rv.length;exact wpAny_pyNext_tuple_end (I.ok.hd hc) st (show s.heap.IsTuple a its.toArray from p) (by simp;omega) λh' eb=>⟨rfl,I.turned (t':=s.toks) (λb o hb e=>eb b o hb e) f0 f1 f3 f4 f5⟩
 self:=λ_ _ _ _ _ st h=>wpAny_pyIter_tupleiter st h
theorem uL {P:Program}{w:World}{K:PySem.W.Frag}{tg:Expr}(it:Addr)(lo:Int)(n:Nat):Turn P w K tg (Itr lo n) [it] it (λi h=>IsRangeIter h it (lo+(i:Nat)*1) ((n:Int) - (i:Nat)) 1) where
 mem:=by simp
 obj:=λi h st b hb=>by
  have e:b=it:=by simpa using hb
  subst e;exact⟨_,st,λv z=>by
   have z':Data.fields _=Data.cell v:=z;cases z'⟩
 keep:=λi h h' st k=>k it (by simp) _ st
 item:=by
  intro X hP hw hK hc i pins s σ H E I hf st hg;subst hP hw hK;obtain⟨f0,f1,f2,f3,f4,f5⟩:=hf it (by simp);have W:=Walks.range (prog:=X.prog) (w:=X.w) (I.ok.hd hc) it lo 1 n;refine W.item i s _ _ hg st λv h' tk hv st' kk=>?_;obtain⟨t,rfl⟩:=hv;have I1:Inv X pins σ H { s with heap:=h',toks:=tk }:=I.turned (λb o hb e=>kk b o (by simpa using hb) e) f0 f1 f3 f4 f5;refine⟨_,rfl,oJ (s:={ s with heap:=h',toks:=tk }) (n:="range_iterator") st' rfl rfl (by decide) ⟨.int (lo+i),H,I1,⟨t,?_⟩,⟨rfl,rfl⟩,st',λb hb=>(hf b hb).1⟩⟩;rw[Int.mul_one]
 done:=by
  intro X hP hw hK hc i pins s σ H E I hf st hg;subst hP hw hK;obtain⟨f0,f1,f2,f3,f4,f5⟩:=hf it (by simp);exact wpAny_pyNext_range_end (I.ok.hd hc) st (by have:n<=i:=hg;omega) λh' eb=>⟨rfl,I.turned (t':=s.toks) (λb o hb e=>eb b o hb e) f0 f1 f3 f4 f5⟩
 self:=λ_ _ _ _ _ st h=>wpAny_pyIter_rangeiter st h
section
variable {X:Cx}{tg:Expr}
def Gk (K:PySem.W.Frag)(tl:TE):TI:=λσ H R=>tl σ H λx H1=>∃a,x=.ref a/\(∃xs,SqL K H1 a xs)/\R (Itl K a) H1
def HB (K:PySem.W.Frag)(tl:TE):TI:=λσ H R=>tl σ H λx H1=>∃a,x=.ref a/\(∃xs,SqT K H1 a xs)/\R (Itt K a) H1
theorem BM {l:Expr}{tl:TE}(hl:PE X l tl):PI X tg l (Gk X.K tl):=by
 intro pins s σ H R I h;refine thn (hl pins s σ H _ I h) λv s1 ⟨x,H1,I1,r1,q1⟩=>?_;obtain⟨a,e,⟨xs,hq⟩,q⟩:=q1;subst e;cases r1
 obtain⟨its,rv,p,hz⟩:=I1.list hq;refine wpAny_pyIter_list p.isList ?_;refine⟨s1.heap.objs.size,[s1.heap.objs.size],_,_,H1,rfl,I1.kept (t':=s1.toks) λb o e=>Heap.get?_push_of_some _ e,ya a _,⟨_,Heap.get?_push_size _ rfl,rfl,rfl⟩,λb hb=>?_,q⟩;have e:b=s1.heap.objs.size:=by simpa using hb
 subst e;exact I1.fpOk (Nat.le_refl _) (I1.hok.fresh (Nat.le_refl _))
theorem Ey {l:Expr}{tl:TE}(hl:PE X l tl):PI X tg l (HB X.K tl):=by
 intro pins s σ H R I h;refine thn (hl pins s σ H _ I h) λv s1 ⟨x,H1,I1,r1,q1⟩=>?_;obtain⟨a,e,⟨xs,hq⟩,q⟩:=q1;subst e;cases r1
 obtain⟨its,rv,p,hz⟩:=I1.tuple hq;refine wpAny_pyIter_tuple (show s1.heap.IsTuple a its.toArray from p) ?_;refine⟨s1.heap.objs.size,[s1.heap.objs.size],_,_,H1,rfl,I1.kept (t':=s1.toks) λb o e=>Heap.get?_push_of_some _ e,uK a _,⟨_,Heap.get?_push_size _ rfl,rfl,rfl⟩,λb hb=>?_,q⟩;have e:b=s1.heap.objs.size:=by simpa using hb
 subst e;exact I1.fpOk (Nat.le_refl _) (I1.hok.fresh (Nat.le_refl _))
theorem zu {pins:List (Addr×Obj)}{σ:St}{H:Hp}{s:Shared}{R:It->Hp->Prop}{E:Value->Shared->Prop}{lo hi:Int}{t u v:Tok}{tk:Nat}(I:Inv X pins σ H s)(h1 : -(2 ^ 62)<=lo)(h2:lo<2 ^ 62)(h3 : -(2 ^ 62)<=hi)(h4:hi<2 ^ 62)
  (q:R (Itr lo (hi - lo).toNat) H):wpAny (model X.prog X.w) X.A (pyIter (.ref s.heap.objs.size)) (PIE X pins σ tg R) E { s with heap:=s.heap.push { cls:=.type "range",data:=.fields #[.int lo t,.int hi u,.int 1 v] },toks:=tk }:=by
 refine wpAny_pyIter_range (IsRange.new ..) (small_one h1 h2 h3 h4) ?_;have I1:Inv X pins σ H { s with heap:=s.heap.push { cls:=.type "range",data:=.fields #[.int lo t,.int hi u,.int 1 v] },toks:=tk }:=I.kept λb o e=>Heap.get?_push_of_some _ e;refine⟨(s.heap.push { cls:=.type "range",data:=.fields #[.int lo t,.int hi u,.int 1 v] }).objs.size,[(s.heap.push { cls:=.type "range",data:=.fields #[.int lo t,.int hi u,.int 1 v] }).objs.size],_,_,H,rfl,
  I1.kept (t':=tk) λb o e=>Heap.get?_push_of_some _ e,uL _ lo (hi - lo).toNat,?_,λb hb=>?_,q⟩
 ·have e1:lo+((0:Nat):Int)*1=lo:=by simp
  have e2:(((hi - lo).toNat:Nat):Int) - ((0:Nat):Int)=Builtin.Range.rangeSize lo hi 1:=by rw[rangeSize_one];split<;>omega
  show IsRangeIter _ _ (lo+((0:Nat):Int)*1) ((((hi - lo).toNat:Nat):Int) - ((0:Nat):Int)) 1;rw[e1,e2];exact Heap.get?_push_size _ rfl
 ·have e:b=(s.heap.push { cls:=.type "range",data:=.fields #[.int lo t,.int hi u,.int 1 v] }).objs.size:=by simpa using hb
  subst e;exact I1.fpOk (Nat.le_refl _) (I1.hok.fresh (Nat.le_refl _))
def Gm (ta:TA):TI:=λσ H R=>ta σ H λvs H1=>∃j:Int,vs=[.int j]/\-(2 ^ 62)<=j/\j<2 ^ 62/\R (Itr 0 j.toNat) H1
theorem yc {a:Expr}{ta:TA}{p pos:Pos}(hg:Gl X "range")(hm:X.mg "range" = none)(ha:PA X [a] ta)(hs:starEach [a] X.env=[(false,eval a X.env)]:=by rfl):PI X tg (.Call (.Name "range" p) [a] [] pos) (Gm ta):=by
 intro pins s σ H R I h;refine Call_ (jj I hg hm boot_range (PyProof.Rows.callWith_type1 (thn (ha pos pins s σ H _ I h) λus s1 ⟨vs,H1,I1,r1,q1⟩=>?_) hs rfl));obtain⟨j,e,q1,q2,q⟩:=q1;subst e;cases r1 with
 |cons r rr=>
  cases rr
  obtain⟨t,rfl⟩:=r;exact call_range_1 (zu I1 (by omega) (by omega) q1 q2 (by simpa using q))
def Ez (wi:TI)(g:TG)(tb:TS):TS:=λD σ H=>wi σ H λJ H1=>∃W:Nat->Nat->St->Hp->Prop,(∃m,W 0 m σ H1)/\∀i m σ H,W i m σ H ->
 (J.stop i H/\D.nx σ H)∨(J.go i H/\∃N:St->Hp->Prop,(∀σ' H',N σ' H'->∃m',m'<m/\W (i+1) m' σ' H')/\∀x H',J.yld i H x H'->g x σ H' λσ2 H2=>tb { D with nx:=N,ct:=N,bk:=D.nx } σ2 H2)
noncomputable def kq (fp:List Addr)(h:Heap):List (Addr×Obj):=fp.filterMap λb=>(h.get? b).map λo=>(b,o)
theorem gH {fp:List Addr}{h:Heap}{b:Addr}{o:Obj}(hb:b∈fp)(e:h.get? b=some o):(b,o)∈kq fp h:=List.mem_filterMap.mpr ⟨b,hb,by rw[e];rfl⟩
theorem ye {fp:List Addr}{h:Heap}{p:Addr×Obj}(hp:p∈kq fp h):p.1∈fp/\h.get? p.1=some p.2:=by
 obtain⟨b,hb,e⟩:=List.mem_filterMap.mp hp;cases q:h.get? b with
 |none=>rw[q]at e;cases e
 |some o=>
  rw[q]at e;have e':(b,o)=p:=Option.some.inj e;subst e';exact⟨hb,q⟩
theorem Inv.pinned {pins:List (Addr×Obj)}{σ:St}{H:Hp}{s:Shared}{fp:List Addr}(I:Inv X pins σ H s)(hf:∀b∈fp,ko X pins H b)(ho:∀b∈fp,∃o,s.heap.get? b=some o/\∀v,o.data≠.cell v):Inv X (pins++kq fp s.heap) σ H s :=
 I.pins_of λp hp=>(List.mem_append.mp hp).elim (λz=>I.pin p (mY _ z)) λz=>by
  obtain⟨hb,e⟩:=ye z;obtain⟨f0,f1,f2,_⟩:=hf p.1 hb;obtain⟨o,e',d⟩:=ho p.1 hb;rw[e]at e';cases e';exact⟨e,f0,f1,f2,d⟩
theorem Inv.unpinned {pins pl:List (Addr×Obj)}{σ:St}{H:Hp}{s:Shared}(I:Inv X (pins++pl) σ H s):Inv X pins σ H s:=I.pins_of λp hp=>I.pin p (mY _ (List.mem_append_left _ hp))
theorem zv {iter:Expr}{body:List Stmt}{wi:TI}{g:TG}{tb:TS}{pos:Pos}(hp:PassesOwn (model X.prog X.w) X.A X.env X.xe)(hc:X.calm=true)(hi:PI X tg iter wi)(hg:PG X tg g)(hb:PSs X body tb)
  (hs:∀x,foldedSetIterable iter X.env x=pure x:=by intro _;rfl):PS X (.For tg iter body [] pos) (Ez wi g tb):=by
 intro pins s σ H D I h;refine wpAny_For (thn (hi pins s σ H _ I h) λv s1 h1=>thn h1 λitv s2 h2=>?_) hs;obtain⟨it,fp,tn,J,H2,e,I2,T,st2,f2,W,⟨m0,w0⟩,turn⟩:=h2;subst e
 -- what stays true of the iterator's objects through the loop
 have stat:∀ {H':Hp},(∀b∈fp,H' b=none)->∀b∈fp,ko X pins H' b:=λhn b hb=>⟨hn b hb,(f2 b hb).2⟩;refine codeAny_forLoop_any (λn s'=>∃i σ' H',Inv X pins σ' H' s'/\tn i s'.heap/\(∀b∈fp,H' b=none)/\W i n σ' H') ?_ m0 ⟨0,σ,H2,I2,st2,λb hb=>(f2 b hb).1,w0⟩;rintro n s3 ⟨i,σ3,H3,I3,st3,fr3,w3⟩;rcases turn i n σ3 H3 w3 with⟨stop,qn⟩|⟨go,N,hN,step⟩
 ·refine wpAny_passesOwn hp (thn (T.done X rfl rfl rfl hc i pins s3 σ3 H3 X.xe I3 (stat fr3) st3 stop) λr s4 ⟨hr,I4⟩=>?_);subst hr;exact wpAny_execs_nil ⟨σ3,H3,I4,qn⟩
 ·refine wpAny_passesOwn hp (thn (T.item X rfl rfl rfl hc i pins s3 σ3 H3 X.xe I3 (stat fr3) st3 go) λr s4 ⟨u,hr,h4⟩=>?_);subst hr;refine wpAny_passesOwn hp (thn h4 λ_ s5 ⟨x,H5,I5,r5,y5,st5,fr5⟩=>?_);have I5':=I5.pinned (stat fr5) (T.obj _ _ st5);refine wpAny_passesOwn hp (thn (hg _ s5 σ3 H5 x u _ I5' r5 (step x H5 y5)) λ_ s6 ⟨σ6,H6,I6,q6⟩=>?_);refine wpAny_passesOwn hp (thn (hb _ s6 σ6 H6 _ I6 q6) λf s7 q7=>?_);have again:∀ {σ7:St}{H7:Hp},Inv X (pins++kq fp s5.heap) σ7 H7 s7->N σ7 H7->∃m,m<n/\∃i σ' H',Inv X pins σ' H' s7/\tn i s7.heap/\(∀b∈fp,H' b=none)/\W i m σ' H':=λ{σ7 H7} I7 n7=>by
   obtain⟨m',hm,w7⟩:=hN σ7 H7 n7;refine⟨m',hm,i+1,σ7,H7,I7.unpinned,T.keep _ _ _ st5 λb hb o e=>(I7.pin (b,o) (mY _ (mY _ (gH hb e)))).1,λb hb=>?_,w7⟩;obtain⟨o,e,d⟩:=T.obj _ _ st5 b hb;exact(I7.pin (b,o) (mY _ (mY _ (gH hb e)))).2.1
  cases f with
  |next=>obtain⟨σ7,H7,I7,n7⟩:=q7;exact again I7 n7
  |cont=>obtain⟨σ7,H7,I7,n7⟩:=q7;exact again I7 n7
  |brk=>obtain⟨σ7,H7,I7,q7⟩:=q7;exact⟨σ7,H7,I7.unpinned,q7⟩
  |ret v=>obtain⟨x7,σ7,H7,I7,r7,q7⟩:=q7;exact⟨x7,σ7,H7,I7.unpinned,r7,q7⟩
end
abbrev R2:=V->V->Hp->VK->Prop
def OpR (X:Cx)(f:Value->Value->Sem Value)(r:R2):Prop :=
 ∀(pins:List (Addr×Obj))(s:Shared)(σ:St)(H:Hp)(x y:V)(v u:Value)(Q:VK),Inv X pins σ H s->aS x v->aS y u->r x y H Q ->
  wpAny (model X.prog X.w) X.A (f v u) (EP X pins σ Q) X.xe s
def UnR (X:Cx)(f:Value->Sem Value)(r:V->Hp->VK->Prop):Prop :=
 ∀(pins:List (Addr×Obj))(s:Shared)(σ:St)(H:Hp)(x:V)(v:Value)(Q:VK),Inv X pins σ H s->aS x v->r x H Q ->
  wpAny (model X.prog X.w) X.A (f v) (EP X pins σ Q) X.xe s
def bA (X:Cx)(f:Value)(r:List V->Hp->VK->Prop):Prop :=
 ∀(pins:List (Addr×Obj))(s:Shared)(σ:St)(H:Hp)(xs:List V)(us:List Value)(Q:VK),Inv X pins σ H s->aQ xs us->r xs H Q ->
  wpAny (model X.prog X.w) X.A (call f us) (EP X pins σ Q) X.xe s
def tOp (r:R2)(ta tb:TE):TE:=λσ H Q=>ta σ H λx H1=>tb σ H1 λy H2=>r x y H2 Q
def tUn (r:V->Hp->VK->Prop)(ta:TE):TE:=λσ H Q=>ta σ H λx H1=>r x H1 Q
def rI (C:Int->Int->Prop)(g:Int->Int->V):R2:=λx y H Q=>∃i j,x=.int i/\y=.int j/\C i j/\Q (g i j) H
def rI0 (g:Int->Int->V):R2:=λx y H Q=>∃i j,x=.int i/\y=.int j/\Q (g i j) H
def rU (g:Int->V):V->Hp->VK->Prop:=λx H Q=>∃i,x=.int i/\Q (g i) H
section
variable {X:Cx}{a b c:Expr}{ta tb tc:TE}{pos:Pos}
theorem E1 (ha:PE X a ta)(hb:PE X b tb){pins:List (Addr×Obj)}{s:Shared}{σ:St}{H:Hp}{R:V->V->Hp->Prop}(I:Inv X pins σ H s)
  (h:ta σ H λx H1=>tb σ H1 λy H2=>R x y H2) {Q:Value->Shared->Prop}{f:Value->Value->Sem Value}
  (hf:∀v u s2 x y H2,Inv X pins σ H2 s2->aS x v->aS y u->R x y H2->wpAny (model X.prog X.w) X.A (f v u) Q X.xe s2):
  wpAny (model X.prog X.w) X.A (eval a X.env) (λv s₁=>wpAny (model X.prog X.w) X.A (eval b X.env) (λu s₂=>wpAny (model X.prog X.w) X.A (f v u) Q X.xe s₂) X.xe s₁) X.xe s:=by
 refine thn (ha pins s σ H _ I h) λv s1 ⟨x,H1,I1,r1,q1⟩=>?_;refine thn (hb pins s1 σ H1 _ I1 q1) λu s2 ⟨y,H2,I2,r2,q2⟩=>?_;exact hf v u s2 x y H2 I2 r1 r2 q2
theorem Dx {op:Operator}{r:R2}(ho:OpR X (binaryOp op) r)(ha:PE X a ta)(hb:PE X b tb):PE X (.BinOp a op b pos) (tOp r ta tb):=by
 intro pins s σ H Q I h;exact wpAny_BinOp (E1 ha hb I h λv u s2 x y H2 I2 rx ry q=>ho pins s2 σ H2 x y v u Q I2 rx ry q)
theorem Gn {op:UnaryOp}{r:V->Hp->VK->Prop}(ho:UnR X (unaryOp op) r)(ha:PE X a ta):PE X (.UnaryOp op a pos) (tUn r ta):=by
 intro pins s σ H Q I h;exact UnaryOp_ (thn (ha pins s σ H _ I h) λv s1 ⟨x,H1,I1,r1,q1⟩=>ho pins s1 σ H1 x v Q I1 r1 q1)
theorem opI {f:Value->Value->Sem Value}{C:Int->Int->Prop}{g:Int->Int->Int}
  (rule:∀(i j:Int)(t u:Tok)(s:Shared)(Q:Value->Shared->Prop)(E:Value->Shared->Prop),C i j->Q (.int (g i j) s.toks) { s with toks:=s.toks+1 }->wpAny (model X.prog X.w) X.A (f (.int i t) (.int j u)) Q E s):
  OpR X f (rI C λi j=>.int (g i j)):=by
 intro pins s σ H x y v u Q I rx ry h;obtain⟨i,j,rfl,rfl,hc,q⟩:=h;obtain⟨t,rfl⟩:=rx;obtain⟨t',rfl⟩:=ry;exact rule i j t t' s _ _ hc ⟨.int (g i j),H,I.tok _,⟨_,rfl⟩,q⟩
theorem E2 {f:Value->Value->Sem Value}{g:Int->Int->Int}
  (rule:∀(i j:Int)(t u:Tok)(s:Shared)(Q:Value->Shared->Prop)(E:Value->Shared->Prop),Q (.int (g i j) s.toks) { s with toks:=s.toks+1 }->wpAny (model X.prog X.w) X.A (f (.int i t) (.int j u)) Q E s):
  OpR X f (rI0 λi j=>.int (g i j)):=by
 intro pins s σ H x y v u Q I rx ry h;obtain⟨i,j,rfl,rfl,q⟩:=h;obtain⟨t,rfl⟩:=rx;obtain⟨t',rfl⟩:=ry;exact rule i j t t' s _ _ ⟨.int (g i j),H,I.tok _,⟨_,rfl⟩,q⟩
theorem BN {f:Value->Value->Sem Value}{g:Int->Int->Bool}
  (rule:∀(i j:Int)(t u:Tok)(s:Shared)(Q:Value->Shared->Prop)(E:Value->Shared->Prop),Q (.bool (g i j)) s->wpAny (model X.prog X.w) X.A (f (.int i t) (.int j u)) Q E s):
  OpR X f (rI0 λi j=>.bl (g i j)):=by
 intro pins s σ H x y v u Q I rx ry h;obtain⟨i,j,rfl,rfl,q⟩:=h;obtain⟨t,rfl⟩:=rx;obtain⟨t',rfl⟩:=ry;exact rule i j t t' s _ _ ⟨.bl (g i j),H,I,rfl,q⟩
def Go (i j:Int):Prop:=0<j/\j<1073741824
def BO (i j:Int):Prop:=(-(2 ^ 64)<i/\i<2 ^ 64)∨(-(2 ^ 64)<j/\j<2 ^ 64)
theorem BO.ok {i j:Int}(h:BO i j):IntMulOk i j:=by
 rcases h with⟨h1,h2⟩|⟨h1,h2⟩
 ·exact .of_left (intBits_le_64 h1 h2)
 ·exact .of_right (intBits_le_64 h1 h2)
theorem uM (k:Nat):(0:Int)<=2 ^ k:=by
 rw[two_pow_cast];exact Int.natCast_nonneg _
theorem E3:OpR X (binaryOp .Add) (rI0 λi j=>.int (i+j)):=E2 λ_ _ _ _ _ _ _ q=>add_int q
theorem E4:OpR X (binaryOp .Sub) (rI0 λi j=>.int (i - j)):=E2 λ_ _ _ _ _ _ _ q=>sub_int q
theorem E5:OpR X (binaryOp .Mult) (rI BO λi j=>.int (i*j)):=opI λ_ _ _ _ _ _ _ hc q=>mul_int q hc.ok
theorem BP:OpR X (binaryOp .FloorDiv) (rI Go λi j=>.int (i / j)):=opI λi j _ _ _ _ _ hc q=>by
 have h1:(0:Int)<j:=hc.1;have h2:j<1073741824:=hc.2;exact floordiv_int (by omega) (by rw[Int.fdiv_eq_ediv_of_nonneg i (by omega)];exact q) (.inl (PyProof.noPylong_small (by omega)))
theorem E6:OpR X (binaryOp .Mod) (rI (λ_ j=>0<j) λi j=>.int (i % j)):=opI λi j _ _ _ _ _ hc q=>by
 have h1:(0:Int)<j:=hc;exact mod_int' (by omega) (by rw[Int.fmod_eq_emod_of_nonneg i (by omega)];exact q)
theorem E7:OpR X (binaryOp .RShift) (rI (λ_ j=>0<=j) λi j=>.int (i / 2 ^ j.toNat)):=opI λi j _ _ _ _ _ hc q=>
 rshift_int hc (by rw[Int.fdiv_eq_ediv_of_nonneg i (uM _)];exact q)
theorem E8:OpR X (binaryOp .BitAnd) (rI0 λi j=>.int (Builtin.bitAnd i j)):=E2 λ_ _ _ _ _ _ _ q=>and_int q
theorem unI {f:Value->Sem Value}{g:Int->Int}
  (rule:∀(i:Int)(t:Tok)(s:Shared)(Q:Value->Shared->Prop)(E:Value->Shared->Prop),Q (.int (g i) s.toks) { s with toks:=s.toks+1 }->wpAny (model X.prog X.w) X.A (f (.int i t)) Q E s):
  UnR X f (rU λi=>.int (g i)):=by
 intro pins s σ H x v Q I rx h;obtain⟨i,rfl,q⟩:=h;obtain⟨t,rfl⟩:=rx;exact rule i t s _ _ ⟨.int (g i),H,I.tok _,⟨_,rfl⟩,q⟩
theorem E9:UnR X (unaryOp .USub) (rU λi=>.int (-i)):=unI λ_ _ _ _ _ q=>neg_int q
theorem yf:OpR X (binaryOp .Add) (λx y H Q=>∃i k,x=.int i/\y=.bl k/\Q (.int (i+b2i k)) H):=by
 intro pins s σ H x y v u Q I rx ry h;obtain⟨i,k,rfl,rfl,q⟩:=h;obtain⟨t,rfl⟩:=rx;cases ry
 exact add_int_bool ⟨.int (i+b2i k),H,I.tok _,⟨_,rfl⟩,q⟩
end
section
variable {X:Cx}{a b c:Expr}{ta tb tc:TE}{pos:Pos}
theorem Gp:OpR X (compareOp .Lt) (rI0 λi j=>.bl (decide (i<j))):=BN λ_ _ _ _ _ _ _ q=>lt_int q
theorem Gq:OpR X (compareOp .LtE) (rI0 λi j=>.bl (decide (i<=j))):=BN λ_ _ _ _ _ _ _ q=>le_int q
theorem Gr:OpR X (compareOp .Gt) (rI0 λi j=>.bl (decide (j<i))):=BN λ_ _ _ _ _ _ _ q=>gt_int q
theorem Gs:OpR X (compareOp .GtE) (rI0 λi j=>.bl (decide (j<=i))):=BN λ_ _ _ _ _ _ _ q=>ge_int q
theorem OpR.or {f:Value->Value->Sem Value}{r r':R2}(h:OpR X f r)(h':OpR X f r'):OpR X f (λx y H Q=>r x y H Q∨r' x y H Q):=by
 intro pins s σ H x y v u Q I rx ry q;rcases q with q|q
 ·exact h pins s σ H x y v u Q I rx ry q
 ·exact h' pins s σ H x y v u Q I rx ry q
theorem HC (b:Expr){op:CmpOp}(h:op≠.In:=by decide)(h2:op≠.NotIn:=by decide):behindInMarks op b=false:=by
 have e1:(op == CmpOp.In)=false:=by cases op<;>first|rfl|exact absurd rfl h
 have e2:(op == CmpOp.NotIn)=false:=by cases op<;>first|rfl|exact absurd rfl h2
 cases b<;>simp[behindInMarks,e1,e2]
theorem BQ {op:CmpOp}{r:R2}(ho:OpR X (compareOp op) r)(ha:PE X a ta)(hb:PE X b tb)(hm:behindInMarks op b=false):PE X (.Compare a [op] [b] pos) (tOp r ta tb):=by
 intro pins s σ H Q I h;exact wpAny_Compare1 (E1 ha hb I h λv u s2 x y H2 I2 rx ry q=>ho pins s2 σ H2 x y v u Q I2 rx ry q) hm
def Gu (t:TE):TT:=λσ H Q=>t σ H λx H'=>∃k,x=.bl k/\Q k H'
theorem BR {op:CmpOp}{r:R2}(ho:OpR X (compareOp op) r)(ha:PE X a ta)(hb:PE X b tb)(hm:behindInMarks op b=false):PT X (.Compare a [op] [b] pos) (Gu (tOp r ta tb)):=by
 intro pins s σ H Q I h;refine wpAny_isTrue_Compare1 (thn (ha pins s σ H _ I h) λv s1 ⟨x,H1,I1,r1,q1⟩=>thn (hb pins s1 σ H1 _ I1 q1) λu s2 ⟨y,H2,I2,r2,q2⟩=>
  thn (ho pins s2 σ H2 x y v u _ I2 r1 r2 q2) λc s3 ⟨z,H3,I3,r3,k,e,q3⟩=>?_) hm
 subst e;cases r3
 exact wpAny_truthy_bool ⟨H3,I3,q3⟩
def zw (r r':R2)(ta tb tc:TE):TE:=λσ H Q=>ta σ H λx H1=>tb σ H1 λy H2=>r x y H2 λz H3=>∃k,z=.bl k /\
 (if k=true then tc σ H3 λw' H4=>r' y w' H4 Q else Q (.bl false) H3)
theorem zx {op op':CmpOp}{r r':R2}(ho:OpR X (compareOp op) r)(ho':OpR X (compareOp op') r')(ha:PE X a ta)(hb:PE X b tb)(hc:PE X c tc)
  (hm:lastMarks [op,op'] [b,c]=false:=by with_unfolding_all rfl):PE X (.Compare a [op,op'] [b,c] pos) (zw r r' ta tb tc):=by
 intro pins s σ H Q I h;refine Compare_chain (thn (ha pins s σ H _ I h) λv s1 ⟨x,H1,I1,r1,q1⟩=>chain_link (thn (hb pins s1 σ H1 _ I1 q1) λu s2 ⟨y,H2,I2,r2,q2⟩=>
  thn (ho pins s2 σ H2 x y v u _ I2 r1 r2 q2) λd s3 ⟨z,H3,I3,r3,k,e,q3⟩=>?_)) hm
 subst e;cases r3
 refine wpAny_truthy_bool ?_;cases k with
 |false=>exact ite_ff ⟨.bl false,H3,I3,rfl,q3⟩
 |true=>exact ite_tt (chain_last (thn (hc pins s3 σ H3 _ I3 q3) λw' s4 ⟨z',H4,I4,r4,q4⟩=>ho' pins s4 σ H4 y z' u w' Q I4 r2 r4 q4))
theorem kx:(sizeLine:Nat)<2 ^ 63:=by rw[sizeLine_eq];decide
theorem uN:OpR X (binaryOp .Add) (λx y H Q=>∃i j,x=.str i/\y=.str j/\i.length+j.length<=sizeLine/\Q (.str (i++j)) H):=by
 intro pins s σ H x y v u Q I rx ry h;obtain⟨i,j,rfl,rfl,hz,q⟩:=h;obtain⟨t,rfl⟩:=rx;obtain⟨t',rfl⟩:=ry;exact add_str (λt' tk=>⟨.str (i++j),H,I.tok _,⟨_,rfl⟩,q⟩) hz
theorem fR {x:V}{us:List Value}(r:aQ [x] us):∃u,us=[u]/\aS x u:=by
 cases r with
 |cons r1 r2=>cases r2;exact⟨_,rfl,r1⟩
theorem zy {x y:V}{us:List Value}(r:aQ [x,y] us):∃u w',us=[u,w']/\aS x u/\aS y w':=by
 cases r with
 |cons r1 r2=>
  cases r2 with
  |cons r3 r4=>cases r4;exact⟨_,_,rfl,r1,r3⟩
theorem yg (hc:X.calm=true):bA X (.builtin "max") (λxs H Q=>∃i j,xs=[.int i,.int j]/\Q (.int (if j > i then j else i)) H):=by
 intro pins s σ H xs us Q I r h;obtain⟨i,j,rfl,q⟩:=h;obtain⟨u,w',rfl,⟨t,rfl⟩,⟨t',rfl⟩⟩:=zy r;refine max_two_ints (I.ok.hd hc) λh' tk k=>⟨_,H,I.kept k,?_,q⟩;by_cases hj:j > i
 ·rw[if_pos hj,if_pos hj];exact⟨_,rfl⟩
 ·rw[if_neg hj,if_neg hj];exact⟨_,rfl⟩
theorem yh (hc:X.calm=true):bA X (.builtin "min") (λxs H Q=>∃i j,xs=[.int i,.int j]/\Q (.int (if j<i then j else i)) H):=by
 intro pins s σ H xs us Q I r h;obtain⟨i,j,rfl,q⟩:=h;obtain⟨u,w',rfl,⟨t,rfl⟩,⟨t',rfl⟩⟩:=zy r;refine min_two_ints (I.ok.hd hc) λh' tk k=>⟨_,H,I.kept k,?_,q⟩;by_cases hj:j<i
 ·rw[if_pos hj,if_pos hj];exact⟨_,rfl⟩
 ·rw[if_neg hj,if_neg hj];exact⟨_,rfl⟩
theorem yi:bA X (.type "int") (λxs H Q=>(∃i,xs=[.int i]/\Q (.int i) H)∨∃k,xs=[.bl k]/\Q (.int (if k then 1 else 0)) H):=by
 intro pins s σ H xs us Q I r h;rcases h with⟨i,rfl,q⟩|⟨k,rfl,q⟩
 ·obtain⟨u,rfl,t,rfl⟩:=fR r;exact call_int_int ⟨.int i,H,I,⟨_,rfl⟩,q⟩
 ·obtain⟨u,rfl,r1⟩:=fR r;cases r1
  exact call_int_bool ⟨.int (if k then 1 else 0),H,I.tok _,⟨_,rfl⟩,q⟩
end
structure ObjM (h:Heap)(x dx C:Addr)(mA:Str->Option Value):Prop where
 obj:h.get? x=some (PySem.W.instObj C dx)
 ns:h.Ns1 dx mA
 ne:dx≠x
theorem yj {h:Heap}{dx:Addr}{mA:Str->Option Value}(n:h.Ns1 dx mA):∃od,h.get? dx=some od/\∀name,PySem.W.lookIn name od=some (mA name):=by
 obtain⟨o,es,ep,ho,hd,hk,_,hm⟩:=n;refine⟨o,ho,λname=>?_⟩;have e:=hm name;unfold nsFind findBy at e;rw[←Array.find?_toList]at e;unfold PySem.W.lookIn;rw[hd];dsimp only;split
 ·rename_i y q;rw[q]at e;exact congrArg some e
 ·rename_i q;rw[q]at e;have a:es.toList.any (·.refKey)=false:=by
   rw[List.any_eq_false];intro y hy;obtain⟨z,t,hkey⟩:=hk y (Array.mem_toList_iff.mp hy);simp[DictEntry.refKey,hkey]
  have a':¬es.toList.any (·.refKey)=true:=by rw[a];exact Bool.false_ne_true
  rw[if_neg a'];exact congrArg some e
theorem ObjM.look {h:Heap}{x dx C:Addr}{mA:Str->Option Value}(I:ObjM h x dx C mA):∃od,PySem.W.InstAt h x (PySem.W.instObj C dx) C (some od)/\∀name,PySem.W.lookIn name od=some (mA name) :=
 let ⟨od,ho,hl⟩:=yj I.ns
 ⟨od,⟨I.obj,rfl,rfl,ho⟩,hl⟩
section
variable {prog:Program}{w:World}{A:Around}{E:Value->Shared->Prop}{s:Shared}{K:PySem.W.Frag}{x dx C f:Addr}{mA:Str->Option Value}{name:Str}{v:Value}
theorem z4 {pl:Sem Bool}{Q:Value×List Value->Shared->Prop}(X:K.In s.heap)(I:ObjM s.heap x dx C mA)(hg:PySem.W.plainGet K C name=true)
  (hf:PySem.W.findIn K (.ref C) name=some (some (.ref f))) (ht:PySem.W.isFn K (.ref f)=true) (hv:mA name=none) (h:Q (.ref f,[.ref x]) s):
  wpAny (model prog w) A (getMethod (.ref x) name pl) Q E s:=by
 obtain⟨od,J,hl⟩:=I.look;exact PySem.W.method_fn X J (PySem.W.plainGet_of hg).1 (PySem.W.plainGet_of hg).2 hf (beq_iff_eq.mp ht) (by show(PySem.W.lookIn name od).map (·.isSome)=some false;rw[hl,hv];rfl) h
theorem Gv {R:Result->Shared->Prop}{vs:List Value}{kw:List (Str×Value)}(X:K.In s.heap)(hm:PySem.W.makesIn K C=true)
  (hi:PySem.W.findIn K (.ref C) "__init__" = some (some (.ref f))) (hf:PySem.W.typeIn K (.ref f)=some (.type "function"))
  (h:codeAny (model prog w) (A.under (.builtin "type.__call__" ⟨.ref C::vs,kw⟩)) (.call (.ref f) ⟨.ref (s.heap.objs.size+1)::vs,kw⟩) (PySem.W.InitBack (s.heap.objs.size+1) R)
   { s with heap:=(s.heap.push PySem.W.emptyDict).push (PySem.W.instObj C s.heap.objs.size) }):
  codeAny (model prog w) A (.call (.ref C) ⟨vs,kw⟩) R s:=by
 obtain⟨hh,g,d,t,os⟩:=s;exact PySem.W.make_core (PySem.W.makes_of X hm) (PySem.W.looks_findIn X hi) (λself=>PySem.W.bind_fn X self hf) (.inl rfl) h
end
theorem lA.none_of {o:Option Value}(r:lA none o):o=none:=by
 cases o with
 |none=>rfl
 |some u=>exact(show False from r).elim
section
variable {P:Program}{w:World}{H H':Hp}{h h':Heap}{a C dx:Addr}{fs fs':List (Str×V)}
theorem wn (hok:HOk P w H h)(e:H a=some (.ins C dx fs)):∃mA,ObjM h a dx C mA/\(∀f,lA (fs.lookup f) (mA f))/\PySem.Within mA (fs.map (·.1))/\fs.length<=1000/\H dx=some (.own a):=by
 obtain⟨d,z,ne,ob,mA,n,r,q⟩:=(show b8 P w H h a (.ins C dx fs)from hok a _ e);exact⟨mA,⟨ob,n,ne⟩,r,q,z,d⟩
end
structure Cls (K:PySem.W.Frag)(C:Addr):Prop where
 pg:PySem.W.plainGet K C Str.empty=true
 hd:PySem.W.hasDictIn K C=true
 po:PySem.W.plainOver K C=true
 sa:PySem.W.findIn K (.ref C) "__setattr__" = some (some (.builtin "object.__setattr__"))
theorem Cls.get {K:PySem.W.Frag}{C:Addr}(c:Cls K C)(f:Str):PySem.W.plainGet K C f=true:=c.pg
def EA (K:PySem.W.Frag)(C:Addr)(f:Str):Prop:=PySem.W.findIn K (.ref C) f=some none
structure Meth (K:PySem.W.Frag)(C:Addr)(m:Str)(f:Addr):Prop where
 at_:PySem.W.findIn K (.ref C) m=some (some (.ref f))
 fn:PySem.W.isFn K (.ref f)=true
 kp:PySem.W.keepIn K (.ref f)=true
section
variable {X:Cx}{pins:List (Addr×Obj)}{σ:St}{H:Hp}{s:Shared}{a C dx:Addr}{fs:List (Str×V)}{f:Str}{v:V}{A:Around}{E:Value->Shared->Prop}
theorem uO {m:Str}{g:Addr}{pl:Sem Bool}{Q:Value×List Value->Shared->Prop}(I:Inv X pins σ H s)(e:H a=some (.ins C dx fs))(c:Cls X.K C)(k:Meth X.K C m g)(l:fs.lookup m=none)
  (h:Q (.ref g,[.ref a]) s):wpAny (model X.prog X.w) A (getMethod (.ref a) m pl) Q E s:=by
 obtain⟨mA,O,r,_,_,_⟩:=wn I.hok e;have hn:mA m=none:=lA.none_of (by rw[←l];exact r m);exact z4 I.kIn O (c.get m) k.at_ k.fn hn h
theorem Inv.made (I:Inv X pins σ H s):Inv X pins σ (upd (upd H s.heap.objs.size (.own (s.heap.objs.size+1))) (s.heap.objs.size+1) (.ins C s.heap.objs.size []))
  { s with heap:=(s.heap.push PySem.W.emptyDict).push (PySem.W.instObj C s.heap.objs.size) }:=by
 have e1:(s.heap.push PySem.W.emptyDict).get? s.heap.objs.size=some PySem.W.emptyDict:=Heap.get?_push_size s.heap rfl;have e2:((s.heap.push PySem.W.emptyDict).push (PySem.W.instObj C s.heap.objs.size)).get? (s.heap.objs.size+1)=some (PySem.W.instObj C s.heap.objs.size):=by
  have:=Heap.get?_push_size (s.heap.push PySem.W.emptyDict) (o:=PySem.W.instObj C s.heap.objs.size) rfl;rwa [Heap.size_push]at this
 have e3:(s.heap.push PySem.W.emptyDict).Ns s.heap.objs.size (λ_=>none):=⟨PySem.W.emptyDict,#[],_,e1,rfl,(λe he=>absurd he (by simp)),λ_=>rfl⟩;have I1:=I.laid (a:=s.heap.objs.size) (o:=.own (s.heap.objs.size+1)) (h':=s.heap.push PySem.W.emptyDict) (t':=s.toks) (λb u q=>Heap.get?_push_of_some _ q) (Nat.le_refl _) ⟨_,e1⟩;refine I1.laid (a:=s.heap.objs.size+1) (o:=.ins C s.heap.objs.size []) (t':=s.toks) (λb u q=>Heap.get?_push_of_some _ q) (Nat.le_of_eq (Heap.size_push _ _)) ?_;have ne:s.heap.objs.size≠s.heap.objs.size+1:=Nat.ne_of_lt (Nat.lt_succ_self _);refine⟨by rw[aF ne,aD],Nat.zero_le _,ne,e2,λ_=>none,(Heap.Ns1.of_empty e3).at λo q=>Heap.get?_push_of_some _ q,λ_=>True.intro,λy hy=>absurd rfl hy⟩
end
def Iq (K:PySem.W.Frag)(ta:TE)(f:Str):TE:=λσ H Q=>ta σ H λx H1=>∃a C dx fs v,x=.ref a/\H1 a=some (.ins C dx fs)/\Cls K C/\EA K C f/\fs.lookup f=some v/\Q v H1
section
variable {X:Cx}{o e value:Expr}{f:Str}{pos pos' tpos:Pos}{ta tv:TE}
theorem Dy {pl:Sem Bool}{m:Str}{apos:Pos}{args:List Expr}{pins:List (Addr×Obj)}{s:Shared}{σ:St}{H:Hp}{Q:Value->Shared->Prop}{te:TE}(he:PE X e te)(I:Inv X pins σ H s)
  (h:te σ H λx H1=>∃a C dx fs g,x=.ref a/\H1 a=some (.ins C dx fs)/\Cls X.K C/\Meth X.K C m g/\fs.lookup m=none /\
   ∀s1,Inv X pins σ H1 s1->wpAny (model X.prog X.w) X.A (callWith pos (.ref g) [.ref a] (backTo pos (starEach args X.env)) (backToKw pos (keywordEach [] X.env))) Q X.xe s1)
  (ht:eval (.Call (.Attribute e m apos) args [] pos) X.env=(do
   let ov ←eval e X.env
   standAt apos.atName
   let (f,first) ←holding [ov] (getMethod ov m pl)
   callWith pos f first (backTo pos (starEach args X.env)) (backToKw pos (keywordEach [] X.env)))):
  wpAny (model X.prog X.w) X.A (eval (.Call (.Attribute e m apos) args [] pos) X.env) Q X.xe s:=by
 refine PySem.W.methodCall_KW (pl:=pl) (thn (he pins s σ H _ I h) λu s1 ⟨x,H1,I1,rx,a,C,dx,fs,g,ex,ea,c,k,l,q⟩=>?_) ht;subst ex;obtain rfl:u=Value.ref a:=rx;exact uO I1 ea c k l (q s1 I1)
end
section
variable {X:Cx}{pins:List (Addr×Obj)}{σ:St}{H:Hp}{s:Shared}{A:Around}{E:Value->Shared->Prop}{Q:Value->Shared->Prop}{c:Value}{b:Bool}
inductive TyOf (K:PySem.W.Frag)(H:Hp):V->Value->Prop where
 |non:TyOf K H .non (.type "NoneType")
 |bl (x:Bool):TyOf K H (.bl x) (.type "bool")
 |int (i:Int):TyOf K H (.int i) (.type "int")
 |str (x:Str):TyOf K H (.str x) (.type "str")
 |flt (x:UInt64):TyOf K H (.flt x) (.type "float")
 |lst {a:Addr}{xs:List V}(e:H a=some (.lst xs)):TyOf K H (.ref a) (.type "list")
 |frz {a:Addr}{o:Obj}{xs:List V}(e:H a=some (.frz o (.lst xs))):TyOf K H (.ref a) (.type "list")
 |tup {a:Addr}{xs:List V}(e:H a=some (.tup xs)):TyOf K H (.ref a) (.type "tuple")
 |dK {a:Addr}{kvs:List (Key×V)}{ob:Obj}(e:H a=some (.dK kvs ob)):TyOf K H (.ref a) (.type "dict")
 |dT {a:Addr}{kvs:List (List Key×V)}(e:H a=some (.dT kvs)):TyOf K H (.ref a) (.type "dict")
 |ins {a C dx:Addr}{fs:List (Str×V)}(e:H a=some (.ins C dx fs)) (cl:Cls K C) (ha:PySem.W.findIn K (.ref C) "__class__" = some (some (.builtin "object.__class__")))
   (hn:PySem.W.specialIn K (.builtin "object.__class__") "__get__" = some (some (.builtin "getset_descriptor.__get__"))) (htk:PySem.W.takesIn K (.builtin "object.__class__")=some true)
   (hm:PySem.W.mroIn K C (.type "object")=some true):TyOf K H (.ref a) (.ref C)
theorem f8 {x:V}{u t:Value}(I:Inv X pins σ H s)(rx:aS x u)(ty:TyOf X.K H x t)(e:PySem.W.kitOne X.K t c=some b)(h:∀tk,Q (.bool b) { s with toks:=tk }):
  wpAny (model X.prog X.w) A (call (.builtin "isinstance") [u,c]) Q E s:=by
 cases ty with
 |non=>cases (show u=Value.none from rx);exact PySem.W.kia_one PySem.W.kitx_none I.kIn True.intro e (λz=>nomatch z) h
 |bl y=>cases (show u=Value.bool y from rx);exact PySem.W.kia_one PySem.W.kitx_bool I.kIn True.intro e (λz=>nomatch z) h
 |int i=>obtain⟨t,q⟩:=(show ∃t,u=Value.int i t from rx);cases q;exact PySem.W.kia_one PySem.W.kitx_int I.kIn True.intro e (λz=>nomatch z) h
 |str y=>obtain⟨t,q⟩:=(show ∃t,u=Value.str y t from rx);cases q;exact PySem.W.kia_one PySem.W.kitx_str I.kIn True.intro e (λz=>nomatch z) h
 |flt y=>obtain⟨t,q⟩:=(show ∃t,u=Value.float y t from rx);cases q;exact PySem.W.kia_one PySem.W.kitx_float I.kIn True.intro e (λz=>nomatch z) h
 |@lst a xs ea=>
  cases (show u=Value.ref a from rx)
  obtain⟨_,_,n,_,h1⟩:=(show b8 X.prog X.w H s.heap a (.lst xs)from I.hok a _ ea);exact PySem.W.kia_one PySem.W.kitx_list I.kIn ⟨_,h1,rfl⟩ e (λz=>nomatch z) h
 |@frz a ob xs ea=>
  cases (show u=Value.ref a from rx)
  obtain⟨_,_,_,n,_,h1⟩:=(show b8 X.prog X.w H s.heap a (.frz ob (.lst xs))from I.hok a _ ea);exact PySem.W.kia_one PySem.W.kitx_list I.kIn ⟨_,h1,rfl⟩ e (λz=>nomatch z) h
 |@tup a xs ea=>
  cases (show u=Value.ref a from rx)
  obtain⟨_,_,_,p⟩:=(show b8 X.prog X.w H s.heap a (.tup xs)from I.hok a _ ea);obtain⟨o,h1,h2,_⟩:=p;exact PySem.W.kia_one PySem.W.kitx_tuple I.kIn ⟨o,h1,h2⟩ e (λz=>nomatch z) h
 |@dK a kvs ob ea=>
  cases (show u=Value.ref a from rx)
  obtain⟨_,_,_,vs,_,p⟩:=(show b8 X.prog X.w H s.heap a (.dK kvs ob)from I.hok a _ ea);obtain⟨o,es,ep,h1,h2,_⟩:=p;exact PySem.W.kia_one PySem.W.kitx_dict I.kIn ⟨o,h1,h2.1⟩ e (λz=>nomatch z) h
 |@dT a kvs ea=>
  cases (show u=Value.ref a from rx)
  obtain⟨_,_,xs,_,o,es,ep,h1,h2,_⟩:=(show b8 X.prog X.w H s.heap a (.dT kvs)from I.hok a _ ea);exact PySem.W.kia_one PySem.W.kitx_dict I.kIn ⟨o,h1,h2.1⟩ e (λz=>nomatch z) h
 |@ins a C dx fs ea cl ha hn htk hm=>
  cases (show u=Value.ref a from rx)
  obtain⟨mA,O,_⟩:=wn I.hok ea;obtain⟨od,J,_⟩:=O.look;exact PySem.W.kia_one (PySem.W.kitx_own (cl.get _) cl.hd ha hn htk hm) I.kIn J e (λz=>nomatch z) h
end
structure Room (k:Nat)(A:Around):Prop where
 hd:A.handled=none
 dp:A.depth+3*k+5<recursionLimit
 un:A.units+16*k+200<cLine
theorem Room.mono {j k:Nat}{A:Around}(r:Room k A)(h:j<=k):Room j A:=⟨r.hd,by have:=r.dp;omega,by have:=r.un;omega⟩
theorem Room.deeper {k:Nat}{A:Around}(r:Room (k+1) A)(env:Env):Room k (A.deeper env) :=
 ⟨r.hd,by have:=r.dp;show A.depth+1+3*k+5<_;omega,by have:=r.un;show A.units+3+16*k+200<_;omega⟩
theorem Room.in1 {k:Nat}{A:Around}(r:Room (k+1) A):Room k A.in1 :=
 ⟨r.hd,by have:=r.dp;show A.depth+3*k+5<_;omega,by have:=r.un;show A.units+1+16*k+200<_;omega⟩
theorem Room.depth {k:Nat}{A:Around}(r:Room k A):A.depth<recursionLimit:=by have:=r.dp;omega
def Gw:TA:=λ_ H Q=>Q [] H
def Dz (ta:TE)(tr:TA):TA:=λσ H Q=>ta σ H λx H1=>tr σ H1 λxs H2=>Q (x::xs) H2
section
variable {X:Cx}{e:Expr}{es:List Expr}{te:TE}{t:TA}{pos:Pos}
theorem ig:PA X [] Gw:=λ_ _ _ _ H Q I h=>Calls.spliced_nil ⟨[],H,I,.nil,h⟩
theorem fS (ha:PE X e te)(hr:PA X es t)(hs:starEach (e::es) X.env=(false,eval e X.env)::starEach es X.env:=by rfl):PA X (e::es) (Dz te t):=by
 intro pos pins s σ H Q I h;rw[hs];show wpAny _ _ (spliced ((false,eval e X.env)::backTo pos (starEach es X.env))) _ _ s;refine Calls.spliced_cons (thn (ha pins s σ H _ I h) λu s1 ⟨x,H1,I1,r1,q1⟩=>?_);exact thn (hr pos pins s1 σ H1 _ I1 q1) λus s2 ⟨xs,H2,I2,r2,q2⟩=>⟨x::xs,H2,I2,.cons r1 r2,q2⟩
def Gx (t:TA):TE:=λσ H Q=>t σ H λxs H1=>xs.length<=sizeLine/\∀p,H1 p=none->Q (.ref p) (upd H1 p (.tup xs))
def HD (t:TA):TE:=λσ H Q=>t σ H λxs H1=>xs.length<=sizeLine/\∀p,H1 p=none->Q (.ref p) (upd H1 p (.lst xs))
theorem uP {x1}(h:PA X es t):PE X (.Tuple es x1 pos) (Gx t):=by
 intro pins s σ H Q I hq;refine wpAny_Tuple_spliced (thn (h pos pins s σ H _ I hq) λus s1 ⟨xs,H1,I1,r,z,q⟩=>⟨by rw[←r.length];exact z,?_⟩);have hf:H1 s1.heap.objs.size=none:=I1.hok.fresh (Nat.le_refl _);refine⟨.ref s1.heap.objs.size,upd H1 s1.heap.objs.size (.tup xs),I1.laid (t':=s1.toks) (λb u e=>Heap.get?_push_of_some _ e) (Nat.le_refl _) ?_,rfl,q _ hf⟩;exact⟨z,us,r,⟨_,Heap.get?_push_size _ rfl,rfl,_,rfl⟩⟩
theorem EB (h:PA X es t):PE X (.List es pos) (HD t):=by
 intro pins s σ H Q I hq;refine wpAny_List_spliced (thn (h pos pins s σ H _ I hq) λus s1 ⟨xs,H1,I1,r,z,q⟩=>⟨by rw[←r.length];exact z,?_⟩);have hf:H1 s1.heap.objs.size=none:=I1.hok.fresh (Nat.le_refl _);refine⟨.ref s1.heap.objs.size,upd H1 s1.heap.objs.size (.lst xs),I1.laid (t':=s1.toks) (λb u e=>Heap.get?_push_of_some _ e) (Nat.le_refl _) ?_,rfl,q _ hf⟩;exact⟨z,us,0,r,Heap.get?_push_size _ rfl⟩
end
abbrev Sp:=List V->Hp->VK->XK->Prop
abbrev CXT:=List Env->Hp->Shared->XK->Value->Shared->Prop
structure Env0 (P:Program)(w:World)(K:PySem.W.Frag)(mg:Str->Option Value)(base:Heap)(A:Around)(outer:List Env)(s:Shared)(H:Hp):Prop where
 frames:A.frames=some outer
 mod:Mod K mg base
 bs:∀b o,base.get? b=some o->s.heap.get? b=some o/\H b=none
 bsz:base.objs.size<=s.heap.objs.size
 funs:s.heap.FunFrames base outer
 frf:∀b∈frs outer,H b=none
 hok:HOk P w H s.heap
 bare:AllBare s.gens
def CE (outer:List Env)(P:Program)(w:World)(H:Hp)(s:Shared)(Q:VK)(u:Value)(s':Shared):Prop :=
 ∃v H',s'.os=s.os/\AllBare s'.gens/\Un (frs outer) [] H H' s.heap s'.heap/\HOk P w H' s'.heap/\aS v u/\Q v H'
def CR (CX:CXT)(outer:List Env)(P:Program)(w:World)(H:Hp)(s:Shared)(Q:VK)(E:XK)(r:Result)(s':Shared):Prop :=
 match r with
 |.ok (.ret u)=>CE outer P w H s Q u s'
 |.ok _=>False
 |.error e=>CX outer H s E e s'
structure FnOk (P:Program)(w:World)(K:PySem.W.Frag)(mg:Str->Option Value)(base:Heap)(CX:CXT)(k:Nat)(f:Addr)(fd:FuncData)(ps:List Str)(sp:Sp):Prop where
 len:∀vs H Q E,sp vs H Q E->vs.length=ps.length
 run:∀(A:Around)(outer:List Env)(s:Shared)(H:Hp)(args:Args)(us:List Value)(vs:List V)(Q:VK)(E:XK),Room k A->Env0 P w K mg base A outer s H->BindsTo s fd args (ps.zip us)->aQ vs us->sp vs H Q E ->
  codeAny (model P w) A (.call (.ref f) args) (CR CX outer P w H s Q E) s
section
variable {X:Cx}{pins:List (Addr×Obj)}{σ:St}{H:Hp}{s s':Shared}
theorem Inv.env0 (I:Inv X pins σ H s):Env0 X.prog X.w X.K X.mg X.base X.A X.stack s H :=
 ⟨I.ok.frames,I.ok.mod,I.bs,Nat.le_trans I.ok.bsz I.sz,I.stack,I.stkFree,I.hok,I.bare⟩
theorem Inv.after {Q:VK}{u:Value}(I:Inv X pins σ H s)(h:CE X.stack X.prog X.w H s Q u s'):EP X pins σ Q u s':=by
 obtain⟨v,H',os,bare,un,hok,r,q⟩:=h;obtain⟨hh,g,d,t,os'⟩:=s';obtain rfl:os'=s.os:=os;exact⟨v,H',I.call (h':=hh) (g':=g) (d':=d) (t':=t) (ch:=[]) un hok bare (λb z=>absurd z (by simp)),r,q⟩
end
def Gy (sp:Sp)(dvs:List V)(E:XK)(t:TA):TE:=λσ H Q=>t σ H λvs H1=>sp (vs++dvs) H1 Q E
def Ig (C:Addr)(m:Str)(sp:Sp)(dvs:List V)(E:XK)(ta:TE)(t:TA):TE:=λσ H Q=>ta σ H λx H1=>∃a dx fs,x=.ref a/\H1 a=some (.ins C dx fs)/\fs.lookup m=none /\
 t σ H1 λvs H2=>sp (x::(vs++dvs)) H2 Q E
def Ih (C:Addr)(sp:Sp)(dvs:List V)(E:XK)(t:TA):TE:=λσ H Q=>t σ H λvs H1=>∀x dx,H1 x=none->H1 dx=none->dx≠x ->
 sp (.ref x::(vs++dvs)) (upd (upd H1 dx (.own x)) x (.ins C dx [])) (λv H2=>v=.non/\Q (.ref x) H2) E
def oK (K:PySem.W.Frag)(fd:FuncData)(ps:List Str)(ds:List Value):Prop :=
 ∀(s:Shared)(us:List Value),K.In s.heap->(us++ds).length=ps.length->BindsTo s fd ⟨us,[]⟩ (ps.zip (us++ds))
theorem oK.all {K:PySem.W.Frag}{fd:FuncData}{ps:List Str}(h:∀us:List Value,us.length=ps.length->bindArgs fd ⟨us,[]⟩=pure (ps.zip us)):oK K fd ps []:=λs us _ hl=>by
 rw[List.append_nil]at hl ⊢;exact .of_eq (h us hl)
def uQ (CX:CXT)(X:Cx)(E:XK):Prop:=∀(pins:List (Addr×Obj))(σ:St)(H:Hp)(s:Shared)(e:Value)(s':Shared),Inv X pins σ H s->CX X.stack H s E e s'->X.xe e s'
section
variable {X:Cx}{CX:CXT}{k:Nat}{f C:Addr}{fd:FuncData}{ps:List Str}{sp:Sp}{dvs:List V}{ds:List Value}{E:XK}{x m:Str}{p pos apos:Pos}{e o:Expr}{es:List Expr}{ta:TE}{t:TA}
theorem EC {pins:List (Addr×Obj)}{σ:St}{H:Hp}{s:Shared}{Q:VK}{us:List Value}{vs:List V}(F:FnOk X.prog X.w X.K X.mg X.base CX k f fd ps sp)(hr:Room k X.A)(hb:oK X.K fd ps ds)(hd:aQ dvs ds)(hx:uQ CX X E)
  (I:Inv X pins σ H s) (r:aQ vs us) (h:sp (vs++dvs) H Q E):wpAny (model X.prog X.w) X.A (call (.ref f) us) (EP X pins σ Q) X.xe s:=by
 have r2:aQ (vs++dvs) (us++ds):=r.append hd;have hl:(us++ds).length=ps.length:=by rw[←r2.length];exact F.len _ _ _ _ h
 refine wpAny_call (codeAny_mono (F.run X.A X.stack s H ⟨us,[]⟩ (us++ds) (vs++dvs) Q E hr I.env0 (hb s us I.kIn hl) r2 h) λr s' hq=>?_);cases r with
 |error e=>exact hx pins σ H s e s' I hq
 |ok fl=>
  cases fl with
  |ret u=>exact I.after hq
  |next=>exact False.elim hq
  |brk=>exact False.elim hq
  |cont=>exact False.elim hq
theorem BS (F:FnOk X.prog X.w X.K X.mg X.base CX k f fd ps sp)(hr:Room k X.A)(hg:Gl X x)(hm:X.mg x=some (.ref f))(hk:PySem.W.keepIn X.K (.ref f)=true)(hb:oK X.K fd ps ds)(hd:aQ dvs ds)(hx:uQ CX X E)
  (ha:PA X (e::es) t) (hdb:(x == ("__debug__" : Str))=false:=by decide) (he:starEach (e::es) X.env=(false,eval e X.env)::starEach es X.env:=by rfl) (hpl:(backTo pos (starEach es X.env)).any (·.1)=false:=by rfl):
  PE X (.Call (.Name x p) (e::es) [] pos) (Gy sp dvs E t):=by
 intro pins s σ H Q I h;refine wpAny_Call_Name_kw (qh I hg hm ?_ hdb);refine PySem.W.callWith_K (h₀:=X.base) I.ok.mod.kin hk (thn (ha pos pins s σ H _ I h) λus s1 ⟨vs,H1,I1,r,q⟩=>⟨I1.kIn,?_⟩) he hpl;exact EC F hr hb hd hx I1 r q
end
structure FnScope (N P:List Str)(sc:Scope):Prop where
 kind:sc.kind=.function
 co:sc.isCoroutine=false
 gen:sc.isGenerator=false
 nd:N.Nodup
 pre:N.take P.length=P
 par:∀x∈P,sc.names.lookup x=some .local∨sc.names.lookup x=some .cell
 nofree:∀y∈sc.names,y.2≠.free
theorem oM {kindOf:Str->Option NameKind}{x:Str}:∀ {binds:List (Str×Value)}{m:Str->Option Value},(∀v,(x,v)∉binds)->bindL kindOf binds m x=m x
 |[],_,_=>rfl
 | (n,v)::r,m,h=>by
  unfold bindL;rw[oM λw hw=>h w (mZ _ hw)];split
  ·have:x≠n:=by rintro rfl;exact h v mX
   simp[this]
  ·rfl
theorem oN {kindOf:Str->Option NameKind}{x:Str}:∀ {binds:List (Str×Value)}{m:Str->Option Value},(∀v,(x,v)∉binds)->bindC kindOf binds m x=m x
 |[],_,_=>rfl
 | (n,v)::r,m,h=>by
  unfold bindC;rw[oN λw hw=>h w (mZ _ hw)];split
  ·rfl
  ·have:x≠n:=by rintro rfl;exact h v mX
   simp[this]
theorem oP {kindOf:Str->Option NameKind}{x:Str}{v:Value}:∀ {P:List Str}{vs:List Value}{i:Nat}{m:Str->Option Value},P.Nodup->P[i]? = some x->vs[i]? = some v->kindOf x=some .local ->
  bindL kindOf (P.zip vs) m x=some v
 |[],_,_,_,_,h,_,_=>by simp at h
 |_::_,[],_,_,_,_,h,_=>by simp at h
 |p::P,w::vs,0,m,nd,h1,h2,hk=>by
  simp at h1 h2;subst h1;subst h2;show bindL kindOf ((p,w)::P.zip vs) m p=_;unfold bindL;rw[oM λv hv=>(List.nodup_cons.mp nd).1 (List.of_mem_zip hv).1,if_pos hk];simp
 |p::P,w::vs,i+1,m,nd,h1,h2,hk=>by
  show bindL kindOf ((p,w)::P.zip vs) m x=_;unfold bindL;exact oP (i:=i) (List.nodup_cons.mp nd).2 (by simpa using h1) (by simpa using h2) hk
theorem oQ {kindOf:Str->Option NameKind}{x:Str}{v:Value}:∀ {P:List Str}{vs:List Value}{i:Nat}{m:Str->Option Value},P.Nodup->P[i]? = some x->vs[i]? = some v->kindOf x≠some .local ->
  bindC kindOf (P.zip vs) m x=some v
 |[],_,_,_,_,h,_,_=>by simp at h
 |_::_,[],_,_,_,_,h,_=>by simp at h
 |p::P,w::vs,0,m,nd,h1,h2,hk=>by
  simp at h1 h2;subst h1;subst h2;show bindC kindOf ((p,w)::P.zip vs) m p=_;unfold bindC;rw[oN λv hv=>(List.nodup_cons.mp nd).1 (List.of_mem_zip hv).1,if_neg hk];simp
 |p::P,w::vs,i+1,m,nd,h1,h2,hk=>by
  show bindC kindOf ((p,w)::P.zip vs) m x=_;unfold bindC;exact oQ (i:=i) (List.nodup_cons.mp nd).2 (by simpa using h1) (by simpa using h2) hk
noncomputable def hX (N:List Str)(vs:List V):St:=vs.map some++List.replicate (N.length - vs.length) none
noncomputable def lB (CX:CXT)(P:Program)(w:World)(K:PySem.W.Frag)(mg:Str->Option Value)(base:Heap)(N:List Str)(qual:Str)(scope:Scope)(f:Addr)(cd:Value)(A:Around)(outer:List Env)(s:Shared)(H:Hp)(E:XK):Cx where
 prog:=P
 w:=w
 K:=K
 mg:=mg
 base:=base
 A:=A.deeper (envOfC qual scope s.heap.objs.size f cd)
 N:=N
 s₀:=s
 H₀:=H
 env:=envOfC qual scope s.heap.objs.size f cd
 outer:=outer
 stack:=envOfC qual scope s.heap.objs.size f cd::outer
 ex:=[]
 calm:=true
 fn:=λ_=>true
 pn:=[]
 xe:=λe s'=>wpAny (model P w) (A.deeper (envOfC qual scope s.heap.objs.size f cd)) (leaving (envOfC qual scope s.heap.objs.size f cd) e) (λ_ s''=>CX outer H s E e s'') (λe' s''=>CX outer H s E e' s'') s'
theorem rQ {sc:Scope}{n:Nat}{x:Str}(h:sc.names.lookup x=some .cell):∃c,(cellsFrom n sc.names []).lookup x=some c:=by
 have q:=PySem.W.cellsFrom_some sc.names n [] (.inl h);exact Option.isSome_iff_exists.mp q
theorem yk {CX:CXT}{P:Program}{w:World}{K:PySem.W.Frag}{mg:Str->Option Value}{base:Heap}{N ps:List Str}{qual:Str}{scope:Scope}{f:Addr}{cd:Value}{A:Around}{outer:List Env}{s s1:Shared}{H:Hp}{E:XK}{us:List Value}{vs:List V}
  (S:FnScope N ps scope) (hd:A.handled=none) (e0:Env0 P w K mg base A outer s H) (hl:vs.length=ps.length) (r:aQ vs us)
  (x:InCallC s s.heap.objs.size (bindL (envOfC qual scope s.heap.objs.size f cd).kindOf (ps.zip us) λ_=>none) (cellsFrom (s.heap.objs.size+1) scope.names []) (bindC (envOfC qual scope s.heap.objs.size f cd).kindOf (ps.zip us) λ_=>none) s1):
  Inv (lB CX P w K mg base N qual scope f cd A outer s H E) [] (hX N vs) H s1:=by
 have hpl:ps.length<=N.length:=by have:=congrArg List.length S.pre;rw[List.length_take]at this;omega
 obtain⟨h1,tk,rfl,hk⟩:=x.done;have noA:∀b:Addr,b∉(lB CX P w K mg base N qual scope f cd A outer s H E).ex:=λb z=>absurd (show b∈([]:List Addr)from z) (by simp);refine⟨⟨e0.mod,S.kind,rfl,rfl,Nat.le_refl _,λy z c h1 h2=>?_,λy hy=>?_,λy c _ h=>?_,λ_=>hd,Around.frames_deeper e0.frames,.inr ⟨rfl,rfl⟩,λb z=>absurd z (noA b),e0.bs,e0.bsz,λb _ _=>noA b,λb z=>absurd z (noA b),e0.funs,e0.frf⟩,
  rfl,e0.bare,Un.kept hk,⟨_,x.toInCall.ns,λi y v h1 h2 h3=>?_⟩,λy c h=>⟨_,x.cell y c h⟩,e0.hok.fresh (Nat.le_refl _),λy c h=>?_,λp hp=>absurd (show p∈([]:List (Addr×Obj))from hp) (by simp),e0.hok.kept hk,?_⟩
 ·exact name_of_addr x.apart (PySem.mem_of_lookup h1) (PySem.mem_of_lookup h2)
 ·have hy:scope.names.lookup y=some .cell∨scope.names.lookup y=some .free:=hy;rcases hy with hy|hy
  ·exact rQ hy
  ·exact absurd rfl (S.nofree _ (PySem.mem_of_lookup hy))
 ·exact Nat.le_of_lt (x.above y c (PySem.mem_of_lookup h))
 ·have hi:i<vs.length:=by
   unfold hX at h2;by_cases hi:i<vs.length
   ·exact hi
   ·rw[List.getElem?_append_right (by simpa using hi)]at h2;rw[List.getElem?_replicate]at h2;split at h2<;>cases h2
  have ha:vs[i]? = some v:=by
   unfold hX at h2;rw[List.getElem?_append_left (by simpa using hi),List.getElem?_map]at h2;cases e:vs[i]? with
   |none=>rw[e]at h2;cases h2
   |some a=>rw[e]at h2;cases h2;rfl
  obtain⟨u,hu,rv⟩:=r.get ha;have hp:ps[i]? = some y:=by
   rw[←S.pre,List.getElem?_take_of_lt (by omega)];exact h1
  have ndP:ps.Nodup:=by rw[←S.pre];exact S.nd.sublist (List.take_sublist _ _)
  refine⟨u,rv,?_⟩;rcases S.par y (List.mem_of_getElem? hp)with k|k
  ·exact .inl ⟨k,oP ndP hp hu k⟩
  ·obtain⟨c,e⟩:=rQ (n:=s.heap.objs.size+1) k;refine .inr ⟨.inl k,c,e,?_⟩;have q:=x.cell y c e;rw[oQ ndP hp hu (by show scope.names.lookup y≠_;rw[k];decide)]at q;exact q
 ·exact e0.hok.fresh (Nat.le_of_lt (x.above y c (PySem.mem_of_lookup h)))
 ·unfold hX;show _=N.length;rw[List.length_append,List.length_map,List.length_replicate];omega
theorem D0 {CX:CXT}{P:Program}{w:World}{K:PySem.W.Frag}{mg:Str->Option Value}{base:Heap}{k:Nat}{f:Addr}{name qual:Str}{params:Arguments}{body:List Stmt}{scope:Scope}{dV kV doc pm cdv ct oc:Value}{an od:Option Addr}
  {osl:Array (Option Value)}{N ps:List Str}{sp:Sp}(lk:K.lookup f=some ⟨oc,od,.func (PySem.W.fnOf name qual params body scope dV kV doc pm an cdv ct),osl⟩) (hcd:PySem.W.codeIn K cdv qual=true) (S:FnScope N ps scope)
  (len:∀vs H Q E,sp vs H Q E->vs.length=ps.length)
  (hbody:∀(A:Around)(outer:List Env)(s:Shared)(H:Hp)(vs:List V)(Q:VK)(E:XK),Room k (A.deeper (envOfC qual scope s.heap.objs.size f cdv))->sp vs H Q E ->
   ∃t,PSs (lB CX P w K mg base N qual scope f cdv A outer s H E) body t/\t { nx:=λ_ H'=>Q .non H',rt:=Q } (hX N vs) H):
  FnOk P w K mg base CX (k+1) f (PySem.W.fnOf name qual params body scope dV kV doc pm an cdv ct) ps sp:=by
 refine⟨len,λA outer s H args us vs Q E hr e0 hb r hsp=>?_⟩;have hl:=len _ _ _ _ hsp;have KX:K.In s.heap:=e0.mod.kin.keeps λb o e=>(e0.bs b o e).1;have lim:s.heap.NoLimit:=e0.mod.nolimit.keeps λb o e=>(e0.bs b o e).1;have hkind:∀y∈ps.zip us,scope.names.lookup y.1=some .local∨(scope.names.lookup y.1=some .cell/\((cellsFrom (s.heap.objs.size+1) scope.names []).lookup y.1).isSome=true):=λ⟨n,v⟩ hy=>by
  rcases S.par n (List.of_mem_zip hy).1 with q|q
  ·exact .inl q
  ·exact .inr ⟨q,PySem.W.cellsFrom_some _ _ _ (.inl q)⟩
 refine codeAny_call_function hr.depth (KX _ _ lk) rfl S.co S.gen rfl (PySem.W.codeRec_of KX hcd) (hb _ _ _ _ ?_);refine wpAny_newFunctionEnv_cells S.kind hkind λenv he s1 x=>?_;subst he;refine⟨lim.keeps x.toInCall.keep,codeAny_func ?_⟩;obtain⟨t,ht,hq⟩:=hbody A outer s H vs Q E (hr.deeper _) hsp;have I:Inv (lB CX P w K mg base N qual scope f cdv A outer s H E) [] (hX N vs) H s1:=yk S hr.hd e0 hl r x;refine wpAny_mono (ht [] s1 (hX N vs) H _ I hq) (λfl s' hs=>?_) λe s' hs=>hs;have fin:∀ {σ':St}{H':Hp}{v:V}{u:Value},Inv (lB CX P w K mg base N qual scope f cdv A outer s H E) [] σ' H' s'->aS v u->Q v H'->CE outer P w H s Q u s' :=
  λ{σ' H' v u} J rv q=>⟨v,H',J.os,J.bare,J.base,J.hok,rv,q⟩
 cases fl with
 |ret u=>
  obtain⟨v,σ',H',J,rv,q⟩:=hs;exact fin J rv q
 |next=>
  obtain⟨σ',H',J,q⟩:=hs;exact fin (v:=V.non) (u:=Value.none) J rfl q
 |brk=>
  obtain⟨_,_,_,q⟩:=hs;exact False.elim q
 |cont=>
  obtain⟨_,_,_,q⟩:=hs;exact False.elim q
section
variable {X:Cx}{x:Str}{p pos:Pos}{e:Expr}{es:List Expr}{t:TA}{id T:String}{r:List V->Hp->VK->Prop}
def tCB (r:List V->Hp->VK->Prop)(t:TA):TE:=λσ H Q=>t σ H λvs H1=>r vs H1 Q
theorem rR (hc:bA X (.builtin id) r)(hg:Gl X x)(hm:X.mg x=none)(hv:bootBuiltins x=some (.builtin id))(ha:PA X (e::es) t)(hn:x ≠ "__name__":=by decide)(hdb:(x == ("__debug__" : Str))=false:=by decide)
  (he:starEach (e::es) X.env=(false,eval e X.env)::starEach es X.env:=by rfl) (hpl:(backTo pos (starEach es X.env)).any (·.1)=false:=by rfl):PE X (.Call (.Name x p) (e::es) [] pos) (tCB r t):=by
 intro pins s σ H Q I h;refine wpAny_Call_Name_kw (jj I hg hm hv ?_ hn hdb);exact PyProof.Rows.callWith_builtin1 (thn (ha pos pins s σ H _ I h) λus s1 ⟨vs,H1,I1,r1,q1⟩=>hc pins s1 σ H1 vs us Q I1 r1 q1) he hpl
theorem oR (hc:bA X (.type T) r)(hg:Gl X x)(hm:X.mg x=none)(hv:bootBuiltins x=some (.type T))(ha:PA X (e::es) t)(hn:x ≠ "__name__":=by decide)(hdb:(x == ("__debug__" : Str))=false:=by decide)
  (he:starEach (e::es) X.env=(false,eval e X.env)::starEach es X.env:=by rfl) (hpl:(backTo pos (starEach es X.env)).any (·.1)=false:=by rfl):PE X (.Call (.Name x p) (e::es) [] pos) (tCB r t):=by
 intro pins s σ H Q I h;refine wpAny_Call_Name_kw (jj I hg hm hv ?_ hn hdb);exact PyProof.Rows.callWith_type1 (thn (ha pos pins s σ H _ I h) λus s1 ⟨vs,H1,I1,r1,q1⟩=>hc pins s1 σ H1 vs us Q I1 r1 q1) he hpl
end
end L2
namespace HT
open PySem PyProof.Rows
section
open PySem.SeqAt
open PySem.AutoSeq1 (wpAny_loadPart')
open PySem.MeetsSeq PySem.MeetsSeq2 PySem.MeetsSeq3
end
section
variable {prog:Program}{w:World}{A:Around}{E:Value->Shared->Prop}{s:Shared}
theorem BT {t b:Addr}{vs ws:List Value}{Q:Value->Shared->Prop}(ht:IsTup s.heap t vs.toArray)(hb:IsTup s.heap b ws.toArray)(hv:vs≠[])
  (h1:ws=[]->Q (.ref t) s) (h2:ws≠[]->Q (.ref s.heap.objs.size) { s with heap:=s.heap.push { cls:=.type "tuple",data:=.seq (vs++ws).toArray } })
  (hsz:vs.length+ws.length<=sizeLine):wpAny (model prog w) A (binaryOp .Add (.ref t) (.ref b)) Q E s:=by
 obtain⟨⟨cls,dd,data,sl⟩,ho,hc,n,hd⟩:=id ht;obtain⟨⟨cls2,dd2,data2,sl2⟩,ho2,hc2,n2,hd2⟩:=id hb;simp only at hc hd hc2 hd2;subst hc hd hc2 hd2;have e:vs.toArray++ws.toArray=(vs++ws).toArray:=by simp
 by_cases hw:ws=[]
 ·exact concat_meets ⟨_,ho,rfl⟩ ⟨_,ho2,rfl⟩ noFill_tuple_add seq_tuple_add PySem.F.slot_tuple_add PySem.F.entry_tuple_add (PySem.F.args_tuple_add_2 _ _)
   (tuple_addW1 t b vs.toArray ws.toArray n n2 dd dd2 sl sl2 (by simpa using hv) (by simp[hw])) ⟨ho,ho2,h1 hw⟩
 ·refine concat_meets ⟨_,ho,rfl⟩ ⟨_,ho2,rfl⟩ noFill_tuple_add seq_tuple_add PySem.F.slot_tuple_add PySem.F.entry_tuple_add (PySem.F.args_tuple_add_2 _ _)
   (tuple_addW2 t b vs.toArray ws.toArray n n2 dd dd2 sl sl2 (by simpa using hv) (by simpa using hw) (by rw[List.size_toArray,List.size_toArray];exact hsz)) ⟨ho,ho2,?_⟩
  rw[e];exact h2 hw
noncomputable def sIx (n d:Nat):Option Int->Nat
 |none=>d
 |some v=>if v<0 then (v+(n:Int)).toNat else min v.toNat n
theorem ED (n d:Nat)(hd:d<=n)(o:Option Int):sIx n d o<=n:=by
 cases o with
 |none=>exact hd
 |some v=>
  show(if v<0 then (v+(n:Int)).toNat else min v.toNat n)<=n;by_cases hv:v<0
  ·rw[if_pos hv];omega
  ·rw[if_neg hv];exact Nat.min_le_right _ _
theorem wo (v:Int)(n d:Nat):(if v<0 then max (v+(n:Int)) 0 else min v (n:Int))=((sIx n d (some v):Nat):Int):=by
 show(if v<0 then max (v+(n:Int)) 0 else min v (n:Int))=(((if v<0 then (v+(n:Int)).toNat else min v.toNat n):Nat):Int);by_cases hv:v<0
 ·simp only[if_pos hv];omega
 ·simp only[if_neg hv];omega
theorem uR (lo hi:Option Int)(n:Nat):Builtin.Slice.sliceAdjust lo hi 1 (n:Int)=(((sIx n 0 lo:Nat):Int),((sIx n n hi:Nat):Int)):=by
 have h1:¬((1:Int)<0):=by omega
 unfold Builtin.Slice.sliceAdjust;simp only[h1,if_false];refine Prod.ext ?_ ?_
 ·cases lo with
  |none=>rfl
  |some v=>exact wo v n 0
 ·cases hi with
  |none=>rfl
  |some v=>exact wo v n n
theorem uS (i j:Nat):Builtin.Slice.slicePlaces (i:Int) (j:Int) 1=j - i:=by
 unfold Builtin.Slice.slicePlaces;have h1:(1:Int) > 0:=by omega
 simp only[h1,if_true,Int.ediv_one];split<;>omega
theorem lV {v:Value}{o:Option Int}{Q:Option Int->Shared->Prop}(p:IsPart v o)(h:Q o s):wpAny (model prog w) A (Builtin.Slice.slicePartIndex v) Q E s:=by
 cases p with
 |none=>exact slicePart_none h
 |int i t=>exact slicePart_int h
theorem gm {sl:Addr}{vl vu:Value}{lo hi:Option Int}{n:Nat}{Q:Int×Int×Nat->Shared->Prop}(hs:s.heap.IsSliceOf sl vl vu .none)(pl:IsPart vl lo)(pu:IsPart vu hi)
  (h:Q (((sIx n 0 lo:Nat):Int),1,sIx n n hi - sIx n 0 lo) s):wpAny (model prog w) A (Builtin.Slice.sliceApplied (.ref sl) (pure (n:Int))) Q E s:=by
 obtain⟨os,hos,hcs,hds⟩:=id hs;unfold Builtin.Slice.sliceApplied Builtin.Slice.sliceFields;refine wX (wX (wpAny_field hos hds (x:=vl) rfl (wX (wpAny_field hos hds (x:=vu) rfl (wX (wpAny_field hos hds (x:=.none) rfl (wY ?_)))))));refine wX (slicePart_none ?_);show wpAny _ _ (if((1:Int) == 0)=true then _ else _) _ _ s;rw[if_neg (by decide)];refine wX (lV pl (wX (lV pu (wX (wY ?_)))));show wpAny _ _ (match Builtin.Slice.sliceAdjust lo hi 1 (n:Int) with|(lo,hi)=>pure (lo,(1:Int),Builtin.Slice.slicePlaces lo hi 1)) _ _ s;rw[uR lo hi n];show wpAny _ _ (pure (((sIx n 0 lo:Nat):Int),(1:Int),Builtin.Slice.slicePlaces ((sIx n 0 lo:Nat):Int) ((sIx n n hi:Nat):Int) 1)) _ _ s;rw[uS];exact wY h
theorem z6 (xs:Array Value)(i k:Nat):((List.range k).filterMap λ(m:Nat)=>xs[((i:Int)+(m:Int)*1).toNat]?).toArray=((xs.toList.drop i).take k).toArray:=by
 have e:(λ(m:Nat)=>xs[((i:Int)+(m:Int)*1).toNat]?)=λm=>xs[i+m]?:=by
  funext m;have:((i:Int)+(m:Int)*1).toNat=i+m:=by omega
  rw[this]
 rw[e];have:=pick_run xs i k;rw[List.filterMap_map]at this;have e2:((λx=>xs[x]?) ∘ λx=>i+x)=λm=>xs[i+m]?:=rfl;rw[e2]at this;rw[this]
theorem jz {t sl:Addr}{items:Array Value}{vl vu:Value}{lo hi:Option Int}{Q:Value->Shared->Prop}(ht:IsTup s.heap t items)(hs:s.heap.IsSliceOf sl vl vu .none)(pl:IsPart vl lo)(pu:IsPart vu hi)
  (hw:¬(sIx items.size 0 lo=0/\sIx items.size items.size hi=items.size))
  (h:Q (.ref s.heap.objs.size) { s with heap:=s.heap.push { cls:=.type "tuple",data:=.seq ((items.toList.drop (sIx items.size 0 lo)).take (sIx items.size items.size hi - sIx items.size 0 lo)).toArray } })
  (hsz:items.size<=sizeLine):wpAny (model prog w) A (getItem (.ref t) (.ref sl)) Q E s:=by
 have htake:sizeOk (.seq ((items.toList.drop (sIx items.size 0 lo)).take (sIx items.size items.size hi - sIx items.size 0 lo)).toArray):=by
  show((items.toList.drop (sIx items.size 0 lo)).take (sIx items.size items.size hi - sIx items.size 0 lo)).toArray.size<=sizeLine
  rw[List.size_toArray,List.length_take,List.length_drop,Array.length_toList]
  omega
 have hj:sIx items.size items.size hi<=items.size:=ED _ _ (Nat.le_refl _) hi
 obtain⟨os,hos,hcs,hds⟩:=id hs
 have hTs:s.TypeIs (.ref sl) "slice":=⟨os,hos,hcs⟩
 unfold getItem
 try with_reducible refine wpAny_holding ?_
 first|refine wX (wY ?_)|skip
 refine wX (wpAny_sequenceKey ht.typeIs (by decide) ?_)
 refine wX (wpAny_callSpecial?_slot (name:=Str.ofString "__getitem__") ht.typeIs PyProof.Rows.slot_tuple_getitem
  (wpAny_call_entry PyProof.Rows.slot_tuple_getitem ht.typeIs entry_tuple_getitem ?_ (args_tuple_getitem _ _)))
 show wpAny _ _ (Builtin.Tuple.tupleItemsOf (.ref t)>>=_) _ _ s
 refine wX (tupleItemsOf_ ht ?_)
 refine wX (wpAny_typeOf hTs ?_)
 rw[if_pos (by decide)]
 refine wX (gm hs pl pu ?_)
 have hno:¬((((sIx items.size 0 lo:Nat):Int) == 0 && (1:Int) == 1 && (sIx items.size items.size hi - sIx items.size 0 lo) == items.size)=true):=by
  intro q
  rw[Bool.and_eq_true,Bool.and_eq_true]at q
  have q1:((sIx items.size 0 lo:Nat):Int)=0:=eq_of_beq q.1.1
  have q2:sIx items.size items.size hi - sIx items.size 0 lo=items.size:=eq_of_beq q.2
  exact hw ⟨by omega,by omega⟩
 show wpAny _ _ (if(((sIx items.size 0 lo:Nat):Int) == 0 && (1:Int) == 1 && (sIx items.size items.size hi - sIx items.size 0 lo) == items.size)=true then _ else _) _ _ s
 rw[if_neg hno,z6]
 first
  |exact wX (m:=Builtin.Tuple.tupleExact _) (wpAny_newObj_type (wY ⟨_,rfl,wY h⟩) htake)
  |exact wX (m:=Builtin.Tuple.tupleExact _) (wpAny_newObj_type (wX (wY (wY ⟨_,rfl,wY h⟩))) htake)
  |exact wX (wX (m:=Builtin.Tuple.tupleExact _) (wpAny_newObj_type (wY (wY ⟨_,rfl,wY h⟩)) htake))
  |exact wX (wX (m:=Builtin.Tuple.tupleExact _) (wpAny_newObj_type (wY ⟨_,rfl,wY h⟩) htake))
end
end HT
namespace L2
open PySem PySem.Spec PyProof.Rows
abbrev TO:=St->Hp->(Option Int->Hp->Prop)->Prop
def PO (X:Cx)(e:Option Expr)(t:TO):Prop :=
 ∀(pins:List (Addr×Obj))(s:Shared)(σ:St)(H:Hp)(Q:Option Int->Hp->Prop),Inv X pins σ H s->t σ H Q ->
  wpAny (model X.prog X.w) X.A (evalPart e X.env) (λu s'=>∃o H',Inv X pins σ H' s'/\IsPart u o/\Q o H') X.xe s
def BU:TO:=λ_ H Q=>Q none H
def Gz (t:TE):TO:=λσ H Q=>t σ H λx H1=>∃i,x=.int i/\Q (some i) H1
section
variable {X:Cx}{e:Expr}{te:TE}{lo hi:Option Expr}{tl th:TO}{pos p2:Pos}
theorem BV:PO X none BU:=by
 intro pins s σ H Q I h;rw[evalPart_none];exact wY ⟨none,H,I,.none,h⟩
theorem BW (h:PE X e te):PO X (some e) (Gz te):=by
 intro pins s σ H Q I hw;rw[evalPart_some];refine thn (h pins s σ H _ I hw) λu s1 ⟨x,H1,I1,r1,q1⟩=>?_;obtain⟨i,rfl,q⟩:=q1;obtain⟨t,rfl⟩:=r1;exact⟨some i,H1,I1,.int i t,q⟩
def SlR (X:Cx)(r:V->Option Int->Option Int->Hp->VK->Prop):Prop :=
 ∀(pins:List (Addr×Obj))(s:Shared)(σ:St)(H:Hp)(x:V)(v vl vu:Value)(lo hi:Option Int)(sl:Addr)(Q:VK),Inv X pins σ H s->aS x v->s.heap.IsSliceOf sl vl vu .none->IsPart vl lo->IsPart vu hi->r x lo hi H Q ->
  ∃T id,typeLookup (.type T) "__getitem__" = pure (some (.builtin id))/\s.TypeIs v T/\wpAny (model X.prog X.w) X.A (getItem v (.ref sl)) (EP X pins σ Q) X.xe s
theorem SlR.or {r r':V->Option Int->Option Int->Hp->VK->Prop}(h:SlR X r)(h':SlR X r'):SlR X (λx lo hi H Q=>r x lo hi H Q∨r' x lo hi H Q):=by
 intro pins s σ H x v vl vu lo hi sl Q I rx hs pl pu q;rcases q with q|q
 ·exact h pins s σ H x v vl vu lo hi sl Q I rx hs pl pu q
 ·exact h' pins s σ H x v vl vu lo hi sl Q I rx hs pl pu q
def tSl (r:V->Option Int->Option Int->Hp->VK->Prop)(te:TE)(tl th:TO):TE:=λσ H Q=>te σ H λx H1=>tl σ H1 λl H2=>th σ H2 λu H3=>r x l u H3 Q
theorem z7 {r:V->Option Int->Option Int->Hp->VK->Prop}(hr:SlR X r)(he:PE X e te)(hl:PO X lo tl)(hu:PO X hi th):PE X (.Subscript e (.Slice lo hi none p2) pos) (tSl r te tl th):=by
 intro pins s σ H Q I h;refine Subscript_ (thn (he pins s σ H _ I h) λv s1 ⟨x,H1,I1,r1,q1⟩=>?_);refine wpAny_Slice (thn (hl pins s1 σ H1 _ I1 q1) λvl s2 ⟨l,H2,I2,pl,q2⟩=>thn (hu pins s2 σ H2 _ I2 q2) λvu s3 ⟨u,H3,I3,pu,q3⟩=>?_);rw[evalPart_none];refine wY ?_;have I4:Inv X pins σ H3 { s3 with heap:=s3.heap.push { cls:=.type "slice",data:=.fields #[vl,vu,.none] } }:=I3.kept (t':=s3.toks) λb ob q=>Heap.get?_push_of_some _ q;obtain⟨T,id,hT,ht,hg⟩:=hr pins { s3 with heap:=s3.heap.push { cls:=.type "slice",data:=.fields #[vl,vu,.none] } } σ H3 x v vl vu l u s3.heap.objs.size Q I4 r1 (Heap.IsSliceOf.new ..) pl pu q3;show wpAny (model X.prog X.w) X.A (subscriptTail e (.Slice lo hi none p2) v (.ref s3.heap.objs.size)) (EP X pins σ Q) X.xe { s3 with heap:=s3.heap.push { cls:=.type "slice",data:=.fields #[vl,vu,.none] } };exact tail_any (ops:=[.ref s3.heap.objs.size,v]) ht hT hg (by with_unfolding_all rfl)
noncomputable def ou (xs:List V)(lo hi:Option Int):List V:=(xs.drop (HT.sIx xs.length 0 lo)).take (HT.sIx xs.length xs.length hi - HT.sIx xs.length 0 lo)
theorem kX (xs:List V)(lo hi:Option Int):(ou xs lo hi).length<=xs.length:=by
 unfold ou;rw[List.length_take,List.length_drop];omega
def HE (K:PySem.W.Frag):V->Option Int->Option Int->Hp->VK->Prop:=λx lo hi H Q=>∃a xs,x=.ref a/\SqT K H a xs /\
 ¬(HT.sIx xs.length 0 lo=0/\HT.sIx xs.length xs.length hi=xs.length)/\∀p,H p=none->Q (.ref p) (upd H p (.tup (ou xs lo hi)))
theorem EE:SlR X (HE X.K):=by
 intro pins s σ H x v vl vu lo hi sl Q I rx hs pl pu h;obtain⟨a,xs,rfl,hx,hw,q⟩:=h;cases rx
 obtain⟨its,r,ht,hz⟩:=I.tuple hx;have hlen:its.toArray.size=xs.length:=by rw[List.size_toArray];exact r.length.symm
 refine⟨"tuple",_,PyProof.Rows.slot_tuple_getitem.lookup,ht.typeIs,?_⟩;refine HT.jz ht hs pl pu (by rw[hlen];exact hw) ?_ (by rw[hlen];exact hz);rw[hlen];refine⟨.ref s.heap.objs.size,_,I.laid (t':=s.toks) (o:=.tup (ou xs lo hi)) (λb ob q=>Heap.get?_push_of_some _ q) (Nat.le_refl _) ?_,rfl,q _ (I.hok.fresh (Nat.le_refl _))⟩;exact⟨Nat.le_trans (kX xs lo hi) hz,_,(r.drop (HT.sIx xs.length 0 lo)).take (HT.sIx xs.length xs.length hi - HT.sIx xs.length 0 lo),IsTup.new _ _⟩
def G0 (K:PySem.W.Frag):R2:=λx y H Q=>∃a b xs ys,x=.ref a/\y=.ref b/\SqT K H a xs/\SqT K H b ys/\xs≠[]/\xs.length+ys.length<=sizeLine /\
 (ys=[]->Q (.ref a) H)/\(ys≠[]->∀p,H p=none->Q (.ref p) (upd H p (.tup (xs++ys))))
theorem aQ.nil_iff {xs:List V}{us:List Value}(r:aQ xs us):us=[]↔xs=[]:=by
 cases r with
 |nil=>simp
 |cons _ _=>simp
theorem BX:OpR X (binaryOp .Add) (G0 X.K):=by
 intro pins s σ H x y v u Q I rx ry h;obtain⟨a,b,xs,ys,rfl,rfl,ha,hb,hx,hz,q1,q2⟩:=h;cases rx
 cases ry
 obtain⟨its,r1,p1,_⟩:=I.tuple ha;obtain⟨its2,r2,p2,_⟩:=I.tuple hb;refine HT.BT p1 p2 (λz=>hx (r1.nil_iff.mp z)) (λz=>⟨.ref a,H,I,rfl,q1 (r2.nil_iff.mp z)⟩) (λz=>?_) (by rw[←r1.length,←r2.length];exact hz);refine⟨.ref s.heap.objs.size,_,I.laid (t':=s.toks) (o:=.tup (xs++ys)) (λb ob q=>Heap.get?_push_of_some _ q) (Nat.le_refl _) ?_,rfl,q2 (λw=>z (r2.nil_iff.mpr w)) _ (I.hok.fresh (Nat.le_refl _))⟩;exact⟨by rw[List.length_append];exact hz,_,r1.append r2,IsTup.new _ _⟩
end
noncomputable def ixN (n:Nat)(i:Int):Option Nat:=if 0<=i then (if i<n then some i.toNat else none)else if -(n:Int)<=i then some (i+n).toNat else none
noncomputable def atI {α:Type}(xs:List α)(i:Int):Option α:=(ixN xs.length i).bind λj=>xs[j]?
theorem wq {n:Nat}{i:Int}{j:Nat}(h:ixN n i=some j):seqIndex? i n=some j/\j<n/\-(n:Int)<=i/\i<n:=by
 unfold ixN at h;by_cases h0:0<=i
 ·rw[if_pos h0]at h;by_cases h1:i<n
  ·rw[if_pos h1]at h;have e:i.toNat=j:=Option.some.inj h;exact⟨by rw[seqIndex_of h0 h1,e],by omega,by omega,h1⟩
  ·rw[if_neg h1]at h;cases h
 ·rw[if_neg h0]at h;by_cases h1 : -(n:Int)<=i
  ·rw[if_pos h1]at h;have e:(i+n).toNat=j:=Option.some.inj h;exact⟨by rw[seqIndex_neg (by omega) h1,e],by omega,h1,by omega⟩
  ·rw[if_neg h1]at h;cases h
theorem qj {α:Type}{xs:List α}{i:Int}{v:α}(h:atI xs i=some v):∃j,seqIndex? i xs.length=some j/\xs[j]? = some v/\j<xs.length/\-(xs.length:Int)<=i/\i<xs.length:=by
 unfold atI at h;cases e:ixN xs.length i with
 |none=>rw[e]at h;cases h
 |some j=>
  rw[e]at h;obtain⟨h1,h2,h3,h4⟩:=wq e;exact⟨j,h1,h,h2,h3,h4⟩
theorem BY {α:Type}{xs:List α}{j:Nat}{v:α}(h:xs[j]? = some v):atI xs (j:Int)=some v:=by
 have hj:j<xs.length:=(List.getElem?_eq_some_iff.mp h).1;have e:ixN xs.length (j:Int)=some j:=by
  unfold ixN;rw[if_pos (by omega),if_pos (by omega)];simp
 unfold atI;rw[e];exact h
def qk (b:Expr):Prop:=∀o i,subscripted b false o i=operate [o,i] (getItem o i)
def IxR (X:Cx)(r:R2):Prop :=
 ∀(value slice:Expr)(pins:List (Addr×Obj))(s:Shared)(σ:St)(H:Hp)(x y:V)(v u:Value)(Q:VK),Inv X pins σ H s->aS x v->aS y u->r x y H Q ->
  subscripted slice false v u=operate [v,u] (getItem v u)->wpAny (model X.prog X.w) X.A (subscriptTail value slice v u) (EP X pins σ Q) X.xe s
def MtR (X:Cx)(id:String)(r:V->List V->Hp->VK->Prop):Prop :=
 ∀(pins:List (Addr×Obj))(s:Shared)(σ:St)(H:Hp)(x:V)(xs:List V)(v:Value)(us:List Value)(Q:VK),Inv X pins σ H s->aS x v->aQ xs us->r x xs H Q ->
  wpAny (model X.prog X.w) X.A (call (.builtin id) (v::us)) (EP X pins σ Q) X.xe s
section
variable {X:Cx}{a b:Expr}{ta tb:TE}{pos:Pos}
theorem IxR.or {r r':R2}(h:IxR X r)(h':IxR X r'):IxR X (λx y H Q=>r x y H Q∨r' x y H Q):=by
 intro value slice pins s σ H x y v u Q I rx ry q hs;rcases q with q|q
 ·exact h value slice pins s σ H x y v u Q I rx ry q hs
 ·exact h' value slice pins s σ H x y v u Q I rx ry q hs
theorem MtR.or {id:String}{r r':V->List V->Hp->VK->Prop}(h:MtR X id r)(h':MtR X id r'):MtR X id (λx xs H Q=>r x xs H Q∨r' x xs H Q):=by
 intro pins s σ H x xs v us Q I rx rs q;rcases q with q|q
 ·exact h pins s σ H x xs v us Q I rx rs q
 ·exact h' pins s σ H x xs v us Q I rx rs q
theorem D1 {r:R2}(hr:IxR X r)(ha:PE X a ta)(hb:PE X b tb)(hs:qk b):PE X (.Subscript a b pos) (tOp r ta tb):=by
 intro pins s σ H Q I h;exact Subscript_ (E1 ha hb I h λv u s2 x y H2 I2 rx ry q=>hr a b pins s2 σ H2 x y v u Q I2 rx ry q (hs _ _))
def HF (K:PySem.W.Frag):R2:=λx y H Q=>∃p xs i v,x=.ref p/\y=.int i/\SqL K H p xs/\atI xs i=some v/\Q v H
def HG (K:PySem.W.Frag):R2:=λx y H Q=>∃p xs i v,x=.ref p/\y=.int i/\SqT K H p xs/\atI xs i=some v/\Q v H
def HH:R2:=λx y H Q=>∃z i c,x=.str z/\y=.int i/\z.length<=sizeLine/\atI z.cps.toList i=some c/\Q (.str ⟨#[c]⟩) H
theorem BZ:IxR X (HF X.K):=by
 intro value slice pins s σ H x y v u Q I rx ry h hs;obtain⟨p,xs,i,z,rfl,rfl,hq,he,q⟩:=h;cases rx
 obtain⟨t,rfl⟩:=ry;obtain⟨its,r,pl,hz⟩:=I.list hq;obtain⟨j,h1,h2,h3,h4,h5⟩:=qj he;obtain⟨w,ew,rw'⟩:=r.get h2;have hl:=r.length;have hn:=kx;have fin:EP X pins σ Q w s:=⟨z,H,I,rw',q⟩;by_cases h0:0<=i
 ·have hj:i.toNat=j:=by
   rw[seqIndex_of h0 h5]at h1;exact Option.some.inj h1
  exact item_listR pl.isList h0 (by omega) (by rw[hj];simpa using ew) fin hs
 ·have hj:(i+(its.toArray.size:Int)).toNat=j:=by
   rw[seqIndex_neg (by omega) h4]at h1;rw[List.size_toArray,←hl];exact Option.some.inj h1
  exact subscriptTail_builtinR (x:=w) pl.isList.typeIs slot_list_getitem.lookup
   (wpAny_getItem_list_neg (Q:=λr s'=>r=w/\EP X pins σ Q r s') pl.isList (by omega) (by rw[List.size_toArray]<;>omega) (by omega) (by rw[hj];simpa using ew) ⟨rfl,fin⟩) hs
theorem ql:IxR X (HG X.K):=by
 intro value slice pins s σ H x y v u Q I rx ry h hs;obtain⟨p,xs,i,z,rfl,rfl,hq,he,q⟩:=h;cases rx
 obtain⟨t,rfl⟩:=ry;obtain⟨its,r,pl,hz⟩:=I.tuple hq;obtain⟨j,h1,h2,h3,h4,h5⟩:=qj he;obtain⟨w,ew,rw'⟩:=r.get h2;have hl:=r.length;have hn:=kx;have fin:EP X pins σ Q w s:=⟨z,H,I,rw',q⟩;exact subscriptTail_builtinR (x:=w) pl.typeIs slot_tuple_getitem.lookup
  (getItem_tuple (j:=j) (Q:=λr s'=>r=w/\EP X pins σ Q r s') pl (by omega) (by omega) (by rw[List.size_toArray,←hl];exact h1) (by simpa using ew) ⟨rfl,fin⟩) hs
theorem uT:IxR X HH:=by
 intro value slice pins s σ H x y v u Q I rx ry h hs;obtain⟨z,i,c,rfl,rfl,hz,he,q⟩:=h;obtain⟨t,rfl⟩:=rx;obtain⟨t',rfl⟩:=ry;obtain⟨j,h1,h2,h3,h4,h5⟩:=qj he;have hl:z.cps.toList.length=z.length:=by simp[Str.length]
 rw[hl]at h1 h4 h5;have hn:=kx;exact tail_any (typeIs_str s z t) slot_str_getitem.lookup (getItem_str (c:=c) (by
  have e1:decide (i < -(2 ^ 63:Int))=false:=decide_eq_false (by omega);have e2:decide (i ≥ 2 ^ 63)=false:=decide_eq_false (by omega);rw[e1,e2,Bool.or_false]) (by rw[h1];simpa using h2) ⟨.str ⟨#[c]⟩,H,I.tok _,⟨_,rfl⟩,q⟩) hs
theorem uU (its:List Value)(n j:Nat)(u:Value):Obj.mapSeq (·.setIfInBounds j u) { cls:=.type "list",data:=.seq its.toArray n }={ cls:=.type "list",data:=.seq (its.set j u).toArray n }:=by
 simp[Obj.mapSeq]
theorem Inv.lst {pins:List (Addr×Obj)}{σ:St}{H:Hp}{s:Shared}{p:Addr}{xs:List V}(I:Inv X pins σ H s)(h:H p=some (.lst xs)):
  ∃(its:List Value)(n:Nat),aQ xs its/\s.heap.get? p=some { cls:=.type "list",data:=.seq its.toArray n }/\xs.length<=sizeLine:=by
 obtain⟨z,its,n,r,e⟩:=I.hok p _ h;exact⟨its,n,r,e,z⟩
theorem Inv.lstUpd {pins:List (Addr×Obj)}{σ:St}{H:Hp}{s:Shared}{p:Addr}{xs ys:List V}{its its':List Value}{n n':Nat}{f:Obj->Obj}(I:Inv X pins σ H s)(h:H p=some (.lst xs))
  (ho:s.heap.get? p=some { cls:=.type "list",data:=.seq its.toArray n }) (hf:f { cls:=.type "list",data:=.seq its.toArray n }={ cls:=.type "list",data:=.seq its'.toArray n' }) (r:aQ ys its') (hz:ys.length<=sizeLine) (t:Nat):
  Inv X pins σ (upd H p (.lst ys)) { s with heap:=s.heap.update p f,toks:=t }:=by
 have e:(s.heap.update p f).get? p=some { cls:=.type "list",data:=.seq its'.toArray n' }:=by
  rw[Heap.get?_update_self f ho (by rw[hf]<;>rfl),hf]
 refine I.write (x:=p) (e:=p) (by rw[h];trivial) (.inl rfl) (λb u hb q=>(Heap.get?_update_other _ _ (Ne.symm hb)).trans q) ⟨_,e⟩ ?_;exact⟨hz,its',n',r,e⟩
def G1:V->V->V->Hp->(Hp->Prop)->Prop:=λo i v H Q=>∃p xs k j,o=.ref p/\i=.int k/\H p=some (.lst xs)/\ixN xs.length k=some j/\Q (upd H p (.lst (xs.set j v)))
theorem z8:Gi X G1:=by
 intro pins s σ H o i v ov iv u Q I ro ri rv h;obtain⟨p,xs,k,j,rfl,rfl,hp,hj,q⟩:=h;cases ro
 obtain⟨t,rfl⟩:=ri;obtain⟨its,n,r,ho,hz⟩:=I.lst hp;obtain⟨h1,h2,h3,h4⟩:=wq hj;have hl:=r.length;have hn:=kx;have I':Inv X pins σ (upd H p (.lst (xs.set j v))) { s with heap:=s.heap.update p (Obj.mapSeq (·.setIfInBounds j u)) } :=
  I.lstUpd hp ho (uU its n j u) (r.set rv j) (by rw[List.length_set];exact hz) s.toks
 by_cases h0:0<=k
 ·have hk:k.toNat=j:=by
   rw[seqIndex_of h0 h4]at h1;exact Option.some.inj h1
  exact PySem.W.ki_setAt ho h0 (by omega) (by rw[List.size_toArray,←hl];exact h4) (by rw[hk];exact⟨_,I',q⟩)
 ·have hk:(k+(its.toArray.size:Int)).toNat=j:=by
   rw[seqIndex_neg (by omega) h3]at h1;rw[List.size_toArray,←hl];exact Option.some.inj h1
  exact PySem.W.ki_setBack ho (by omega) (by rw[List.size_toArray,←hl];exact h3) (by omega) (by rw[hk];exact⟨_,I',q⟩)
theorem qm (lo hi:Option Int)(n:Nat):(sliceBounds lo hi none n).1=((HT.sIx n 0 lo:Nat):Int)/\(sliceBounds lo hi none n).2.1=((HT.sIx n n hi:Nat):Int)/\(sliceBounds lo hi none n).2.2=1:=by
 refine⟨?_,?_,rfl⟩
 ·cases lo with
  |none=>simp[sliceBounds,HT.sIx]
  |some i=>
   simp only[sliceBounds,HT.sIx,Option.getD_none,show(1:Int) > 0 by decide,if_true];by_cases h:i<0
   ·simp only[h,if_true]<;>omega
   ·simp only[h,if_false]<;>omega
 ·cases hi with
  |none=>simp[sliceBounds,HT.sIx]
  |some i=>
   simp only[sliceBounds,HT.sIx,Option.getD_none,show(1:Int) > 0 by decide,if_true];by_cases h:i<0
   ·simp only[h,if_true]<;>omega
   ·simp only[h,if_false]<;>omega
theorem oy (its:List Value)(lo hi:Option Int):slicePick its.toArray lo hi none=((its.drop (HT.sIx its.length 0 lo)).take (HT.sIx its.length its.length hi - HT.sIx its.length 0 lo)).toArray:=by
 obtain⟨h1,h2,h3⟩:=qm lo hi its.toArray.size;unfold slicePick;rw[h1,h2,h3];simp only[sliceRange_one,pick_run,List.size_toArray]<;>rfl
def HI (K:PySem.W.Frag):V->Option Int->Option Int->Hp->VK->Prop:=λx lo hi H Q=>∃a xs,x=.ref a/\SqL K H a xs/\∀p,H p=none->Q (.ref p) (upd H p (.lst (ou xs lo hi)))
theorem Ca:SlR X (HI X.K):=by
 intro pins s σ H x v vl vu lo hi sl Q I rx hs pl pu h;obtain⟨a,xs,rfl,hx,q⟩:=h;cases rx
 obtain⟨its,r,ht,hz⟩:=I.list hx;have hlen:=r.length;refine⟨"list",_,slot_list_getitem.lookup,ht.isList.typeIs,?_⟩;refine wpAny_getItem_list_slice ht.isList hs pl pu .none (by simp) ?_ (by rw[List.size_toArray]<;>omega)
 rw[oy,←hlen];refine⟨.ref s.heap.objs.size,_,I.laid (t':=s.toks) (o:=.lst (ou xs lo hi)) (λb ob q=>Heap.get?_push_of_some _ q) (Nat.le_refl _) ?_,rfl,q _ (I.hok.fresh (Nat.le_refl _))⟩;exact⟨Nat.le_trans (kX xs lo hi) hz,_,0,(r.drop (HT.sIx xs.length 0 lo)).take (HT.sIx xs.length xs.length hi - HT.sIx xs.length 0 lo),Heap.get?_push_size _ rfl⟩
noncomputable def iZ:V->Bool
 |.non=>true
 |.bl _=>true
 |.int _=>true
 |.str _=>true
 |_=>false
noncomputable def eqV:V->V->Bool
 |.non,.non=>true
 |.bl a,.bl b=>a == b
 |.bl a,.int b=>(if a then 1 else 0) == b
 |.int a,.bl b=>a == (if b then 1 else 0)
 |.int a,.int b=>a == b
 |.str a,.str b=>a == b
 |_,_=>false
theorem EF {A:Around}{s:Shared}{y x:V}{u v:Value}(ry:aS y u)(rx:aS x v)(fy:iZ y=true)(fx:iZ x=true):SeqAt.EqAt A s u v (eqV y x):=by
 cases y with
 |non=>
  cases ry
  cases x with
  |non=>cases rx;exact SeqAt.EqAt.same _
  |bl b=>cases rx;exact SeqAt.EqAt.none_bool b
  |int b=>obtain⟨t,rfl⟩:=rx;exact SeqAt.EqAt.none_int b t
  |str b=>obtain⟨t,rfl⟩:=rx;exact SeqAt.EqAt.none_str b t
  |_=>exact absurd (show false=true from fx) Bool.false_ne_true
 |bl a=>
  cases ry
  cases x with
  |non=>cases rx;exact SeqAt.EqAt.bool_none a
  |bl b=>cases rx;exact SeqAt.EqAt.bool_bool a b
  |int b=>obtain⟨t,rfl⟩:=rx;exact SeqAt.EqAt.bool_int a b t
  |str b=>obtain⟨t,rfl⟩:=rx;exact SeqAt.EqAt.bool_str a b t
  |_=>exact absurd (show false=true from fx) Bool.false_ne_true
 |int a=>
  obtain⟨t',rfl⟩:=ry;cases x with
  |non=>cases rx;exact SeqAt.EqAt.int_none a t'
  |bl b=>cases rx;exact SeqAt.EqAt.int_bool a t' b
  |int b=>obtain⟨t,rfl⟩:=rx;exact SeqAt.EqAt.int_int a t' b t
  |str b=>obtain⟨t,rfl⟩:=rx;exact SeqAt.EqAt.int_str a t' b t
  |_=>exact absurd (show false=true from fx) Bool.false_ne_true
 |str a=>
  obtain⟨t',rfl⟩:=ry;cases x with
  |non=>cases rx;exact SeqAt.EqAt.str_none a t'
  |bl b=>cases rx;exact SeqAt.EqAt.str_bool a t' b
  |int b=>obtain⟨t,rfl⟩:=rx;exact SeqAt.EqAt.str_int a t' b t
  |str b=>obtain⟨t,rfl⟩:=rx;exact SeqAt.EqAt.str_str a t' b t
  |_=>exact absurd (show false=true from fx) Bool.false_ne_true
 |_=>exact absurd (show false=true from fy) Bool.false_ne_true
noncomputable def eqU (x:V)(u:Value):Bool:=match u with
 |.none=>eqV .non x
 |.bool b=>eqV (.bl b) x
 |.int i _=>eqV (.int i) x
 |.str z _=>eqV (.str z) x
 |_=>false
theorem z9 {x y:V}{u:Value}(r:aS y u)(f:iZ y=true):eqU x u=eqV y x:=by
 cases y with
 |non=>cases r;rfl
 |bl b=>cases r;rfl
 |int i=>obtain⟨t,rfl⟩:=r;rfl
 |str z=>obtain⟨t,rfl⟩:=r;rfl
 |_=>exact absurd (show false=true from f) Bool.false_ne_true
theorem j0 {x:V}:∀ {xs:List V}{us:List Value},aQ xs us->xs.all iZ=true->us.any (eqU x)=xs.any λy=>eqV y x
 |_,_,.nil,_=>rfl
 |y::xs,u::us,.cons r t,f=>by
  rw[List.all_cons,Bool.and_eq_true]at f;rw[List.any_cons,List.any_cons,z9 r f.1,j0 t f.2]
theorem ij {A:Around}{s:Shared}{x:V}{v:Value}(rx:aS x v)(fx:iZ x=true):∀ {xs:List V}{us:List Value},aQ xs us->xs.all iZ=true->∀u∈us,SeqAt.EqAt A s u v (eqU x u)
 |_,_,.nil,_=>λu hu=>by cases hu
 |y::xs,u::us,.cons r t,f=>λu' hu=>by
  rw[List.all_cons,Bool.and_eq_true]at f;rcases List.mem_cons.mp hu with rfl|hu
  ·rw[z9 r f.1];exact EF r rx f.1 fx
  ·exact ij rx fx t f.2 u' hu
noncomputable def inV (x:V)(xs:List V):Bool:=xs.any λy=>eqV y x
def rIn (K:PySem.W.Frag)(neg:Bool):R2:=λx y H Q=>∃p xs,y=.ref p/\(SqL K H p xs∨SqT K H p xs)/\iZ x=true/\xs.all iZ=true/\Q (.bl (if neg then !inV x xs else inV x xs)) H
theorem ym:OpR X (compareOp .In) (rIn X.K false):=by
 intro pins s σ H x y v u Q I rx ry h;obtain⟨p,xs,rfl,hq,fx,fs,q⟩:=h;cases ry
 rcases hq with hq|hq
 ·obtain⟨its,r,pl,hz⟩:=I.list hq;refine SeqAt.in_listAt (eqU x) pl.isList (λw hw=>ij rx fx r fs w (by simpa using hw)) ⟨.bl _,H,I,rfl,?_⟩;rw[show its.toArray.any (eqU x)=its.any (eqU x) by simp,j0 r fs];exact q
 ·obtain⟨its,r,pl,hz⟩:=I.tuple hq;refine SeqAt.in_tupleAt (eqU x) pl (λw hw=>ij rx fx r fs w (by simpa using hw)) ⟨.bl _,H,I,rfl,?_⟩;rw[show its.toArray.any (eqU x)=its.any (eqU x) by simp,j0 r fs];exact q
theorem qo:OpR X (compareOp .NotIn) (rIn X.K true):=by
 intro pins s σ H x y v u Q I rx ry h;obtain⟨p,xs,rfl,hq,fx,fs,q⟩:=h;cases ry
 rcases hq with hq|hq
 ·obtain⟨its,r,pl,hz⟩:=I.list hq;refine SeqAt.notIn_listAt (eqU x) pl.isList (λw hw=>ij rx fx r fs w (by simpa using hw)) ⟨.bl _,H,I,rfl,?_⟩;rw[show its.toArray.any (eqU x)=its.any (eqU x) by simp,j0 r fs];exact q
 ·obtain⟨its,r,pl,hz⟩:=I.tuple hq;refine SeqAt.notIn_tupleAt (eqU x) pl (λw hw=>ij rx fx r fs w (by simpa using hw)) ⟨.bl _,H,I,rfl,?_⟩;rw[show its.toArray.any (eqU x)=its.any (eqU x) by simp,j0 r fs];exact q
theorem qp:bA X (.builtin "len") (λxs H Q=>∃p ys,xs=[.ref p]/\(SqL X.K H p ys∨SqT X.K H p ys)/\Q (.int ys.length) H):=by
 intro pins s σ H xs us Q I r h;obtain⟨p,ys,rfl,hq,q⟩:=h;obtain⟨u,rfl,rx⟩:=fR r;cases rx
 have hn:=kx;rcases hq with hq|hq
 ·obtain⟨its,r',pl,hz⟩:=I.list hq;have hlen:=r'.length;exact Calls.call_len_list pl.isList (by simp only[List.size_toArray]<;>omega) ⟨.int ys.length,H,I.tok _,⟨s.toks+1,by rw[List.size_toArray,hlen]⟩,q⟩
 ·obtain⟨its,r',pl,hz⟩:=I.tuple hq;have hlen:=r'.length;exact len_tuple pl (by simp only[List.size_toArray]<;>omega) ⟨.int ys.length,H,I.tok _,⟨s.toks+1,by rw[List.size_toArray,hlen]⟩,q⟩
theorem qq:bA X (.builtin "len") (λxs H Q=>∃z,xs=[.str z]/\z.length<=sizeLine/\Q (.int z.length) H):=by
 intro pins s σ H xs us Q I r h;obtain⟨z,rfl,hz,q⟩:=h;obtain⟨u,rfl,t,rfl⟩:=fR r;have hn:=kx;exact len_str (by omega) ⟨.int z.length,H,I.tok _,⟨_,rfl⟩,q⟩
theorem bA.or {f:Value}{r r':List V->Hp->VK->Prop}(h:bA X f r)(h':bA X f r'):bA X f (λxs H Q=>r xs H Q∨r' xs H Q):=by
 intro pins s σ H xs us Q I rs q;rcases q with q|q
 ·exact h pins s σ H xs us Q I rs q
 ·exact h' pins s σ H xs us Q I rs q
theorem qr:bA X (.type "list") (λxs H Q=>∃p ys,xs=[.ref p]/\(SqL X.K H p ys∨SqT X.K H p ys)/\∀l,H l=none->Q (.ref l) (upd H l (.lst ys))):=by
 intro pins s σ H xs us Q I r h;obtain⟨p,ys,rfl,hq,q⟩:=h;obtain⟨u,rfl,rx⟩:=fR r;cases rx
 have fin:∀(its:List Value),aQ ys its->ys.length<=sizeLine->∀(h':Heap)(c':Nat),(∀b o',s.heap.get? b=some o'->h'.get? b=some o') ->
   h'.get? s.heap.objs.size=some { cls:=.type "list",dict:=none,data:=.seq its.toArray c',slots:=#[] }->EP X pins σ Q (.ref s.heap.objs.size) { s with heap:=h' }:=λits r' hz h' c' kp e=>
  ⟨.ref s.heap.objs.size,_,I.laid (t':=s.toks) kp (Nat.le_refl _) (show b8 X.prog X.w _ h' _ (.lst ys)from ⟨hz,its,c',r',e⟩),rfl,q _ (I.hok.fresh (Nat.le_refl _))⟩
 rcases hq with hq|hq
 ·obtain⟨its,r',pl,hz⟩:=I.list hq;have hlen:=r'.length;obtain⟨o,ho,hc,n,hd⟩:=pl.isList;exact call_list_seq p (.inl rfl) ho hc hd (λh' c' kp e=>fin its r' hz h' c' kp e) (by simp only[List.size_toArray]<;>omega)
 ·obtain⟨its,r',pl,hz⟩:=I.tuple hq;have hlen:=r'.length;obtain⟨o,ho,hc,n,hd⟩:=pl;exact call_list_seq p (.inr rfl) ho hc hd (λh' c' kp e=>fin its r' hz h' c' kp e) (by simp only[List.size_toArray]<;>omega)
theorem oz:bA X (.type "tuple") (λxs H Q=>∃p ys,xs=[.ref p]/\((SqL X.K H p ys/\∀l,H l=none->Q (.ref l) (upd H l (.tup ys)))∨(SqT X.K H p ys/\Q (.ref p) H))):=by
 intro pins s σ H xs us Q I r h;obtain⟨p,ys,rfl,h⟩:=h;obtain⟨u,rfl,rx⟩:=fR r;cases rx
 rcases h with⟨hq,q⟩|⟨hq,q⟩
 ·obtain⟨its,r',pl,hz⟩:=I.list hq;have hlen:=r'.length;refine call_tuple_list pl.isList (λh' kp=>?_) (by simp only[List.size_toArray]<;>omega)
  have I1:Inv X pins σ H { s with heap:=h' }:=I.kept (t':=s.toks) kp;have I2:Inv X pins σ (upd H h'.objs.size (.tup ys)) { s with heap:=h'.push { cls:=.type "tuple",data:=.seq its.toArray } } :=
   I1.laid (t':=s.toks) (λb o e=>Heap.get?_push_of_some _ e) (Nat.le_refl _) (show b8 X.prog X.w _ _ _ (.tup ys)from ⟨hz,its,r',IsTup.new _ _⟩)
  exact⟨.ref h'.objs.size,_,I2,rfl,q _ (I1.hok.fresh (Nat.le_refl _))⟩
 ·obtain⟨its,r',pl,hz⟩:=I.tuple hq;exact call_tuple_same pl ⟨.ref p,H,I,rfl,q⟩
def tyV (K:PySem.W.Frag)(T:String)(x:V)(H:Hp):Prop:=match x with
 |.str _=>T = "str"
 |.int _=>T = "int"
 |.ref p=>(T = "list"/\∃xs,SqL K H p xs)∨(T = "tuple"/\∃o,K.lookup p=some o/\o.cls=.type "tuple"/\o.dict=none) ∨
   (T = "dict"/\((∃kvs ob,H p=some (.dK kvs ob))∨∃kvs,H p=some (.dT kvs)))∨(T = "set"/\∃S n,H p=some (.set S n))
 |_=>False
theorem zA {pins:List (Addr×Obj)}{σ:St}{H:Hp}{s:Shared}{T:String}{x:V}{v:Value}(I:Inv X pins σ H s)(r:aS x v)(ty:tyV X.K T x H):
  s.TypeIs v T/\∀a,v=.ref a->∃ob,s.heap.get? a=some ob/\ob.dict=none:=by
 cases x with
 |str z=>
  obtain⟨t,rfl⟩:=r;cases (show T = "str" from ty)
  exact⟨typeIs_str s z t,λ_ e=>nomatch e⟩
 |int i=>
  obtain⟨t,rfl⟩:=r;cases (show T = "int" from ty)
  exact⟨typeIs_int s i t,λ_ e=>nomatch e⟩
 |ref p=>
  cases r
  rcases ty with⟨rfl,xs,hq⟩|⟨rfl,o,hk,hc,hd⟩|⟨rfl,hk⟩|⟨rfl,S,n,hk⟩
  ·obtain⟨its,_,pl,_⟩:=I.list hq;refine⟨pl.isList.typeIs,λa e=>?_⟩;cases e
   obtain⟨o,n,e,c,hd,_⟩:=pl;exact⟨o,e,hd⟩
  ·refine⟨⟨o,I.kIn p o hk,hc⟩,λa e=>?_⟩;cases e
   exact⟨o,I.kIn _ o hk,hd⟩
  ·have z:∃o,s.heap.get? p=some o/\o.ExactDict:=by
    rcases hk with⟨kvs,ob0,hk⟩|⟨kvs,hk⟩
    ·obtain⟨_,_,_,_,_,o,_,_,e,ex,_⟩:=I.hok p _ hk;exact⟨o,e,ex⟩
    ·obtain⟨_,_,_,_,o,_,_,e,ex,_⟩:=I.hok p _ hk;exact⟨o,e,ex⟩
   obtain⟨o,e,ex⟩:=z;refine⟨⟨o,e,ex.1⟩,λa e2=>?_⟩;cases e2
   exact⟨o,e,ex.2.1⟩
  ·obtain⟨o,_,_,_,e,ex,_⟩:=I.hok p _ hk;refine⟨⟨o,e,ex.1⟩,λa e2=>?_⟩;cases e2
   exact⟨o,e,ex.2.1⟩
 |_=>exact False.elim ty
def tBM (K:PySem.W.Frag)(T:String)(r:V->List V->Hp->VK->Prop)(to:TE)(t:TA):TE:=λσ H Q=>to σ H λx H1=>tyV K T x H1/\t σ H1 λxs H2=>r x xs H2 Q
variable {o e:Expr}{es:List Expr}{to:TE}{t:TA}{name:Str}{apos cpos:Pos}{T id:String}{r:V->List V->Hp->VK->Prop}
theorem zB (pa:PlainAttrs T)(slot:Slot T name id)(hty:typeOf (.builtin id)=pure (.type "method_descriptor"))(hm:MtR X id r)(ho:PE X o to)(ha:PA X (e::es) t)
  (hbase:attributeBase o name X.env (eval o X.env)=eval o X.env:=by rfl)
  (hfew:((backTo cpos (starEach (e::es) X.env)).all (λx=>!x.1) && (backToKw cpos (keywordEach [] X.env)).all (λx=>x.1.isSome)
   && decide ((e::es).length+([]:List Keyword).length+(if([]:List Keyword).isEmpty then 0 else 1)<30))=true:=by rfl)
  (hline:(apos.endLine == cpos.line)=true:=by rfl) (hs:starEach (e::es) X.env=(false,eval e X.env)::starEach es X.env:=by rfl) (hplain:(backTo cpos (starEach es X.env)).any (·.1)=false:=by rfl):
  PE X (.Call (.Attribute o name apos) (e::es) [] cpos) (tBM X.K T r to t):=by
 intro pins s σ H Q I h;refine wpAny_Call_method_late hbase hfew hline rfl (thn (ho pins s σ H _ I h) λv s1 ⟨x,H1,I1,r1,ty,q1⟩=>?_);obtain⟨h1,h2⟩:=zA I1 r1 ty;refine⟨T,id,pa,slot,hty,h1,h2,?_⟩;have hA:=ha cpos pins s1 σ H1 _ I1 q1;rw[hs]at hA ⊢;refine Calls.callWith_builtin (by show(false || (backTo cpos (starEach es X.env)).any (·.1))=false;rw[hplain]<;>rfl) (Calls.evalArgs_plain ?_)
 exact thn hA λus s2 ⟨vs,H2,I2,r2,q2⟩=>hm pins s2 σ H2 x vs v us Q I2 r1 r2 q2
/- xs.append(e),list.index on a module's tuple .. are MtR facts of 06m -/
end
def MtM (X:Cx)(id:String)(r:V->List V->Hp->VK->Prop):Prop :=
 ∀(pins:List (Addr×Obj))(s:Shared)(σ:St)(H:Hp)(x:V)(xs:List V)(v:Value)(us:List Value)(Q:VK),Inv X pins σ H s->aS x v->aQ xs us->r x xs H Q ->
  wpAny (model X.prog X.w) X.A (call (.builtin id) (v::us)) (EP X pins σ Q) X.xe s
theorem aQ.one:∀ {x:V}{us:List Value},aQ [x] us->∃u,us=[u]/\aS x u
 |_,_,.cons r .nil=>⟨_,rfl,r⟩
theorem aQ.two:∀ {x y:V}{us:List Value},aQ [x,y] us->∃u v,us=[u,v]/\aS x u/\aS y v
 |_,_,_,.cons r (.cons q .nil)=>⟨_,_,rfl,r,q⟩
theorem aQ.eraseIdx:∀ {xs:List V}{us:List Value}(i:Nat),aQ xs us->aQ (xs.eraseIdx i) (us.eraseIdx i)
 |_,_,_,.nil=>.nil
 |_,_,0,.cons _ t=>t
 |_,_,i+1,.cons r t=>.cons r (aQ.eraseIdx i t)
theorem aQ.rep {xs:List V}{us:List Value}(h:aQ xs us):∀k:Nat,aQ (List.replicate k xs).flatten (List.replicate k us).flatten
 |0=>.nil
 |k+1=>by
  rw[List.replicate_succ,List.replicate_succ,List.flatten_cons,List.flatten_cons];exact aQ.append h (aQ.rep h k)
theorem oS (its:List Value):∀(k:Nat)(acc:List Value),
  List.foldl (λx1 x2=>x1++x2) acc.toArray (List.replicate k its.toArray)=(acc++(List.replicate k its).flatten).toArray
 |0,acc=>by simp
 |k+1,acc=>by
  have e:acc.toArray++its.toArray=(acc++its).toArray:=by simp
  have e2:(acc++its)++(List.replicate k its).flatten=acc++(List.replicate (k+1) its).flatten:=by
   rw[List.replicate_succ,List.flatten_cons,List.append_assoc]
  rw[←e2,←oS its k (acc++its),←e,List.replicate_succ,List.foldl_cons]
section
variable {X:Cx}{pins:List (Addr×Obj)}{σ:St}{H:Hp}{s:Shared}{l b:Addr}{xs ys zs:List V}
theorem Inv.lset {its its':List Value}{n:Nat}{f:Array Value->Array Value}{t':Nat}(I:Inv X pins σ H s)(hH:H l=some (.lst xs))
  (e:s.heap.get? l=some { cls:=.type "list",data:=.seq its.toArray n }) (hf:f its.toArray=its'.toArray) (hv:aQ ys its') (hz:ys.length<=sizeLine):
  Inv X pins σ (upd H l (.lst ys)) { s with heap:=s.heap.update l (Obj.mapSeq f),toks:=t' }:=by
 have q:=PySem.IsL.update e f;rw[hf]at q;refine I.write (x:=l) (e:=l) (by rw[hH];exact trivial) (.inl rfl) (λb' u hb hu=>(Heap.get?_update_other s.heap (Obj.mapSeq f) (Ne.symm hb)).trans hu) ⟨_,q⟩ ?_;exact⟨hz,its',_,hv,q⟩
theorem Inv.lnew {its:List Value}{t':Nat}(I:Inv X pins σ H s)(hv:aQ ys its)(hz:ys.length<=sizeLine):
  Inv X pins σ (upd H s.heap.objs.size (.lst ys)) { s with heap:=s.heap.push { cls:=.type "list",data:=.seq its.toArray },toks:=t' } :=
 I.laid (λ_ _ q=>Heap.get?_push_of_some _ q) (Nat.le_refl _) ⟨hz,its,0,hv,Heap.get?_push_size _ rfl⟩
theorem Inv.fresh (I:Inv X pins σ H s):H s.heap.objs.size=none:=I.hok.fresh (Nat.le_refl _)
theorem Inv.lstM (I:Inv X pins σ H s)(hH:H l=some (.lst xs)):xs.length<=sizeLine/\∃(its:List Value)(n:Nat),aQ xs its/\xs.length=its.length/\s.heap.get? l=some { cls:=.type "list",data:=.seq its.toArray n }:=by
 obtain⟨z,its,n,r,e⟩:=I.hok l _ hH;exact⟨z,its,n,r,r.length,e⟩
theorem zC {n:Nat}(h:n<=sizeLine):Builtin.List.listTooLong n=false:=by
 unfold Builtin.List.listTooLong;exact decide_eq_false (by omega)
end
section
variable {X:Cx}
def wt:V->List V->Hp->VK->Prop:=λx vs H Q=>∃l xs y,x=.ref l/\vs=[y]/\H l=some (.lst xs)/\xs.length<sizeLine/\Q .non (upd H l (.lst (xs++[y])))
theorem oU:MtM X "list.append" wt:=by
 intro pins s σ H x vs v us Q I rx rv h;obtain⟨l,xs,y,rfl,rfl,hH,hz,q⟩:=h;cases rx
 obtain⟨u,rfl,ru⟩:=rv.one;obtain⟨z,its,n,r,hl,e⟩:=I.lstM hH;refine call_meets F.slot_list_append ⟨_,e,rfl⟩ F.entry_list_append (F.args_list_append_2 _ _) (PySem.list_append l its.toArray n u (by rw[List.size_toArray];omega)) ⟨e,?_⟩;refine⟨.non,_,I.lset (its':=its++[u]) hH e (by simp) (r.append (.cons ru .nil)) ?_,rfl,q⟩;rw[List.length_append,List.length_singleton];omega
def HJ:R2:=λx y H Q=>∃l k xs,x=.ref l/\y=.int k/\H l=some (.lst xs)/\-(2 ^ 63)<=k/\k<2 ^ 63/\xs.length*k.toNat<=sizeLine /\
 ∀p,H p=none->Q (.ref p) (upd H p (.lst (List.replicate k.toNat xs).flatten))
theorem Cb {α:Type}(xs:List α)(k:Nat):(List.replicate k xs).flatten.length=k*xs.length:=by
 induction k with
 |zero=>simp
 |succ k ih=>rw[List.replicate_succ,List.flatten_cons,List.length_append,ih,Nat.succ_mul,Nat.add_comm]
theorem EG:OpR X (binaryOp .Mult) HJ:=by
 intro pins s σ H x y v u Q I rx ry h;obtain⟨l,k,xs,rfl,rfl,hH,h1,h2,hz,q⟩:=h;cases rx
 obtain⟨t,rfl⟩:=ry;obtain⟨z,its,n,r,hl,e⟩:=I.lstM hH;have hlen:its.toArray.size*k.toNat<=sizeLine:=by rw[List.size_toArray,←hl];exact hz
 have hcap:¬its.toArray.size*k.toNat > (2 ^ 63 - 1) / 8:=by
  have:(sizeLine:Nat)<=(2 ^ 63 - 1) / 8:=by decide
  omega
 have hfit:¬(!Builtin.List.listFitsIndex k)=true:=by
  rw[fitsIndex_both h1 h2];exact Bool.false_ne_true
 have hlong:¬Builtin.List.listTooLong (its.toArray.size*k.toNat)=true:=by
  rw[zC hlen];exact Bool.false_ne_true
 have hnew:List.foldl (λx1 x2=>x1++x2) #[] (List.replicate (if its.toArray.isEmpty=true then 0 else k.toNat) its.toArray)=(List.replicate k.toNat its).flatten.toArray:=by
  have f0:∀m:Nat,List.foldl (λx1 x2=>x1++x2) #[] (List.replicate m its.toArray)=(List.replicate m its).flatten.toArray:=λm=>by
   have:=oS its m [];rw[List.nil_append]at this;exact this
  rw[f0];cases its with
  |nil=>simp
  |cons a r'=>rw[if_neg (by simp)]
 refine wpAny_binaryOp_repeat_ref (T:="list") (U:="int") (by decide) ⟨_,e,rfl⟩ (λs'=>typeIs_int s' k t) noFill_list_mul F.fills_int_mul F.slot_int_rmul repeat_list F.slot_int_index.lookup
  (call_meets F.slot_int_rmul (typeIs_int s k t) F.entry_int_rmul (F.args_int_rmul_2 _ _) (int___rmul___int_list k t l its.toArray n)
   ⟨e,rfl,⟨_,e,rfl⟩,call_meets F.slot_list_mul ⟨_,e,rfl⟩ F.entry_list_mul (F.args_list_mul_2 _ _) (AutoListH.list___mul___list_int_3 l its.toArray n k t hfit hcap hlong) ⟨e,?_⟩⟩)
 rw[hnew];exact⟨.ref _,_,I.lnew (t':=s.toks) (r.rep k.toNat) (by rw[Cb,Nat.mul_comm];exact hz),rfl,q _ I.fresh⟩
end
end L2
namespace Att
open PySem PySem.W PySem.Calls PyProof.Rows
theorem lC {P:Params}{h:Heap}:∀(ns:List Int)(vs:List Value),WellAll P h vs (ns.map WData.int)->IntsAre vs ns:=by
 intro ns;induction ns with
 |nil=>
  intro vs w;rw[List.map_nil]at w;cases w
  exact .nil
 |cons n ns ih=>
  intro vs w;rw[List.map_cons]at w;cases w with
  |cons a b=>
   cases a
   exact .cons _ _ (ih _ b)
theorem yn {l:OpenLaw}{n:Nat}(hn:l.most=some n){P:Params}{h:Heap}{args:List WData}{vals:List Value}
  (hpre:l.row.toRowW.claim.pre args=true) (hwl:WellAll P h vals args):
  ∃a vs ns,vals=[Value.ref a]/\args=[WData.list (ns.map WData.int)]/\h.get? a=some { cls:=.type "list",data:=.seq vs.toArray }/\IntsAre vs ns/\ns.length<=n:=by
 have hsh:WShape.hasAll [] args [.list .int]=true:=(pre_splitW hpre).1;have hc:l.pre.holds [] { args:=args }=true:=(pre_splitW hpre).2;obtain⟨d,r,rfl,h1,h2⟩:=hasAllW_cons hsh;obtain rfl:=hasAllW_nil h2;obtain⟨xs,rfl,h3⟩:=hasW_list h1;obtain⟨ns,rfl⟩:=items_int h3;have hlen:ns.length<=n:=by
  unfold OpenLaw.pre at hc;have h4:(WTm.not (.lt (.lit (.int (n:Int))) (.len (.arg 0)))).holds [] { args:=[.list (ns.map .int)] }=true:=by
   have h4:=(holds_andW hc).1;rw[hn]at h4;exact h4
  have h5:=condW_of h4 (w_not (w_lt w_lit (w_len_list (w_arg rfl))));rw[List.length_map]at h5;refine Nat.le_of_not_lt λq=>?_;have q':(n:Int)<((ns.length:Nat):Int):=by omega
  first
   | (rw[decide_eq_true q']at h5;exact absurd h5 (by decide))
   | (simp at h5;omega)
 cases hwl with
 |cons w1 w2=>
  cases w2
  cases w1 with
  |list ho hall=>exact⟨_,_,ns,rfl,rfl,ho,lC ns _ hall,hlen⟩
theorem yo (l:OpenLaw)(args:List WData):l.row.toRowW.claim.post args (.bool true) args=true :=
 postW_of (r:=l.row.toRowW) (X:=(true == true))
  (show WShape.has [] (.bool true) .bool=true by first|rfl|decide|simp[WShape.has,WShape.arms,WShape.armsAll])
  (show(WTm.eq .res (.lit (.bool true))).value [] { args:=args,res:=some (.bool true),after:=args }=some (.bool (true == true))from w_eq_bool (w_res rfl) w_lit) rfl
theorem rS {l:OpenLaw}{n:Nat}{q:Program}{loose:List Str}{XP:(Str->Option Value)->Heap->Prop}{YP:World->Heap->Prop}{d:DefRec}
  (hn:l.most=some n) (hdf:d.params.defaults=[])
  (call:∀(w:World)(s₀ s₁:Shared)(mg mb:Str->Option Value)(fa:Addr)(o:Obj)(pm cd doc:Value)(a:Addr)(vs:List Value)(ns:List Int),
   Ground q loose [] XP w s₀ mg mb s₁.heap->YP w s₁.heap ->
   s₁.heap.get? fa=some o->o.data=.func (docDef d.name d.params d.body d.scope pm cd doc)->s₁.heap.CodeRec cd d.name->mg d.name=some (.ref fa) ->
   s₁.heap.get? a=some { cls:=.type "list",data:=.seq vs.toArray }->IntsAre vs ns->ns.length<=n->s₁.gens=#[] ->
   codeAny (model l.prog w) callerA (.call (.ref fa) ⟨[.ref a],[]⟩) (λr s'=>r=.ok (.ret (.bool true))/\OldK s₁.heap s'.heap/\s'.os=s₁.os/\AllBare s'.gens) s₁):
  WalkO q loose XP YP l.row.toRowW d [] (λf vs=>PySem.call f vs):=by
 intro w s₀ s₁ mg mb G Y fa o pm cd doc dV kV ho hd hcd hD hmg hg args vals as hpre hlay hrd hwl hlo;obtain rfl:dV=.none:=Dflts.none hD hdf;obtain rfl:kV=.none:=Dflts.noKw hD;obtain⟨a,vs,ns,rfl,rfl,hobj,hints,hlen⟩:=yn hn hpre hwl;refine enter_call (codeAny_mono (call w s₀ s₁ mg mb fa o pm cd doc a vs ns G Y ho (fd_plain hd) hcd hmg hobj hints hlen hg) λr s' hq=>?_);obtain⟨rfl,h2,h3,h4⟩:=hq;exact⟨.inl ⟨.bool true,.bool true,[],rfl,λ_=>rfl,.bool true,yo l _,λ_=>⟨List.Pairwise.nil,λ_ hm=>(nomatch hm)⟩⟩,h2,h3,h4⟩
section
variable {prog:Program}{w:World}{A:Around}{E:Value->Shared->Prop}{s:Shared}{K:Frag}
theorem G2 {R:Result->Shared->Prop}{C fI:Addr}{ay:List Value}{kw:List (Str×Value)}
  (X:K.In s.heap) (hm:makesIn K C=true) (hi:findIn K (.ref C) "__init__" = some (some (.ref fI))) (hf:isFn K (.ref fI)=true)
  (h:codeAny (model prog w) (A.under (.builtin "type.__call__" ⟨.ref C::ay,kw⟩)) (.call (.ref fI) ⟨.ref (s.heap.objs.size+1)::ay,kw⟩) (InitBack (s.heap.objs.size+1) R)
   { s with heap:=(s.heap.push emptyDict).push (instObj C s.heap.objs.size) }):codeAny (model prog w) A (.call (.ref C) ⟨ay,kw⟩) R s:=by
 obtain⟨hh,g,d,t,os⟩:=s;exact make_core (makes_of X hm) (looks_findIn X hi) (λself=>bind_fn X self (beq_iff_eq.mp hf)) (.inl rfl) h
theorem FD {x C:Addr}{ox:Obj}{es:List DictEntry}{n:Nat}{name:Str}{expr:Bool}{v:Value}{Q:Value->Shared->Prop}
  (X:K.In s.heap) (I:PySem.W.InstAt s.heap x ox C (some (dictOf es n))) (hg:plainGet K C name=true) (hh:hasDictIn K C=true) (ha:findIn K (.ref C) name=some none)
  (hl:getL name es=some (some v)) (hv:handedIn v=true) (h:Q v { s with toks:=s.toks+1 }):wpAny (model prog w) A (getAttr (.ref x) name expr) Q E s :=
 get_value X I (plainGet_of hg).1 (findObj_own hh ha rfl hl) hv h
noncomputable def HK (h:Heap)(L d:Addr):List (Addr×Obj):=(List.range h.objs.size).filterMap λa=>if a=L∨a=d then none else (h.get? a).map λo=>(a,o)
end
end Att
namespace L2
open PySem PySem.Spec PyProof.Rows
theorem gn:∀ {vs:List Value}{ns:List Int},IntsAre vs ns->aQ (ns.map V.int) vs
 |_,_,.nil=>.nil
 |_,_,.cons n t h=>.cons ⟨t,rfl⟩ (gn h)
noncomputable def eF (s:Stmt):Arguments:=match s with
 |.FunctionDef _ a _ _ _ _ _ _ _ _=>a
 |_=>{ posonlyargs:=[],args:=[],vararg:=none,kwonlyargs:=[],kw_defaults:=[],kwarg:=none,defaults:=[] }
noncomputable def cf (s:Stmt):List Stmt:=match s with
 |.FunctionDef _ _ b _ _ _ _ _ _ _=>b
 |_=>[]
noncomputable def aM (s:Stmt):Scope:=match s with
 |.FunctionDef _ _ _ _ _ _ sc _ _ _=>sc
 |_=>{ kind:=.function,names:=[],isGenerator:=false,isCoroutine:=false }
abbrev CX0:CXT:=λ_ _ _ _ _ _=>False
abbrev E0:XK:=λ_ _ _=>False
theorem G3 {X:Cx}:uQ CX0 X E0:=λ_ _ _ _ _ _ _ h=>h.elim
structure Fun (K:PySem.W.Frag)(x qual:Str)(st:Stmt)(f:Addr)(fd:FuncData):Prop where
 ex:∃(oc:Value)(od:Option Addr)(kV doc pm:Value)(an:Option Addr)(cdv ct:Value)(osl:Array (Option Value)),
  fd=PySem.W.fnOf x qual (eF st) (cf st) (aM st) .none kV doc pm an cdv ct/\K.lookup f=some ⟨oc,od,.func fd,osl⟩/\PySem.W.codeIn K cdv qual=true
 kp:PySem.W.keepIn K (.ref f)=true
section
variable {P:Program}{w:World}{K:PySem.W.Frag}{mg:Str->Option Value}{base:Heap}
theorem Fun.ok {x qual:Str}{st:Stmt}{f:Addr}{fd:FuncData}{N ps:List Str}{k:Nat}{sp:Sp}(F:Fun K x qual st f fd)(S:FnScope N ps (aM st))(len:∀vs H Q E,sp vs H Q E->vs.length=ps.length)
  (hbody:∀(cdv:Value)(A:Around)(outer:List Env)(s:Shared)(H:Hp)(vs:List V)(Q:VK)(E:XK),Room k (A.deeper (envOfC qual (aM st) s.heap.objs.size f cdv))->sp vs H Q E ->
   ∃t,PSs (lB CX0 P w K mg base N qual (aM st) f cdv A outer s H E).nox (cf st) t/\t { nx:=λ_ H'=>Q .non H',rt:=Q } (hX N vs) H):FnOk P w K mg base CX0 (k+1) f fd ps sp:=by
 obtain⟨oc,od,kV,doc,pm,an,cdv,ct,osl,rfl,lk,hcd⟩:=F.ex;refine D0 lk hcd S len λA outer s H vs Q E hr hsp=>?_;obtain⟨t,h,q⟩:=hbody cdv A outer s H vs Q E hr hsp;exact⟨t,h.nox,q⟩
theorem Fun.binds {x qual:Str}{st:Stmt}{f:Addr}{fd:FuncData}{ps:List Str}(F:Fun K x qual st f fd)
  (h:∀(kV doc pm:Value)(an:Option Addr)(cdv ct:Value)(us:List Value),us.length=ps.length->bindArgs (PySem.W.fnOf x qual (eF st) (cf st) (aM st) .none kV doc pm an cdv ct) ⟨us,[]⟩=pure (ps.zip us)):oK K fd ps []:=by
 obtain⟨oc,od,kV,doc,pm,an,cdv,ct,osl,rfl,lk,hcd⟩:=F.ex;exact .all (h kV doc pm an cdv ct)
theorem EH {x qual:Str}{st:Stmt}{f:Addr}{oc:Value}{od an:Option Addr}{osl:Array (Option Value)}{kV doc pm cdv ct:Value}(l:K.lookup f=some ⟨oc,od,.func (PySem.W.fnOf x qual (eF st) (cf st) (aM st) .none kV doc pm an cdv ct),osl⟩)
  (c:PySem.W.codeIn K cdv qual=true) (k:PySem.W.keepIn K (.ref f)=true):Fun K x qual st f (PySem.W.fnOf x qual (eF st) (cf st) (aM st) .none kV doc pm an cdv ct):=⟨⟨oc,od,kV,doc,pm,an,cdv,ct,osl,rfl,l,c⟩,k⟩
end
def aO (H H':Hp):Prop:=∀b o,H b=some o->H' b=some o
theorem aO.refl (H:Hp):aO H H:=λ_ _ h=>h
theorem aO.trans {H H1 H2:Hp}(a:aO H H1)(b:aO H1 H2):aO H H2:=λc o h=>b c o (a c o h)
theorem aO.free {H H':Hp}(e:aO H H'){l:Addr}(h:H' l=Option.none):H l=Option.none:=by
 cases q:H l with
 |none=>rfl
 |some o=>
  rw[e l o q]at h;cases h
theorem aO.seq {K:PySem.W.Frag}{H H':Hp}{a:Addr}{xs:List V}(e:aO H H')(h:SqL K H a xs):SqL K H' a xs:=by
 rcases h with (h|⟨o,h⟩)|h
 ·exact .inl (.inl (e _ _ h))
 ·exact .inl (.inr ⟨o,e _ _ h⟩)
 ·exact .inr h
section
variable {κ:Type}[DecidableEq κ]
noncomputable def jk (kvs:List (κ×V))(k:κ):Option V:=(kvs.find? λkv=>decide (kv.1=k)).map (·.2)
noncomputable def j3 (kvs:List (κ×V))(k:κ)(v:V):List (κ×V) :=
 if(kvs.any λkv=>decide (kv.1=k))=true then kvs.map (λkv=>if kv.1=k then (kv.1,v)else kv)else kvs++[(k,v)]
theorem j4 {p:κ×V}{r:List (κ×V)}{k:κ}(e:p.1=k):jk (p::r) k=some p.2:=by simp[jk,List.find?_cons,e]
theorem j5 {p:κ×V}{r:List (κ×V)}{k:κ}(e:¬p.1=k):jk (p::r) k=jk r k:=by simp[jk,List.find?_cons,e]
theorem rT (k:κ):∀kvs:List (κ×V),(kvs.any λkv=>decide (kv.1=k))=(jk kvs k).isSome
 |[]=>rfl
 |p::r=>by
  rw[List.any_cons];by_cases e:p.1=k
  ·simp only[j4 e,decide_eq_true e,Bool.true_or,Option.isSome_some]
  ·rw[j5 e,decide_eq_false e,Bool.false_or];exact rT k r
theorem im (kvs:List (κ×V))(k:κ)(v:V):(j3 kvs k v).length<=kvs.length+1:=by
 unfold j3;split
 ·rw[List.length_map];omega
 ·rw[List.length_append,List.length_cons,List.length_nil];omega
theorem lA.isSome_eq {o:Option V}{u:Option Value}(r:lA o u):o.isSome=u.isSome:=by
 cases o with
 |none=>cases u with
  |none=>rfl
  |some _=>exact(show False from r).elim
 |some _=>cases u with
  |none=>exact(show False from r).elim
  |some _=>rfl
theorem lA.getD {o:Option V}{u:Option Value}{d:V}{d':Value}(r:lA o u)(rd:aS d d'):aS (o.getD d) (u.getD d'):=by
 cases o with
 |none=>cases u with
  |none=>exact rd
  |some _=>exact(show False from r).elim
 |some _=>cases u with
  |none=>exact(show False from r).elim
  |some _=>exact r
theorem KV.val {kvs:List (κ×V)}{vs:List (κ×Value)}(r:KV kvs vs)(k:κ):lA (jk kvs k) (valueAt vs k):=by
 unfold KV at r;induction r with
 |nil=>exact True.intro
 |@cons p q ps qs h t ih=>
  obtain⟨h1,h2⟩:=h;by_cases e:p.1=k
  ·have e':q.1=k:=h1.symm.trans e;have b:valueAt (q::qs) k=some q.2:=by simp[valueAt,List.find?_cons,e']
   rw[j4 e,b];exact h2
  ·have e':¬q.1=k:=λz=>e (h1.trans z);have b:valueAt (q::qs) k=valueAt qs k:=by simp[valueAt,List.find?_cons,e']
   rw[j5 e,b];exact ih
theorem KV.any {kvs:List (κ×V)}{vs:List (κ×Value)}(r:KV kvs vs)(k:κ):(kvs.any λkv=>decide (kv.1=k))=vs.any λkv=>decide (kv.1=k):=by
 unfold KV at r;induction r with
 |nil=>rfl
 |cons h t ih=>rw[List.any_cons,List.any_cons,ih,h.1]
theorem KV.repl {kvs:List (κ×V)}{vs:List (κ×Value)}(r:KV kvs vs)(k:κ){y:V}{u:Value}(ry:aS y u):
  KV (kvs.map λkv=>if kv.1=k then (kv.1,y)else kv) (vs.map λkv=>if kv.1=k then (kv.1,u)else kv):=by
 unfold KV at r ⊢;induction r with
 |nil=>exact .nil
 |@cons p q ps qs h t ih=>
  rw[List.map_cons,List.map_cons];refine .cons ?_ ih;obtain⟨h1,h2⟩:=h;by_cases e:p.1=k
  ·rw[if_pos e,if_pos (h1.symm.trans e)];exact⟨h1,ry⟩
  ·rw[if_neg e,if_neg (λz=>e (h1.trans z))];exact⟨h1,h2⟩
theorem KV.put {kvs:List (κ×V)}{vs:List (κ×Value)}(r:KV kvs vs)(k:κ){y:V}{u:Value}(ry:aS y u):KV (j3 kvs k y) (stored vs k u):=by
 unfold j3 stored;rw[r.any k];by_cases e:(vs.any λkv=>decide (kv.1=k))=true
 ·rw[if_pos e,if_pos e];exact r.repl k ry
 ·rw[if_neg e,if_neg e];exact Paired.snoc r ⟨rfl,ry⟩
theorem KV.length {kvs:List (κ×V)}{vs:List (κ×Value)}(r:KV kvs vs):kvs.length=vs.length:=Paired.length r
end
theorem wu {P:Program}{w:World}{k:Key}{u:Value}(r:aS (kV k) u):(ce P w).is k u=true:=by
 cases k with
 |inl i=>obtain⟨t,e⟩:=(show ∃t,u=Value.int i t from r);subst e;exact rK P w i t
 |inr x=>obtain⟨t,e⟩:=(show ∃t,u=Value.str x t from r);subst e;exact rL P w x t
theorem oV {P:Program}{w:World}:∀ {ks:List Key}{us:List Value},aQ (ks.map kV) us->ItemsAre (ce P w) ks us
 |[],_,r=>by rw[List.map_nil]at r;cases r;exact .nil
 |k::ks,_,r=>by
  rw[List.map_cons]at r;cases r with
  |cons h t=>exact .cons (wu h) (oV t)
abbrev KT (H:Hp):List (List Key×V)->List (List Key×Addr×Value)->Prop:=Paired λp q=>p.1=q.1/\H q.2.1=some (.tup (p.1.map kV))/\aS p.2 q.2.2
theorem KT.val {H:Hp}{kvs:List (List Key×V)}{xs:List (List Key×Addr×Value)}(r:KT H kvs xs)(k:List Key):lA (jk kvs k) ((atKey xs k).map (·.2)):=by
 induction r with
 |nil=>exact True.intro
 |@cons p q ps qs h t ih=>
  obtain⟨h1,_,h2⟩:=h;by_cases e:p.1=k
  ·have e':q.1=k:=h1.symm.trans e;have b:atKey (q::qs) k=some q.2:=by simp[atKey,List.find?_cons,e']
   rw[j4 e,b];exact h2
  ·have e':¬q.1=k:=λz=>e (h1.trans z);have b:atKey (q::qs) k=atKey qs k:=by simp[atKey,List.find?_cons,e']
   rw[j5 e,b];exact ih
theorem KT.repl {H:Hp}{kvs:List (List Key×V)}{xs:List (List Key×Addr×Value)}(r:KT H kvs xs)(k:List Key){y:V}{u:Value}(ry:aS y u):
  KT H (kvs.map λkv=>if kv.1=k then (kv.1,y)else kv) (xs.map (putAt k u)):=by
 induction r with
 |nil=>exact .nil
 |@cons p q ps qs h t ih=>
  rw[List.map_cons,List.map_cons];refine .cons ?_ ih;obtain⟨h1,h2,h3⟩:=h;unfold putAt;by_cases e:p.1=k
  ·rw[if_pos e,if_pos (h1.symm.trans e)];exact⟨h1,h2,ry⟩
  ·rw[if_neg e,if_neg (λz=>e (h1.trans z))];exact⟨h1,h2,h3⟩
theorem KT.put {H:Hp}{kvs:List (List Key×V)}{xs:List (List Key×Addr×Value)}(r:KT H kvs xs)(k:List Key){b:Addr}{y:V}{u:Value}(hb:H b=some (.tup (k.map kV)))(ry:aS y u):
  KT H (j3 kvs k y) (storedH xs k b u):=by
 have e:(kvs.any λkv=>decide (kv.1=k))=(atKey xs k).isSome:=by
  rw[rT,(r.val k).isSome_eq,Option.isSome_map]
 unfold j3 storedH;rw[e];by_cases q:(atKey xs k).isSome=true
 ·rw[if_pos q,if_pos q];exact r.repl k ry
 ·rw[if_neg q,if_neg q];exact Paired.snoc r ⟨rfl,hb,ry⟩
theorem KT.keeps {H H':Hp}{kvs:List (List Key×V)}{xs:List (List Key×Addr×Value)}(r:KT H kvs xs)(ht:∀b ys,H b=some (.tup ys)->H' b=some (.tup ys)):KT H' kvs xs :=
 Paired.mapP r λ_ _ z=>⟨z.1,ht _ _ z.2.1,z.2.2⟩
section
variable {P:Program}{w:World}{H:Hp}{h:Heap}{a:Addr}
theorem D2 {u:HO}(ok:HOk P w H h)(e:Rd H a u):b8 P w H h a u:=e.ok ok
theorem uV {kvs:List (Key×V)}{ob:Obj}(ok:HOk P w H h)(e:H a=some (.dK kvs ob)):h.get? a=some ob:=And.left (show b8 P w H h a (.dK kvs ob)from ok a _ e)
theorem zD {kvs:List (Key×V)}{ob:Obj}(ok:HOk P w H h)(e:Rd H a (.dK kvs ob)):kvs.length<=sizeLine/\(a == sysModules)=false/\∃vs,KV kvs vs/\h.DictOf (ce P w) a vs :=
 And.right (show b8 P w H h a (.dK kvs ob)from D2 ok e)
theorem rV {kvs:List (Key×V)}{ob:Obj}(ok:HOk P w H h)(e:H a=some (.dK kvs ob)):kvs.length<=sizeLine/\(a == sysModules)=false/\∃vs,KV kvs vs/\h.DictOf (ce P w) a vs:=zD ok (.inl e)
theorem uW {ks:List Key}(ok:HOk P w H h)(e:H a=some (.tup (ks.map kV))):(tupleKind (ce P w)).is h ks a:=by
 obtain⟨_,its,r,o,h1,h2,n,h3⟩:=(show b8 P w H h a (.tup (ks.map kV))from ok a _ e);exact⟨o,its.toArray,n,h1,h2,h3,by simpa using oV r⟩
theorem zE {kvs:List (List Key×V)}(ok:HOk P w H h)(e:Rd H a (.dT kvs)):kvs.length<=sizeLine/\(a == sysModules)=false /\
  ∃xs,KT H kvs xs/\h.DictOfH (tupleKind (ce P w)) a xs:=by
 obtain⟨z,y,xs,r,o,es,ep,h1,h2,h3,h4,h5⟩:=(show b8 P w H h a (.dT kvs)from D2 ok e);refine⟨z,y,xs,r,o,es,ep,h1,h2,h3,h4,λx hx=>?_,h5⟩;have all:∀ {l:List (List Key×V)}{m:List (List Key×Addr×Value)},KT H l m->∀x∈m,(tupleKind (ce P w)).is h x.1 x.2.1:=by
  intro l m q;induction q with
  |nil=>intro x hx;exact nomatch hx
  |@cons p q ps qs hq t ih=>
   intro x hx;rcases List.mem_cons.mp hx with e|hx
   ·subst e;exact uW ok (by rw[←hq.1];exact hq.2.1)
   ·exact ih x hx
 exact all r x hx
theorem G4 {kvs:List (List Key×V)}(ok:HOk P w H h)(e:H a=some (.dT kvs)):kvs.length<=sizeLine/\(a == sysModules)=false /\
  ∃xs,KT H kvs xs/\h.DictOfH (tupleKind (ce P w)) a xs:=zE ok (.inl e)
end
def Cc (H:Hp)(a:Addr)(y:V)(r:Option V):Prop :=
 (∃kvs k ob,Rd H a (.dK kvs ob)/\y=kV k/\r=jk kvs k)∨∃kvs k b,Rd H a (.dT kvs)/\y=.ref b/\H b=some (.tup (k.map kV))/\r=jk kvs k
def G5 (H:Hp)(a:Addr)(y v:V)(Q:Hp->Prop):Prop :=
 (∃kvs k ob,H a=some (.dK kvs ob)/\y=kV k/\kvs.length<sizeLine/\∀ob',Q (upd H a (.dK (j3 kvs k v) ob'))) ∨
 ∃kvs k b,H a=some (.dT kvs)/\y=.ref b/\H b=some (.tup (k.map kV))/\kvs.length<sizeLine/\Q (upd H a (.dT (j3 kvs k v)))
theorem Cc.t {H:Hp}{a b:Addr}{kvs:List (List Key×V)}{k:List Key}(e:H a=some (.dT kvs))(eb:H b=some (.tup (k.map kV))):Cc H a (.ref b) (jk kvs k):=.inr ⟨kvs,k,b,.inl e,rfl,eb,rfl⟩
section
variable {X:Cx}{pins:List (Addr×Obj)}{σ:St}{H:Hp}{s:Shared}{a:Addr}{y v:V}{u r:Value}{o:Option V}{A:Around}{E:Value->Shared->Prop}
theorem Inv.big (I:Inv X pins σ H s):sysModules<s.heap.objs.size:=by
 have h:mainGlobals<s.heap.objs.size:=(I.mod.glob.keeps I.bk).lt;exact Nat.lt_trans (by decide) h
theorem qt {h':Heap}{t':Nat}{ob:HO}(I:Inv X pins σ H s)(mu:Mut (H a))(hs:Heap.SameBut a s.heap h')(he:∃q,h'.get? a=some q)(new:b8 X.prog X.w (upd H a ob) h' a ob):
  Inv X pins σ (upd H a ob) { s with heap:=h',toks:=t' } :=
 I.write (x:=a) (e:=a) mu (.inl rfl) (λb q hb z=>(hs.2 b hb).trans z) he new
theorem zF {P:Program}{w:World}{H':Hp}{h':Heap}{kvs:List (Key×V)}{vs:List (Key×Value)}(z:kvs.length<=sizeLine)(hd:(a == sysModules)=false)(rel:KV kvs vs)(dd:h'.DictOf (ce P w) a vs){ob:Obj}(hg:h'.get? a=some ob):
  b8 P w H' h' a (.dK kvs ob):=⟨hg,z,hd,vs,rel,dd⟩
theorem yp {R:Hp->Prop}{Q:Unit->Shared->Prop}(hu:A.units+1<cLine)(I:Inv X pins σ H s)(g:G5 H a y v R)(ry:aS y u)(rv:aS v r)(h:∀H' s',R H'->Inv X pins σ H' s'->Q () s'):
  wpAny (model X.prog X.w) A (setItem (.ref a) u r) Q E s:=by
 rcases g with⟨kvs,k,ob,e,ey,l,eH⟩|⟨kvs,k,b,e,ey,eb,l,eH⟩
 ·subst ey;obtain⟨z,hd,vs,rel,dd⟩:=rV I.hok e;have hz:vs.length<=sizeLine:=by rw[←rel.length];exact z
  have hl:(j3 kvs k v).length<=sizeLine:=by have:=im kvs k v;omega
  refine wpAny_setItem_pairs (hsz:=hz) (wu ry) dd λh' dd' hs=>?_;obtain⟨q,hq⟩:∃q,h'.get? a=some q:=let ⟨q,_,_,hq,_⟩:=dd';⟨q,hq⟩;exact h _ _ (eH q) (qt I (by rw[e];exact True.intro) hs ⟨q,hq⟩ (zF hl hd (rel.put k rv) dd' hq))
 ·subst ey;cases (show u=Value.ref b from ry)
  obtain⟨z,hd,xs,rel,dd⟩:=G4 I.hok e;have hz:xs.length<=sizeLine:=by rw[←Paired.length rel];exact z
  have hl:(j3 kvs k v).length<=sizeLine:=by have:=im kvs k v;omega
  refine wpAny_setItem_heap (hsz:=hz) (tupleKind_room_in1 hu) (uW I.hok eb) dd λh' dd' hs=>h _ _ eH ?_;obtain⟨q,es,ep,hq,h2,h3,h4,_,h5⟩:=dd';refine qt I (by rw[e];exact True.intro) hs ⟨q,hq⟩ ⟨hl,hd,_,(rel.put k eb rv).keeps λc ys ec=>?_,q,es,ep,hq,h2,h3,h4,h5⟩;rw[aF (FV ec e (λz=>nomatch z))];exact ec
end
def D3 (td ty tv:TE):TS:=λD σ H=>tv σ H λv H1=>td σ H1 λx H2=>ty σ H2 λy H3=>∃a,x=.ref a/\G5 H3 a y v (D.nx σ)
section
variable {X:Cx}{o i e value:Expr}{pos pos' tpos:Pos}{td ty tv:TE}
theorem Ce (hu:X.A.units+1<cLine)(ho:PE X o td)(hi:PE X i ty)(hv:PE X value tv)(hs:swapsWith value (some (.Subscript o i pos')) pos.line X.env=pure false):
  PS X (.Assign [.Subscript o i pos'] value pos) (D3 td ty tv):=by
 intro pins s σ H D I h;refine wpAny_Assign_Subscript (thn (hv pins s σ H _ I h) λr s1 ⟨v,H1,I1,rv,q1⟩=>thn (ho pins s1 σ H1 _ I1 q1) λu s2 ⟨x,H2,I2,rx,q2⟩=>thn (hi pins s2 σ H2 _ I2 q2) λiv s3 ⟨y,H3,I3,ry,a,ex,g⟩=>?_) hs;subst ex;obtain rfl:u=Value.ref a:=rx;exact yp hu I3 g ry rv λH4 s4 q3 I4=>⟨σ,H4,I4,q3⟩
end
theorem zG {P:Program}{w:World}{H:Hp}(h:Heap)(hb:sysModules<h.objs.size):b8 P w H (h.push { cls:=.type "dict",data:=.dict #[] }) h.objs.size (.dK [] { cls:=.type "dict",data:=.dict #[] }) :=
 ⟨Heap.get?_push_size _ rfl,Nat.zero_le _,beq_eq_false_iff_ne.mpr (Ne.symm (Nat.ne_of_lt hb)),[],.nil,Heap.DictOf.new h⟩
theorem zH {P:Program}{w:World}{H:Hp}(h:Heap)(hb:sysModules<h.objs.size):b8 P w H (h.push { cls:=.type "dict",data:=.dict #[] }) h.objs.size (.dT []) :=
 ⟨Nat.zero_le _,beq_eq_false_iff_ne.mpr (Ne.symm (Nat.ne_of_lt hb)),[],.nil,_,#[],0,Heap.get?_push_size _ rfl,⟨rfl,rfl,rfl⟩,rfl,rfl,List.nodup_nil⟩
def zI:TE:=λ_ H Q=>∀p,H p=none->Q (.ref p) (upd H p (.dT []))
section
variable {X:Cx}{pos:Pos}
theorem zJ:PE X (.Dict [] [] pos) zI:=λpins s σ H Q I h=>
 wpAny_Dict_empty ⟨.ref s.heap.objs.size,_,I.laid (a:=s.heap.objs.size) (o:=.dT []) (t':=s.toks) (λ_ _ q=>Heap.get?_push_of_some _ q) (Nat.le_refl _) (zH s.heap I.big),rfl,h _ (I.hok.fresh (Nat.le_refl _))⟩
end
structure M1 (X:Cx)(o:Expr)(m:Str)(apos:Pos)(e:Expr)(cpos:Pos):Prop where
 base:attributeBase o m X.env (eval o X.env)=eval o X.env
 few:((backTo cpos (starEach [e] X.env)).all (λx=>!x.1) && (backToKw cpos (keywordEach [] X.env)).all (λx=>x.1.isSome)
  && decide (([e]:List Expr).length+([]:List Keyword).length+(if([]:List Keyword).isEmpty then 0 else 1)<30))=true
 line:(apos.endLine == cpos.line)=true
 trees:backTo cpos (starEach [e] X.env)=[(false,eval e X.env)]
def IsD (H:Hp)(a:Addr):Prop:=(∃kvs ob,Rd H a (.dK kvs ob))∨∃kvs,Rd H a (.dT kvs)
theorem EI {X:Cx}{pins:List (Addr×Obj)}{σ:St}{H:Hp}{s:Shared}{a:Addr}(I:Inv X pins σ H s)(d:IsD H a):
  s.TypeIs (.ref a) "dict"/\(∀b,Value.ref a=.ref b->∃ob,s.heap.get? b=some ob/\ob.dict=none)/\(a == sysModules)=false:=by
 rcases d with⟨kvs,ob0,e⟩|⟨kvs,e⟩
 ·obtain⟨_,hd,vs,_,dd⟩:=zD I.hok e;refine⟨dd.typeIs,λb q=>?_,hd⟩;cases q
  obtain⟨ob,_,_,h1,h2,_⟩:=dd;exact⟨ob,h1,h2.2.1⟩
 ·obtain⟨_,hd,xs,_,dd⟩:=zE I.hok e;refine⟨dd.typeIs,λb q=>?_,hd⟩;cases q
  obtain⟨ob,_,_,h1,h2,_⟩:=dd;exact⟨ob,h1,h2.2.1⟩
section
variable {X:Cx}{pins:List (Addr×Obj)}{σ:St}{H:Hp}{s:Shared}{a:Addr}{y d:V}{u r:Value}{o:Option V}{A:Around}{E:Value->Shared->Prop}
theorem EJ {Q:Value->Shared->Prop}(hu:A.units+1<cLine)(I:Inv X pins σ H s)(g:Cc H a y o)(ry:aS y u)(h:∀w' s',Inv X pins σ H s'->aS (o.getD .non) w'->Q w' s'):
  wpAny (model X.prog X.w) A (call (.builtin "dict.get") [.ref a,u]) Q E s:=by
 rcases g with⟨kvs,k,ob,e,ey,l⟩|⟨kvs,k,b,e,ey,eb,l⟩
 ·subst ey;obtain⟨z,hd,vs,rel,dd⟩:=zD I.hok e;refine call_meetsIn PySem.F.slot_dict_get dd.typeIs PySem.F.entry_dict_get (PySem.F.args_dict_get_2 _ _) (meets_dict_get (ce X.prog X.w) a (wu ry) hd) ⟨_,dd.mapOf,h _ _ (I.tok _) ?_⟩;rw[l];exact(rel.val k).getD rfl
 ·subst ey;cases (show u=Value.ref b from ry)
  obtain⟨z,hd,xs,rel,dd⟩:=zE I.hok e;refine call_meetsIn PySem.F.slot_dict_get dd.typeIs PySem.F.entry_dict_get (PySem.F.args_dict_get_2 _ _) (meetsH_dict_get (tupleKind (ce X.prog X.w)) a b hd) ⟨tupleKind_room_in1 hu,k,xs,uW I.hok eb,dd,h _ _ (I.tok _) ?_⟩;rw[l];exact(rel.val k).getD rfl
end
def EK (td ty:TE):TE:=λσ H Q=>td σ H λx H1=>∃a,x=.ref a/\IsD H1 a/\ty σ H1 λy H2=>∃o,Cc H2 a y o/\Q (o.getD .non) H2
section
variable {X:Cx}{o e f:Expr}{apos cpos:Pos}{td ty tx:TE}
theorem rW (hu:X.A.units+1<cLine)(ho:PE X o td)(he:PE X e ty)(m:M1 X o "get" apos e cpos):PE X (.Call (.Attribute o "get" apos) [e] [] cpos) (EK td ty):=by
 intro pins s σ H Q I h;refine wpAny_Call_method m.base m.few m.line PySem.F.plainAttrs_dict PySem.F.slot_dict_get PySem.F.type_dict_get (thn (ho pins s σ H _ I h) λu s1 ⟨x,H1,I1,rx,a,ex,d,q1⟩=>?_);subst ex;obtain rfl:u=Value.ref a:=rx;obtain⟨t1,t2,_⟩:=EI I1 d;refine⟨t1,t2,?_⟩;rw[m.trees];refine Calls.callWith_builtin rfl (Calls.evalArgs_plain (Calls.spliced_cons (thn (he pins s1 σ H1 _ I1 q1) λiv s2 ⟨y,H2,I2,ry,ov,g,q2⟩=>Calls.spliced_nil ?_)));exact EJ hu I2 g ry λw' s3 I3 rw'=>⟨_,H2,I3,rw',q2⟩
end
end L2
namespace DL
open PySem L2
set_option linter.all false
abbrev St:=L2.St
inductive D where
 |non|bl (b:Bool)|int (i:Int)|str (x:Str)|ty (n:String)|tup (ds:List D)|lst (ds:List D)
  |dk (ks:List Key) (vs:List D)|dt (ks:List (List Key)) (vs:List D)
mutual
inductive Is (K:PySem.W.Frag)(H:Hp):V->D->Prop where
 |non:Is K H .non .non
 |bl (b:Bool):Is K H (.bl b) (.bl b)
 |int (i:Int):Is K H (.int i) (.int i)
 |str (x:Str):Is K H (.str x) (.str x)
 |ty (n:String):Is K H (.ty n) (.ty n)
 |tup {a:Addr}{vs:List V}{ds:List D}(h:SqT K H a vs) (hs:IsL K H vs ds):Is K H (.ref a) (.tup ds)
 |lst {a:Addr}{vs:List V}{ds:List D}(h:SqL K H a vs) (hs:IsL K H vs ds):Is K H (.ref a) (.lst ds)
 |dk {a:Addr}{ks:List Key}{vs:List V}{ds:List D}{ob:Obj}(h:H a=some (.dK (ks.zip vs) ob)) (hl:ks.length=vs.length) (hs:IsL K H vs ds):Is K H (.ref a) (.dk ks ds)
 |dt {a:Addr}{ks:List (List Key)}{vs:List V}{ds:List D}(h:H a=some (.dT (ks.zip vs))) (hl:ks.length=vs.length) (hs:IsL K H vs ds):Is K H (.ref a) (.dt ks ds)
inductive IsL (K:PySem.W.Frag)(H:Hp):List V->List D->Prop where
 |nil:IsL K H [] []
 |cons {v:V}{d:D}{vs:List V}{ds:List D}(h:Is K H v d) (hs:IsL K H vs ds):IsL K H (v::vs) (d::ds)
end
mutual
noncomputable def bc:D->Bool
 |.lst _=>false
 |.dk _ _=>false
 |.dt _ _=>false
 |.tup ds=>bg ds
 |_=>true
noncomputable def bg:List D->Bool
 |[]=>true
 |d::ds=>bc d && bg ds
end
@[simp] theorem FF:bc .non=true:=by simp only[bc]
@[simp] theorem G6 (b:Bool):bc (.bl b)=true:=by simp only[bc]
@[simp] theorem FH (i:Int):bc (.int i)=true:=by simp only[bc]
@[simp] theorem FI (x:Str):bc (.str x)=true:=by simp only[bc]
@[simp] theorem G7 (x:String):bc (.ty x)=true:=by simp only[bc]
@[simp] theorem FJ (ds:List D):bc (.tup ds)=bg ds:=by rw[bc]
@[simp] theorem FK (ds:List D):bc (.lst ds)=false:=by rw[bc]
@[simp] theorem G8 (ks:List Key)(ds:List D):bc (.dk ks ds)=false:=by rw[bc]
@[simp] theorem G9 (ks:List (List Key))(ds:List D):bc (.dt ks ds)=false:=by rw[bc]
@[simp] theorem EL:bg []=true:=by rw[bg]
@[simp] theorem D4 (d:D)(ds:List D):bg (d::ds)=(bc d && bg ds):=by rw[bg]
section
variable {K:PySem.W.Frag}{H H':Hp}
mutual
theorem Is.keep (hT:∀a vs,SqT K H a vs->SqT K H' a vs)(hL:∀a vs,SqL K H a vs->SqL K H' a vs)(hK:∀a kvs ob,H a=some (.dK kvs ob)->H' a=some (.dK kvs ob))(hM:∀a kvs,H a=some (.dT kvs)->H' a=some (.dT kvs)):∀ {v:V}{d:D},Is K H v d->Is K H' v d
 |_,_,.non=>.non
 |_,_,.bl b=>.bl b
 |_,_,.int i=>.int i
 |_,_,.str x=>.str x
 |_,_,.ty x=>.ty x
 |_,_,.tup h hs=>.tup (hT _ _ h) (IsL.keep hT hL hK hM hs)
 |_,_,.lst h hs=>.lst (hL _ _ h) (IsL.keep hT hL hK hM hs)
 |_,_,.dk h hl hs=>.dk (hK _ _ _ h) hl (IsL.keep hT hL hK hM hs)
 |_,_,.dt h hl hs=>.dt (hM _ _ h) hl (IsL.keep hT hL hK hM hs)
theorem IsL.keep (hT:∀a vs,SqT K H a vs->SqT K H' a vs)(hL:∀a vs,SqL K H a vs->SqL K H' a vs)(hK:∀a kvs ob,H a=some (.dK kvs ob)->H' a=some (.dK kvs ob))(hM:∀a kvs,H a=some (.dT kvs)->H' a=some (.dT kvs)):∀ {vs:List V}{ds:List D},IsL K H vs ds->IsL K H' vs ds
 |_,_,.nil=>.nil
 |_,_,.cons h hs=>.cons (Is.keep hT hL hK hM h) (IsL.keep hT hL hK hM hs)
end
mutual
theorem Is.keepT (hT:∀a vs,SqT K H a vs->SqT K H' a vs):∀ {v:V}{d:D},Is K H v d->bc d=true->Is K H' v d
 |_,_,.non,_=>.non
 |_,_,.bl b,_=>.bl b
 |_,_,.int i,_=>.int i
 |_,_,.str x,_=>.str x
 |_,_,.ty x,_=>.ty x
 |_,_,.tup h hs,n=>.tup (hT _ _ h) (IsL.keepT hT hs (by simpa using n))
 |_,_,.lst h hs,n=>by simp at n
 |_,_,.dk h hl hs,n=>by simp at n
 |_,_,.dt h hl hs,n=>by simp at n
theorem IsL.keepT (hT:∀a vs,SqT K H a vs->SqT K H' a vs):∀ {vs:List V}{ds:List D},IsL K H vs ds->bg ds=true->IsL K H' vs ds
 |_,_,.nil,_=>.nil
 |_,_,.cons h hs,n=>by
  simp at n;exact .cons (Is.keepT hT h n.1) (IsL.keepT hT hs n.2)
end
theorem aV {a:Addr}{xs:List V}(e:aO H H')(h:SqT K H a xs):SqT K H' a xs:=by
 rcases h with (h|⟨o,h⟩)|h
 ·exact .inl (.inl (e _ _ h))
 ·exact .inl (.inr ⟨o,e _ _ h⟩)
 ·exact .inr h
theorem Is.mono {v:V}{d:D}(h:Is K H v d)(e:aO H H'):Is K H' v d:=h.keep (λ_ _=>aV e) (λ_ _=>e.seq) (λ_ _ _ q=>e _ _ q) λ_ _ q=>e _ _ q
theorem IsL.mono {v:List V}{d:List D}(h:IsL K H v d)(e:aO H H'):IsL K H' v d:=h.keep (λ_ _=>aV e) (λ_ _=>e.seq) (λ_ _ _ q=>e _ _ q) λ_ _ q=>e _ _ q
theorem IsL.length:∀ {vs:List V}{ds:List D},IsL K H vs ds->vs.length=ds.length
 |_,_,.nil=>rfl
 |_,_,.cons _ t=>congrArg (· + 1) t.length
theorem IsL.get:∀ {vs:List V}{ds:List D}{i:Nat}{d:D},IsL K H vs ds->ds[i]? = some d->∃v,vs[i]? = some v/\Is K H v d
 |_,_,_,_,.nil,e=>by simp at e
 |_,_,0,_,.cons h _,e=>by simp at e;subst e;exact⟨_,rfl,h⟩
 |_,_,i+1,d,.cons _ t,e=>by
  obtain⟨u,h1,h2⟩:=t.get (i:=i) (d:=d) (by simpa using e);exact⟨u,by simpa using h1,h2⟩
theorem IsL.append:∀ {vs ws:List V}{ds es:List D},IsL K H vs ds->IsL K H ws es->IsL K H (vs++ws) (ds++es)
 |_,_,_,_,.nil,s=>s
 |_,_,_,_,.cons r t,s=>.cons r (t.append s)
theorem IsL.take:∀ {vs:List V}{ds:List D}(n:Nat),IsL K H vs ds->IsL K H (vs.take n) (ds.take n)
 |_,_,0,_=>by simpa using IsL.nil
 |_,_,_+1,.nil=>.nil
 |_,_,n+1,.cons r t=>.cons r (t.take n)
theorem IsL.drop:∀ {vs:List V}{ds:List D}(n:Nat),IsL K H vs ds->IsL K H (vs.drop n) (ds.drop n)
 |_,_,0,r=>r
 |_,_,_+1,.nil=>.nil
 |_,_,n+1,.cons _ t=>t.drop n
theorem IsL.set {v:V}{d:D}(h:Is K H v d):∀ {vs:List V}{ds:List D}(i:Nat),IsL K H vs ds->IsL K H (vs.set i v) (ds.set i d)
 |_,_,_,.nil=>.nil
 |_,_,0,.cons _ t=>.cons h t
 |_,_,i+1,.cons r t=>.cons r (IsL.set h i t)
theorem IsL.eraseIdx:∀ {vs:List V}{ds:List D}(i:Nat),IsL K H vs ds->IsL K H (vs.eraseIdx i) (ds.eraseIdx i)
 |_,_,_,.nil=>.nil
 |_,_,0,.cons _ t=>t
 |_,_,i+1,.cons r t=>.cons r (t.eraseIdx i)
theorem IsL.flat {vs:List V}{ns:List Int}(h:vs=ns.map V.int):IsL K H vs (ns.map D.int):=by
 subst h;induction ns with
 |nil=>exact .nil
 |cons n ns ih=>exact .cons (.int n) ih
end
structure Ext (B N H H':Hp):Prop where
 hh:aO H H'
 bn:aO B N
 nh:aO N H'
 new:∀a o,N a=some o->B a=some o∨H a=none
theorem Ext.refl {B H:Hp}(h:aO B H):Ext B B H H:=⟨.refl _,.refl _,h,λ_ _ e=>.inl e⟩
theorem Ext.trans {B N H H1 N2 H2:Hp}(x:Ext B N H H1)(y:Ext N N2 H1 H2):Ext B N2 H H2 :=
 ⟨x.hh.trans y.hh,x.bn.trans y.bn,y.nh,λa o e=>(y.new a o e).elim (λq=>x.new a o q) λq=>.inr (x.hh.free q)⟩
theorem Ext.laid {B H:Hp}{p:Addr}{o:HO}(h:aO B H)(hp:H p=none):Ext B (upd B p o) H (upd H p o):=by
 have hB:B p=none:=h.free hp;refine⟨λa u e=>?_,λa u e=>?_,λa u e=>?_,λa u e=>?_⟩
 ·rw[aF (λq=>by subst q;rw[hp]at e;cases e)];exact e
 ·rw[aF (λq=>by subst q;rw[hB]at e;cases e)];exact e
 ·by_cases q:a=p
  ·subst q;rw[aD]at e ⊢;exact e
  ·rw[aF q]at e ⊢;exact h _ _ e
 ·by_cases q:a=p
  ·subst q;exact .inr hp
  ·rw[aF q]at e;exact .inl e
theorem Ext.grow {B H H':Hp}(h:aO B H)(hh:aO H H'):Ext B B H H':=⟨hh,.refl _,h.trans hh,λ_ _ e=>.inl e⟩
abbrev Env:=List (Option (D×Bool))
abbrev FE:=Env->Option (D×Bool)
abbrev FA:=Env->Option (List D)
abbrev FT:=Env->Option Bool
def Fsh (K:PySem.W.Frag)(H N:Hp)(v:V)(d:D):Prop:=∃(a:Addr)(vs:List V)(ds:List D),v=.ref a/\d=.lst ds/\H a=none/\N a=some (.lst vs)/\IsL K N vs ds
theorem Fsh.back {K:PySem.W.Frag}{H H' N:Hp}{v:V}{d:D}(h:Fsh K H' N v d)(e:aO H H'):Fsh K H N v d:=let ⟨a,vs,ds,q,y,z,r⟩:=h;⟨a,vs,ds,q,y,e.free z,r⟩
noncomputable def j6:List Str:=["in_order","has_seal","is_first_death","bases_by"]
noncomputable def lW (x:Str):Str:=x ++ ".<locals>." ++ "<lambda>"
def Tb (K:PySem.W.Frag)(B:Hp):Prop:=∀x∈j6,∀c P,PySem.W.tabIn K x=some (c,P)->B P=some (.tbl (lW x))
theorem Tb.mono {K:PySem.W.Frag}{B B':Hp}(h:Tb K B)(e:aO B B'):Tb K B':=λx hx c P q=>e _ _ (h x hx c P q)
structure RepE (K:PySem.W.Frag)(B:Hp)(σ:St)(ρ:Env):Prop where
 tb:Tb K B
 at':∀(i:Nat)(d:D)(b:Bool),ρ[i]? = some (some (d,b))->∃v,σ[i]? = some (some v)/\Is K B v d
theorem RepE.mono {K:PySem.W.Frag}{B B':Hp}{σ:St}{ρ:Env}(h:RepE K B σ ρ)(e:aO B B'):RepE K B' σ ρ:=⟨h.tb.mono e,λi d b q=>let ⟨v,h1,h2⟩:=h.at' i d b q;⟨v,h1,h2.mono e⟩⟩
def Fin (K:PySem.W.Frag)(B H:Hp)(d:D)(b:Bool)(Q:VK):Prop:=∀(v:V)(H' N:Hp),Ext B N H H'->Is K N v d->(b=true->Fsh K H N v d)->Q v H'
def tD (K:PySem.W.Frag)(f:FE):TE:=λσ H Q=>∃(B:Hp)(ρ:Env)(d:D)(b:Bool),aO B H/\RepE K B σ ρ/\f ρ=some (d,b)/\Fin K B H d b Q
def tDT (K:PySem.W.Frag)(f:FT):TT:=λσ H Q=>∃(B:Hp)(ρ:Env)(c:Bool),aO B H/\RepE K B σ ρ/\f ρ=some c/\∀H',aO H H'->Q c H'
def tDA (K:PySem.W.Frag)(f:FA):TA:=λσ H Q=>∃(B:Hp)(ρ:Env)(ds:List D),aO B H/\RepE K B σ ρ/\f ρ=some ds/\∀(vs:List V)(H' N:Hp),Ext B N H H'->IsL K N vs ds->Q vs H'
def rD (K:PySem.W.Frag)(op:D->D->Option (D×Bool)):R2:=λx y H Q=>∃(B:Hp)(dx dy d:D)(b:Bool),aO B H/\Is K B x dx/\Is K B y dy/\op dx dy=some (d,b)/\Fin K B H d b Q
def rDU (K:PySem.W.Frag)(op:D->Option (D×Bool)):V->Hp->VK->Prop:=λx H Q=>∃(B:Hp)(dx d:D)(b:Bool),aO B H/\Is K B x dx/\op dx=some (d,b)/\Fin K B H d b Q
def rDA (K:PySem.W.Frag)(op:List D->Option (D×Bool)):List V->Hp->VK->Prop:=λxs H Q=>∃(B:Hp)(ds:List D)(d:D)(b:Bool),aO B H/\IsL K B xs ds/\op ds=some (d,b)/\Fin K B H d b Q
theorem Fin.one {K:PySem.W.Frag}{B H:Hp}{d:D}{Q:VK}(h:Fin K B H d false Q)(s:aO B H){v:V}(i:Is K B v d):Q v H:=h v H B (.refl s) i (by simp)
theorem Fin.into {K:PySem.W.Frag}{B N H H1:Hp}{d:D}{b:Bool}{Q:VK}(h:Fin K B H d b Q)(x:Ext B N H H1):Fin K N H1 d b Q:=λv H' N' y i fr=>h v H' N' (x.trans y) i λe=>(fr e).back x.hh
@[simp] noncomputable def fC (d:D):FE:=λ_=>some (d,false)
@[simp] noncomputable def ae (i:Nat):FE:=λρ=>match ρ[i]? with|some (some (d,_))=>some (d,false)|_=>none
@[simp] noncomputable def f2 (op:D->D->Option (D×Bool))(fa fb:FE):FE:=λρ=>(fa ρ).bind λx=>(fb ρ).bind λy=>op x.1 y.1
@[simp] noncomputable def f1 (op:D->Option (D×Bool))(fa:FE):FE:=λρ=>(fa ρ).bind λx=>op x.1
@[simp] noncomputable def ag:FA:=λ_=>some []
@[simp] noncomputable def ab (fa:FE)(fr:FA):FA:=λρ=>(fa ρ).bind λx=>(fr ρ).bind λxs=>some (x.1::xs)
@[simp] noncomputable def fA (op:List D->Option (D×Bool))(fa:FA):FE:=λρ=>(fa ρ).bind op
theorem EM {K:PySem.W.Frag}{i:Nat}{σ:St}{H:Hp}{Q:VK}(h:tD K (ae i) σ H Q):∃v,σ[i]? = some (some v)/\Q v H:=by
 obtain⟨B,ρ,d,b,s,r,e,q⟩:=h;unfold ae at e;split at e
 ·rename_i d' b' e';cases e
  obtain⟨v,h1,h2⟩:=r.at' i _ _ e';exact⟨v,h1,q.one s h2⟩
 ·cases e
theorem Cf {K:PySem.W.Frag}{op:D->D->Option (D×Bool)}{fa fb:FE}{σ:St}{H:Hp}{Q:VK}(h:tD K (f2 op fa fb) σ H Q):tD K fa σ H λx H1=>tD K fb σ H1 λy H2=>rD K op x y H2 Q:=by
 obtain⟨B,ρ,d,b,s,r,e,q⟩:=h;obtain⟨x,ex,e⟩:=oX e;obtain⟨y,ey,e⟩:=oX e;refine⟨B,ρ,x.1,x.2,s,r,ex,λv H1 N x1 i1 _=>⟨N,ρ,y.1,y.2,x1.nh,r.mono x1.bn,ey,λv2 H2 N2 x2 i2 _=>⟨N2,x.1,y.1,d,b,x2.nh,i1.mono x2.bn,i2,e,?_⟩⟩⟩;exact q.into (x1.trans x2)
theorem HL {K:PySem.W.Frag}{op:D->Option (D×Bool)}{fa:FE}{σ:St}{H:Hp}{Q:VK}(h:tD K (f1 op fa) σ H Q):tD K fa σ H λx H1=>rDU K op x H1 Q:=by
 obtain⟨B,ρ,d,b,s,r,e,q⟩:=h;obtain⟨x,ex,e⟩:=oX e;exact⟨B,ρ,x.1,x.2,s,r,ex,λv H1 N x1 i1 _=>⟨N,x.1,d,b,x1.nh,i1,e,q.into x1⟩⟩
theorem Cg {K:PySem.W.Frag}{op:List D->Option (D×Bool)}{fa:FA}{σ:St}{H:Hp}{Q:VK}(h:tD K (fA op fa) σ H Q):tDA K fa σ H λxs H1=>rDA K op xs H1 Q:=by
 obtain⟨B,ρ,d,b,s,r,e,q⟩:=h;obtain⟨x,ex,e⟩:=oX e;exact⟨B,ρ,x,s,r,ex,λv H1 N x1 i1=>⟨N,x,d,b,x1.nh,i1,e,q.into x1⟩⟩
theorem Ch {K:PySem.W.Frag}{σ:St}{H:Hp}{Q:List V->Hp->Prop}(h:tDA K ag σ H Q):Q [] H:=by
 obtain⟨B,ρ,ds,s,r,e,q⟩:=h;cases e
 exact q [] H B (.refl s) .nil
theorem zK {K:PySem.W.Frag}{fa:FE}{fr:FA}{σ:St}{H:Hp}{Q:List V->Hp->Prop}(h:tDA K (ab fa fr) σ H Q):tD K fa σ H λx H1=>tDA K fr σ H1 λxs H2=>Q (x::xs) H2:=by
 obtain⟨B,ρ,ds,s,r,e,q⟩:=h;obtain⟨x,ex,e⟩:=oX e;obtain⟨y,ey,e⟩:=oX e;cases e
 exact⟨B,ρ,x.1,x.2,s,r,ex,λv H1 N x1 i1 _=>⟨N,ρ,y,x1.nh,r.mono x1.bn,ey,λvs H2 N2 x2 i2=>q _ H2 N2 (x1.trans x2) (.cons (i1.mono x2.bn) i2)⟩⟩
@[simp] noncomputable def tOf (f:FE):FT:=λρ=>match f ρ with|some (.bl c,_)=>some c|_=>none
@[simp] noncomputable def d7 (f g:FT):FT:=λρ=>match f ρ with|some true=>g ρ|some false=>some false|none=>none
@[simp] noncomputable def gI (f g:FT):FT:=λρ=>match f ρ with|some true=>some true|some false=>g ρ|none=>none
@[simp] noncomputable def di (f:FT):FT:=λρ=>(f ρ).map (!·)
@[simp] noncomputable def fIf (c:FT)(f g:FE):FE:=λρ=>match c ρ with|some true=>f ρ|some false=>g ρ|none=>none
open Classical in
noncomputable def cut (H:Hp)(P:Addr->Prop):Hp:=λa=>if P a then none else H a
theorem cr {H:Hp}{P:Addr->Prop}{a:Addr}(h:¬P a):cut H P a=H a:=by unfold cut;rw[if_neg h]
theorem uX {H:Hp}{P:Addr->Prop}{a:Addr}(h:P a):cut H P a=none:=by unfold cut;rw[if_pos h]
theorem lX {H:Hp}{P:Addr->Prop}{a:Addr}{o:HO}(h:cut H P a=some o):¬P a/\H a=some o:=by
 by_cases q:P a
 ·rw[uX q]at h;cases h
 ·rw[cr q]at h;exact⟨q,h⟩
theorem bB {H:Hp}{P:Addr->Prop}:aO (cut H P) H:=λ_ _ e=>(lX e).2
theorem dD {H H':Hp}{P P':Addr->Prop}(e:∀a o,H a=some o->¬P a->H' a=some o/\¬P' a):aO (cut H P) (cut H' P'):=λa o q=>by
 obtain⟨h1,h2⟩:=lX q;obtain⟨h3,h4⟩:=e a o h2 h1;rw[cr h4];exact h3
noncomputable def join (N N':Hp):Hp:=λa=>match N a with|some o=>some o|none=>N' a
theorem du {N N':Hp}:aO N (join N N'):=λa o e=>by unfold join;rw[e]
theorem da {N N':Hp}{a:Addr}(e:N a=none):join N N' a=N' a:=by unfold join;rw[e]
def own (σ:St)(ρ:Env)(a:Addr):Prop:=∃(i:Nat)(d:D),ρ[i]? = some (some (d,true))/\σ[i]? = some (some (V.ref a))
inductive Bx (K:PySem.W.Frag)(C:Hp):HO->D->Prop where
 |lst {vs:List V}{ds:List D}(h:IsL K C vs ds):Bx K C (.lst vs) (.lst ds)
 |dk {ks:List Key}{vs:List V}{ds:List D}(hl:ks.length=vs.length) (h:IsL K C vs ds) {ob:Obj}:Bx K C (.dK (ks.zip vs) ob) (.dk ks ds)
 |dt {ks:List (List Key)}{vs:List V}{ds:List D}(hl:ks.length=vs.length) (h:IsL K C vs ds):Bx K C (.dT (ks.zip vs)) (.dt ks ds)
theorem Bx.mono {K:PySem.W.Frag}{C C':Hp}{o:HO}{d:D}(h:Bx K C o d)(e:aO C C'):Bx K C' o d:=by
 cases h with
 |lst h=>exact .lst (h.mono e)
 |dk hl h=>exact .dk hl (h.mono e)
 |dt hl h=>exact .dt hl (h.mono e)
theorem Bx.is {K:PySem.W.Frag}{C:Hp}{o:HO}{d:D}{a:Addr}(h:Bx K C o d)(e:C a=some o):Is K C (.ref a) d:=by
 cases h with
 |lst h=>exact .lst (SqL.of e) h
 |dk hl h=>exact .dk e hl h
 |dt hl h=>exact .dt e hl h
structure StN (K:PySem.W.Frag)(B0 H0 N H:Hp)(σ:St)(ρ:Env):Prop where
 bh:aO B0 H0
 tb:Tb K B0
 ext:Ext B0 N H0 H
 len:ρ.length=σ.length
 sh:∀(i:Nat)(d:D),ρ[i]? = some (some (d,false))->∃v,σ[i]? = some (some v)/\Is K (cut N (own σ ρ)) v d
 ow:∀(i:Nat)(d:D),ρ[i]? = some (some (d,true))->∃(a:Addr)(o:HO),σ[i]? = some (some (V.ref a))/\N a=some o/\H0 a=none/\Bx K (cut N (own σ ρ)) o d
 inj:∀(i j:Nat)(a:Addr)(d e:D),ρ[i]? = some (some (d,true))->ρ[j]? = some (some (e,true))->σ[i]? = some (some (V.ref a))->σ[j]? = some (some (V.ref a))->i=j
def uY (K:PySem.W.Frag)(B0 H0 H:Hp)(σ:St)(ρ:Env):Prop:=∃N,StN K B0 H0 N H σ ρ
section
variable {K:PySem.W.Frag}{B0 H0 N H H':Hp}{σ:St}{ρ:Env}
theorem StN.owL (s:StN K B0 H0 N H σ ρ)(i:Nat)(d:D){es:List D}(q:ρ[i]? = some (some (.lst es,true)))(hd:d=.lst es:=by rfl):∃(a:Addr)(vs:List V)(ds:List D),d=.lst ds/\σ[i]? = some (some (V.ref a))/\N a=some (.lst vs)/\H0 a=none/\IsL K (cut N (own σ ρ)) vs ds:=by
 obtain⟨a,o,h1,h2,h3,h4⟩:=s.ow i _ q;cases h4 with
 |lst h4=>exact⟨a,_,es,hd,h1,h2,h3,h4⟩
def boxed:HO->Prop
 |.lst _|.dK _ _|.dT _=>True
 |_=>False
theorem Bx.boxed {C:Hp}{o:HO}{d:D}(h:Bx K C o d):boxed o:=by cases h<;>exact trivial
theorem StN.owned (s:StN K B0 H0 N H σ ρ){a:Addr}(h:own σ ρ a):∃o,(N a=some o/\boxed o)/\H0 a=none:=by
 obtain⟨i,d,h1,h2⟩:=h;obtain⟨a',o,h3,h4,h5,h6⟩:=s.ow i d h1;rw[h2]at h3;cases h3;exact⟨o,⟨h4,h6.boxed⟩,h5⟩
theorem StN.rep (s:StN K B0 H0 N H σ ρ):RepE K N σ ρ:=⟨s.tb.mono s.ext.bn,λi d b q=>by
 cases b with
 |false=>obtain⟨v,h1,h2⟩:=s.sh i d q;exact⟨v,h1,h2.mono bB⟩
 |true=>
  obtain⟨a,o,h2,h3,_,h4⟩:=s.ow i d q;exact⟨_,h2,(h4.mono bB).is h3⟩⟩
noncomputable def lY (ρ:Env):Env:=ρ.map λx=>match x with|some (d,false)=>some (d,false)|_=>none
theorem zL {i:Nat}{d:D}{b:Bool}(h:(lY ρ)[i]? = some (some (d,b))):b=false/\ρ[i]? = some (some (d,false)):=by
 unfold lY at h;rw[List.getElem?_map]at h;cases e:ρ[i]? with
 |none=>rw[e]at h;cases h
 |some x=>
  rw[e]at h;match x,h with
  |some (d',false),h=>cases h;exact⟨rfl,rfl⟩
  |some (d',true),h=>cases h
  |none,h=>cases h
theorem StN.tbC (s:StN K B0 H0 N H σ ρ):Tb K (cut N (own σ ρ)):=λx hx c P q=>by
 have z:=s.tb.mono s.ext.bn x hx c P q;rw[cr]
 ·exact z
 ·intro y;obtain⟨o,⟨y,yb⟩,_⟩:=s.owned y;rw[z]at y;cases y;exact yb
theorem StN.repH (s:StN K B0 H0 N H σ ρ):RepE K (cut N (own σ ρ)) σ (lY ρ):=⟨s.tbC,λi d b q=>by
 obtain⟨rfl,q2⟩:=zL q;exact s.sh i d q2⟩
theorem StN.grow (s:StN K B0 H0 N H σ ρ){N':Hp}(x:Ext N N' H H'):StN K B0 H0 N' H' σ ρ:=by
 have c:aO (cut N (own σ ρ)) (cut N' (own σ ρ)):=dD λa o e q=>⟨x.bn a o e,q⟩;refine⟨s.bh,s.tb,s.ext.trans x,s.len,λi d q=>?_,λi d q=>?_,s.inj⟩
 ·obtain⟨v,h1,h2⟩:=s.sh i d q;exact⟨v,h1,h2.mono c⟩
 ·obtain⟨a,o,h2,h3,h4,h5⟩:=s.ow i d q;exact⟨a,o,h2,x.bn _ _ h3,h4,h5.mono c⟩
theorem StN.growH (s:StN K B0 H0 N H σ ρ){N':Hp}(x:Ext (cut N (own σ ρ)) N' H H'):StN K B0 H0 (join N N') H' σ ρ/\aO N' (cut (join N N') (own σ ρ)):=by
 have x':Ext N (join N N') H H':=by
  refine⟨x.hh,du,λa o e=>?_,λa o e=>?_⟩
  ·cases q:N a with
   |some u=>
    have:join N N' a=some u:=du _ _ q;rw[this]at e;cases e;exact x.hh _ _ (s.ext.nh _ _ q)
   |none=>rw[da q]at e;exact x.nh _ _ e
  ·cases q:N a with
   |some u=>
    have:join N N' a=some u:=du _ _ q;rw[this]at e;cases e;exact .inl rfl
   |none=>
    rw[da q]at e;rcases x.new a o e with z|z
    ·have:=bB _ _ z;rw[q]at this;cases this
    ·exact .inr z
 refine⟨s.grow x',λa o e=>?_⟩;rcases x.new a o e with z|z
 ·obtain⟨z1,z2⟩:=lX z;rw[cr z1];exact du _ _ z2
 ·have hN:N a=none:=s.ext.nh.free z;have:¬own σ ρ a:=λq=>by obtain⟨vs,⟨q,_⟩,_⟩:=s.owned q;rw[hN]at q;cases q
  rw[cr this,da hN];exact e
noncomputable def unown (ρ:Env):Env:=ρ.map λx=>x.map λy=>(y.1,false)
theorem iO {i:Nat}{d:D}{b:Bool}(h:(unown ρ)[i]? = some (some (d,b))):b=false/\∃c,ρ[i]? = some (some (d,c)):=by
 unfold unown at h;rw[List.getElem?_map]at h;cases e:ρ[i]? with
 |none=>rw[e]at h;cases h
 |some x=>
  rw[e]at h;match x,h with
  |some (d',c),h=>cases h;exact⟨rfl,c,rfl⟩
  |none,h=>cases h
theorem oW {a:Addr}:¬own σ (unown ρ) a:=λ⟨i,d,h,_⟩=>by
 obtain⟨z,_⟩:=iO h;cases z
theorem StN.unown (s:StN K B0 H0 N H σ ρ):StN K B0 H0 N H σ (unown ρ):=by
 refine⟨s.bh,s.tb,s.ext,by unfold DL.unown;rw[List.length_map];exact s.len,λi d q=>?_,λi d q=>?_,λi j a d e q=>?_⟩
 ·obtain⟨_,c,q⟩:=iO q;obtain⟨v,h1,h2⟩:=s.rep.at' i d c q;exact⟨v,h1,h2.mono λa o e=>by rw[cr oW];exact e⟩
 ·obtain⟨z,_⟩:=iO q;cases z
 ·obtain⟨z,_⟩:=iO q;cases z
theorem bG {α:Type}{l:List α}{i j:Nat}{x y:α}(h:(l.set i x)[j]? = some y):(i=j/\x=y)∨(i≠j/\l[j]? = some y):=by
 by_cases e:i=j
 ·subst e;rw[List.getElem?_set]at h;split at h
  ·split at h
   ·exact .inl ⟨rfl,Option.some.inj h⟩
   ·cases h
  ·contradiction
 ·rw[List.getElem?_set_ne e]at h;exact .inr ⟨e,h⟩
theorem oZ {α β:Type}{l:List α}{m:List β}{i:Nat}{x y:α}(h:(l.set i x)[i]? = some y)(e:l.length=m.length):i<m.length:=by
 obtain⟨h,_⟩:=List.getElem?_eq_some_iff.mp h;rw[List.length_set]at h;omega
theorem qu {i:Nat}{v:V}{x:Option (D×Bool)}{a:Addr}(h:own (σ.set i (some v)) (ρ.set i x) a):(v=.ref a/\∃d,x=some (d,true))∨∃j,j≠i/\∃d,ρ[j]? = some (some (d,true))/\σ[j]? = some (some (V.ref a)):=by
 obtain⟨j,d,h1,h2⟩:=h;rcases bG h1 with⟨e,q⟩|⟨e,q⟩
 ·rcases bG h2 with⟨e2,q2⟩|⟨e2,q2⟩
  ·cases q2;exact .inl ⟨rfl,d,q⟩
  ·exact absurd e e2
 ·rcases bG h2 with⟨e2,q2⟩|⟨e2,q2⟩
  ·exact absurd e2 e
  ·exact .inr ⟨j,λz=>e z.symm,d,q,q2⟩
theorem StN.bind (s:StN K B0 H0 N H σ ρ){i:Nat}{v:V}{d:D}(h:Is K (cut N (own σ ρ)) v d):StN K B0 H0 N H (σ.set i (some v)) (ρ.set i (some (d,false))):=by
 have o:∀a,own (σ.set i (some v)) (ρ.set i (some (d,false))) a->own σ ρ a:=λa q=>by
  rcases qu q with⟨_,d',p⟩|⟨j,_,d',q1,q2⟩
  ·cases p
  ·exact⟨j,d',q1,q2⟩
 have c:aO (cut N (own σ ρ)) (cut N (own (σ.set i (some v)) (ρ.set i (some (d,false))))):=dD λa u e q=>⟨e,λz=>q (o a z)⟩;refine⟨s.bh,s.tb,s.ext,by simp[s.len],λj e q=>?_,λj e q=>?_,λj k a e f q q' h1 h2=>?_⟩
 ·rcases bG q with⟨rfl,p⟩|⟨ne,p⟩
  ·cases p
   have hi:=oZ q s.len;exact⟨v,by simp[hi],h.mono c⟩
  ·obtain⟨w,h1,h2⟩:=s.sh j e p;exact⟨w,by rw[List.getElem?_set_ne ne];exact h1,h2.mono c⟩
 ·rcases bG q with⟨rfl,p⟩|⟨ne,p⟩
  ·cases p
  ·obtain⟨a,o,h1,h2,h3,h4⟩:=s.ow j e p;exact⟨a,o,by rw[List.getElem?_set_ne ne];exact h1,h2,h3,h4.mono c⟩
 ·rcases bG q with⟨rfl,p⟩|⟨ne,p⟩
  ·cases p
  ·rcases bG q' with⟨rfl,p'⟩|⟨ne',p'⟩
   ·cases p'
   ·rw[List.getElem?_set_ne ne]at h1;rw[List.getElem?_set_ne ne']at h2;exact s.inj j k a e f p p' h1 h2
theorem StN.bindOwn (s:StN K B0 H0 N H σ ρ){i:Nat}{a:Addr}{ob:HO}{dd:D}(hN:N a=some ob)(h0:H0 a=none)(hno:∀(j:Nat)(d:D),ρ[j]? = some (some (d,true))->σ[j]? ≠ some (some (V.ref a)))
  (hsh:∀(j:Nat)(d:D),j≠i->ρ[j]? = some (some (d,false))->∃v,σ[j]? = some (some v)/\Is K (cut N (λb=>own σ ρ b∨b=a)) v d) (how:∀(j:Nat)(d:D),j≠i->ρ[j]? = some (some (d,true))->∃(a':Addr)(o:HO),σ[j]? = some (some (V.ref a'))/\N a'=some o/\Bx K (cut N (λb=>own σ ρ b∨b=a)) o d)
  (hds:Bx K (cut N (λb=>own σ ρ b∨b=a)) ob dd):StN K B0 H0 N H (σ.set i (some (.ref a))) (ρ.set i (some (dd,true))):=by
 have o:∀b,own (σ.set i (some (V.ref a))) (ρ.set i (some (dd,true))) b->own σ ρ b∨b=a:=λb q=>by
  rcases qu q with⟨p,_⟩|⟨j,_,d',q1,q2⟩
  ·cases p;exact .inr rfl
  ·exact .inl ⟨j,d',q1,q2⟩
 have c:aO (cut N (λb=>own σ ρ b∨b=a)) (cut N (own (σ.set i (some (V.ref a))) (ρ.set i (some (dd,true))))):=dD λb u e q=>⟨e,λz=>q (o b z)⟩;refine⟨s.bh,s.tb,s.ext,by simp[s.len],λj e q=>?_,λj e q=>?_,λj k b e f q q' h1 h2=>?_⟩
 ·rcases bG q with⟨rfl,p⟩|⟨ne,p⟩
  ·cases p
  ·obtain⟨w,h1,h2⟩:=hsh j e (Ne.symm ne) p;exact⟨w,by rw[List.getElem?_set_ne ne];exact h1,h2.mono c⟩
 ·rcases bG q with⟨rfl,p⟩|⟨ne,p⟩
  ·cases p
   have hi:=oZ q s.len;exact⟨a,ob,by simp[hi],hN,h0,hds.mono c⟩
  ·obtain⟨a',o',h1,h2,h4⟩:=how j e (Ne.symm ne) p;have h3:H0 a'=none:=by
    obtain⟨a2,_,k1,_,k3,_⟩:=s.ow j e p;rw[h1]at k1;cases k1;exact k3
   exact⟨a',o',by rw[List.getElem?_set_ne ne];exact h1,h2,h3,h4.mono c⟩
 ·rcases bG q with⟨rfl,p⟩|⟨ne,p⟩
  ·rcases bG q' with⟨rfl,p'⟩|⟨ne',p'⟩
   ·rfl
   ·rw[List.getElem?_set_ne ne']at h2;have h1':V.ref a=V.ref b:=by
     rcases bG h1 with⟨_,z⟩|⟨z,_⟩
     ·exact Option.some.inj z
     ·exact absurd rfl z
    cases h1'
    exact absurd h2 (hno k f p')
  ·rcases bG q' with⟨rfl,p'⟩|⟨ne',p'⟩
   ·rw[List.getElem?_set_ne ne]at h1;have h2':V.ref a=V.ref b:=by
     rcases bG h2 with⟨_,z⟩|⟨z,_⟩
     ·exact Option.some.inj z
     ·exact absurd rfl z
    cases h2'
    exact absurd h1 (hno j e p)
   ·rw[List.getElem?_set_ne ne]at h1;rw[List.getElem?_set_ne ne']at h2;exact s.inj j k b e f p p' h1 h2
end
inductive Res where
 |nx (ρ:Env)|rt (d:D) (b:Bool)|bk (ρ:Env)|ct (ρ:Env)
abbrev FS:=Env->Option Res
def GA (K:PySem.W.Frag)(B0 H0:Hp)(E:Ends):Res->Prop
 |.nx ρ=>∀σ H,uY K B0 H0 H σ ρ->E.nx σ H
 |.rt d b=>∀v H N,Ext B0 N H0 H->Is K N v d->(b=true->Fsh K H0 N v d)->E.rt v H
 |.bk ρ=>∀σ H,uY K B0 H0 H σ ρ->E.bk σ H
 |.ct ρ=>∀σ H,uY K B0 H0 H σ ρ->E.ct σ H
def tDS (K:PySem.W.Frag)(g:FS):TS:=λE σ H=>∃(B0 H0:Hp)(ρ:Env)(r:Res),uY K B0 H0 H σ ρ/\g ρ=some r/\GA K B0 H0 E r
section
variable {K:PySem.W.Frag}{B0 H0 N H H':Hp}{σ:St}{ρ:Env}{E:Ends}
theorem StN.writeB (s:StN K B0 H0 N H σ ρ){i:Nat}{d dd:D}{a:Addr}{ob:HO}(hi:ρ[i]? = some (some (d,true)))(hσ:σ[i]? = some (some (V.ref a)))(h:Bx K (cut N (own σ ρ)) ob dd):
  StN K B0 H0 (upd N a ob) (upd H a ob) σ (ρ.set i (some (dd,true))):=by
 have oa:own σ ρ a:=⟨i,d,hi,hσ⟩;obtain⟨ws,hw,h0⟩:=s.owned oa;have b0:B0 a=none:=s.bh.free h0;have o:∀b,own σ (ρ.set i (some (dd,true))) b↔own σ ρ b:=λb=>by
  constructor
  ·rintro⟨j,e,q1,q2⟩;rcases bG q1 with⟨rfl,p⟩|⟨_,p⟩
   ·exact⟨i,d,hi,q2⟩
   ·exact⟨j,e,p,q2⟩
  ·rintro⟨j,e,q1,q2⟩;by_cases z:i=j
   ·subst z;exact⟨i,dd,by rw[List.getElem?_set_self (List.getElem?_eq_some_iff.mp hi).1],q2⟩
   ·exact⟨j,e,by rw[List.getElem?_set_ne z];exact q1,q2⟩
 have c:aO (cut N (own σ ρ)) (cut (upd N a ob) (own σ (ρ.set i (some (dd,true))))):=dD λb u e q=>by
  have ne:b≠a:=λz=>q (z ▸ oa);exact⟨by rw[aF ne];exact e,λz=>q ((o b).mp z)⟩
 refine⟨s.bh,s.tb,⟨λb u e=>?_,λb u e=>?_,λb u e=>?_,λb u e=>?_⟩,by rw[List.length_set];exact s.len,λj e q=>?_,λj e q=>?_,λj k b e f q q' h1 h2=>?_⟩
 ·rw[aF (λz=>by subst z;rw[h0]at e;cases e)];exact s.ext.hh _ _ e
 ·rw[aF (λz=>by subst z;rw[b0]at e;cases e)];exact s.ext.bn _ _ e
 ·by_cases z:b=a
  ·subst z;rw[aD]at e ⊢;exact e
  ·rw[aF z]at e ⊢;exact s.ext.nh _ _ e
 ·by_cases z:b=a
  ·subst z;exact .inr h0
  ·rw[aF z]at e;exact s.ext.new _ _ e
 ·rcases bG q with⟨rfl,p⟩|⟨ne,p⟩
  ·cases p
  ·obtain⟨v,h1,h2⟩:=s.sh j e p;exact⟨v,h1,h2.mono c⟩
 ·rcases bG q with⟨rfl,p⟩|⟨ne,p⟩
  ·cases p
   exact⟨a,ob,hσ,aD,h0,h.mono c⟩
  ·obtain⟨a',o',h1,h2,h3,h4⟩:=s.ow j e p;have na:a'≠a:=λz=>by subst z;exact ne (s.inj i j _ d e hi p hσ h1)
   exact⟨a',o',h1,by rw[aF na];exact h2,h3,h4.mono c⟩
 ·have get:∀ {j:Nat}{e:D},(ρ.set i (some (dd,true)))[j]? = some (some (e,true))->∃e',ρ[j]? = some (some (e',true)):=λ{j e} q=>by
   rcases bG q with⟨rfl,p⟩|⟨ne,p⟩
   ·exact⟨d,hi⟩
   ·exact⟨e,p⟩
  obtain⟨e',q1⟩:=get q;obtain⟨f',q2⟩:=get q';exact s.inj j k b e' f' q1 q2 h1 h2
theorem StN.write (s:StN K B0 H0 N H σ ρ){i:Nat}{d:D}{a:Addr}{vs:List V}{ds:List D}(hi:ρ[i]? = some (some (d,true)))(hσ:σ[i]? = some (some (V.ref a)))(h:IsL K (cut N (own σ ρ)) vs ds):
  StN K B0 H0 (upd N a (.lst vs)) (upd H a (.lst vs)) σ (ρ.set i (some (.lst ds,true))):=s.writeB hi hσ (.lst h)
theorem StN.tups (s:StN K B0 H0 N H σ ρ):∀a vs,SqT K N a vs->SqT K (cut N (own σ ρ)) a vs:=λa vs h=>by
 have key:∀u,N a=some u->¬boxed u->cut N (own σ ρ) a=some u:=λu e hu=>by
  rw[cr λz=>?_];exact e;obtain⟨ws,⟨q,qb⟩,_⟩:=s.owned z;rw[e]at q;cases q;exact hu qb
 rcases h with (h|⟨o,h⟩)|h
 ·exact .inl (.inl (key _ h (λq=>q)))
 ·exact .inl (.inr ⟨o,key _ h (λq=>q)⟩)
 ·exact .inr h
theorem StN.flat (s:StN K B0 H0 N H σ ρ){v:V}{d:D}(h:Is K N v d)(n:bc d=true):Is K (cut N (own σ ρ)) v d:=h.keepT s.tups n
theorem StN.rebase (s:StN K B0 H0 N H σ ρ):StN K (cut N (own σ ρ)) (cut H (own σ ρ)) N H σ ρ :=
 ⟨dD λa o e q=>⟨s.ext.nh _ _ e,q⟩,s.tbC,⟨bB,bB,s.ext.nh,λa o e=>by
  by_cases q:own σ ρ a
  ·exact .inr (uX q)
  ·exact .inl (by rw[cr q];exact e)⟩,s.len,s.sh,λi d q=>by
   obtain⟨a,o,h1,h2,_,h4⟩:=s.ow i d q;exact⟨a,o,h1,h2,uX ⟨i,d,q,h1⟩,h4⟩,s.inj⟩
theorem StN.unbase (s:StN K B0 H0 N H σ ρ){N' H':Hp}{σ':St}{ρ':Env}(t:StN K (cut N (own σ ρ)) (cut H (own σ ρ)) N' H' σ' ρ'):StN K B0 H0 N' H' σ' ρ':=by
 have h0:aO H0 (cut H (own σ ρ)):=λa o e=>by
  rw[cr λz=>?_];exact s.ext.hh _ _ e;obtain⟨_,_,q⟩:=s.owned z;rw[q]at e;cases e
 have b0:aO B0 (cut N (own σ ρ)):=λa o e=>by
  rw[cr λz=>?_];exact s.ext.bn _ _ e;obtain⟨_,_,q⟩:=s.owned z;rw[s.bh _ _ e]at q;cases q
 refine⟨s.bh,s.tb,⟨h0.trans t.ext.hh,b0.trans t.ext.bn,t.ext.nh,λa o e=>?_⟩,t.len,t.sh,λi d q=>?_,t.inj⟩
 ·rcases t.ext.new a o e with z|z
  ·exact s.ext.new a o (bB _ _ z)
  ·exact .inr (h0.free z)
 ·obtain⟨a,o,h1,h2,h3,h4⟩:=t.ow i d q;exact⟨a,o,h1,h2,h0.free h3,h4⟩
theorem StN.based (t:StN K B0 H0 N H σ ρ):aO B0 (cut N (own σ ρ)):=λa o e=>by
 rw[cr λz=>?_];exact t.ext.bn _ _ e;obtain⟨_,_,q⟩:=t.owned z;rw[t.bh _ _ e]at q;cases q
@[simp] noncomputable def a9 (g h:FS):FS:=λρ=>match g ρ with|some (.nx ρ')=>h ρ'|r=>r
@[simp] noncomputable def aZ:FS:=λρ=>some (.nx ρ)
@[simp] noncomputable def gIf (c:FT)(g h:FS):FS:=λρ=>match c ρ with|some true=>g ρ|some false=>h ρ|none=>none
@[simp] noncomputable def aU (f:FE):FS:=λρ=>(f ρ).map λx=>.rt x.1 x.2
@[simp] noncomputable def Ii:FS:=λ_=>some (.rt .non false)
@[simp] noncomputable def Ij (f:FE):FS:=λρ=>(f ρ).map λ_=>.nx ρ
@[simp] noncomputable def D5:D->Bool
 |.dk _ _=>true
 |.dt _ _=>true
 |_=>false
@[simp] noncomputable def kY (i:Nat):FS:=λρ=>match ρ[i]? with|some (some (d,b))=>some (.rt d (b && !D5 d))|_=>none
@[simp] noncomputable def D6:D->Bool
 |.lst ds=>bg ds
 |_=>false
@[simp] noncomputable def setE (ρ:Env)(i:Nat)(d:D)(b:Bool):Env :=
 if bc d=true then ρ.set i (some (d,false))else if b=true/\D6 d=true then ρ.set i (some (d,true))else (unown ρ).set i (some (d,false))
@[simp] noncomputable def aP (i:Nat)(f:FE):FS:=λρ=>(f ρ).map λx=>.nx (setE ρ i x.1 x.2)
@[simp] noncomputable def rX (i:Nat)(f:FE):FS:=λρ=>(f (lY ρ)).map λx=>.nx (ρ.set i (some (x.1,false)))
@[simp] noncomputable def gJ (i:Nat)(f:FE):FS:=λρ=>match ρ[i]? with
 |some (some (.lst ds,true))=>(f ρ).bind λx=>if bc x.1=true/\ds.length<sizeLine then some (.nx (ρ.set i (some (.lst (ds++[x.1]),true))))else none
 |_=>none
theorem Ci {g h:FS}(q:tDS K (a9 g h) E σ H):Gd (tDS K g) (tDS K h) E σ H:=by
 obtain⟨B0,H0,ρ,r,s,e,p⟩:=q;unfold a9 at e;cases eg:g ρ with
 |none=>rw[eg]at e;cases e
 |some r1=>
  rw[eg]at e;cases r1 with
  |nx ρ'=>exact⟨B0,H0,ρ,.nx ρ',s,eg,λσ' H' s'=>⟨B0,H0,ρ',r,s',e,p⟩⟩
  |rt d b=>cases e;exact⟨B0,H0,ρ,_,s,eg,p⟩
  |bk ρ'=>cases e;exact⟨B0,H0,ρ,_,s,eg,p⟩
  |ct ρ'=>cases e;exact⟨B0,H0,ρ,_,s,eg,p⟩
theorem zM (q:tDS K aZ E σ H):Dv E σ H:=by
 obtain⟨B0,H0,ρ,r,s,e,p⟩:=q;cases e
 exact p σ H s
theorem uY.grown {H':Hp}(s:StN K B0 H0 N H σ ρ)(h:aO H H'):uY K B0 H0 H' σ ρ:=⟨N,s.grow (.grow s.ext.nh h)⟩
theorem EN {c:FT}{g h:FS}(q:tDS K (gIf c g h) E σ H):Gg (tDT K c) (tDS K g) (tDS K h) E σ H:=by
 obtain⟨B0,H0,ρ,r,⟨N,s⟩,e,p⟩:=q;unfold gIf at e;cases ec:c ρ with
 |none=>rw[ec]at e;cases e
 |some b=>
  rw[ec]at e;refine⟨N,ρ,b,s.ext.nh,s.rep,ec,λH1 h1=>?_⟩;cases b with
  |true=>rw[if_pos rfl];exact⟨B0,H0,ρ,r,.grown s h1,e,p⟩
  |false=>rw[if_neg (by decide)];exact⟨B0,H0,ρ,r,.grown s h1,e,p⟩
theorem Cj {f:FE}(q:tDS K (aU f) E σ H):Et (tD K f) E σ H:=by
 obtain⟨B0,H0,ρ,r,⟨N,s⟩,e,p⟩:=q;obtain⟨x,ex,e⟩:=oY e;subst e;exact⟨N,ρ,x.1,x.2,s.ext.nh,s.rep,ex,λv H1 N1 x1 i1 f1=>p v H1 N1 (s.ext.trans x1) i1 λb=>(f1 b).back s.ext.hh⟩
theorem zN {i:Nat}(q:tDS K (kY i) E σ H):Et (Ei i) E σ H:=by
 obtain⟨B0,H0,ρ,r,⟨N,s⟩,e,p⟩:=q;unfold kY at e;split at e
 ·rename_i d b ei;cases e
  cases b with
  |false=>
   obtain⟨v,h1,h2⟩:=s.sh i d ei;exact⟨v,h1,p v H N s.ext (h2.mono bB) (by simp)⟩
  |true=>
   obtain⟨a,o,h1,h2,h3,h4⟩:=s.ow i d ei;cases h4 with
   |lst h4=>exact⟨_,h1,p _ H N s.ext (.lst (SqL.of h2) (h4.mono bB)) λ_=>⟨a,_,_,rfl,rfl,h3,h2,h4.mono bB⟩⟩
   |dk hl h4=>exact⟨_,h1,p _ H N s.ext (.dk h2 hl (h4.mono bB)) (by simp)⟩
   |dt hl h4=>exact⟨_,h1,p _ H N s.ext (.dt h2 hl (h4.mono bB)) (by simp)⟩
 ·cases e
theorem StN.setE (s:StN K B0 H0 N H σ ρ){i:Nat}{v:V}{d:D}{b:Bool}{N1 H1:Hp}(x:Ext N N1 H H1)(h:Is K N1 v d)(f:b=true->Fsh K H N1 v d):StN K B0 H0 N1 H1 (σ.set i (some v)) (setE ρ i d b):=by
 have s1:=s.grow x;unfold DL.setE;by_cases hn:bc d=true
 ·rw[if_pos hn];exact s1.bind (s1.flat h hn)
 ·rw[if_neg hn];by_cases hb:b=true/\D6 d=true
  ·rw[if_pos hb];obtain⟨a,vs,ds,rfl,rfl,ha,hN,hs⟩:=f hb.1;have hNa:N a=none:=s.ext.nh.free ha;have hoa:¬own σ ρ a:=λz=>by obtain⟨ws,⟨q,_⟩,_⟩:=s.owned z;rw[hNa]at q;cases q
   have c:aO (cut N (own σ ρ)) (cut N1 (λb=>own σ ρ b∨b=a)):=dD λb u e q=>⟨x.bn _ _ e,λz=>z.elim q λz=>by subst z;rw[hNa]at e;cases e⟩;refine s1.bindOwn hN (s.ext.hh.free ha) (λj e q z=>hoa ⟨j,e,q,z⟩) (λj e _ q=>?_) (λj e _ q=>?_) (.lst (hs.keepT (λt ts st=>?_) hb.2))
   ·obtain⟨w,h1,h2⟩:=s.sh j e q;exact⟨w,h1,h2.mono c⟩
   ·obtain⟨a',o',h1,h2,_,h4⟩:=s.ow j e q;exact⟨a',o',h1,x.bn _ _ h2,h4.mono c⟩
   ·have key:∀u,N1 t=some u->¬boxed u->cut N1 (λb=>own σ ρ b∨b=a) t=some u:=λu e hu=>by
     rw[cr λz=>?_];exact e;rcases z with z|z
     ·obtain⟨ws,⟨q,qb⟩,_⟩:=s1.owned z;rw[e]at q;cases q;exact hu qb
     ·subst z;rw[e]at hN;cases hN;exact hu trivial
    rcases st with (st|⟨o,st⟩)|st
    ·exact .inl (.inl (key _ st (λq=>q)))
    ·exact .inl (.inr ⟨o,key _ st (λq=>q)⟩)
    ·exact .inr st
  ·rw[if_neg hb];exact s1.unown.bind (h.mono λa o e=>by rw[cr oW];exact e)
theorem ww {i:Nat}{f:FE}(q:tDS K (aP i f) E σ H):xZ (tD K f) (ie i) E σ H:=by
 obtain⟨B0,H0,ρ,r,⟨N,s⟩,e,p⟩:=q;obtain⟨x,ex,e⟩:=oY e;subst e;exact⟨N,ρ,x.1,x.2,s.ext.nh,s.rep,ex,λv H1 N1 x1 i1 f1=>p _ H1 ⟨N1,s.setE x1 i1 f1⟩⟩
theorem zO {i:Nat}{f:FE}(q:tDS K (rX i f) E σ H):xZ (tD K f) (ie i) E σ H:=by
 obtain⟨B0,H0,ρ,r,⟨N,s⟩,e,p⟩:=q;obtain⟨x,ex,e⟩:=oY e;subst e;refine⟨cut N (own σ ρ),lY ρ,x.1,x.2,bB.trans s.ext.nh,s.repH,ex,λv H1 N1 x1 i1 f1=>?_⟩;obtain⟨s1,c⟩:=s.growH x1;exact p _ H1 ⟨_,s1.bind (i1.mono c)⟩
theorem Ck {i:Nat}{f:FE}(q:tDS K (gJ i f) E σ H):∃(a:Addr)(us:List V),σ[i]? = some (some (V.ref a))/\H a=some (.lst us)/\Dz (tD K f) Gw σ H λxs H2=>wt (.ref a) xs H2 λ_ H3=>E.nx σ H3:=by
 obtain⟨B0,H0,ρ,r,⟨N,s⟩,e,p⟩:=q;unfold gJ at e;split at e
 ·rename_i ds ei;obtain⟨x,ex,e⟩:=oX e;split at e
  ·rename_i hx;cases e
   obtain⟨a,vs,ds',z,h1,h2,h3,h4⟩:=s.owL i _ ei;cases z
   refine⟨a,vs,h1,s.ext.nh _ _ h2,N,ρ,x.1,x.2,s.ext.nh,s.rep,ex,λv H1 N1 x1 i1 f1=>⟨a,vs,v,rfl,rfl,x1.hh _ _ (s.ext.nh _ _ h2),by rw[h4.length];exact hx.2,?_⟩⟩;have s1:=s.grow x1;obtain⟨a',vs',ds',z,k1,k2,_,k4⟩:=s1.owL i _ ei;cases z
   rw[h1]at k1;cases k1;rw[x1.bn _ _ h2]at k2;cases k2;exact p σ _ ⟨_,s1.write ei h1 (k4.append (.cons (s1.flat i1 hx.1) .nil))⟩
  ·cases e
 ·cases e
end
noncomputable def zP (c:FT)(g:FS):Nat->Env->Option Res
 |0,_=>none
 |n+1,ρ=>match c ρ with
  |some true=>match g ρ with
   |some (.nx ρ')=>zP c g n ρ'
   |some (.ct ρ')=>zP c g n ρ'
   |some (.bk ρ')=>some (.nx ρ')
   |r=>r
  |some false=>some (.nx ρ)
  |none=>none
def o0 (K:PySem.W.Frag)(J:It)(B:Hp)(ds:List D):Prop:=∀(i:Nat)(H:Hp),aO B H ->
 (∀d,ds[i]? = some d->J.go i H/\∀x H',J.yld i H x H'->∃N,Ext B N H H'/\Is K N x d)/\(ds.length<=i->J.stop i H)
def tDI (K:PySem.W.Frag)(f:FA):TI:=λσ H R=>∃(B:Hp)(ρ:Env)(ds:List D),aO B H/\RepE K B σ ρ/\f ρ=some ds/\∀(J:It)(H' N:Hp),Ext B N H H'->o0 K J N ds->R J H'
abbrev FG:=D->Env->Option Env
def tDG (K:PySem.W.Frag)(tg:FG)(g:TG):Prop:=∀(B0 H0 N H:Hp)(σ:St)(ρ ρ':Env)(v:V)(d:D)(Q:St->Hp->Prop),StN K B0 H0 N H σ ρ->Is K (cut N (own σ ρ)) v d->tg d ρ=some ρ' ->
 (∀σ' H',uY K B0 H0 H' σ' ρ'->Q σ' H')->g v σ H Q
@[simp] noncomputable def tgN (i:Nat):FG:=λd ρ=>some (ρ.set i (some (d,false)))
theorem eO {K:PySem.W.Frag}{i:Nat}:tDG K (tgN i) (ie i):=by
 intro B0 H0 N H σ ρ ρ' v d Q s h e k;cases e
 exact k _ H ⟨N,s.bind h⟩
noncomputable def gb (tg:FG)(g:FS):List D->Env->Option Res
 |[],ρ=>some (.nx ρ)
 |d::ds,ρ=>(tg d ρ).bind λρ1=>match g ρ1 with
  |some (.nx ρ')=>gb tg g ds ρ'
  |some (.ct ρ')=>gb tg g ds ρ'
  |some (.bk ρ')=>some (.nx ρ')
  |r=>r
@[simp] theorem zQ (tg:FG)(g:FS)(ρ:Env):gb tg g [] ρ=some (.nx ρ):=by rw[gb]
@[simp] theorem yq (tg:FG)(g:FS)(d:D)(ds:List D)(ρ:Env):gb tg g (d::ds) ρ=(tg d ρ).bind λρ1=>match g ρ1 with
  |some (.nx ρ')=>gb tg g ds ρ'
  |some (.ct ρ')=>gb tg g ds ρ'
  |some (.bk ρ')=>some (.nx ρ')
  |r=>r:=by rw[gb]
@[simp] noncomputable def o3 (f:FA)(tg:FG)(g:FS):FS:=λρ=>(f (lY ρ)).bind λds=>gb tg g ds ρ
theorem rY {K:PySem.W.Frag}{tg:FG}{t:TG}{g:FS}{E:Ends}{σ:St}{H1 B0 H0 N N1:Hp}{ρ:Env}{r:Res}{J:It}{ds:List D}(ht:tDG K tg t)(s1:StN K B0 H0 N H1 σ ρ)(c:aO N1 (cut N (own σ ρ)))(J1:o0 K J N1 ds)(e:gb tg g ds ρ=some r)(p:GA K B0 H0 E r):
  ∃W:Nat->Nat->St->Hp->Prop,(∃m,W 0 m σ H1)/\∀i m σ H,W i m σ H->(J.stop i H/\E.nx σ H)∨(J.go i H/\∃N:St->Hp->Prop,(∀σ' H',N σ' H'->∃m',m'<m/\W (i+1) m' σ' H')/\∀x H',J.yld i H x H'->t x σ H' λσ2 H2=>tDS K g { E with nx:=N,ct:=N,bk:=E.nx } σ2 H2):=by
 refine⟨λi m σ H=>∃(N:Hp)(ρ:Env),StN K B0 H0 N H σ ρ/\aO N1 (cut N (own σ ρ))/\m=ds.length - i/\i<=ds.length/\gb tg g (ds.drop i) ρ=some r,⟨ds.length,_,ρ,s1,c,rfl,Nat.zero_le _,e⟩,?_⟩;clear e s1 c;rintro i m σ H ⟨N,ρ,s,c,rfl,hi,e⟩;have hs:aO N1 H:=c.trans (bB.trans s.ext.nh);obtain⟨j1,j2⟩:=J1 i H hs;by_cases hlt:i<ds.length
 ·obtain⟨go,yl⟩:=j1 ds[i] (by simp[hlt]);rw[List.drop_eq_getElem_cons hlt]at e;obtain⟨ρ1,e1,e⟩:=oX e;refine .inr ⟨go,λσ' H'=>∃(N:Hp)(ρ:Env),StN K B0 H0 N H' σ' ρ/\aO N1 (cut N (own σ' ρ))/\gb tg g (ds.drop (i+1)) ρ=some r,λσ' H' ⟨N',ρ',s',c',e'⟩=>⟨_,by omega,N',ρ',s',c',rfl,hlt,e'⟩,λx H' y=>?_⟩;obtain⟨N2,x2,i2⟩:=yl x H' y;have x3:Ext (cut N (own σ ρ)) (join (cut N (own σ ρ)) N2) H H':=by
   refine⟨x2.hh,du,λa o e=>?_,λa o e=>?_⟩
   ·cases q:cut N (own σ ρ) a with
    |some u=>rw[du _ _ q]at e;cases e;exact x2.hh _ _ (s.ext.nh _ _ (bB _ _ q))
    |none=>rw[da q]at e;exact x2.nh _ _ e
   ·cases q:cut N (own σ ρ) a with
    |some u=>rw[du _ _ q]at e;cases e;exact .inl rfl
    |none=>
     rw[da q]at e;rcases x2.new a o e with z|z
     ·rw[c _ _ z]at q;cases q
     ·exact .inr z
  obtain⟨s2,c2⟩:=s.growH x3;have c3:aO N2 (join (cut N (own σ ρ)) N2):=λa o e=>by
   rcases x2.new a o e with z|z
   ·exact du _ _ (c _ _ z)
   ·rw[da ((bB.trans s.ext.nh).free z)];exact e
  have i3:=i2.mono (c3.trans c2);have c4:aO N1 (cut (join N (join (cut N (own σ ρ)) N2)) (own σ ρ)):=(x2.bn.trans c3).trans c2;refine ht _ _ _ _ _ _ _ _ _ _ s2.rebase i3 e1 λσ2 H2 ⟨N4,s4⟩=>?_;cases eg:g ρ1 with
  |none=>rw[eg]at e;cases e
  |some r1=>
   rw[eg]at e;refine⟨_,_,ρ1,r1,⟨N4,s4⟩,eg,?_⟩;have back:∀ {σ':St}{H':Hp}{ρ':Env}{N':Hp},StN K _ _ N' H' σ' ρ'->StN K B0 H0 N' H' σ' ρ'/\aO N1 (cut N' (own σ' ρ')):=λt=>⟨s2.unbase t,c4.trans t.based⟩;cases r1 with
   |nx ρ'=>exact λσ' H' ⟨N',t⟩=>⟨N',ρ',(back t).1,(back t).2,e⟩
   |ct ρ'=>exact λσ' H' ⟨N',t⟩=>⟨N',ρ',(back t).1,(back t).2,e⟩
   |bk ρ'=>cases e;exact λσ' H' ⟨N',t⟩=>p σ' H' ⟨N',(back t).1⟩
   |rt d b=>
    cases e
    intro v H' N' x' i' f';have y:=s2.rebase.ext;have h0:aO H0 (cut H' (λ_=>False)):=λa o e=>by rw[cr (λz=>z)];exact x'.hh _ _ (by
     rw[cr λz=>?_];exact s2.ext.hh _ _ e;obtain⟨_,_,q⟩:=s2.owned z;rw[q]at e;cases e)
    have h0':aO H0 (cut H' (λ_=>False)):=h0;have hH:aO H0 (cut H' (λ_=>False)):=h0;have hc:∀a,cut H' (λ_=>False) a=H' a:=λa=>cr (λz=>z);have hb:aO H0 (cut _ (own σ ρ)):=λa o e=>by
     rw[cr λz=>?_];exact s2.ext.hh _ _ e;obtain⟨_,_,q⟩:=s2.owned z;rw[q]at e;cases e
    have bb:aO B0 (cut _ (own σ ρ)):=λa o e=>by
     rw[cr λz=>?_];exact s2.ext.bn _ _ e;obtain⟨_,_,q⟩:=s2.owned z;rw[s2.bh _ _ e]at q;cases q
    refine p v H' N' ⟨hb.trans x'.hh,bb.trans x'.bn,x'.nh,λa o e=>?_⟩ i' λz=>(f' z).back hb;rcases x'.new a o e with z|z
    ·exact s2.ext.new a o (bB _ _ z)
    ·exact .inr (hb.free z)
 ·have ei:i=ds.length:=by omega
  subst ei;rw[List.drop_eq_nil_of_le (Nat.le_refl _)]at e;cases e
  exact .inl ⟨j2 (Nat.le_refl _),p σ H ⟨N,s⟩⟩
theorem Cm {K:PySem.W.Frag}{f:FA}{tg:FG}{t:TG}{g:FS}{E:Ends}{σ:St}{H:Hp}(ht:tDG K tg t)(q:tDS K (o3 f tg g) E σ H):Ez (tDI K f) t (tDS K g) E σ H:=by
 obtain⟨B0,H0,ρ,r,⟨N,s⟩,e,p⟩:=q;obtain⟨ds,ef,e⟩:=oX e;refine⟨cut N (own σ ρ),lY ρ,ds,bB.trans s.ext.nh,s.repH,ef,λJ H1 N1 x1 J1=>?_⟩;obtain⟨s1,c⟩:=s.growH x1;exact rY ht s1 c J1 e p
def tDR (K:PySem.W.Frag)(f:FA):TI:=λσ H R=>∃(B:Hp)(ρ:Env)(ds:List D),aO B H/\RepE K B σ ρ/\f ρ=some ds/\∀(J:It)(H' N:Hp),Ext B N H H'->(∀B',o0 K J B' ds)->R J H'
@[simp] noncomputable def j7 (f:FA)(tg:FG)(g:FS):FS:=λρ=>(f ρ).bind λds=>gb tg g ds ρ
theorem zR {K:PySem.W.Frag}{f:FA}{tg:FG}{t:TG}{g:FS}{E:Ends}{σ:St}{H:Hp}(ht:tDG K tg t)(q:tDS K (j7 f tg g) E σ H):Ez (tDR K f) t (tDS K g) E σ H:=by
 obtain⟨B0,H0,ρ,r,⟨N,s⟩,e,p⟩:=q;obtain⟨ds,ef,e⟩:=oX e;refine⟨N,ρ,ds,s.ext.nh,s.rep,ef,λJ H1 N1 x1 J1=>?_⟩;exact rY ht (s.grow x1) (aO.refl _) (J1 _) e p
end DL
namespace DL
open PySem PySem.Spec PyProof.Rows L2
abbrev JE (X:Cx)(e:Expr)(f:FE):Prop:=PE X e (tD X.K f)
abbrev JT (X:Cx)(e:Expr)(f:FT):Prop:=PT X e (tDT X.K f)
abbrev JW (X:Cx)(e:Expr)(f:FT):Prop:=PW X e (tDT X.K f)
abbrev JA (X:Cx)(es:List Expr)(f:FA):Prop:=PA X es (tDA X.K f)
abbrev JS (X:Cx)(st:Stmt)(g:FS):Prop:=PS X st (tDS X.K g)
abbrev JSs (X:Cx)(st:List Stmt)(g:FS):Prop:=PSs X st (tDS X.K g)
abbrev JI (X:Cx)(tg iter:Expr)(f:FA):Prop:=PI X tg iter (tDI X.K f)
theorem qw {prog:Program}{w:World}{A:Around}{R:Result->Shared->Prop}{s:Shared}{elt target iter:Expr}{ifs:List Expr}{scope:Scope}{pos:Pos}{it acc:Value}{env:PySem.Env}(I:Nat->Shared->Prop)
  (turn:∀n s,I n s->wpAny (model prog w) A (pyNext it) (λr s₁=>match r with
   |none=>R (.ok .next) s₁
   |some v=>wpAny (model prog w) A (letOwnedTupleGo target it v) (λ_ s₁=>wpAny (model prog w) A (assign target env v) (λ_ s₂=>
     wpAny (model prog w) A (forIn ifs true λc r=>if r=true then do let ok ←isTrue c env (eval c env);pure (ForInStep.yield ok)else pure (ForInStep.yield r)) (λok s₃=>
      if ok=true then wpAny (model prog w) A (eval elt env) (λx s₄=>
       wpAny (model prog w) A (call (.builtin "list.append") [acc,x]) (λ_ s₅=>∃m,m<n/\I m s₅) (λ_ _=>False) s₄) (λ_ _=>False) s₃
      else ∃m,m<n/\I m s₃) (λ_ _=>False) s₂) (λ_ _=>False) s₁) (λ_ _=>False) s₁) (λ_ _=>False) s)
  (n:Nat) (h:I n s):codeAny (model prog w) A (.compLoop (.ListComp elt [⟨target,iter,ifs,0⟩] scope pos) 0 it acc env) R s:=by
 refine codeAny_loop rfl I (λn s hI=>?_) n h;show wpAny _ A ((compTurn (.ListComp elt [⟨target,iter,ifs,0⟩] scope pos) 0 it acc env).onRaise (λx=>do noteFrame x env;theTreesLotGoes x)) _ _ s;refine wpAny_noted (wpAny_mono (E:=λ_ _=>False) ?_ (λ_ _ q=>q) λ_ _ z=>z.elim);rw[compTurn_list];refine wX (wpAny_standAt (wX (wpAny_mono (turn n s hI) (λr s₁ h₁=>?_) λ_ _ h'=>h')));cases r with
 |none=>exact wY h₁
 |some v=>
  refine wX (wpAny_mono h₁ (λ_ s₁ h₁=>?_) λ_ _ h'=>h');refine wX (wpAny_mono h₁ (λ_ s₂ h₂=>wX (wpAny_mono h₂ (λok s₃ h₃=>?_) λ_ _ h'=>h')) λ_ _ h'=>h');cases ok with
  |false=>exact wY ⟨rfl,h₃⟩
  |true=>exact wX (wX (wpAny_mono h₃ (λx s₄ h₄=>wX (wpAny_mono h₄ (λ_ s₅ h₅=>wY (wY ⟨rfl,h₅⟩)) λ_ _ h'=>h')) λ_ _ h'=>h'))
theorem Ext.upd {B N H H':Hp}{a:Addr}{o:HO}(x:Ext B N H H')(h:H a=none)(hN:N a=none):Ext B N H (upd H' a o) :=
 ⟨λb u e=>by rw[aF (λz=>by subst z;rw[h]at e;cases e)];exact x.hh _ _ e,x.bn,λb u e=>by rw[aF (λz=>by subst z;rw[hN]at e;cases e)];exact x.nh _ _ e,x.new⟩
noncomputable abbrev dE (X:Cx)(N':List Str)(scope:Scope)(cl:List (Str×Addr))(C:Addr)(s₃:Shared)(H₃:Hp)(fp:List Addr):Cx :=
 { X with N:=N',s₀:=s₃,H₀:=H₃,env:=compEnvC scope cl C X.env,outer:=X.stack,stack:=X.stack,ex:=fp,fn:=λ_=>false,pn:=[],xe:=λ_ _=>False }
inductive Caps (X:Cx)(N':List Str)(scope:Scope)(cl:List (Str×Addr)):Nat->List Nat->Prop where
 |nil {j:Nat}(h:N'.length=j):Caps X N' scope cl j []
 |cons {j i:Nat}{r:List Nat}{x:Str}(h1:N'[j]? = some x) (h2:X.N[i]? = some x) (h3:X.env.kindOf x=some .cell∨X.env.kindOf x=some .free)
   (h4:(relabel scope X.env).names.lookup x=some .cell∨(relabel scope X.env).names.lookup x=some .free) (h5:cl.lookup x=X.env.cells.lookup x) (t:Caps X N' scope cl (j+1) r):Caps X N' scope cl j (i::r)
theorem Caps.len {X:Cx}{N':List Str}{scope:Scope}{cl:List (Str×Addr)}:∀ {j:Nat}{cap:List Nat},Caps X N' scope cl j cap->N'.length=j+cap.length
 |_,_,.nil h=>by rw[h];rfl
 |j,i::r,.cons _ _ _ _ _ t=>by rw[t.len,List.length_cons];omega
theorem Caps.get {X:Cx}{N':List Str}{scope:Scope}{cl:List (Str×Addr)}:∀ {j:Nat}{cap:List Nat}{k i:Nat},Caps X N' scope cl j cap->cap[k]? = some i->∃x,N'[j+k]? = some x/\X.N[i]? = some x/\(X.env.kindOf x=some .cell∨X.env.kindOf x=some .free) /\
  ((relabel scope X.env).names.lookup x=some .cell∨(relabel scope X.env).names.lookup x=some .free)/\cl.lookup x=X.env.cells.lookup x
 |_,_,_,_,.nil _,e=>by simp at e
 |j,_,0,_,.cons h1 h2 h3 h4 h5 _,e=>by simp at e;subst e;exact⟨_,h1,h2,h3,h4,h5⟩
 |j,_,k+1,i,.cons _ _ _ _ _ t,e=>by
  obtain⟨x,q,r⟩:=t.get (k:=k) (i:=i) (by simpa using e);exact⟨x,by rw[show j+(k+1)=j+1+k by omega];exact q,r⟩
structure CompSc (X:Cx)(scope:Scope)(cl:List (Str×Addr)):Prop where
 clos:closureFor scope X.env=pure cl
 nocell:∀y∈scope.names,y.2≠.cell
 kind:scope.kind=.function
 names:∀y∈scope.names,y.2=.local->scope.names.lookup y.1=some .local
 sub:∀x c,cl.lookup x=some c->X.env.cells.lookup x=some c
 has:∀x,((relabel scope X.env).names.lookup x=some .cell∨(relabel scope X.env).names.lookup x=some .free)->∃c,cl.lookup x=some c
noncomputable def cO:List (Str×NameKind)->List (Str×Addr)->List (Str×Addr)->List (Str×Addr)
 |[],_,cs=>cs
 | (n,k)::r,cells,cs=>cO r cells (if k == .free then (match cells.lookup n with|some c=>(n,c)::cs|none=>cs)else cs)
theorem pb {env:PySem.Env}:∀(names:List (Str×NameKind))(cs:List (Str×Addr)),(∀y∈names,y.2=.free->(env.cells.lookup y.1).isSome=true) ->
    (do let mut cs:=cs
        for (name,kind)in names do
          if kind == .free then cs:=(name,←cellOf env name)::cs
        return cs:Sem (List (Str×Addr)))=pure (cO names env.cells cs):=by
  intro names;induction names with
  |nil=>intro cs _;rfl
  |cons y r ih=>
    intro cs h;obtain⟨n,k⟩:=y;have ih':=λcs=>ih cs λy hy=>h y (mZ _ hy);by_cases hk:k=.free
    . subst hk;have hc:=h (n,.free) mX rfl;cases q:env.cells.lookup n with
      |none=>rw[q]at hc;cases hc
      |some c=>
        have e1:cO ((n,.free)::r) env.cells cs=cO r env.cells ((n,c)::cs):=by
          rw[cO,q];rfl
        rw[e1,←ih' ((n,c)::cs)];have e2:cellOf env n=pure c:=by unfold cellOf;rw[q]
        simp only[List.forIn_cons,beq_self_eq_true,if_true,e2];rfl
    . have hb:(k == NameKind.free)=false:=by simpa using hk
      have e1:cO ((n,k)::r) env.cells cs=cO r env.cells cs:=by rw[cO,hb];rfl
      rw[e1,←ih' cs];simp only[List.forIn_cons,hb,Bool.false_eq_true,if_false];rfl
theorem j8 {cells:List (Str×Addr)}{x:Str}{c:Addr}:∀(names:List (Str×NameKind))(cs:List (Str×Addr)),(∀y d,cs.lookup y=some d->cells.lookup y=some d)->(cO names cells cs).lookup x=some c->cells.lookup x=some c
 |[],cs,h,e=>h x c e
 | (n,k)::r,cs,h,e=>by
  rw[cO]at e;refine j8 r _ (λy d q=>?_) e;split at q
  ·split at q
   ·rename_i c' ec;rw[List.lookup_cons]at q;split at q
    ·rename_i hy;cases q
     rw[eq_of_beq hy];exact ec
    ·exact h y d q
   ·exact h y d q
  ·exact h y d q
theorem pc {cells:List (Str×Addr)}{x:Str}:∀(names:List (Str×NameKind))(cs:List (Str×Addr)),(cs.lookup x).isSome=true->((cO names cells cs).lookup x).isSome=true
 |[],cs,h=>h
 | (n,k)::r,cs,h=>by
  rw[cO];refine pc r _ ?_;split
  ·split
   ·rw[List.lookup_cons];split
    ·rfl
    ·exact h
   ·exact h
  ·exact h
theorem j9 {cells:List (Str×Addr)}{x:Str}:∀(names:List (Str×NameKind))(cs:List (Str×Addr)),(x,NameKind.free)∈names->(cells.lookup x).isSome=true->((cO names cells cs).lookup x).isSome=true
 | (n,k)::r,cs,hm,hc=>by
  rw[cO];rcases List.mem_cons.mp hm with e|e
  ·cases e
   refine pc r _ ?_;cases q:cells.lookup x with
   |none=>rw[q]at hc;cases hc
   |some c=>simp
  ·exact j9 r _ e hc
theorem dO {α:Type}{x:Str}{k:α}:∀ {l:List (Str×α)},l.lookup x=some k->(x,k)∈l
 | (n,j)::r,h=>by
  rw[List.lookup_cons]at h;split at h
  ·rename_i e;cases h
   rw[eq_of_beq e];exact mX
  ·exact mZ _ (dO h)
theorem EO {X:Cx}{scope:Scope}(h1:∀y∈scope.names,y.2≠.cell)(h2:scope.kind=.function)(h3:∀y∈scope.names,y.2=.local->scope.names.lookup y.1=some .local)(h4':(scope.names.all λy=>!(y.2 == NameKind.free) || (X.env.cells.lookup y.1).isSome)=true):
  CompSc X scope (cO scope.names X.env.cells []):=by
 have h4:∀y∈scope.names,y.2=.free->(X.env.cells.lookup y.1).isSome=true:=λy hy e=>by
  have:=List.all_eq_true.mp h4' y hy;rw[e]at this;simpa using this
 have frees:∀x,((relabel scope X.env).names.lookup x=some .cell∨(relabel scope X.env).names.lookup x=some .free)->(x,NameKind.free)∈scope.names:=λx h=>by
  have:∃k,(x,k)∈(relabel scope X.env).names/\(k=.cell∨k=.free):=by
   rcases h with h|h
   ·exact⟨_,dO h,.inl rfl⟩
   ·exact⟨_,dO h,.inr rfl⟩
  obtain⟨k,hm,hk⟩:=this;obtain⟨⟨n,j⟩,hj,e⟩:=List.mem_map.mp hm;dsimp only at e;split at e
  ·rename_i hc;rw[Bool.and_eq_true,Bool.and_eq_true]at hc;cases e
   rw[←eq_of_beq hc.1.1];exact hj
  ·cases e
   rcases hk with rfl|rfl
   ·exact absurd rfl (h1 _ hj)
   ·exact hj
 exact⟨pb scope.names [] h4,h1,h2,h3,λx c e=>j8 scope.names [] (λy d q=>by cases q) e,λx h=>by
  have:=j9 (x:=x) scope.names [] (frees x h) (h4 _ (frees x h) rfl);exact Option.isSome_iff_exists.mp this⟩
theorem lK {scope:Scope}{cells:List (Str×Addr)}{x:Str}(h:(x,NameKind.free)∈scope.names)(hc:(cells.lookup x).isSome=true):(cO scope.names cells []).lookup x=cells.lookup x:=by
 obtain⟨c,e⟩:=Option.isSome_iff_exists.mp (j9 (x:=x) scope.names [] h hc);rw[e,j8 scope.names [] (λy d q=>by cases q) e]
noncomputable def o4 (nT:Nat)(cap:List Nat)(σ:St):St:=List.replicate nT none++cap.map λi=>(σ[i]?).join
noncomputable def bS (nT:Nat)(cap:List Nat)(ρ:Env):Env:=List.replicate nT none++cap.map λi=>match ρ[i]? with|some (some (d,_))=>some (d,false)|_=>none
theorem qx {α:Type}{nT:Nat}{cap:List Nat}{f:Nat->Option α}{j:Nat}{v:α}(h:(List.replicate nT none++cap.map f)[j]? = some (some v)):∃k i,j=nT+k/\cap[k]? = some i/\f i=some v:=by
 by_cases hj:j<nT
 ·rw[List.getElem?_append_left (by simpa using hj),List.getElem?_replicate,if_pos hj]at h;cases h
 ·rw[List.getElem?_append_right (by simpa using Nat.not_lt.mp hj),List.length_replicate,List.getElem?_map]at h;obtain⟨i,h1,h2⟩:=oY h;exact⟨j - nT,i,by omega,h1,h2⟩
theorem Cn {α:Type}{nT:Nat}{cap:List Nat}{f:Nat->Option α}{k i:Nat}{v:α}(h1:cap[k]? = some i)(h2:f i=some v):(List.replicate nT none++cap.map f)[nT+k]? = some (some v):=by
 rw[List.getElem?_append_right (by simp),List.length_replicate,List.getElem?_map,Nat.add_sub_cancel_left,h1];simp[h2]
theorem RepE.caps {K:PySem.W.Frag}{B:Hp}{σ:St}{ρ:Env}{nT:Nat}{cap:List Nat}(h:RepE K B σ ρ):RepE K B (o4 nT cap σ) (bS nT cap ρ):=⟨h.tb,λj d b q=>by
 obtain⟨k,i,rfl,h1,h2⟩:=qx q;split at h2
 ·rename_i d' b' e;cases h2
  obtain⟨v,g1,g2⟩:=h.at' i _ _ e;exact⟨v,Cn h1 (by rw[g1];rfl),g2⟩
 ·cases h2⟩
noncomputable def fD (tg:FG)(c:FT)(fe:FE)(ρ:Env):List D->Option (List D)
 |[]=>some []
 |d::r=>(tg d ρ).bind λρ1=>(c ρ1).bind λb=>if b=true then (fe ρ1).bind λx=>(fD tg c fe ρ r).map (x.1 :: ·)else fD tg c fe ρ r
@[simp] theorem FL (tg:FG)(c:FT)(fe:FE)(ρ:Env):fD tg c fe ρ []=some []:=by rw[fD]
@[simp] theorem uZ (tg:FG)(c:FT)(fe:FE)(ρ:Env)(d:D)(r:List D):fD tg c fe ρ (d::r)=(tg d ρ).bind λρ1=>(c ρ1).bind λb=>if b=true then (fe ρ1).bind λx=>(fD tg c fe ρ r).map (x.1 :: ·)else fD tg c fe ρ r:=by rw[fD]
@[simp] noncomputable def bR (fi:FA)(nT:Nat)(cap:List Nat)(tg:FG)(c:FT)(fe:FE):FE:=λρ=>(fi ρ).bind λitems=>if items.length<=sizeLine then (fD tg c fe (bS nT cap ρ) items).map λds=>(.lst ds,true)else none
def TGE (K:PySem.W.Frag)(n:Nat)(tg:FG)(g:TG):Prop:=∀(B H:Hp)(σ:St)(ρ ρ1:Env)(v:V)(d:D)(Q:St->Hp->Prop),(∀i,i<n->ρ[i]? = some none)->RepE K B σ ρ->aO B H->Is K B v d->tg d ρ=some ρ1 ->
 ρ.length=σ.length->(∀σ1,RepE K B σ1 ρ1->(∀B',RepE K B' σ ρ->RepE K B' σ1 ρ)->ρ.length=σ1.length->Q σ1 H)->g v σ H Q
theorem bI {K:PySem.W.Frag}{n i:Nat}(hi:i<n):TGE K n (tgN i) (ie i):=by
 intro B H σ ρ ρ1 v d Q cl rep s h e hl k;cases e
 have hiσ:i<σ.length:=by
  have:=(List.getElem?_eq_some_iff.mp (cl i hi)).1;omega
 refine k _ ⟨rep.tb,λj e b q=>?_⟩ ?_ (by simpa using hl)
 ·rcases bG q with⟨rfl,p⟩|⟨ne,p⟩
  ·cases p
   exact⟨v,by simp[hiσ],h⟩
  ·obtain⟨w,h1,h2⟩:=rep.at' j e b p;exact⟨w,by rw[List.getElem?_set_ne ne];exact h1,h2⟩
 ·intro B' rep';refine⟨rep'.tb,λj e b q=>?_⟩;obtain⟨w,h1,h2⟩:=rep'.at' j e b q;have ne:i≠j:=λz=>by subst z;rw[cl i hi]at q;cases q
  exact⟨w,by rw[List.getElem?_set_ne ne];exact h1,h2⟩
def JC (X:Cx)(ifs:List Expr)(c:FT):Prop:=∀(pins:List (Addr×Obj))(s:Shared)(σ:St)(H:Hp)(Q:Bool->Hp->Prop),Inv X pins σ H s->tDT X.K c σ H Q ->
 wpAny (model X.prog X.w) X.A (forIn ifs true λc r=>if r=true then do let ok ←isTrue c X.env (eval c X.env);pure (ForInStep.yield ok)else pure (ForInStep.yield r)) (TP X pins σ Q) X.xe s
@[simp] noncomputable def io:FT:=λ_=>some true
theorem ky {X:Cx}:JC X [] io:=by
 intro pins s σ H Q I h;obtain⟨B,ρ,c,sB,rep,e,q⟩:=h;cases e
 exact wpAny_tests_nil ⟨H,I,q H (.refl H)⟩
theorem dP {X:Cx}{e:Expr}{f:FT}(h:JT X e f):JC X [e] f:=λpins s σ H Q I q=>wpAny_tests_one (h pins s σ H Q I q)
theorem lZ {X:Cx}(hcalm:X.calm=true){tg iter elt:Expr}{ifs:List Expr}{scope:Scope}{pos:Pos}{cl:List (Str×Addr)}{N':List Str}{nT:Nat}{cap:List Nat}{tgF:FG}{g:TG}{fc:FT}{fe:FE}
  (S:CompSc X scope cl) (cp:Caps X N' scope cl nT cap)
  (hg:∀C s H fp,PG (dE X N' scope cl C s H fp) tg g) (htg:TGE X.K nT tgF g) (hc:∀C s H fp,JC (dE X N' scope cl C s H fp) ifs fc) (he:∀C s H fp,JE (dE X N' scope cl C s H fp) elt fe)
  {pins:List (Addr×Obj)}{σ:St}{H2:Hp}{s2:Shared}{it:Addr}{fp:List Addr}{tn:Nat->Heap->Prop}{J:It}{N1:Hp}{ρ:Env}{items ds:List D}{E:Value->Shared->Prop}
  (I2:Inv X pins σ H2 s2) (T:Turn X.prog X.w X.K tg J fp it tn) (st2:tn 0 s2.heap) (f2:∀b∈fp,ko X pins H2 b)
  (rep:RepE X.K N1 σ ρ) (sN:aO N1 H2) (J1:o0 X.K J N1 items) (hsz:items.length<=sizeLine) (ec:fD tgF fc fe (bS nT cap ρ) items=some ds) {RR:Value->Addr->Result->Shared->Prop}
  (hRR:∀(Dd C:Addr)(s':Shared)(H' N:Hp)(vs:List V)(m:Str->Option Value),H2 Dd=none->Inv X pins σ H' s'->s'.heap.Ns C m->ko X pins H' C->Ext N1 N H2 H'->N Dd=some (.lst vs)->IsL X.K N vs ds->RR (.ref Dd) C (.ok .next) s'):
  wpAny (model X.prog X.w) X.A (newList []) (λacc s₃=>wpAny (model X.prog X.w) X.A (newFunctionEnv scope X.env.globals cl [] X.env.qual none .none (some X.env)) (λcenv s₄=>
   codeAny (model X.prog X.w) X.A (.compStart (.ListComp elt [⟨tg,iter,ifs,0⟩] scope pos) 0 (.ref it) acc { cenv with scope:=relabel scope X.env }) (RR acc cenv.locals) s₄) E s₃) E s2:=by
 refine wpAny_newObj_type (wpAny_newFunctionEnv S.nocell (by intro y hy;simp at hy) (λh₁ hns₁ hsb₁=>?_) S.kind);dsimp only at hns₁ hsb₁ ⊢;have hD:H2 s2.heap.objs.size=none:=I2.fresh;have I3:Inv X pins σ (upd H2 s2.heap.objs.size (.lst [])) { s2 with heap:=s2.heap.push { cls:=.type "list",dict:=none,data:=.seq ([]:List Value).toArray } }:=I2.lnew (t':=s2.toks) (ys:=[]) (its:=[]) .nil (Nat.zero_le _);generalize hH3:s2.heap.push { cls:=.type "list",dict:=none,data:=.seq ([]:List Value).toArray }=g3 at hns₁ hsb₁ I3 ⊢;have hC:g3.objs.size=s2.heap.objs.size+1:=by rw[←hH3,Heap.size_push]
 have old2:∀b o,s2.heap.get? b=some o->g3.get? b=some o:=λb o e=>hH3 ▸ Heap.get?_push_of_some _ e;have old3:∀b o,g3.get? b=some o->h₁.get? b=some o:=λb o e=>hsb₁.extBut b o (Nat.ne_of_lt (Heap.lt_size e)) (Heap.get?_push_of_some _ e);have neC:∀b o,g3.get? b=some o->b≠g3.objs.size:=λb o e=>Nat.ne_of_lt (Heap.lt_size e);have fpo:∀b∈fp,∃o,s2.heap.get? b=some o:=λb hb=>let ⟨o,e,_⟩:=T.obj 0 s2.heap st2 b hb;⟨o,e⟩;have fpD:∀b∈fp,b≠s2.heap.objs.size:=λb hb=>let ⟨o,e⟩:=fpo b hb;Nat.ne_of_lt (Heap.lt_size e);have fpC:∀b∈fp,b≠g3.objs.size:=λb hb=>let ⟨o,e⟩:=fpo b hb;neC b o (old2 b o e);have cellC:∀x c,X.env.cells.lookup x=some c->c≠g3.objs.size:=λx c e=>by
  obtain⟨v,z⟩:=I3.cell x c e;exact Nat.ne_of_lt z.lt
 have hHC:(upd H2 s2.heap.objs.size (HO.lst [])) g3.objs.size=none:=I3.hok.fresh (Nat.le_refl _);have stk:∀b∈frs X.stack,∃o,s2.heap.get? b=some o:=λb hb=>by
  obtain⟨_,o,ho,_⟩:=(I2.stack).mem hb;exact⟨o,ho⟩
 -- the block's context
 have ok:(dE X N' scope cl g3.objs.size { s2 with heap:=g3 } (upd H2 s2.heap.objs.size (.lst [])) fp).Ok:=by
  refine⟨I2.ok.mod,?_,I2.ok.glob,I2.ok.blt,Nat.le_refl _,λx y c e1 e2=>I2.ok.inj x y c (S.sub x c e1) (S.sub y c e2),λx h=>S.has x h,λx c h=>absurd h Bool.false_ne_true,I2.ok.hd,I2.ok.frames,.inl rfl,λb hb=>⟨fpC b hb,λx c e=>(f2 b hb).2.2.2.2.1 x c (S.sub x c e)⟩,λb o e=>?_,?_,λb o e hb=>?_,λb hb hz=>?_,I3.stack,λb hb=>I3.stkFree b hb⟩
  ·show(relabel scope X.env).kind=.function;exact S.kind
  ·exact I3.bs b o e
  ·exact Nat.le_trans I3.ok.bsz I3.sz
  ·have h1:=(f2 b hb).2.2.2.1;rcases h1 with z|z
   ·exact I2.ok.noex b o e z
   ·exact absurd (Nat.lt_of_lt_of_le (Heap.lt_size e) (Nat.le_trans I2.ok.bsz z)) (Nat.lt_irrefl _)
  ·rcases List.mem_cons.mp (I2.stkSub b hz)with z|z
   ·exact(f2 b hb).2.1 z
   ·exact(f2 b hb).2.2.1 z
 have I4:Inv (dE X N' scope cl g3.objs.size { s2 with heap:=g3 } (upd H2 s2.heap.objs.size (.lst [])) fp) [] (o4 nT cap σ) (upd H2 s2.heap.objs.size (.lst [])) { s2 with heap:=h₁,toks:=s2.toks+([]:List (Str×Value)).length }:=by
  refine⟨ok,rfl,I2.bare,Un.kept old3,⟨_,hns₁,λj x v e1 e2 e3=>?_⟩,λx c e=>?_,hHC,λx c e=>I3.freeC x c (S.sub x c e),λp hp=>by simp at hp,I3.hok.kept old3,?_⟩
  ·obtain⟨k,i,rfl,h1,h2⟩:=qx e2;obtain⟨y,g1,g2,g3',g4,g5⟩:=cp.get h1;have e1':N'[nT+k]? = some x:=e1;rw[g1]at e1';cases e1';have h2':σ[i]? = some (some v):=by
    cases q:σ[i]? with
    |none=>rw[q]at h2;cases h2
    |some z=>rw[q]at h2;have:z=some v:=h2;rw[this]
   obtain⟨m,_,hl⟩:=I3.loc;obtain⟨u,r,l⟩:=hl i _ v g2 h2' (g3'.elim (λz=>.inr (.inl z)) λz=>.inr (.inr z));refine⟨u,r,?_⟩;rcases l with⟨l,_⟩|⟨_,c,lc,ic⟩
   ·rcases g3' with z|z<;>(rw[z]at l;cases l)
   ·refine .inr ⟨g4,c,by show cl.lookup _=some c;rw[g5];exact lc,?_⟩;obtain⟨o,ho,hd⟩:=ic;exact⟨o,old3 _ _ ho,hd⟩
  ·obtain⟨v,o,ho,hd⟩:=I3.cell x c (S.sub x c e);exact⟨v,o,old3 _ _ ho,hd⟩
  ·show(o4 nT cap σ).length=N'.length;unfold o4;rw[cp.len];simp
 have fpX:∀ {H':Hp},(∀b∈fp,H' b=none)->∀b∈fp,ko (dE X N' scope cl g3.objs.size { s2 with heap:=g3 } (upd H2 s2.heap.objs.size (.lst [])) fp) [] H' b:=λhn b hb=>
  ⟨hn b hb,fpC b hb,ok.exfs b hb,.inl hb,λx c e=>(f2 b hb).2.2.2.2.1 x c (S.sub x c e),λp hp=>by simp at hp⟩
 have clean:∀i,i<nT->(bS nT cap ρ)[i]? = some none:=λi hi=>by
  unfold bS;rw[List.getElem?_append_left (by simpa using hi),List.getElem?_replicate,if_pos hi]
 have hND:N1 s2.heap.objs.size=none:=sN.free hD;have loop:∀s₃:Shared,s₃={ s2 with heap:=h₁,toks:=s2.toks+([]:List (Str×Value)).length } ->
   codeAny (model X.prog X.w) X.A (.compLoop (.ListComp elt [⟨tg,iter,ifs,0⟩] scope pos) 0 (.ref it) (.ref s2.heap.objs.size) (compEnvC scope cl g3.objs.size X.env)) (RR (.ref s2.heap.objs.size) g3.objs.size) s₃:=by
  rintro s₃ rfl;refine qw (λn s'=>∃(i:Nat)(N:Hp)(vs:List V)(es:List D)(σ':St)(H':Hp),Inv (dE X N' scope cl g3.objs.size { s2 with heap:=g3 } (upd H2 s2.heap.objs.size (.lst [])) fp) [] σ' H' s'/\tn i s'.heap/\(∀b∈fp,H' b=none) /\
   n=items.length - i/\i<=items.length/\RepE X.K N1 σ' (bS nT cap ρ)/\(bS nT cap ρ).length=σ'.length/\Ext N1 N H2 H'/\N s2.heap.objs.size=none/\H' s2.heap.objs.size=some (.lst vs)/\vs.length<=i/\IsL X.K N vs es /\
   ∃r,fD tgF fc fe (bS nT cap ρ) (items.drop i)=some r/\es++r=ds) ?_ items.length ?_
  ·rintro n s' ⟨i,N,vs,es,σ',H',I',ti,hn,rfl,hi,rp,hlen,x,hN0,hH0,hvl,hvs,r,er,eds⟩;have sH:aO N1 H':=x.bn.trans x.nh;by_cases hlt:i<items.length
   ·obtain⟨j1,_⟩:=J1 i H' sH;obtain⟨go,yl⟩:=j1 items[i] (by simp[hlt]);rw[List.drop_eq_getElem_cons hlt]at er;unfold fD at er;obtain⟨ρ1,e1,er⟩:=oX er;obtain⟨b,e2,er⟩:=oX er;refine thn (T.item (dE X N' scope cl g3.objs.size { s2 with heap:=g3 } (upd H2 s2.heap.objs.size (.lst [])) fp) rfl rfl rfl hcalm i [] s' σ' H' (λ_ _=>False) I' (fpX hn) ti go) λq s4 hq=>?_;obtain⟨u,rfl,hq⟩:=hq;refine thn hq λ_ s5 hq=>?_;obtain⟨xv,H5,I5,rx,y5,t5,fr5⟩:=hq;obtain⟨N5,x5,i5⟩:=yl xv H5 y5
    -- all that may be named at this turn
    have x6:Ext N (join N N5) H' H5:=by
     refine⟨x5.hh,du,λa o e=>?_,λa o e=>?_⟩
     ·cases z:N a with
      |some u'=>rw[du _ _ z]at e;cases e;exact x5.hh _ _ (x.nh _ _ z)
      |none=>rw[da z]at e;exact x5.nh _ _ e
     ·cases z:N a with
      |some u'=>rw[du _ _ z]at e;cases e;exact .inl rfl
      |none=>
       rw[da z]at e;rcases x5.new a o e with z'|z'
       ·rw[x.bn _ _ z']at z;cases z
       ·exact .inr z'
    have c5:aO N5 (join N N5):=λa o e=>by
     rcases x5.new a o e with z|z
     ·exact du _ _ (x.bn _ _ z)
     ·rw[da (x.nh.free z)];exact e
    have hN5:(join N N5) s2.heap.objs.size=none:=by
     cases z:join N N5 s2.heap.objs.size with
     |none=>rfl
     |some o=>
      rcases x6.new _ _ z with z'|z'
      ·rw[hN0]at z';cases z'
      ·rw[hH0]at z';cases z'
    have fin:∀(s9:Shared)(σ9:St)(H9 N9:Hp)(vs9:List V)(es9:List D),Inv (dE X N' scope cl g3.objs.size { s2 with heap:=g3 } (upd H2 s2.heap.objs.size (.lst [])) fp) (kq fp s5.heap) σ9 H9 s9 ->
      RepE X.K N1 σ9 (bS nT cap ρ)->(bS nT cap ρ).length=σ9.length->Ext N1 N9 H2 H9->N9 s2.heap.objs.size=none->H9 s2.heap.objs.size=some (.lst vs9)->vs9.length<=i+1->IsL X.K N9 vs9 es9 ->
      (∃r,fD tgF fc fe (bS nT cap ρ) (items.drop (i+1))=some r/\es9++r=ds)->∃m,m<items.length - i/\∃(i:Nat)(N:Hp)(vs:List V)(es:List D)(σ':St)(H':Hp),Inv (dE X N' scope cl g3.objs.size { s2 with heap:=g3 } (upd H2 s2.heap.objs.size (.lst [])) fp) [] σ' H' s9/\tn i s9.heap/\(∀b∈fp,H' b=none) /\
       m=items.length - i/\i<=items.length/\RepE X.K N1 σ' (bS nT cap ρ)/\(bS nT cap ρ).length=σ'.length/\Ext N1 N H2 H'/\N s2.heap.objs.size=none/\H' s2.heap.objs.size=some (.lst vs)/\vs.length<=i/\IsL X.K N vs es /\
       ∃r,fD tgF fc fe (bS nT cap ρ) (items.drop i)=some r/\es++r=ds:=λs9 σ9 H9 N9 vs9 es9 I9 rp9 l9 x9 n9 h9 v9 i9 er9=>by
     refine⟨items.length - (i+1),by omega,i+1,N9,vs9,es9,σ9,H9,I9.pins_of λp hp=>by simp at hp,T.keep _ _ _ t5 λb hb o e=>(I9.pin (b,o) (mY _ (gH hb e))).1,λb hb=>?_,rfl,hlt,rp9,l9,x9,n9,h9,v9,i9,er9⟩;obtain⟨o,e,d⟩:=T.obj _ _ t5 b hb;exact(I9.pin (b,o) (mY _ (gH hb e))).2.1
    have I5':Inv (dE X N' scope cl g3.objs.size { s2 with heap:=g3 } (upd H2 s2.heap.objs.size (.lst [])) fp) (kq fp s5.heap) σ' H5 s5:=by
     have:=I5.pinned (fpX fr5) (T.obj _ _ t5);rwa [List.nil_append]at this
    have sN5:aO (join N N5) H5:=x6.nh;refine thn (hg _ _ _ _ _ s5 σ' H5 xv u (λσ6 H6=>H6=H5/\RepE X.K (join N N5) σ6 ρ1/\RepE X.K N1 σ6 (bS nT cap ρ)/\(bS nT cap ρ).length=σ6.length) I5' rx ?_) λ_ s6 ⟨σ6,H6,I6,eH,rp6,rq6,l6⟩=>?_
    ·refine htg (join N N5) H5 σ' (bS nT cap ρ) ρ1 xv items[i] _ clean (rp.mono (x.bn.trans du)) sN5 (i5.mono c5) e1 hlen λσ1 r1 r2 l1=>⟨rfl,r1,r2 N1 rp,l1⟩
    ·subst eH;have hH5:H6 s2.heap.objs.size=some (.lst vs):=x5.hh _ _ hH0;refine thn (hc _ _ _ _ _ s6 σ6 H6 (λc H7=>c=b/\aO H6 H7) I6 ⟨join N N5,ρ1,b,sN5,rp6,e2,λH7 h7=>⟨rfl,h7⟩⟩) λok s7 ⟨H7,I7,eb,h7⟩=>?_;subst eb;have x7:Ext N1 (join N N5) H2 H7:=(x.trans x6).trans (.grow sN5 h7);cases ok with
     |false=>
      rw[if_neg (by decide)]at er ⊢;exact fin s7 σ6 H7 (join N N5) vs es I7 rq6 l6 x7 hN5 (h7 _ _ hH5) (Nat.le_succ_of_le hvl) (hvs.mono du) ⟨r,er,eds⟩
     |true=>
      rw[if_pos rfl]at er ⊢;obtain⟨y,e3,er⟩:=oX er;obtain⟨r',e4,er⟩:=oY er;subst er;refine thn (he _ _ _ _ _ s7 σ6 H7 (λv H8=>∃N8,Ext (join N N5) N8 H7 H8/\Is X.K N8 v y.1) I7 ⟨join N N5,ρ1,y.1,y.2,sN5.trans h7,rp6,e3,λv H8 N8 x8 i8 _=>⟨N8,x8,i8⟩⟩) λw8 s8 ⟨v8,H8,I8,r8,N8,x8,i8⟩=>?_;have hH8:H8 s2.heap.objs.size=some (.lst vs):=x8.hh _ _ (h7 _ _ hH5);refine thn (oU _ s8 σ6 H8 (.ref s2.heap.objs.size) [v8] (.ref s2.heap.objs.size) [w8] (λ_ H9=>H9=upd H8 s2.heap.objs.size (.lst (vs++[v8]))) I8 rfl (.cons r8 .nil) ⟨_,vs,v8,rfl,rfl,hH8,by omega,rfl⟩) λ_ s9 ⟨_,H9,I9,_,e9⟩=>?_;subst e9;have hN8:N8 s2.heap.objs.size=none:=by
       cases z:N8 s2.heap.objs.size with
       |none=>rfl
       |some o=>
        rcases x8.new _ _ z with z'|z'
        ·rw[hN5]at z';cases z'
        ·rw[h7 _ _ hH5]at z';cases z'
      refine fin s9 σ6 _ N8 (vs++[v8]) (es++[y.1]) I9 rq6 l6 ((x7.trans x8).upd hD hN8) hN8 aD (by rw[List.length_append,List.length_singleton];omega) ((hvs.mono (du.trans x8.bn)).append (.cons i8 .nil)) ⟨r',e4,by rw[List.append_assoc];exact eds⟩
   ·have ei:i=items.length:=by omega
    subst ei;rw[List.drop_eq_nil_of_le (Nat.le_refl _)]at er;cases er
    rw[List.append_nil]at eds;subst eds;refine thn (T.done (dE X N' scope cl g3.objs.size { s2 with heap:=g3 } (upd H2 s2.heap.objs.size (.lst [])) fp) rfl rfl rfl hcalm items.length [] s' σ' H' (λ_ _=>False) I' (fpX hn) ti ((J1 _ H' sH).2 (Nat.le_refl _))) λq s4 ⟨hq,I9⟩=>?_;subst hq;obtain⟨m,hm,_⟩:=I9.loc;have u1:Un (frs X.stack) fp H2 (upd H2 s2.heap.objs.size (.lst [])) s2.heap g3:=Un.laid old2 (Nat.le_refl _) hD;have x9:Ext N1 (upd N s2.heap.objs.size (.lst vs)) H2 H':=by
     refine⟨x.hh,x.bn.trans λa o e=>by rw[aF (λz=>by subst z;rw[hN0]at e;cases e)];exact e,λa o e=>?_,λa o e=>?_⟩
     ·by_cases z:a=s2.heap.objs.size
      ·subst z;rw[aD]at e;cases e;exact hH0
      ·rw[aF z]at e;exact x.nh _ _ e
     ·by_cases z:a=s2.heap.objs.size
      ·subst z;exact .inr hD
      ·rw[aF z]at e;exact x.new _ _ e
    refine hRR s2.heap.objs.size g3.objs.size s4 H' (upd N s2.heap.objs.size (.lst vs)) vs m hD (I2.call' (ch:=fp) I9.os (u1.trans I9.base) I9.hok I9.bare λb hb=>⟨(f2 b hb).2.2.2.1,(f2 b hb).2.1,(f2 b hb).2.2.2.2.1,(f2 b hb).2.2.2.2.2⟩) hm (I2.fpOk (by rw[hC];exact Nat.le_succ _) I9.free) x9 aD
     (hvs.mono λa o e=>by rw[aF (λz=>by subst z;rw[hN0]at e;cases e)];exact e)
  ·refine⟨0,N1,[],[],o4 nT cap σ,_,I4,T.keep _ _ _ st2 λb hb o e=>old3 _ _ (old2 _ _ e),λb hb=>?_,rfl,Nat.zero_le _,rep.caps,?_,(Ext.refl sN).upd hD hND,hND,aD,Nat.zero_le _,.nil,ds,by simpa using ec,rfl⟩
   ·rw[aF (fpD b hb)];exact(f2 b hb).1
   ·unfold bS o4;simp
 exact codeAny_compStart_list (loop _ rfl) (T.self _ 0 _ _ _ (T.keep _ _ _ st2 λb hb o e=>old3 _ _ (old2 _ _ e)) (loop _ rfl))
theorem Co {X:Cx}(hcalm:X.calm=true){tg iter elt:Expr}{ifs:List Expr}{scope:Scope}{pos:Pos}{cl:List (Str×Addr)}{N':List Str}{nT:Nat}{cap:List Nat}{fi:FA}{tgF:FG}{g:TG}{fc:FT}{fe:FE}
  (S:CompSc X scope cl) (cp:Caps X N' scope cl nT cap) (hi:JI X tg iter fi)
  (hg:∀C s H fp,PG (dE X N' scope cl C s H fp) tg g) (htg:TGE X.K nT tgF g) (hc:∀C s H fp,JC (dE X N' scope cl C s H fp) ifs fc) (he:∀C s H fp,JE (dE X N' scope cl C s H fp) elt fe)
  (hs:∀x,foldedSetIterable iter X.env x=pure x:=by intro _;rfl):
  JE X (.ListComp elt [⟨tg,iter,ifs,0⟩] scope pos) (bR fi nT cap tgF fc fe):=by
 intro pins s σ H Q I h;obtain⟨B,ρ,d,b,sB,rep,e,q⟩:=h;obtain⟨items,ei,e⟩:=oX e;have hsz:items.length<=sizeLine:=Decidable.byContradiction λz=>by rw[if_neg z]at e;cases e
 rw[if_pos hsz]at e;obtain⟨ds,ec,e⟩:=oY e;cases e
 rw[eval_ListComp];refine wpAny_comprehension_free (use:=none) rfl hs S.clos S.kind S.names (thn (hi pins s σ H (λJ H2=>∃N1,Ext B N1 H H2/\o0 X.K J N1 items) I ⟨B,ρ,items,sB,rep,ei,λJ H2 N1 x1 j1=>⟨N1,x1,j1⟩⟩) λv s1 h1=>thn h1 λitv s2 h2=>?_);obtain⟨it,fp,tn,J,H2,e,I2,T,st2,f2,N1,x1,j1⟩:=h2;subst e;refine lZ hcalm S cp hg htg hc he I2 T st2 f2 (rep.mono x1.bn) x1.nh j1 hsz ec (RR:=λacc C=>compPost (model X.prog X.w) X.A X.xe none (EP X pins σ Q) acc C) ?_;intro Dd C s' H' N vs m hD I' hm fC x hN hl;refine⟨m,hm,λh' hs'=>⟨.ref Dd,H',?_,rfl,q _ H' N (x1.trans x) (.lst (SqL.of hN) hl) λ_=>⟨Dd,vs,ds,rfl,rfl,x1.hh.free hD,hN,hl⟩⟩⟩;obtain⟨c0,c1,c2,c3,c4,c5⟩:=fC;exact I'.turned (t':=s'.toks) (λb o hb e=>(hs'.2 b hb).trans e) c0 c1 c3 c4 c5
theorem Cp {X:Cx}(hcalm:X.calm=true){tg iter elt:Expr}{ifs:List Expr}{scope:Scope}{pos spos py:Pos}{cl:List (Str×Addr)}{N':List Str}{nT:Nat}{cap:List Nat}{fi:FA}{tgF:FG}{g:TG}{fc:FT}{fe:FE}{y:Str}{i:Nat}
  (hN:X.N.Nodup) (hi':X.N[i]? = some y) (hy:X.env.kindOf y=some .local)
  (hsw:swapsWith (.ListComp elt [⟨tg,iter,ifs,0⟩] scope pos) (some (.Name y py)) spos.line X.env=pure true)
  (S:CompSc X scope cl) (cp:Caps X N' scope cl nT cap) (hi:JI X tg iter fi)
  (hg:∀C s H fp,PG (dE X N' scope cl C s H fp) tg g) (htg:TGE X.K nT tgF g) (hc:∀C s H fp,JC (dE X N' scope cl C s H fp) ifs fc) (he:∀C s H fp,JE (dE X N' scope cl C s H fp) elt fe)
  (hs:∀x,foldedSetIterable iter X.env x=pure x:=by intro _;rfl):
  JS X (.Assign [.Name y py] (.ListComp elt [⟨tg,iter,ifs,0⟩] scope pos) spos) (aP i (bR fi nT cap tgF fc fe)):=by
 intro pins s σ H E I h;have h2:xZ (tD X.K (bR fi nT cap tgF fc fe)) (ie i) E σ H:=ww h;obtain⟨B,ρ,d,b,sB,rep,e,q⟩:=h2;obtain⟨items,ei,e⟩:=oX e;have hsz:items.length<=sizeLine:=Decidable.byContradiction λz=>by rw[if_neg z]at e;cases e
 rw[if_pos hsz]at e;obtain⟨ds,ec,e⟩:=oY e;cases e
 rw[exec_Assign_Name_used _ _ _ _ hsw];refine wX (wpAny_standAt (wX ?_));show wpAny _ _ (do let _ ←comprehension (.ListComp elt [⟨tg,iter,ifs,0⟩] scope pos) scope X.env _ (newList []) false (eval iter X.env) (some (assign (.Name y py) X.env))) _ _ s;refine wX (wpAny_mono (wpAny_comprehension_free (use:=some (assign (.Name y py) X.env)) (Q:=λ_ s'=>SP X pins E .next s') rfl hs S.clos S.kind S.names
  (thn (hi pins s σ H (λJ H2=>∃N1,Ext B N1 H H2/\o0 X.K J N1 items) I ⟨B,ρ,items,sB,rep,ei,λJ H2 N1 x1 j1=>⟨N1,x1,j1⟩⟩) λv s1 h1=>thn h1 λitv s2 h2=>?_)) (λ_ s' hq=>wY (wY hq)) λ_ _ e=>e)
 obtain⟨it,fp,tn,J,H2,e,I2,T,st2,f2,N1,x1,j1⟩:=h2;subst e;refine lZ hcalm S cp hg htg hc he I2 T st2 f2 (rep.mono x1.bn) x1.nh j1 hsz ec (RR:=λacc C=>compPost (model X.prog X.w) X.A X.xe (some (assign (.Name y py) X.env)) (λ_ s'=>SP X pins E .next s') acc C) ?_;intro Dd C s' H' N vs m hD I' hm fC x hN' hl;show wpAny _ _ (assign (.Name y py) X.env (.ref Dd)) _ _ s';obtain⟨c0,c1,c2,c3,c4,c5⟩:=fC;refine wpAny_assign_Name (oH I' hN hi' (.inl hy) (r:=show aS (.ref Dd) (.ref Dd)from rfl) (λs9 I9 ⟨a,sb,ha⟩=>?_) (.inr hy));have nC:C≠a:=by
  rcases ha with z|z
  ·rw[z];exact c1
  ·exact λw=>c4 y a z w.symm
 refine⟨m,hm.sameBut sb nC,λh' hs'=>⟨_,H',?_,q _ H' N (x1.trans x) (.lst (SqL.of hN') hl) λ_=>⟨Dd,vs,ds,rfl,rfl,x1.hh.free hD,hN',hl⟩⟩⟩;exact I9.turned (t':=s9.toks) (λb o hb e=>(hs'.2 b hb).trans e) c0 c1 c3 c4 c5
section
variable {X:Cx}{a b c e:Expr}{pos:Pos}
theorem PE.to {t t':TE}(h:PE X e t)(k:∀σ H Q,t' σ H Q->t σ H Q):PE X e t':=λpins s σ H Q I q=>h pins s σ H Q I (k σ H Q q)
theorem PT.to {t t':TT}(h:PT X e t)(k:∀σ H Q,t' σ H Q->t σ H Q):PT X e t':=λpins s σ H Q I q=>h pins s σ H Q I (k σ H Q q)
theorem PW.to {t t':TT}(h:PW X e t)(k:∀σ H Q,t' σ H Q->t σ H Q):PW X e t':=λwh pins s σ H Q I q=>h wh pins s σ H Q I (k σ H Q q)
theorem PA.to {es:List Expr}{t t':TA}(h:PA X es t)(k:∀σ H Q,t' σ H Q->t σ H Q):PA X es t':=λpos pins s σ H Q I q=>h pos pins s σ H Q I (k σ H Q q)
theorem PS.to {st:Stmt}{t t':TS}(h:PS X st t)(k:∀E σ H,t' E σ H->t E σ H):PS X st t':=λpins s σ H E I q=>h pins s σ H E I (k E σ H q)
theorem PSs.to {st:List Stmt}{t t':TS}(h:PSs X st t)(k:∀E σ H,t' E σ H->t E σ H):PSs X st t':=λpins s σ H E I q=>h pins s σ H E I (k E σ H q)
theorem PI.to {tg it:Expr}{t t':TI}(h:PI X tg it t)(k:∀σ H Q,t' σ H Q->t σ H Q):PI X tg it t':=λpins s σ H Q I q=>h pins s σ H Q I (k σ H Q q)
theorem yr {K:PySem.W.Frag}{d:D}{v:V}(i:∀B,Is K B v d){σ:St}{H:Hp}{Q:VK}(h:tD K (fC d) σ H Q):tC v σ H Q:=by
 obtain⟨B,ρ,d',b,s,r,e,q⟩:=h;cases e
 exact q.one s (i B)
theorem ac (i:Nat){x:Str}(hN:X.N[i]? = some x:=by rfl)(hv:Vis X.env.scope x:=by first|exact Or.inl rfl|exact Or.inr (Or.inl rfl)|exact Or.inr (Or.inr rfl))(hd:(x == ("__debug__" : Str))=false:=by decide)
  (hcd:(x == ("__classdict__" : Str))=false:=by decide):JE X (.Name x pos) (ae i):=PE.to (lT hN hv hd hcd) λ_ _ _ h=>EM h
theorem ah {i:Int}{j:Nat}:JE X (.Constant (.int i) j pos) (fC (.int i)):=PE.to Ej λ_ _ _ h=>yr (λ_=>.int i) h
theorem iq {i:Bool}{j:Nat}:JE X (.Constant (.bool i) j pos) (fC (.bl i)):=PE.to FW λ_ _ _ h=>yr (λ_=>.bl i) h
theorem cP {j:Nat}:JE X (.Constant .none j pos) (fC .non):=PE.to Ek λ_ _ _ h=>yr (λ_=>.non) h
theorem au {x:Str}{j:Nat}:JE X (.Constant (.str x) j pos) (fC (.str x)):=PE.to El λ_ _ _ h=>yr (λ_=>.str x) h
theorem Cq {x:Str}{v:V}{d:D}{u:Value}(hg:Gl X x)(hm:X.mg x=some u)(r:aS v u)(i:∀B,Is X.K B v d)(hd:(x == ("__debug__" : Str))=false:=by decide):JE X (.Name x pos) (fC d):=PE.to (wl hg hm r hd) λ_ _ _ h=>yr i h
theorem av {op:Operator}{f:D->D->Option (D×Bool)}{fa fb:FE}(ho:OpR X (binaryOp op) (rD X.K f))(ha:JE X a fa)(hb:JE X b fb):JE X (.BinOp a op b pos) (f2 f fa fb):=PE.to (Dx ho ha hb) λ_ _ _ h=>Cf h
theorem wx {op:UnaryOp}{f:D->Option (D×Bool)}{fa:FE}(ho:UnR X (unaryOp op) (rDU X.K f))(ha:JE X a fa):JE X (.UnaryOp op a pos) (f1 f fa):=PE.to (Gn ho ha) λ_ _ _ h=>HL h
theorem bT {op:CmpOp}{f:D->D->Option (D×Bool)}{fa fb:FE}(ho:OpR X (compareOp op) (rD X.K f))(ha:JE X a fa)(hb:JE X b fb)(hm:behindInMarks op b=false:=by first|exact lU _ (by decide) (by decide)|rfl):JE X (.Compare a [op] [b] pos) (f2 f fa fb):=PE.to (BQ ho ha hb hm) λ_ _ _ h=>Cf h
theorem zS {K:PySem.W.Frag}{f:FE}{σ:St}{H:Hp}{Q:Bool->Hp->Prop}(h:tDT K (tOf f) σ H Q):tD K f σ H λx H'=>∃k,x=.bl k/\Q k H':=by
 obtain⟨B,ρ,c,s,r,e,q⟩:=h;unfold tOf at e;split at e
 ·rename_i c' b' ef;cases e
  refine⟨B,ρ,.bl c,b',s,r,ef,λv H' N x i _=>?_⟩;cases i
  exact⟨c,rfl,q H' x.hh⟩
 ·cases e
theorem aI {op:CmpOp}{f:D->D->Option (D×Bool)}{fa fb:FE}(ho:OpR X (compareOp op) (rD X.K f))(ha:JE X a fa)(hb:JE X b fb)(hm:behindInMarks op b=false:=by first|exact lU _ (by decide) (by decide)|rfl):JT X (.Compare a [op] [b] pos) (tOf (f2 f fa fb)) :=
 PT.to (BR ho ha hb hm) λ_ _ _ h=>Cf (zS h)
theorem bU {f:FE}(h:JE X e f)(he:∀whole,isTrue e X.env whole=(do let v ←whole;standAt e.pos;holding [v] (truthy v)):=by intro _;rfl):JT X e (tOf f):=PT.to (Em h he) λ_ _ _ q=>zS q
@[simp] noncomputable def k6 (f g:D->D->Option (D×Bool))(fa fb fc:FE):FE:=λρ=>(fa ρ).bind λx=>(fb ρ).bind λy=>match f x.1 y.1 with
 |some (.bl true,_)=>(fc ρ).bind λz=>g y.1 z.1
 |some (.bl false,_)=>some (.bl false,false)
 |_=>none
theorem zT {K:PySem.W.Frag}{f g:D->D->Option (D×Bool)}{fa fb fc:FE}{σ:St}{H:Hp}{Q:VK}(h:tD K (k6 f g fa fb fc) σ H Q):zw (rD K f) (rD K g) (tD K fa) (tD K fb) (tD K fc) σ H Q:=by
 obtain⟨B,ρ,d,b,s,r,e,q⟩:=h;obtain⟨x,ex,e⟩:=oX e;obtain⟨y,ey,e⟩:=oX e;refine⟨B,ρ,x.1,x.2,s,r,ex,λv H1 N1 x1 i1 _=>⟨N1,ρ,y.1,y.2,x1.nh,r.mono x1.bn,ey,λv2 H2 N2 x2 i2 _=>?_⟩⟩;split at e
 ·rename_i b' ef;obtain⟨z,ez,e⟩:=oX e;refine⟨N2,x.1,y.1,.bl true,b',x2.nh,i1.mono x2.bn,i2,ef,λv3 H3 N3 x3 i3 _=>?_⟩;cases i3
  refine⟨true,rfl,?_⟩;rw[if_pos rfl];refine⟨N3,ρ,z.1,z.2,x3.nh,r.mono (x1.bn.trans (x2.bn.trans x3.bn)),ez,λv4 H4 N4 x4 i4 _=>⟨N4,y.1,z.1,d,b,x4.nh,i2.mono (x3.bn.trans x4.bn),i4,e,?_⟩⟩;exact q.into ((x1.trans x2).trans (x3.trans x4))
 ·rename_i b' ef;cases e
  refine⟨N2,x.1,y.1,.bl false,b',x2.nh,i1.mono x2.bn,i2,ef,λv3 H3 N3 x3 i3 _=>?_⟩;cases i3
  refine⟨false,rfl,?_⟩;rw[if_neg (by decide)];exact(q.into ((x1.trans x2).trans x3)).one x3.nh (.bl false)
 ·cases e
theorem zU {op op':CmpOp}{f g:D->D->Option (D×Bool)}{fa fb fc:FE}(ho:OpR X (compareOp op) (rD X.K f))(ho':OpR X (compareOp op') (rD X.K g))(ha:JE X a fa)(hb:JE X b fb)(hc:JE X c fc)
  (hm:lastMarks [op,op'] [b,c]=false:=by with_unfolding_all rfl):JE X (.Compare a [op,op'] [b,c] pos) (k6 f g fa fb fc):=PE.to (zx ho ho' ha hb hc hm) λ_ _ _ h=>zT h
theorem Cr {K:PySem.W.Frag}{f g:FT}{σ:St}{H:Hp}{Q:Bool->Hp->Prop}(h:tDT K (d7 f g) σ H Q):FY (tDT K f) (tDT K g) σ H Q:=by
 obtain⟨B,ρ,c,s,r,e,q⟩:=h;unfold d7 at e;cases ef:f ρ with
 |none=>rw[ef]at e;cases e
 |some k=>
  rw[ef]at e;refine⟨B,ρ,k,s,r,ef,λH1 h1=>?_⟩;cases k with
  |true=>rw[if_pos rfl];exact⟨B,ρ,c,s.trans h1,r,e,λH2 h2=>q H2 (h1.trans h2)⟩
  |false=>rw[if_neg (by decide)];cases e;exact q H1 h1
theorem EQ {K:PySem.W.Frag}{f g:FT}{σ:St}{H:Hp}{Q:Bool->Hp->Prop}(h:tDT K (gI f g) σ H Q):tOr (tDT K f) (tDT K g) σ H Q:=by
 obtain⟨B,ρ,c,s,r,e,q⟩:=h;unfold gI at e;cases ef:f ρ with
 |none=>rw[ef]at e;cases e
 |some k=>
  rw[ef]at e;refine⟨B,ρ,k,s,r,ef,λH1 h1=>?_⟩;cases k with
  |false=>rw[if_neg (by decide)];exact⟨B,ρ,c,s.trans h1,r,e,λH2 h2=>q H2 (h1.trans h2)⟩
  |true=>rw[if_pos rfl];cases e;exact q H1 h1
theorem Cs {K:PySem.W.Frag}{f:FT}{σ:St}{H:Hp}{Q:Bool->Hp->Prop}(h:tDT K (di f) σ H Q):FZ (tDT K f) σ H Q:=by
 obtain⟨B,ρ,c,s,r,e,q⟩:=h;obtain⟨k,ek,e⟩:=oY e;subst e;exact⟨B,ρ,k,s,r,ek,λH1 h1=>q H1 h1⟩
variable {ay:List Expr}
theorem fw {f:FT}(ha:JT X a f):JW X (.BoolOp .And [a] pos) f:=BI ha
theorem ir {f:FT}(ha:JT X a f):JW X (.BoolOp .Or [a] pos) f:=En ha
theorem gK {f g:FT}(ha:JT X a f)(hb:JW X (.BoolOp .And (b::ay) pos) g):JW X (.BoolOp .And (a::b::ay) pos) (d7 f g):=PW.to (Eo ha hb) λ_ _ _ h=>Cr h
theorem ja {f g:FT}(ha:JT X a f)(hb:JW X (.BoolOp .Or (b::ay) pos) g):JW X (.BoolOp .Or (a::b::ay) pos) (gI f g):=PW.to (Ga ha hb) λ_ _ _ h=>EQ h
theorem iu {f:FT}(h:JW X e f):JT X e f:=h.pt
theorem dF {f:FT}(ha:JT X a f):JT X (.UnaryOp .Not a pos) (di f):=PT.to (Ep ha) λ_ _ _ h=>Cs h
@[simp] noncomputable def jl (f g:FE):FE:=λρ=>match f ρ with|some (.bl true,_)=>g ρ|some (.bl false,_)=>some (.bl false,false)|_=>none
@[simp] noncomputable def fOr (f g:FE):FE:=λρ=>match f ρ with|some (.bl true,_)=>some (.bl true,false)|some (.bl false,_)=>g ρ|_=>none
@[simp] noncomputable def Ir (f:FE):FE:=λρ=>match f ρ with|some (.bl c,_)=>some (.bl (!c),false)|_=>none
theorem gc {f g:FE}(ha:JE X a f)(hb:JE X (.BoolOp .And (b::ay) pos) g):JE X (.BoolOp .And (a::b::ay) pos) (jl f g):=PE.to (Es ha hb) λσ H Q h=>by
 obtain⟨B,ρ,d,k,s,r,e,q⟩:=h;unfold jl at e;split at e
 ·rename_i b' ef;refine⟨B,ρ,_,_,s,r,ef,λv H1 N1 x1 i1 _=>?_⟩;cases i1
  refine⟨true,rfl,?_⟩;rw[if_pos rfl];exact⟨N1,ρ,d,k,x1.nh,r.mono x1.bn,e,q.into x1⟩
 ·rename_i b' ef;cases e
  refine⟨B,ρ,_,_,s,r,ef,λv H1 N1 x1 i1 _=>?_⟩;cases i1
  refine⟨false,rfl,?_⟩;rw[if_neg (by decide)];exact(q.into x1).one x1.nh (.bl false)
 ·cases e
theorem D7 {f g:FE}(ha:JE X a f)(hb:JE X (.BoolOp .Or (b::ay) pos) g):JE X (.BoolOp .Or (a::b::ay) pos) (fOr f g):=PE.to (Gc ha hb) λσ H Q h=>by
 obtain⟨B,ρ,d,k,s,r,e,q⟩:=h;unfold fOr at e;split at e
 ·rename_i b' ef;cases e
  refine⟨B,ρ,_,_,s,r,ef,λv H1 N1 x1 i1 _=>?_⟩;cases i1
  refine⟨true,rfl,?_⟩;rw[if_pos rfl];exact(q.into x1).one x1.nh (.bl true)
 ·rename_i b' ef;refine⟨B,ρ,_,_,s,r,ef,λv H1 N1 x1 i1 _=>?_⟩;cases i1
  refine⟨false,rfl,?_⟩;rw[if_neg (by decide)];exact⟨N1,ρ,d,k,x1.nh,r.mono x1.bn,e,q.into x1⟩
 ·cases e
theorem fE {op:BoolOp}{f:FE}(h:JE X a f):JE X (.BoolOp op [a] pos) f:=Er h
variable {es:List Expr}
theorem af:JA X [] ag:=PA.to ig λ_ _ _ h=>Ch h
theorem aa {f:FE}{g:FA}(ha:JE X e f)(hr:JA X es g)(hs:starEach (e::es) X.env=(false,eval e X.env)::starEach es X.env:=by rfl):JA X (e::es) (ab f g):=PA.to (fS ha hr hs) λ_ _ _ h=>zK h
@[simp] noncomputable def aL:List D->Option (D×Bool):=λds=>if ds.length<=sizeLine then some (.tup ds,false)else none
@[simp] noncomputable def br:List D->Option (D×Bool):=λds=>if ds.length<=sizeLine then some (.lst ds,true)else none
theorem aK {x1}{f:FA}(h:JA X es f):JE X (.Tuple es x1 pos) (fA aL f):=PE.to (uP h) λσ H Q q=>by
 obtain⟨B,ρ,ds,s,r,e,k⟩:=Cg q;refine⟨B,ρ,ds,s,r,e,λvs H1 N1 x1 i1=>?_⟩;obtain⟨B2,ds2,d,b,s2,i2,e2,k2⟩:=k vs H1 N1 x1 i1;unfold aL at e2;split at e2
 ·rename_i hz;cases e2
  refine⟨by rw[i2.length];exact hz,λp hp=>k2 _ _ (upd B2 p (.tup vs)) (.laid s2 hp) (.tup (SqT.of aD) (i2.mono (Ext.laid s2 hp).bn)) (by simp)⟩
 ·cases e2
theorem bo {f:FA}(h:JA X es f):JE X (.List es pos) (fA br f):=PE.to (EB h) λσ H Q q=>by
 obtain⟨B,ρ,ds,s,r,e,k⟩:=Cg q;refine⟨B,ρ,ds,s,r,e,λvs H1 N1 x1 i1=>?_⟩;obtain⟨B2,ds2,d,b,s2,i2,e2,k2⟩:=k vs H1 N1 x1 i1;unfold br at e2;split at e2
 ·rename_i hz;cases e2
  refine⟨by rw[i2.length];exact hz,λp hp=>k2 _ _ (upd B2 p (.lst vs)) (.laid s2 hp) (.lst (SqL.of aD) (i2.mono (Ext.laid s2 hp).bn)) λ_=>⟨p,vs,ds2,rfl,rfl,hp,aD,i2.mono (Ext.laid s2 hp).bn⟩⟩
 ·cases e2
end
section
variable {X:Cx}
theorem gd {f:Value->Value->Sem Value}{r r':R2}(h:OpR X f r)(k:∀x y H Q,r' x y H Q->r x y H Q):OpR X f r':=λpins s σ H x y v u Q I rx ry q=>h pins s σ H x y v u Q I rx ry (k x y H Q q)
noncomputable def orD (f g:D->D->Option (D×Bool)):D->D->Option (D×Bool):=λx y=>match f x y with|some r=>some r|none=>g x y
theorem k7 {s:Value->Value->Sem Value}{f g:D->D->Option (D×Bool)}(h:OpR X s (rD X.K f))(h':OpR X s (rD X.K g)):OpR X s (rD X.K (orD f g)):=by
 intro pins st σ H x y v u Q I rx ry q;obtain⟨B,dx,dy,d,b,sB,ix,iy,e,q⟩:=q;unfold orD at e;split at e
 ·rename_i r ef;cases e
  exact h pins st σ H x y v u Q I rx ry ⟨B,dx,dy,_,_,sB,ix,iy,ef,q⟩
 ·exact h' pins st σ H x y v u Q I rx ry ⟨B,dx,dy,_,_,sB,ix,iy,e,q⟩
@[simp] noncomputable def iop (C:Int->Int->Bool)(g:Int->Int->D):D->D->Option (D×Bool)
 |.int i,.int j=>if C i j=true then some (g i j,false)else none
 |_,_=>none
theorem lL {s:Value->Value->Sem Value}{C:Int->Int->Prop}{C':Int->Int->Bool}{g:Int->Int->V}{g':Int->Int->D}(h:OpR X s (rI C g))(hC:∀i j,C' i j=true->C i j)(hg:∀i j B,Is X.K B (g i j) (g' i j)):OpR X s (rD X.K (iop C' g')):=by
 refine gd h λx y H Q q=>?_;obtain⟨B,dx,dy,d,b,sB,ix,iy,e,q⟩:=q;cases ix<;>cases iy<;>try (simp[iop]at e;done)
 rename_i i j;simp only[iop]at e;split at e
 ·rename_i hc;cases e
  exact⟨i,j,rfl,rfl,hC i j hc,q.one sB (hg i j B)⟩
 ·cases e
theorem fF {s:Value->Value->Sem Value}{g:Int->Int->V}{g':Int->Int->D}(h:OpR X s (rI0 g))(hg:∀i j B,Is X.K B (g i j) (g' i j)):OpR X s (rD X.K (iop (λ_ _=>true) g')):=by
 refine gd h λx y H Q q=>?_;obtain⟨B,dx,dy,d,b,sB,ix,iy,e,q⟩:=q;cases ix<;>cases iy<;>try (simp[iop]at e;done)
 rename_i i j;simp only[iop,if_true]at e;cases e
 exact⟨i,j,rfl,rfl,q.one sB (hg i j B)⟩
noncomputable abbrev ER:D->D->Option (D×Bool):=iop (λ_ _=>true) λi j=>.int (i+j)
noncomputable abbrev vc:D->D->Option (D×Bool):=iop (λ_ _=>true) λi j=>.int (i - j)
noncomputable abbrev ES:D->D->Option (D×Bool):=iop (λi j=>decide ((-18446744073709551616<i/\i<18446744073709551616)∨(-18446744073709551616<j/\j<18446744073709551616))) λi j=>.int (i*j)
noncomputable abbrev bY:D->D->Option (D×Bool):=iop (λ_ j=>decide (0<j/\j<1073741824)) λi j=>.int (i / j)
noncomputable abbrev bi:D->D->Option (D×Bool):=iop (λ_ j=>decide (0<j)) λi j=>.int (i % j)
noncomputable abbrev ET:D->D->Option (D×Bool):=iop (λ_ j=>decide (0<=j)) λi j=>.int (i / 2 ^ j.toNat)
noncomputable abbrev Ct:D->D->Option (D×Bool):=iop (λ_ _=>true) λi j=>.int (Builtin.bitAnd i j)
noncomputable abbrev iLt:D->D->Option (D×Bool):=iop (λ_ _=>true) λi j=>.bl (decide (i<j))
noncomputable abbrev iLe:D->D->Option (D×Bool):=iop (λ_ _=>true) λi j=>.bl (decide (i<=j))
noncomputable abbrev iGt:D->D->Option (D×Bool):=iop (λ_ _=>true) λi j=>.bl (decide (j<i))
noncomputable abbrev iGe:D->D->Option (D×Bool):=iop (λ_ _=>true) λi j=>.bl (decide (j<=i))
theorem GB:OpR X (binaryOp .Add) (rD X.K ER):=fF E3 λ_ _ _=>.int _
theorem zV:OpR X (binaryOp .Sub) (rD X.K vc):=fF E4 λ_ _ _=>.int _
theorem GC:OpR X (binaryOp .Mult) (rD X.K ES):=lL E5 (λi j h=>by have h:=of_decide_eq_true h;unfold BO;omega) λ_ _ _=>.int _
theorem bp:OpR X (binaryOp .FloorDiv) (rD X.K bY):=lL BP (λi j h=>by have h:=of_decide_eq_true h;unfold Go;omega) λ_ _ _=>.int _
theorem bj:OpR X (binaryOp .Mod) (rD X.K bi):=lL E6 (λ_ _ h=>of_decide_eq_true h) λ_ _ _=>.int _
theorem D8:OpR X (binaryOp .RShift) (rD X.K ET):=lL E7 (λ_ _ h=>of_decide_eq_true h) λ_ _ _=>.int _
theorem zW:OpR X (binaryOp .BitAnd) (rD X.K Ct):=fF E8 λ_ _ _=>.int _
theorem HM:OpR X (compareOp .Lt) (rD X.K iLt):=fF Gp λ_ _ _=>.bl _
theorem HN:OpR X (compareOp .LtE) (rD X.K iLe):=fF Gq λ_ _ _=>.bl _
theorem Cu:OpR X (compareOp .Gt) (rD X.K iGt):=fF Gr λ_ _ _=>.bl _
theorem HP:OpR X (compareOp .GtE) (rD X.K iGe):=fF Gs λ_ _ _=>.bl _
@[simp] noncomputable def sop (C:Str->Str->Bool)(g:Str->Str->D):D->D->Option (D×Bool)
 |.str i,.str j=>if C i j=true then some (g i j,false)else none
 |_,_=>none
noncomputable abbrev zX:D->D->Option (D×Bool):=sop (λi j=>decide (i.length+j.length<=sizeLine)) λi j=>.str (i++j)
noncomputable abbrev sLe:D->D->Option (D×Bool):=sop (λ_ _=>true) λi j=>.bl (!decide (j.cps.toList<i.cps.toList))
theorem EU:OpR X (binaryOp .Add) (rD X.K zX):=by
 refine gd uN λx y H Q q=>?_;obtain⟨B,dx,dy,d,b,sB,ix,iy,e,q⟩:=q;cases ix<;>cases iy<;>try (simp[zX,sop]at e;done)
 rename_i i j;simp only[zX,sop]at e;split at e
 ·rename_i hc;cases e
  exact⟨i,j,rfl,rfl,of_decide_eq_true hc,q.one sB (.str _)⟩
 ·cases e
theorem GD:OpR X (compareOp .LtE) (rD X.K sLe):=by
 intro pins s σ H x y v u Q I rx ry q;obtain⟨B,dx,dy,d,b,sB,ix,iy,e,q⟩:=q;cases ix<;>cases iy<;>try (simp[sLe,sop]at e;done)
 rename_i i j;simp only[sLe,sop,if_true]at e;cases e
 obtain⟨t,rfl⟩:=rx;obtain⟨t',rfl⟩:=ry;exact PySem.P.le_str ⟨.bl _,H,I,rfl,q.one sB (.bl _)⟩
end
section
variable {X:Cx}{a b c e:Expr}{pos:Pos}{st:Stmt}{ay:List Stmt}
theorem aT:JSs X [] aZ:=PSs.to BJ λ_ _ _ h=>zM h
theorem ak {g h:FS}(h1:JS X st g)(h2:JSs X ay h):JSs X (st::ay) (a9 g h):=PSs.to (zp h1 h2) λ_ _ _ q=>Ci q
theorem ao {g:FS}(h1:JS X st g):JSs X [st] g:=BK h1
theorem bd {c:Expr}{a b:List Stmt}{fc:FT}{g h:FS}(hc:JT X c fc)(ha:JSs X a g)(hb:JSs X b h):JS X (.If c a b pos) (gIf fc g h):=PS.to (Gh hc ha hb) λ_ _ _ q=>EN q
theorem a7 {f:FE}(he:JE X e f):JS X (.Return (some e) pos) (aU f):=PS.to (zq he) λ_ _ _ q=>Cj q
theorem qy (i:Nat){x:Str}{p:Pos}(hN:X.N[i]? = some x:=by rfl)(hv:Vis X.env.scope x:=by first|exact Or.inl rfl|exact Or.inr (Or.inl rfl)|exact Or.inr (Or.inr rfl))(hd:(x == ("__debug__" : Str))=false:=by decide)
  (hcd:(x == ("__classdict__" : Str))=false:=by decide):JS X (.Return (some (.Name x p)) pos) (kY i):=PS.to (zq (lT hN hv hd hcd)) λ_ _ _ q=>zN q
theorem aE {i:Nat}{x:Str}{p:Pos}{f:FE}(hN:X.N.Nodup)(he:JE X e f)(hi:X.N[i]? = some x:=by rfl)(hx:Loc X.env.scope x:=by first|exact Or.inl rfl|exact Or.inr rfl)(hs:swapsWith e (some (.Name x p)) pos.line X.env=pure false:=by rfl)
  (hf:X.fn x=true∨X.env.scope.names.lookup x=some .local:=by first|exact .inl rfl|exact .inr rfl):JS X (.Assign [.Name x p] e pos) (aP i f):=PS.to (uJ hN hi hx he hs hf) λ_ _ _ q=>ww q
theorem Cv {i:Nat}{x:Str}{p:Pos}{f:FE}(hN:X.N.Nodup)(he:JE X e f)(hi:X.N[i]? = some x:=by rfl)(hx:Loc X.env.scope x:=by first|exact Or.inl rfl|exact Or.inr rfl)(hs:swapsWith e (some (.Name x p)) pos.line X.env=pure false:=by rfl)
  (hf:X.fn x=true∨X.env.scope.names.lookup x=some .local:=by first|exact .inl rfl|exact .inr rfl):JS X (.Assign [.Name x p] e pos) (rX i f):=PS.to (uJ hN hi hx he hs hf) λ_ _ _ q=>zO q
theorem EV {tg iter:Expr}{body:List Stmt}{fi:FA}{tgF:FG}{t:TG}{g:FS}(hp:PassesOwn (model X.prog X.w) X.A X.env X.xe)(hc:X.calm=true)(hi:JI X tg iter fi)(hg:PG X tg t)(ht:tDG X.K tgF t)(hb:JSs X body g)
  (hs:∀x,foldedSetIterable iter X.env x=pure x:=by intro _;rfl):JS X (.For tg iter body [] pos) (o3 fi tgF g):=PS.to (zv hp hc hi hg hb hs) λ_ _ _ q=>Cm ht q
theorem Cw {tg iter:Expr}{body:List Stmt}{fi:FA}{tgF:FG}{t:TG}{g:FS}(hp:PassesOwn (model X.prog X.w) X.A X.env X.xe)(hc:X.calm=true)(hi:PI X tg iter (tDR X.K fi))(hg:PG X tg t)(ht:tDG X.K tgF t)(hb:JSs X body g)
  (hs:∀x,foldedSetIterable iter X.env x=pure x:=by intro _;rfl):JS X (.For tg iter body [] pos) (j7 fi tgF g):=PS.to (zv hp hc hi hg hb hs) λ_ _ _ q=>zR ht q
theorem fm {i:Nat}{x:Str}{p apos cpos:Pos}{f:FE}(he:JE X e f)(hN:X.N[i]? = some x:=by rfl)(hv:Vis X.env.scope x:=by first|exact Or.inl rfl|exact Or.inr (Or.inl rfl)|exact Or.inr (Or.inr rfl))(hd:(x == ("__debug__" : Str))=false:=by decide)
  (hcd:(x == ("__classdict__" : Str))=false:=by decide)
  (hbase:attributeBase (.Name x p) "append" X.env (eval (.Name x p) X.env)=eval (.Name x p) X.env:=by rfl)
  (hfew:((backTo cpos (starEach [e] X.env)).all (λx=>!x.1) && (backToKw cpos (keywordEach [] X.env)).all (λx=>x.1.isSome)
   && decide ([e].length+([]:List Keyword).length+(if([]:List Keyword).isEmpty then 0 else 1)<30))=true:=by rfl)
  (hline:(apos.endLine == cpos.line)=true:=by rfl) (hs:starEach [e] X.env=[(false,eval e X.env)]:=by rfl) (hsw:swapsWith (.Call (.Attribute (.Name x p) "append" apos) [e] [] cpos) none pos.line X.env=pure false:=by rfl):
  JS X (.Expr (.Call (.Attribute (.Name x p) "append" apos) [e] [] cpos) pos) (gJ i f):=by
 refine PS.to (BL (zB PySem.F.plainAttrs_list PySem.F.slot_list_append PySem.F.type_list_append oU (lT hN hv hd hcd) (fS he ig hs) hbase hfew hline hs rfl) hsw) λE σ H q=>?_;obtain⟨a,us,h1,h2,k⟩:=Ck q;exact⟨_,h1,.inl ⟨rfl,us,SqL.of h2⟩,k⟩
end
@[simp] noncomputable def aN (g:FS)(n k:Nat):List D->Option (D×Bool):=λds=>if ds.length=n then
 match g (ds.map (λd=>some (d,false))++List.replicate k none) with
 |some (.rt d b)=>some (d,b)
 |some (.nx _)=>some (.non,false)
 |_=>none
 else none
def spD (K:PySem.W.Frag)(f:List D->Option (D×Bool)):Sp:=λvs H Q _=>∃(B:Hp)(ds:List D)(d:D)(b:Bool),(aO B H/\Tb K B)/\IsL K B vs ds/\f ds=some (d,b)/\Fin K B H d b Q
theorem rZ {K:PySem.W.Frag}{B H:Hp}{vs:List V}{ds:List D}{N:List Str}(sB:aO B H)(tb:Tb K B)(i:IsL K B vs ds):StN K B H B H (L2.hX N vs) (ds.map (λd=>some (d,false))++List.replicate (N.length - vs.length) none):=by
 have nf:∀(j:Nat)(d:D)(b:Bool),(ds.map (λd=>some (d,false))++List.replicate (N.length - vs.length) none:Env)[j]? = some (some (d,b))->b=false/\ds[j]? = some d:=λj d b e=>by
  by_cases hj:j<ds.length
  ·rw[List.getElem?_append_left (by simpa using hj),List.getElem?_map]at e;obtain⟨d',h1,h2⟩:=oY e;cases h2
   exact⟨rfl,h1⟩
  ·rw[List.getElem?_append_right (by simpa using Nat.not_lt.mp hj),List.getElem?_replicate]at e;split at e<;>cases e
 have no:∀a,¬own (L2.hX N vs) (ds.map (λd=>some (d,false))++List.replicate (N.length - vs.length) none) a:=λa ⟨j,d,h,_⟩=>by
  obtain⟨z,_⟩:=nf j d true h;cases z
 refine⟨sB,tb,.refl sB,?_,λj d e=>?_,λj d e=>?_,λj k a d e h=>?_⟩
 ·unfold L2.hX;rw[List.length_append,List.length_append,List.length_map,List.length_map,List.length_replicate,List.length_replicate,i.length]
 ·obtain⟨_,e1⟩:=nf j d false e;obtain⟨v,h1,h2⟩:=i.get e1;refine⟨v,?_,h2.mono λa o e=>by rw[cr (no a)];exact e⟩;unfold L2.hX;have hj:j<vs.length:=(List.getElem?_eq_some_iff.mp h1).1;rw[List.getElem?_append_left (by simpa using hj),List.getElem?_map,h1]<;>rfl
 ·obtain⟨z,_⟩:=nf j d true e;cases z
 ·obtain⟨z,_⟩:=nf j d true h;cases z
section
variable {P:Program}{w:World}{K:PySem.W.Frag}{mg:Str->Option Value}{base:Heap}
theorem GE {x qual:Str}{st:Stmt}{f:Addr}{fd:FuncData}{N ps:List Str}{k:Nat}{g:FS}(F:Fun K x qual st f fd)(S:FnScope N ps (aM st))
  (hb:∀(cdv:Value)(A:Around)(outer:List PySem.Env)(s:Shared)(H:Hp)(E:XK),Room k (A.deeper (envOfC qual (aM st) s.heap.objs.size f cdv))->JSs (lB CX0 P w K mg base N qual (aM st) f cdv A outer s H E).nox (cf st) g):
  FnOk P w K mg base CX0 (k+1) f fd ps (spD K (aN g ps.length (N.length - ps.length))):=by
 have len:∀vs H Q E,spD K (aN g ps.length (N.length - ps.length)) vs H Q E->vs.length=ps.length:=λvs H Q E h=>by
  obtain⟨B,ds,d,b,sB,i,e,q⟩:=h;unfold aN at e;split at e
  ·rename_i hl;rw[i.length];exact hl
  ·cases e
 refine F.ok S len λcdv A outer s H vs Q E hr h=>⟨_,hb cdv A outer s H E hr,?_⟩;have hlen:=len vs H Q E h;obtain⟨B,ds,d,b,sB,i,e,q⟩:=h;unfold aN at e;rw[if_pos (by rw[←i.length];exact hlen)]at e;have s0:=rZ (N:=N) sB.1 sB.2 i;rw[hlen]at s0;split at e
 ·rename_i d' b' eg;cases e
  exact⟨B,H,_,_,⟨B,s0⟩,eg,λv H' N' x' i' f'=>q v H' N' x' i' f'⟩
 ·rename_i ρ' eg;cases e
  exact⟨B,H,_,_,⟨B,s0⟩,eg,λσ' H' ⟨N',s'⟩=>q .non H' N' s'.ext .non (by simp)⟩
 ·cases e
structure Fn (P:Program)(w:World)(K:PySem.W.Frag)(mg:Str->Option Value)(base:Heap)(k:Nat)(x:Str)(f:List D->Option (D×Bool)):Prop where
 ex:∃(ad:Addr)(fd:FuncData)(ps:List Str),FnOk P w K mg base CX0 k ad fd ps (spD K f)/\mg x=some (.ref ad)/\PySem.W.keepIn K (.ref ad)=true/\oK K fd ps []
end
theorem Cy {X:Cx}{k:Nat}{x:Str}{f:List D->Option (D×Bool)}{fa:FA}{e:Expr}{es:List Expr}{p pos:Pos}(F:Fn X.prog X.w X.K X.mg X.base k x f)(hr:Room k X.A)(ha:JA X (e::es) fa)(hg:Gl X x:=by rfl)
  (hdb:(x == ("__debug__" : Str))=false:=by decide) (he:starEach (e::es) X.env=(false,eval e X.env)::starEach es X.env:=by rfl) (hpl:(backTo pos (starEach es X.env)).any (·.1)=false:=by rfl):
  JE X (.Call (.Name x p) (e::es) [] pos) (fA f fa):=by
 obtain⟨ad,fd,ps,F1,hm,hk,hb⟩:=F.ex;refine PE.to (BS F1 hr hg hm hk hb .nil G3 ha hdb he hpl) λσ H Q q=>?_;obtain⟨B,ρ,d,b,s,r,e,q⟩:=q;obtain⟨ds,ex,e⟩:=oX e;exact⟨B,ρ,ds,s,r,ex,λvs H1 N1 x1 i1=>by
  show spD X.K f (vs++[]) H1 Q _;rw[List.append_nil];exact⟨N1,ds,d,b,⟨x1.nh,r.tb.mono x1.bn⟩,i1,e,q.into x1⟩⟩
mutual
noncomputable def eqD:D->D->Bool
 |.non,.non=>true
 |.bl a,.bl b=>a == b
 |.bl a,.int b=>decide ((if a then 1 else 0)=b)
 |.int a,.bl b=>decide (a=(if b then 1 else 0))
 |.int a,.int b=>decide (a=b)
 |.str a,.str b=>decide (a=b)
 |.tup xs,.tup ys=>cB xs ys
 |.lst xs,.lst ys=>cB xs ys
 |_,_=>false
noncomputable def cB:List D->List D->Bool
 |[],[]=>true
 |x::xs,y::ys=>eqD x y && cB xs ys
 |_,_=>false
end
@[simp] theorem sd:eqD .non .non=true:=by simp only[eqD]
@[simp] theorem ve (b:Bool):eqD .non (.bl b)=false:=by simp only[eqD]
@[simp] theorem se (b:Int):eqD .non (.int b)=false:=by simp only[eqD]
@[simp] theorem sg (b:Str):eqD .non (.str b)=false:=by simp only[eqD]
@[simp] theorem D9 (b:List D):eqD .non (.tup b)=false:=by simp only[eqD]
@[simp] theorem DA (b:List D):eqD .non (.lst b)=false:=by simp only[eqD]
@[simp] theorem vg (a:Bool):eqD (.bl a) .non=false:=by simp only[eqD]
@[simp] theorem yt (a:Bool)(b:Bool):eqD (.bl a) (.bl b)=(a == b):=by simp only[eqD]
@[simp] theorem vh (a:Bool)(b:Int):eqD (.bl a) (.int b)=decide ((if a then 1 else 0)=b):=by simp only[eqD]
@[simp] theorem vi (a:Bool)(b:Str):eqD (.bl a) (.str b)=false:=by simp only[eqD]
@[simp] theorem EW (a:Bool)(b:List D):eqD (.bl a) (.tup b)=false:=by simp only[eqD]
@[simp] theorem EX (a:Bool)(b:List D):eqD (.bl a) (.lst b)=false:=by simp only[eqD]
@[simp] theorem si (a:Int):eqD (.int a) .non=false:=by simp only[eqD]
@[simp] theorem vj (a:Int)(b:Bool):eqD (.int a) (.bl b)=decide (a=(if b then 1 else 0)):=by simp only[eqD]
@[simp] theorem sj (a:Int)(b:Int):eqD (.int a) (.int b)=decide (a=b):=by simp only[eqD]
@[simp] theorem sk (a:Int)(b:Str):eqD (.int a) (.str b)=false:=by simp only[eqD]
@[simp] theorem DB (a:Int)(b:List D):eqD (.int a) (.tup b)=false:=by simp only[eqD]
@[simp] theorem DC (a:Int)(b:List D):eqD (.int a) (.lst b)=false:=by simp only[eqD]
@[simp] theorem sn (a:Str):eqD (.str a) .non=false:=by simp only[eqD]
@[simp] theorem vk (a:Str)(b:Bool):eqD (.str a) (.bl b)=false:=by simp only[eqD]
@[simp] theorem sq (a:Str)(b:Int):eqD (.str a) (.int b)=false:=by simp only[eqD]
@[simp] theorem kZ (a:Str)(b:Str):eqD (.str a) (.str b)=decide (a=b):=by simp only[eqD]
@[simp] theorem DD (a:Str)(b:List D):eqD (.str a) (.tup b)=false:=by simp only[eqD]
@[simp] theorem DE (a:Str)(b:List D):eqD (.str a) (.lst b)=false:=by simp only[eqD]
@[simp] theorem DF (a:List D):eqD (.tup a) .non=false:=by simp only[eqD]
@[simp] theorem EY (a:List D)(b:Bool):eqD (.tup a) (.bl b)=false:=by simp only[eqD]
@[simp] theorem DG (a:List D)(b:Int):eqD (.tup a) (.int b)=false:=by simp only[eqD]
@[simp] theorem DH (a:List D)(b:Str):eqD (.tup a) (.str b)=false:=by simp only[eqD]
@[simp] theorem DI (a:List D)(b:List D):eqD (.tup a) (.tup b)=cB a b:=by simp only[eqD]
@[simp] theorem DJ (a:List D)(b:List D):eqD (.tup a) (.lst b)=false:=by simp only[eqD]
@[simp] theorem DK (a:List D):eqD (.lst a) .non=false:=by simp only[eqD]
@[simp] theorem EZ (a:List D)(b:Bool):eqD (.lst a) (.bl b)=false:=by simp only[eqD]
@[simp] theorem DM (a:List D)(b:Int):eqD (.lst a) (.int b)=false:=by simp only[eqD]
@[simp] theorem DN (a:List D)(b:Str):eqD (.lst a) (.str b)=false:=by simp only[eqD]
@[simp] theorem DO (a:List D)(b:List D):eqD (.lst a) (.tup b)=false:=by simp only[eqD]
@[simp] theorem DP (a:List D)(b:List D):eqD (.lst a) (.lst b)=cB a b:=by simp only[eqD]
@[simp] theorem GF:cB [] []=true:=by rw[cB]
@[simp] theorem FM (x y:D)(xs ys:List D):cB (x::xs) (y::ys)=(eqD x y && cB xs ys):=by rw[cB]
@[simp] theorem Hn (y:D)(ys:List D):cB [] (y::ys)=false:=by simp only[cB]
@[simp] theorem Ho (x:D)(xs:List D):cB (x::xs) []=false:=by simp only[cB]
noncomputable def ai:Nat->D->Bool
 |_,.non=>true
 |_,.bl _=>true
 |_,.int _=>true
 |_,.str _=>true
 |_,.ty _=>false
 |_,.dk _ _=>false
 |_,.dt _ _=>false
 |0,.tup _=>false
 |0,.lst _=>false
 |n+1,.tup ds=>ds.all (ai n)
 |n+1,.lst ds=>ds.all (ai n)
@[simp] theorem Fa (n:Nat):ai n .non=true:=by cases n<;>simp only[ai]
@[simp] theorem FN (n:Nat)(a:Bool):ai n (.bl a)=true:=by cases n<;>simp only[ai]
@[simp] theorem Fb (n:Nat)(a:Int):ai n (.int a)=true:=by cases n<;>simp only[ai]
@[simp] theorem Fc (n:Nat)(a:Str):ai n (.str a)=true:=by cases n<;>simp only[ai]
@[simp] theorem FP (n:Nat)(ks:List Key)(vs:List D):ai n (.dk ks vs)=false:=by cases n<;>simp only[ai]
@[simp] theorem FQ (n:Nat)(ks:List (List Key))(vs:List D):ai n (.dt ks vs)=false:=by cases n<;>simp only[ai]
@[simp] theorem Fd (n:Nat)(ds:List D):ai (n+1) (.tup ds)=ds.all (ai n):=by simp only[ai]
@[simp] theorem Fe (n:Nat)(ds:List D):ai (n+1) (.lst ds)=ds.all (ai n):=by simp only[ai]
theorem su:∀ {xs ys:List D},cB xs ys=true->xs.length=ys.length
 |[],[],_=>rfl
 |x::xs,y::ys,h=>by
  simp only[cB,Bool.and_eq_true]at h;rw[List.length_cons,List.length_cons,su h.2]
 |[],_::_,h=>by simp[cB]at h
 |_::_,[],h=>by simp[cB]at h
theorem qz {xs ys:List D}(h:xs.length≠ys.length):cB xs ys=false:=by
 cases e:cB xs ys with
 |false=>rfl
 |true=>exact absurd (su e) h
theorem gL (f:Nat->Bool):∀ {xs ys:List D},xs.length=ys.length->(∀(j:Nat) x y,xs[j]? = some x->ys[j]? = some y->f j=eqD x y)->(List.range xs.length).all f=cB xs ys
 |[],[],_,_=>by simp[cB]
 |x::xs,y::ys,hl,h=>by
  have e:=gL (λj=>f (j+1)) (xs:=xs) (ys:=ys) (by simpa using hl) λj a b h1 h2=>h (j+1) a b (by simpa using h1) (by simpa using h2);rw[List.length_cons,List.range_succ_eq_map,List.all_cons,List.all_map,cB,←h 0 x y rfl rfl,←e];rfl
 |[],_::_,hl,_=>by simp at hl
 |_::_,[],hl,_=>by simp at hl
section
variable {X:Cx}{pins:List (Addr×Obj)}{σ:St}{H:Hp}{s:Shared}
theorem wy (I:Inv X pins σ H s){a:Addr}{vs ws:List V}(h1:SqT X.K H a vs)(h2:SqL X.K H a ws):False:=by
 obtain⟨its,_,⟨o,e,c,_⟩,_⟩:=I.tuple h1;obtain⟨its',_,⟨o',n',e',c',_⟩,_⟩:=I.list h2;rw[e]at e';cases e';rw[c]at c';injection c' with z;exact absurd z (by decide)
theorem wz (I:Inv X pins σ H s){a:Addr}{o:Obj}{its:Array Value}{n:Nat}(e:s.heap.get? a=some o)(d:o.data=.seq its n):(∀kvs ob,H a≠some (.dK kvs ob))/\∀kvs,H a≠some (.dT kvs):=by
 refine⟨λkvs ob h=>?_,λkvs h=>?_⟩
 ·obtain⟨_,_,_,_,_,o',es,ep,e',_,d',_⟩:=(show b8 X.prog X.w H s.heap a (.dK kvs ob)from I.hok a _ h);rw[e]at e';cases e';rw[d]at d';cases d'
 ·obtain⟨_,_,_,_,o',es,ep,e',_,d',_⟩:=(show b8 X.prog X.w H s.heap a (.dT kvs)from I.hok a _ h);rw[e]at e';cases e';rw[d]at d';cases d'
theorem sv (I:Inv X pins σ H s){a:Addr}{vs:List V}(h1:SqT X.K H a vs):(∀kvs ob,H a≠some (.dK kvs ob))/\∀kvs,H a≠some (.dT kvs):=by
 obtain⟨its,_,⟨o,e,c,n,d⟩,_⟩:=I.tuple h1;exact wz I e d
theorem sw (I:Inv X pins σ H s){a:Addr}{vs:List V}(h1:SqL X.K H a vs):(∀kvs ob,H a≠some (.dK kvs ob))/\∀kvs,H a≠some (.dT kvs):=by
 obtain⟨its,_,p,_⟩:=I.list h1;obtain⟨o,e,c,n,d⟩:=p.isList;exact wz I e d
theorem w4 (I:Inv X pins σ H s):∀(n:Nat){v:V}{d d':D},Is X.K H v d->Is X.K H v d'->ai n d=true->eqD d d'=true:=by
 have lists:∀ {p:D->Bool}(ih:∀ {v:V}{d d':D},Is X.K H v d->Is X.K H v d'->p d=true->eqD d d'=true) {vs:List V}{ds ds':List D},IsL X.K H vs ds->IsL X.K H vs ds'->ds.all p=true->cB ds ds'=true:=by
  intro p ih vs;induction vs with
  |nil=>intro ds ds' h h' _;cases h;cases h';simp[cB]
  |cons v vs ihv=>
   intro ds ds' h h' hp;cases h with
   |cons h1 h2=>
    cases h' with
    |cons h3 h4=>
     rw[List.all_cons,Bool.and_eq_true]at hp;rw[cB,ih h1 h3 hp.1,ihv h2 h4 hp.2];rfl
 intro n;induction n with
 |zero=>
  intro v d d' h h' hp;cases h<;>cases h'<;>first|(simp[ai]at hp;done)|simp[eqD]
 |succ n ih=>
  intro v d d' h h' hp;cases h with
  |tup h1 h2=>
   cases h' with
   |tup h3 h4=>
    rw[I.tuple_inj h3 h1]at h4;rw[eqD];exact lists ih h2 h4 (by simpa [ai]using hp)
   |lst h3 h4=>exact(wy I h1 h3).elim
   |dk h3 _ _=>exact((sv I h1).1 _ _ h3).elim
   |dt h3 _ _=>exact((sv I h1).2 _ h3).elim
  |lst h1 h2=>
   cases h' with
   |lst h3 h4=>
    rw[I.list_inj h3 h1]at h4;rw[eqD];exact lists ih h2 h4 (by simpa [ai]using hp)
   |tup h3 h4=>exact(wy I h3 h1).elim
   |dk h3 _ _=>exact((sw I h1).1 _ _ h3).elim
   |dt h3 _ _=>exact((sw I h1).2 _ h3).elim
  |ty=>simp[ai]at hp
  |dk=>simp[ai]at hp
  |dt=>simp[ai]at hp
  |_=>cases h'<;>simp[eqD]
theorem DQ {α:Type}{p:α->Bool}{l:List α}{j:Nat}{x:α}(h:l.all p=true)(e:l[j]? = some x):p x=true:=List.all_eq_true.mp h x (List.mem_of_getElem? e)
theorem sx {A:Around}{p:D->Bool}(ih:∀ {v1 v2:V}{d1 d2:D}{u1 u2:Value},p d1=true->p d2=true->Is X.K H v1 d1->Is X.K H v2 d2->aS v1 u1->aS v2 u2->SeqAt.EqAt A s u1 u2 (eqD d1 d2))
  {vs ws:List V}{ds es:List D}{its jts:List Value}(i1:IsL X.K H vs ds) (i2:IsL X.K H ws es) (r1:aQ vs its) (r2:aQ ws jts) (p1:ds.all p=true) (p2:es.all p=true):
  ∀j (h1:j<its.toArray.size) (h2:j<jts.toArray.size),SeqAt.EqAt A s its.toArray[j] jts.toArray[j] (eqD (ds.getD j .non) (es.getD j .non)):=by
 intro j h1 h2;rw[List.size_toArray]at h1 h2;have l1:=r1.length;have l2:=r2.length;have l3:=i1.length;have l4:=i2.length;have hv:j<vs.length:=by omega
 have hw:j<ws.length:=by omega
 have hd:j<ds.length:=by omega
 have he:j<es.length:=by omega
 obtain⟨u,e1,q1⟩:=r1.get (i:=j) (x:=vs[j]) (by simp[hv]);obtain⟨u',e2,q2⟩:=r2.get (i:=j) (x:=ws[j]) (by simp[hw]);obtain⟨v,e3,q3⟩:=i1.get (i:=j) (d:=ds[j]) (by simp[hd]);obtain⟨w,e4,q4⟩:=i2.get (i:=j) (d:=es[j]) (by simp[he]);have a1:its.toArray[j]=u:=by have z:=(List.getElem?_eq_some_iff.mp e1).2;simpa using z
 have a2:jts.toArray[j]=u':=by have z:=(List.getElem?_eq_some_iff.mp e2).2;simpa using z
 have a3:vs[j]=v:=by simpa [hv]using e3
 have a4:ws[j]=w:=by simpa [hw]using e4
 have a5:ds.getD j .non=ds[j]:=by simp[List.getD,hd]
 have a6:es.getD j .non=es[j]:=by simp[List.getD,he]
 rw[a1,a2,a5,a6];exact ih (DQ p1 (j:=j) (by simp[hd])) (DQ p2 (j:=j) (by simp[he])) (a3 ▸ q3) (a4 ▸ q4) q1 q2
theorem q8 {xs ys:List D}(j:Nat)(x y:D)(h1:xs[j]? = some x)(h2:ys[j]? = some y):eqD (xs.getD j .non) (ys.getD j .non)=eqD x y:=by
 simp[List.getD,h1,h2]
abbrev Tri (A:Around)(s:Shared)(u1 u2:Value)(b:Bool):Prop:=SeqAt.RcAt A s u1 u2 b/\SeqAt.EqAt A s u1 u2 b/\SeqAt.RcNeAt A s u1 u2 (!b)
theorem bJ {A:Around}{v1 v2:V}{d1 d2:D}{u1 u2:Value}(p1:ai 0 d1=true)(p2:ai 0 d2=true)(i1:Is X.K H v1 d1)(i2:Is X.K H v2 d2)(r1:aS v1 u1)(r2:aS v2 u2):Tri A s u1 u2 (eqD d1 d2):=by
 cases i1 with
 |non=>
  cases r1
  cases i2 with
  |non=>
   cases r2
   rw[sd];exact⟨SeqAt.RcAt.none_none,SeqAt.EqAt.same _,SeqAt.RcNeAt.none_none⟩
  |bl b=>
   cases r2
   rw[ve];exact⟨SeqAt.RcAt.none_bool _,SeqAt.EqAt.none_bool _,SeqAt.RcNeAt.none_bool _⟩
  |int b=>
   obtain⟨t',rfl⟩:=r2;rw[se];exact⟨SeqAt.RcAt.none_int _ _,SeqAt.EqAt.none_int _ _,SeqAt.RcNeAt.none_int _ _⟩
  |str b=>
   obtain⟨t',rfl⟩:=r2;rw[sg];exact⟨SeqAt.RcAt.none_str _ _,SeqAt.EqAt.none_str _ _,SeqAt.RcNeAt.none_str _ _⟩
  |ty=>simp[ai]at p2
  |dk=>simp[ai]at p2
  |dt=>simp[ai]at p2
  |tup=>simp[ai]at p2
  |lst=>simp[ai]at p2
 |bl a=>
  cases r1
  cases i2 with
  |non=>
   cases r2
   rw[vg];exact⟨SeqAt.RcAt.bool_none _,SeqAt.EqAt.bool_none _,SeqAt.RcNeAt.bool_none _⟩
  |bl b=>
   cases r2
   rw[yt];exact⟨SeqAt.RcAt.bool_bool _ _,SeqAt.EqAt.bool_bool _ _,SeqAt.RcNeAt.bool_bool _ _⟩
  |int b=>
   obtain⟨t',rfl⟩:=r2;rw[vh,←Bool.beq_eq_decide_eq];exact⟨SeqAt.RcAt.bool_int _ _ _,SeqAt.EqAt.bool_int _ _ _,SeqAt.RcNeAt.bool_int _ _ _⟩
  |str b=>
   obtain⟨t',rfl⟩:=r2;rw[vi];exact⟨SeqAt.RcAt.bool_str _ _ _,SeqAt.EqAt.bool_str _ _ _,SeqAt.RcNeAt.bool_str _ _ _⟩
  |ty=>simp[ai]at p2
  |dk=>simp[ai]at p2
  |dt=>simp[ai]at p2
  |tup=>simp[ai]at p2
  |lst=>simp[ai]at p2
 |int a=>
  obtain⟨t,rfl⟩:=r1;cases i2 with
  |non=>
   cases r2
   rw[si];exact⟨SeqAt.RcAt.int_none _ _,SeqAt.EqAt.int_none _ _,SeqAt.RcNeAt.int_none _ _⟩
  |bl b=>
   cases r2
   rw[vj,←Bool.beq_eq_decide_eq];exact⟨SeqAt.RcAt.int_bool _ _ _,SeqAt.EqAt.int_bool _ _ _,SeqAt.RcNeAt.int_bool _ _ _⟩
  |int b=>
   obtain⟨t',rfl⟩:=r2;rw[sj,←Bool.beq_eq_decide_eq];exact⟨SeqAt.RcAt.int_int _ _ _ _,SeqAt.EqAt.int_int _ _ _ _,SeqAt.RcNeAt.int_int _ _ _ _⟩
  |str b=>
   obtain⟨t',rfl⟩:=r2;rw[sk];exact⟨SeqAt.RcAt.int_str _ _ _ _,SeqAt.EqAt.int_str _ _ _ _,SeqAt.RcNeAt.int_str _ _ _ _⟩
  |ty=>simp[ai]at p2
  |dk=>simp[ai]at p2
  |dt=>simp[ai]at p2
  |tup=>simp[ai]at p2
  |lst=>simp[ai]at p2
 |str a=>
  obtain⟨t,rfl⟩:=r1;cases i2 with
  |non=>
   cases r2
   rw[sn];exact⟨SeqAt.RcAt.str_none _ _,SeqAt.EqAt.str_none _ _,SeqAt.RcNeAt.str_none _ _⟩
  |bl b=>
   cases r2
   rw[vk];exact⟨SeqAt.RcAt.str_bool _ _ _,SeqAt.EqAt.str_bool _ _ _,SeqAt.RcNeAt.str_bool _ _ _⟩
  |int b=>
   obtain⟨t',rfl⟩:=r2;rw[sq];exact⟨SeqAt.RcAt.str_int _ _ _ _,SeqAt.EqAt.str_int _ _ _ _,SeqAt.RcNeAt.str_int _ _ _ _⟩
  |str b=>
   obtain⟨t',rfl⟩:=r2;rw[kZ,←Bool.beq_eq_decide_eq];exact⟨SeqAt.RcAt.str_str _ _ _ _,SeqAt.EqAt.str_str _ _ _ _,SeqAt.RcNeAt.str_str _ _ _ _⟩
  |ty=>simp[ai]at p2
  |dk=>simp[ai]at p2
  |dt=>simp[ai]at p2
  |tup=>simp[ai]at p2
  |lst=>simp[ai]at p2
 |ty=>simp[ai]at p1
 |dk=>simp[ai]at p1
 |dt=>simp[ai]at p1
 |tup=>simp[ai]at p1
 |lst=>simp[ai]at p1
theorem DR (I:Inv X pins σ H s):∀(n:Nat){A:Around}{v1 v2:V}{d1 d2:D}{u1 u2:Value},A.units+n<cLine->ai n d1=true->ai n d2=true->Is X.K H v1 d1->Is X.K H v2 d2->aS v1 u1->aS v2 u2->Tri A s u1 u2 (eqD d1 d2):=by
 intro n;induction n with
 |zero=>exact λ_ p1 p2 i1 i2 r1 r2=>bJ p1 p2 i1 i2 r1 r2
 |succ n ih=>
  intro A v1 v2 d1 d2 u1 u2 hu p1 p2 i1 i2 r1 r2;have hu0:A.units<cLine:=by omega
  have ih':∀ {v1 v2:V}{d1 d2:D}{u1 u2:Value},ai n d1=true->ai n d2=true->Is X.K H v1 d1->Is X.K H v2 d2->aS v1 u1->aS v2 u2->SeqAt.EqAt A.in1 s u1 u2 (eqD d1 d2):=λp1 p2 i1 i2 r1 r2=>(ih (A:=A.in1) (by show A.units+1+n<cLine;omega) p1 p2 i1 i2 r1 r2).2.1;cases i1 with
  |tup h1 k1=>
   cases r1
   obtain⟨its,rv1,t1,z1⟩:=I.tuple h1;have t1':s.heap.IsTuple _ its.toArray:=t1;have q1:=p1;simp only[ai]at q1;cases i2 with
   |tup h2 k2=>
    cases r2
    obtain⟨jts,rv2,t2,z2⟩:=I.tuple h2;have t2':s.heap.IsTuple _ jts.toArray:=t2;have q2:=p2;simp only[ai]at q2;rename_i a1 vs ds a2 ws es;have he:=sx (A:=A.in1) (p:=ai n) ih' k1 k2 rv1 rv2 q1 q2;have eqv:((List.range (min its.toArray.size jts.toArray.size)).all (λj=>eqD (ds.getD j .non) (es.getD j .non)) && its.toArray.size == jts.toArray.size)=eqD (.tup ds) (.tup es):=by
     rw[eqD,List.size_toArray,List.size_toArray,←rv1.length,←rv2.length,k1.length,k2.length];by_cases hl:ds.length=es.length
     ·rw[←hl,Nat.min_self,beq_self_eq_true,Bool.and_true];exact gL _ hl λj x y e1 e2=>q8 j x y e1 e2
     ·rw[qz hl,beq_eq_false_iff_ne.mpr hl,Bool.and_false]
    have rc:=SeqAt.RcAt.tuples t1' t2' hu0 he;have rn:=SeqAt.RcNeAt.tuples t1' t2' hu0 he;rw[eqv]at rc rn;refine⟨rc,?_,rn⟩;by_cases ha:a1=a2
    ·subst ha;rw[w4 I (n+1) (.tup h1 k1) (.tup h2 k2) p1];exact SeqAt.EqAt.same _
    ·exact SeqAt.EqAt.of_refs ha rc
   |lst h2 k2=>
    cases r2
    obtain⟨jts,rv2,t2,z2⟩:=I.list h2;rw[show eqD (.tup _) (.lst _)=false by simp only[eqD]];exact⟨SeqAt.RcAt.tuple_list t1' t2.isList hu0,SeqAt.EqAt.tuple_list t1' t2.isList hu0,SeqAt.RcNeAt.tuple_list t1' t2.isList hu0⟩
   |ty=>simp[ai]at p2
   |dk=>simp[ai]at p2
   |dt=>simp[ai]at p2
   |non=>cases r2;simp only[eqD];exact⟨SeqAt.RcAt.tuple_none t1' hu0,SeqAt.EqAt.tuple_none t1' hu0,SeqAt.RcNeAt.tuple_none t1' hu0⟩
   |bl=>cases r2;simp only[eqD];exact⟨SeqAt.RcAt.tuple_bool _ t1' hu0,SeqAt.EqAt.tuple_bool _ t1' hu0,SeqAt.RcNeAt.tuple_bool _ t1' hu0⟩
   |int=>obtain⟨t,rfl⟩:=r2;simp only[eqD];exact⟨SeqAt.RcAt.tuple_int _ _ t1' hu0,SeqAt.EqAt.tuple_int _ _ t1' hu0,SeqAt.RcNeAt.tuple_int _ _ t1' hu0⟩
   |str=>obtain⟨t,rfl⟩:=r2;simp only[eqD];exact⟨SeqAt.RcAt.tuple_str _ _ t1' hu0,SeqAt.EqAt.tuple_str _ _ t1' hu0,SeqAt.RcNeAt.tuple_str _ _ t1' hu0⟩
  |lst h1 k1=>
   cases r1
   obtain⟨its,rv1,t1,z1⟩:=I.list h1;have t1':s.heap.IsList _ its.toArray:=t1.isList;have q1:=p1;simp only[ai]at q1;cases i2 with
   |lst h2 k2=>
    cases r2
    obtain⟨jts,rv2,t2,z2⟩:=I.list h2;have t2':s.heap.IsList _ jts.toArray:=t2.isList;have q2:=p2;simp only[ai]at q2;rename_i a1 vs ds a2 ws es;have he:=sx (A:=A.in1) (p:=ai n) ih' k1 k2 rv1 rv2 q1 q2;have both:SeqAt.RcAt A s (.ref a1) (.ref a2) (eqD (.lst ds) (.lst es))/\SeqAt.RcNeAt A s (.ref a1) (.ref a2) (!eqD (.lst ds) (.lst es)):=by
     by_cases hl:ds.length=es.length
     ·have hs:its.toArray.size=jts.toArray.size:=by rw[List.size_toArray,List.size_toArray,←rv1.length,←rv2.length,k1.length,k2.length];exact hl
      have eqv:(List.range its.toArray.size).all (λj=>eqD (ds.getD j .non) (es.getD j .non))=eqD (.lst ds) (.lst es):=by
       rw[eqD,List.size_toArray,←rv1.length,k1.length];exact gL _ hl λj x y e1 e2=>q8 j x y e1 e2
      have rc:=SeqAt.RcAt.lists t1' t2' hs hu0 he;have rn:=SeqAt.RcNeAt.lists t1' t2' hs hu0 he;rw[eqv]at rc rn;exact⟨rc,rn⟩
     ·have hs:(its.toArray.size != jts.toArray.size)=true:=by rw[List.size_toArray,List.size_toArray,←rv1.length,←rv2.length,k1.length,k2.length];exact bne_iff_ne.mpr hl
      rw[eqD,qz hl];exact⟨SeqAt.RcAt.lists_lengths t1' t2' hs hu0,SeqAt.RcNeAt.lists_lengths t1' t2' hs hu0⟩
    refine⟨both.1,?_,both.2⟩;by_cases ha:a1=a2
    ·subst ha;rw[w4 I (n+1) (.lst h1 k1) (.lst h2 k2) p1];exact SeqAt.EqAt.same _
    ·exact SeqAt.EqAt.of_refs ha both.1
   |tup h2 k2=>
    cases r2
    obtain⟨jts,rv2,t2,z2⟩:=I.tuple h2;have t2':s.heap.IsTuple _ jts.toArray:=t2;rw[show eqD (.lst _) (.tup _)=false by simp only[eqD]];exact⟨SeqAt.RcAt.list_tuple t1' t2' hu0,SeqAt.EqAt.list_tuple t1' t2' hu0,SeqAt.RcNeAt.list_tuple t1' t2' hu0⟩
   |ty=>simp[ai]at p2
   |dk=>simp[ai]at p2
   |dt=>simp[ai]at p2
   |non=>cases r2;simp only[eqD];exact⟨SeqAt.RcAt.list_none t1' hu0,SeqAt.EqAt.list_none t1' hu0,SeqAt.RcNeAt.list_none t1' hu0⟩
   |bl=>cases r2;simp only[eqD];exact⟨SeqAt.RcAt.list_bool _ t1' hu0,SeqAt.EqAt.list_bool _ t1' hu0,SeqAt.RcNeAt.list_bool _ t1' hu0⟩
   |int=>obtain⟨t,rfl⟩:=r2;simp only[eqD];exact⟨SeqAt.RcAt.list_int _ _ t1' hu0,SeqAt.EqAt.list_int _ _ t1' hu0,SeqAt.RcNeAt.list_int _ _ t1' hu0⟩
   |str=>obtain⟨t,rfl⟩:=r2;simp only[eqD];exact⟨SeqAt.RcAt.list_str _ _ t1' hu0,SeqAt.EqAt.list_str _ _ t1' hu0,SeqAt.RcNeAt.list_str _ _ t1' hu0⟩
  |ty=>simp[ai]at p1
  |dk=>simp[ai]at p1
  |dt=>simp[ai]at p1
  |non=>
   cases i2 with
   |tup h2 k2=>cases r1;cases r2;obtain⟨jts,rv2,t2,z2⟩:=I.tuple h2;have t2':s.heap.IsTuple _ jts.toArray:=t2;simp only[eqD];exact⟨SeqAt.RcAt.none_tuple t2' hu0,SeqAt.EqAt.none_tuple t2' hu0,SeqAt.RcNeAt.none_tuple t2' hu0⟩
   |lst h2 k2=>cases r1;cases r2;obtain⟨jts,rv2,t2,z2⟩:=I.list h2;simp only[eqD];exact⟨SeqAt.RcAt.none_list t2.isList hu0,SeqAt.EqAt.none_list t2.isList hu0,SeqAt.RcNeAt.none_list t2.isList hu0⟩
   |ty=>simp[ai]at p2
   |dk=>simp[ai]at p2
   |dt=>simp[ai]at p2
   |non=>exact bJ (X:=X) (H:=H) (by simp[ai]) (by simp[ai]) .non .non r1 r2
   |bl x=>exact bJ (X:=X) (H:=H) (by simp[ai]) (by simp[ai]) .non (.bl x) r1 r2
   |int x=>exact bJ (X:=X) (H:=H) (by simp[ai]) (by simp[ai]) .non (.int x) r1 r2
   |str x=>exact bJ (X:=X) (H:=H) (by simp[ai]) (by simp[ai]) .non (.str x) r1 r2
  |bl y=>
   cases i2 with
   |tup h2 k2=>cases r1;cases r2;obtain⟨jts,rv2,t2,z2⟩:=I.tuple h2;have t2':s.heap.IsTuple _ jts.toArray:=t2;simp only[eqD];exact⟨SeqAt.RcAt.bool_tuple _ t2' hu0,SeqAt.EqAt.bool_tuple _ t2' hu0,SeqAt.RcNeAt.bool_tuple _ t2' hu0⟩
   |lst h2 k2=>cases r1;cases r2;obtain⟨jts,rv2,t2,z2⟩:=I.list h2;simp only[eqD];exact⟨SeqAt.RcAt.bool_list _ t2.isList hu0,SeqAt.EqAt.bool_list _ t2.isList hu0,SeqAt.RcNeAt.bool_list _ t2.isList hu0⟩
   |ty=>simp[ai]at p2
   |dk=>simp[ai]at p2
   |dt=>simp[ai]at p2
   |non=>exact bJ (X:=X) (H:=H) (by simp[ai]) (by simp[ai]) (.bl y) .non r1 r2
   |bl x=>exact bJ (X:=X) (H:=H) (by simp[ai]) (by simp[ai]) (.bl y) (.bl x) r1 r2
   |int x=>exact bJ (X:=X) (H:=H) (by simp[ai]) (by simp[ai]) (.bl y) (.int x) r1 r2
   |str x=>exact bJ (X:=X) (H:=H) (by simp[ai]) (by simp[ai]) (.bl y) (.str x) r1 r2
  |int y=>
   cases i2 with
   |tup h2 k2=>obtain⟨t,rfl⟩:=r1;cases r2;obtain⟨jts,rv2,t2,z2⟩:=I.tuple h2;have t2':s.heap.IsTuple _ jts.toArray:=t2;simp only[eqD];exact⟨SeqAt.RcAt.int_tuple _ _ t2' hu0,SeqAt.EqAt.int_tuple _ _ t2' hu0,SeqAt.RcNeAt.int_tuple _ _ t2' hu0⟩
   |lst h2 k2=>obtain⟨t,rfl⟩:=r1;cases r2;obtain⟨jts,rv2,t2,z2⟩:=I.list h2;simp only[eqD];exact⟨SeqAt.RcAt.int_list _ _ t2.isList hu0,SeqAt.EqAt.int_list _ _ t2.isList hu0,SeqAt.RcNeAt.int_list _ _ t2.isList hu0⟩
   |ty=>simp[ai]at p2
   |dk=>simp[ai]at p2
   |dt=>simp[ai]at p2
   |non=>exact bJ (X:=X) (H:=H) (by simp[ai]) (by simp[ai]) (.int y) .non r1 r2
   |bl x=>exact bJ (X:=X) (H:=H) (by simp[ai]) (by simp[ai]) (.int y) (.bl x) r1 r2
   |int x=>exact bJ (X:=X) (H:=H) (by simp[ai]) (by simp[ai]) (.int y) (.int x) r1 r2
   |str x=>exact bJ (X:=X) (H:=H) (by simp[ai]) (by simp[ai]) (.int y) (.str x) r1 r2
  |str y=>
   cases i2 with
   |tup h2 k2=>obtain⟨t,rfl⟩:=r1;cases r2;obtain⟨jts,rv2,t2,z2⟩:=I.tuple h2;have t2':s.heap.IsTuple _ jts.toArray:=t2;simp only[eqD];exact⟨SeqAt.RcAt.str_tuple _ _ t2' hu0,SeqAt.EqAt.str_tuple _ _ t2' hu0,SeqAt.RcNeAt.str_tuple _ _ t2' hu0⟩
   |lst h2 k2=>obtain⟨t,rfl⟩:=r1;cases r2;obtain⟨jts,rv2,t2,z2⟩:=I.list h2;simp only[eqD];exact⟨SeqAt.RcAt.str_list _ _ t2.isList hu0,SeqAt.EqAt.str_list _ _ t2.isList hu0,SeqAt.RcNeAt.str_list _ _ t2.isList hu0⟩
   |ty=>simp[ai]at p2
   |dk=>simp[ai]at p2
   |dt=>simp[ai]at p2
   |non=>exact bJ (X:=X) (H:=H) (by simp[ai]) (by simp[ai]) (.str y) .non r1 r2
   |bl x=>exact bJ (X:=X) (H:=H) (by simp[ai]) (by simp[ai]) (.str y) (.bl x) r1 r2
   |int x=>exact bJ (X:=X) (H:=H) (by simp[ai]) (by simp[ai]) (.str y) (.int x) r1 r2
   |str x=>exact bJ (X:=X) (H:=H) (by simp[ai]) (by simp[ai]) (.str y) (.str x) r1 r2
@[simp] noncomputable def dEq:D->D->Option (D×Bool):=λx y=>if ai 40 x=true/\ai 40 y=true then some (.bl (eqD x y),false)else none
@[simp] noncomputable def dNe:D->D->Option (D×Bool):=λx y=>if ai 40 x=true/\ai 40 y=true then some (.bl (!eqD x y),false)else none
theorem cm (hu:X.A.units+40<cLine):OpR X (compareOp .Eq) (rD X.K dEq):=by
 intro pins s σ H x y v u Q I rx ry q;obtain⟨B,dx,dy,d,b,sB,ix,iy,e,q⟩:=q;unfold dEq at e;split at e
 ·rename_i hp;cases e
  exact(DR I 40 hu hp.1 hp.2 (ix.mono sB) (iy.mono sB) rx ry).1 _ _ _ _ ⟨.bl _,H,I,rfl,q.one sB (.bl _)⟩
 ·cases e
theorem Ff (hu:X.A.units+40<cLine):OpR X (compareOp .NotEq) (rD X.K dNe):=by
 intro pins s σ H x y v u Q I rx ry q;obtain⟨B,dx,dy,d,b,sB,ix,iy,e,q⟩:=q;unfold dNe at e;split at e
 ·rename_i hp;cases e
  exact(DR I 40 hu hp.1 hp.2 (ix.mono sB) (iy.mono sB) rx ry).2.2 _ _ _ _ ⟨.bl _,H,I,rfl,q.one sB (.bl _)⟩
 ·cases e
end
section
variable {X:Cx}{a b e:Expr}{pos:Pos}
theorem w6 {K:PySem.W.Frag}{H:Hp}{vs:List V}{ds:List D}{i:Int}{d:D}(h:IsL K H vs ds)(e:atI ds i=some d):∃v,atI vs i=some v/\Is K H v d:=by
 unfold atI at e ⊢;rw[h.length];cases q:ixN ds.length i with
 |none=>rw[q]at e;cases e
 |some j=>rw[q]at e;exact h.get e
@[simp] noncomputable def ixD:D->D->Option (D×Bool)
 |.lst ds,.int i=>(atI ds i).map λd=>(d,false)
 |.tup ds,.int i=>(atI ds i).map λd=>(d,false)
 |.str z,.int i=>if z.length<=sizeLine then (atI z.cps.toList i).map λc=>(.str ⟨#[c]⟩,false)else none
 |_,_=>none
theorem HQ:IxR X (rD X.K ixD):=by
 intro value slice pins s σ H x y v u Q I rx ry q hs;obtain⟨B,dx,dy,d,b,sB,ix,iy,e,q⟩:=q;cases ix<;>cases iy<;>try (simp[ixD]at e;done)
 ·simp only[ixD]at e;split at e
  ·rename_i hz;obtain⟨c,e1,e2⟩:=oY e;cases e2
   exact uT value slice pins s σ H _ _ v u Q I rx ry ⟨_,_,c,rfl,rfl,hz,e1,q.one sB (.str _)⟩ hs
  ·cases e
 ·rename_i h hl i;simp only[ixD]at e;obtain⟨c,e1,e2⟩:=oY e;cases e2
  obtain⟨w,h1,h2⟩:=w6 hl e1;exact ql value slice pins s σ H _ _ v u Q I rx ry ⟨_,_,_,w,rfl,rfl,aV sB h,h1,q.one sB h2⟩ hs
 ·rename_i h hl i;simp only[ixD]at e;obtain⟨c,e1,e2⟩:=oY e;cases e2
  obtain⟨w,h1,h2⟩:=w6 hl e1;exact BZ value slice pins s σ H _ _ v u Q I rx ry ⟨_,_,_,w,rfl,rfl,sB.seq h,h1,q.one sB h2⟩ hs
theorem az {fa fb:FE}(ha:JE X a fa)(hb:JE X b fb)(hs:qk b:=by intro _ _;rfl):JE X (.Subscript a b pos) (f2 ixD fa fb):=PE.to (D1 HQ ha hb hs) λ_ _ _ h=>Cf h
abbrev FO:=Env->Option (Option Int)
def tDO (K:PySem.W.Frag)(f:FO):TO:=λσ H Q=>∃(B:Hp)(ρ:Env)(o:Option Int),aO B H/\RepE K B σ ρ/\f ρ=some o/\∀H',aO H H'->Q o H'
abbrev JO (X:Cx)(e:Option Expr)(f:FO):Prop:=PO X e (tDO X.K f)
@[simp] noncomputable def sy:FO:=λ_=>some none
@[simp] noncomputable def pd (f:FE):FO:=λρ=>match f ρ with|some (.int i,_)=>some (some i)|_=>none
theorem wA:JO X none sy:=λpins s σ H Q I h=>BV pins s σ H Q I (by
 obtain⟨B,ρ,o,sB,r,e,q⟩:=h;cases e
 exact q H (.refl H))
theorem wB {f:FE}(h:JE X e f):JO X (some e) (pd f):=λpins s σ H Q I q=>BW h pins s σ H Q I (by
 obtain⟨B,ρ,o,sB,r,e,q⟩:=q;unfold pd at e;split at e
 ·rename_i i b' ef;cases e
  refine⟨B,ρ,_,_,sB,r,ef,λv H1 N1 x1 i1 _=>?_⟩;cases i1
  exact⟨i,rfl,q H1 x1.hh⟩
 ·cases e)
noncomputable def o5 (ds:List D)(lo hi:Option Int):List D:=(ds.drop (HT.sIx ds.length 0 lo)).take (HT.sIx ds.length ds.length hi - HT.sIx ds.length 0 lo)
theorem qA {K:PySem.W.Frag}{H:Hp}{vs:List V}{ds:List D}{lo hi:Option Int}(h:IsL K H vs ds):IsL K H (ou vs lo hi) (o5 ds lo hi):=by
 unfold ou o5;rw[h.length];exact(h.drop _).take _
@[simp] noncomputable def Iu (fa:FE)(fl fh:FO):FE:=λρ=>(fa ρ).bind λx=>(fl ρ).bind λl=>(fh ρ).bind λh=>match x.1 with
 |.lst ds=>some (.lst (o5 ds l h),true)
 |.tup ds=>if HT.sIx ds.length 0 l=0/\HT.sIx ds.length ds.length h=ds.length then none else some (.tup (o5 ds l h),false)
 |_=>none
theorem bA.to {f:Value}{r r':List V->Hp->VK->Prop}(h:bA X f r)(k:∀xs H Q,r' xs H Q->r xs H Q):bA X f r':=λpins s σ H xs us Q I rs q=>h pins s σ H xs us Q I rs (k xs H Q q)
variable {es:List Expr}{x:Str}{p:Pos}{id T:String}
theorem bu {f:List D->Option (D×Bool)}{fa:FA}(hc:bA X (.builtin id) (rDA X.K f))(hm:X.mg x=none)(hv:bootBuiltins x=some (.builtin id))(ha:JA X (e::es) fa)(hg:Gl X x:=by rfl)(hn:x ≠ "__name__":=by decide)(hdb:(x == ("__debug__" : Str))=false:=by decide)
  (he:starEach (e::es) X.env=(false,eval e X.env)::starEach es X.env:=by rfl) (hpl:(backTo pos (starEach es X.env)).any (·.1)=false:=by rfl):JE X (.Call (.Name x p) (e::es) [] pos) (fA f fa):=PE.to (rR hc hg hm hv ha hn hdb he hpl) λ_ _ _ h=>Cg h
theorem d8 {f:List D->Option (D×Bool)}{fa:FA}(hc:bA X (.type T) (rDA X.K f))(hm:X.mg x=none)(hv:bootBuiltins x=some (.type T))(ha:JA X (e::es) fa)(hg:Gl X x:=by rfl)(hn:x ≠ "__name__":=by decide)(hdb:(x == ("__debug__" : Str))=false:=by decide)
  (he:starEach (e::es) X.env=(false,eval e X.env)::starEach es X.env:=by rfl) (hpl:(backTo pos (starEach es X.env)).any (·.1)=false:=by rfl):JE X (.Call (.Name x p) (e::es) [] pos) (fA f fa):=PE.to (oR hc hg hm hv ha hn hdb he hpl) λ_ _ _ h=>Cg h
@[simp] noncomputable def fP:List D->Option (D×Bool)
 |[.lst ds]=>some (.int ds.length,false)
 |[.tup ds]=>some (.int ds.length,false)
 |[.str z]=>if z.length<=sizeLine then some (.int z.length,false)else none
 |_=>none
theorem iw:bA X (.builtin "len") (rDA X.K fP):=by
 refine bA.to (bA.or qp qq) λxs H Q q=>?_;obtain⟨B,ds,d,b,sB,i,e,q⟩:=q;cases i with
 |nil=>simp[fP]at e
 |cons i1 i2=>
  cases i2 with
  |cons _ _=>cases i1<;>simp[fP]at e
  |nil=>
   cases i1<;>try (simp[fP]at e;done)
   ·simp only[fP]at e;split at e
    ·rename_i hz;cases e
     exact .inr ⟨_,rfl,hz,q.one sB (.int _)⟩
    ·cases e
   ·rename_i h hl;simp only[fP]at e;cases e
    refine .inl ⟨_,_,rfl,.inr (aV sB h),?_⟩;rw[hl.length];exact q.one sB (.int _)
   ·rename_i h hl;simp only[fP]at e;cases e
    refine .inl ⟨_,_,rfl,.inl (sB.seq h),?_⟩;rw[hl.length];exact q.one sB (.int _)
theorem wC {n:String}(hm:X.mg x=none)(hv:bootBuiltins x=some (.type n))(hg:Gl X x:=by rfl)(hn:x ≠ "__name__":=by decide)(hd:(x == ("__debug__" : Str))=false:=by decide):JE X (.Name x pos) (fC (.ty n)) :=
 PE.to (BH hg hm hv (v:=.ty n) rfl hn hd) λ_ _ _ h=>yr (λ_=>.ty n) h
end
theorem vn {A:Around}{k:Nat}(hr:Room k A):A.units+40<cLine:=by have:=hr.un;omega
section
variable {X:Cx}{a b e:Expr}{pos:Pos}{x:Str}{p:Pos}
theorem sA {d:D}(h:∃u v,X.mg x=some u/\aS v u/\∀B,Is X.K B v d)(hg:Gl X x:=by rfl)(hd:(x == ("__debug__" : Str))=false:=by decide):JE X (.Name x pos) (fC d):=by
 obtain⟨u,v,hm,r,i⟩:=h;exact Cq hg hm r i hd
@[simp] noncomputable def wD:D->D->Option (D×Bool)
 |.int i,.int j=>some (.int (i+j),false)
 |.str i,.str j=>if i.length+j.length<=sizeLine then some (.str (i++j),false)else none
 |_,_=>none
theorem Cz:OpR X (binaryOp .Add) (rD X.K wD):=by
 refine gd (r:=rD X.K (orD ER zX)) (k7 GB EU) λx y H Q q=>?_;obtain⟨B,dx,dy,d,b,sB,ix,iy,e,q⟩:=q;refine⟨B,dx,dy,d,b,sB,ix,iy,?_,q⟩;cases dx<;>cases dy<;>simp[wD]at e<;>simp[orD,ER,zX,iop,sop,e]
@[simp] noncomputable def dQ:D->D->Option (D×Bool):=ES
theorem cu:OpR X (binaryOp .Mult) (rD X.K dQ):=GC
@[simp] noncomputable def dLt:D->D->Option (D×Bool):=iLt
theorem wE:OpR X (compareOp .Lt) (rD X.K dLt):=HM
@[simp] noncomputable def dLe:D->D->Option (D×Bool)
 |.int i,.int j=>some (.bl (decide (i<=j)),false)
 |.str i,.str j=>some (.bl (!decide (j.cps.toList<i.cps.toList)),false)
 |_,_=>none
theorem jA:OpR X (compareOp .LtE) (rD X.K dLe):=by
 refine gd (r:=rD X.K (orD iLe sLe)) (k7 HN GD) λx y H Q q=>?_;obtain⟨B,dx,dy,d,b,sB,ix,iy,e,q⟩:=q;refine⟨B,dx,dy,d,b,sB,ix,iy,?_,q⟩;cases dx<;>cases dy<;>simp[dLe]at e<;>simp[orD,iLe,sLe,iop,sop,e]
@[simp] noncomputable def ma:D->Option (D×Bool)
 |.int i=>some (.int (-i),false)
 |_=>none
theorem wF:UnR X (unaryOp .USub) (rDU X.K ma):=by
 intro pins s σ H x v Q I rx q;obtain⟨B,dx,d,b,sB,ix,e,q⟩:=q;cases ix<;>try (simp[ma]at e;done)
 simp only[ma]at e;cases e
 exact E9 pins s σ H _ v Q I rx ⟨_,rfl,q.one sB (.int _)⟩
@[simp] noncomputable def yu:D->D->Option Bool
 |.non,.non=>some true
 |_,.non=>some false
 |.bl a,.bl b=>some (a == b)
 |_,.bl _=>some false
 |_,_=>none
@[simp] noncomputable def dIs:D->D->Option (D×Bool):=λx y=>(yu x y).map λb=>(.bl b,false)
@[simp] noncomputable def jm:D->D->Option (D×Bool):=λx y=>(yu x y).map λb=>(.bl (!b),false)
theorem wG {K:PySem.W.Frag}{B:Hp}{x y:V}{v u:Value}{dx dy:D}{k:Bool}(ix:Is K B x dx)(iy:Is K B y dy)(rx:aS x v)(ry:aS y u)(e:yu dx dy=some k):plainIs v u=true/\(v == u)=k:=by
 cases iy<;>(first|(cases dx<;>simp[yu]at e;done)|skip)
 all_goals (cases ix)
 all_goals (first|(obtain⟨t,rfl⟩:=rx)|cases rx)
 all_goals (cases ry)
 all_goals (simp only[yu,Option.some.injEq]at e;subst e)
 all_goals (first|exact⟨rfl,rfl⟩|skip)
 all_goals (rename_i c d;cases c<;>cases d<;>exact⟨rfl,rfl⟩)
theorem yv:OpR X (compareOp .Is) (rD X.K dIs):=by
 intro pins s σ H x y v u Q I rx ry q;obtain⟨B,dx,dy,d,b,sB,ix,iy,e,q⟩:=q;obtain⟨k,ek,e⟩:=oY e;cases e
 obtain⟨h1,h2⟩:=wG ix iy rx ry ek;refine wpAny_is_plain h1 ⟨.bl k,H,I,by rw[h2];rfl,q.one sB (.bl _)⟩
theorem qB:OpR X (compareOp .IsNot) (rD X.K jm):=by
 intro pins s σ H x y v u Q I rx ry q;obtain⟨B,dx,dy,d,b,sB,ix,iy,e,q⟩:=q;obtain⟨k,ek,e⟩:=oY e;cases e
 obtain⟨h1,h2⟩:=wG ix iy rx ry ek;refine wpAny_isNot_plain h1 ⟨.bl (!k),H,I,by rw[h2];rfl,q.one sB (.bl _)⟩
@[simp] noncomputable def fu:D->Bool
 |.non=>true|.bl _=>true|.int _=>true|.str _=>true
 |_=>false
noncomputable def inD (x:D)(ds:List D):Bool:=ds.any λy=>eqD y x
@[simp] noncomputable def fT:D->Option (List D)
 |.lst ds=>some ds
 |.tup ds=>some ds
 |_=>none
@[simp] noncomputable def dIn:D->D->Option (D×Bool):=λx y=>(fT y).bind λds=>if fu x=true/\ds.all fu=true then some (.bl (inD x ds),false)else none
@[simp] noncomputable def fG:D->D->Option (D×Bool):=λx y=>(fT y).bind λds=>if fu x=true/\ds.all fu=true then some (.bl (!inD x ds),false)else none
theorem md {K:PySem.W.Frag}{B:Hp}{v:V}{d:D}(i:Is K B v d)(h:fu d=true):iZ v=true:=by
 cases i<;>first|rfl|(simp[fu]at h)
theorem HR {K:PySem.W.Frag}{B:Hp}{v w:V}{d e:D}(i:Is K B v d)(j:Is K B w e)(h:fu d=true)(h':fu e=true):eqV v w=eqD d e:=by
 cases i<;>(first|(simp[fu]at h;done)|skip)
 all_goals (cases j<;>(first|(simp[fu]at h';done)|skip))
 all_goals (simp only[eqV,eqD,Bool.beq_eq_decide_eq])
theorem sC {K:PySem.W.Frag}{B:Hp}:∀ {vs:List V}{ds:List D},IsL K B vs ds->ds.all fu=true->vs.all iZ=true
 |_,_,.nil,_=>rfl
 |_,_,.cons i t,h=>by
  rw[List.all_cons,Bool.and_eq_true]at h;rw[List.all_cons,md i h.1,sC t h.2];rfl
theorem zY {K:PySem.W.Frag}{B:Hp}{v:V}{d:D}(j:Is K B v d)(hd:fu d=true):∀ {vs:List V}{ds:List D},IsL K B vs ds->ds.all fu=true->inV v vs=inD d ds
 |_,_,.nil,_=>rfl
 |_,_,.cons i t,h=>by
  rw[List.all_cons,Bool.and_eq_true]at h;have e:=zY j hd t h.2;unfold inV inD at *;rw[List.any_cons,List.any_cons,e,HR i j h.1 hd]
theorem sD:OpR X (compareOp .In) (rD X.K dIn):=by
 refine gd ym λx y H Q q=>?_;obtain⟨B,dx,dy,d,b,sB,ix,iy,e,q⟩:=q;obtain⟨ds,es,e⟩:=oX e;split at e
 ·rename_i hf;cases e
  cases iy<;>simp only[fT]at es<;>try (cases es;done)
  ·rename_i h hl;cases es
   exact⟨_,_,rfl,.inr (aV sB h),md ix hf.1,sC hl hf.2,by rw[if_neg (by decide),zY ix hf.1 hl hf.2];exact q.one sB (.bl _)⟩
  ·rename_i h hl;cases es
   exact⟨_,_,rfl,.inl (sB.seq h),md ix hf.1,sC hl hf.2,by rw[if_neg (by decide),zY ix hf.1 hl hf.2];exact q.one sB (.bl _)⟩
 ·cases e
theorem mf:OpR X (compareOp .NotIn) (rD X.K fG):=by
 refine gd qo λx y H Q q=>?_;obtain⟨B,dx,dy,d,b,sB,ix,iy,e,q⟩:=q;obtain⟨ds,es,e⟩:=oX e;split at e
 ·rename_i hf;cases e
  cases iy<;>simp only[fT]at es<;>try (cases es;done)
  ·rename_i h hl;cases es
   exact⟨_,_,rfl,.inr (aV sB h),md ix hf.1,sC hl hf.2,by rw[if_pos rfl,zY ix hf.1 hl hf.2];exact q.one sB (.bl _)⟩
  ·rename_i h hl;cases es
   exact⟨_,_,rfl,.inl (sB.seq h),md ix hf.1,sC hl hf.2,by rw[if_pos rfl,zY ix hf.1 hl hf.2];exact q.one sB (.bl _)⟩
 ·cases e
theorem iz:bootBuiltins "len" = some (.builtin "len"):=PySem.boot_len
theorem fz:bootBuiltins "isinstance" = some (.builtin "isinstance"):=by decide +kernel
theorem GG:bootBuiltins "max" = some (.builtin "max"):=by decide +kernel
theorem GH:bootBuiltins "min" = some (.builtin "min"):=by decide +kernel
theorem GI:bootBuiltins "all" = some (.builtin "all"):=by decide +kernel
theorem wH:bootBuiltins "int" = some (.type "int"):=by decide +kernel
theorem Fg:bootBuiltins "bool" = some (.type "bool"):=by decide +kernel
theorem vp:bootBuiltins "list" = some (.type "list"):=by decide +kernel
theorem qC:bootBuiltins "tuple" = some (.type "tuple"):=by decide +kernel
@[simp] noncomputable def C0:List D->Option (D×Bool)
 |[.int i,.int j]=>some (.int (if j > i then j else i),false)
 |_=>none
@[simp] noncomputable def C1:List D->Option (D×Bool)
 |[.int i,.int j]=>some (.int (if j<i then j else i),false)
 |_=>none
theorem sE {K:PySem.W.Frag}{B:Hp}{xs:List V}{i j:Int}(h:IsL K B xs [.int i,.int j]):xs=[.int i,.int j]:=by
 cases h with
 |cons h1 h2=>cases h1;cases h2 with|cons h3 h4=>cases h3;cases h4;rfl
theorem GJ (hc:X.calm=true:=by rfl):bA X (.builtin "max") (rDA X.K C0):=by
 refine bA.to (yg hc) λxs H Q q=>?_;obtain⟨B,ds,d,b,sB,i,e,q⟩:=q;match ds,e with
 |[.int i',.int j'],e=>simp only[C0]at e;cases e;exact⟨i',j',sE i,q.one sB (.int _)⟩
theorem GK (hc:X.calm=true:=by rfl):bA X (.builtin "min") (rDA X.K C1):=by
 refine bA.to (yh hc) λxs H Q q=>?_;obtain⟨B,ds,d,b,sB,i,e,q⟩:=q;match ds,e with
 |[.int i',.int j'],e=>simp only[C1]at e;cases e;exact⟨i',j',sE i,q.one sB (.int _)⟩
@[simp] noncomputable def i6:D->String
 |.non=>"NoneType" | .bl _=>"bool" | .int _=>"int" | .str _=>"str" | .ty _=>"type" | .tup _=>"tuple" | .lst _=>"list" | .dk _ _=>"dict" | .dt _ _=>"dict"
@[simp] noncomputable def GL:D->Bool
 |.ty _=>true
 |_=>false
@[simp] noncomputable def wI (t n:String):Option (D×Bool) :=
 if n = "int" then some (.bl (t == "int" || t == "bool"),false)else if n = "bool" then some (.bl (t == "bool"),false)else if n = "str" then some (.bl (t == "str"),false)
 else if n = "list" then some (.bl (t == "list"),false)else if n = "tuple" then some (.bl (t == "tuple"),false)else none
@[simp] noncomputable def cQ:List D->Option (D×Bool)
 |[d,.ty n]=>if GL d=true then none else wI (i6 d) n
 |_=>none
theorem C2 {pins:List (Addr×Obj)}{σ:St}{H:Hp}{s:Shared}{A:Around}{E:Value->Shared->Prop}{Q:Value->Shared->Prop}{c:Value}{b:Bool}{v:V}{d:D}{u:Value}(I:Inv X pins σ H s)(i:Is X.K H v d)(hd:∀n,d≠.ty n)(rx:aS v u)(e:PySem.W.kitOne X.K (.type (i6 d)) c=some b)(h:∀tk,Q (.bool b) { s with toks:=tk }):
  wpAny (model X.prog X.w) A (call (.builtin "isinstance") [u,c]) Q E s:=by
 cases i with
 |non=>exact f8 I rx .non e h
 |bl y=>exact f8 I rx (.bl y) e h
 |int y=>exact f8 I rx (.int y) e h
 |str y=>exact f8 I rx (.str y) e h
 |ty n=>exact absurd rfl (hd n)
 |dk h1 _ _=>exact f8 I rx (.dK h1) e h
 |dt h1 _ _=>exact f8 I rx (.dT h1) e h
 |tup ht _=>
  cases rx
  obtain⟨its,_,⟨o,h1,h2,_⟩,_⟩:=I.tuple ht;exact PySem.W.kia_one PySem.W.kitx_tuple I.kIn ⟨o,h1,h2⟩ e (λz=>nomatch z) h
 |lst hl _=>
  cases rx
  obtain⟨its,_,⟨o,n,h1,h2,_⟩,_⟩:=I.list hl;exact PySem.W.kia_one PySem.W.kitx_list I.kIn ⟨o,h1,h2⟩ e (λz=>nomatch z) h
theorem Fh (K:PySem.W.Frag)(d:D)(hd:∀n,d≠.ty n):
  PySem.W.kitOne K (.type (i6 d)) (.type "int")=some (i6 d == "int" || i6 d == "bool")/\PySem.W.kitOne K (.type (i6 d)) (.type "bool")=some (i6 d == "bool")/\PySem.W.kitOne K (.type (i6 d)) (.type "str")=some (i6 d == "str") /\
   PySem.W.kitOne K (.type (i6 d)) (.type "list")=some (i6 d == "list")/\PySem.W.kitOne K (.type (i6 d)) (.type "tuple")=some (i6 d == "tuple"):=by
 cases d<;>(first|exact absurd rfl (hd _)|skip)
 all_goals (simp only[i6];refine⟨?_,?_,?_,?_,?_⟩<;>kernel_rfl)
theorem f6:bA X (.builtin "isinstance") (rDA X.K cQ):=by
 intro pins s σ H xs us Q I rs q;obtain⟨B,ds,d,b,sB,i,e,q⟩:=q;match ds,i,e with
 |[dx,.ty n],.cons i1 (.cons i2 .nil),e=>
  obtain⟨u1,u2,rfl,r1,r2⟩:=zy rs;cases i2
  cases r2
  simp only[cQ]at e;split at e
  ·cases e
  ·rename_i ht;have hd:∀n,dx≠.ty n:=λn z=>by subst z;exact ht rfl
   obtain⟨k1,k2,k3,k4,k5⟩:=Fh X.K dx hd;have fin:∀ {k:Bool},PySem.W.kitOne X.K (.type (i6 dx)) (.type n)=some k->Fin X.K B H (.bl k) false Q->wpAny (model X.prog X.w) X.A (call (.builtin "isinstance") [u1,.type n]) (EP X pins σ Q) X.xe s:=λ{k} hk q=>
    C2 I (i1.mono sB) hd r1 hk λtk=>⟨.bl k,H,I.tok tk,rfl,q.one sB (.bl k)⟩
   unfold wI at e;split at e
   ·rename_i z;subst z;cases e;exact fin k1 q
   split at e
   ·rename_i z;subst z;cases e;exact fin k2 q
   split at e
   ·rename_i z;subst z;cases e;exact fin k3 q
   split at e
   ·rename_i z;subst z;cases e;exact fin k4 q
   split at e
   ·rename_i z;subst z;cases e;exact fin k5 q
   ·cases e
@[simp] noncomputable def Ik:D->Option (D×Bool)
 |.int i=>some (.int (Builtin.Int.intBits i),false)
 |_=>none
@[simp] noncomputable def zZ (f:FE):FA:=λρ=>(f ρ).bind λx=>fT x.1
theorem wJ {tg:Expr}{f:FE}(h:JE X e f):JI X tg e (zZ f):=by
 intro pins s σ H R I q;obtain⟨B,ρ,ds,sB,r,e',q⟩:=q;obtain⟨x,ex,es⟩:=oX e';obtain⟨xd,xb⟩:=x;cases xd<;>simp only[fT]at es<;>try (cases es;done)
 ·cases es
  refine Ey h pins s σ H R I ⟨B,ρ,_,_,sB,r,ex,λv H1 N1 x1 i1 _=>?_⟩;cases i1 with
  |@tup a vs _ ht hl=>
   refine⟨a,rfl,⟨vs,aV x1.nh ht⟩,q _ H1 N1 x1 λi H2 s2=>⟨λd ed=>?_,λhlen=>⟨vs,aV s2 ht,by rw[hl.length];exact hlen⟩⟩⟩;obtain⟨v,ev,iv⟩:=hl.get ed;refine⟨⟨vs,v,aV s2 ht,ev⟩,λy H3 hy=>?_⟩;obtain⟨rfl,hy⟩:=hy;have:=hy vs (aV s2 ht);rw[ev]at this;cases this;exact⟨N1,.refl s2,iv⟩
 ·cases es
  refine BM h pins s σ H R I ⟨B,ρ,_,_,sB,r,ex,λv H1 N1 x1 i1 _=>?_⟩;cases i1 with
  |@lst a vs _ ht hl=>
   refine⟨a,rfl,⟨vs,x1.nh.seq ht⟩,q _ H1 N1 x1 λi H2 s2=>⟨λd ed=>?_,λhlen=>⟨vs,s2.seq ht,by rw[hl.length];exact hlen⟩⟩⟩;obtain⟨v,ev,iv⟩:=hl.get ed;refine⟨⟨vs,v,s2.seq ht,ev⟩,λy H3 hy=>?_⟩;obtain⟨rfl,hy⟩:=hy;have:=hy vs (s2.seq ht);rw[ev]at this;cases this;exact⟨N1,.refl s2,iv⟩
noncomputable def dR (lo:Int)(n:Nat):List D:=(List.range n).map λ(k:Nat)=>.int (lo+(k:Int))
theorem Aa {K:PySem.W.Frag}{B:Hp}(lo:Int)(n:Nat):o0 K (Itr lo n) B (dR lo n):=by
 intro i H s;unfold dR;refine⟨λd ed=>?_,λhl=>by rw[List.length_map,List.length_range]at hl;exact hl⟩;rw[List.getElem?_map]at ed;obtain⟨k,ek,ed⟩:=oY ed;have hk:=List.getElem?_eq_some_iff.mp ek;obtain⟨hlt,hk⟩:=hk;rw[List.length_range]at hlt;rw[List.getElem_range]at hk;subst hk;subst ed;refine⟨hlt,λx H' hy=>?_⟩;obtain⟨rfl,rfl⟩:=hy;exact⟨B,.refl s,.int _⟩
@[simp] noncomputable def dS (f:FE):FA:=λρ=>match f ρ with
 |some (.int j,_)=>if -1000<=j/\j<=1000 then some (dR 0 j.toNat)else none
 |_=>none
theorem i7 {tg:Expr}{f:FE}(hm:X.mg "range" = none)(h:JE X a f)(hg:Gl X "range":=by rfl)(hs:starEach [a] X.env=[(false,eval a X.env)]:=by rfl):PI X tg (.Call (.Name "range" p) [a] [] pos) (tDR X.K (dS f)):=by
 refine PI.to (yc hg hm (aa h af hs) hs) λσ H R q=>?_;obtain⟨B,ρ,ds,sB,r,e',q⟩:=q;unfold dS at e';split at e'
 ·rename_i j b' ef;split at e'
  ·rename_i hj;cases e'
   refine⟨B,ρ,[.int j],sB,r,by simp[ab,ag,ef],λvs H1 N1 x1 i1=>?_⟩;cases i1 with
   |cons i1 i2=>
    cases i1;cases i2
    exact⟨j,rfl,by omega,by omega,q _ H1 N1 x1 λ_=>Aa 0 j.toNat⟩
  ·cases e'
 ·cases e'
theorem sF {tg:Expr}{f:FE}(hm:X.mg "range" = none)(h:JE X a f)(hg:Gl X "range":=by rfl)(hs:starEach [a] X.env=[(false,eval a X.env)]:=by rfl):JI X tg (.Call (.Name "range" p) [a] [] pos) (dS f) :=
 PI.to (i7 hm h hg hs) λσ H R ⟨B,ρ,ds,sB,r,e',q⟩=>⟨B,ρ,ds,sB,r,e',λJ H' N x h=>q J H' N x (h _)⟩
end
def Def (K:PySem.W.Frag)(x:Str)(st:Stmt):Prop:=∃(f:Addr)(fd:FuncData),Fun K x x st f fd/\PySem.W.nsIn K mainGlobals x=some (some (.ref f))
theorem def_mk {K:PySem.W.Frag}{x:Str}{st:Stmt}{f:Addr}{oc:Value}{od an:Option Addr}{osl:Array (Option Value)}{kV doc pm cdv ct:Value}(a:PySem.W.nsIn K mainGlobals x=some (some (.ref f)))
  (l:K.lookup f=some ⟨oc,od,.func (PySem.W.fnOf x x (eF st) (cf st) (aM st) .none kV doc pm an cdv ct),osl⟩) (c:PySem.W.codeIn K cdv x=true) (k:PySem.W.keepIn K (.ref f)=true):Def K x st:=⟨f,_,EH l c k,a⟩
section
variable {P:Program}{w:World}{K:PySem.W.Frag}{mg:Str->Option Value}{base:Heap}
theorem Def.fn {x:Str}{st:Stmt}{N ps:List Str}{k:Nat}{g:FS}{h:Heap}(F:Def K x st)(X:K.In h)(G:h.Ns mainGlobals mg)(S:FnScope N ps (aM st))
  (hbd:∀(kV doc pm:Value)(an:Option Addr)(cdv ct:Value)(us:List Value),us.length=ps.length->bindArgs (PySem.W.fnOf x x (eF st) (cf st) (aM st) .none kV doc pm an cdv ct) ⟨us,[]⟩=pure (ps.zip us))
  (hb:∀(f:Addr)(cdv:Value)(A:Around)(outer:List PySem.Env)(s:Shared)(H:Hp)(E:XK),Room k (A.deeper (envOfC x (aM st) s.heap.objs.size f cdv))->JSs (lB CX0 P w K mg base N x (aM st) f cdv A outer s H E).nox (cf st) g):
  Fn P w K mg base (k+1) x (aN g ps.length (N.length - ps.length)):=by
 obtain⟨f,fd,F1,a⟩:=F;exact⟨f,fd,ps,GE F1 S (hb f),PySem.W.mg_of X G a,F1.kp,F1.binds hbd⟩
end
def GM (H:Hp):Prop:=∀b,H b=none∨(∃o xs,H b=some (.frz o (.lst xs)))∨∃q,H b=some (.tbl q)
noncomputable def mh (tabs:List (Addr×Str))(G:Hp):Hp:=λb=>match tabs.lookup b with|some q=>some (.tbl q)|none=>G b
theorem eP {tabs:List (Addr×Str)}{G:Hp}{b:Addr}{q:Str}(e:tabs.lookup b=some q):mh tabs G b=some (.tbl q):=by unfold mh;rw[e]
theorem gp {tabs:List (Addr×Str)}{G:Hp}{b:Addr}(e:tabs.lookup b=none):mh tabs G b=G b:=by unfold mh;rw[e]
theorem yw {P:Program}{w:World}{K:PySem.W.Frag}{mg mb:Str->Option Value}{k:Nat}{fa a:Addr}{fd:FuncData}{x:Str}{sp:Sp}{s₁:Shared}{vs:List Value}{ns:List Int}(tabs:List (Addr×Str))
  (ht:∀b q,tabs.lookup b=some q->s₁.heap.get? b=some (PySem.W.tabObj #[])/\isCodeTable s₁.heap b) (hnt:PySem.W.noTabs K=true)
  (KX:K.In s₁.heap) (hns:s₁.heap.Ns mainGlobals mg) (hb:s₁.heap.Ns builtinsNs mb) (hbb:∀x:Str,x ≠ "__name__"->mb x=bootBuiltins x) (hlim:s₁.heap.NoLimit)
  (hbm:∃bm ob,mg "__builtins__" = some (.ref bm)/\bm≠builtinsNs/\s₁.heap.get? bm=some ob/\ob.cls=.type "module"/\ob.dict=some builtinsNs/\ob.data=.plain) (hg:s₁.gens=#[])
  (ha:s₁.heap.get? a=some { cls:=.type "list",data:=.seq vs.toArray }) (hi:IntsAre vs ns) (hl:ns.length<=sizeLine) (hr:Room k callerA)
  (F:∀base:Heap,K.In base->base.Ns mainGlobals mg->FnOk P w K mg base CX0 k fa fd [x] sp) (hbind:∀(s:Shared)(u:Value),BindsTo s fd ⟨[u],[]⟩ [(x,u)])
  (hsp:∀H:Hp,(∀b q,tabs.lookup b=some q->H b=some (.tbl q))->SqL K H a (ns.map V.int)->sp [.ref a] H (λv _=>v=.bl true) λ_ _ _=>False):
  codeAny (model P w) callerA (.call (.ref fa) ⟨[.ref a],[]⟩) (λr s'=>r=.ok (.ret (.bool true))/\OldK s₁.heap s'.heap/\s'.os=s₁.os/\AllBare s'.gens) s₁:=by
 have rv:=L2.gn hi;have lenV:=hi.length;have core:∀H:Hp,GM H->(∀b q,tabs.lookup b=some q->H b=some (.tbl q))->SqL K H a (ns.map V.int)->HOk P w H s₁.heap->(∀b q,H b=some (.tbl q)->s₁.heap.get? b=some (PySem.W.tabObj #[])/\isCodeTable s₁.heap b) ->
   (∀b o u,H b=some (.frz o u)->b=a)->(∀b o u,H b=some (.frz o u)->K.lookup b=none) ->
   codeAny (model P w) callerA (.call (.ref fa) ⟨[.ref a],[]⟩) (λr s'=>r=.ok (.ret (.bool true))/\OldK s₁.heap s'.heap/\s'.os=s₁.os/\AllBare s'.gens) s₁:=by
  intro H hO hT hS hok hA hB hK;have noA:∀ {b:Addr}{o:Obj},s₁.heap.get? b=some o->(o.cls≠.none)->(o.cls≠.type "list")->H b=none:=λ{b o} e d d'=>by
   rcases hO b with q|⟨ob,xs,q⟩|⟨u,q⟩
   ·exact q
   ·have e':b=a:=hB b _ _ q;subst e';rw[ha]at e;cases e;exact absurd rfl d'
   ·rw[(hA b u q).1]at e;cases e;exact absurd rfl d
  have noD:∀ {b:Addr}{o:Obj}{es:Array DictEntry}{ep:Nat},s₁.heap.get? b=some o->o.data=.dict es ep->H b=none:=λ{b o es ep} e d=>by
   rcases hO b with q|⟨ob,xs,q⟩|⟨u,q⟩
   ·exact q
   ·have e':b=a:=hB b _ _ q;subst e';rw[ha]at e;cases e;cases d
   ·rw[(hA b u q).1]at e;cases e;cases d
  have nsK:∀ {b:Addr}{m:Str->Option Value},s₁.heap.Ns b m->(rM s₁.heap H).Ns b m:=λ{b m} ⟨o,es,ep,e,d,r⟩=>⟨o,es,ep,lS e (noD e d),d,r⟩;have hKb:K.In (rM s₁.heap H):=λb o e=>lS (KX b o e) (by
   rcases hO b with q|⟨ob,xs,q⟩|⟨u,q⟩
   ·exact q
   ·rw[hK b _ _ q]at e;cases e
   ·have z:=(hA b u q).1;rw[KX b o e]at z;cases z
    have:=List.all_eq_true.mp hnt _ (PySem.W.mem_of_lookupK e);simp at this)
  have hM:Mod K mg (rM s₁.heap H):=⟨hKb,nsK hns,⟨mb,nsK hb,hbb⟩,let ⟨mc,h1,h2⟩:=hlim;⟨mc,nsK h1,h2⟩,by
   obtain⟨bm,ob,b1,b2,b3,b4,b5⟩:=hbm;exact⟨bm,ob,b1,b2,lS b3 (noA b3 (by rw[b4];exact λz=>nomatch z) (by rw[b4];intro z;injection z with z;exact absurd z (by decide))),b4,b5⟩⟩
  have e0:Env0 P w K mg (rM s₁.heap H) callerA [] s₁ H:=⟨rfl,hM,λb o e=>BF e,Nat.le_of_eq (xY _ _),trivial,λb hb=>absurd (show b∈([]:List Addr)from hb) (by simp),hok,.of_eq hg⟩;refine codeAny_mono ((F _ hKb (nsK hns)).run callerA [] s₁ H ⟨[.ref a],[]⟩ [.ref a] [.ref a] _ _ hr e0 (hbind s₁ (.ref a)) (.cons rfl .nil) (hsp H hT hS)) λr s' h=>?_;cases r with
  |error e=>exact False.elim h
  |ok fl=>
   cases fl with
   |next=>exact False.elim h
   |brk=>exact False.elim h
   |cont=>exact False.elim h
   |ret u=>
    obtain⟨v,H',os,bare,un,hok',r',q⟩:=h;have q':v=.bl true:=q;subst q';obtain rfl:u=Value.bool true:=r';have kp:∀b o,H b=none->s₁.heap.get? b=some o->s'.heap.get? b=some o:=λb o n e=>un.keep b o e n (by intro z;exact absurd (show b∈([]:List Addr)from z) (by simp)) (by simp);refine⟨rfl,⟨λb o e=>?_,λb o e=>un.there b o e (by simp)⟩,os,bare⟩;rcases hO b with z|⟨ob,xs,z⟩|⟨u,z⟩
    ·exact .inl (kp b o z e)
    ·have z2:=un.frzs b ob _ z;obtain⟨e1,_⟩:=hok b _ z;obtain⟨e2,_⟩:=hok' b _ z2;rw[e]at e1;cases e1;exact .inl e2
    ·obtain⟨e1,e2⟩:=hA b u z;rw[e]at e1;cases e1;obtain⟨ps,e3,_⟩:=hok' b _ (un.tbls b u z);exact .inr (.inl ⟨e2,rfl,#[],ps,rfl,by simpa using e3⟩)
 have tabNot:∀q,tabs.lookup a≠some q:=λq z=>by
  have:=(ht a q z).1;rw[ha]at this;cases this
 have ta:tabs.lookup a=none:=by
  cases z:tabs.lookup a with
  |none=>rfl
  |some q=>exact absurd z (tabNot q)
 have tabOk:∀(G:Hp) b q,tabs.lookup b=some q->b8 P w (mh tabs G) s₁.heap b (.tbl q):=λG b q z=>⟨#[],(ht b q z).1,trivial,λpos cv c=>by cases c⟩;cases hk:K.lookup a with
 |some o=>
  have e:=KX a o hk;rw[ha]at e;cases e
  refine core (mh tabs λ_=>none) (λb=>?_) (λb q z=>eP z) (.inr ⟨_,vs.toArray,_,hk,rfl,rfl,rfl,by rw[List.size_toArray,lenV];exact hl,by simpa using rv⟩) (λb u z=>?_) (λb q z=>?_) (λb o u z=>?_) λb o u z=>?_
  all_goals cases zt:tabs.lookup b with
   |none=>first|exact .inl (gp zt)|(rw[gp zt]at z;cases z)
   |some q'=>first|exact .inr (.inr ⟨q',eP zt⟩)|(rw[eP zt]at z;cases z;done)|(rw[eP zt]at z;cases z;first|exact tabOk _ b _ zt|exact ht b _ zt)
 |none=>
  refine core (mh tabs λb=>if b=a then some (.frz { cls:=.type "list",data:=.seq vs.toArray } (.lst (ns.map V.int)))else none) (λb=>?_) (λb q z=>eP z) (.inl (.inr ⟨{ cls:=.type "list",data:=.seq vs.toArray },by rw[gp ta,if_pos rfl]⟩)) (λb u z=>?_) (λb q z=>?_) (λb o u z=>?_) λb o u z=>?_
  all_goals cases zt:tabs.lookup b with
   |some q'=>first|exact .inr (.inr ⟨q',eP zt⟩)|(rw[eP zt]at z;cases z;done)|(rw[eP zt]at z;cases z;first|exact tabOk _ b _ zt|exact ht b _ zt)
   |none=>
    first
    |rw[gp zt]at z
    |rw[gp zt]
    by_cases hb:b=a
    ·first
     |rw[if_pos hb]at z
     |rw[if_pos hb]
     first
     |exact .inr (.inl ⟨_,_,rfl⟩)
     | (cases z;subst hb;exact⟨ha,by rw[List.length_map];exact hl,vs,_,rv,ha⟩)
     |exact hb
     | (rw[hb];exact hk)
     |cases z
    ·first
     | (rw[if_neg hb]at z;cases z)
     |exact .inl (if_neg hb)
noncomputable def qD (L:List (Str×Option (Addr×Addr))):List (Addr×Str):=L.filterMap λp=>p.2.map λq=>(q.2,lW p.1)
structure TabsFit (K:PySem.W.Frag)(L:List (Str×Option (Addr×Addr))):Prop where
 names:L=j6.map λx=>(x,PySem.W.tabIn K x)
 apart:((qD L).map (·.1)).Nodup
 none:PySem.W.noTabs K=true
theorem jb {α β:Type}[BEq α][LawfulBEq α]:∀ {l:List (α×β)}{a:α}{b:β},(l.map (·.1)).Nodup->(a,b)∈l->l.lookup a=some b
 | (c,d)::l,a,b,nd,h=>by
  rw[List.lookup_cons];rcases List.mem_cons.mp h with e|h
  ·cases e;simp
  ·have ne:a≠c:=λz=>(List.nodup_cons.mp nd).1 (by rw[←z];exact List.mem_map.mpr ⟨(a,b),h,rfl⟩);rw[show(a == c)=false by simpa using ne];exact jb (List.nodup_cons.mp nd).2 h
theorem iA {α β:Type}[BEq α][LawfulBEq α]:∀ {l:List (α×β)}{a:α}{b:β},l.lookup a=some b->(a,b)∈l
 | (c,d)::l,a,b,h=>by
  rw[List.lookup_cons]at h;cases e:a == c with
  |true=>rw[e]at h;cases h;rw[eq_of_beq e];exact mX
  |false=>rw[e]at h;exact mZ _ (iA h)
theorem TabsFit.tb {K:PySem.W.Frag}{L:List (Str×Option (Addr×Addr))}(F:TabsFit K L){H:Hp}(h:∀b q,(qD L).lookup b=some q->H b=some (.tbl q)):Tb K H:=λx hx c P e=>by
 refine h P (lW x) (jb F.apart ?_);rw[F.names];exact List.mem_filterMap.mpr ⟨(x,PySem.W.tabIn K x),List.mem_map.mpr ⟨x,hx,rfl⟩,by rw[e];rfl⟩
theorem tab_yes {K:PySem.W.Frag}{x:Str}{f c P:Addr}{oc oc':Value}{od od':Option Addr}{osl osl':Array (Option Value)}{fd:FuncData}{vs:Array Value}(e1:PySem.W.nsIn K mainGlobals x=some (some (.ref f)))(e2:K.lookup f=some ⟨oc,od,.func fd,osl⟩)(e3:fd.code=.ref c)
  (e4:K.lookup c=some ⟨oc',od',.fields vs,osl'⟩) (e5:vs[11]? = some (.ref P)):PySem.W.tabIn K x=some (c,P):=by unfold PySem.W.tabIn;simp only[e1,e2,e3,e4,e5]
theorem tabs_fit {K:PySem.W.Frag}{t0 t1 t2 t3:Option (Addr×Addr)}(h0:PySem.W.tabIn K "in_order" = t0)(h1:PySem.W.tabIn K "has_seal" = t1)(h2:PySem.W.tabIn K "is_first_death" = t2)(h3:PySem.W.tabIn K "bases_by" = t3)
  (ap:((qD [("in_order",t0),("has_seal",t1),("is_first_death",t2),("bases_by",t3)]).map (·.1)).Nodup) (nt:PySem.W.noTabs K=true):TabsFit K [("in_order",t0),("has_seal",t1),("is_first_death",t2),("bases_by",t3)] :=
 ⟨by subst h0;subst h1;subst h2;subst h3;rfl,ap,nt⟩
theorem walkD {l:PySem.W.OpenLaw}{q:Program}{loose:List Str}{XP:(Str->Option Value)->Heap->Prop}{YP:World->Heap->Prop}{d:DefRec}{K:Params->PySem.W.Frag}{k:Nat}{x:Str}{f:List D->Option (D×Bool)}{L:List (Str×Option (Addr×Addr))}(hn:l.most=some 63)(hdf:d.params.defaults=[])(hr:Room k callerA)
  (hY:∀(w:World)(h:Heap),YP w h->(K w.params).In h) (hT:∀w:World,TabsFit (K w.params) L) (hD:(L.all λp=>p.2.isNone || ((recsOf q).find? λe=>e.name == p.1).isSome)=true)
  (F:∀(w:World)(mg:Str->Option Value)(fa:Addr)(h:Heap),(K w.params).In h->h.Ns mainGlobals mg->mg d.name=some (.ref fa) ->
   ∃fd:FuncData,(∀(s:Shared)(u:Value),BindsTo s fd ⟨[u],[]⟩ [(x,u)])/\∀base:Heap,(K w.params).In base->base.Ns mainGlobals mg->FnOk l.prog w (K w.params) mg base CX0 k fa fd [x] (spD (K w.params) f))
  (ht:∀ns:List Int,ns.length<=63->∃b,f [.lst (ns.map .int)]=some (.bl true,b)):PySem.W.WalkO q loose XP YP l.row.toRowW d [] (λf vs=>PySem.call f vs):=by
 refine Att.rS hn hdf λw s₀ s₁ mg mb fa o pm cd doc a vs ns G Y ho hd hcd hmg hobj hints hlen hg=>?_;have KX:=hY w _ Y;obtain⟨fd,hb,hF⟩:=F w mg fa _ KX G.T.g hmg;refine yw (qD L) (λb u e=>?_) (hT w).none KX G.T.g G.T.b G.T.builtins G.T.nolimit G.T.bmain hg hobj hints (Nat.le_trans hlen (by decide)) hr hF hb λH hH hS=>?_
 ·obtain⟨p,hp,e2⟩:=List.mem_filterMap.mp (iA e);obtain⟨⟨c,P⟩,e3,e4⟩:=oY e2;cases e4
  have hp':=List.all_eq_true.mp hD p hp;rw[e3]at hp';rw[Option.isNone_some,Bool.false_or]at hp';obtain⟨r,hr'⟩:=Option.isSome_iff_exists.mp hp';have ht':PySem.W.tabIn (K w.params) p.1=some (c,P):=by
   rw[(hT w).names]at hp;obtain⟨y,_,rfl⟩:=List.mem_map.mp hp;exact e3
  obtain⟨h1,h2⟩:=PySem.W.tab_of G.T KX hr' ht';exact⟨h2,(h1.tab h2).isCodeTable⟩
 ·obtain⟨b,e⟩:=ht ns hlen;exact⟨H,_,_,b,⟨.refl H,(hT w).tb hH⟩,.cons (.lst hS (.flat rfl)) .nil,e,λv H' N x' i' _=>by cases i';rfl⟩
theorem Def.law {P:Program}{w:World}{K:PySem.W.Frag}{mg:Str->Option Value}{x y:Str}{st:Stmt}{N:List Str}{k:Nat}{g:FS}{h:Heap}{fa:Addr}(F:Def K x st)(X:K.In h)(G:h.Ns mainGlobals mg)(hfa:mg x=some (.ref fa))(S:FnScope N [y] (aM st))
  (hbd:∀(kV doc pm:Value)(an:Option Addr)(cdv ct:Value)(u:Value),bindArgs (PySem.W.fnOf x x (eF st) (cf st) (aM st) .none kV doc pm an cdv ct) ⟨[u],[]⟩=pure [(y,u)])
  (hb:∀(base:Heap),K.In base->base.Ns mainGlobals mg->∀(f:Addr)(cdv:Value)(A:Around)(outer:List PySem.Env)(s:Shared)(H:Hp)(E:XK),Room k (A.deeper (envOfC x (aM st) s.heap.objs.size f cdv))->JSs (lB CX0 P w K mg base N x (aM st) f cdv A outer s H E).nox (cf st) g):
  ∃fd:FuncData,(∀(s:Shared)(u:Value),BindsTo s fd ⟨[u],[]⟩ [(y,u)])/\∀base:Heap,K.In base->base.Ns mainGlobals mg->FnOk P w K mg base CX0 (k+1) fa fd [y] (spD K (aN g 1 (N.length - 1))):=by
 obtain⟨f,fd,F1,a⟩:=F;have e:=hfa.symm.trans (PySem.W.mg_of X G a);cases e
 refine⟨fd,λs u=>?_,λbase kb nb=>GE F1 S (hb base kb nb _)⟩;obtain⟨oc,od,kV,doc,pm,an,cdv,ct,osl,rfl,lk,hcd⟩:=F1.ex;exact .of_eq (hbd kV doc pm an cdv ct u)
section
variable {X:Cx}{a b e:Expr}{pos:Pos}{x:Str}{p:Pos}
@[simp] noncomputable def Ab:D->D->Option (D×Bool)
 |.lst xs,.lst ys=>if xs.length+ys.length<=sizeLine then some (.lst (xs++ys),true)else none
 |_,_=>none
theorem Fi:OpR X (binaryOp .Add) (rD X.K Ab):=by
 intro pins s σ H x y v u Q I rx ry q;obtain⟨B,dx,dy,d,bb,sB,ix,iy,ee,q⟩:=q;cases ix<;>cases iy<;>try (simp[Ab]at ee;done)
 rename_i l vs ds h hl l' ws es h' hl';simp only[Ab]at ee;split at ee
 ·rename_i hz;cases ee
  cases rx
  cases ry
  obtain⟨its,r1,p1,z1⟩:=I.list (sB.seq h);obtain⟨jts,r2,p2,z2⟩:=I.list (sB.seq h');obtain⟨⟨c1,d1,t1,s1⟩,o1,e1,n1,k1⟩:=p1.isList;obtain⟨⟨c2,d2,t2,s2⟩,o2,e2,n2,k2⟩:=p2.isList;dsimp only at e1 k1 e2 k2;subst e1;subst k1;subst e2;subst k2;have hsz:its.toArray.size+jts.toArray.size<=sizeLine:=by
   rw[List.size_toArray,List.size_toArray,←r1.length,←r2.length,hl.length,hl'.length];exact hz
  have ea:its.toArray++jts.toArray=(its++jts).toArray:=by simp
  refine concat_meets ⟨_,o1,rfl⟩ ⟨_,o2,rfl⟩ noFill_list_add seq_list_add PySem.F.slot_list_add PySem.F.entry_list_add (PySem.F.args_list_add_2 _ _) (list_addW l l' its.toArray jts.toArray n1 n2 d1 d2 s1 s2 hsz) ⟨o1,o2,?_⟩;rw[ea];have xt:=Ext.laid (o:=.lst (vs++ws)) sB I.fresh;have il:=(hl.append hl').mono xt.bn;exact⟨.ref s.heap.objs.size,_,I.lnew (t':=s.toks) (r1.append r2) (by rw[List.length_append,hl.length,hl'.length];exact hz),rfl,q _ _ _ xt (.lst (SqL.of aD) il) λ_=>⟨_,_,_,rfl,rfl,I.fresh,aD,il⟩⟩
 ·cases ee
@[simp] noncomputable def ml:D->D->Option (D×Bool)
 |.tup xs,.tup ys=>if xs.length+ys.length<=sizeLine/\xs.isEmpty=false then some (.tup (xs++ys),false)else none
 |_,_=>none
theorem Ac:OpR X (binaryOp .Add) (rD X.K ml):=by
 refine gd BX λx y H Q q=>?_;obtain⟨B,dx,dy,d,bb,sB,ix,iy,ee,q⟩:=q;cases ix<;>cases iy<;>try (simp[ml]at ee;done)
 rename_i l vs ds h hl l' ws es h' hl';simp only[ml]at ee;split at ee
 ·rename_i hz;cases ee
  have l1:=hl.length;have l2:=hl'.length;refine⟨l,l',vs,ws,rfl,rfl,aV sB h,aV sB h',λz=>?_,by omega,λz=>?_,λ_ pp hp=>?_⟩
  ·subst z;cases hl
   simp at hz
  ·subst z;cases hl'
   rw[List.append_nil]at q;exact q.one sB (.tup h hl)
  ·have xt:=Ext.laid (o:=.tup (vs++ws)) sB hp;exact q _ _ _ xt (.tup (SqT.of aD) ((hl.append hl').mono xt.bn)) (by simp)
 ·cases ee
@[simp] noncomputable def yx:D->D->Option (D×Bool)
 |.bl i,.int j=>some (.int ((if i=true then 1 else 0)+j),false)
 |.int i,.bl j=>some (.int (i+b2i j),false)
 |_,_=>none
theorem Fj:OpR X (binaryOp .Add) (rD X.K yx):=by
 intro pins s σ H x y v u Q I rx ry q;obtain⟨B,dx,dy,d,bb,sB,ix,iy,ee,q⟩:=q;cases ix<;>cases iy<;>try (simp[yx]at ee;done)
 ·simp only[yx]at ee;cases ee
  cases rx
  obtain⟨t,rfl⟩:=ry;exact IntBool.add_bool_int ⟨.int _,H,I.tok _,⟨_,rfl⟩,q.one sB (.int _)⟩
 ·simp only[yx]at ee;cases ee
  exact yf pins s σ H _ _ v u Q I rx ry ⟨_,_,rfl,rfl,q.one sB (.int _)⟩
@[simp] noncomputable def bC:D->D->Option (D×Bool)
 |.int i,.int j=>some (.int (i+j),false)
 |.str i,.str j=>if i.length+j.length<=sizeLine then some (.str (i++j),false)else none
 |.lst xs,.lst ys=>if xs.length+ys.length<=sizeLine then some (.lst (xs++ys),true)else none
 |.tup xs,.tup ys=>if xs.length+ys.length<=sizeLine/\xs.isEmpty=false then some (.tup (xs++ys),false)else none
 |.bl i,.int j=>some (.int ((if i=true then 1 else 0)+j),false)
 |.int i,.bl j=>some (.int (i+b2i j),false)
 |_,_=>none
theorem aY:OpR X (binaryOp .Add) (rD X.K bC):=by
 refine gd (r:=rD X.K (orD wD (orD Ab (orD ml yx)))) (k7 Cz (k7 Fi (k7 Ac Fj))) λx y H Q q=>?_;obtain⟨B,dx,dy,d,bb,sB,ix,iy,ee,q⟩:=q;refine⟨B,dx,dy,d,bb,sB,ix,iy,?_,q⟩;cases dx<;>cases dy<;>simp[bC]at ee<;>simp[orD,wD,Ab,ml,yx,ee]
@[simp] noncomputable def blD:D->Option Bool
 |.bl b=>some b
 |_=>none
noncomputable def sG:List D->Option (List Bool)
 |[]=>some []
 |d::ds=>(blD d).bind λb=>(sG ds).map (b :: ·)
@[simp] theorem GN:sG []=some []:=rfl
@[simp] theorem yy (d:D)(ds:List D):sG (d::ds)=(blD d).bind λb=>(sG ds).map (b :: ·):=rfl
theorem wK {K:PySem.W.Frag}{B:Hp}:∀ {vs:List V}{ds:List D}{bs:List Bool}{its:List Value},L2.aQ vs its->IsL K B vs ds->sG ds=some bs->its=bs.map Value.bool
 |_,_,_,_,.nil,.nil,e=>by cases e;rfl
 |_,_,_,_,.cons r rr,.cons i ii,e=>by
  rw[yy]at e;obtain⟨b,e1,e⟩:=oX e;obtain⟨bs,e2,e⟩:=oY e;subst e;cases i<;>simp only[blD]at e1<;>try (cases e1;done)
  cases e1
  cases r
  rw[wK rr ii e2];rfl
@[simp] noncomputable def GO:List D->Option (D×Bool)
 |[.lst ds]=>(sG ds).map λbs=>(.bl (bs.all id),false)
 |_=>none
@[simp] noncomputable def Iv:List D->Option (D×Bool)
 |[.lst ds]=>(sG ds).map λbs=>(.bl (bs.any id),false)
 |_=>none
theorem GP (hc:X.calm=true:=by rfl):bA X (.builtin "all") (rDA X.K GO):=by
 intro pins s σ H xs us Q I rs q;obtain⟨B,ds,d,bb,sB,i,ee,q⟩:=q;match ds,i,ee with
 |[.lst es],.cons i1 .nil,ee=>
  obtain⟨bs,eb,ee⟩:=oY ee;cases ee
  obtain⟨u1,rfl,r1⟩:=fR rs;cases i1 with
  |@lst l vs _ h hl=>
   cases r1
   obtain⟨its,rv,p1,z1⟩:=I.list (sB.seq h);have ei:=wK rv hl eb;have hlt:l<s.heap.objs.size:=by obtain⟨_,e0,_⟩:=p1.isList;exact Heap.lt_size e0
   refine call_all_walk (wpAny_pyIter_list p1.isList ⟨_,_,_,_,_,_,λj=>(bs[j]?).getD true,rfl,Walks.list (A:=X.A.in1) (I.ok.hd hc) s.heap.objs.size l (Nat.ne_of_lt hlt) its.toArray,⟨⟨_,Heap.get?_push_size _ rfl,rfl,rfl⟩,p1.isList.push _⟩,λj v s' Q' E' hP hQ=>?_,λh' tk hk=>?_⟩)
   ·have hP':its[j]? = some v:=by simpa using hP
    rw[ei,List.getElem?_map]at hP';obtain⟨c,e1,e2⟩:=oY hP';subst e2;dsimp only at hQ;rw[e1]at hQ;exact wpAny_truthy_bool hQ
   ·have ea:((List.range its.toArray.size).all λj=>(bs[j]?).getD true)=bs.all id:=by
     rw[List.size_toArray,ei,List.length_map];exact LSm.range_all bs
    rw[ea];refine⟨.bl _,H,I.kept λc o e0=>?_,rfl,q.one sB (.bl _)⟩;exact hk c o (λhm=>by rw[List.mem_singleton.mp hm]at e0;exact Nat.lt_irrefl _ (Heap.lt_size e0)) (Heap.get?_push_of_some _ e0)
end
noncomputable def Its (z:Str):It:=⟨λi _=>i<z.cps.size,λi H v H'=>H'=H/\∃c,z.cps[i]? = some c/\v=.str ⟨#[c]⟩,λi _=>z.cps.size<=i⟩
theorem sI {P:Program}{w:World}{K:PySem.W.Frag}{tg:Expr}(z:Str)(t:Tok)(it:Addr):Turn P w K tg (Its z) [it] it (λi h=>h.IsStrIter it "str_ascii_iterator" z t i) where
 mem:=List.mem_singleton.mpr rfl
 obj:=λi h st b hb=>by
  have eb:=List.mem_singleton.mp hb;subst eb;obtain⟨o,e1,_,d1⟩:=st;exact⟨o,e1,λv zz=>by rw[d1]at zz;cases zz⟩
 keep:=λi h h' st k=>let ⟨o,e1,r⟩:=st;⟨o,k it (List.mem_singleton.mpr rfl) o e1,r⟩
 item:=by
  intro X hP hw hK hc i pins s σ H E I hf st hg;subst hP hw hK;have hg':i<z.cps.size:=hg;obtain⟨f0,f1,f2,f3,f4,f5⟩:=hf it (List.mem_singleton.mpr rfl);refine wpAny_pyNext_ascii_item st (c:=z.cps[i]) (by simp[hg']) λh' st' sb=>?_;obtain⟨o,e1,c1,d1⟩:=id st';exact⟨_,rfl,oJ (s:={ s with heap:=h',toks:=s.toks+1 }) e1 c1 d1 (by decide) ⟨.str ⟨#[z.cps[i]]⟩,H,I.turned (λb o hb e2=>(sb.2 b hb).trans e2) f0 f1 f3 f4 f5,⟨_,rfl⟩,⟨rfl,_,by simp[hg'],rfl⟩,st',λb hb=>(hf b hb).1⟩⟩
 done:=by
  intro X hP hw hK hc i pins s σ H E I hf st hg;subst hP hw hK;have hg':z.cps.size<=i:=hg;obtain⟨f0,f1,f2,f3,f4,f5⟩:=hf it (List.mem_singleton.mpr rfl);exact wpAny_pyNext_ascii_end (I.ok.hd hc) st (by simp;omega) λh' eb=>⟨rfl,I.turned (t':=s.toks) (λb o hb e2=>eb b o hb e2) f0 f1 f3 f4 f5⟩
 self:=λ_ _ _ _ _ st h=>wpAny_pyIter_striter_ascii st h
theorem sJ {P:Program}{w:World}{K:PySem.W.Frag}{tg:Expr}(z:Str)(t:Tok)(it:Addr):Turn P w K tg (Its z) [it] it (λi h=>h.IsStrIter it "str_iterator" z t i) where
 mem:=List.mem_singleton.mpr rfl
 obj:=λi h st b hb=>by
  have eb:=List.mem_singleton.mp hb;subst eb;obtain⟨o,e1,_,d1⟩:=st;exact⟨o,e1,λv zz=>by rw[d1]at zz;cases zz⟩
 keep:=λi h h' st k=>let ⟨o,e1,r⟩:=st;⟨o,k it (List.mem_singleton.mpr rfl) o e1,r⟩
 item:=by
  intro X hP hw hK hc i pins s σ H E I hf st hg;subst hP hw hK;have hg':i<z.cps.size:=hg;obtain⟨f0,f1,f2,f3,f4,f5⟩:=hf it (List.mem_singleton.mpr rfl);refine wpAny_pyNext_wide_item st (c:=z.cps[i]) (by simp[hg']) λh' st' sb=>?_;obtain⟨o,e1,c1,d1⟩:=id st';exact⟨_,rfl,oJ (s:={ s with heap:=h',toks:=s.toks+1 }) e1 c1 d1 (by decide) ⟨.str ⟨#[z.cps[i]]⟩,H,I.turned (λb o hb e2=>(sb.2 b hb).trans e2) f0 f1 f3 f4 f5,⟨_,rfl⟩,⟨rfl,_,by simp[hg'],rfl⟩,st',λb hb=>(hf b hb).1⟩⟩
 done:=by
  intro X hP hw hK hc i pins s σ H E I hf st hg;subst hP hw hK;have hg':z.cps.size<=i:=hg;obtain⟨f0,f1,f2,f3,f4,f5⟩:=hf it (List.mem_singleton.mpr rfl);exact wpAny_pyNext_wide_end (I.ok.hd hc) st (by simp;omega) λh' eb=>⟨rfl,I.turned (t':=s.toks) (λb o hb e2=>eb b o hb e2) f0 f1 f3 f4 f5⟩
 self:=λ_ _ _ _ _ st h=>wpAny_pyIter_striter_wide st h
section
variable {X:Cx}{a b e:Expr}{pos:Pos}{x:Str}{p:Pos}{tg:Expr}
theorem Ad {l:Expr}{tl:TE}(hl:PE X l tl):PI X tg l (λσ H R=>tl σ H λx H1=>∃z,x=.str z/\R (Its z) H1):=by
 intro pins s σ H R I h;refine thn (hl pins s σ H _ I h) λv s1 ⟨x,H1,I1,r1,q1⟩=>?_;obtain⟨z,rfl,q⟩:=q1;obtain⟨t,rfl⟩:=r1;have fp:∀b∈[s1.heap.objs.size],ko X pins H1 b:=λb hb=>by
  rw[List.mem_singleton.mp hb];exact I1.fpOk (Nat.le_refl _) (I1.hok.fresh (Nat.le_refl _))
 cases ha:z.cps.all (· < 128) with
 |true=>exact wpAny_pyIter_ascii ha ⟨_,[s1.heap.objs.size],_,_,H1,rfl,I1.kept (t':=s1.toks) λb o e=>Heap.get?_push_of_some _ e,sI z t _,⟨_,Heap.get?_push_size _ rfl,rfl,rfl⟩,fp,q⟩
 |false=>exact wpAny_pyIter_wide ha ⟨_,[s1.heap.objs.size],_,_,H1,rfl,I1.kept (t':=s1.toks) λb o e=>Heap.get?_push_of_some _ e,sJ z t _,⟨_,Heap.get?_push_size _ rfl,rfl,rfl⟩,fp,q⟩
noncomputable def wL (z:Str):List D:=z.cps.toList.map λc=>.str ⟨#[c]⟩
theorem Ae {K:PySem.W.Frag}{B:Hp}(z:Str):o0 K (Its z) B (wL z):=by
 intro i H s;refine⟨λd ed=>?_,λhl=>by unfold wL at hl;show z.cps.size<=i;simpa using hl⟩;unfold wL at ed;rw[List.getElem?_map]at ed;obtain⟨c,ec,rfl⟩:=oY ed;have ec':z.cps[i]? = some c:=by simpa using ec
 refine⟨(Array.getElem?_eq_some_iff.mp ec').1,λv H' hy=>?_⟩;obtain⟨rfl,c',e1,rfl⟩:=hy;rw[ec']at e1;cases e1;exact⟨B,.refl s,.str _⟩
@[simp] noncomputable def Fk:D->Option (List D)
 |.lst ds=>some ds
 |.tup ds=>some ds
 |.str z=>some (wL z)
 |_=>none
@[simp] noncomputable def cw (f:FE):FA:=λρ=>(f ρ).bind λx=>Fk x.1
theorem cx {f:FE}(h:JE X e f):JI X tg e (cw f):=by
 intro pins s σ H R I q;obtain⟨B,ρ,ds,sB,r,e',q⟩:=q;obtain⟨xx,ex,es⟩:=oX e';obtain⟨xd,xb⟩:=xx;cases xd with
 |lst l=>exact wJ h pins s σ H R I ⟨B,ρ,ds,sB,r,by unfold zZ;rw[ex];exact es,q⟩
 |tup l=>exact wJ h pins s σ H R I ⟨B,ρ,ds,sB,r,by unfold zZ;rw[ex];exact es,q⟩
 |str z=>
  cases es
  refine Ad h pins s σ H R I ⟨B,ρ,_,_,sB,r,ex,λv H1 N1 x1 i1 _=>?_⟩;cases i1
  exact⟨z,rfl,q _ H1 N1 x1 (Ae z)⟩
 |_=>cases es
theorem C3:SlR X (λx lo hi H Q=>∃z,x=.str z/\z.length<=sizeLine/\Q (.str (Txt.slice z lo hi)) H):=by
 intro pins s σ H x v vl vu lo hi sl Q I rx hs pl pu h;obtain⟨z,rfl,hz,q⟩:=h;obtain⟨t,rfl⟩:=rx;have fin:∀lo hi,Q (.str (Txt.slice z lo hi)) H->(Txt.slice z lo hi).length<=sizeLine/\∀t' k,EP X pins σ Q (.str (Txt.slice z lo hi) t') { s with toks:=k }:=λlo hi q=>
  ⟨Nat.le_trans (Txt.slice_le z _ _) hz,λt' k=>⟨.str _,H,I.tok k,⟨t',rfl⟩,q⟩⟩
 refine⟨"str",_,PySem.F.slot_str_getitem.lookup,typeIs_str _ _ _,?_⟩;cases pl with
 |none=>
  cases pu with
  |none=>exact wpAny_getItem_str_slice (l:=none) (u:=none) (st:=none) hs rfl (post_val_or_str (fin _ _ q))
  |int j tj=>exact wpAny_getItem_str_slice (l:=none) (u:=some (j,tj)) (st:=none) hs rfl (post_val_or_str (fin _ _ q))
 |int i ti=>
  cases pu with
  |none=>exact wpAny_getItem_str_slice (l:=some (i,ti)) (u:=none) (st:=none) hs rfl (post_val_or_str (fin _ _ q))
  |int j tj=>exact wpAny_getItem_str_slice (l:=some (i,ti)) (u:=some (j,tj)) (st:=none) hs rfl (post_val_or_str (fin _ _ q))
theorem yz {A:Around}{E:Value->Shared->Prop}{s:Shared}{prog:Program}{w:World}{t sl:Addr}{items:Array Value}{vl vu:Value}{lo hi:Option Int}{Q:Value->Shared->Prop}(ht:IsTup s.heap t items)(hs:s.heap.IsSliceOf sl vl vu .none)(pl:IsPart vl lo)(pu:IsPart vu hi)
  (h0:HT.sIx items.size 0 lo=0) (h1:HT.sIx items.size items.size hi=items.size) (h:Q (.ref t) s):wpAny (model prog w) A (getItem (.ref t) (.ref sl)) Q E s:=by
 obtain⟨os,hos,hcs,hds⟩:=id hs
 have hT:s.TypeIs (.ref sl) "slice":=⟨os,hos,hcs⟩
 unfold getItem
 try with_reducible refine wpAny_holding ?_
 first|refine wX (wY ?_)|skip
 refine wX (wpAny_sequenceKey ht.typeIs (by decide) ?_)
 refine wX (wpAny_callSpecial?_slot (name:=Str.ofString "__getitem__") ht.typeIs PyProof.Rows.slot_tuple_getitem (wpAny_call_entry PyProof.Rows.slot_tuple_getitem ht.typeIs entry_tuple_getitem ?_ (args_tuple_getitem _ _)))
 show wpAny _ _ (Builtin.Tuple.tupleItemsOf (.ref t)>>=_) _ _ s
 refine wX (tupleItemsOf_ ht ?_)
 refine wX (wpAny_typeOf hT ?_)
 rw[if_pos (by decide)]
 refine wX (HT.gm hs pl pu ?_)
 have yes:(((HT.sIx items.size 0 lo:Nat):Int) == 0 && (1:Int) == 1 && (HT.sIx items.size items.size hi - HT.sIx items.size 0 lo) == items.size)=true:=by
  rw[h0,h1];simp
 show wpAny _ _ (if(((HT.sIx items.size 0 lo:Nat):Int) == 0 && (1:Int) == 1 && (HT.sIx items.size items.size hi - HT.sIx items.size 0 lo) == items.size)=true then _ else _) _ _ s
 rw[if_pos yes]
 refine wX ?_
 unfold Builtin.Tuple.tupleIsExact
 refine wX (wpAny_typeOf ht.typeIs (wY ?_))
 show wpAny _ _ (if((Value.type "tuple") == Value.type "tuple")=true then _ else _) _ _ s
 rw[if_pos (by decide)]
 refine wX (wpAny_rule ?_)
 exact wY ⟨_,rfl,wY h⟩
theorem C4:SlR X (λx lo hi H Q=>∃a xs,x=.ref a/\SqT X.K H a xs/\HT.sIx xs.length 0 lo=0/\HT.sIx xs.length xs.length hi=xs.length/\Q (.ref a) H):=by
 intro pins s σ H x v vl vu lo hi sl Q I rx hs pl pu h;obtain⟨a,xs,rfl,hx,h0,h1,q⟩:=h;cases rx
 obtain⟨its,r,ht,hz⟩:=I.tuple hx;have hlen:its.toArray.size=xs.length:=by rw[List.size_toArray];exact r.length.symm
 refine⟨"tuple",_,PyProof.Rows.slot_tuple_getitem.lookup,ht.typeIs,?_⟩;exact yz ht hs pl pu (by rw[hlen];exact h0) (by rw[hlen];exact h1) ⟨.ref a,H,I,rfl,q⟩
@[simp] noncomputable def fSl (fa:FE)(fl fh:FO):FE:=λρ=>(fa ρ).bind λx=>(fl ρ).bind λl=>(fh ρ).bind λh=>match x.1 with
 |.lst ds=>some (.lst (o5 ds l h),true)
 |.tup ds=>some (.tup (o5 ds l h),false)
 |.str z=>if z.length<=sizeLine then some (.str (Txt.slice z l h),false)else none
 |_=>none
theorem vq {ds:List D}{lo hi:Option Int}(h0:HT.sIx ds.length 0 lo=0)(h1:HT.sIx ds.length ds.length hi=ds.length):o5 ds lo hi=ds:=by
 unfold o5;rw[h0,h1];simp
theorem sK {lo hi:Option Expr}{p2:Pos}{fa:FE}{fl fh:FO}(ha:JE X e fa)(hl:JO X lo fl)(hh:JO X hi fh):JE X (.Subscript e (.Slice lo hi none p2) pos) (fSl fa fl fh):=by
 refine PE.to (z7 (SlR.or (SlR.or Ca EE) (SlR.or C3 C4)) ha hl hh) λσ H Q q=>?_;obtain⟨B,ρ,d,b,sB,r,e,q⟩:=q;obtain⟨x,ex,e⟩:=oX e;obtain⟨l,el,e⟩:=oX e;obtain⟨h,eh,e⟩:=oX e;refine⟨B,ρ,x.1,x.2,sB,r,ex,λv H1 N1 x1 i1 _=>⟨N1,ρ,l,x1.nh,r.mono x1.bn,el,λH2 h2=>⟨N1,ρ,h,x1.nh.trans h2,r.mono x1.bn,eh,λH3 h3=>?_⟩⟩⟩;have s3:aO N1 H3:=x1.nh.trans (h2.trans h3);have q3:=q.into (x1.trans (.grow x1.nh (h2.trans h3)));obtain⟨xd,xb⟩:=x;dsimp only at e i1;cases i1 with
 |@tup a' vs ds hs hv=>
  cases e
  by_cases hw:HT.sIx ds.length 0 l=0/\HT.sIx ds.length ds.length h=ds.length
  ·rw[vq hw.1 hw.2]at q3;exact .inr (.inr ⟨a',vs,rfl,aV s3 hs,by rw[hv.length];exact hw.1,by rw[hv.length];exact hw.2,q3.one s3 (.tup hs hv)⟩)
  ·refine .inl (.inr ⟨a',vs,rfl,aV s3 hs,by rw[hv.length];exact hw,λp hp=>?_⟩);have x4:=Ext.laid (o:=.tup (ou vs l h)) s3 hp;exact q3 _ _ _ x4 (.tup (SqT.of aD) ((qA hv).mono x4.bn)) (by simp)
 |@lst a' vs ds hs hv=>
  cases e
  refine .inl (.inl ⟨a',vs,rfl,s3.seq hs,λp hp=>?_⟩);have x4:=Ext.laid (o:=.lst (ou vs l h)) s3 hp;exact q3 _ _ _ x4 (.lst (SqL.of aD) ((qA hv).mono x4.bn)) λ_=>⟨p,_,_,rfl,rfl,hp,aD,(qA hv).mono x4.bn⟩
 |str z=>
  dsimp only at e;split at e
  ·rename_i hz;cases e
   exact .inr (.inl ⟨z,rfl,hz,q3.one s3 (.str _)⟩)
  ·cases e
 |_=>cases e
noncomputable def qE:Value->D->Bool
 |.none,.non=>true
 |.bool a,.bl b=>a == b
 |.int i _,.int j=>decide (i=j)
 |.str i _,.str j=>decide (i=j)
 |_,_=>false
noncomputable def gM:List Value->List D->Bool
 |[],[]=>true
 |u::us,d::ds=>qE u d && gM us ds
 |_,_=>false
theorem iP {K:PySem.W.Frag}{B:Hp}:∀ {u:Value}{d:D},qE u d=true->∃v,aS v u/\Is K B v d
 |.none,.non,_=>⟨.non,rfl,.non⟩
 |.bool a,.bl b,h=>by
  have:a=b:=eq_of_beq h;subst this;exact⟨.bl a,rfl,.bl a⟩
 |.int i t,.int j,h=>by
  have:i=j:=of_decide_eq_true h;subst this;exact⟨.int i,⟨t,rfl⟩,.int i⟩
 |.str i t,.str j,h=>by
  have:i=j:=of_decide_eq_true h;subst this;exact⟨.str i,⟨t,rfl⟩,.str i⟩
theorem gN {K:PySem.W.Frag}:∀ {us:List Value}{ds:List D},gM us ds=true->∃vs,L2.aQ vs us/\∀B,IsL K B vs ds
 |[],[],_=>⟨[],.nil,λ_=>.nil⟩
 |u::us,d::ds,h=>by
  rw[gM,Bool.and_eq_true]at h;obtain⟨vs,r,i⟩:=gN (K:=K) h.2;obtain⟨v,r1,_⟩:=iP (K:=K) (B:=λ_=>none) h.1;refine⟨v::vs,.cons r1 r,λB=>?_⟩;obtain⟨v',r1',i'⟩:=iP (K:=K) (B:=B) h.1;have:v'=v:=by have z1:=r1.abs;rw[r1'.abs]at z1;exact Option.some.inj z1
  subst this;exact .cons i' (i B)
theorem const_tup {K:PySem.W.Frag}{y:Str}{a:Addr}{od:Option Addr}{its:Array Value}{n:Nat}{osl:Array (Option Value)}{ds:List D}(e:PySem.W.nsIn K mainGlobals y=some (some (.ref a)))
  (l:K.lookup a=some ⟨.type "tuple",od,.seq its n,osl⟩) (h:(decide (its.size<=1000) && gM its.toList ds)=true):∃u v,PySem.W.nsIn K mainGlobals y=some (some u)/\aS v u/\∀B,Is K B v (.tup ds):=by
 rw[Bool.and_eq_true]at h;obtain⟨vs,r,i⟩:=gN (K:=K) h.2;exact⟨_,.ref a,e,rfl,λB=>.tup (.inr ⟨_,its,n,l,rfl,rfl,Nat.le_of_lt (Nat.lt_of_le_of_lt (of_decide_eq_true h.1) (by decide)),r⟩) (i B)⟩
end
section
variable {X:Cx}{a b o e:Expr}{pos:Pos}{x:Str}{p:Pos}{tg:Expr}
theorem Fl {name:Str}{id:String}{apos cpos:Pos}{op:D->D->Option (D×Bool)}{fo fe:FE}(slot:Slot "str" name id)(hty:typeOf (.builtin id)=pure (.type "method_descriptor"))
  (hm:MtR X id (λx xs H Q=>∃y,xs=[y]/\rD X.K op x y H Q)) (hstr:∀dx dy r,op dx dy=some r->∃z,dx=.str z) (ho:JE X o fo) (he:JE X e fe)
  (hbase:attributeBase o name X.env (eval o X.env)=eval o X.env:=by rfl)
  (hfew:((backTo cpos (starEach [e] X.env)).all (λx=>!x.1) && (backToKw cpos (keywordEach [] X.env)).all (λx=>x.1.isSome)
   && decide ([e].length+([]:List Keyword).length+(if([]:List Keyword).isEmpty then 0 else 1)<30))=true:=by rfl)
  (hline:(apos.endLine == cpos.line)=true:=by rfl) (hs:starEach [e] X.env=[(false,eval e X.env)]:=by rfl):
  JE X (.Call (.Attribute o name apos) [e] [] cpos) (f2 op fo fe):=by
 refine PE.to (zB PySem.F.plainAttrs_str slot hty hm ho (fS he ig hs) hbase hfew hline hs rfl) λσ H Q q=>?_;obtain⟨B,ρ,d,bb,sB,r,ee,q⟩:=q;obtain⟨x1,ex,ee⟩:=oX ee;obtain⟨y1,ey,ee⟩:=oX ee;obtain⟨z,hz⟩:=hstr _ _ _ ee;refine⟨B,ρ,x1.1,x1.2,sB,r,ex,λv H1 N1 xt1 i1 _=>?_⟩;rw[hz]at i1;cases i1
 refine⟨show "str" = "str" from rfl,N1,ρ,y1.1,y1.2,xt1.nh,r.mono xt1.bn,ey,λv2 H2 N2 xt2 i2 _=>⟨v2,rfl,N2,.str z,y1.1,d,bb,xt2.nh,.str z,i2,by rw[←hz];exact ee,q.into (xt1.trans xt2)⟩⟩
@[simp] noncomputable def Fm:D->Option Str
 |.str z=>some z
 |_=>none
noncomputable def eQ:List D->Option (List Str)
 |[]=>some []
 |d::ds=>(Fm d).bind λz=>(eQ ds).map (z :: ·)
@[simp] theorem FR:eQ []=some []:=rfl
@[simp] theorem vt (d:D)(ds:List D):eQ (d::ds)=(Fm d).bind λz=>(eQ ds).map (z :: ·):=rfl
@[simp] theorem FU (zs:List Str):eQ (zs.map D.str)=some zs:=by
 induction zs with
 |nil=>rfl
 |cons z zs ih=>simp[ih]
theorem gq {K:PySem.W.Frag}{B:Hp}:∀ {vs:List V}{ds:List D}{zs:List Str}{its:List Value},L2.aQ vs its->IsL K B vs ds->eQ ds=some zs->StrsAre its zs
 |_,_,_,_,.nil,.nil,e=>by cases e;exact .nil
 |_,_,_,_,.cons r rr,.cons i ii,e=>by
  rw[vt]at e;obtain⟨z,e1,e⟩:=oX e;obtain⟨zs,e2,e⟩:=oY e;subst e;cases i<;>simp only[Fm]at e1<;>try (cases e1;done)
  cases e1
  obtain⟨t,rfl⟩:=r;exact .cons _ t (gq rr ii e2)
@[simp] noncomputable def la:D->D->Option (D×Bool)
 |.str sep,.lst ds=>(eQ ds).bind λzs=>if(zs.map (·.length)).sum+zs.length*sep.length<=16777216 then some (.str (Txt.join sep zs),false)else none
 |.str sep,.tup ds=>(eQ ds).bind λzs=>if(zs.map (·.length)).sum+zs.length*sep.length<=16777216 then some (.str (Txt.join sep zs),false)else none
 |_,_=>none
theorem Fo:MtR X "str.join" (λx xs H Q=>∃y,xs=[y]/\rD X.K la x y H Q):=by
 intro pins s σ H x xs v us Q I rx rs h;obtain⟨y,rfl,B,dx,dy,d,bb,sB,ix,iy,ee,q⟩:=h;obtain⟨u1,rfl,r1⟩:=fR rs;cases ix<;>(try (simp[la]at ee;done))
 obtain⟨t,rfl⟩:=rx;cases iy<;>(try (simp[la]at ee;done))
 ·rename_i h hl;simp only[la]at ee;obtain⟨zs,ez,ee⟩:=oX ee;split at ee
  ·rename_i hok;cases ee
   cases r1
   obtain⟨its,rv,p1,z1⟩:=I.tuple (aV sB h);exact join_tuple p1 (by simpa using gq rv hl ez) hok λt' k=>⟨.str _,H,I.tok k,⟨t',rfl⟩,q.one sB (.str _)⟩
  ·cases ee
 ·rename_i h hl;simp only[la]at ee;obtain⟨zs,ez,ee⟩:=oX ee;split at ee
  ·rename_i hok;cases ee
   cases r1
   obtain⟨its,rv,p1,z1⟩:=I.list (sB.seq h);exact join_list p1.isList (by simpa using gq rv hl ez) hok λt' k=>⟨.str _,H,I.tok k,⟨t',rfl⟩,q.one sB (.str _)⟩
  ·cases ee
theorem Af (dx dy:D)(r:D×Bool)(h:la dx dy=some r):∃z,dx=.str z:=by
 cases dx<;>first|exact⟨_,rfl⟩|(cases dy<;>simp[la]at h)
noncomputable def eS:List Nat->List D->Env->Option Env
 |[],[],ρ=>some ρ
 |i::is,d::ds,ρ=>eS is ds (ρ.set i (some (d,false)))
 |_,_,_=>none
@[simp] theorem pe (ρ:Env):eS [] [] ρ=some ρ:=by rw[eS]
@[simp] theorem jn (i:Nat)(is:List Nat)(d:D)(ds:List D)(ρ:Env):eS (i::is) (d::ds) ρ=eS is ds (ρ.set i (some (d,false))):=by rw[eS]
@[simp] theorem GQ (d:D)(ds:List D)(ρ:Env):eS [] (d::ds) ρ=none:=by simp only[eS]
@[simp] theorem GR (i:Nat)(is:List Nat)(ρ:Env):eS (i::is) [] ρ=none:=by simp only[eS]
@[simp] noncomputable def tgT (is:List Nat):FG:=λd ρ=>match d with|.tup ds=>eS is ds ρ|_=>none
def mm:List Nat->TGs
 |[]=>Gj
 |i::is=>Dw (ie i) (mm is)
theorem Ag {N:Hp}{σ:St}{ρ:Env}{i:Nat}{v:V}{d:D}:aO (cut N (own σ ρ)) (cut N (own (σ.set i (some v)) (ρ.set i (some (d,false))))):=dD λa u e q=>⟨e,λz=>q (by
 rcases qu z with⟨_,d',p⟩|⟨j,_,d',q1,q2⟩
 ·cases p
 ·exact⟨j,d',q1,q2⟩)⟩
theorem ph {K:PySem.W.Frag}:∀ {is:List Nat}{vs:List V}{ds:List D}{B0 H0 N H:Hp}{σ:St}{ρ ρ':Env}{Q:St->Hp->Prop},StN K B0 H0 N H σ ρ->IsL K (cut N (own σ ρ)) vs ds->eS is ds ρ=some ρ'->(∀σ',StN K B0 H0 N H σ' ρ'->Q σ' H)->mm is vs σ H Q
 |[],_,_,_,_,_,_,_,_,_,_,s,.nil,e,k=>by
  rw[pe]at e;cases e;exact⟨rfl,k _ s⟩
 |[],_,_,_,_,_,_,_,_,_,_,_,.cons _ _,e,_=>by simp at e
 |_::_,_,_,_,_,_,_,_,_,_,_,_,.nil,e,_=>by simp at e
 |i::is,_,_,_,_,_,_,_,_,_,_,s,.cons h hs,e,k=>by
  rw[jn]at e;exact⟨_,_,rfl,ph (s.bind h) (hs.mono Ag) e k⟩
theorem k8:∀ {is:List Nat}{ds:List D}{ρ ρ':Env},eS is ds ρ=some ρ'->ds.length=is.length
 |[],[],_,_,_=>rfl
 |_::_,_::_,_,_,e=>by rw[jn]at e;simp[k8 e]
 |[],_::_,_,_,e=>by simp at e
 |_::_,[],_,_,e=>by simp at e
theorem GS {K:PySem.W.Frag}{is:List Nat}:tDG K (tgT is) (Ev K is.length (mm is)):=by
 intro B0 H0 N H σ ρ ρ' v d Q s h e k;cases h with
 |@tup a vs ds ht hl=>
  have e':eS is ds ρ=some ρ':=e;exact⟨a,vs,rfl,aV (bB.trans s.ext.nh) ht,by rw[hl.length];exact k8 e',ph s hl e' λσ' s'=>k σ' H ⟨N,s'⟩⟩
 |_=>cases e
theorem pi {K:PySem.W.Frag}{n:Nat}{B H:Hp}{ρ0:Env}{Q:St->Hp->Prop}(cl:∀i,i<n->ρ0[i]? = some none):∀ {is:List Nat}{vs:List V}{ds:List D}{σ:St}{ρ ρ1:Env},(∀i∈is,i<n)->RepE K B σ ρ->IsL K B vs ds->eS is ds ρ=some ρ1->ρ.length=σ.length->ρ.length=ρ0.length ->
  (∀σ1,RepE K B σ1 ρ1->(∀B',RepE K B' σ ρ0->RepE K B' σ1 ρ0)->ρ0.length=σ1.length->Q σ1 H)->mm is vs σ H Q
 |[],_,_,_,_,_,_,rp,.nil,e,l1,l2,k=>by
  rw[pe]at e;cases e;exact⟨rfl,k _ rp (λ_ z=>z) (by omega)⟩
 |[],_,_,_,_,_,_,_,.cons _ _,e,_,_,_=>by simp at e
 |_::_,_,_,_,_,_,_,_,.nil,e,_,_,_=>by simp at e
 |i::is,_,_,σ,ρ,_,hn,rp,.cons (v:=v) h hs,e,l1,l2,k=>by
  rw[jn]at e;have hi:=hn i mX;have hiσ:i<σ.length:=by
   have:=(List.getElem?_eq_some_iff.mp (cl i hi)).1;omega
  refine⟨_,_,rfl,pi cl (λj hj=>hn j (mZ _ hj)) ⟨rp.tb,λj d b q=>?_⟩ hs e (by simpa using l1) (by simpa using l2) λσ1 r1 r2 l=>k σ1 r1 (λB' z=>r2 B' ⟨z.tb,λj d b q=>?_⟩) l⟩
  ·rcases bG q with⟨rfl,pp⟩|⟨ne,pp⟩
   ·cases pp
    exact⟨v,by simp[hiσ],h⟩
   ·obtain⟨w,h1,h2⟩:=rp.at' j d b pp;exact⟨w,by rw[List.getElem?_set_ne ne];exact h1,h2⟩
  ·obtain⟨w,h1,h2⟩:=z.at' j d b q;have ne:i≠j:=λz=>by subst z;rw[cl i hi]at q;cases q
   exact⟨w,by rw[List.getElem?_set_ne ne];exact h1,h2⟩
theorem DS {K:PySem.W.Frag}{n:Nat}{is:List Nat}(hn:∀i∈is,i<n):TGE K n (tgT is) (Ev K is.length (mm is)):=by
 intro B H σ ρ ρ1 v d Q cl rep s h e hl k;cases h with
 |@tup a vs ds ht hv=>
  have e':eS is ds ρ=some ρ1:=e;exact⟨a,vs,rfl,aV s ht,by rw[hv.length];exact k8 e',pi cl hn rep hv e' hl rfl k⟩
 |_=>cases e
end
section
variable {prog:Program}{w:World}{A:Around}{E:Value->Shared->Prop}{s:Shared}
theorem vv {it l:Addr}{i:Nat}{items:Array Value}{v:Value}{Q:Value->Shared->Prop}(st:s.heap.IsTupleIter it l i)(ht:s.heap.IsTuple l items)(hv:items[i]? = some v)
  (k:∀h',h'.IsTupleIter it l (i+1)->Heap.SameBut it s.heap h'->Q v { s with heap:=h' }):wpAny (model prog w) A (Builtin.SmallTypes.nextOf (.ref it)) Q E s:=by
 obtain⟨o1,g1,c1,d1⟩:=id st;obtain⟨o2,g2,_,n2,d2⟩:=ht;unfold Builtin.SmallTypes.nextOf;refine wX (wpAny_callSpecial?_slot (name:=Str.ofString "__next__") st.typeIs PySem.F.slot_tuple_iterator_next (wpAny_call_entry PySem.F.slot_tuple_iterator_next st.typeIs PySem.F.entry_tuple_iterator_next ?_ (PySem.F.args_tuple_iterator_next_1 _)));show wpAny _ _ (field (.ref it) 0>>=_) _ _ _;refine wX (wpAny_field g1 d1 (x:=.ref l) rfl ?_);show wpAny _ _ (if(Value.ref l == Value.none)=true then _ else _) _ _ _;rw[if_neg (λz=>Bool.false_ne_true z:¬((Value.ref l == Value.none)=true))];show wpAny _ _ (field (.ref it) 1>>=_) _ _ _;refine wX (wpAny_field g1 d1 (x:=.int i 0) rfl ?_);show wpAny _ _ (seqItems? (.ref l)>>=_) _ _ _;refine wX (wpAny_seqItems g2 d2 ?_);simp only[hv,Int.toNat_natCast];refine wX (wpAny_setField g1 d1 (by simp) (wY ⟨v,rfl,wY (k _ ?_ (Heap.SameBut.update ..))⟩));exact⟨_,Heap.get?_update_self _ g1 (Obj.isFreed_of_fields (Obj.data_mapFields d1 _)),(Obj.cls_mapFields ..).trans c1,by rw[Obj.data_mapFields d1];simp[rawInt]⟩
theorem y0 {it l:Addr}{i:Nat}{items:Array Value}{Q:Value->Shared->Prop}(hA:A.handled=none)(st:s.heap.IsTupleIter it l i)(ht:s.heap.IsTuple l items)(hv:items[i]? = none)
  (k:∀h' x,Heap.ExtBut it s.heap h'->(∃o,h'.get? x=some o/\o.cls=.type "StopIteration")->E (.ref x) { s with heap:=h' }):wpAny (model prog w) A (Builtin.SmallTypes.nextOf (.ref it)) Q E s:=by
 obtain⟨o1,g1,c1,d1⟩:=id st;obtain⟨o2,g2,_,n2,d2⟩:=ht;unfold Builtin.SmallTypes.nextOf;refine wX (wpAny_callSpecial?_slot (name:=Str.ofString "__next__") st.typeIs PySem.F.slot_tuple_iterator_next (wpAny_call_entry PySem.F.slot_tuple_iterator_next st.typeIs PySem.F.entry_tuple_iterator_next ?_ (PySem.F.args_tuple_iterator_next_1 _)));show wpAny _ _ (field (.ref it) 0>>=_) _ _ _;refine wX (wpAny_field g1 d1 (x:=.ref l) rfl ?_);show wpAny _ _ (if(Value.ref l == Value.none)=true then _ else _) _ _ _;rw[if_neg (λz=>Bool.false_ne_true z:¬((Value.ref l == Value.none)=true))];show wpAny _ _ (field (.ref it) 1>>=_) _ _ _;refine wX (wpAny_field g1 d1 (x:=.int i 0) rfl ?_);show wpAny _ _ (seqItems? (.ref l)>>=_) _ _ _;refine wX (wpAny_seqItems g2 d2 ?_);simp only[hv,Int.toNat_natCast];refine wX (wpAny_rule (wX (wpAny_setField g1 d1 (by simp) ?_)));show wpAny _ _ (newExc (.type "StopIteration") []>>=_) _ _ _;refine wX ?_;simp only[newTuple,newExc];refine wX (wpAny_newObj_type ?_ (by size_fits));refine wX (m:=firstArgMember _ _) (wpAny_of_eq (a:=Value.none) (by first|(simp only[firstArgMember];rfl)|rfl) ?_);refine wpAny_newObj_type ?_ (by size_fits);simp only[raiseNew];refine wX (wpAny_handled ?_);first|rw[hA]|rw[show A.in1.handled=none from hA]
 exact wX (wY (wpAny_throw (k _ _ (((Heap.SameBut.update ..).extBut.push _).push _) ⟨_,Heap.get?_push_size _ rfl,rfl⟩)))
end
def KIt:Bool->Heap->Addr->Addr->Nat->Prop
 |true,h,it,a,i=>h.IsListIter it a i
 |false,h,it,a,i=>h.IsTupleIter it a i
def KSq:Bool->Heap->Addr->Array Value->Prop
 |true,h,a,items=>h.IsList a items
 |false,h,a,items=>h.IsTuple a items
def SqK (k:Bool)(K:PySem.W.Frag)(H:Hp)(a:Addr)(xs:List V):Prop:=match k with|true=>SqL K H a xs|false=>SqT K H a xs
theorem KIt.ob {k:Bool}{h:Heap}{it a:Addr}{i:Nat}(st:KIt k h it a i):∃o,h.get? it=some o/\∀v,o.data≠.cell v:=by
 cases k<;>(obtain⟨o,g,_,d⟩:=st;exact⟨o,g,λv z=>by rw[d]at z;cases z⟩)
theorem KIt.upon {k:Bool}{h h':Heap}{it a:Addr}{i:Nat}(st:KIt k h it a i)(g:∀o,h.get? it=some o->h'.get? it=some o):KIt k h' it a i:=by
 cases k<;>(obtain⟨o,e,r⟩:=st;exact⟨o,g o e,r⟩)
theorem KSq.upon {k:Bool}{h h':Heap}{a:Addr}{items:Array Value}(st:KSq k h a items)(g:∀o,h.get? a=some o->h'.get? a=some o):KSq k h' a items:=by
 cases k<;>(obtain⟨o,e,r⟩:=st;exact⟨o,g o e,r⟩)
theorem KSq.lt {k:Bool}{h:Heap}{a:Addr}{items:Array Value}(st:KSq k h a items):a<h.objs.size:=by
 cases k<;>(obtain⟨o,e,r⟩:=st;exact Heap.lt_size e)
theorem SqK.same {k:Bool}{K:PySem.W.Frag}{H H':Hp}{a:Addr}{xs:List V}(h:SqK k K H a xs)(e:aO H H'):SqK k K H' a xs:=by
 cases k
 ·exact aV e h
 ·exact e.seq h
theorem SqK.vals {X:Cx}{pins:List (Addr×Obj)}{σ:St}{H:Hp}{s:Shared}{k:Bool}{a:Addr}{xs:List V}(I:Inv X pins σ H s)(h:SqK k X.K H a xs):∃its:List Value,aQ xs its/\KSq k s.heap a its.toArray/\xs.length<=sizeLine:=by
 cases k
 ·exact I.tuple h
 ·obtain⟨its,r,p,z⟩:=I.list h;exact⟨its,r,p.isList,z⟩
theorem SqK.inj {X:Cx}{pins:List (Addr×Obj)}{σ:St}{H:Hp}{s:Shared}{k:Bool}{a:Addr}{xs ys:List V}(I:Inv X pins σ H s)(h:SqK k X.K H a xs)(h':SqK k X.K H a ys):xs=ys:=by
 cases k
 ·exact I.tuple_inj h h'
 ·exact I.list_inj h h'
section
variable {prog:Program}{w:World}{A:Around}{E:Value->Shared->Prop}{s:Shared}
theorem y4 {k:Bool}{it l:Addr}{i:Nat}{items:Array Value}{v:Value}{Q:Value->Shared->Prop}(st:KIt k s.heap it l i)(ht:KSq k s.heap l items)(hv:items[i]? = some v)
  (q:∀h',KIt k h' it l (i+1)->Heap.SameBut it s.heap h'->Q v { s with heap:=h' }):wpAny (model prog w) A (Builtin.SmallTypes.nextOf (.ref it)) Q E s:=by
 cases k
 ·exact vv st ht hv q
 ·exact wpAny_nextOf_list_item st ht hv q
theorem sL {k:Bool}{it l:Addr}{i:Nat}{items:Array Value}{Q:Value->Shared->Prop}(hA:A.handled=none)(st:KIt k s.heap it l i)(ht:KSq k s.heap l items)(hv:items[i]? = none)
  (q:∀h' x,Heap.ExtBut it s.heap h'->(∃o,h'.get? x=some o/\o.cls=.type "StopIteration")->E (.ref x) { s with heap:=h' }):wpAny (model prog w) A (Builtin.SmallTypes.nextOf (.ref it)) Q E s:=by
 cases k
 ·exact y0 hA st ht hv q
 ·exact wpAny_nextOf_list_end hA st ht hv q
end
noncomputable def itO (k:Bool)(l:Addr):Obj:={ cls:=.type (if k=true then "list_iterator" else "tuple_iterator"),data:=.fields #[.ref l,.int 0 0] }
theorem qF {prog:Program}{w:World}{A:Around}{E:Value->Shared->Prop}{s:Shared}{k:Bool}{l:Addr}{items:Array Value}{Q:Value->Shared->Prop}(ht:KSq k s.heap l items)
  (q:Q (.ref s.heap.objs.size) { s with heap:=s.heap.push (itO k l) }):wpAny (model prog w) A (pyIter (.ref l)) Q E s:=by
 cases k
 ·exact wpAny_pyIter_tuple ht q
 ·exact wpAny_pyIter_list ht q
theorem KSq.push {k:Bool}{h:Heap}{a:Addr}{items:Array Value}(st:KSq k h a items)(o:Obj):KSq k (h.push o) a items:=st.upon λ_ e=>Heap.get?_push_of_some _ e
theorem qG {X:Cx}{pins:List (Addr×Obj)}{σ:St}{H:Hp}{s:Shared}{h':Heap}{t':Nat}{ch:List Addr}(I:Inv X pins σ H s)(f:∀b∈ch,ko X pins H b)(k:∀b o,b∉ch->s.heap.get? b=some o->h'.get? b=some o):Inv X pins σ H { s with heap:=h',toks:=t' }:=by
 have nit:∀b u,H b=some u->b∉ch:=λb u e z=>by rw[(f b z).1]at e;cases e
 refine I.step (g':=s.gens) (d':=s.drawn) (ch:=ch) (λb hb=>?_) (λb o _ _ hc e _=>k b o hc e) (λb o _ _ hc e _=>⟨o.slots,k b o hc e⟩) (λ_ _ _ _ n=>n)
  (λb o hc e=>⟨o,k b o hc e⟩) (λ_ _ e=>e) (λ_ _ _ e=>e) (λ_ _ e=>e) (λm hm=>?_) (λb u e=>?_) I.bare
 ·obtain⟨_,f1,_,f3,f4,f5⟩:=f b hb;exact⟨f3,f1,f4,f5⟩
 ·obtain⟨o,es,ep,ho,r⟩:=hm;exact⟨o,es,ep,k _ o (λz=>(f _ z).2.1 rfl) ho,r⟩
 ·refine(I.hok b u e).stay (λc v hc q=>k c v ?_ q) (λ_ q=>q) (λ_ _ q=>q) λ_ _ _ q=>q;rcases hc with z|z
  ·rw[z];exact nit b u e
  ·exact nit c _ z
theorem GT {X:Cx}{pins:List (Addr×Obj)}{σ:St}{H:Hp}{s:Shared}{h':Heap}{t':Nat}{ch:List Addr}{a:Addr}{ob:HO}(I:Inv X pins σ H s)(f:∀b∈ch,ko X pins H b)(k:∀b o,b∉ch->s.heap.get? b=some o->h'.get? b=some o)(ha:s.heap.objs.size<=a)
  (new:b8 X.prog X.w (upd H a ob) h' a ob):Inv X pins σ (upd H a ob) { s with heap:=h',toks:=t' }:=by
 have hn:H a=none:=I.hok.fresh ha;have nit:∀b u,H b=some u->b∉ch:=λb u e z=>by rw[(f b z).1]at e;cases e
 have na:∀b o,s.heap.get? b=some o->b≠a:=λb o e=>Nat.ne_of_lt (Nat.lt_of_lt_of_le (Heap.lt_size e) ha);refine I.step (g':=s.gens) (d':=s.drawn) (ch:=ch) (λb hb=>?_) (λb o _ _ hc e _=>k b o hc e) (λb o _ _ hc e _=>⟨o.slots,k b o hc e⟩) (λb o _ e n=>by rw[aF (na b o e)];exact n)
  (λb o hc e=>⟨o,k b o hc e⟩) (λb xs e=>by rw[aF (aR e hn)];exact e) (λb o u e=>by rw[aF (aR e hn)];exact e) (λb ps e=>by rw[aF (aR e hn)];exact e) (λm hm=>?_) (λb u e=>?_) I.bare
 ·obtain⟨_,f1,_,f3,f4,f5⟩:=f b hb;exact⟨f3,f1,f4,f5⟩
 ·obtain⟨o,es,ep,ho,r⟩:=hm;exact⟨o,es,ep,k _ o (λz=>(f _ z).2.1 rfl) ho,r⟩
 ·by_cases hb:b=a
  ·subst hb;rw[aD]at e;cases e;exact new
  ·rw[aF hb]at e;refine(I.hok b u e).stay (λc v hc q=>k c v ?_ q) (λc q=>?_) (λc xs q=>?_) λc o xs q=>?_
   ·rcases hc with z|z
    ·rw[z];exact nit b u e
    ·exact nit c _ z
   ·rw[aF (aR q hn)];exact q
   ·rw[aF (aR q hn)];exact q
   ·rw[aF (aR q hn)];exact q
section
variable {X:Cx}{a b e:Expr}{pos:Pos}{p:Pos}
noncomputable def HS (xs ys:List D):List D:=List.zipWith (λx y=>.tup [x,y]) xs ys
@[simp] noncomputable def HU (fa fb:FE):FA:=λρ=>(fa ρ).bind λx=>(fb ρ).bind λy=>(fT x.1).bind λxs=>(fT y.1).map λys=>HS xs ys
theorem GU {K:PySem.W.Frag}{B:Hp}{v:V}{d:D}{ds:List D}(h:Is K B v d)(e:fT d=some ds):∃k a vs,v=.ref a/\SqK k K B a vs/\IsL K B vs ds:=by
 cases h with
 |tup ht hl=>cases e;exact⟨false,_,_,rfl,ht,hl⟩
 |lst ht hl=>cases e;exact⟨true,_,_,rfl,ht,hl⟩
 |_=>cases e
end
noncomputable def unown1 (ρ:Env)(i:Nat):Env:=match ρ[i]? with
 |some (some (d,true))=>ρ.set i (some (d,false))
 |_=>ρ
theorem StN.unown1 {K:PySem.W.Frag}{B0 H0 N H:Hp}{σ:St}{ρ:Env}(s:StN K B0 H0 N H σ ρ)(i:Nat):StN K B0 H0 N H σ (unown1 ρ i):=by
 unfold DL.unown1;split
 ·rename_i d hd;obtain⟨a,ob,h1,h2,h3,h4⟩:=s.ow i d hd;have get:∀ {j:Nat}{e:D}{b:Bool},(ρ.set i (some (d,false)))[j]? = some (some (e,b))->(i=j/\e=d/\b=false)∨(i≠j/\ρ[j]? = some (some (e,b))):=λq=>by
   rcases bG q with⟨z,p⟩|⟨z,p⟩
   ·cases p;exact .inl ⟨z,rfl,rfl⟩
   ·exact .inr ⟨z,p⟩
  have o:∀c,own σ (ρ.set i (some (d,false))) c->own σ ρ c/\c≠a:=λc ⟨j,e,q1,q2⟩=>by
   rcases get q1 with⟨_,_,z⟩|⟨ne,q⟩
   ·cases z
   ·exact⟨⟨j,e,q,q2⟩,λz=>by subst z;exact ne (s.inj i j _ _ _ hd q h1 q2)⟩
  have c:aO (cut N (own σ ρ)) (cut N (own σ (ρ.set i (some (d,false))))):=dD λb u e q=>⟨e,λz=>q (o b z).1⟩;have na:¬own σ (ρ.set i (some (d,false))) a:=λz=>(o a z).2 rfl;refine⟨s.bh,s.tb,s.ext,by rw[List.length_set];exact s.len,λj e q=>?_,λj e q=>?_,λj k b e f q q' z1 z2=>?_⟩
  ·rcases get q with⟨rfl,rfl,_⟩|⟨_,q⟩
   ·exact⟨_,h1,(h4.mono c).is (by rw[cr na];exact h2)⟩
   ·obtain⟨v,k1,k2⟩:=s.sh j e q;exact⟨v,k1,k2.mono c⟩
  ·rcases get q with⟨_,_,z⟩|⟨_,q⟩
   ·cases z
   ·obtain⟨a',o',k1,k2,k3,k4⟩:=s.ow j e q;exact⟨a',o',k1,k2,k3,k4.mono c⟩
  ·rcases get q with⟨_,_,z⟩|⟨_,q⟩
   ·cases z
   ·rcases get q' with⟨_,_,z⟩|⟨_,q'⟩
    ·cases z
    ·exact s.inj j k b e f q q' z1 z2
 ·exact s
@[simp] noncomputable def gUn (is:List Nat)(g:FS):FS:=λρ=>g (is.foldl unown1 ρ)
theorem StN.unowns {K:PySem.W.Frag}{B0 H0 N H:Hp}{σ:St}:∀(is:List Nat){ρ:Env},StN K B0 H0 N H σ ρ->StN K B0 H0 N H σ (is.foldl DL.unown1 ρ)
 |[],_,s=>s
 |i::is,_,s=>StN.unowns is (s.unown1 i)
theorem Fp {K:PySem.W.Frag}{is:List Nat}{g:FS}{E:Ends}{σ:St}{H:Hp}(q:tDS K (gUn is g) E σ H):tDS K g E σ H:=by
 obtain⟨B0,H0,ρ,r,⟨N,s⟩,e,p⟩:=q;exact⟨B0,H0,_,r,⟨N,s.unowns is⟩,e,p⟩
theorem GV {X:Cx}{st:Stmt}{g:FS}(is:List Nat)(h:JS X st g):JS X st (gUn is g):=PS.to h λ_ _ _ q=>Fp q
@[simp] noncomputable def DT:FS:=λρ=>some (.ct ρ)
@[simp] noncomputable def HV:FS:=λρ=>some (.bk ρ)
@[simp] noncomputable def HW:FS:=λ_=>none
section
variable {X:Cx}{pos:Pos}
theorem C5:JS X (.Continue pos) DT:=PS.to rP λE σ H q=>by
 obtain⟨B0,H0,ρ,r,s,e,p⟩:=q;cases e
 exact p σ H s
end
inductive CRows (K:PySem.W.Frag)(P:Params):List DictEntry->List (Str×D)->Prop where
 |nil:CRows K P [] []
 |tup {x:Str}{t:Tok}{h:Int}{a:Addr}{its:Array Value}{n:Nat}{osl:Array (Option Value)}{ds:List D}{r:List DictEntry}{kvs:List (Str×D)}(hh:h=PyData.keyHash P x)
   (l:K.lookup a=some ⟨.type "tuple",none,.seq its n,osl⟩) (f:(decide (its.size<=1000) && gM its.toList ds)=true) (tl:CRows K P r kvs):CRows K P (⟨h,.str x t,.ref a⟩::r) ((x,.tup ds)::kvs)
 |flat {x:Str}{t:Tok}{h:Int}{u:Value}{d:D}{r:List DictEntry}{kvs:List (Str×D)}(hh:h=PyData.keyHash P x) (f:qE u d=true) (tl:CRows K P r kvs):CRows K P (⟨h,.str x t,u⟩::r) ((x,d)::kvs)
theorem CRows.lit {K:PySem.W.Frag}{P:Params}:∀ {es:List DictEntry}{kvs:List (Str×D)},CRows K P es kvs->PySem.W.KeysLit P es
 |_,_,.nil=>trivial
 |_,_,.tup hh _ _ tl=>⟨⟨_,_,rfl,hh⟩,tl.lit⟩
 |_,_,.flat hh _ tl=>⟨⟨_,_,rfl,hh⟩,tl.lit⟩
theorem CRows.find {K:PySem.W.Frag}{P:Params}(y:Str):∀ {es:List DictEntry}{kvs:List (Str×D)},CRows K P es kvs->match kvs.lookup y with
  |none=>es.find? (λe=>Value.isStrOf y e.key)=none
  |some d=>∃e v,es.find? (λe=>Value.isStrOf y e.key)=some e/\aS v e.val/\∀B,Is K B v d
 |_,_,.nil=>rfl
 |_,_,.tup (x:=x) (t:=t) (a:=a) (ds:=ds) hh l f tl=>by
  by_cases e:y=x
  ·subst e;rw[List.lookup_cons_self];rw[Bool.and_eq_true]at f;obtain⟨vs,r,i⟩:=gN (K:=K) f.2;exact⟨_,.ref a,List.find?_cons_of_pos (by simp[Value.isStrOf]),rfl,λB=>.tup (.inr ⟨_,_,_,l,rfl,rfl,Nat.le_of_lt (Nat.lt_of_le_of_lt (of_decide_eq_true f.1) (by decide)),r⟩) (i B)⟩
  ·have ih:=tl.find y;rw[List.lookup_cons,beq_eq_false_iff_ne.mpr e];have nf:Value.isStrOf y (Value.str x t)=false:=by
    rw[Bool.eq_false_iff];intro z;obtain⟨t',q⟩:=Value.isStrOf_shape z;injection q with q1;exact e q1.symm
   simp only[List.find?_cons,nf];exact ih
 |_,_,.flat (x:=x) (t:=t) (u:=u) (d:=d) hh f tl=>by
  by_cases e:y=x
  ·subst e;rw[List.lookup_cons_self];obtain⟨v,r1,_⟩:=iP (K:=K) (B:=λ_=>none) f;refine⟨_,v,List.find?_cons_of_pos (by simp[Value.isStrOf]),r1,λB=>?_⟩;obtain⟨v',r1',i'⟩:=iP (K:=K) (B:=B) f;have:v'=v:=by have z1:=r1.abs;rw[r1'.abs]at z1;exact Option.some.inj z1
   subst this;exact i'
  ·have ih:=tl.find y;rw[List.lookup_cons,beq_eq_false_iff_ne.mpr e];have nf:Value.isStrOf y (Value.str x t)=false:=by
    rw[Bool.eq_false_iff];intro z;obtain⟨t',q⟩:=Value.isStrOf_shape z;injection q with q1;exact e q1.symm
   simp only[List.find?_cons,nf];exact ih
def pj (K:PySem.W.Frag)(P:Params)(a:Addr)(kvs:List (Str×D)):Prop:=∃es n,K.lookup a=some ⟨.type "dict",none,.dict es n,#[]⟩/\CRows K P es.toList kvs/\(a == sysModules)=false
theorem const_dict {K:PySem.W.Frag}{P:Params}{y:Str}{a:Addr}{es:Array DictEntry}{n:Nat}{kvs:List (Str×D)}(e:PySem.W.nsIn K mainGlobals y=some (some (.ref a)))(l:K.lookup a=some ⟨.type "dict",none,.dict es n,#[]⟩)(r:CRows K P es.toList kvs)(s:(a == sysModules)=false):
  ∃a,PySem.W.nsIn K mainGlobals y=some (some (.ref a))/\pj K P a kvs:=⟨a,e,es,n,l,r,s⟩
section
variable {X:Cx}{a b e:Expr}{pos:Pos}{x:Str}{p:Pos}
theorem pj.map {pins:List (Addr×Obj)}{σ:St}{H:Hp}{s:Shared}{d:Addr}{kvs:List (Str×D)}(I:Inv X pins σ H s)(h:pj X.K X.w.params d kvs):∃f:Str->Option Value,s.heap.MapOf (strKind X.prog X.w) d f/\(d == sysModules)=false /\
  ∀y,match kvs.lookup y with|none=>f y=none|some dd=>∃u v,f y=some u/\aS v u/\∀B,Is X.K B v dd:=by
 obtain⟨es,n,l,r,sm⟩:=h;refine⟨_,PySem.W.mapOf_K I.kIn l r.lit,sm,λy=>?_⟩;have:=r.find y;have ff:findBy Value.isStrOf es y=(es.toList.find? λe=>Value.isStrOf y e.key).map (·.val):=by
  unfold findBy;obtain⟨es⟩:=es;rw[List.find?_toArray]
 cases hl:kvs.lookup y with
 |none=>rw[hl]at this;dsimp only at this ⊢;rw[ff,this];rfl
 |some dd=>
  rw[hl]at this;obtain⟨en,v,e1,e2,e3⟩:=this;exact⟨en.val,v,by rw[ff,e1];rfl,e2,e3⟩
@[simp] noncomputable def Iw (kvs:List (Str×D)):D->Option (D×Bool)
 |.str y=>(kvs.lookup y).map λd=>(d,false)
 |_=>none
@[simp] noncomputable def cIn (kvs:List (Str×D)):D->Option (D×Bool)
 |.str y=>some (.bl (kvs.lookup y).isSome,false)
 |_=>none
@[simp] noncomputable def HX (kvs:List (Str×D)):D->Option (D×Bool)
 |.str y=>some (.bl (!(kvs.lookup y).isSome),false)
 |_=>none
@[simp] noncomputable def fU:List D->Option (D×Bool)
 |[.lst ds]=>some (.lst ds,true)
 |[.tup ds]=>some (.lst ds,true)
 |_=>none
@[simp] noncomputable def eU:List D->Option (D×Bool)
 |[.lst ds]=>some (.tup ds,false)
 |[.tup ds]=>some (.tup ds,false)
 |_=>none
theorem Ah:bA X (.type "list") (rDA X.K fU):=by
 refine bA.to qr λxs H Q q=>?_;obtain⟨B,ds,d,bb,sB,i,ee,q⟩:=q;cases i with
 |nil=>simp[fU]at ee
 |cons i1 i2=>
  cases i2 with
  |cons _ _=>cases i1<;>simp[fU]at ee
  |nil=>
   cases i1<;>try (simp[fU]at ee;done)
   ·rename_i l0 vs es h hl;simp only[fU]at ee;cases ee
    refine⟨_,_,rfl,.inr (aV sB h),λl hp=>?_⟩;have xt:=Ext.laid (o:=.lst vs) sB hp;exact q _ _ _ xt (.lst (SqL.of aD) (hl.mono xt.bn)) λ_=>⟨_,_,_,rfl,rfl,hp,aD,hl.mono xt.bn⟩
   ·rename_i l0 vs es h hl;simp only[fU]at ee;cases ee
    refine⟨_,_,rfl,.inl (sB.seq h),λl hp=>?_⟩;have xt:=Ext.laid (o:=.lst vs) sB hp;exact q _ _ _ xt (.lst (SqL.of aD) (hl.mono xt.bn)) λ_=>⟨_,_,_,rfl,rfl,hp,aD,hl.mono xt.bn⟩
theorem wM:bA X (.type "tuple") (rDA X.K eU):=by
 refine bA.to oz λxs H Q q=>?_;obtain⟨B,ds,d,bb,sB,i,ee,q⟩:=q;cases i with
 |nil=>simp[eU]at ee
 |cons i1 i2=>
  cases i2 with
  |cons _ _=>cases i1<;>simp[eU]at ee
  |nil=>
   cases i1<;>try (simp[eU]at ee;done)
   ·rename_i l0 vs es h hl;simp only[eU]at ee;cases ee
    exact⟨_,_,rfl,.inr ⟨aV sB h,q.one sB (.tup h hl)⟩⟩
   ·rename_i l0 vs es h hl;simp only[eU]at ee;cases ee
    refine⟨_,_,rfl,.inl ⟨sB.seq h,λl hp=>?_⟩⟩;have xt:=Ext.laid (o:=.tup vs) sB hp;exact q _ _ _ xt (.tup (SqT.of aD) (hl.mono xt.bn)) (by simp)
end
section
variable {X:Cx}{a b e:Expr}{pos:Pos}{x:Str}{p:Pos}
@[simp] noncomputable def Il (is:List Nat)(f:FE):FS:=λρ=>(f ρ).bind λx=>(fT x.1).bind λds=>(eS is ds (if bg ds=true then ρ else unown ρ)).map .nx
@[simp] noncomputable def y6 (i:Nat)(fk fv:FE):FS:=λρ=>match ρ[i]? with
 |some (some (.lst ds,true))=>(fv ρ).bind λv=>(fk ρ).bind λk=>match k.1 with
  |.int j=>(ixN ds.length j).bind λn=>if bc v.1=true then some (.nx (ρ.set i (some (.lst (ds.set n v.1),true))))else none
  |_=>none
 |_=>none
theorem Ai {i:Nat}{y:Str}{py pt:Pos}{k:Expr}{fk fv:FE}(hv:JE X e fv)(hk:JE X k fk)(hN:X.N[i]? = some y:=by rfl)(hvis:Vis X.env.scope y:=by first|exact Or.inl rfl|exact Or.inr (Or.inl rfl)|exact Or.inr (Or.inr rfl))(hd:(y == ("__debug__" : Str))=false:=by decide)
  (hcd:(y == ("__classdict__" : Str))=false:=by decide)
  (ha:∀v,assign (.Subscript (.Name y py) k pt) X.env v=(do
   let ov ←holding [v] (eval (.Name y py) X.env)
   let iv ←holding [v,ov] (eval k X.env)
   standAt pt
   holding [v,ov,iv] (setItem ov iv v)
   release [v,ov,iv] []):=by intro _;rfl)
  (hs:swapsWithSole [.Subscript (.Name y py) k pt] e pos.line X.env=pure false:=by rfl) (hw:swappedStores [.Subscript (.Name y py) k pt] e X.env=pure none:=by rfl)
  (h1:(assignEach [.Subscript (.Name y py) k pt] X.env).map (·.2)=[assign (.Subscript (.Name y py) k pt) X.env]:=by rfl):JS X (.Assign [.Subscript (.Name y py) k pt] e pos) (y6 i fk fv):=by
 refine PS.to (Ex hv (Ew (lT hN hvis hd hcd) hk z8 ha) hs hw h1) λE σ H q=>?_;obtain⟨B0,H0,ρ,r,⟨N,s⟩,ee,p⟩:=q;unfold y6 at ee;split at ee
 ·rename_i ds ei;obtain⟨v,ev,ee⟩:=oX ee;obtain⟨kk,ek,ee⟩:=oX ee;obtain⟨kd,kb⟩:=kk;cases kd with
  |int j=>
   dsimp only at ee;obtain⟨n,en,ee⟩:=oX ee;split at ee
   ·rename_i hn;cases ee
    refine⟨N,ρ,v.1,v.2,s.ext.nh,s.rep,ev,λv1 H1 N1 x1 i1 _=>?_⟩;have s1:=s.grow x1;obtain⟨l,vs,ds',z,h1,h2,h3,h4⟩:=s1.owL i _ ei;cases z
    refine⟨_,h1,N1,ρ,_,_,s1.ext.nh,s1.rep,ek,λkv H2 N2 x2 i2 _=>?_⟩;cases i2
    have s2:=s1.grow x2;obtain⟨l',vs',ds',z,k1,k2,k3,k4⟩:=s2.owL i _ ei;cases z
    rw[h1]at k1;cases k1;exact⟨l,vs',j,n,rfl,rfl,s2.ext.nh _ _ k2,by rw[k4.length];exact en,p σ _ ⟨_,s2.write ei h1 (IsL.set (s2.flat (i1.mono x2.bn) hn) n k4)⟩⟩
   ·cases ee
  |_=>cases ee
 ·cases ee
@[simp] noncomputable def Ix (i:Nat)(g:List D->Option (List D)):FS:=λρ=>match ρ[i]? with
 |some (some (.lst ds,true))=>(g ds).map λes=>.nx (ρ.set i (some (.lst es,true)))
 |_=>none
@[simp] noncomputable def Iy (i:Nat)(f:FE):FS:=λρ=>match ρ[i]? with
 |some (some (.lst ds,true))=>(f ρ).bind λx=>match x.1 with
  |.lst es=>if x.2=true/\bg es=true/\ds.length+es.length<=sizeLine then some (.nx (ρ.set i (some (.lst (ds++es),true))))else none
  |_=>none
 |_=>none
@[simp] noncomputable def k9:List D->Option (D×Bool)
 |[.int i]=>some (.int i,false)
 |[.bl b]=>some (.int (if b then 1 else 0),false)
 |_=>none
theorem Aj:bA X (.type "int") (rDA X.K k9):=by
 refine bA.to yi λxs H Q q=>?_;obtain⟨B,ds,d,bb,sB,i,ee,q⟩:=q;cases i with
 |nil=>simp[k9]at ee
 |cons i1 i2=>
  cases i2 with
  |cons _ _=>cases i1<;>simp[k9]at ee
  |nil=>
   cases i1<;>try (simp[k9]at ee;done)
   ·simp only[k9]at ee;cases ee
    exact .inr ⟨_,rfl,q.one sB (.int _)⟩
   ·simp only[k9]at ee;cases ee
    exact .inl ⟨_,rfl,q.one sB (.int _)⟩
end
open AutoSeq1 (wpAny_loadPart')
set_option maxRecDepth 100000
noncomputable def sqT (k:Bool):String:=if k=true then "list" else "tuple"
theorem sM (k:Bool)(l:Addr)(items:Array Value)(n:Nat)(dct:Option Addr)(sl:Array (Option Value)):
  Meets (Builtin.«enumerate.__new__» ⟨[.type "enumerate",.ref l],[]⟩) (λ_ R s=>s.heap.get? l=some { cls:=.type (sqT k),dict:=dct,data:=.seq items n,slots:=sl } /\
   R (.ok (.ret (.ref (s.heap.push (itO k l)).objs.size))) { s with heap:=(s.heap.push (itO k l)).push { cls:=.type "enumerate",data:=.fields #[.none,.bool false,.ref s.heap.objs.size,rawInt 0,.none,.none] } }) :=
 .of_wp λprog w A R s hs=>by
  obtain⟨hp,g,d,tk,os⟩:=s;obtain⟨hl,hs⟩:=hs;have hsub:=sub_enumerate;have hL:KSq k (Shared.heap ⟨hp,g,d,tk,os⟩) l items:=by cases k<;>exact⟨_,hl,rfl,n,rfl⟩
  wp_walk using wpAny_loadPart' hl;refine wpAny_stack_any λst=>wY ?_;split
  ·rename_i c _ _ _ _ _;cases (c == Value.type "enumerate")
   ·wp_walk using wpAny_loadPart' hl,qF hL;exact⟨_,rfl,hs⟩
   ·wp_walk using wpAny_loadPart' hl,qF hL;exact⟨_,rfl,hs⟩
  ·wp_walk using wpAny_loadPart' hl,qF hL;exact⟨_,rfl,hs⟩
section
variable {prog:Program}{w:World}{A:Around}{E:Value->Shared->Prop}{s:Shared}
theorem Ak {k:Bool}{l:Addr}{items:Array Value}{Q:Value->Shared->Prop}(hL:KSq k s.heap l items)
  (q:∀h',IsEnum h' (s.heap.objs.size+1) s.heap.objs.size 0 .none->KIt k h' s.heap.objs.size l 0->(∀b o,s.heap.get? b=some o->h'.get? b=some o)->Q (.ref (s.heap.objs.size+1)) { s with heap:=h' }):
  wpAny (model prog w) A (call (.type "enumerate") [.ref l]) Q E s:=by
 have hh:∃(dct:Option Addr)(sl:Array (Option Value))(n:Nat),s.heap.get? l=some { cls:=.type (sqT k),dict:=dct,data:=.seq items n,slots:=sl }:=by
  cases k<;>(obtain⟨⟨c,dct,dt,sl⟩,hl,hc,n,hd⟩:=hL;dsimp only at hc hd;subst hc;subst hd;exact⟨dct,sl,n,hl⟩)
 obtain⟨dct,sl,n,hl⟩:=hh;refine callType_new PySem.F.called_enumerate (by decide) (PySem.F.typeCall_enumerate_1 _) (PySem.F.newCall_enumerate_1 _) (λobj=>PySem.F.args_object_init_2 obj _) PySem.F.entry_enumerate_new (sM k l items n dct sl) ⟨hl,?_⟩;have n1:(s.heap.push (itO k l)).objs.size=s.heap.objs.size+1:=Heap.size_push ..;have g2:((s.heap.push (itO k l)).push { cls:=.type "enumerate",data:=.fields #[.none,.bool false,.ref s.heap.objs.size,rawInt 0,.none,.none] }).get? (s.heap.push (itO k l)).objs.size=some _:=Heap.get?_push_size _ rfl;have g1:((s.heap.push (itO k l)).push { cls:=.type "enumerate",data:=.fields #[.none,.bool false,.ref s.heap.objs.size,rawInt 0,.none,.none] }).get? s.heap.objs.size=some _:=Heap.get?_push_of_some _ (Heap.get?_push_size _ (by cases k<;>rfl))
 rw[n1]at g2;show _/\_;rw[n1];refine⟨⟨_,g2,rfl⟩,q _ g2 ?_ λb o e=>Heap.get?_push_of_some _ (Heap.get?_push_of_some _ e)⟩;cases k<;>exact⟨_,g1,rfl,rfl⟩
theorem Fq (hA:A.handled=none){k:Bool}(it l:Addr)(hne:l≠it)(items:Array Value):Draws prog w A it [it,l] items.size (λi v=>items[i]? = some v) (λi h=>KIt k h it l i/\KSq k h l items) where
 live:=λi h st=>let ⟨o,e,_⟩:=st.1.ob;⟨o,e⟩
 frame:=λi h h' st kk=>⟨st.1.upon λo e=>kk it (by simp) o e,st.2.upon λo e=>kk l (by simp) o e⟩
 item:=λi s Q E hi st q=>y4 st.1 st.2 (v:=items[i]) (by simp[hi]) λh' st' sb=>q _ h' s.toks (by simp[hi]) ⟨st',st.2.upon λo e=>sb.extBut _ _ hne e⟩ sb
 done:=λs Q E st q=>sL hA st.1 st.2 (by simp) q
theorem Fr (hA:A.handled=none){k:Bool}(it l:Addr)(items:Array Value)(n:Nat)(hn:items[n]? = none):Draws prog w A it [it,l] n (λ_ _=>True) (λi h=>(KIt k h it l i/\KSq k h l items)/\i=n) where
 live:=λi h st=>let ⟨o,e,_⟩:=st.1.1.ob;⟨o,e⟩
 frame:=λi h h' st kk=>⟨⟨st.1.1.upon λo e=>kk it (by simp) o e,st.1.2.upon λo e=>kk l (by simp) o e⟩,st.2⟩
 item:=λi s Q E hi st q=>absurd st.2 (Nat.ne_of_lt hi)
 done:=λs Q E st q=>sL hA st.1.1 st.1.2 hn q
end
noncomputable def Ite (K:PySem.W.Frag)(k:Bool)(a:Addr):It :=
  ⟨λi H=>∃xs x,SqK k K H a xs/\xs[i]? = some x,
   λi H v H'=>∃T x,v=.ref T/\H T=none/\H'=upd H T (.tup [.int i,x])/\∀xs,SqK k K H a xs->xs[i]? = some x,
   λi H=>∃xs,SqK k K H a xs/\xs.length<=i⟩
theorem y7 {P:Program}{w:World}{K:PySem.W.Frag}{es:List Expr}{kt:Nat}{pt:Pos}{k:Bool}{a e it:Addr}(hei:e≠it)(hae:a≠e)(hai:a≠it):
  Turn P w K (.Tuple es kt pt) (Ite K k a) [e,it] e (λi h=>(∃old,IsEnum h e it i old)/\KIt k h it a i) where
 mem:=by simp
 obj:=λi h st b hb=>by
  obtain⟨⟨old,he⟩,t1⟩:=st;simp at hb;rcases hb with rfl|rfl
  ·exact⟨_,he,λv z=>by cases z⟩
  ·exact t1.ob
 keep:=λi h h' st kk=>by
  obtain⟨⟨old,he⟩,t1⟩:=st;exact⟨⟨old,kk e (by simp) _ he⟩,t1.upon λo q=>kk it (by simp) o q⟩
 item:=by
  intro X hP hw hK hc i pins s σ H E I hf st hg;subst hP hw hK;obtain⟨⟨old,he⟩,t1⟩:=st;obtain⟨xs,x,q1,hx⟩:=hg;obtain⟨its,r1,p1,z1⟩:=q1.vals I;obtain⟨u,hu,ru⟩:=r1.get hx;have fresh:H s.heap.objs.size=none:=I.hok.fresh (Nat.le_refl _);have ilt:i<its.toArray.size:=by rw[List.size_toArray];exact(List.getElem?_eq_some_iff.mp hu).1
  have hel:e≠s.heap.objs.size:=Nat.ne_of_lt (Heap.lt_size he);have hil:it≠s.heap.objs.size:=by obtain⟨o,q,_⟩:=t1.ob;exact Nat.ne_of_lt (Heap.lt_size q)
  refine wpAny_pyNext_enum_itemD (Fq (A:=X.A.in1) (I.ok.hd hc) it a hai its.toArray) he ⟨t1,p1⟩ ilt hei (by simp[hei,hae.symm]) λv h' tk hv ho st' hT hsz hk=>?_;have ev:v=u:=by
   have hv':its[i]? = some v:=by simpa using hv
   rw[hu]at hv';exact(Option.some.inj hv').symm
  subst ev;refine⟨_,rfl,wpAny_letOwnedTupleGo_enum (s:={ s with heap:=h',toks:=tk+1 }) ho λh2 he2 s2=>?_⟩;have s2':Heap.SameBut e h' h2:=s2;have kk:∀b o,b∉[e,it]->s.heap.get? b=some o->h2.get? b=some o:=λb o hb q=>s2'.extBut _ _ (λz=>hb (by simp[z])) (hk b o (λz=>hb (by simp[z])) (λz=>hb (by simp[z])) q);have new:b8 X.prog X.w (upd H s.heap.objs.size (.tup [.int i,x])) h2 s.heap.objs.size (.tup [.int i,x]):=⟨by show 2<=sizeLine;decide,[.int i tk,v],.cons ⟨tk,rfl⟩ (.cons ru .nil),⟨_,s2'.extBut _ _ hel.symm hT,rfl,_,rfl⟩⟩;refine⟨.ref s.heap.objs.size,upd H s.heap.objs.size (.tup [.int i,x]),GT (s:=s) (t':=tk+1) I hf kk (Nat.le_refl _) new,rfl,⟨_,x,rfl,fresh,rfl,λzs hq=>by rw[SqK.inj I hq q1];exact hx⟩,?_,λb hb=>?_⟩
  ·exact⟨⟨_,by have:=he2;rw[show((i:Int)+1)=((i+1:Nat):Int) by omega]at this;exact this⟩,st'.1.upon λo q=>s2'.extBut _ _ hei.symm q⟩
  ·have hne:b≠s.heap.objs.size:=by
    simp at hb;rcases hb with rfl|rfl
    ·exact hel
    ·exact hil
   rw[aF hne];exact(hf b hb).1
 done:=by
  intro X hP hw hK hc i pins s σ H E I hf st hg;subst hP hw hK;obtain⟨⟨old,he⟩,t1⟩:=st;obtain⟨xs,q1,hl⟩:=hg;obtain⟨its,r1,p1,z1⟩:=q1.vals I;have n1:=r1.length;refine wpAny_pyNext_enum_endD (Fr (A:=X.A.in1) (I.ok.hd hc) it a its.toArray i (by simp;omega)) he ⟨⟨t1,p1⟩,rfl⟩ λh' hk=>⟨rfl,?_⟩;exact qG (t':=s.toks) I hf λb o hb q=>hk b o (λz=>hb (by simp[z])) q
 self:=λ_ _ _ _ _ st h=>let ⟨⟨_,he⟩,_⟩:=st;wpAny_pyIter_enum he h
section
variable {X:Cx}{a b e:Expr}{pos:Pos}{p:Pos}
theorem sO:bootBuiltins "enumerate" = some (.type "enumerate"):=by decide +kernel
noncomputable def pq (ds:List D):List D:=ds.mapIdx λi d=>.tup [.int i,d]
@[simp] noncomputable def Al (fa:FE):FA:=λρ=>(fa ρ).bind λx=>(fT x.1).map pq
theorem C6 {K:PySem.W.Frag}{N:Hp}{k:Bool}{l:Addr}{vs:List V}{ds:List D}(h1:SqK k K N l vs)(i1:IsL K N vs ds):o0 K (Ite K k l) N (pq ds):=by
 intro i H' sm;have n1:=i1.length;refine⟨λd ed=>?_,λhl=>⟨vs,h1.same sm,?_⟩⟩
 ·unfold pq at ed;rw[List.getElem?_mapIdx]at ed;obtain⟨x,e1,rfl⟩:=oY ed;obtain⟨v,ev,iv⟩:=i1.get e1;refine⟨⟨vs,v,h1.same sm,ev⟩,λr H2 hy=>?_⟩;obtain⟨T,v',rfl,hT,rfl,f1⟩:=hy;have e3:=f1 vs (h1.same sm);rw[ev]at e3;cases e3;have xt:=Ext.laid (o:=.tup [.int i,v]) sm hT;exact⟨_,xt,.tup (SqT.of aD) (.cons (.int _) (.cons (iv.mono xt.bn) .nil))⟩
 ·unfold pq at hl;rw[List.length_mapIdx]at hl;omega
theorem C7 {es:List Expr}{kt:Nat}{pt:Pos}{fa:FE}(hm:X.mg "enumerate" = none)(ha:JE X a fa)(hg:Gl X "enumerate":=by rfl)(hs:starEach [a] X.env=[(false,eval a X.env)]:=by rfl):
  JI X (.Tuple es kt pt) (.Call (.Name "enumerate" p) [a] [] pos) (Al fa):=by
 intro pins s σ H R I q;refine Call_ (jj I hg hm sO (PyProof.Rows.callWith_type1 (thn (aa ha af hs pos pins s σ H (λvs H1=>∃(k:Bool)(l:Addr)(us:List V),vs=[.ref l]/\SqK k X.K H1 l us/\R (Ite X.K k l) H1) I ?_) λus s1 ⟨vs,H1,I1,r1,q1⟩=>?_) hs rfl))
 ·obtain⟨B,ρ,ds,sB,r,ee,q⟩:=q;obtain⟨x1,ex,ee⟩:=oX ee;obtain⟨xs,exs,ee⟩:=oY ee;subst ee;refine⟨B,ρ,[x1.1],sB,r,by simp[ab,ag,ex],λvs H1 N1 xt i1=>?_⟩;cases i1 with
  |cons j1 j2=>
   cases j2
   obtain⟨k1,l1,us,rfl,s1,m1⟩:=GU j1 exs;exact⟨k1,l1,us,rfl,s1.same xt.nh,q _ H1 N1 xt (C6 s1 m1)⟩
 ·obtain⟨k,l,ws,rfl,h1,q⟩:=q1;obtain⟨u1,rfl,ru1⟩:=r1.one;cases ru1
  obtain⟨its,v1,p1,z1⟩:=h1.vals I1;have lt1:=p1.lt;refine Ak p1 λh' c1 c2 ck=>?_;refine wpAny_pyIter_enum c1 ⟨s1.heap.objs.size+1,[s1.heap.objs.size+1,s1.heap.objs.size],_,_,H1,rfl,I1.kept (t':=s1.toks) ck,
   y7 (Nat.succ_ne_self _) (Nat.ne_of_lt (Nat.lt_succ_of_lt lt1)) (Nat.ne_of_lt lt1),⟨⟨_,c1⟩,c2⟩,λb hb=>?_,q⟩
  have hle:s1.heap.objs.size<=b:=by
   simp at hb;rcases hb with rfl|rfl
   ·exact Nat.le_succ _
   ·exact Nat.le_refl _
  exact I1.fpOk hle (I1.hok.fresh hle)
end
end DL
namespace DL
open PySem PySem.Spec PyProof.Rows
theorem y8 (t:SetTable)(es:Array (Int×Value))(n:Nat):(relayAll t es n).2.1.led=t.led:=by
 unfold relayAll;split
 ·rename_i t' order h;unfold SetTable.relaid SetTable.laid at h;obtain⟨ow,_,h⟩:=oX h;cases h
  dsimp only;split<;>rfl
 ·rfl
theorem sP (t:SetTable)(es:Array (Int×Value))(n:Nat)(hp:t.plain=false):(relayAll t es n).2.1.plain=false:=by
 unfold relayAll;split
 ·rename_i t' order h;unfold SetTable.relaid SetTable.laid at h;obtain⟨ow,_,h⟩:=oX h;cases h
  dsimp only;split
  ·exact hp
  ·rfl
 ·rfl
theorem C8 (t:SetTable)(es:Array (Int×Value))(h:Int)(x:Value):(layNew t es h x).2.1.led=t.led:=by
 unfold layNew;split
 ·dsimp only[SetTable.put,SetTable.orStandIn];repeat' (first|rfl|split)
 ·rfl
structure TabT (w:World)(es:Array (Int×Value))(t:SetTable):Prop where
 fits:t.fits es.size=true
 led:t.led = !w.params.followText "set-order"
 plain:es.size≠0->t.plain=false
def ge (prog:Program)(w:World)(h:Heap)(a:Addr)(ts:List Str):Prop :=
 ∃o es ep t,h.get? a=some o/\o.ExactSet/\o.data=.set es ep t/\ElemsOf (PySem.strKind prog w) es.toList/\(es.toList.map (λe=>strOf e.2)).Perm ts/\ts.Nodup/\ts.length<scanBound/\TabT w es t
noncomputable def ia (ts:List Str)(x:Str):List Str:=if x∈ts then ts else ts++[x]
theorem Am (ts:List Str)(x:Str):(ia ts x).length<=ts.length+1:=by unfold ia;split<;>simp
theorem sQ {k:Str}{v:Value}(h:Value.isStrOf k v=true):strOf v=k:=by obtain⟨t,rfl⟩:=Value.isStrOf_shape h;rfl
section
variable {prog:Program}{w:World}{A:Around}{E:Value->Shared->Prop}{s:Shared}
theorem pr {es:Array (Int×Value)}{ts:List Str}(hel:ElemsOf (PySem.strKind prog w) es.toList)(hp:(es.toList.map (λe=>strOf e.2)).Perm ts)(k:Str):k∈ts ↔ ∃e∈es.toList,(PySem.strKind prog w).is k e.2=true:=by
 rw[←hp.mem_iff,List.mem_map];constructor
 ·rintro⟨e,he,rfl⟩;obtain⟨⟨k',hk,_⟩,_⟩:=hel e he;have hk':Value.isStrOf k' e.2=true:=hk;refine⟨e,he,?_⟩;show Value.isStrOf (strOf e.2) e.2=true;rw[sQ hk'];exact hk'
 ·rintro⟨e,he,hk⟩;exact⟨e,he,sQ hk⟩
theorem pv {h:Heap}{a:Addr}{o:Obj}{es:Array (Int×Value)}{ep:Nat}{t:SetTable}(ho:h.get? a=some o)(hd:o.data=.set es ep t)(es':Array (Int×Value))(t':SetTable):
  (h.update a (Obj.putSet es' t')).get? a=some { o with data:=.set es' (ep+1) t' }:=by
 have:=Heap.get?_update_self (Obj.putSet es' t') ho (by rw[putSet_of es' t' hd];rfl);rw[putSet_of es' t' hd]at this;exact this
theorem sR {g:Bool->Sem Unit}(hg:∀(b:Bool)(s₁:Shared)(Q':Unit->Shared->Prop),Q' () s₁->wpAny (model prog w) A (g b) Q' E s₁)
  {a:Addr}{o:Obj}{es:Array (Int×Value)}{ep:Nat}{t:SetTable}(ho:s.heap.get? a=some o) (hex:o.ExactSet) (hd:o.data=.set es ep t)
  {es1:Array (Int×Value)}{t2:SetTable}{ts:List Str}(hel1:ElemsOf (PySem.strKind prog w) es1.toList) (hp1:(es1.toList.map (λe=>strOf e.2)).Perm ts) (nd:ts.Nodup)
  (hb1:ts.length<scanBound) (hf2:t2.fits es1.size=true) (hl2:t2.led = !w.params.followText "set-order") (hpl:t2.plain=false) {wasDummy:Bool}{R:Option Bool->Shared->Prop}
  (h:∀h',Heap.SameBut a s.heap h'->ge prog w h' a ts->R (some true) { s with heap:=h' }):
  wpAny (model prog w) A (do
    storeSet a es1 t2
    if(!wasDummy && t2.tooFull)=true then do
      g (relayAll t2 es1 (SetTable.grown es1.size)).2.2
      storeSet a (relayAll t2 es1 (SetTable.grown es1.size)).1 (relayAll t2 es1 (SetTable.grown es1.size)).2.1
      pure (some true)
     else pure (some true)) R E s:=by
 have sz1:es1.size=ts.length:=by rw[←hp1.length_eq,List.length_map,Array.length_toList]
 refine wX (wpAny_storeSet_of ho hd ?_ (fits_of_scanBound (by rw[sz1];exact hb1)));have ho1:=pv ho hd es1 t2;have hsb1:=Heap.SameBut.update s.heap a (Obj.putSet es1 t2);split
 ·have hp:=relayAll_perm t2 es1 (SetTable.grown es1.size);have hfr:=relayAll_fits t2 es1 (SetTable.grown es1.size);have hle:=y8 t2 es1 (SetTable.grown es1.size);have hpa:=sP t2 es1 (SetTable.grown es1.size) hpl;generalize hRl:relayAll t2 es1 (SetTable.grown es1.size)=Rl at hp hfr hle hpa ⊢;obtain⟨es2,t3,gave2⟩:=Rl;dsimp only at hp hfr hle hpa ⊢;have hel2:ElemsOf (PySem.strKind prog w) es2.toList:=hel1.perm hp;have hsz:es2.size=es1.size:=by rw[←Array.length_toList,hp.length_eq,Array.length_toList]
  refine wX (hg _ _ _ ?_);refine wX (wpAny_storeSet_of ho1 rfl ?_ (fits_of_scanBound (by rw[hsz,sz1];exact hb1)));have ho2:=pv ho1 rfl es2 t3;exact wY (h _ (hsb1.trans (Heap.SameBut.update _ a _)) ⟨_,es2,_,t3,ho2,hex,rfl,hel2,(hp.map _).trans hp1,nd,hb1,hfr,hle.trans hl2,λ_=>hpa⟩)
 ·exact wY (h _ hsb1 ⟨_,es1,_,t2,ho1,hex,rfl,hel1,hp1,nd,hb1,hf2,hl2,λ_=>hpl⟩)
theorem vw {a:Addr}{ts:List Str}{k:Str}{tk:Tok}{Q:Bool->Shared->Prop}(hS:ge prog w s.heap a ts)(hroom:ts.length+1<scanBound)
  (h:∀b h',Heap.SameBut a s.heap h'->ge prog w h' a (ia ts k)->Q b { s with heap:=h' }):
  wpAny (model prog w) A (setAddHashed a (.str k tk) ((PySem.strKind prog w).hash k)) Q E s:=by
 have hS0:=hS;obtain⟨o,es,ep,t,ho,hex,hd,hel,hperm0,nd,hb,hf,hled,hpl⟩:=hS;have hkey:(PySem.strKind prog w).is k (.str k tk)=true:=strKind_is prog w k tk;have sz:es.size=ts.length:=by rw[←hperm0.length_eq,List.length_map,Array.length_toList]
 unfold setAddHashed setAddHashedIn;refine wpAny_holding (wX (wpAny_setState_of ho hd hf ?_));dsimp only;rw[byScan_of (x:=.str k tk) rfl (by rw[sz];exact hb) hel];simp only[↓reduceIte];unfold setAddByScan;refine wX ?_;refine wX (wpAny_rule ?_);refine wX (wpAny_setScan_of hkey ho hd hf hel ?_);cases hr:List.findIdx? (λe=>(PySem.strKind prog w).is k e.2) es.toList with
 |some j=>
  dsimp only;obtain⟨hj,hpj,_⟩:=List.findIdx?_eq_some_iff_getElem.mp hr;have hm:k∈ts:=(pr hel hperm0 k).mpr ⟨es.toList[j],List.getElem_mem hj,hpj⟩;refine wY (wY ?_);have e:ia ts k=ts:=by unfold ia;rw[if_pos hm]
  exact h false s.heap (Heap.SameBut.refl a s.heap) (by rw[e];exact hS0)
 |none=>
  dsimp only;have hm:k∉ts:=λz=>by
   obtain⟨e,he,hp⟩:=(pr hel hperm0 k).mp z;have:=List.findIdx?_eq_none_iff.mp hr e he;rw[hp]at this;exact Bool.noConfusion this
  have ea:ia ts k=ts++[k]:=by unfold ia;rw[if_neg hm]
  have hgw:∀(b:Bool){s₁:Shared}{Q':Unit->Shared->Prop},Q' () s₁->wpAny (model prog w) A (match b with|true=>rule "set.scan.the-table-gave-way" | false=>pure ()) Q' E s₁ :=
   λb s₁ Q' hq=>by cases b<;>first|exact wY hq|exact wpAny_rule hq
  have hperm:=layNew_perm t es ((PySem.strKind prog w).hash k) (.str k tk);have hfits:=layNew_fits t es ((PySem.strKind prog w).hash k) (.str k tk);have hl1:=C8 t es ((PySem.strKind prog w).hash k) (.str k tk);generalize hL:layNew t es ((PySem.strKind prog w).hash k) (.str k tk)=L at hperm hfits hl1 ⊢;obtain⟨es1,t1,wasDummy,gave⟩:=L;dsimp only at hperm hfits hl1 ⊢;rw[Array.toList_push]at hperm;have hel1:ElemsOf (PySem.strKind prog w) es1.toList:=(hel.push hkey rfl).perm hperm;have hp1:(es1.toList.map (λe=>strOf e.2)).Perm (ts++[k]):=(hperm.map _).trans (by rw[List.map_append];exact hperm0.append_right _);have nd1:(ts++[k]).Nodup:=by
   rw[List.nodup_append];refine⟨nd,by simp,λx hx y hy=>?_⟩;rw[List.mem_singleton]at hy;subst hy;exact λz=>hm (z ▸ hx)
  have hb1:(ts++[k]).length<scanBound:=by rw[List.length_append];exact hroom
  refine wX (hgw _ ?_);have hend:∀h',Heap.SameBut a s.heap h'->ge prog w h' a (ts++[k])->Q true { s with heap:=h' }:=λh' hsb hS'=>h true h' hsb (by rw[ea];exact hS');split
  ·refine wX ?_;rw[hashByValue_scannable 8 (x:=.str k tk) rfl];refine wY ?_;refine sR ?_ ho hex hd hel1 hp1 nd1 hb1 ?_ ?_ ?_ ?_
   ·intro b s₁ Q' hq;cases b<;>first|exact wY hq|exact wpAny_rule hq
   ·exact SetTable.fits_plain_off hfits
   ·exact hl1.trans hled
   ·rfl
   ·intro h' hsb hS';dsimp only;exact wY (hend h' hsb hS')
  ·rename_i hnp;refine wX (wY ?_);simp only[↓reduceIte];refine sR ?_ ho hex hd hel1 hp1 nd1 hb1 hfits (hl1.trans hled) (by simpa using hnp) ?_
   ·intro b s₁ Q' hq;cases b<;>first|exact wY hq|exact wpAny_rule hq
   ·intro h' hsb hS';dsimp only;exact wY (hend h' hsb hS')
end
noncomputable def fQ (ss:List Str):List Str:=ss.foldl ia []
theorem vx {ts:List Str}(h:ts.Nodup)(x:Str):(ia ts x).Nodup:=by
 unfold ia;split
 ·exact h
 ·rename_i hm;rw[List.nodup_append];refine⟨h,by simp,λy hy z hz=>?_⟩;rw[List.mem_singleton]at hz;subst hz;exact λe=>hm (e ▸ hy)
theorem sS {ts:List Str}{x y:Str}:y∈ia ts x↔y∈ts∨y=x:=by
 unfold ia;split
 ·rename_i hm;exact⟨.inl,λz=>z.elim id λe=>e ▸ hm⟩
 ·simp
theorem qH (ss:List Str):∀ts:List Str,(ss.foldl ia ts).length<=ts.length+ss.length:=by
 induction ss with
 |nil=>intro ts;simp
 |cons x r ih=>intro ts;rw[List.foldl_cons];have:=ih (ia ts x);have:=Am ts x;simp only[List.length_cons];omega
theorem mn (ss:List Str):(fQ ss).length<=ss.length:=by have:=qH ss [];simpa [fQ]using this
theorem y9 (ss:List Str)(x:Str):fQ (ss++[x])=ia (fQ ss) x:=by unfold fQ;rw[List.foldl_append];rfl
theorem StrsAre.at:∀ {vs:List Value}{ss:List Str},StrsAre vs ss->∀(i:Nat)(v:Value),vs[i]? = some v->∃x t,v=.str x t/\ss[i]? = some x
 |_,_,.nil,i,v,h=>by simp at h
 |_,_,.cons x t hr,0,v,h=>by simp at h;exact⟨x,t,h.symm,rfl⟩
 |_,_,.cons x t hr,i+1,v,h=>by
  simp only[List.getElem?_cons_succ]at h;exact StrsAre.at hr i v h
theorem ge.at {prog:Program}{w:World}{h h':Heap}{a:Addr}{ts:List Str}(x:ge prog w h a ts)(k:∀o,h.get? a=some o->h'.get? a=some o):ge prog w h' a ts:=by
 obtain⟨o,es,ep,t,ho,r⟩:=x;exact⟨o,es,ep,t,k o ho,r⟩
section
variable {prog:Program}{w:World}{A:Around}{R:Result->Shared->Prop}{I:Addr}{fp wr:List Addr}{G:Array GenState->Array GenState->Prop}{n:Nat}{P:Nat->Value->Prop}{St:Nat->Shared->Prop}
theorem qI (W:WalksS prog w A.in1 I fp wr G n P St)(S:Addr)(hSf:S∉fp)(ss:List Str)(hn:ss.length=n)
  (hval:∀i v,P i v->∃x t,v=.str x t/\ss[i]? = some x) (hb:n+1<scanBound):
  ∀(k i:Nat)(s:Shared),n - i=k->i<=n->St i s->ge prog w s.heap S (fQ (ss.take i)) ->
   (∀s',Moved (S::wr) G s s'->ge prog w s'.heap S (fQ ss)->R (.ok (.ret .none)) s') ->
   codeAny (model prog w) A (.builtin "set.update.loop" ⟨[.ref S,.ref I],[]⟩) R s:=by
 have hSw:S∉wr:=λh=>hSf (W.sub _ h);have hsub:∀b∈wr,b∈S::wr:=λb hb=>mZ _ hb;intro k;induction k with
 |zero=>
  intro i s hk hi hst hS hR;have hin:i=n:=by omega
  subst hin;refine codeAny_builtin PyProof.Rows.F.entry_set_update_loop ?_;rw[Around.under_plainId PyProof.Rows.F.plain_set_update_loop _];show wpAny _ A.in1 (pyNext (.ref I)>>=_) _ _ s;refine wX (W.done s _ _ hst λs' hm=>?_);show wpAny _ A.in1 (ret Value.none) _ _ s';refine wY (hR s' (hm.mono hsub) ?_);rw[List.take_of_length_le (by omega)]at hS;exact hS.at λo e=>hm.heap S _ hSw e
 |succ k ih=>
  intro i s hk hi hst hS hR;have hlt:i<n:=by omega
  refine codeAny_builtin PyProof.Rows.F.entry_set_update_loop ?_;rw[Around.under_plainId PyProof.Rows.F.plain_set_update_loop _];show wpAny _ A.in1 (pyNext (.ref I)>>=_) _ _ s;refine wX (W.item i s _ _ hlt hst λv s' hP hst' hm=>?_);obtain⟨x,t,rfl,hx⟩:=hval i v hP;have hS':ge prog w s'.heap S (fQ (ss.take i)):=hS.at λo e=>hm.heap S _ hSw e;show wpAny _ A.in1 (holding [Value.str x t] (setAdd S (.str x t))>>=_) _ _ s';refine wX (wpAny_holding ?_);unfold setAdd;refine wpAny_holding ?_;refine wX ((PySem.strKind prog w).pyHash (k:=x) (strKind_is prog w x t) ?_);have hl:(fQ (ss.take i)).length+1<scanBound:=by have:=mn (ss.take i);rw[List.length_take]at this;omega
  refine vw (s:={ s' with toks:=s'.toks+1 }) hS' hl λb h' hsb hS2=>?_;have hS3:ge prog w h' S (fQ (ss.take (i+1))):=by
   rw[List.take_add_one,hx,Option.toList_some,y9];exact hS2
  refine wY ⟨plainId_quiet PyProof.Rows.F.plain_set_update_loop _,ih (i+1) _ (by omega) hlt (W.frame _ s' _ _ hst' (Nat.le_succ _) λb hb o e=>?_) hS3 λs'' hm'' hS''=>?_⟩
  ·rw[hsb.2 b (λh:b=S=>hSf (by rw[←h];exact hb))];exact e
  ·refine hR s'' (Moved.trans W.gtrans ((hm.mono hsub).then_heap (Nat.le_succ _) λb o hb e=>?_) hm'') hS'';rw[hsb.2 b (λh:b=S=>hb (by rw[h];exact mX))];exact e
end
section
variable {prog:Program}{w:World}{A:Around}{E:Value->Shared->Prop}{s:Shared}
noncomputable abbrev dq (w:World):Obj:={ cls:=.type "set",dict:=none,data:=.set #[] 0 (.fresh 0 0 (!w.params.followText "set-order")) }
theorem sT (a:Value){Q₁:Value->Shared->Prop}
  (h:Q₁ (.ref s.heap.objs.size) { s with heap:=s.heap.push (dq w) }):
  codeAny (model prog w) A (.call (.builtin "set.__new__") ⟨[.type "set",a],[]⟩) (wants Q₁ E) s:=by
 refine codeAny_of_tree ?_;show wpAny _ A.in1 (do checkBuiltinCall "set.__new__" ⟨[.type "set",a],[]⟩;again (.builtin "set.__new__" ⟨[.type "set",a],[]⟩)) _ _ s;refine wX (wpAny_of_eq (PySem.F.newCall_set_1 a) (wY ⟨plainId_quiet PySem.F.plain_set_new _,codeAny_builtin PySem.F.entry_set_new ?_⟩));rw[Around.under_plainId PySem.F.plain_set_new _];unfold Builtin.«set.__new__» Builtin.Frozenset.newClass;have hsub:=sub_set_self;obtain⟨hp,g,d,tk,os⟩:=s;dsimp only;wp_walk;refine wpAny_askSetting (wY ?_);dsimp only;simp only[newObj];refine wX (wpAny_alloc (wY ?_));exact wY h
set_option maxHeartbeats 3200000 in
theorem mo {l:Addr}{items:Array Value}{ss:List Str}{Q:Value->Shared->Prop}
  (hh:A.handled=none) (hl:s.heap.IsList l items) (hi:StrsAre items.toList ss) (hb:items.size+1<scanBound)
  (h:∀(h':Heap)(tk:Nat),ge prog w h' s.heap.objs.size (fQ ss) ->
   (∀b o,b<s.heap.objs.size->s.heap.get? b=some o->h'.get? b=some o)->Q (.ref s.heap.objs.size) { s with heap:=h',toks:=tk }):
  wpAny (model prog w) A (call (.type "set") [.ref l]) Q E s:=by
 obtain⟨c,tl,hmro⟩:=PySem.F.called_set.mro;have hmade:=PySem.F.called_set.made;have hsub:=PySem.F.called_set.sub;refine wpAny_call (codeAny_of_tree ?_);show wpAny _ _ (callAny (.type "set") _) _ _ _;refine wY ⟨Code.quiet_builtin _ (by decide +kernel),codeAny_builtin PySem.F.entry_type_call ?_⟩;rw[Around.under_plain (weight_type_call_type "set" [.ref l] []) rfl];have h1:=PySem.F.called_set.notType;have h2:=PySem.F.called_set.canCreate;have hct:=PySem.F.typeCall_set_1 (.ref l);have hlen:ss.length=items.size:=by have:=hi.strs;rw[←this,List.length_map,Array.length_toList]
 repeat (any_goals (first|assumption|wp_step))
 refine codeAny_mono (sT (.ref l) (E:=E) (Q₁:=λobj s₁=>obj=.ref s.heap.objs.size/\s₁={ s with heap:=s.heap.push (dq w) }) ⟨rfl,rfl⟩) λr s₁ hr=>?_;cases r with
 |error e=>exact hr
 |ok fl=>
  cases fl with
  |ret obj=>
   obtain⟨rfl,rfl⟩:=hr;have hS:(s.heap.push (dq w)).get? s.heap.objs.size=some (dq w):=Heap.get?_push_size _ rfl;have hT:Shared.TypeIs { s with heap:=s.heap.push (dq w) } (.ref s.heap.objs.size) "set":=⟨_,hS,rfl⟩;have hli:=PySem.F.called_set.init.lookup;have hbi:=PySem.F.called_set.init.bind (.ref s.heap.objs.size);repeat (any_goals (first|assumption|wp_step))
   refine codeAny_mono (codeAny_call_builtin (R:=wants (λr s₂=>r=.none/\∃h' tk,s₂={ s with heap:=h',toks:=tk } /\
     ge prog w h' s.heap.objs.size (fQ ss) /\
     (∀b o,b<s.heap.objs.size->s.heap.get? b=some o->h'.get? b=some o)) E) PySem.F.called_set.init.plain PySem.F.entry_set_init (check_set_init_1 hT ?_)) λr₂ s₂ hr₂=>?_
   ·obtain⟨ol,hol,hcl,nl,hdl⟩:=hl;obtain⟨ocls,odict,odata,oslots⟩:=ol;simp only at hcl hdl;subst hcl;subst hdl;have hol':(s.heap.push (dq w)).get? l=some { cls:=.type "list",dict:=odict,data:=.seq items nl,slots:=oslots }:=Heap.get?_push_of_some _ hol;have hsls:=PySem.F.sub_list_set;have hslf:=PySem.F.sub_list_frozenset;have hne:(Value.type "list" == Value.type "dict")=false:=by decide
    have hl1:(s.heap.push (dq w)).IsList l items:=⟨_,hol',rfl,nl,rfl⟩;unfold Builtin.«set.__init__» noKeywords Builtin.Frozenset.updateFrom;generalize hPI:pyIter=PI;wp_walk;subst hPI;refine wpAny_pyIter_list hl1 ?_;refine wX (wpAny_runValue ?_);have hlS:l<s.heap.objs.size:=Heap.lt_size hol;have hh3:A.in1.in1.in1.handled=none:=by simp[hh]
    have hneI:l≠(s.heap.push (dq w)).objs.size:=by
     rw[Heap.size_push];exact Nat.ne_of_lt (Nat.lt_succ_of_lt hlS)
    have hSf:s.heap.objs.size∉[(s.heap.push (dq w)).objs.size,l]:=by
     rw[Heap.size_push];simp only[List.mem_cons,List.mem_singleton,List.not_mem_nil,or_false,not_or];exact⟨Nat.ne_of_lt (Nat.lt_succ_self _),Nat.ne_of_gt hlS⟩
    have hval:∀(i:Nat)(v:Value),items[i]? = some v->∃x t,v=.str x t/\ss[i]? = some x:=λi v hv=>
     StrsAre.at hi i v (by rw[Array.getElem?_toList];exact hv)
    refine qI ((Walks.list hh3 _ l hneI items).toS) s.heap.objs.size
     hSf ss hlen hval hb (items.size - 0) 0 _ (by omega) (Nat.zero_le _)
     ⟨⟨_,Heap.get?_push_size _ rfl,rfl,rfl⟩,(hl1.push _)⟩ ?hS0 ?hR
    case hS0=>
     have hget:((s.heap.push (dq w)).push { cls:=.type "list_iterator",data:=.fields #[.ref l,.int 0 0] }).get? s.heap.objs.size
       = some (dq w):=Heap.get?_push_of_some _ hS
     exact⟨_,#[],0,_,hget,⟨rfl,rfl,rfl⟩,rfl,λe he=>by simp at he,List.Perm.refl _,List.nodup_nil,(by show(0:Nat)<scanBound;decide),rfl,rfl,λz=>absurd rfl z⟩
    case hR=>
     intro s' hm hS'
     obtain⟨h',g',d',tk',os'⟩:=s'
     have eg:g'=s.gens:=hm.gens
     have ed:d'=s.drawn:=hm.drawn
     have eo:os'=s.os:=hm.os
     subst eg;subst ed;subst eo
     show wpAny _ _ _ _ _ _
     refine wY ?_
     show wpAny _ _ (ret Value.none) _ _ _
     refine wY ⟨rfl,h',tk',rfl,hS',λb o hb e=>?_⟩
     have hb1:b≠s.heap.objs.size:=Nat.ne_of_lt hb
     have hb2:b≠(s.heap.push (dq w)).objs.size:=by
      rw[Heap.size_push];exact Nat.ne_of_lt (Nat.lt_succ_of_lt hb)
     exact hm.heap b o (by simp only[List.mem_cons,List.mem_singleton,List.not_mem_nil,or_false,not_or];exact⟨hb1,hb2⟩) (Heap.get?_push_of_some _ (Heap.get?_push_of_some _ e))
   ·cases r₂ with
    |error e=>exact hr₂
    |ok fl₂=>
     cases fl₂ with
     |ret r=>
      obtain⟨rfl,h',tk,rfl,hS',hk'⟩:=hr₂;repeat (any_goals (first|assumption|wp_step))
      exact h _ _ hS' hk'
     |_=>exact hr₂.elim
  |_=>exact hr.elim
end
open Sem (wp)
section
variable {M:Model}{A:Around}{E:Value->Shared->Prop}{s:Shared}
theorem C9 {src:Source}{n:Nat}{Q:Nat->Shared->Prop}(hn:n≠0)(h:∀k d,k<n->Q k { s with drawn:=d }):wpAny M A (choose src n) Q E s:=by
 intro Γ p hG;unfold choose;rw[Sem.wp_choose];refine⟨hn,?_⟩;have:=h _ (s.drawn.bump src) (Nat.mod_lt (M.w.draws src (s.drawn.get src)) (Nat.pos_of_ne_zero hn));simpa using this
end
theorem jB {α:Type}:∀(l:List α)(i:Nat),i<l.length->(l.eraseIdx i).length=l.length - 1:=λl i h=>by rw[List.length_eraseIdx,if_pos h]
theorem jo {α:Type}:∀(l:List α)(i:Nat)(x:α),l[i]? = some x->(x::l.eraseIdx i).Perm l
 |[],i,x,h=>by simp at h
 |a::l,0,x,h=>by simp at h;subst h;exact List.Perm.refl _
 |a::l,i+1,x,h=>by
  rw[List.eraseIdx_cons_succ];simp only[List.getElem?_cons_succ]at h;exact(List.Perm.swap a x _).trans ((jo l i x h).cons a)
theorem wN {M:Model}{A:Around}{E:Value->Shared->Prop}{α:Type}:∀(n:Nat)(xs:List α)(s:Shared)(Q:List α->Shared->Prop),xs.length=n->(∀ys d,ys.Perm xs->Q ys { s with drawn:=d })->wpAny M A (drawOrder n xs) Q E s
 |0,xs,s,Q,hl,h=>by
  have:xs=[]:=List.eq_nil_of_length_eq_zero hl;subst this;exact wY (h [] s.drawn (List.Perm.refl _))
 |n+1,[],s,Q,hl,h=>by simp at hl
 |n+1,x::r,s,Q,hl,h=>by
  show wpAny M A (choose .order (x::r).length>>=λi=>match (x::r)[i]? with
   |some x'=>(do return x'::(←drawOrder n ((x::r).eraseIdx i)))
   |none=>unsupported "internal:drawOrder") Q E s
  refine wX (C9 (by simp) λk d hk=>?_);obtain⟨y,hy⟩:∃y,(x::r)[k]? = some y:=⟨_,List.getElem?_eq_getElem hk⟩;rw[hy];refine wX (wN n _ _ _ (by rw[jB _ _ hk,hl];rfl) λys d' hp=>wY (h _ _ ((hp.cons y).trans (jo _ _ _ hy))))
theorem wO {α:Type}(next:Nat->Nat):∀(fuel k:Nat)(left:List α)(out:Array α),left.length=fuel->(pickOrder.go next fuel k left out).toList.Perm (out.toList++left)
 |0,k,left,out,hl=>by
  have:left=[]:=List.eq_nil_of_length_eq_zero hl;subst this;unfold pickOrder.go;simp
 |fuel+1,k,left,out,hl=>by
  unfold pickOrder.go;have hk:next k % left.length<left.length:=Nat.mod_lt _ (by omega);obtain⟨y,hy⟩:∃y,left[next k % left.length]? = some y:=⟨_,List.getElem?_eq_getElem hk⟩;rw[hy];dsimp only;refine(wO next fuel (k+1) _ _ (by rw[jB _ _ hk];omega)).trans ?_;rw[Array.toList_push,List.append_assoc];exact(jo _ _ _ hy).append_left _
theorem yA {α:Type}(next:Nat->Nat)(xs:Array α):(pickOrder next xs).toList.Perm xs.toList:=by
 have:=wO next xs.size 0 xs.toList #[] (by simp);simpa [pickOrder]using this
theorem bf:Slot "set_iterator" "__next__" "set_iterator.__next__" :=
 .of (owner:="set_iterator") (n:="__next__") (by rw[typeLookup_type,builtinLookup_eq_fast];kernel_rfl) (by decide +kernel) (by decide +kernel) (by decide +kernel)
  (by first|exact .inl (by decide +kernel)|exact .inr (by decide +kernel)) (by rw[isSubtype_type];kernel_rfl)
theorem dG:entryFor table "set_iterator.__next__" = some Builtin.«set_iterator.__next__»:=entryFor_of_tree (by kernel_rfl)
theorem eG (a:Value):argsOk "set_iterator.__next__" ⟨[a],[]⟩:=by unfold argsOk;kernel_rfl
theorem jc:Slot "set_iterator" "__iter__" "set_iterator.__iter__" :=
 .of (owner:="set_iterator") (n:="__iter__") (by rw[typeLookup_type,builtinLookup_eq_fast];kernel_rfl) (by decide +kernel) (by decide +kernel) (by decide +kernel)
  (by first|exact .inl (by decide +kernel)|exact .inr (by decide +kernel)) (by rw[isSubtype_type];kernel_rfl)
theorem mq:entryFor table "set_iterator.__iter__" = some Builtin.«dict_keyiterator.__iter__» :=
 entryFor_alias (id':="dict_keyiterator.__iter__") (by kernel_rfl) rfl (by decide +kernel) (by kernel_rfl)
theorem o6 (a:Value):argsOk "set_iterator.__iter__" ⟨[a],[]⟩:=by unfold argsOk;kernel_rfl
theorem lD:entryFor table "set.__iter__" = some Builtin.«frozenset.__iter__» :=
 entryFor_alias (id':="frozenset.__iter__") (by kernel_rfl) rfl (by decide +kernel) (by kernel_rfl)
noncomputable abbrev jp (fst:Value)(i:Nat)(S:Addr)(n ep:Nat):Obj:={ cls:=.type "set_iterator",data:=.fields #[fst,.int i 0,.ref S,.int n 0,.int ep 0] }
section
variable {prog:Program}{w:World}{A:Around}{E:Value->Shared->Prop}{s:Shared}{it S:Addr}{i ep:Nat}{o:Obj}{es:Array (Int×Value)}{t:SetTable}
theorem cR {fst:Value}{n:Nat}(ho:s.heap.get? it=some (jp fst i S n ep)):s.TypeIs (.ref it) "set_iterator":=⟨_,ho,rfl⟩
theorem qJ {k k':Nat}{x:Value}{Q:Option Value->Shared->Prop}(ho:s.heap.get? it=some (jp (.int k 0) i S es.size ep))
  (hS:s.heap.get? S=some o) (hd:o.data=.set es ep t) (hf:t.fits es.size=true)
  (hN:∀(A':Around)(E':Value->Shared->Prop)(Q':Option (Value×Nat)->Shared->Prop),Q' (some (x,k')) s->wpAny (model prog w) A' (setNext S k i ep) Q' E' s)
  (hQ:∀h',h'.get? it=some (jp (.int k' 0) (i+1) S es.size ep)->Heap.SameBut it s.heap h'->Q (some x) { s with heap:=h' }):
  wpAny (model prog w) A (pyNext (.ref it)) Q E s:=by
 unfold pyNext;refine wX (wpAny_attempt (wpAny_callSpecial?_slot (name:=Str.ofString "__next__") (cR ho) bf
  (wpAny_call_entry bf (cR ho) dG ?_ (eG _))))
 show wpAny _ _ (fieldsOf (.ref it)>>=_) _ _ s;refine wX (wpAny_fieldsOf ho rfl ?_);show wpAny _ _ (setEntries S>>=_) _ _ s;refine wX (wpAny_setEntries_of hS hd hf ?_);rw[if_neg (by simp)];show wpAny _ _ (setNext S _ _ _>>=_) _ _ s;simp only[Int.toNat_natCast];refine wX (hN _ _ _ ?_);dsimp only;refine wX (wpAny_setField_rec ho (by simp) λh1 e1 b1=>?_);refine wX (wpAny_setField_rec e1 (by simp) λh2 e2 b2=>?_);exact wY ⟨x,rfl,wY (hQ h2 (by simpa [rawInt,jp]using e2) (b1.trans b2))⟩
theorem qK {k:Nat}{Q:Option Value->Shared->Prop}(hh:A.handled=none)(ho:s.heap.get? it=some (jp (.int k 0) i S es.size ep))
  (hS:s.heap.get? S=some o) (hd:o.data=.set es ep t) (hf:t.fits es.size=true)
  (hN:∀(A':Around)(E':Value->Shared->Prop)(Q':Option (Value×Nat)->Shared->Prop),Q' none s->wpAny (model prog w) A' (setNext S k i ep) Q' E' s)
  (hQ:∀h',Heap.ExtBut it s.heap h'->Q none { s with heap:=h' }):
  wpAny (model prog w) A (pyNext (.ref it)) Q E s:=by
 unfold pyNext;refine wX (wpAny_attempt (wpAny_callSpecial?_slot (name:=Str.ofString "__next__") (cR ho) bf
  (wpAny_call_entry bf (cR ho) dG ?_ (eG _))))
 show wpAny _ _ (fieldsOf (.ref it)>>=_) _ _ s;refine wX (wpAny_fieldsOf ho rfl ?_);show wpAny _ _ (setEntries S>>=_) _ _ s;refine wX (wpAny_setEntries_of hS hd hf ?_);rw[if_neg (by simp)];show wpAny _ _ (setNext S _ _ _>>=_) _ _ s;simp only[Int.toNat_natCast];refine wX (hN _ _ _ ?_);dsimp only;refine wX (wpAny_setField_rec ho (by simp) λh1 e1 b1=>?_);refine wX ?_;simp only[newExc,newTuple];refine wX (wpAny_newObj_type ?_ (by size_fits));refine wX (m:=firstArgMember _ _) (wpAny_of_eq (a:=Value.none) (by first|rfl|(simp only[firstArgMember];rfl)) ?_);refine wpAny_newObj_type ?_ (by size_fits);simp only[raiseNew];refine wX (wpAny_handled ?_);rw[show A.in1.handled=none from hh];refine wX (wY (wpAny_throw ?_));refine wX (wpAny_isInstance (T:="StopIteration") (b:=true) ⟨_,Heap.get?_push_size _ rfl,rfl⟩ isSubtype_stop ?_);exact wY (hQ _ ((b1.extBut.push _).push _))
theorem o7 {T:Addr}{pl:List Nat}{p:Nat}{x:Int×Value}{nt:Nat}{Q:Option Value->Shared->Prop}(ho:s.heap.get? it=some (jp (.ref T) i S es.size ep))
  (hT:s.heap.get? T=some (seqObj "tuple" (pl.map λ(p:Nat)=>Value.int p 0).toArray nt))
  (hS:s.heap.get? S=some o) (hd:o.data=.set es ep t) (hf:t.fits es.size=true) (hp:pl[i]? = some p) (hx:es[p]? = some x)
  (hQ:∀h',h'.get? it=some (jp (.ref T) (i+1) S es.size ep)->Heap.SameBut it s.heap h'->Q (some x.2) { s with heap:=h' }):
  wpAny (model prog w) A (pyNext (.ref it)) Q E s:=by
 unfold pyNext;refine wX (wpAny_attempt (wpAny_callSpecial?_slot (name:=Str.ofString "__next__") (cR ho) bf
  (wpAny_call_entry bf (cR ho) dG ?_ (eG _))))
 show wpAny _ _ (fieldsOf (.ref it)>>=_) _ _ s;refine wX (wpAny_fieldsOf ho rfl ?_);show wpAny _ _ (setEntries S>>=_) _ _ s;refine wX (wpAny_setEntries_of hS hd hf ?_);rw[if_neg (by simp)];show wpAny _ _ (seqItems? (.ref T)>>=_) _ _ s;refine wX (wpAny_seqItems hT rfl ?_);have e1:(pl.map λ(p:Nat)=>Value.int p 0).toArray[(i:Int).toNat]? = some (.int p 0):=by simp[hp]
 dsimp only;rw[e1];dsimp only;have e2:wpAny (model prog w) A.in1 (setNextDrawn S (p:Int).toNat (ep:Int).toNat) (λy s'=>y=x.2/\s'=s) (λ_ _=>False) s:=by
  unfold setNextDrawn;refine wX (wpAny_setState_of hS hd hf ?_);dsimp only;rw[if_neg (by simp)];simp only[Int.toNat_natCast,hx];exact wY ⟨rfl,rfl⟩
 refine wX (wpAny_mono e2 (λy s' hy=>?_) λ_ _ z=>z.elim);obtain⟨rfl,rfl⟩:=hy;refine wX (wpAny_setField_rec ho (by simp) λh1 e1 b1=>?_);exact wY ⟨_,rfl,wY (hQ h1 (by simpa [rawInt,jp]using e1) b1)⟩
theorem o8 {T:Addr}{pl:List Nat}{nt:Nat}{Q:Option Value->Shared->Prop}(hh:A.handled=none)(ho:s.heap.get? it=some (jp (.ref T) i S es.size ep))
  (hT:s.heap.get? T=some (seqObj "tuple" (pl.map λ(p:Nat)=>Value.int p 0).toArray nt))
  (hS:s.heap.get? S=some o) (hd:o.data=.set es ep t) (hf:t.fits es.size=true) (hp:pl[i]? = none)
  (hQ:∀h',Heap.ExtBut it s.heap h'->Q none { s with heap:=h' }):
  wpAny (model prog w) A (pyNext (.ref it)) Q E s:=by
 unfold pyNext;refine wX (wpAny_attempt (wpAny_callSpecial?_slot (name:=Str.ofString "__next__") (cR ho) bf
  (wpAny_call_entry bf (cR ho) dG ?_ (eG _))))
 show wpAny _ _ (fieldsOf (.ref it)>>=_) _ _ s;refine wX (wpAny_fieldsOf ho rfl ?_);show wpAny _ _ (setEntries S>>=_) _ _ s;refine wX (wpAny_setEntries_of hS hd hf ?_);rw[if_neg (by simp)];show wpAny _ _ (seqItems? (.ref T)>>=_) _ _ s;refine wX (wpAny_seqItems hT rfl ?_);have e1:(pl.map λ(p:Nat)=>Value.int p 0).toArray[(i:Int).toNat]? = none:=by simpa using hp
 dsimp only;rw[e1];dsimp only;refine wX (wpAny_setField_rec ho (by simp) λh0 e0 b0=>?_);refine wX (wpAny_setField_rec e0 (by simp) λh1 e1 b1=>?_);refine wX ?_;simp only[newExc,newTuple];refine wX (wpAny_newObj_type ?_ (by size_fits));refine wX (m:=firstArgMember _ _) (wpAny_of_eq (a:=Value.none) (by first|rfl|(simp only[firstArgMember];rfl)) ?_);refine wpAny_newObj_type ?_ (by size_fits);simp only[raiseNew];refine wX (wpAny_handled ?_);rw[show A.in1.handled=none from hh];refine wX (wY (wpAny_throw ?_));refine wX (wpAny_isInstance (T:="StopIteration") (b:=true) ⟨_,Heap.get?_push_size _ rfl,rfl⟩ isSubtype_stop ?_);exact wY (hQ _ (((b0.trans b1).extBut.push _).push _))
theorem sU {fst:Value}{n:Nat}{Q:Value->Shared->Prop}(ho:s.heap.get? it=some (jp fst i S n ep))(h:Q (.ref it) s):wpAny (model prog w) A (pyIter (.ref it)) Q E s:=by
 refine wpAny_pyIter_slot (cR ho) jc (wpAny_call_entry jc (cR ho) mq ?_ (o6 _));show wpAny _ _ (ret (.ref it)) _ _ s;exact wY ⟨_,rfl,"set_iterator",_,cR ho,bf.lookup,h⟩
end
section
variable {prog:Program}{w:World}{A:Around}{E:Value->Shared->Prop}{s:Shared}{it S:Addr}{i k ep:Nat}{o:Obj}{es:Array (Int×Value)}{t:SetTable}
theorem pw {Q:Option (Value×Nat)->Shared->Prop}(hS:s.heap.get? S=some o)(hd:o.data=.set es ep t)(hf:t.fits es.size=true)(hb:w.params.followText "set-order" = true)
  (h:Q (((pickOrder (w.params.setOrder S ep) es)[i]?).map λe=>(e.2,k)) s):wpAny (model prog w) A (setNext S k i ep) Q E s:=by
 unfold setNext;refine wX (wpAny_setState_of hS hd hf ?_);dsimp only;unfold setsByText;refine wX (wX (wpAny_askSetting (wY ?_)));show wpAny _ _ (if w.params.followText "set-order" = true then _ else _) _ _ _;rw[if_pos hb,if_neg (by simp)];unfold setWalk setsByText;refine wX (wX (wpAny_setState_of hS hd hf ?_));dsimp only;refine wX (wX (wpAny_askSetting (wY ?_)));show wpAny _ _ (if w.params.followText "set-order" = true then _ else _) _ _ _;rw[if_pos hb];refine wX (wpAny_askSetting (wY ?_));exact wY h
theorem mr {Q:Option (Value×Nat)->Shared->Prop}(hS:s.heap.get? S=some o)(hd:o.data=.set es ep t)(hf:t.fits es.size=true)(hb:w.params.followText "set-order" = false)(hl:t.led=true)(hz:es.size<=1)
  (h:Q (match es[SetTable.below t.place k]?,t.place[SetTable.below t.place k]? with
   |some (_,x),some j=>some (x,j+1)
   |_,_=>none) s):wpAny (model prog w) A (setNext S k i ep) Q E s:=by
 unfold setNext;refine wX (wpAny_setState_of hS hd hf ?_);dsimp only;unfold setsByText;refine wX (wX (wpAny_askSetting (wY ?_)));show wpAny _ _ (if w.params.followText "set-order" = true then _ else _) _ _ _;rw[if_neg (by rw[hb];simp)];show wpAny _ _ (if(!t.plain && decide (es.size > 1))=true then _ else _) _ _ _;rw[if_neg (by rw[decide_eq_false (by omega)];simp)];show wpAny _ _ ((if(!t.led && !es.isEmpty)=true then unsupported "set:maker-not-led" else pure ())>>=_) _ _ _;rw[hl,if_neg (by simp)];refine wX (wY ?_);exact wY h
theorem px (hh:A.handled=none)(hd:o.data=.set es ep t)(hf:t.fits es.size=true)(hne:S≠it)(vs:List Value)(hv:vs.length=es.size)(sl:Nat->Nat)
  (hN:∀i x,vs[i]? = some x->∀(A':Around)(E':Value->Shared->Prop)(s:Shared)(Q':Option (Value×Nat)->Shared->Prop),s.heap.get? S=some o->Q' (some (x,sl (i+1))) s->wpAny (model prog w) A' (setNext S (sl i) i ep) Q' E' s)
  (hE:∀(A':Around)(E':Value->Shared->Prop)(s:Shared)(Q':Option (Value×Nat)->Shared->Prop),s.heap.get? S=some o->Q' none s->wpAny (model prog w) A' (setNext S (sl es.size) es.size ep) Q' E' s):
  Walks prog w A it [it,S] [it] es.size (λi v=>vs[i]? = some v) (λi h=>h.get? it=some (jp (.int (sl i) 0) i S es.size ep)/\h.get? S=some o) where
 sub:=λb hb=>by simp at hb;simp[hb]
 frame:=λ_ _ _ st hk=>⟨hk it (by simp) _ st.1,hk S (by simp) _ st.2⟩
 item:=λi s Q E hi st hQ=>by
  obtain⟨x,hx⟩:∃x,vs[i]? = some x:=⟨_,List.getElem?_eq_getElem (by omega)⟩;refine qJ st.1 st.2 hd hf (λA' E' Q' q=>hN i x hx A' E' s Q' st.2 q) λh' h1 h2=>?_;exact hQ x h' s.toks hx ⟨h1,h2.extBut S _ hne st.2⟩ λb u hb e=>h2.extBut b u (λz=>hb (by simp[z])) e
 done:=λs Q E st hQ=>qK hh st.1 st.2 hd hf (λA' E' Q' q=>hE A' E' s Q' st.2 q) λh' h1=>hQ h' s.toks λb u hb e=>h1 b u (λz=>hb (by simp[z])) e
 self:=λ_ _ _ _ st hQ=>sU st.1 hQ
theorem vy {T:Addr}{pl:List Nat}{nt:Nat}(hh:A.handled=none)(hd:o.data=.set es ep t)(hf:t.fits es.size=true)(hne:S≠it)(hnT:T≠it)(hp:pl.Perm (List.range es.size)):
  Walks prog w A it [it,S,T] [it] es.size (λi v=>(pl.map λp=>(es.getD p (0,.none)).2)[i]? = some v)
   (λi h=>h.get? it=some (jp (.ref T) i S es.size ep)/\h.get? S=some o/\h.get? T=some (seqObj "tuple" (pl.map λ(p:Nat)=>Value.int p 0).toArray nt)) where
 sub:=λb hb=>by simp at hb;simp[hb]
 frame:=λ_ _ _ st hk=>⟨hk it (by simp) _ st.1,hk S (by simp) _ st.2.1,hk T (by simp) _ st.2.2⟩
 item:=λi s Q E hi st hQ=>by
  have hlen:pl.length=es.size:=by rw[hp.length_eq,List.length_range]
  obtain⟨p,hx⟩:∃p,pl[i]? = some p:=⟨_,List.getElem?_eq_getElem (by omega)⟩;have hpm:p<es.size:=List.mem_range.mp (hp.mem_iff.mp (List.mem_of_getElem? hx));have he:es[p]? = some (es.getD p (0,.none)):=by rw[Array.getD_eq_getD_getElem?,Array.getElem?_eq_getElem hpm];rfl
  refine o7 st.1 st.2.2 st.2.1 hd hf hx he λh' h1 h2=>?_;exact hQ _ h' s.toks (by simp[hx]) ⟨h1,h2.extBut S _ hne st.2.1,h2.extBut T _ hnT st.2.2⟩ λb u hb e=>h2.extBut b u (λz=>hb (by simp[z])) e
 done:=λs Q E st hQ=>by
  have hlen:pl.length=es.size:=by rw[hp.length_eq,List.length_range]
  exact o8 hh st.1 st.2.2 st.2.1 hd hf (List.getElem?_eq_none (by omega)) λh' h1=>hQ h' s.toks λb u hb e=>h1 b u (λz=>hb (by simp[z])) e
 self:=λ_ _ _ _ st hQ=>sU st.1 hQ
end
theorem vz {α:Type}(es:Array α)(d:α):(List.range es.size).map (λp=>es.getD p d)=es.toList:=by
 apply List.ext_getElem?;intro i;by_cases h:i<es.size
 ·simp[h,Array.getD_eq_getD_getElem?]
 ·simp[h]
section
variable {prog:Program}{w:World}{A:Around}{E:Value->Shared->Prop}{s:Shared}
theorem pz {xs:Array Nat}{j k:Nat}(h:xs=#[j]):SetTable.below xs k=if j<k then 1 else 0:=by
 subst h;by_cases h:j<k
 ·simp[SetTable.below,SetTable.below.go,h]
 ·simp[SetTable.below,SetTable.below.go,h]
theorem An {S:Addr}{ts:List Str}{Q:Value->Shared->Prop}(hS:ge prog w s.heap S ts)
  (hQ:∀(h':Heap)(d:Drawn)(it:Addr)(vs:List Value)(fp:List Addr)(St:Nat->Heap->Prop),(∀A',A'.handled=none->Walks prog w A' it fp [it] ts.length (λi v=>vs[i]? = some v) St)->St 0 h' ->
   (∀b u,s.heap.get? b=some u->h'.get? b=some u)->s.heap.objs.size<=it->(∀b∈fp,b=S∨s.heap.objs.size<=b)->vs.length=ts.length->(vs.map strOf).Perm ts->(∀v∈vs,∃x t,v=.str x t) ->
   Q (.ref it) { s with heap:=h',drawn:=d }):wpAny (model prog w) A (pyIter (.ref S)) Q E s:=by
 obtain⟨o,es,ep,t,ho,hex,hd,hel,hp,nd,hb,hf,hled,hpl⟩:=hS;have sz:es.size=ts.length:=by rw[←hp.length_eq,List.length_map,Array.length_toList]
 have hSlt:S<s.heap.objs.size:=Heap.lt_size ho;have hTy:s.TypeIs (.ref S) "set":=⟨_,ho,hex.1⟩;have hstrs:∀e∈es.toList,∃x t,e.2=.str x t:=λe he=>by
  obtain⟨⟨k,hk,_⟩,_⟩:=hel e he;obtain⟨t,q⟩:=Value.isStrOf_shape (show Value.isStrOf k e.2=true from hk);exact⟨k,t,q⟩
 refine wpAny_pyIter_slot hTy PySem.F.slot_set_iter (wpAny_call_entry PySem.F.slot_set_iter hTy lD ?_ (PySem.F.args_set_iter_1 _));show wpAny _ _ (Builtin.Frozenset.sizeOf S>>=_) _ _ s;unfold Builtin.Frozenset.sizeOf;refine wX (wX (wpAny_setEntries_of ho hd hf (wY ?_)));unfold setDrawn setsByText;refine wX (wX (wpAny_setState_of ho hd hf ?_));dsimp only;refine wX (wX (wpAny_askSetting (wY (wY ?_))));show wpAny _ _ (if(!w.params.followText "set-order" && (!t.plain && decide (es.size > 1)))=true then _ else _) _ _ _;have hmap:(es.toList.map (·.2)).map strOf=es.toList.map (λe=>strOf e.2):=by rw[List.map_map];rfl
 by_cases hbt:w.params.followText "set-order" = true
 ·rw[if_neg (by rw[hbt];simp)];refine wX (wY ?_);refine wX (wpAny_setEpoch_of ho hd hf ?_);have pp:=yA (w.params.setOrder S ep) es;have hlen:((pickOrder (w.params.setOrder S ep) es).toList.map (·.2)).length=es.size:=by rw[List.length_map,pp.length_eq,Array.length_toList]
  refine wX (wpAny_newObj_type (wY ⟨_,rfl,"set_iterator",_,⟨_,Heap.get?_push_size _ rfl,rfl⟩,bf.lookup,?_⟩));refine hQ _ s.drawn s.heap.objs.size ((pickOrder (w.params.setOrder S ep) es).toList.map (·.2)) [s.heap.objs.size,S] (λi h=>h.get? s.heap.objs.size=some (jp (.int ((λ_=>0:Nat->Nat) i:Nat) 0) i S es.size ep)/\h.get? S=some o) (λA' hA=>?_) ?_ (λb u e=>Heap.get?_push_of_some _ e) (Nat.le_refl _) (λb hb=>?_) (hlen.trans sz) ?_ ?_
  ·rw[←sz];exact px hA hd hf (Nat.ne_of_lt hSlt) _ hlen (λ_=>0) (λi x hx A' E' s Q' h1 h2=>pw h1 hd hf hbt (by
    rw[List.getElem?_map,Array.getElem?_toList]at hx;obtain⟨e,he,rfl⟩:=oY hx;rw[he];exact h2)) (λA' E' s Q' h1 h2=>pw h1 hd hf hbt (by
    rw[Array.getElem?_eq_none (by rw[←Array.length_toList,pp.length_eq,Array.length_toList];exact Nat.le_refl _)];exact h2))
  ·exact⟨Heap.get?_push_size _ rfl,Heap.get?_push_of_some _ ho⟩
  ·simp only[List.mem_cons,List.not_mem_nil,or_false]at hb;rcases hb with rfl|rfl
   ·exact .inr (Nat.le_refl _)
   ·exact .inl rfl
  ·refine List.Perm.trans ?_ hp;rw[←hmap];exact(pp.map _).map _
  ·intro v hv;obtain⟨e,he,rfl⟩:=List.mem_map.mp hv;exact hstrs e (pp.mem_iff.mp he)
 ·rw[Bool.not_eq_true]at hbt;have hl:t.led=true:=by rw[hled,hbt];rfl
  by_cases h1:es.size<=1
  ·rw[if_neg (by rw[decide_eq_false (by omega)];simp)];refine wX (wY ?_);refine wX (wpAny_setEpoch_of ho hd hf ?_);refine wX (wpAny_newObj_type (wY ⟨_,rfl,"set_iterator",_,⟨_,Heap.get?_push_size _ rfl,rfl⟩,bf.lookup,?_⟩));have hpz:t.place.size=es.size:=by
    simp only[SetTable.fits,Bool.and_eq_true,beq_iff_eq,decide_eq_true_eq]at hf;exact hf.1
   refine hQ _ s.drawn s.heap.objs.size (es.toList.map (·.2)) [s.heap.objs.size,S] (λi h=>h.get? s.heap.objs.size=some (jp (.int ((λi=>if i=0 then 0 else t.place.getD 0 0+1:Nat->Nat) i:Nat) 0) i S es.size ep)/\h.get? S=some o) (λA' hA=>?_) ?_ (λb u e=>Heap.get?_push_of_some _ e) (Nat.le_refl _) (λb hb=>?_) (by rw[List.length_map,Array.length_toList,sz]) (by rw[hmap];exact hp) ?_
   ·rw[←sz];refine px hA hd hf (Nat.ne_of_lt hSlt) _ (by simp) (λi=>if i=0 then 0 else t.place.getD 0 0+1) (λi x hx A' E' s Q' q1 q2=>mr q1 hd hf hbt hl h1 ?_) (λA' E' s Q' q1 q2=>mr q1 hd hf hbt hl h1 ?_)
    ·have hi:i<es.size:=by have:=(List.getElem?_eq_some_iff.mp hx).1;simpa using this
     have hi0:i=0:=by omega
     subst hi0;obtain⟨j,hj⟩:∃j,t.place=#[j]:=Array.size_eq_one_iff.mp (by omega);rw[if_pos rfl,pz hj,if_neg (by omega)];rw[List.getElem?_map,Array.getElem?_toList]at hx;obtain⟨e,he,rfl⟩:=oY hx;rw[he];simp only[hj]at q2 ⊢;simpa using q2
    ·by_cases h0:es.size=0
     ·have hp0:t.place=#[]:=Array.eq_empty_of_size_eq_zero (by omega);have he0:es=#[]:=Array.eq_empty_of_size_eq_zero h0;rw[hp0,he0];simpa using q2
     ·obtain⟨j,hj⟩:∃j,t.place=#[j]:=Array.size_eq_one_iff.mp (by omega);rw[if_neg h0,pz hj];have:t.place.getD 0 0=j:=by rw[hj];rfl
      rw[this,if_pos (by omega),Array.getElem?_eq_none (by omega)];exact q2
   ·exact⟨Heap.get?_push_size _ rfl,Heap.get?_push_of_some _ ho⟩
   ·simp only[List.mem_cons,List.not_mem_nil,or_false]at hb;rcases hb with rfl|rfl
    ·exact .inr (Nat.le_refl _)
    ·exact .inl rfl
   ·intro v hv;obtain⟨e,he,rfl⟩:=List.mem_map.mp hv;exact hstrs e he
  ·have hp0:t.plain=false:=hpl (by omega);rw[if_pos (by rw[hbt,hp0,decide_eq_true (by omega)];rfl)];refine wX (wN es.size (List.range es.size) _ _ (by simp) λpl d pp=>?_);refine wX (wpAny_newTuple ?_ (by rw[List.length_map,pp.length_eq,List.length_range,sz];exact fits_of_scanBound hb));refine wX (wpAny_setEpoch_of (Heap.get?_push_of_some _ ho) hd hf ?_);refine wX (wpAny_newObj_type (wY ⟨_,rfl,"set_iterator",_,⟨_,Heap.get?_push_size _ rfl,rfl⟩,bf.lookup,?_⟩));have hsz:(s.heap.push (seqObj "tuple" (pl.map λ(p:Nat)=>Value.int p 0).toArray 0)).objs.size=s.heap.objs.size+1:=size_push' _ _;have hperm:((pl.map λp=>(es.getD p (0,.none)).2)).Perm (es.toList.map (·.2)):=by
    have:=(pp.map λp=>es.getD p (0,Value.none)).map (·.2);rw[vz]at this;rw[List.map_map]at this;exact this
   refine hQ _ d _ (pl.map λp=>(es.getD p (0,.none)).2) [(s.heap.push (seqObj "tuple" (pl.map λ(p:Nat)=>Value.int p 0).toArray 0)).objs.size,S,s.heap.objs.size] (λi h=>h.get? (s.heap.push (seqObj "tuple" (pl.map λ(p:Nat)=>Value.int p 0).toArray 0)).objs.size=some (jp (.ref s.heap.objs.size) i S es.size ep)/\h.get? S=some o/\h.get? s.heap.objs.size=some (seqObj "tuple" (pl.map λ(p:Nat)=>Value.int p 0).toArray 0)) (λA' hA=>?_) ?_ (λb u e=>Heap.get?_push_of_some _ (Heap.get?_push_of_some _ e)) ?_ (λb hb=>?_) ?_ ?_ ?_
   ·rw[←sz];exact vy (nt:=0) hA hd hf (by show S≠(s.heap.push _).objs.size;rw[size_push'];exact Nat.ne_of_lt (Nat.lt_succ_of_lt hSlt)) (by show s.heap.objs.size≠(s.heap.push _).objs.size;rw[size_push'];exact Nat.ne_of_lt (Nat.lt_succ_self _)) pp
   ·exact⟨Heap.get?_push_size _ rfl,Heap.get?_push_of_some _ (Heap.get?_push_of_some _ ho),Heap.get?_push_of_some _ (Heap.get?_push_size _ rfl)⟩
   ·show s.heap.objs.size<=(s.heap.push _).objs.size;rw[size_push'];omega
   ·simp only[List.mem_cons,List.not_mem_nil,or_false]at hb;rcases hb with rfl|rfl|rfl
    ·refine .inr ?_;show s.heap.objs.size<=(s.heap.push _).objs.size;rw[size_push'];omega
    ·exact .inl rfl
    ·exact .inr (Nat.le_refl _)
   ·rw[hperm.length_eq,List.length_map,Array.length_toList,sz]
   ·exact((hperm.map strOf).trans (by rw[hmap])).trans hp
   ·intro v hv;obtain⟨e,he,rfl⟩:=List.mem_map.mp (hperm.mem_iff.mp hv);exact hstrs e he
end
theorem yB {vs:List Value}{acc:Array Value}(h:ItemsOf (λi v=>vs[i]? = some v) acc vs.length):acc.toList=vs:=by
 apply List.ext_getElem?;intro i;by_cases hi:i<acc.size
 ·have e:acc[i]? = some acc[i]:=Array.getElem?_eq_getElem hi;rw[Array.getElem?_toList,e,h.2 i _ e]
 ·rw[List.getElem?_eq_none (by rw[Array.length_toList];omega),List.getElem?_eq_none (by rw[←h.1];omega)]
section
variable {prog:Program}{w:World}{A:Around}{E:Value->Shared->Prop}{s:Shared}
theorem sV {S:Addr}{ts:List Str}{Q:List Value->Shared->Prop}(hh:A.handled=none)(hS:ge prog w s.heap S ts)
  (hQ:∀s' vs,(∀b u,s.heap.get? b=some u->s'.heap.get? b=some u)->s'.gens=s.gens->s'.os=s.os->vs.length=ts.length->(vs.map strOf).Perm ts->(∀v∈vs,∃x t,v=.str x t)->Q vs s'):
  wpAny (model prog w) A (collect (.ref S)) Q E s:=by
 have hty:∀(s1:Shared),ge prog w s1.heap S ts->s1.TypeIs (.ref S) "set":=λs1 h=>by
  obtain⟨o,_,_,_,ho,hex,_⟩:=h;exact⟨o,ho,hex.1⟩
 have hlt:S<s.heap.objs.size:=by obtain⟨o,_,_,_,ho,_⟩:=hS;exact Heap.lt_size ho
 have hscan:ts.length<scanBound:=by obtain⟨_,_,_,_,_,_,_,_,_,_,h,_⟩:=hS;exact h
 unfold collect;refine wX (wpAny_runValue (codeAny_builtin PySem.F.entry_proto_collect ?_));rw[Around.under_plainId PySem.F.plain_proto_collect _];show wpAny _ A.in1 (newList []>>=λl=>again (.builtin "list.__iadd__" ⟨[l,.ref S],[]⟩)) _ _ s;refine wX (wpAny_newObj_type ?_);refine wY ⟨plainId_quiet PySem.F.plain_list_iadd _,codeAny_builtin PySem.F.entry_list_iadd ?_⟩;rw[Around.under_plainId PySem.F.plain_list_iadd _];show wpAny _ A.in1 (Builtin.List.listExtendWith (.ref s.heap.objs.size) (.ref S) (.ref s.heap.objs.size)) _ _ _;unfold Builtin.List.listExtendWith;have hS1:ge prog w (s.heap.push { cls:=.type "list",data:=.seq ([]:List Value).toArray }) S ts:=hS.at λo e=>Heap.get?_push_of_some _ e;refine wX (wpAny_typeOf (hty _ hS1) ?_);have hSI:s.heap.objs.size≠S:=Nat.ne_of_gt hlt;have h1:Builtin.List.listSameRef (.ref s.heap.objs.size) (.ref S)=false:=by simp[Builtin.List.listSameRef,hSI]
 have h2:(Value.type "set" == Value.type "list")=false:=by decide
 have h3:(Value.type "set" == Value.type "tuple")=false:=by decide
 simp only[h1,h2,h3,Bool.or_false,Bool.false_eq_true,if_false];refine wX (An (s:={ s with heap:=s.heap.push { cls:=.type "list",data:=.seq ([]:List Value).toArray } }) hS1 λh' d it vs fp St W hst hk hit hfp hvl hperm hstr=>?_);have hS2:ge prog w h' S ts:=hS1.at λo e=>hk _ _ e;refine wX (wpAny_holding ?_);unfold Builtin.List.listLengthHint;refine wX (wpAny_specialOf (hty _ hS2) PySem.F.slot_set_len.lookup ?_);wp_delta;refine wX (wpAny_isInstance (hty _ hS2) sub_set_self ?_);show wpAny _ A.in1 (typeOf (Value.ref S)>>=_) _ _ _;refine wX (wpAny_typeOf (hty _ hS2) ?_);refine wY ?_;rw[if_pos (by decide)];refine wX (wpAny_rule ?_);refine wX ?_;have hsz0:(s.heap.push { cls:=.type "list",data:=.seq ([]:List Value).toArray }).objs.size=s.heap.objs.size+1:=size_push' _ _;have hL1:h'.get? s.heap.objs.size=some { cls:=.type "list",data:=.seq ([]:List Value).toArray }:=hk _ _ (Heap.get?_push_size _ rfl);show wpAny _ A.in1 (updateSeq s.heap.objs.size (·.push .none)>>=λ_=>updateSeq s.heap.objs.size (·.pop)) _ _ _;refine wX (wpAny_updateSeq hL1 rfl ?_);have hL2:=Heap.get?_update_self (Obj.mapSeq (·.push Value.none)) hL1 rfl;refine wpAny_updateSeq hL2 rfl ?_;have hL3:=Heap.get?_update_self (Obj.mapSeq (·.pop)) hL2 rfl;have hSf:s.heap.objs.size∉fp:=λhm=>by
  rcases hfp _ hm with z|z
  ·exact hSI z
  ·rw[hsz0]at z;exact absurd z (Nat.not_succ_le_self _)
 have oth:∀b u,b≠s.heap.objs.size->h'.get? b=some u ->
   ((h'.update s.heap.objs.size (Obj.mapSeq (·.push Value.none))).update s.heap.objs.size (Obj.mapSeq (·.pop))).get? b=some u :=
  λb u hb e=>(Heap.get?_update_other _ _ (Ne.symm hb)).trans ((Heap.get?_update_other _ _ (Ne.symm hb)).trans e)
 have W0:=W A.in1 hh;refine wY ⟨plainId_quiet PySem.F.plain_extend_loop _,codeAny_extend_loopS W0.toS (fits_of_scanBound hscan) _ hSf _ ts.length 0 _ _ _ rfl (Nat.zero_le _)
  (W0.frame 0 _ _ hst λb hb u e=>oth b u (λz=>hSf (z ▸ hb)) e) hL3 (ItemsOf.nil _) λs' acc' c' hm hL' hacc=>?_⟩
 show wpAny _ A (load s.heap.objs.size>>=_) _ _ s';refine wX (wpAny_load hL' ?_);rw[←hvl]at hacc;refine wY ?_;show Q acc'.toList s';rw[yB hacc];refine hQ s' vs (λb u e=>hm.heap b u (λhb=>?_) (oth b u (Nat.ne_of_lt (Heap.lt_size e)) (hk _ _ (Heap.get?_push_of_some _ e)))) hm.gens hm.os hvl hperm hstr;have hl:=Heap.lt_size e;simp only[List.mem_cons,List.not_mem_nil,or_false]at hb;rcases hb with rfl|rfl
 ·exact absurd hl (Nat.lt_irrefl _)
 ·rw[hsz0]at hit;exact absurd (Nat.lt_of_lt_of_le hl (Nat.le_of_succ_le hit)) (Nat.lt_irrefl _)
theorem v0 {S:Addr}{ts:List Str}{Q:Value->Shared->Prop}(hh:A.handled=none)(hS:ge prog w s.heap S ts)(h64:ts.length<64)
  (hQ:∀(s1:Shared)(h':Heap)(a:Addr)(out:Array Value)(n:Nat)(ss':List Str),(∀b u,s.heap.get? b=some u->s1.heap.get? b=some u)->s1.os=s.os->s1.gens=s.gens->(∀b u,s1.heap.get? b=some u->h'.get? b=some u)->s1.heap.objs.size<=a->h'.get? a=some (seqObj "list" out n) ->
   StrsAre out.toList ss'->ss'.Perm ts->sortedS ss'=true->Q (.ref a) { s1 with heap:=h' }):
  wpAny (model prog w) A (call (.builtin "sorted") [.ref S]) Q E s:=by
 refine Calls.call_function_entry kind_sorted plain_sorted entry_sorted (args_sorted1 _) ?_;unfold Builtin.«sorted»;refine wX (m:=checkCount "sorted" 1 1 _) (wY ?_);refine wX (sV (A:=A.in1) (by exact hh) hS λs1 vs hk hg hos hvl hperm hstr=>?_);have hst:StrsAre vs (vs.map strOf):=strsAre_map vs hstr;refine wX (wpAny_newList ?_ (by rw[hvl,sizeLine_eq];omega));have hoL:(s1.heap.push (seqObj "list" vs.toArray 0)).get? s1.heap.objs.size=some (seqObj "list" vs.toArray 0):=Heap.get?_push_size _ rfl;show wpAny _ _ _ _ _ { s1 with heap:=s1.heap.push (seqObj "list" vs.toArray 0) };refine wX (wpAny_holding (wpAny_call_entry slot_list_sort ⟨_,hoL,rfl⟩ entry_list_sort (list_sort_treeK strKind_oneLt hoL hst.keysOf (λv₁ v₂ ay e=>keyKind_strs (by rw[←e];exact hst)) (by rw[hvl];exact h64) λst' a1 a2=>⟨_,rfl,?_⟩) (args_list_sort _)));obtain⟨ss',b1,b2,b3⟩:=sorted_out_str hst a1 a2;obtain⟨e,he⟩:=sortedHeap_at (out:=(arrOf st').map (·.2)) hoL;refine wY ⟨_,rfl,hQ s1 _ _ _ e ss' hk hos hg (λb u q=>?_) (Nat.le_refl _) he b1 (b2.trans hperm) b3⟩;have hl:=Heap.lt_size q;rw[sortedHeap_old (Nat.ne_of_lt hl) (by rw[size_push'];exact Nat.lt_succ_of_lt hl)];exact Heap.get?_push_of_some _ q
end
end DL
namespace DL
open PySem PySem.Spec PyProof.Rows L2
def leT (a b:Str):Prop:=¬b.cps.toList<a.cps.toList
theorem wP {a b:Str}:ltCps b.cps.toList a.cps.toList=false↔leT a b:=by rw[ltCps_eq,decide_eq_false_iff_not];rfl
theorem p4 {a b c:Str}(h:leT a b)(k:leT b c):leT a c:=by
 unfold leT at *;exact List.not_lt.mpr (List.le_trans (List.not_lt.mp h) (List.not_lt.mp k))
theorem Ao {a b:Str}(h:leT a b)(k:leT b a):a=b:=by
 have e:a.cps.toList=b.cps.toList:=List.le_antisymm (List.not_lt.mp h) (List.not_lt.mp k);obtain⟨a⟩:=a;obtain⟨b⟩:=b;have:a=b:=Array.toList_inj.mp e;rw[this]
noncomputable def vA (x:Str):List Str->List Str
 |[]=>[x]
 |y::r=>if ltCps y.cps.toList x.cps.toList then y::vA x r else x::y::r
noncomputable def iB (l:List Str):List Str:=l.foldr vA []
theorem kB (x:Str):∀l,(vA x l).Perm (x::l)
 |[]=>List.Perm.refl _
 |y::r=>by
  unfold vA;split
  ·exact((kB x r).cons y).trans (List.Perm.swap x y r)
  ·exact List.Perm.refl _
theorem dw:∀l,(iB l).Perm l
 |[]=>List.Perm.refl _
 |x::l=>(kB x (iB l)).trans ((dw l).cons x)
theorem p5 (x:Str):∀l,l.Pairwise leT->(vA x l).Pairwise leT
 |[],_=>by simp[vA]
 |y::r,h=>by
  obtain⟨h1,h2⟩:=List.pairwise_cons.mp h;unfold vA;split
  ·rename_i hl;refine List.pairwise_cons.mpr ⟨λz hz=>?_,p5 x r h2⟩;rcases List.mem_cons.mp ((kB x r).mem_iff.mp hz)with rfl|hz
   ·rw[ltCps_eq,decide_eq_true_eq]at hl;exact λk=>List.lt_irrefl _ (List.lt_trans hl k)
   ·exact h1 z hz
  ·rename_i hl;rw[Bool.not_eq_true]at hl;have hxy:leT x y:=wP.mp hl;refine List.pairwise_cons.mpr ⟨λz hz=>?_,h⟩;rcases List.mem_cons.mp hz with rfl|hz
   ·exact hxy
   ·exact p4 hxy (h1 z hz)
theorem mv:∀l,(iB l).Pairwise leT
 |[]=>List.Pairwise.nil
 |x::l=>p5 x _ (mv l)
theorem lb:∀(l:List Str)(p:Str),risingS p l=true->(p::l).Pairwise leT
 |[],p,_=>List.pairwise_singleton _ _
 |x::r,p,h=>by
  have h':(!ltCps x.cps.toList p.cps.toList && risingS x r)=true:=h;rw[Bool.and_eq_true]at h';have hpx:leT p x:=wP.mp (by simpa using h'.1);have ih:=lb r x h'.2;refine List.pairwise_cons.mpr ⟨λz hz=>?_,ih⟩;rcases List.mem_cons.mp hz with rfl|hz
  ·exact hpx
  ·exact p4 hpx ((List.pairwise_cons.mp ih).1 z hz)
theorem sW:∀(l:List Str),sortedS l=true->l.Pairwise leT
 |[],_=>List.Pairwise.nil
 |x::r,h=>lb r x h
theorem sX (a:Str):leT a a:=List.lt_irrefl _
theorem mw:∀(l1 l2:List Str),l1.Perm l2->l1.Pairwise leT->l2.Pairwise leT->l1=l2
 |[],l2,p,_,_=>(List.nil_perm.mp p).symm
 |x::r1,[],p,_,_=>absurd p.length_eq (by simp)
 |x::r1,y::r2,p,h1,h2=>by
  have hxy:leT x y:=by
   rcases List.mem_cons.mp (p.mem_iff.mpr (mX ..))with z|z
   ·rw[z];exact sX _
   ·exact(List.pairwise_cons.mp h1).1 y z
  have hyx:leT y x:=by
   rcases List.mem_cons.mp (p.mem_iff.mp (mX ..))with z|z
   ·rw[z];exact sX _
   ·exact(List.pairwise_cons.mp h2).1 x z
  have e:=Ao hxy hyx;subst e;rw[mw r1 r2 (List.Perm.cons_inv p) (List.pairwise_cons.mp h1).2 (List.pairwise_cons.mp h2).2]
theorem p6 {l l':List Str}(p:l'.Perm l)(h:sortedS l'=true):l'=iB l:=mw _ _ (p.trans (dw l).symm) (sW _ h) (mv l)
section
variable {X:Cx}
noncomputable def Ap (X:Cx)(S:Addr)(ts:List Str):HO:=.ext λh=>ge X.prog X.w h S ts
theorem yC {pins:List (Addr×Obj)}{σ:St}{H:Hp}{s s1:Shared}(I:Inv X pins σ H s)(k:∀b u,s.heap.get? b=some u->s1.heap.get? b=some u)(ho:s1.os=s.os)(hg:s1.gens=s.gens):Inv X pins σ H s1:=by
 have I1:=I.step (g':=s.gens) (d':=s1.drawn) (t':=s1.toks) (h':=s1.heap) (H':=H) (ch:=[]) (λ_ z=>nomatch z) (λb o _ _ _ e _=>k b o e) (λb o _ _ _ e _=>⟨o.slots,k b o e⟩) (λ_ _ _ _ n=>n)
  (λb o _ e=>⟨o,k b o e⟩) (λ_ _ e=>e) (λ_ _ _ e=>e) (λ_ _ e=>e) (λm hm=>?_) (I.hok.kept k) I.bare
 ·obtain⟨h1,g1,d1,t1,o1⟩:=s1;cases ho;cases hg
  exact I1
 ·obtain⟨o,es,ep,ho,r⟩:=hm;exact⟨o,es,ep,k _ o ho,r⟩
theorem sY (hc:X.calm=true):bA X (.type "set") (λxs H Q=>∃p ys ss,xs=[.ref p]/\SqL X.K H p ys/\(∀its,aQ ys its->StrsAre its ss)/\ss.length<4000/\∀S,H S=none->Q (.ref S) (upd H S (Ap X S (fQ ss)))):=by
 intro pins s σ H xs us Q I r h;obtain⟨p,ys,ss,rfl,hq,hs,h64,q⟩:=h;obtain⟨u,rfl,rx⟩:=fR r;cases rx
 obtain⟨its,r',pl,hz⟩:=I.list hq;have hst:=hs its r';have hlen:its.length=ss.length:=by rw[←hst.strs,List.length_map]
 refine mo (I.ok.hd hc) pl.isList (by simpa using hst) (by simp only[List.size_toArray];unfold scanBound;omega) λh' tk hS hk=>?_;refine⟨.ref s.heap.objs.size,_,I.laid (t':=tk) (λb u e=>hk b u (Heap.lt_size e) e) (Nat.le_refl _) ?_,rfl,q _ (I.hok.fresh (Nat.le_refl _))⟩;refine⟨hS,?_,λh1 h2 z k=>z.at k⟩;obtain⟨o,_,_,_,ho,_⟩:=hS;exact⟨o,ho⟩
theorem lE (hc:X.calm=true):bA X (.builtin "sorted") (λxs H Q=>∃S ts,xs=[.ref S]/\H S=some (Ap X S ts)/\ts.length<64/\∀l,H l=none->Q (.ref l) (upd H l (.lst ((iB ts).map .str)))):=by
 intro pins s σ H xs us Q I r h;obtain⟨S,ts,rfl,hS,h64,q⟩:=h;obtain⟨u,rfl,rx⟩:=fR r;cases rx
 have hT:ge X.prog X.w s.heap S ts:=(I.hok S _ hS).1;refine v0 (I.ok.hd hc) hT h64 λs1 h' a out n ss' k1 ho hg k2 hp he hst hperm hso=>?_;have e:=p6 hperm hso;subst e;have I1:=yC I k1 ho hg;have hv:∀ {its:List Value}{zs:List Str},StrsAre its zs->aQ (zs.map V.str) its:=λz=>by
  induction z with
  |nil=>exact .nil
  |cons x t _ ih=>exact .cons ⟨t,rfl⟩ ih
 refine⟨.ref a,_,I1.laid (t':=s1.toks) k2 hp (show b8 X.prog X.w _ h' _ (.lst _)from ⟨?_,out.toList,n,hv hst,he⟩),rfl,q _ (I1.hok.fresh hp)⟩;rw[List.length_map,(dw ts).length_eq,sizeLine_eq];omega
end
@[simp] noncomputable def eV:D->Option (D×Bool)
 |.lst ds=>(eQ ds).bind λss=>if ss.length<64 then some (.lst ((iB (fQ ss)).map .str),true)else none
 |_=>none
@[simp] noncomputable def Hq:D->Option (D×Bool)
 |.lst ds=>(eQ ds).bind λss=>if ss.length<4000 then some (.int ((fQ ss).length:Nat),false)else none
 |_=>none
theorem sZ:bootBuiltins "sorted" = some (.builtin "sorted"):=by decide +kernel
theorem GW:bootBuiltins "set" = some (.type "set"):=by decide +kernel
theorem jC {K:PySem.W.Frag}{N:Hp}:∀(zs:List Str),IsL K N (zs.map V.str) (zs.map D.str)
 |[]=>.nil
 |z::zs=>.cons (.str z) (jC zs)
section
variable {X:Cx}{e:Expr}{pos pos2 p p2:Pos}
theorem mz {f:FE}(hc:X.calm=true)(m1:X.mg "sorted" = none)(m2:X.mg "set" = none)(he:JE X e f)(g1:Gl X "sorted":=by rfl)(g2:Gl X "set":=by rfl)
  (h1:starEach [e] X.env=(false,eval e X.env)::starEach [] X.env:=by rfl):JE X (.Call (.Name "sorted" p) [.Call (.Name "set" p2) [e] [] pos2] [] pos) (f1 eV f):=by
 refine PE.to (rR (lE hc) g1 m1 sZ (fS (oR (sY hc) g2 m2 GW (fS he ig h1) (he:=h1)) ig)) λσ H Q q=>?_;obtain⟨B,ρ,d',bb,sB,r,ee,q⟩:=q;obtain⟨x1,ex,ee⟩:=oX ee;refine⟨B,ρ,x1.1,x1.2,sB,r,ex,λv H1 N1 xt i1 fr=>?_⟩;obtain⟨xd,xb⟩:=x1;cases i1<;>try (simp[eV]at ee;done)
 rename_i l0 vs ds h hl;simp only[eV]at ee;obtain⟨ss,ez,ee⟩:=oX ee;split at ee
 ·rename_i h64;cases ee
  refine⟨_,_,ss,rfl,xt.nh.seq h,λits r'=>gq r' hl ez,by omega,λS hS=>⟨S,_,rfl,aD,Nat.lt_of_le_of_lt (mn ss) h64,λl hl'=>?_⟩⟩;have x2:=Ext.laid (o:=Ap X S (fQ ss)) xt.nh hS;have x3:=Ext.laid (o:=.lst ((iB (fQ ss)).map V.str)) x2.nh hl';have hl0:H l=none:=((xt.trans x2).hh).free hl';exact q _ _ _ ((xt.trans x2).trans x3) (.lst (SqL.of aD) (jC _)) λ_=>⟨_,_,_,rfl,rfl,hl0,aD,jC _⟩
 ·cases ee
end
end DL
namespace DL
open PySem PySem.Spec PySem.W PyProof.Rows
inductive Run (n:Nat)(lt:Nat->Nat->Bool){α:Type}:KasT α->α->Prop where
 |ret (a:α):Run n lt (.ret a) a
 |ask {i j:Nat}{k:Bool->KasT α}{a:α}(hi:i<n) (hj:j<n) (h:Run n lt (k (lt i j)) a):Run n lt (.ask i j k) a
theorem Run.bind {n:Nat}{lt:Nat->Nat->Bool}{α β:Type}{t:KasT α}{f:α->KasT β}{a:α}{b:β}(h:Run n lt t a)(k:Run n lt (f a) b):Run n lt (t.bind f) b:=by
 induction h with
 |ret a=>exact k
 |ask hi hj _ ih=>exact .ask hi hj (ih k)
theorem Run.wp {n:Nat}{lt:Nat->Nat->Bool}{α:Type}{cmp:Nat->Nat->(Bool->Shared->Prop)->Shared->Prop}{Q:α->Shared->Prop}{t:KasT α}{a:α}(J:Shared->Prop)
  (hc:∀i j C s,i<n->j<n->J s->(∀s',J s'->C (lt i j) s')->cmp i j C s) (h:Run n lt t a):∀ {s:Shared},J s->(∀s',J s'->Q a s')->t.kasWp cmp Q s:=by
 induction h with
 |ret a=>intro s hJ hQ;exact hQ s hJ
 |ask hi hj _ ih=>intro s hJ hQ;exact hc _ _ _ _ hi hj hJ λs' hJ'=>ih hJ' hQ
section
variable {n:Nat}{rk:Nat->Int}
noncomputable abbrev ltR (rk:Nat->Int)(i j:Nat):Bool:=decide (rk i<rk j)
noncomputable def bN (rk:Nat->Int)(p:Array Nat)(k:Nat):Int:=rk (p.getD k 0)
structure Arr (n:Nat)(p:Array Nat):Prop where
 size:p.size=n
 perm:p.toList.Perm (List.range n)
theorem Arr.lt {p:Array Nat}(h:Arr n p){k:Nat}(hk:k<n):p.getD k 0<n:=by
 have hk':k<p.size:=by rw[h.size];exact hk
 have:p.getD k 0=p[k]:=by rw[Array.getD_eq_getD_getElem?,Array.getElem?_eq_getElem hk'];rfl
 rw[this];exact List.mem_range.mp (h.perm.mem_iff.mp (by simp))
theorem Arr.rev {p:Array Nat}(h:Arr n p)(i j:Nat):Arr n (kas_rev p i j) :=
 ⟨(mirror_size _ _ _ _).trans h.size,(Array.perm_iff_toList_perm.mp (mirror_perm p i j _)).trans h.perm⟩
theorem Arr.bub {p:Array Nat}(h:Arr n p)(k d:Nat):Arr n (bubble p k d) :=
 ⟨(bubble_size _ _ _).trans h.size,(Array.perm_iff_toList_perm.mp (bubble_perm p k d)).trans h.perm⟩
theorem qL {p:Array Nat}{i j:Nat}(hj:j<=p.size)(k:Nat):bN rk (kas_rev p i j) k=if i<=k/\k<j then bN rk p (i+j - 1 - k)else bN rk p k:=by
 unfold bN kas_rev;rw[Array.getD_eq_getD_getElem?,getElem?_mirror_all hj];split<;>rw[Array.getD_eq_getD_getElem?]
theorem Aq {p:Array Nat}{src d:Nat}(hs:src<p.size)(hd:d<=src)(k:Nat):bN rk (bubble p src d) k=if k=src - d then bN rk p src else if src - d<k/\k<=src then bN rk p (k - 1)else bN rk p k:=by
 unfold bN;simp only[Array.getD_eq_getD_getElem?];rw[getElem?_bubble hs d hd];repeat' split
 all_goals rfl
def Up (rk:Nat->Int)(p:Array Nat)(m:Nat):Prop:=∀i j,i<=j->j<m->bN rk p i<=bN rk p j
def qM (rk:Nat->Int)(p:Array Nat)(m:Nat):Prop:=∀i j,i<=j->j<m->bN rk p j<=bN rk p i
theorem Fs (p:Array Nat):Up rk p 1:=λi j h1 h2=>by
 have:i=j:=by omega
 subst this;exact Int.le_refl _
theorem qN {p:Array Nat}(h:Arr n p){r:Nat}(hr:r<=n):∀(f m:Nat),r - m=f->1<=m->m<=r->Up rk p m->∃m',Run n (ltR rk) (kas_asc p f m) m'/\m<=m'/\m'<=r/\Up rk p m'/\(m'<r->bN rk p m'<bN rk p (m' - 1))
 |0,m,hf,h1,hm,hu=>⟨m,.ret m,Nat.le_refl _,hm,hu,λz=>by omega⟩
 |f+1,m,hf,h1,hm,hu=>by
  have a1:=h.lt (k:=m) (by omega);have a2:=h.lt (k:=m - 1) (by omega);by_cases hc:bN rk p m<bN rk p (m - 1)
  ·refine⟨m,.ask a1 a2 ?_,Nat.le_refl _,hm,hu,λ_=>hc⟩;have:ltR rk (p.getD m 0) (p.getD (m - 1) 0)=true:=decide_eq_true hc;rw[this,if_pos rfl];exact .ret m
  ·have hu':Up rk p (m+1):=λi j hij hj=>by
    by_cases e:j=m
    ·subst e;by_cases e2:i=j
     ·subst e2;exact Int.le_refl _
     ·have:=hu i (j - 1) (by omega) (by omega);omega
    ·exact hu i j hij (by omega)
   obtain⟨m',q1,q2,q3,q4,q5⟩:=qN h hr f (m+1) (by omega) (by omega) (by omega) hu';refine⟨m',.ask a1 a2 ?_,by omega,q3,q4,q5⟩;have:ltR rk (p.getD m 0) (p.getD (m - 1) 0)=false:=decide_eq_false hc;rw[this,if_neg Bool.false_ne_true];exact q1
def CA (rk:Nat->Int)(p:Array Nat)(m q:Nat):Prop:=q+1<=m/\∀k,m - (q+1)<=k->k<m->bN rk p k=bN rk p (m - 1)
theorem tm {p:Array Nat}{m q:Nat}(hs:m<=p.size)(hf:CA rk p m q)(k:Nat):bN rk (kas_rev p (m - (q+1)) m) k=bN rk p k:=by
 rw[qL hs];split
 ·rename_i hk;have h0:=hf.1;rw[hf.2 k hk.1 hk.2,hf.2 _ (by omega) (by omega)]
 ·rfl
theorem wQ {p p':Array Nat}{m:Nat}(e:∀k,bN rk p' k=bN rk p k)(h:qM rk p m):qM rk p' m:=λi j h1 h2=>by rw[e,e];exact h i j h1 h2
theorem m4 (p:Array Nat){m:Nat}(h:1<=m):CA rk p m 0:=⟨h,λk h1 h2=>by
 have:k=m - 1:=by omega
 rw[this]⟩
theorem jD {r:Nat}(hr:r<=n):∀(f:Nat)(p:Array Nat)(m q:Nat),Arr n p->r - m=f->1<=m->m<=r->qM rk p m->CA rk p m q->∃p' m' q',Run n (ltR rk) (kas_desc f p m q) (p',m',q')/\Arr n p'/\m<=m'/\m'<=r/\qM rk p' m'/\CA rk p' m' q'
 |0,p,m,q,h,hf,h1,hm,hd,hq=>⟨p,m,q,.ret _,h,Nat.le_refl _,hm,hd,hq⟩
 |f+1,p,m,q,h,hf,h1,hm,hd,hq=>by
  have a1:=h.lt (k:=m) (by omega);have a2:=h.lt (k:=m - 1) (by omega);have step:∀p':Array Nat,(∀k,bN rk p' k=bN rk p k)->bN rk p m<=bN rk p (m - 1)->qM rk p' (m+1):=λp' e hle i j hij hj=>by
   rw[e,e];by_cases z:j=m
   ·subst z;by_cases z2:i=j
    ·subst z2;exact Int.le_refl _
    ·have:=hd i (j - 1) (by omega) (by omega);omega
   ·exact hd i j hij (by omega)
  by_cases hc:bN rk p m<bN rk p (m - 1)
  ·have hcl:ltR rk (p.getD m 0) (p.getD (m - 1) 0)=true:=decide_eq_true hc;by_cases hq0:q > 0
   ·have e:=tm (p:=p) (by rw[h.size];omega) hq;obtain⟨p',m',q',g1,g2,g3,g4,g5,g6⟩:=jD hr f (kas_rev p (m - (q+1)) m) (m+1) 0 (h.rev _ _) (by omega) (by omega) (by omega) (step _ e (by omega)) (m4 _ (by omega));refine⟨p',m',q',.ask a1 a2 ?_,g2,by omega,g4,g5,g6⟩;rw[hcl,if_pos rfl,if_pos hq0];exact g1
   ·obtain⟨p',m',q',g1,g2,g3,g4,g5,g6⟩:=jD hr f p (m+1) 0 h (by omega) (by omega) (by omega) (step _ (λ_=>rfl) (by omega)) (m4 _ (by omega));refine⟨p',m',q',.ask a1 a2 ?_,g2,by omega,g4,g5,g6⟩;rw[hcl,if_pos rfl,if_neg hq0];exact g1
  ·have hcl:ltR rk (p.getD m 0) (p.getD (m - 1) 0)=false:=decide_eq_false hc;by_cases hc2:bN rk p (m - 1)<bN rk p m
   ·have hcl2:ltR rk (p.getD (m - 1) 0) (p.getD m 0)=true:=decide_eq_true hc2;refine⟨p,m,q,.ask a1 a2 ?_,h,Nat.le_refl _,hm,hd,hq⟩;rw[hcl,if_neg Bool.false_ne_true];refine .ask a2 a1 ?_;rw[hcl2,if_pos rfl];exact .ret _
   ·have hcl2:ltR rk (p.getD (m - 1) 0) (p.getD m 0)=false:=decide_eq_false hc2;have he:bN rk p m=bN rk p (m - 1):=by omega
    obtain⟨p',m',q',g1,g2,g3,g4,g5,g6⟩:=jD hr f p (m+1) (q+1) h (by omega) (by omega) (by omega) (step _ (λ_=>rfl) (by omega)) ⟨by have:=hq.1;omega,λk k1 k2=>by
     rw[Nat.add_sub_cancel];by_cases z:k=m
     ·rw[z]
     ·rw[hq.2 k (by omega) (by omega),he]⟩
    refine⟨p',m',q',.ask a1 a2 ?_,g2,by omega,g4,g5,g6⟩;rw[hcl,if_neg Bool.false_ne_true];refine .ask a2 a1 ?_;rw[hcl2,if_neg Bool.false_ne_true];exact g1
theorem tp {r:Nat}(hr:r<=n){p:Array Nat}(h:Arr n p){m:Nat}(h1:1<=m)(hm:m<=r)(hd:qM rk p m):∃m' p',Run n (ltR rk) (kas_tail3 m r p) (m',p')/\Arr n p'/\1<=m'/\m'<=r/\Up rk p' m':=by
 have hu:Up rk (kas_rev p 0 m) m:=λi j hij hj=>by
  rw[qL (by rw[h.size];omega),qL (by rw[h.size];omega),if_pos (by omega),if_pos (by omega)];exact hd _ _ (by omega) (by omega)
 obtain⟨m',q1,q2,q3,q4,_⟩:=qN (h.rev 0 m) hr (r - m) m rfl h1 hm hu;exact⟨m',_,q1.bind (.ret _),h.rev 0 m,by omega,q3,q4⟩
theorem tq {r:Nat}(hr:r<=n){p:Array Nat}(h:Arr n p){m:Nat}(hm:m+1<=r)(hd:qM rk p (m+1)):∃m' p',Run n (ltR rk) (kas_descPart m r p) (m',p')/\Arr n p'/\1<=m'/\m'<=r/\Up rk p' m':=by
 obtain⟨p1,m1,q1,g1,g2,g3,g4,g5,g6⟩:=jD hr (r - (m+1)) p (m+1) 0 h rfl (by omega) hm hd (m4 _ (by omega));by_cases hq:q1 > 0
 ·obtain⟨m',p',k1,k2,k3,k4,k5⟩:=tp hr (g2.rev (m1 - (q1+1)) m1) (m:=m1) (by omega) g4 (wQ (tm (by rw[g2.size];omega) g6) g5);exact⟨m',p',g1.bind (by dsimp only;rw[if_pos hq];exact k1),k2,k3,k4,k5⟩
 ·obtain⟨m',p',k1,k2,k3,k4,k5⟩:=tp hr g2 (m:=m1) (by omega) g4 g5;exact⟨m',p',g1.bind (by dsimp only;rw[if_neg hq];exact k1),k2,k3,k4,k5⟩
theorem yD {p:Array Nat}(h:Arr n p)(hn:1<=n):∃m' p',Run n (ltR rk) (kas_count n p) (m',p')/\Arr n p'/\1<=m'/\m'<=n/\Up rk p' m':=by
 obtain⟨m,q1,q2,q3,q4,q5⟩:=qN h (Nat.le_refl n) (n - 1) 1 rfl (Nat.le_refl 1) hn (Fs (rk:=rk) p);by_cases e:m=n
 ·exact⟨m,p,q1.bind (by rw[if_pos (by simp[e])];exact .ret _),h,q2,q3,q4⟩
 ·have hlt:=q5 (by omega);have e1:¬(m == n)=true:=by simp[e]
  by_cases hm1:m > 1
  ·by_cases hc:bN rk p 0<bN rk p (m - 1)
   ·refine⟨m,p,q1.bind ?_,h,q2,q3,q4⟩;rw[if_neg e1,if_pos hm1];refine .ask (h.lt (by omega)) (h.lt (by omega)) ?_;have:ltR rk (p.getD 0 0) (p.getD (m - 1) 0)=true:=decide_eq_true hc;rw[this,if_pos rfl];exact .ret _
   ·have hall:∀k,k<m->bN rk p k=bN rk p 0:=λk hk=>by
     have z1:=q4 0 k (by omega) hk;have z2:=q4 k (m - 1) (by omega) (by omega);omega
    have er:∀k,bN rk (kas_rev p 0 m) k=bN rk p k:=λk=>by
     rw[qL (by rw[h.size];omega)];split
     ·rename_i z;rw[hall _ (by omega),hall k z.2]
     ·rfl
    have hd:qM rk p (m+1):=λi j hij hj=>by
     by_cases z:j=m
     ·subst z;by_cases z2:i=j
      ·subst z2;exact Int.le_refl _
      ·rw[hall i (by omega)];rw[hall (j - 1) (by omega)]at hlt;omega
     ·rw[hall i (by omega),hall j (by omega)];exact Int.le_refl _
    obtain⟨m',p',k1,k2,k3,k4,k5⟩:=tq (Nat.le_refl n) (h.rev 0 m) (m:=m) (by omega) (wQ er hd);refine⟨m',p',q1.bind ?_,k2,k3,k4,k5⟩;rw[if_neg e1,if_pos hm1];refine .ask (h.lt (by omega)) (h.lt (by omega)) ?_;have:ltR rk (p.getD 0 0) (p.getD (m - 1) 0)=false:=decide_eq_false hc;rw[this,if_neg Bool.false_ne_true];exact k1
  ·have em:m=1:=by omega
   subst em;have hd:qM rk p 2:=λi j hij hj=>by
    by_cases z2:i=j
    ·subst z2;exact Int.le_refl _
    ·have:i=0:=by omega
     have:j=1:=by omega
     subst_vars;have:=hlt;simp at this;omega
   obtain⟨m',p',k1,k2,k3,k4,k5⟩:=tq (Nat.le_refl n) h (m:=1) (by omega) hd;refine⟨m',p',q1.bind ?_,k2,k3,k4,k5⟩;rw[if_neg e1,if_neg hm1];exact k1
theorem kE {p:Array Nat}(h:Arr n p){k:Nat}(hk:k<n)(hu:Up rk p k):∀(f l r:Nat),r - l<=f->l<=r->r<=k->(∀i,i<l->bN rk p i<=bN rk p k)->(∀i,r<=i->i<k->bN rk p k<bN rk p i) ->
  ∃l',Run n (ltR rk) (kas_place p k f l r) l'/\l'<=k/\(∀i,i<l'->bN rk p i<=bN rk p k)/\(∀i,l'<=i->i<k->bN rk p k<bN rk p i)
 |0,l,r,hf,hl,hr,h1,h2=>⟨l,.ret l,by omega,h1,λi a b=>h2 i (by omega) b⟩
 |f+1,l,r,hf,hl,hr,h1,h2=>by
  by_cases hge:l ≥ r
  ·refine⟨l,?_,by omega,h1,λi a b=>h2 i (by omega) b⟩;unfold kas_place;rw[if_pos hge];exact .ret l
  ·by_cases hc:bN rk p k<bN rk p ((l+r) / 2)
   ·obtain⟨l',q1,q2,q3,q4⟩:=kE h hk hu f l ((l+r) / 2) (by omega) (by omega) (by omega) h1 λi a b=>by
     have:=hu ((l+r) / 2) i a b;omega
    refine⟨l',?_,q2,q3,q4⟩;unfold kas_place;rw[if_neg hge];refine .ask (h.lt (by omega)) (h.lt (by omega)) ?_;have:ltR rk (p.getD k 0) (p.getD ((l+r) / 2) 0)=true:=decide_eq_true hc;rw[this,if_pos rfl];exact q1
   ·obtain⟨l',q1,q2,q3,q4⟩:=kE h hk hu f ((l+r) / 2+1) r (by omega) (by omega) hr (λi a=>by
     have:=hu i ((l+r) / 2) (by omega) (by omega);omega) h2
    refine⟨l',?_,q2,q3,q4⟩;unfold kas_place;rw[if_neg hge];refine .ask (h.lt (by omega)) (h.lt (by omega)) ?_;have:ltR rk (p.getD k 0) (p.getD ((l+r) / 2) 0)=false:=decide_eq_false hc;rw[this,if_neg Bool.false_ne_true];exact q1
theorem wR:∀(f:Nat)(p:Array Nat)(k:Nat),Arr n p->n - k=f->k<=n->Up rk p k->∃p',Run n (ltR rk) (kas_bin f p k) p'/\Arr n p'/\Up rk p' n
 |0,p,k,h,hf,hk,hu=>⟨p,.ret p,h,(show k=n by omega) ▸ hu⟩
 |f+1,p,k,h,hf,hk,hu=>by
  have hk':k<n:=by omega
  obtain⟨l,q1,q2,q3,q4⟩:=kE h hk' hu k 0 k (by omega) (by omega) (Nat.le_refl _) (λi z=>by omega) (λi a b=>by omega);have hsz:k<p.size:=by rw[h.size];exact hk'
  have hu':Up rk (bubble p k (k - l)) (k+1):=λi j hij hj=>by
   rw[Aq hsz (by omega),Aq hsz (by omega)];have e:k - (k - l)=l:=by omega
   rw[e];by_cases i1:i=l
   ·rw[if_pos i1];by_cases j1:j=l
    ·rw[if_pos j1];exact Int.le_refl _
    ·rw[if_neg j1,if_pos (by omega)];have:=q4 (j - 1) (by omega) (by omega);omega
   ·rw[if_neg i1];by_cases i2:l<i/\i<=k
    ·rw[if_pos i2,if_neg (by omega),if_pos (by omega)];exact hu _ _ (by omega) (by omega)
    ·rw[if_neg i2];by_cases j1:j=l
     ·rw[if_pos j1];exact q3 i (by omega)
     ·rw[if_neg j1];by_cases j2:l<j/\j<=k
      ·rw[if_pos j2];exact hu _ _ (by omega) (by omega)
      ·rw[if_neg j2];exact hu _ _ hij (by omega)
  obtain⟨p',k1,k2,k3⟩:=wR f (bubble p k (k - l)) (k+1) (h.bub _ _) (by omega) (by omega) hu';exact⟨p',q1.bind k1,k2,k3⟩
theorem tu (hn:1<=n):∃p,Run n (ltR rk) (kas_sort n) p/\Arr n p/\Up rk p n:=by
 have h0:Arr n (List.toArray (List.range n)):=⟨by simp,by simp⟩;obtain⟨m,p,q1,q2,q3,q4,q5⟩:=yD (rk:=rk) h0 hn;by_cases e:m<n
 ·have hmx:max m 1=m:=by omega
  obtain⟨p',k1,k2,k3⟩:=wR (n - max m 1) p (max m 1) q2 rfl (by omega) (by rw[hmx];exact q5);exact⟨p',q1.bind (by dsimp only;rw[if_pos e];exact k1),k2,k3⟩
 ·have:m=n:=by omega
  subst this;exact⟨p,q1.bind (by dsimp only;rw[if_neg e];exact .ret _),q2,q5⟩
end
theorem iQ {a b c:List Int}(h:a<b)(k:b<c):a<c:=List.lt_trans h k
theorem yE {a b c:List Int}(h:¬b<a)(k:¬c<b):¬c<a:=List.not_lt.mpr (List.le_trans (List.not_lt.mp h) (List.not_lt.mp k))
theorem Ar {a b:List Int}(h:¬b<a)(k:¬a<b):a=b:=List.le_antisymm (List.not_lt.mp h) (List.not_lt.mp k)
section
variable {α:Type}(f:α->List Int)
def leF (a b:α):Prop:=¬f b<f a
noncomputable def kF (x:α):List α->List α
 |[]=>[x]
 |y::r=>if f y<f x then y::kF x r else x::y::r
noncomputable def cH (l:List α):List α:=l.foldr (kF f) []
theorem kG (x:α):∀l,(kF f x l).Perm (x::l)
 |[]=>List.Perm.refl _
 |y::r=>by
  unfold kF;split
  ·exact((kG x r).cons y).trans (List.Perm.swap x y r)
  ·exact List.Perm.refl _
theorem bv:∀l,(cH f l).Perm l
 |[]=>List.Perm.refl _
 |x::l=>(kG f x (cH f l)).trans ((bv l).cons x)
theorem p7 (x:α):∀l,l.Pairwise (leF f)->(kF f x l).Pairwise (leF f)
 |[],_=>by simp[kF]
 |y::r,h=>by
  obtain⟨h1,h2⟩:=List.pairwise_cons.mp h;unfold kF;split
  ·rename_i hl;refine List.pairwise_cons.mpr ⟨λz hz=>?_,p7 x r h2⟩;rcases List.mem_cons.mp ((kG f x r).mem_iff.mp hz)with rfl|hz
   ·exact λk=>List.lt_irrefl _ (iQ hl k)
   ·exact h1 z hz
  ·rename_i hl;refine List.pairwise_cons.mpr ⟨λz hz=>?_,h⟩;rcases List.mem_cons.mp hz with rfl|hz
   ·exact hl
   ·exact yE hl (h1 z hz)
theorem dz:∀l,(cH f l).Pairwise (leF f)
 |[]=>List.Pairwise.nil
 |x::l=>p7 f x _ (dz l)
theorem kH:∀(l1 l2:List α),(∀x∈l1,∀y∈l1,f x=f y->x=y)->l1.Perm l2->l1.Pairwise (leF f)->l2.Pairwise (leF f)->l1=l2
 |[],l2,_,p,_,_=>(List.nil_perm.mp p).symm
 |x::r1,[],_,p,_,_=>absurd p.length_eq (by simp)
 |x::r1,y::r2,hi,p,h1,h2=>by
  have hy:y∈x::r1:=p.mem_iff.mpr (mX ..);have hxy:leF f x y:=by
   rcases List.mem_cons.mp hy with z|z
   ·rw[z];exact List.lt_irrefl _
   ·exact(List.pairwise_cons.mp h1).1 y z
  have hyx:leF f y x:=by
   rcases List.mem_cons.mp (p.mem_iff.mp (mX ..))with z|z
   ·rw[z];exact List.lt_irrefl _
   ·exact(List.pairwise_cons.mp h2).1 x z
  have e:x=y:=hi x (mX ..) y hy (Ar hxy hyx);subst e;rw[kH r1 r2 (λa ha b hb=>hi a (mZ _ ha) b (mZ _ hb)) (List.Perm.cons_inv p) (List.pairwise_cons.mp h1).2 (List.pairwise_cons.mp h2).2]
theorem gs {l l':List α}(hi:∀x∈l,∀y∈l,f x=f y->x=y)(p:l'.Perm l)(h:l'.Pairwise (leF f)):l'=cH f l :=
 kH f _ _ (λx hx y hy=>hi x (p.mem_iff.mp hx) y (p.mem_iff.mp hy)) (p.trans (bv f l).symm) h (dz f l)
end
theorem jq {α:Type}{p q:α->Bool}(h:∀x,p x=true->q x=true):∀l:List α,(l.filter p).length<=(l.filter q).length
 |[]=>Nat.le_refl _
 |x::l=>by
  have ih:=jq h l;rw[List.filter_cons,List.filter_cons];by_cases z:p x=true
  ·rw[if_pos z,if_pos (h x z)];simp only[List.length_cons];omega
  ·rw[if_neg z];split
   ·simp only[List.length_cons];omega
   ·exact ih
noncomputable def jE (cs:List (List Int))(c:List Int):Int:=((cs.filter λx=>decide (x<c)).length:Nat)
theorem CB {cs:List (List Int)}{a b:List Int}(h:¬b<a):jE cs a<=jE cs b:=by
 unfold jE;refine Int.ofNat_le.mpr (jq (λx hx=>?_) cs);rw[decide_eq_true_eq]at hx ⊢;rcases List.le_iff_lt_or_eq.mp (List.not_lt.mp h)with z|z
 ·exact iQ hx z
 ·rw[←z];exact hx
theorem qO {cs:List (List Int)}{a b:List Int}(ha:a∈cs)(h:a<b):jE cs a<jE cs b:=by
 unfold jE;apply Int.ofNat_lt.mpr;induction cs with
 |nil=>simp at ha
 |cons c cs ih=>
  have key:∀l:List (List Int),(l.filter λx=>decide (x<a)).length<=(l.filter λx=>decide (x<b)).length:=λl=>
   jq (λx hx=>by rw[decide_eq_true_eq]at hx ⊢;exact iQ hx h) l
  rw[List.filter_cons,List.filter_cons];rcases List.mem_cons.mp ha with rfl|ha
  ·rw[if_neg (by simp[List.lt_irrefl]),if_pos (by simpa using h)];have:=key cs;simp only[List.length_cons];omega
  ·have:=ih ha;by_cases z:c<a
   ·rw[if_pos (by simpa using z),if_pos (by simpa using iQ z h)];simp only[List.length_cons];omega
   ·rw[if_neg (by simpa using z)];split
    ·simp only[List.length_cons];omega
    ·exact this
theorem tw {cs:List (List Int)}{a b:List Int}(ha:a∈cs):decide (jE cs a<jE cs b)=decide (a<b):=by
 by_cases h:a<b
 ·rw[decide_eq_true h,decide_eq_true (qO ha h)]
 ·rw[decide_eq_false h,decide_eq_false];have:=CB (cs:=cs) h;omega
inductive At where
 |i (n:Int)
 |s (z:Str)
noncomputable def enc:At->List Int
 |.i n=>[n]
 |.s z=>z.cps.toList.map (λ(c:Nat)=>(c:Int)+1)++[0]
noncomputable def bH (xs:List At):List Int:=xs.flatMap enc
noncomputable def aJ:List At->List At->Option Bool
 |[],ys=>some (!ys.isEmpty)
 |_::_,[]=>some false
 |.i a::xs,.i b::ys=>if a=b then aJ xs ys else some (decide (a<b))
 |.s a::xs,.s b::ys=>if a=b then aJ xs ys else some (decide (a.cps.toList<b.cps.toList))
 |_::_,_::_=>none
theorem qP:∀(a b:List Nat)(r r':List Int),(a.map (λ(c:Nat)=>(c:Int)+1)++0::r)<(b.map (λ(c:Nat)=>(c:Int)+1)++0::r')↔a<b∨(a=b/\r<r')
 |[],[],r,r'=>by simp[List.cons_lt_cons_iff]
 |[],y::b,r,r'=>by simp[List.cons_lt_cons_iff]
 |x::a,[],r,r'=>by simp[List.cons_lt_cons_iff];omega
 |x::a,y::b,r,r'=>by
  rw[List.map_cons,List.map_cons,List.cons_append,List.cons_append,List.cons_lt_cons_iff,qP a b r r',List.cons_lt_cons_iff];constructor
  ·rintro (h|⟨h,k|⟨k1,k2⟩⟩)
   ·exact .inl (.inl (by omega))
   ·exact .inl (.inr ⟨by omega,k⟩)
   ·exact .inr ⟨by rw[k1,show x=y by omega],k2⟩
  ·rintro ((h|⟨h,k⟩)|⟨h,k⟩)
   ·exact .inl (by omega)
   ·exact .inr ⟨by omega,.inl k⟩
   ·injection h with h1 h2;exact .inr ⟨by omega,.inr ⟨h2,k⟩⟩
theorem gt (x:At)(xs:List At):bH (x::xs)=enc x++bH xs:=by unfold bH;rw[List.flatMap_cons]
theorem Ft (x:At):enc x≠[]:=by cases x<;>simp[enc]
theorem wS {a b:Str}:a.cps.toList=b.cps.toList↔a=b:=by
 constructor
 ·intro h;obtain⟨a⟩:=a;obtain⟨b⟩:=b;have:a=b:=Array.toList_inj.mp h;rw[this]
 ·rintro rfl;rfl
theorem jF:∀(xs ys:List At)(b:Bool),aJ xs ys=some b->b=decide (bH xs<bH ys)
 |[],[],b,h=>by simp[aJ]at h;subst h;simp[bH]
 |[],y::ys,b,h=>by
  simp[aJ]at h;subst h;rw[gt];cases e:enc y with
  |nil=>exact absurd e (Ft y)
  |cons c cs=>simp[bH]
 |x::xs,[],b,h=>by simp[aJ]at h;subst h;simp[bH]
 |.i a::xs,.i c::ys,b,h=>by
  rw[aJ]at h;rw[gt,gt];show b=decide (a::bH xs<c::bH ys);split at h
  ·rename_i e;subst e;rw[jF xs ys b h];exact decide_eq_decide.mpr (by rw[List.cons_lt_cons_iff];simp)
  ·rename_i e;cases h
   exact decide_eq_decide.mpr (by rw[List.cons_lt_cons_iff];simp[e])
 |.s a::xs,.s c::ys,b,h=>by
  rw[aJ]at h;rw[gt,gt];have e0:∀(z:Str)(r:List Int),enc (.s z)++r=z.cps.toList.map (λ(c:Nat)=>(c:Int)+1)++0::r:=λz r=>by simp[enc]
  rw[e0,e0];split at h
  ·rename_i e;subst e;rw[jF xs ys b h];exact decide_eq_decide.mpr (by rw[qP];exact⟨λz=>.inr ⟨rfl,z⟩,λz=>z.elim (λq=>absurd q (List.lt_irrefl _)) (·.2)⟩)
  ·rename_i e;cases h
   exact decide_eq_decide.mpr (by rw[qP,wS];exact⟨.inl,λz=>z.elim id λq=>absurd q.1 e⟩)
 |.i _::_,.s _::_,b,h=>by simp[aJ]at h
 |.s _::_,.i _::_,b,h=>by simp[aJ]at h
theorem vB:∀(xs ys:List At),aJ xs ys=some false->aJ ys xs=some false->xs=ys
 |[],[],_,_=>rfl
 |[],y::ys,h,_=>by simp[aJ]at h
 |x::xs,[],_,h=>by simp[aJ]at h
 |.i a::xs,.i c::ys,h,k=>by
  rw[aJ]at h k;by_cases e:a=c
  ·subst e;rw[if_pos rfl]at h k;rw[vB xs ys h k]
  ·rw[if_neg e]at h;rw[if_neg (Ne.symm e)]at k;simp at h k;omega
 |.s a::xs,.s c::ys,h,k=>by
  rw[aJ]at h k;by_cases e:a=c
  ·subst e;rw[if_pos rfl]at h k;rw[vB xs ys h k]
  ·rw[if_neg e]at h;rw[if_neg (Ne.symm e)]at k;simp only[Option.some.injEq,decide_eq_false_iff_not]at h k;exact absurd (wS.mp (List.le_antisymm (List.not_lt.mp k) (List.not_lt.mp h))) e
 |.i _::_,.s _::_,h,_=>by simp[aJ]at h
 |.s _::_,.i _::_,h,_=>by simp[aJ]at h
noncomputable def cy (ks:List (List At)):Bool:=ks.all λx=>ks.all λy=>(aJ x y).isSome
theorem f9 {ks:List (List At)}(h:cy ks=true){x y:List At}(hx:x∈ks)(hy:y∈ks):aJ x y=some (decide (bH x<bH y)):=by
 have:=List.all_eq_true.mp (List.all_eq_true.mp h x hx) y hy;obtain⟨b,e⟩:=Option.isSome_iff_exists.mp this;rw[e,jF _ _ _ e]
theorem iR {ks:List (List At)}(h:cy ks=true){x y:List At}(hx:x∈ks)(hy:y∈ks)(e:bH x=bH y):x=y:=by
 refine vB _ _ ?_ ?_
 ·rw[f9 h hx hy,e,decide_eq_false (List.lt_irrefl _)]
 ·rw[f9 h hy hx,e,decide_eq_false (List.lt_irrefl _)]
def atV:At->Value->Prop
 |.i n,v=>∃t,v=.int n t
 |.s z,v=>∃t,v=.str z t
def d3 (h:Heap)(xs:List At)(v:Value):Prop:=∃a o its n,v=.ref a/\h.get? a=some o/\o.cls=.type "tuple"/\o.data=.seq its n/\Paired atV xs its.toList
theorem d3.keep {h h':Heap}{xs:List At}{v:Value}(x:d3 h xs v)(k:∀a o,o.cls=.type "tuple"->h.get? a=some o->h'.get? a=some o):d3 h' xs v:=by
 obtain⟨a,o,its,n,e,ho,hc,r⟩:=x;exact⟨a,o,its,n,e,k a o hc ho,hc,r⟩
noncomputable def cz (ks:List (List At)):Bool:=ks.all (λx=>match x with|.i _::_=>true|_=>false) || ks.all (λx=>match x with|.s _::_=>true|_=>false)
section
variable {prog:Program}{w:World}{A:Around}{E:Value->Shared->Prop}{s:Shared}
theorem m5 {Q:Bool->Shared->Prop}{b:Bool}{fin:Bool}:∀(xs ys:List At)(its jts:List Value)(i:Nat),Paired atV xs its->Paired atV ys jts->aJ xs ys=some b->fin=decide (xs.length<ys.length)->Q b s->KatLex prog w A true fin Q (its.zip jts) i s
 |[],ys,_,jts,i,.nil,r2,h,hf,q=>by
  rw[List.zip_nil_left];refine kat_nil ?_;cases ys with
  |nil=>simp[aJ]at h;subst h;rw[hf];exact q
  |cons y ys=>simp[aJ]at h;subst h;rw[hf];simpa using q
 |x::xs,[],_,_,i,_,.nil,h,hf,q=>by
  rw[List.zip_nil_right];refine kat_nil ?_;simp[aJ]at h;subst h;rw[hf];simpa using q
 |.i a::xs,.i c::ys,_,_,i,.cons r1 r1',.cons r2 r2',h,hf,q=>by
  obtain⟨t,rfl⟩:=r1;obtain⟨u,rfl⟩:=r2;rw[List.zip_cons_cons];refine kat_cons (wpAny_eqBool_int ?_);rw[aJ]at h;by_cases e:a=c
  ·rw[if_pos e]at h;rw[show(a == c)=true by simp[e]];exact kat_yes (m5 xs ys _ _ (i+1) r1' r2' h (by rw[hf];simp) q)
  ·rw[if_neg e]at h;cases h
   rw[show(a == c)=false by simp[e]];refine kat_no ?_;cases hb:(true && i == 0) with
   |true=>exact oneLt_int q
   |false=>exact kat_one _ _ (PyProof.Rows.lt_int q)
 |.s a::xs,.s c::ys,_,_,i,.cons r1 r1',.cons r2 r2',h,hf,q=>by
  obtain⟨t,rfl⟩:=r1;obtain⟨u,rfl⟩:=r2;rw[List.zip_cons_cons];refine kat_cons (wpAny_eqBool_str ?_);rw[aJ]at h;by_cases e:a=c
  ·rw[if_pos e]at h;rw[decide_eq_true e];exact kat_yes (m5 xs ys _ _ (i+1) r1' r2' h (by rw[hf];simp) q)
  ·rw[if_neg e]at h;cases h
   rw[decide_eq_false e];refine kat_no ?_;cases hb:(true && i == 0) with
   |true=>exact oneLt_str q
   |false=>exact kat_one _ _ (PySem.P.lt_str q)
 |.i _::_,.s _::_,_,_,_,_,_,h,_,_=>by simp[aJ]at h
 |.s _::_,.i _::_,_,_,_,_,_,h,_,_=>by simp[aJ]at h
theorem dU {α β:Type}{F:α->β->Prop}:∀ {l₁:List α}{l₂:List β},Paired F l₁ l₂->l₁.length=l₂.length
 |_,_,.nil=>rfl
 |_,_,.cons _ t=>by simp[dU t]
theorem Fu {Q:Bool->Shared->Prop}{xs ys:List At}{x y:Value}{b:Bool}(hx:d3 s.heap xs x)(hy:d3 s.heap ys y)(h:aJ xs ys=some b)(q:Q b s):wpAny (model prog w) A (keyLt' (tuples' true) x y) Q E s:=by
 obtain⟨a,o,its,n,rfl,ho,_,hd,r⟩:=hx;obtain⟨a',o',its',n',rfl,ho',_,hd',r'⟩:=hy;refine kat_lt ho hd ho' hd' (m5 xs ys _ _ 0 r r' h ?_ q);rw[←Array.length_toList,←Array.length_toList,dU r,dU r']
theorem lf {h:Heap}:∀ {ks:List (List At)}{vs:List Value},Paired (d3 h) ks vs->(∀k∈ks,k≠[])->∃fs,KatTups h vs fs/\fs.length=ks.length/\∀v∈fs,∃k r,(k::r)∈ks/\atV k v
 |_,_,.nil,_=>⟨[],trivial,rfl,by simp⟩
 |k::ks,_,.cons x t,hne=>by
  obtain⟨fs,h1,h2,h3⟩:=lf t λz hz=>hne z (mZ _ hz);obtain⟨a,o,its,n,rfl,ho,hc,hd,r⟩:=x;cases r':its.toList with
  |nil=>
   rw[r']at r;cases r
   exact absurd rfl (hne [] (mX ..))
  |cons v vs=>
   rw[r']at r;obtain⟨p,r1⟩:∃p,its[0]? = some v:=⟨(),by rw[←Array.getElem?_toList,r'];rfl⟩;cases r with
   |cons q qs=>
    rename_i k0 kr;refine⟨v::fs,KatTups.cons ho hc hd r1 h1,by simp[h2],λu hu=>?_⟩;rcases List.mem_cons.mp hu with rfl|hu
    ·exact⟨k0,kr,mX ..,q⟩
    ·obtain⟨k1,r1,m1,m2⟩:=h3 u hu;exact⟨k1,r1,mZ _ m1,m2⟩
theorem tz {ks:List (List At)}{vs:List Value}{Q:SortKind->Shared->Prop}(hp:Paired (d3 s.heap) ks vs)(hf:cz ks=true)(hn:0<ks.length)(q:Q (tuples' true) s):wpAny (model prog w) A (keyKind' vs.toArray) Q E s:=by
 have hne:∀k∈ks,k≠[]:=λk hk z=>by
  subst z;unfold cz at hf;rw[Bool.or_eq_true]at hf;rcases hf with hf|hf
  ·have:=List.all_eq_true.mp hf [] hk;simp at this
  ·have:=List.all_eq_true.mp hf [] hk;simp at this
 obtain⟨fs,h1,h2,h3⟩:=lf hp hne;unfold cz at hf;rw[Bool.or_eq_true]at hf;rcases hf with hf|hf
 ·refine kat_kind (T:=.type "int") h1 (by omega) (λv hv=>?_) (by decide) q;obtain⟨k,r,m,z⟩:=h3 v hv;have:=List.all_eq_true.mp hf _ m;cases k with
  |i n=>obtain⟨t,rfl⟩:=z;exact .now
  |s z'=>simp at this
 ·refine kat_kind (T:=.type "str") h1 (by omega) (λv hv=>?_) (by decide) q;obtain⟨k,r,m,z⟩:=h3 v hv;have:=List.all_eq_true.mp hf _ m;cases k with
  |s z'=>obtain⟨t,rfl⟩:=z;exact .now
  |i n=>simp at this
end
section
variable {prog:Program}{w:World}{A:Around}{E:Value->Shared->Prop}{s:Shared}
theorem d4 {α β:Type}{F:α->β->Prop}(d:α)(e:β):∀ {l₁:List α}{l₂:List β},Paired F l₁ l₂->∀ {i:Nat},i<l₁.length->F (l₁.getD i d) (l₂.getD i e)
 |_,_,.cons r t,0,_=>r
 |_,_,.cons r t,i+1,h=>by
  simp only[List.getD_cons_succ];exact d4 d e t (by simpa using h)
 |_,_,.nil,i,h=>by simp at h
noncomputable def rkK (ks:List (List At))(i:Nat):Int:=jE (ks.map bH) (bH (ks.getD i []))
theorem wT {ks:List (List At)}{vs:List Value}(hc:cy ks=true)(hp:Paired (d3 s.heap) ks vs):∀(i j:Nat)(C:Bool->Shared->Prop)(s1:Shared),i<ks.length->j<ks.length->s1=s->(∀s',s'=s->C (ltR (rkK ks) i j) s')->kas_ask prog w A (tuples' true) vs i j C s1:=by
 intro i j C s1 hi hj e hC;subst e;unfold kas_ask;have mi:ks.getD i []∈ks:=by rw[List.getD_eq_getElem?_getD,List.getElem?_eq_getElem hi];exact List.getElem_mem hi
 have mj:ks.getD j []∈ks:=by rw[List.getD_eq_getElem?_getD,List.getElem?_eq_getElem hj];exact List.getElem_mem hj
 refine Fu (d4 [] Value.none hp hi) (d4 [] Value.none hp hj) (f9 hc mi mj) ?_;have:=hC s1 rfl;unfold ltR rkK at this;rw[tw (List.mem_map.mpr ⟨_,mi,rfl⟩)]at this;exact this
theorem yF {a:Addr}{vs:List Value}{ks:List (List At)}{n:Nat}{P:PySem.Fin->Shared->Prop}(ho:s.heap.get? a=some (seqObj "list" vs.toArray n))(hk:Paired (d3 s.heap) ks vs)(hc:cy ks=true)(hf:cz ks=true)(h64:vs.length<64)
  (h:∀p:Array Nat,Arr vs.length p->Up (rkK ks) p vs.length->P (.done (.ret .none)) { s with heap:=sortedHeap s.heap a vs (List.toArray (p.toList.map λi=>vs.getD i Value.none)) }):
  wpAny (model prog w) A (Builtin.«list.sort» ⟨[.ref a],[]⟩) P E s:=by
 have ha:=Heap.lt_size ho;have hlen:ks.length=vs.length:=dU hk;obtain⟨e1,ho1⟩:∃e1,(s.heap.update a (Obj.mapSeq λ_=>#[])).get? a=some (seqObj "list" #[] e1):=⟨_,get?_update_seq ho (λ_=>#[])⟩;let h6:Heap:=((s.heap.update a (Obj.mapSeq λ_=>#[])).push (seqObj "tuple" vs.toArray 0)).push (seqObj "list" #[] 0);have old:∀b u,b≠a->s.heap.get? b=some u->h6.get? b=some u:=λb u hb q=>
  Heap.get?_push_of_some _ (Heap.get?_push_of_some _ ((Heap.get?_update_ne _ _ _ _ hb).trans q))
 have ho6:h6.get? a=some (seqObj "list" #[] e1):=Heap.get?_push_of_some _ (Heap.get?_push_of_some _ ho1);have hk6:Paired (d3 h6) ks vs:=L2.Paired.mapP hk λk v x=>x.keep λb u hcl q=>old b u (λz=>by
  subst z;rw[ho]at q;cases q;injection hcl with z;exact absurd z (by decide)) q
 rw[list_sort_plain];refine wX (listItems_at ho rfl (wX (listUpdate_at ho rfl (wX (seqEpoch_at ho1 rfl (wX (wpAny_newTuple (wX (wpAny_newList (wpAny_holding ?_))) (by show vs.length<=sizeLine;rw[sizeLine_eq];omega))))))));show wpAny (model prog w) A _ P E { s with heap:=h6 };dsimp only;have ends:∀(st:SortSt)(p:Array Nat),arrOf st=p.map (kas_item (vs.toArray.zip vs.toArray))->failedOf st=none->Arr vs.length p->Up (rkK ks) p vs.length ->
   wpAny (model prog w) A (do
    let touched:=(←seqEpoch a) != e1
    Builtin.List.listUpdate (.ref a) λ_=>(arrOf st).map (·.2)
    if let some e:=failedOf st then rule "list.sort.comparison-raised";throw e
    if touched then rule "list.sort.modified";raiseError "ValueError" "list modified during sort"
    ret .none) P E { s with heap:=h6 }:=λst p ea ef ap up=>by
  have eo:(arrOf st).map (·.2)=List.toArray (p.toList.map λi=>vs.getD i Value.none):=kat_snds rfl ea;refine wX (seqEpoch_at ho6 rfl ?_);refine wX (listUpdate_at ho6 rfl ?_ (hsz2:=by rw[eo];simp only[List.size_toArray,List.length_map,Array.length_toList,ap.size,sizeLine_eq];omega));rw[ef];simp only[bne_self_eq_false,Bool.false_eq_true,if_false];rw[eo];exact wY (h p ap up)
 by_cases h2:vs.toArray.size<2
 ·rw[if_pos h2,if_pos h2];refine wX (wY ?_);rw[StateT.run_pure];refine wX (wY ?_);have hsm:vs.length<2:=by simpa using h2
  refine ends _ (List.toArray (List.range vs.length)) ?_ rfl ⟨by simp,by simp⟩ ?_
  ·show vs.toArray.zip vs.toArray=_;have:=kas_range (vs.toArray.zip vs.toArray);rw[show(vs.toArray.zip vs.toArray).size=vs.length by simp]at this;exact this.symm
  ·intro i j hij hj;have:i=j:=by omega
   subst this;exact Int.le_refl _
 ·rw[if_neg h2,if_neg h2];have h2':2<=vs.length:=by simp at h2;omega
  refine wX (tz (s:={ s with heap:=h6 }) hk6 hf (by omega) ?_);obtain⟨p,r1,r2,r3⟩:=tu (n:=vs.length) (rk:=rkK ks) (by omega);refine wX (wpAny_mono (kat_run (E:=E) (ks:=vs) (vs:=vs) (κ:=tuples' true) (s:={ s with heap:=h6 }) (Q:=λst' s'=>s'={ s with heap:=h6 }/\arrOf st'=p.map (kas_item (vs.toArray.zip vs.toArray))/\failedOf st'=none)
   (G:=λp' s'=>p'=p/\s'={ s with heap:=h6 }) rfl h2' h64 (λp' st' s' _ e2 e3 e4=>by
    obtain⟨rfl,rfl⟩:=e4;exact⟨rfl,e2,e3⟩) (Run.wp (λs'=>s'={ s with heap:=h6 }) (λi j C s1 hi hj e hC=>wT (s:={ s with heap:=h6 }) hc hk6 i j C s1 (by omega) (by omega) e hC) r1 rfl λs' e=>⟨rfl,e⟩)) (λr s' hr=>?_) λ_ _ z=>z)
  obtain⟨⟨⟩,st'⟩:=r;obtain⟨rfl,e2,e3⟩:=hr;exact ends st' p e2 e3 r2 r3
theorem t6 {l:Addr}{vs:List Value}{ks:List (List At)}{Q:Value->Shared->Prop}(hl:s.heap.IsList l vs.toArray)(hk:Paired (d3 s.heap) ks vs)(hc:cy ks=true)(hf:cz ks=true)(h64:vs.length<64)
  (h:∀p:Array Nat,Arr vs.length p->Up (rkK ks) p vs.length->Q (.ref (s.heap.objs.size+1)) { s with heap:=sortedAll s.heap vs (List.toArray (p.toList.map λi=>vs.getD i Value.none)) }):
  wpAny (model prog w) A (call (.builtin "sorted") [.ref l]) Q E s:=by
 let h1:Heap:=(s.heap.push (seqObj "list" #[] 0)).update s.heap.objs.size (Obj.mapSeq (· ++ vs.toArray));have hsz:h1.objs.size=s.heap.objs.size+1:=by show(Heap.update _ _ _).objs.size=_;rw[Heap.size_update,size_push']
 let h2:Heap:=h1.push (seqObj "list" vs.toArray 0);have hoL:h2.get? (s.heap.objs.size+1)=some (seqObj "list" vs.toArray 0):=by rw[←hsz];exact Heap.get?_push_size _ rfl
 have hk2:Paired (d3 h2) ks vs:=L2.Paired.mapP hk λk v x=>x.keep λb u _ q=>
  Heap.get?_push_of_some _ ((Heap.get?_update_ne _ _ _ _ (Nat.ne_of_lt (Heap.lt_size q))).trans (Heap.get?_push_of_some _ q))
 refine Calls.call_function_entry kind_sorted plain_sorted entry_sorted (args_sorted1 _) ?_;unfold Builtin.«sorted»;refine wX (m:=checkCount "sorted" 1 1 _) (wY (wX (collect_list hl (wX (wpAny_newList ?_)))));show wpAny _ _ _ _ _ { s with heap:=h2 };rw[show((s.heap.push (seqObj "list" #[] 0)).update s.heap.objs.size (Obj.mapSeq (· ++ vs.toArray))).objs.size=s.heap.objs.size+1 from hsz];exact wX (wpAny_holding (wpAny_call_entry slot_list_sort ⟨_,hoL,rfl⟩ entry_list_sort (yF hoL hk2 hc hf h64 λp ap up=>⟨_,rfl,wY ⟨_,rfl,h p ap up⟩⟩) (args_list_sort _)))
end
end DL
namespace DL
open PySem PySem.Spec PySem.W PyProof.Rows L2
noncomputable def p8:D->Option At
 |.int n=>some (.i n)
 |.str z=>some (.s z)
 |_=>none
noncomputable def c7:List D->Option (List At)
 |[]=>some []
 |d::ds=>(p8 d).bind λa=>(c7 ds).map (a :: ·)
noncomputable def jG:D->Option (List At)
 |.tup es=>c7 es
 |_=>none
noncomputable def cA:List D->Option (List (List At))
 |[]=>some []
 |d::ds=>(jG d).bind λa=>(cA ds).map (a :: ·)
noncomputable def As (d:D):List Int:=bH ((jG d).getD [])
noncomputable def m6:List D->Option (List Int)
 |[]=>some []
 |.int n::ds=>(m6 ds).map (n :: ·)
 |_::_=>none
noncomputable def Au (ns:List Int):List Int:=cH (λn=>[n]) ns
noncomputable def eI:List D->Option (D×Bool)
 |[.lst ds]=>match eQ ds with
  |some ss=>if ss.length<64 then some (.lst ((iB ss).map .str),true)else none
  |none=>match m6 ds with
   |some ns=>if ns.length<64 then some (.lst ((Au ns).map .int),true)else none
   |none=>match cA ds with
    |some ks=>if ks.length<64/\cy ks=true/\cz ks=true then some (.lst (cH As ds),true)else none
    |none=>none
 |_=>none
theorem yG {d e:D}{a:At}(h:p8 d=some a)(k:p8 e=some a):d=e:=by
 cases d<;>simp only[p8]at h<;>cases h<;>cases e<;>simp only[p8]at k<;>cases k<;>rfl
theorem m7:∀ {ds es:List D}{as:List At},c7 ds=some as->c7 es=some as->ds=es
 |[],[],_,_,_=>rfl
 |[],e::es,as,h,k=>by
  simp only[c7]at h k;cases h
  obtain⟨a,_,k⟩:=oX k;obtain⟨r,_,k⟩:=oY k;cases k
 |d::ds,[],as,h,k=>by
  simp only[c7]at h k;cases k
  obtain⟨a,_,h⟩:=oX h;obtain⟨r,_,h⟩:=oY h;cases h
 |d::ds,e::es,as,h,k=>by
  simp only[c7]at h k;obtain⟨a,h1,h⟩:=oX h;obtain⟨r,h2,h⟩:=oY h;obtain⟨a',k1,k⟩:=oX k;obtain⟨r',k2,k⟩:=oY k;subst h;injection k with z1 z2;subst z1;subst z2;rw[yG h1 k1,m7 h2 k2]
theorem Av {d e:D}{k:List At}(h:jG d=some k)(h':jG e=some k):d=e:=by
 cases d<;>simp only[jG]at h<;>try (cases h;done)
 cases e<;>simp only[jG]at h'<;>try (cases h';done)
 rw[m7 h h']
theorem d9:∀ {ds:List D}{ks:List (List At)},cA ds=some ks->ks.length=ds.length
 |[],_,h=>by simp only[cA]at h;cases h;rfl
 |d::ds,_,h=>by
  simp only[cA]at h;obtain⟨a,h1,h⟩:=oX h;obtain⟨r,h2,h⟩:=oY h;subst h;simp[d9 h2]
theorem fB:∀ {ds:List D}{ks:List (List At)},cA ds=some ks->∀ {i:Nat},i<ds.length->jG (ds.getD i .non)=some (ks.getD i [])
 |[],_,h,i,hi=>by simp at hi
 |d::ds,_,h,0,hi=>by
  simp only[cA]at h;obtain⟨a,h1,h⟩:=oX h;obtain⟨r,h2,h⟩:=oY h;subst h;exact h1
 |d::ds,_,h,i+1,hi=>by
  simp only[cA]at h;obtain⟨a,h1,h⟩:=oX h;obtain⟨r,h2,h⟩:=oY h;subst h;simp only[List.getD_cons_succ];exact fB h2 (by simpa using hi)
theorem m8 {α:Type}(l:List α)(d:α):(List.range l.length).map (λi=>l.getD i d)=l:=by
 apply List.ext_getElem?;intro i;by_cases h:i<l.length
 ·simp[h]
 ·simp[h]
theorem vC {ds:List D}{ks:List (List At)}{p:Array Nat}(hk:cA ds=some ks)(hc:cy ks=true)(ap:Arr ds.length p)(up:Up (rkK ks) p ds.length):p.toList.map (λi=>ds.getD i .non)=cH As ds:=by
 have mem:∀x∈ds,∃k∈ks,jG x=some k:=λx hx=>by
  obtain⟨i,hi,rfl⟩:=List.mem_iff_getElem.mp hx;have:=fB hk hi;rw[List.getD_eq_getElem?_getD,List.getElem?_eq_getElem hi]at this;refine⟨_,?_,this⟩;have hi':i<ks.length:=by rw[d9 hk];exact hi
  rw[List.getD_eq_getElem?_getD,List.getElem?_eq_getElem hi'];exact List.getElem_mem hi'
 apply gs As
 ·intro x hx y hy e;obtain⟨k,mk,ek⟩:=mem x hx;obtain⟨k',mk',ek'⟩:=mem y hy;unfold As at e;rw[ek,ek']at e;have:=iR hc mk mk' e;subst this;exact Av ek ek'
 ·have:=ap.perm.map (λi=>ds.getD i .non);rw[m8]at this;exact this
 ·rw[List.pairwise_iff_getElem];intro i j hi hj hij;have hsz:=ap.size;have hi':i<p.size:=by simpa using hi
  have hj':j<p.size:=by simpa using hj
  have:=up i j (Nat.le_of_lt hij) (by omega);unfold bN rkK at this;have gi:p.getD i 0=p[i]:=by rw[Array.getD_eq_getD_getElem?,Array.getElem?_eq_getElem hi'];rfl
  have gj:p.getD j 0=p[j]:=by rw[Array.getD_eq_getD_getElem?,Array.getElem?_eq_getElem hj'];rfl
  have li:=ap.lt (k:=i) (by omega);have lj:=ap.lt (k:=j) (by omega);have mj:ks.getD (p.getD j 0) []∈ks:=by
   have h':p.getD j 0<ks.length:=by rw[d9 hk];exact lj
   rw[List.getD_eq_getElem?_getD,List.getElem?_eq_getElem h'];exact List.getElem_mem h'
  have nl:¬bH (ks.getD (p.getD j 0) [])<bH (ks.getD (p.getD i 0) []):=λz=>by
   have:=qO (cs:=ks.map bH) (List.mem_map.mpr ⟨_,mj,rfl⟩) z;omega
  simp only[List.getElem_map,Array.getElem_toList];unfold leF As;rw[←gi,←gj,fB hk li,fB hk lj];exact nl
section
variable {X:Cx}
theorem t7 {K:PySem.W.Frag}{B:Hp}:∀ {vs:List V}{es:List D}{k:List At}{its:List Value},aQ vs its->IsL K B vs es->c7 es=some k->Paired atV k its
 |_,_,_,_,.nil,.nil,h=>by simp only[c7]at h;cases h;exact .nil
 |_,_,_,_,.cons r rr,.cons i ii,h=>by
  simp only[c7]at h;obtain⟨a,h1,h⟩:=oX h;obtain⟨t,h2,h⟩:=oY h;subst h;refine .cons ?_ (t7 rr ii h2);cases i<;>simp only[p8]at h1<;>cases h1
  ·exact r
  ·exact r
theorem jH {pins:List (Addr×Obj)}{σ:St}{H:Hp}{s:Shared}(I:Inv X pins σ H s):∀ {ys:List V}{ds:List D}{ks:List (List At)}{its:List Value},aQ ys its->IsL X.K H ys ds->cA ds=some ks->Paired (d3 s.heap) ks its
 |_,_,_,_,.nil,.nil,h=>by simp only[cA]at h;cases h;exact .nil
 |_,_,_,_,.cons r rr,.cons i ii,h=>by
  simp only[cA]at h;obtain⟨a,h1,h⟩:=oX h;obtain⟨t,h2,h⟩:=oY h;subst h;refine .cons ?_ (jH I rr ii h2);cases i<;>simp only[jG]at h1<;>try (cases h1;done)
  rename_i hq hl;cases r
  obtain⟨its',r',⟨o,ho,hc,n,hd⟩,_⟩:=I.tuple hq;exact⟨_,o,_,n,rfl,ho,hc,hd,by simpa using t7 r' hl h1⟩
theorem wU {K:PySem.W.Frag}{B:Hp}:∀ {vs:List V}{ds:List D},IsL K B vs ds->∀ {i:Nat},i<ds.length->Is K B (vs.getD i .non) (ds.getD i .non)
 |_,_,.cons h _,0,_=>h
 |_,_,.cons _ t,i+1,hi=>by
  simp only[List.getD_cons_succ];exact wU t (by simpa using hi)
 |_,_,.nil,i,hi=>by simp at hi
theorem t8:∀ {vs:List V}{us:List Value},aQ vs us->∀ {i:Nat},i<vs.length->aS (vs.getD i .non) (us.getD i Value.none)
 |_,_,.cons h _,0,_=>h
 |_,_,.cons _ t,i+1,hi=>by
  simp only[List.getD_cons_succ];exact t8 t (by simpa using hi)
 |_,_,.nil,i,hi=>by simp at hi
theorem m9 {K:PySem.W.Frag}{B:Hp}{vs:List V}{ds:List D}(h:IsL K B vs ds):∀(l:List Nat),(∀i∈l,i<ds.length)->IsL K B (l.map λi=>vs.getD i .non) (l.map λi=>ds.getD i .non)
 |[],_=>.nil
 |i::l,hl=>.cons (wU h (hl i (mX ..))) (m9 h l λj hj=>hl j (mZ _ hj))
theorem kI {vs:List V}{us:List Value}(h:aQ vs us):∀(l:List Nat),(∀i∈l,i<vs.length)->aQ (l.map λi=>vs.getD i .non) (l.map λi=>us.getD i Value.none)
 |[],_=>.nil
 |i::l,hl=>.cons (t8 h (hl i (mX ..))) (kI h l λj hj=>hl j (mZ _ hj))
end
section
variable {X:Cx}
theorem wV {K:PySem.W.Frag}{B:Hp}:∀ {vs:List V}{ds:List D}{ns:List Int}{its:List Value},aQ vs its->IsL K B vs ds->m6 ds=some ns->IntsAre its ns
 |_,_,_,_,.nil,.nil,h=>by simp only[m6]at h;cases h;exact .nil
 |_,_,_,_,.cons r rr,.cons i ii,h=>by
  cases i<;>simp only[m6]at h<;>try (cases h;done)
  obtain⟨t,h2,h⟩:=oY h;subst h;obtain⟨u,rfl⟩:=r;exact .cons _ u (wV rr ii h2)
theorem p9:∀ {its:List Value}{zs:List Str},StrsAre its zs->aQ (zs.map V.str) its
 |_,_,.nil=>.nil
 |_,_,.cons x t r=>.cons ⟨t,rfl⟩ (p9 r)
theorem gn:∀ {its:List Value}{zs:List Int},IntsAre its zs->aQ (zs.map V.int) its
 |_,_,.nil=>.nil
 |_,_,.cons x t r=>.cons ⟨t,rfl⟩ (gn r)
theorem t9 {K:PySem.W.Frag}{N:Hp}:∀(zs:List Int),IsL K N (zs.map V.int) (zs.map D.int)
 |[]=>.nil
 |z::zs=>.cons (.int z) (t9 zs)
theorem Aw {l l':List Int}(p:l'.Perm l)(h:l'.Pairwise (·<=·)):l'=Au l:=by
 refine gs _ (λx _ y _ e=>by injection e) p (h.imp λ{a b} hab=>?_);unfold leF;intro z;rw[List.cons_lt_cons_iff]at z;rcases z with z|⟨_,z⟩
 ·omega
 ·exact List.lt_irrefl _ z
theorem jr {pins:List (Addr×Obj)}{σ:St}{H B:Hp}{s:Shared}{Q:VK}{its:List Value}{out:Array Value}{ys:List V}{ds:List D}(I:Inv X pins σ H s)(sB:aO B H)(q:Fin X.K B H (.lst ds) true Q)(hv:aQ ys out.toList)(hl:IsL X.K B ys ds)(hz:ys.length<=sizeLine):
  EP X pins σ Q (.ref (s.heap.objs.size+1)) { s with heap:=sortedAll s.heap its out }:=by
 obtain⟨e,he⟩:=sortedAll_at s.heap its out;have hp:H (s.heap.objs.size+1)=none:=I.hok.fresh (Nat.le_succ _);have xt:=Ext.laid (o:=.lst ys) sB hp;exact⟨.ref _,_,I.laid (t':=s.toks) (λb o=>sortedAll_old) (Nat.le_succ _) (show b8 X.prog X.w _ _ _ (.lst ys)from ⟨hz,out.toList,e,hv,he⟩),rfl,
  q _ _ _ xt (.lst (SqL.of aD) (hl.mono xt.bn)) λ_=>⟨_,_,_,rfl,rfl,hp,aD,hl.mono xt.bn⟩⟩
theorem Ax:bA X (.builtin "sorted") (rDA X.K eI):=by
 intro pins s σ H xs us Q I r h;obtain⟨B,dl,d,bb,sB,i,ee,q⟩:=h;cases i with
 |nil=>simp[eI]at ee
 |cons i1 i2=>
  cases i2 with
  |cons _ _=>cases i1<;>simp[eI]at ee
  |nil=>
   cases i1<;>try (simp[eI]at ee;done)
   rename_i l0 vs ds h hl;obtain⟨u,rfl,rx⟩:=fR r;cases rx
   obtain⟨its,r',pl,hz⟩:=I.list (sB.seq h);have hvl:vs.length=its.length:=r'.length;have hdl:ds.length=vs.length:=hl.length.symm;simp only[eI]at ee;split at ee
   ·rename_i ss es;split at ee
    ·rename_i h64;cases ee
     have hst:=gq r' hl es;have hsl:its.length=ss.length:=by rw[←hst.strs,List.length_map]
     refine sorted_strs pl.isList (by simpa using hst) (by omega) λout ss' a1 a2 a3=>?_;have e:=p6 a2 a3;subst e;exact jr I sB q (p9 a1) (jC _) (by rw[List.length_map,(dw ss).length_eq,sizeLine_eq];omega)
    ·cases ee
   ·split at ee
    ·rename_i ns es;split at ee
     ·rename_i h64;cases ee
      have hst:=wV r' hl es;have hsl:its.length=ns.length:=IntsAre.length hst;refine sorted_ints pl.isList (by simpa using hst) (by omega) λout ss' a1 a2 a3=>?_;have e:=Aw a2 a3;subst e;exact jr I sB q (gn a1) (t9 _) (by rw[List.length_map];unfold Au;rw[(bv _ ns).length_eq,sizeLine_eq];omega)
     ·cases ee
    ·split at ee
     ·rename_i ks es;split at ee
      ·rename_i hh;obtain⟨h64,hc,hf⟩:=hh;cases ee
       have hkl:=d9 es;have hst:=jH I r' (hl.mono sB) es;refine t6 pl.isList (by simpa using hst) hc hf (by omega) λp ap up=>?_;have hpl:its.length=ds.length:=by omega
       rw[hpl]at ap up;have e:=vC es hc ap up;have hin:∀i∈p.toList,i<ds.length:=λi hi=>List.mem_range.mp (ap.perm.mem_iff.mp hi);have il:=m9 hl p.toList hin;rw[e]at il;refine jr I sB q (ys:=p.toList.map λi=>vs.getD i .non) ?_ il ?_
       ·simpa using kI r' p.toList λi hi=>by rw[←hdl];exact hin i hi
       ·rw[List.length_map,Array.length_toList,ap.size,sizeLine_eq];omega
      ·cases ee
     ·cases ee
end
end DL
namespace DL
open PySem PySem.Spec PyProof.Rows L2
section
variable {X:Cx}{pos:Pos}
@[simp] noncomputable def Iz (i:Nat)(f:FE):FS:=λρ=>match ρ[i]? with
 |some (some (.lst ds,true))=>(f ρ).bind λx=>(m6 ds).bind λns=>match x.1 with
  |.int n=>if ns.findIdx (· == n)<ns.length then some (.nx (ρ.set i (some (.lst ((ns.eraseIdx (ns.findIdx (· == n))).map .int),true))))else none
  |_=>none
 |_=>none
end
section
variable {prog:Program}{w:World}{A:Around}{E:Value->Shared->Prop}{s:Shared}
theorem vD {a:Addr}{o:Obj}{its:Array Value}{n:Nat}{x:Value}{e:Value->Bool}{j:Nat}{P:PySem.Fin->Shared->Prop}(ho:s.heap.get? a=some o)(hd:o.data=.seq its n)
  (he:∀y∈its,MeetsSeq.EqGives y x (e y)) (hj:j<its.size) (hit:e its[j]=true) (hno:∀m (hm:m<its.size),m<j->e its[m]=false)
  (h:P (.done (.ret (.int j s.toks))) { s with toks:=s.toks+1 }):wpAny (model prog w) A (Builtin.«tuple.index» ⟨[.ref a,x],[]⟩) P E s:=by
 show wpAny _ _ (Builtin.Tuple.tupleItemsOf (.ref a)>>=_) _ _ s;refine wX (wpAny_tupleItemsOf ho hd ?_);dsimp only;refine wX (wY (wX (wY (wX ?_))));rw[Std.Legacy.Range.forIn_eq_forIn_range'];refine wpAny_forIn_list _
  (λay r s'=>r.1=none/\s'=s/\∃i,i<=j/\ay=List.range' i (its.size - i))
  _ ?_ ?_ _ _ ⟨rfl,rfl,0,Nat.zero_le _,?_⟩
 ·rintro k ay r s' ⟨hr,rfl,i,hi,hz⟩;have hlt:i<its.size:=by omega
  obtain⟨m,hm⟩:∃m,its.size - i=m+1:=⟨its.size - i - 1,by omega⟩;rw[hm,List.range'_succ]at hz;injection hz with z1 z2;have z1:=z1.symm;subst z1;subst z2;have hg:its[i]? = some its[i]:=by simp[hlt]
  simp only[hg];refine wX (he _ (Array.getElem_mem hlt) prog w _ _ _ _ ?_);by_cases hij:i=j
  ·subst hij;rw[hit];simp only[if_true];refine wX ?_;show wpAny _ _ (mkInt (i:Int)>>=λv=>ret v) _ _ _;exact wX (wpAny_mkInt (wY (wY (wY h))))
  ·rw[hno i hlt (by omega)];simp only[Bool.false_eq_true,if_false];exact wY ⟨rfl,rfl,i+1,by omega,by rw[show its.size - (i+1)=m by omega]⟩
 ·rintro⟨r1,r2⟩ s' ⟨hr,rfl,i,hi,hz⟩;exfalso;have:(List.range' i (its.size - i)).length=0:=by rw[←hz];rfl
  rw[List.length_range']at this;omega
 ·simp
end
theorem CRows.findT {K:PySem.W.Frag}{P:Params}(y:Str){ds:List D}:∀ {es:List DictEntry}{kvs:List (Str×D)},CRows K P es kvs->kvs.lookup y=some (.tup ds) ->
  ∃e a its n osl,es.find? (λe=>Value.isStrOf y e.key)=some e/\e.val=.ref a/\K.lookup a=some ⟨.type "tuple",none,.seq its n,osl⟩/\gM its.toList ds=true
 |_,_,.nil,h=>by simp at h
 |_,_,.tup (x:=x) (t:=t) (a:=a) (ds:=ds') hh l f tl,h=>by
  by_cases e:y=x
  ·subst e;rw[List.lookup_cons_self]at h;cases h
   rw[Bool.and_eq_true]at f;exact⟨_,a,_,_,_,List.find?_cons_of_pos (by simp[Value.isStrOf]),rfl,l,f.2⟩
  ·rw[List.lookup_cons,beq_eq_false_iff_ne.mpr e]at h;have nf:Value.isStrOf y (Value.str x t)=false:=by
    rw[Bool.eq_false_iff];intro z;obtain⟨t',q⟩:=Value.isStrOf_shape z;injection q with q1;exact e q1.symm
   simp only[List.find?_cons,nf];exact tl.findT y h
 |_,_,.flat (x:=x) (t:=t) (u:=u) (d:=d) hh f tl,h=>by
  by_cases e:y=x
  ·subst e;rw[List.lookup_cons_self]at h;cases h
   cases u<;>simp[qE]at f
  ·rw[List.lookup_cons,beq_eq_false_iff_ne.mpr e]at h;have nf:Value.isStrOf y (Value.str x t)=false:=by
    rw[Bool.eq_false_iff];intro z;obtain⟨t',q⟩:=Value.isStrOf_shape z;injection q with q1;exact e q1.symm
   simp only[List.find?_cons,nf];exact tl.findT y h
section
variable {X:Cx}{b e:Expr}{pos:Pos}{x:Str}{p:Pos}
def HY (K:PySem.W.Frag):V->List V->Hp->VK->Prop:=λx xs H Q=>∃(a:Addr)(o:Obj)(its:Array Value)(n:Nat)(zs:List Str)(y:Str),x=.ref a/\xs=[.str y]/\K.lookup a=some o/\o.cls=.type "tuple"/\o.data=.seq its n/\StrsAre its.toList zs/\zs.findIdx (· == y)<zs.length/\Q (.int (zs.findIdx (· == y):Nat)) H
noncomputable def DU (y:Str):Value->Bool
 |.str z _=>z == y
 |_=>false
theorem wW:∀ {its:List Value}{zs:List Str},StrsAre its zs->∀(i:Nat)(hi:i<its.length),∃(h:i<zs.length)(t:Tok),its[i]=.str zs[i] t
 |_,_,.cons z t h,0,_=>⟨by simp,t,rfl⟩
 |_,_,.cons z t h,i+1,hi=>by
  obtain⟨h',t',e⟩:=wW h i (by simpa using hi);exact⟨by simpa using h',t',by simpa using e⟩
 |_,_,.nil,i,hi=>by simp at hi
theorem tE:∀ {its:List Value}{zs:List Str},StrsAre its zs->its.length=zs.length
 |_,_,.nil=>rfl
 |_,_,.cons _ _ h=>by rw[List.length_cons,List.length_cons,tE h]
theorem Ay:MtR X "tuple.index" (HY X.K):=by
 intro pins s σ H x xs v us Q I rx rv h;obtain⟨a,o,its,n,zs,y,rfl,rfl,lk,hc,hd,hz,hk,q⟩:=h;cases rx
 obtain⟨u,rfl,⟨t,rfl⟩⟩:=rv.one;have ho:=I.kIn a o lk;have hl:=tE hz;rw[Array.length_toList]at hl;have at':∀(i:Nat)(hi:i<its.size),∃(h:i<zs.length)(t:Tok),its[i]=.str zs[i] t:=λi hi=>by
  obtain⟨h',t',e⟩:=wW hz i (by simpa using hi);exact⟨h',t',by simpa using e⟩
 refine wpAny_call_entry PySem.F.slot_tuple_index ⟨o,ho,hc⟩ PySem.F.entry_tuple_index (vD (e:=DU y) (j:=zs.findIdx (· == y)) ho hd (λz hm=>?_) (by omega) ?_ (λm hm hlt=>?_) ⟨_,rfl,.int (zs.findIdx (· == y):Nat),H,I.tok _,⟨_,rfl⟩,q⟩) (PySem.F.args_tuple_index_2 _ _)
 ·obtain⟨i,hi,rfl⟩:=Array.mem_iff_getElem.mp hm;obtain⟨_,t',e'⟩:=at' i hi;rw[e'];exact eqGives_str _ _ _ _
 ·obtain⟨_,t',e'⟩:=at' (zs.findIdx (· == y)) (by omega);rw[e'];exact List.findIdx_getElem (p:=(· == y)) (w:=hk)
 ·obtain⟨_,t',e'⟩:=at' m hm;rw[e'];have:=List.not_of_lt_findIdx (p:=(· == y)) (xs:=zs) hlt;simpa [DU]using this
@[simp] noncomputable def lF (kvs:List (Str×D)):D->D->Option (D×Bool)
 |.str y,.str z=>match kvs.lookup y with
  |some (.tup ds)=>(eQ ds).bind λzs=>if zs.findIdx (· == z)<zs.length then some (.int (zs.findIdx (· == z):Nat),false)else none
  |_=>none
 |_,_=>none
theorem CC {kvs:List (Str×D)}{f g:FE}{apos cpos:Pos}(h:∃d,X.mg x=some (.ref d)/\pj X.K X.w.params d kvs)(hb:JE X b f)(he:JE X e g)(hg:Gl X x:=by rfl)(hdb:(x == ("__debug__" : Str))=false:=by decide)(hs:qk b:=by intro _ _;rfl)
  (hbase:attributeBase (.Subscript (.Name x p) b pos) "index" X.env (eval (.Subscript (.Name x p) b pos) X.env)=eval (.Subscript (.Name x p) b pos) X.env:=by rfl)
  (hfew:((backTo cpos (starEach [e] X.env)).all (λx=>!x.1) && (backToKw cpos (keywordEach [] X.env)).all (λx=>x.1.isSome)
   && decide ([e].length+([]:List Keyword).length+(if([]:List Keyword).isEmpty then 0 else 1)<30))=true:=by rfl)
  (hline:(apos.endLine == cpos.line)=true:=by rfl) (hst:starEach [e] X.env=[(false,eval e X.env)]:=by rfl):
  JE X (.Call (.Attribute (.Subscript (.Name x p) b pos) "index" apos) [e] [] cpos) (f2 (lF kvs) f g):=by
 obtain⟨d,hm,cd⟩:=h;have ix:IxR X (λx y H Q=>∃z ds,x=.ref d/\y=.str z/\kvs.lookup z=some (.tup ds)/\∀a its n osl,X.K.lookup a=some ⟨.type "tuple",none,.seq its n,osl⟩->gM its.toList ds=true->Q (.ref a) H):=by
  intro value slice pins s σ H x y v u Q I rx ry q hs;obtain⟨z,ds,rfl,rfl,el,q⟩:=q;cases rx
  obtain⟨t,rfl⟩:=ry;obtain⟨es,n,l,r,sm⟩:=cd;have hM:=PySem.W.mapOf_K (prog:=X.prog) (w:=X.w) I.kIn l r.lit;obtain⟨en,a,its,n',osl,e1,e2,e3,e4⟩:=r.findT z el;have ff:findBy Value.isStrOf es z=some (.ref a):=by
   unfold findBy;obtain⟨es⟩:=es;rw[List.find?_toArray,e1,←e2];rfl
  exact tail_any hM.typeIs slot_dict_getitem.lookup (wpAny_getItem_of (strKind_is X.prog X.w z t) hM ff ⟨.ref a,H,I.tok _,rfl,q a _ _ _ e3 e4⟩) hs
 refine PE.to (zB (T:="tuple") PySem.F.plainAttrs_tuple PySem.F.slot_tuple_index PySem.F.type_tuple_index Ay (D1 ix (wl (v:=.ref d) hg hm rfl hdb) hb hs) (fS he ig hst) hbase hfew hline hst rfl) λσ H Q q=>?_;obtain⟨B,ρ,d',bb,sB,r,ee,q⟩:=q;obtain⟨x1,ex,ee⟩:=oX ee;obtain⟨y1,ey,ee⟩:=oX ee;obtain⟨xd,xb⟩:=x1;obtain⟨yd,yb⟩:=y1;cases xd with
 |str z=>
  cases yd with
  |str y=>
   refine⟨B,ρ,_,xb,sB,r,ex,λv H1 N1 xt i1 _=>?_⟩;cases i1
   simp only[lF]at ee;split at ee
   ·rename_i ds el;obtain⟨zs,ez,ee⟩:=oX ee;split at ee
    ·rename_i hk;cases ee
     refine⟨z,ds,rfl,rfl,el,λa its n osl l fl=>⟨.inr (.inl ⟨rfl,_,l,rfl,rfl⟩),N1,ρ,_,yb,xt.nh,r.mono xt.bn,ey,λv2 H2 N2 xt2 i2 _=>?_⟩⟩;cases i2
     obtain⟨vs,rv,iv⟩:=gN (K:=X.K) fl;exact⟨a,_,its,n,zs,y,rfl,rfl,l,rfl,rfl,gq rv (iv N2) ez,hk,(q.into (xt.trans xt2)).one xt2.nh (.int _)⟩
    ·cases ee
   ·cases ee
  |_=>simp[lF]at ee
 |_=>simp[lF]at ee
end
open PySem.W (tabIn tabObj CodeHd kla_fn kla_obj kla_eval kla_makeFunction kla_makeFunctionHit kla_callFunE kla_codeExpr envX)
def GX (K:PySem.W.Frag)(c P:Addr):Prop:=∃o vs file tf flags tg inF text tt,K.lookup c=some o/\o.cls=.type "code"/\o.data=.fields vs/\vs[11]? = some (.ref P)/\vs.getD 11 .none=.ref P/\vs.getD 18 .none=.str file tf /\
 vs.getD 7 .none=.int flags tg/\vs.getD 9 .none=.bool inF/\vs.getD 10 .none=.int text tt/\c≠P
def mB (K:PySem.W.Frag)(x:Str):Prop:=∃c P,tabIn K x=some (c,P)/\GX K c P
def Az (H:Hp)(f:Addr)(q:Str)(params:Arguments)(body:Expr)(scope:Scope)(cl:List (Str×Addr)):Prop :=
 ∃pm c ctv u oc u' vs t,H f=some (.frz (kla_obj "<lambda>" q params body scope cl pm c ctv) u)/\H c=some (.frz oc u')/\oc.data=.fields vs/\vs[1]? = some (.str q t)
theorem Az.mono {H H':Hp}{f:Addr}{q:Str}{params:Arguments}{body:Expr}{scope:Scope}{cl:List (Str×Addr)}(h:Az H f q params body scope cl)(e:aO H H'):Az H' f q params body scope cl :=
 let ⟨pm,c,ctv,u,oc,u',vs,t,h1,h2,h3,h4⟩:=h;⟨pm,c,ctv,u,oc,u',vs,t,e _ _ h1,e _ _ h2,h3,h4⟩
theorem lam_mk {K:PySem.W.Frag}{x:Str}{f c P:Addr}{oc:Value}{od od':Option Addr}{osl osl':Array (Option Value)}{fd:FuncData}{vs:Array Value}{file:Str}{tf tg tt:Tok}{flags text:Int}{inF:Bool}(e1:PySem.W.nsIn K mainGlobals x=some (some (.ref f)))(e2:K.lookup f=some ⟨oc,od,.func fd,osl⟩)
  (e3:fd.code=.ref c) (e4:K.lookup c=some ⟨.type "code",od',.fields vs,osl'⟩) (e5:vs[11]? = some (.ref P)) (e6:vs.getD 11 .none=.ref P) (e7:vs.getD 18 .none=.str file tf) (e8:vs.getD 7 .none=.int flags tg) (e9:vs.getD 9 .none=.bool inF) (e10:vs.getD 10 .none=.int text tt) (e11:(c == P)=false):mB K x :=
 ⟨c,P,tab_yes e1 e2 e3 e4 e5,_,vs,file,tf,flags,tg,inF,text,tt,e4,rfl,rfl,e5,e6,e7,e8,e9,e10,λz=>by rw[z]at e11;simp at e11⟩
theorem vE {pos:Pos}{a b:Int}{c cv:Value}(l:List Value)(h:TriplesOk l)(e:codeAmong pos (l++[rawInt a,rawInt b,c])=some cv):codeAmong pos l=some cv∨cv=c:=by
 fun_induction TriplesOk l with
 |case1=>
  simp only[List.nil_append,rawInt,codeAmong]at e;split at e
  ·cases e;exact .inr rfl
  ·cases e
 |case2 a' t b' u x ay ih=>
  simp only[List.cons_append,codeAmong]at e ⊢;split at e
  ·rename_i hc;rw[if_pos hc];exact .inl e
  ·rename_i hc;rw[if_neg hc];exact ih h e
 |case3 l h1 h2=>exact h.elim
section
variable {X:Cx}{pins:List (Addr×Obj)}{σ:St}{H:Hp}{s:Shared}
theorem A0 {x:Str}{params:Arguments}{body:Expr}{scope:Scope}{pos:Pos}{cl:List (Str×Addr)}{Q:Value->Shared->Prop}{E:Value->Shared->Prop}
  (hx:x∈j6) (L:mB X.K x) (hc:∀c P,tabIn X.K x=some (c,P)->X.env.code=.ref c) (hq:X.env.qual ++ "<lambda>" = lW x) (hdef:defaultsOf params X.env=([],[])) (hcl:closureFor scope X.env=pure cl)
  (I:Inv X pins σ H s) (tb:Tb X.K H) (k:∀f H' s',Inv X pins σ H' s'->aO H H'->Az H' f (lW x) params body scope cl->Q (.ref f) s'):
  wpAny (model X.prog X.w) X.A (eval (.Lambda params body scope pos) X.env) Q E s:=by
 refine kla_eval hdef ?_;rw[hq];obtain⟨c,P,ht,o,vs,file,tf,flags,tg,inF,text,tt,lk,ck⟩:=L;have hcode:=hc c P ht;have hP:=tb x hx c P ht;obtain⟨ps,e,tr,co⟩:=I.hok P _ hP;have C:CodeHd s.heap c P:=⟨o,vs,file,tf,flags,tg,inF,text,tt,I.kIn c o lk,ck⟩;have hg:s.heap.Ns mainGlobals X.mg:=I.mod.glob.keeps I.bk;have nP:∀b,H b=none->b≠P:=λb n z=>by rw[z,hP]at n;cases n
 have hgP:mainGlobals≠P:=by
  obtain⟨og,_,_,eg,_⟩:=I.mod.glob;exact nP _ (I.bs _ _ eg).2
 have hb:s.heap.BuiltinsAt X.mg P:=by
  obtain⟨bm,ob,b1,b2,b3,b4,b5,b6⟩:=I.mod.bmain;refine⟨bm,ob,b1,b2,λz=>?_,nP _ (I.bs _ _ b3).2,I.bk _ _ b3,b4,b5,b6⟩;obtain⟨og,es,ep,eg,dg,_⟩:=I.mod.glob;rw[z,eg]at b3;cases b3;rw[dg]at b6;cases b6
 cases hf:codeAmong pos ps.toList with
 |some cv=>
  obtain⟨c',oc,u,ws,t,rfl,hH,hd,hv⟩:=co pos cv hf;refine kla_makeFunctionHit (mg:=X.mg) hcl I.ok.glob hg hcode C e tr hf hb λctv h' tk hk hsz=>?_;have hn:H h'.objs.size=none:=I.hok.fresh hsz;have sm:aO H (upd H h'.objs.size (.frz (kla_obj "<lambda>" (lW x) params body scope cl ((X.mg "__name__").getD .none) c' ctv) (.own h'.objs.size))):=λb u q=>by rw[aF (aR q hn)];exact q
  refine k _ _ _ (I.laid (t':=tk) (λb u q=>Heap.get?_push_of_some _ (hk b u q)) hsz (show b8 X.prog X.w _ _ _ (.frz _ (.own h'.objs.size))from ⟨Heap.get?_push_size _ rfl,_,Heap.get?_push_size _ rfl⟩)) sm ?_;exact⟨_,c',ctv,_,oc,u,ws,t,aD,sm _ _ hH,hd,hv⟩
 |none=>
  refine kla_makeFunction (mg:=X.mg) hcl I.ok.glob hg hcode C e tr hf hgP hb λc' ctv h' tk hx' hge hlt hrec htb=>?_;obtain⟨c2,oc,ws,t,e2,hoc,hd,hv⟩:=hrec;cases e2
  have hnc:H c'=none:=I.hok.fresh hge;have hsz:s.heap.objs.size<=h'.objs.size:=Nat.le_trans hge (Nat.le_of_lt hlt);have hnf:H h'.objs.size=none:=I.hok.fresh hsz;have ncf:c'≠h'.objs.size:=Nat.ne_of_lt hlt;let fo:Obj:=kla_obj "<lambda>" (lW x) params body scope cl ((X.mg "__name__").getD .none) c' ctv;let H1:Hp:=upd (upd H c' (.frz oc (.own c'))) h'.objs.size (.frz fo (.own h'.objs.size));have sm:aO H H1:=λb u q=>by
   show upd _ _ _ b=_;rw[aF (aR q hnf),aF (aR q hnc)];exact q
  have H1c:H1 c'=some (.frz oc (.own c')):=by show upd _ _ _ c'=_;rw[aF ncf,aD]
  have keep:∀b u,b≠P->s.heap.get? b=some u->(h'.push fo).get? b=some u:=λb u n q=>Heap.get?_push_of_some _ (hx' b u n q);have lt:∀b u,s.heap.get? b=some u->b≠c'/\b≠h'.objs.size:=λb u q=>⟨Nat.ne_of_lt (Nat.lt_of_lt_of_le (Heap.lt_size q) hge),Nat.ne_of_lt (Nat.lt_of_lt_of_le (Heap.lt_size q) hsz)⟩;have htb':(h'.push fo).get? P=some (tabObj (ps++#[rawInt pos.line,rawInt pos.col,.ref c'])):=Heap.get?_push_of_some _ htb;refine k _ H1 _ (I.un (t':=tk) (h':=h'.push fo) ⟨λb u q n _ _=>keep b u (nP b n) q,λb u q n _ _=>⟨u.slots,keep b u (nP b n) q⟩,λb u q n _=>?_,λb u q _=>?_,λb xs q=>sm _ _ q,λb ob u q=>sm _ _ q,λb u q=>sm _ _ q⟩ λb u q=>?_) sm ⟨_,c',ctv,_,oc,_,ws,t,aD,H1c,hd,hv⟩
  ·show upd _ _ _ b=_;rw[aF (lt b u q).2,aF (lt b u q).1];exact n
  ·by_cases z:b=P
   ·subst z;exact⟨_,htb'⟩
   ·exact⟨u,keep b u z q⟩
  ·by_cases z1:b=h'.objs.size
   ·subst z1;have q':some (HO.frz fo (.own h'.objs.size))=some u:=by rw[←q];exact aD.symm
    cases q'
    exact⟨Heap.get?_push_size _ rfl,_,Heap.get?_push_size _ rfl⟩
   ·by_cases z2:b=c'
    ·subst z2;rw[H1c]at q;cases q;exact⟨Heap.get?_push_of_some _ hoc,_,Heap.get?_push_of_some _ hoc⟩
    ·have q':H b=some u:=by
      have:H1 b=H b:=by show upd _ _ _ b=_;rw[aF z1,aF z2]
      rw[←this];exact q
     by_cases z3:b=P
     ·subst z3;rw[hP]at q';cases q';refine⟨_,htb',?_,λpos' cv' ea=>?_⟩
      ·rw[Array.toList_append];exact TriplesOk_snoc _ _ _ _ tr
      ·rw[Array.toList_append]at ea;rcases vE _ tr ea with ea|rfl
       ·obtain⟨c3,oc3,u3,vs3,t3,y1,y2,y3⟩:=co pos' cv' ea;exact⟨c3,oc3,u3,vs3,t3,y1,sm _ _ y2,y3⟩
       ·exact⟨c',oc,_,ws,t,rfl,H1c,hd,hv⟩
     ·refine(I.hok b u q').stay (λd v hd' r=>keep d v ?_ r) (λd r=>sm _ _ r) (λd xs r=>sm _ _ r) λd ob v r=>sm _ _ r;rcases hd' with rfl|r
      ·exact z3
      ·intro z;rw[z,hP]at r;cases r
end
section
variable {P:Program}{w:World}{K:PySem.W.Frag}{mg:Str->Option Value}{base:Heap}
theorem Def.fnL {x:Str}{st:Stmt}{N ps:List Str}{k:Nat}{g:FS}{h:Heap}(F:Def K x st)(X:K.In h)(G:h.Ns mainGlobals mg)(S:FnScope N ps (aM st))
  (hbd:∀(kV doc pm:Value)(an:Option Addr)(cdv ct:Value)(us:List Value),us.length=ps.length->bindArgs (PySem.W.fnOf x x (eF st) (cf st) (aM st) .none kV doc pm an cdv ct) ⟨us,[]⟩=pure (ps.zip us))
  (hb:∀(f:Addr)(cdv:Value)(A:Around)(outer:List PySem.Env)(s:Shared)(H:Hp)(E:XK),(∀c P,tabIn K x=some (c,P)->cdv=.ref c)->Room k (A.deeper (envOfC x (aM st) s.heap.objs.size f cdv))->JSs (lB CX0 P w K mg base N x (aM st) f cdv A outer s H E).nox (cf st) g):
  Fn P w K mg base (k+1) x (aN g ps.length (N.length - ps.length)):=by
 obtain⟨f,fd,F1,a⟩:=F;have F2:=F1;obtain⟨oc,od,kV,doc,pm,an,cdv,ct,osl,rfl,lk,hcd⟩:=F2.ex;have hc:∀c P,tabIn K x=some (c,P)->cdv=.ref c:=λc P e=>by
  unfold tabIn at e;simp only[a,lk]at e;split at e
  ·rename_i c' _;split at e
   ·split at e
    ·cases e;rfl
    ·cases e
   ·cases e
  ·cases e
 have len:∀vs H Q E,spD K (aN g ps.length (N.length - ps.length)) vs H Q E->vs.length=ps.length:=λvs H Q E h=>by
  obtain⟨B,ds,d,b,sB,i,e,q⟩:=h;unfold aN at e;split at e
  ·rename_i hl;rw[i.length];exact hl
  ·cases e
 refine⟨f,_,ps,D0 lk hcd S len λA outer s H vs Q E hr h=>⟨_,PSs.nox (hb f cdv A outer s H E hc hr),?_⟩,PySem.W.mg_of X G a,F1.kp,F1.binds hbd⟩;have hlen:=len vs H Q E h;obtain⟨B,ds,d,b,sB,i,e,q⟩:=h;unfold aN at e;rw[if_pos (by rw[←i.length];exact hlen)]at e;have s0:=rZ (N:=N) sB.1 sB.2 i;rw[hlen]at s0;split at e
 ·rename_i d' b' eg;cases e
  exact⟨B,H,_,_,⟨B,s0⟩,eg,λv H' N' x' i' f'=>q v H' N' x' i' f'⟩
 ·rename_i ρ' eg;cases e
  exact⟨B,H,_,_,⟨B,s0⟩,eg,λσ' H' ⟨N',s'⟩=>q .non H' N' s'.ext .non (by simp)⟩
 ·cases e
end
inductive LCaps (X:Cx)(N':List Str)(scope:Scope)(cl:List (Str×Addr)):Nat->List Nat->Prop where
 |nil {j:Nat}(h:N'.length=j):LCaps X N' scope cl j []
 |cons {j i:Nat}{r:List Nat}{x:Str}(h1:N'[j]? = some x) (h2:X.N[i]? = some x) (h3:X.env.kindOf x=some .cell∨X.env.kindOf x=some .free)
   (h4:scope.names.lookup x=some .free) (h5:cl.lookup x=X.env.cells.lookup x) (t:LCaps X N' scope cl (j+1) r):LCaps X N' scope cl j (i::r)
theorem LCaps.len {X:Cx}{N':List Str}{scope:Scope}{cl:List (Str×Addr)}:∀ {j:Nat}{cap:List Nat},LCaps X N' scope cl j cap->N'.length=j+cap.length
 |_,_,.nil h=>by rw[h];rfl
 |j,i::r,.cons _ _ _ _ _ t=>by rw[t.len,List.length_cons];omega
theorem LCaps.get {X:Cx}{N':List Str}{scope:Scope}{cl:List (Str×Addr)}:∀ {j:Nat}{cap:List Nat}{k i:Nat},LCaps X N' scope cl j cap->cap[k]? = some i->∃x,N'[j+k]? = some x/\X.N[i]? = some x/\(X.env.kindOf x=some .cell∨X.env.kindOf x=some .free) /\
  scope.names.lookup x=some .free/\cl.lookup x=X.env.cells.lookup x
 |_,_,_,_,.nil _,e=>by simp at e
 |j,_,0,_,.cons h1 h2 h3 h4 h5 _,e=>by simp at e;subst e;exact⟨_,h1,h2,h3,h4,h5⟩
 |j,_,k+1,i,.cons _ _ _ _ _ t,e=>by
  obtain⟨x,q,r⟩:=t.get (k:=k) (i:=i) (by simpa using e);exact⟨x,by rw[show j+(k+1)=j+1+k by omega];exact q,r⟩
noncomputable abbrev tF (X:Cx)(N':List Str)(scope:Scope)(cl:List (Str×Addr))(q:Str)(A:Around)(f c:Addr)(s:Shared)(H:Hp):Cx :=
 { X with A:=A.deeper (envX q scope s.heap.objs.size f (.ref c) cl),N:=N',s₀:=s,H₀:=H,env:=envX q scope s.heap.objs.size f (.ref c) cl,outer:=X.stack,stack:=envX q scope s.heap.objs.size f (.ref c) cl::X.stack,ex:=[],fn:=λ_=>false,calm:=true,pn:=[],xe:=λ_ _=>False }
structure LamSc (X:Cx)(scope:Scope)(cl:List (Str×Addr))(y:Str):Prop where
 clos:closureFor scope X.env=pure cl
 nocell:∀z∈scope.names,z.2≠.cell
 kind:scope.kind=.function
 co:scope.isCoroutine=false
 gen:scope.isGenerator=false
 par:scope.names.lookup y=some .local
 sub:∀x c,cl.lookup x=some c->X.env.cells.lookup x=some c
 has:∀x,scope.names.lookup x=some .free->∃c,cl.lookup x=some c
theorem wZ {X:Cx}{scope:Scope}{y:Str}(h1:∀z∈scope.names,z.2≠.cell)(h2:scope.kind=.function)(h3:scope.isCoroutine=false)(h3':scope.isGenerator=false)(hp:scope.names.lookup y=some .local)
  (h4':(scope.names.all λz=>!(z.2 == NameKind.free) || (X.env.cells.lookup z.1).isSome)=true):LamSc X scope (cO scope.names X.env.cells []) y:=by
 have h4:∀z∈scope.names,z.2=.free->(X.env.cells.lookup z.1).isSome=true:=λz hz e=>by
  have:=List.all_eq_true.mp h4' z hz;rw[e]at this;simpa using this
 exact⟨pb scope.names [] h4,h1,h2,h3,h3',hp,λx c e=>j8 scope.names [] (λy d q=>by cases q) e,λx h=>by
  have:=j9 (x:=x) scope.names [] (dO h) (h4 _ (dO h) rfl);exact Option.isSome_iff_exists.mp this⟩
section
variable {X:Cx}{pins:List (Addr×Obj)}{σ:St}{H:Hp}{s:Shared}{A:Around}{N':List Str}{scope:Scope}{cl:List (Str×Addr)}{q y:Str}{cap:List Nat}
theorem CD {f c:Addr}{v:V}{u:Value}{h₁:Heap}{tk:Nat}(S:LamSc X scope cl y)(N0:N'[0]? = some y)(cp:LCaps X N' scope cl 1 cap)(I:Inv X pins σ H s)(hA:A.frames=some X.stack)(hh:A.handled=none)(r:aS v u)
  (hns:h₁.Ns s.heap.objs.size (λx=>[(y,u)].reverse.lookup x)) (hk:∀b o,s.heap.get? b=some o->h₁.get? b=some o):
  Inv (tF X N' scope cl q A f c s H) [] (some v::o4 0 cap σ) H { s with heap:=h₁,toks:=tk }:=by
 have noA:∀b:Addr,b∉(tF X N' scope cl q A f c s H).ex:=λb z=>absurd (show b∈([]:List Addr)from z) (by simp);refine⟨⟨I.ok.mod,S.kind,rfl,rfl,Nat.le_refl _,λx z d e1 e2=>I.ok.inj x z d (S.sub _ _ e1) (S.sub _ _ e2),λx hx=>?_,(λx d e=>by cases e),λ_=>hh,Around.frames_deeper hA,.inr ⟨rfl,rfl⟩,λb z=>absurd z (noA b),I.bs,Nat.le_trans I.ok.bsz I.sz,λb _ _=>noA b,λb z=>absurd z (noA b),I.stack,I.stkFree⟩,
  rfl,I.bare,Un.kept hk,⟨_,hns,λi x v' e1 e2 e3=>?_⟩,λx d e=>?_,I.hok.fresh (Nat.le_refl _),λx d e=>I.freeC x d (S.sub _ _ e),λp hp=>absurd (show p∈([]:List (Addr×Obj))from hp) (by simp),I.hok.kept hk,?_⟩
 ·have hx':scope.names.lookup x=some .cell∨scope.names.lookup x=some .free:=hx;rcases hx' with hx'|hx'
  ·exact absurd rfl (S.nocell _ (dO hx'))
  ·exact S.has x hx'
 ·cases i with
  |zero=>
   have e1':N'[0]? = some x:=e1;rw[N0]at e1';cases e1';have e2':some v=some v':=by simpa using e2
   cases e2'
   exact⟨u,r,.inl ⟨S.par,by simp⟩⟩
  |succ k=>
   have e2':(o4 0 cap σ)[k]? = some (some v'):=by simpa using e2
   obtain⟨k',i',hk',g1,g2⟩:=qx e2';have:k=k':=by omega
   subst this;obtain⟨x',n1,n2,n3,n4,n5⟩:=cp.get g1;have:x'=x:=by
    have e1':N'[k+1]? = some x:=e1;rw[show 1+k=k+1 by omega]at n1;rw[n1]at e1';exact Option.some.inj e1'
   subst this;have g2':σ[i']? = some (some v'):=by
    cases z:σ[i']? with
    |none=>rw[z]at g2;cases g2
    |some w=>rw[z]at g2;cases w with
     |none=>cases g2
     |some w=>cases g2;rfl
   obtain⟨m,_,hl⟩:=I.loc;obtain⟨u',ru,lk⟩:=hl i' x' v' n2 g2' (by
    rcases n3 with n3|n3
    ·exact .inr (.inl n3)
    ·exact .inr (.inr n3))
   refine⟨u',ru,.inr ⟨.inr n4,?_⟩⟩;rcases lk with⟨l1,_⟩|⟨_,d,l2,l3⟩
   ·rcases n3 with n3|n3<;>(rw[l1]at n3;cases n3)
   ·obtain⟨ob,ho,hd⟩:=l3;exact⟨d,by show cl.lookup x'=_;rw[n5];exact l2,ob,hk _ _ ho,hd⟩
 ·obtain⟨w,ob,ho,hd⟩:=I.cell x d (S.sub _ _ e);exact⟨w,ob,hk _ _ ho,hd⟩
 ·have:=cp.len;show(some v::o4 0 cap σ).length=N'.length;unfold o4;rw[this];simp;omega
theorem CF {f:Addr}{params:Arguments}{body:Expr}{fb:FE}{B:Hp}{ρ:Env}{v:V}{u:Value}{d d':D}{b':Bool}{Q:VK}(S:LamSc X scope cl y)(N0:N'[0]? = some y)(cp:LCaps X N' scope cl 1 cap)(I:Inv X pins σ H s)
  (hA:A.frames=some X.stack) (hh:A.handled=none) (hroom:A.depth<recursionLimit) (lv:Az H f q params body scope cl)
  (hbind:∀pm c ctv u,bindArgs (kla_fn "<lambda>" q params body scope cl pm (.ref c) ctv) ⟨[u],[]⟩=pure [(y,u)])
  (hb:∀(f c:Addr)(s:Shared)(H:Hp),JE (tF X N' scope cl q A f c s H) body fb)
  (rep:RepE X.K B σ ρ) (sB:aO B H) (r:aS v u) (i:Is X.K B v d) (e:fb (some (d,false)::bS 0 cap ρ)=some (d',b')) (qf:Fin X.K B H d' b' Q):
  wpAny (model X.prog X.w) A (call (.ref f) [u]) (EP X pins σ Q) (λ_ _=>False) s:=by
 obtain⟨pm,c,ctv,uf,oc,u',ws,t,hf,hc,hd,hv⟩:=lv;have ho:=(I.hok f _ hf).1;have hoc:=(I.hok c _ hc).1;refine wpAny_call (codeAny_mono (R:=λr s'=>CR CX0 X.stack X.prog X.w H s Q (λ_ _ _=>False) r s') ?_ λr s' hq=>?_)
 ·refine kla_callFunE hroom ho rfl S.co S.gen rfl ⟨c,oc,ws,t,rfl,hoc,hd,hv⟩ ?_;rw[hbind];refine wY (wpAny_newFunctionEnv S.nocell (λz hz=>by rw[List.mem_singleton.mp hz];exact S.par) (λh₁ hns hsb=>⟨I.nolimit.fresh _ hsb,?_⟩) S.kind);have hk₁:∀b o,s.heap.get? b=some o->h₁.get? b=some o:=λb o e=>hsb.extBut b o (Nat.ne_of_lt (Heap.lt_size e)) (Heap.get?_push_of_some _ e);have J:=CD (f:=f) (c:=c) (q:=q) (tk:=s.toks+1) S N0 cp I hA hh r hns hk₁;refine kla_codeExpr (wpAny_mono (hb f c s H [] _ _ H Q J ⟨B,_,d',b',sB,⟨rep.tb,λj e0 b0 z=>?_⟩,e,qf⟩) (λw s' hw=>?_) λ_ _ z=>z.elim)
  ·cases j with
   |zero=>
    have z':some (d,false)=some (e0,b0):=by simpa using z
    cases z'
    exact⟨v,rfl,i⟩
   |succ j=>
    obtain⟨w,h1,h2⟩:=(rep.caps (nT:=0) (cap:=cap)).at' j e0 b0 (by simpa using z);exact⟨w,by simpa using h1,h2⟩
  ·obtain⟨v',H',J',rv,qv⟩:=hw;exact⟨v',H',J'.os,J'.bare,J'.base,J'.hok,rv,qv⟩
 ·cases r with
  |error e=>exact False.elim hq
  |ok fl=>
   cases fl with
   |ret w=>exact I.after hq
   |next=>exact False.elim hq
   |brk=>exact False.elim hq
   |cont=>exact False.elim hq
end
end DL
namespace DL
open PySem PySem.Spec PySem.W PyProof.Rows L2
section
variable {X:Cx}{pins:List (Addr×Obj)}{σ:St}{H:Hp}{s:Shared}{h':Heap}{t':Nat}
theorem kJ {p:Addr}{o:Obj}(I:Inv X ((p,o)::pins) σ H s):∀x c,X.env.cells.lookup x=some c->c≠p:=λx c e z=>by
 have pf:=I.pin (p,o) (mY _ mX);obtain⟨v,ob,ho,hd⟩:=I.cell x c e;rw[z,pf.1]at ho;cases ho;exact pf.2.2.2.2 v hd
theorem iC {p:Addr×Obj}(I:Inv X (p::pins) σ H s):Inv X pins σ H s:=I.pins_of λq hq=>I.pin q (mY _ (mZ _ hq))
theorem eW {p:Addr}{o o':Obj}(I:Inv X ((p,o)::pins) σ H s)(h0:X.s₀.heap.objs.size<=p)(hp:∀q∈X.pn++pins,q.1≠p)(k:∀b u,b≠p->s.heap.get? b=some u->h'.get? b=some u)(e':h'.get? p=some o')(nc:∀v,o'.data≠.cell v):
  Inv X ((p,o')::pins) σ H { s with heap:=h',toks:=t' }:=by
 have pf:=I.pin (p,o) (mY _ mX);have J:=(iC I).turned (t':=t') k pf.2.1 pf.2.2.1 (.inr h0) (kJ I) hp;refine J.pins_of λq hq=>?_;rcases List.mem_cons.mp hq with rfl|hq
 ·exact⟨e',pf.2.1,pf.2.2.1,pf.2.2.2.1,nc⟩
 ·exact J.pin q (mY _ hq)
theorem lM {p:Addr}{o:Obj}(I:Inv X pins σ H s)(k:∀b u,s.heap.get? b=some u->h'.get? b=some u)(hs:s.heap.objs.size<=p)(e':h'.get? p=some o)(nc:∀v,o.data≠.cell v):Inv X ((p,o)::pins) σ H { s with heap:=h',toks:=t' }:=by
 have J:=I.kept (t':=t') k;refine J.pins_of λq hq=>?_;rcases List.mem_cons.mp hq with rfl|hq
 ·exact⟨e',I.hok.fresh hs,Nat.ne_of_gt (Nat.lt_of_lt_of_le I.lt hs),I.nofs hs,nc⟩
 ·exact J.pin q (mY _ hq)
theorem CG {p:Addr}{o:Obj}{ob:HO}(I:Inv X ((p,o)::pins) σ H s)(h0:X.s₀.heap.objs.size<=p)(hp:∀q∈X.pn++pins,q.1≠p)(k:∀b u,b≠p->s.heap.get? b=some u->h'.get? b=some u)(eo:∃u,h'.get? p=some u)
  (new:b8 X.prog X.w (upd H p ob) h' p ob):Inv X pins σ (upd H p ob) { s with heap:=h',toks:=t' }:=by
 have pf:=I.pin (p,o) (mY _ mX);have hn:=pf.2.1;have hn:H p=none:=hn;have cs:=kJ I;refine(iC I).step (g':=s.gens) (d':=s.drawn) (ch:=[p]) (λb hb=>?_) (λb u _ _ hc e _=>k b u (λz=>hc (by simp[z])) e) (λb u _ _ hc e _=>⟨u.slots,k b u (λz=>hc (by simp[z])) e⟩) (λb u hc _ n=>by rw[aF (λz=>hc (by simp[z]))];exact n)
  (λb u hc e=>⟨u,k b u (λz=>hc (by simp[z])) e⟩) (λb xs e=>by rw[aF (aR e hn)];exact e) (λb u w e=>by rw[aF (aR e hn)];exact e) (λb q e=>by rw[aF (aR e hn)];exact e) (λm hm=>?_) (λb u e=>?_) I.bare
 ·have z:b=p:=by simpa using hb
  subst z;exact⟨.inr h0,pf.2.2.1,cs,hp⟩
 ·obtain⟨ol,es,ep,ho,r⟩:=hm;exact⟨ol,es,ep,k _ ol (λz=>pf.2.2.1 z.symm) ho,r⟩
 ·by_cases z:b=p
  ·subst z;rw[aD]at e;cases e;exact new
  ·rw[aF z]at e;refine(I.hok b u e).stay (λc v hc q=>k c v ?_ q) (λc q=>?_) (λc xs q=>?_) λc w xs q=>?_
   ·rcases hc with rfl|hc
    ·exact z
    ·exact aR hc hn
   ·rw[aF (aR q hn)];exact q
   ·rw[aF (aR q hn)];exact q
   ·rw[aF (aR q hn)];exact q
end
def A1 (X:Cx)(A:Around)(σ:St)(qv:Value)(B H1:Hp)(kf:D->Option D):Prop :=
 ∀(pins:List (Addr×Obj))(s:Shared)(H N:Hp)(v:V)(u:Value)(d d':D),Inv X pins σ H s->aO H1 H->aO B N->aO N H->Is X.K N v d->aS v u->kf d=some d' ->
  wpAny (model X.prog X.w) A (call qv [u]) (EP X pins σ λv' H'=>∃N',Ext N N' H H'/\Is X.K N' v' d') (λ_ _=>False) s
def JK (X:Cx)(A:Around)(e:Expr)(kf:Env->D->Option D):Prop:=∀(pins:List (Addr×Obj))(s:Shared)(σ:St)(H B:Hp)(ρ:Env)(Q:Value->Shared->Prop)(E:Value->Shared->Prop),Inv X pins σ H s->aO B H->RepE X.K B σ ρ ->
 (∀qa H1 s1,Inv X pins σ H1 s1->aO H H1->A1 X A σ (.ref qa) B H1 (kf ρ)->Q (.ref qa) s1)->wpAny (model X.prog X.w) X.A (eval e X.env) Q E s
section
variable {X:Cx}{A:Around}
@[simp] noncomputable def mC (cap:List Nat)(fb:FE):Env->D->Option D:=λρ d=>(fb (some (d,false)::bS 0 cap ρ)).map (·.1)
theorem qQ {x y:Str}{params:Arguments}{body:Expr}{scope:Scope}{pos:Pos}{N':List Str}{cap:List Nat}{fb:FE}(hx:x∈j6)(L:mB X.K x)(hc:∀c P,tabIn X.K x=some (c,P)->X.env.code=.ref c)(hq:X.env.qual ++ "<lambda>" = lW x)
  (hdef:defaultsOf params X.env=([],[])) (S:LamSc X scope (cO scope.names X.env.cells []) y) (N0:N'[0]? = some y) (cp:LCaps X N' scope (cO scope.names X.env.cells []) 1 cap) {k:Nat}(hA:A.frames=X.A.frames) (hr:Room (k+1) A)
  (hbind:∀pm c ctv u,bindArgs (kla_fn "<lambda>" (lW x) params body scope (cO scope.names X.env.cells []) pm (.ref c) ctv) ⟨[u],[]⟩=pure [(y,u)])
  (hb:∀(f c:Addr)(s:Shared)(H:Hp),Room k (tF X N' scope (cO scope.names X.env.cells []) (lW x) A f c s H).A->JE (tF X N' scope (cO scope.names X.env.cells []) (lW x) A f c s H) body fb):JK X A (.Lambda params body scope pos) (mC cap fb):=by
 intro pins s σ H B ρ Q E I sB rep kk;refine A0 hx L hc hq hdef S.clos I (rep.tb.mono sB) λf H1 s1 I1 sm lv=>kk f H1 s1 I1 sm ?_;intro pins' s' H' N v u d d' I' m1 m2 m3 iv r e;simp only[mC]at e;obtain⟨⟨d2,b2⟩,e1,e2⟩:=oY e;cases e2
 exact CF S N0 cp I' (hA.trans I'.ok.frames) hr.hd hr.depth (lv.mono m1) hbind (λf c s H=>hb f c s H (hr.deeper _)) (rep.mono m2) m3 r iv e1 λv' H2 N2 x2 i2 _=>⟨N2,x2,i2⟩
@[simp] noncomputable def o9 (g:List D->Option (D×Bool)):Env->D->Option D:=λ_ d=>(g [d]).map (·.1)
theorem xc {k:Nat}{x:Str}{g:List D->Option (D×Bool)}{p:Pos}(F:Fn X.prog X.w X.K X.mg X.base k x g)(hr:Room k A)(hA:A.frames=X.A.frames)(hg:Gl X x:=by rfl)(hdb:(x == ("__debug__" : Str))=false:=by decide):JK X A (.Name x p) (o9 g):=by
 intro pins s σ H B ρ Q E I sB rep kk;obtain⟨ad,fd,ps,F1,hm,hk,hb⟩:=F.ex;refine qh I hg hm ?_ hdb;refine kk ad H s I (.refl H) ?_;intro pins' s' H' N v u d d' I' m1 m2 m3 iv r e;simp only[o9]at e;obtain⟨⟨d2,b2⟩,e1,e2⟩:=oY e;cases e2
 have sp:spD X.K g [v] H' (λv' H2=>∃N',Ext N N' H' H2/\Is X.K N' v' d2) (λ_ _ _=>False):=⟨N,[d],d2,b2,⟨m3,rep.tb.mono m2⟩,.cons iv .nil,e1,λv' H2 N2 x2 i2 _=>⟨N2,x2,i2⟩⟩;have hl:[u].length=ps.length:=by have:=F1.len _ _ _ _ sp;simpa using this
 have e0:=I'.env0;have bb:=hb s' [u] I'.kIn (by simpa using hl);rw[List.append_nil]at bb;refine wpAny_call (codeAny_mono (F1.run A X.stack s' H' ⟨[u],[]⟩ [u] [v] _ (λ_ _ _=>False) hr ⟨hA.trans e0.frames,e0.mod,e0.bs,e0.bsz,e0.funs,e0.frf,e0.hok,e0.bare⟩ bb (.cons r .nil) sp) λr s' hq=>?_);cases r with
 |error e=>exact False.elim hq
 |ok fl=>
  cases fl with
  |ret w=>exact I'.after hq
  |next=>exact False.elim hq
  |brk=>exact False.elim hq
  |cont=>exact False.elim hq
end
noncomputable def gO (f:D->Option D):List D->Option (List D)
 |[]=>some []
 |d::ds=>(f d).bind λx=>(gO f ds).map (x :: ·)
theorem fH {f:D->Option D}:∀ {ds ks:List D},gO f ds=some ks->ks.length=ds.length
 |[],_,h=>by simp only[gO]at h;cases h;rfl
 |d::ds,_,h=>by
  simp only[gO]at h;obtain⟨a,h1,h⟩:=oX h;obtain⟨r,h2,h⟩:=oY h;subst h;simp[fH h2]
theorem jI {f:D->Option D}:∀ {ds ks:List D},gO f ds=some ks->∀ {i:Nat}{d:D},ds[i]? = some d->∃k,ks[i]? = some k/\f d=some k
 |[],_,h,i,d,e=>by simp at e
 |d::ds,_,h,0,e,q=>by
  simp only[gO]at h;obtain⟨a,h1,h⟩:=oX h;obtain⟨r,h2,h⟩:=oY h;subst h;simp at q;subst q;exact⟨a,by simp,h1⟩
 |d::ds,_,h,i+1,e,q=>by
  simp only[gO]at h;obtain⟨a,h1,h⟩:=oX h;obtain⟨r,h2,h⟩:=oY h;subst h;obtain⟨k,z1,z2⟩:=jI h2 (i:=i) (d:=e) (by simpa using q);exact⟨k,by simpa using z1,z2⟩
structure KK (X:Cx)(A:Around)(kd:List D->Option (List (List At)))(ok:List (List At)->Bool):Prop where
 len:∀ {ds:List D}{ks:List (List At)},kd ds=some ks->ks.length=ds.length
 ask:∀ {pins:List (Addr×Obj)}{σ:St}{H:Hp}{s:Shared}(_:Inv X pins σ H s) {ys:List V}{ds:List D}{ks:List (List At)}{its:List Value},aQ ys its->IsL X.K H ys ds->kd ds=some ks->ok ks=true->cy ks=true ->
  (0<ks.length->∀ {E:Value->Shared->Prop}{Q:SortKind->Shared->Prop},Q (tuples' true) s->wpAny (model X.prog X.w) A (keyKind' its.toArray) Q E s) /\
  ∀(i j:Nat)(C:Bool->Shared->Prop)(s1:Shared),i<ks.length->j<ks.length->s1=s->(∀s',s'=s->C (ltR (rkK ks) i j) s')->kas_ask X.prog X.w A (tuples' true) its i j C s1
theorem A2 {X:Cx}{A:Around}:KK X A cA cz:=⟨d9,λI _ _ _ _ r i e hf hc=>have hp:=jH I r i e;⟨λhn _ _ q=>tz hp hf hn q,wT hc hp⟩⟩
section
variable {X:Cx}{pins:List (Addr×Obj)}{σ:St}{s:Shared}
theorem pA {x:V}{u:Value}(r:aS x u):∀ {vs:List V}{us:List Value},aQ vs us->aQ (vs++[x]) (us++[u])
 |_,_,.nil=>.cons r .nil
 |_,_,.cons h t=>.cons h (pA r t)
theorem cC {c:Value}{od:Option Addr}{its:Array Value}{n:Nat}{sl:Array (Option Value)}:∀v,(Obj.mk c od (.seq its n) sl).data≠.cell v:=λv z=>by cases z
theorem vF {A:Around}{E:Value->Shared->Prop}{a:Addr}{n:Nat}{qv:Value}{its:List Value}{vs:List V}{ds kds:List D}{ks:List (List At)}{B H:Hp}{kf:D->Option D}{P:PySem.Fin->Shared->Prop}
  (I:Inv X ((a,seqObj "list" its.toArray n)::pins) σ H s) (h0:X.s₀.heap.objs.size<=a) (hp:∀q∈X.pn++pins,q.1≠a) (kfn:A1 X A σ qv B H kf) (rv:aQ vs its) (iv:IsL X.K B vs ds) (sB:aO B H)
  {kd:List D->Option (List (List At))}{ok:List (List At)->Bool}(M:KK X A kd ok) (em:gO kf ds=some kds) (ek:kd kds=some ks) (hc:cy ks=true) (hf:ok ks=true) (h64:its.length<64)
  (h:∀(p:Array Nat)(s':Shared)(H' N:Hp),Arr its.length p->Up (rkK ks) p its.length->Inv X pins σ (upd H' a (.lst (p.toList.map λi=>vs.getD i .non))) s'->Ext B N H H'->H' a=none->P (.done (.ret .none)) s'):
  wpAny (model X.prog X.w) A (ksk_tree a qv false) P E s:=by
 have pa:=I.pin (a,seqObj "list" its.toArray n) (mY _ mX)
 have hvl:vs.length=its.length:=rv.length
 have hdl:ds.length=vs.length:=iv.length.symm
 have hkd:kds.length=ds.length:=fH em
 have hks:ks.length=kds.length:=M.len ek
 have hz:its.length<=sizeLine:=by rw[sizeLine_eq];omega
 have hna:H a=none:=pa.2.1
 obtain⟨e1,ho1⟩:∃e1,(s.heap.update a (Obj.mapSeq λ_=>(#[]:Array Value))).get? a=some (seqObj "list" #[] e1):=⟨_,get?_update_seq pa.1 λ_=>#[]⟩
 have u1:=Heap.SameBut.update s.heap a (Obj.mapSeq λ_=>(#[]:Array Value))
 have I1:Inv X ((a,seqObj "list" #[] e1)::pins) σ H { s with heap:=s.heap.update a (Obj.mapSeq λ_=>(#[]:Array Value)) }:=eW (t':=s.toks) I h0 hp (λb u n q=>(u1.2 b n).trans q) ho1 cC
 let h2:Heap:=(s.heap.update a (Obj.mapSeq λ_=>(#[]:Array Value))).push (seqObj "tuple" its.toArray 0)
 have I2:Inv X ((a,seqObj "list" #[] e1)::pins) σ H { s with heap:=h2 }:=I1.kept (t':=s.toks) λb u q=>Heap.get?_push_of_some _ q
 let kS:Addr:=h2.objs.size
 have I3:Inv X ((kS,seqObj "list" #[] 0)::(a,seqObj "list" #[] e1)::pins) σ H { s with heap:=h2.push (seqObj "list" #[] 0) }:=lM (s:={ s with heap:=h2 }) (t':=s.toks) I2 (λb u q=>Heap.get?_push_of_some _ q) (Nat.le_refl _) (Heap.get?_push_size _ rfl) cC
 have k0:X.s₀.heap.objs.size<=kS:=I2.sz
 have kp:∀q∈X.pn++((a,seqObj "list" #[] e1)::pins),q.1≠kS:=λq hq=>Nat.ne_of_lt (Heap.lt_size (I2.pin q hq).1)
 have kna:kS≠a:=λz=>kp (a,seqObj "list" #[] e1) (mY _ mX) z.symm
 unfold ksk_tree
 refine wX (listItems_at pa.1 rfl ?_)
 refine wX (listUpdate_at pa.1 rfl ?_ (by simpa using hz) (Nat.zero_le _))
 refine wX (seqEpoch_at ho1 rfl ?_)
 refine wX (wpAny_newTuple ?_ (by show its.length<=sizeLine;exact hz))
 refine wX (wpAny_newList ?_ (Nat.zero_le _))
 refine wpAny_holding ?_
 show wpAny (model X.prog X.w) A (ksk_rest a qv false its.toArray e1 (.ref kS)) P E { s with heap:=h2.push (seqObj "list" #[] 0) }
 unfold ksk_rest
 refine wX (wpAny_rule ?_)
 rw[List.forIn_toArray]
 refine wX (ksk_fold (λi s'=>∃(H' N:Hp)(kA:Array Value)(e:Nat)(kvs:List V),Inv X ((kS,seqObj "list" kA e)::(a,seqObj "list" #[] e1)::pins) σ H' s'/\Ext B N H H'/\aQ kvs kA.toList/\IsL X.K N kvs (kds.take i)) its 0 _
  ⟨H,B,#[],0,[],I3,.refl sB,.nil,by simpa using IsL.nil⟩ ?step ?done)
 case step=>
  rintro j u s' hu ⟨H',N,kA,e,kvs,J,x1,rk,ik⟩
  simp only[Nat.zero_add]at ik ⊢
  have hj:j<its.length:=(List.getElem?_eq_some_iff.mp hu).1
  obtain⟨d,hd⟩:∃d,ds[j]? = some d:=⟨_,List.getElem?_eq_getElem (by omega)⟩
  obtain⟨v,hv,iv'⟩:=iv.get hd
  obtain⟨kd,hkj,hkf⟩:=jI em hd
  obtain⟨u',hu',ru⟩:=rv.get hv
  rw[hu]at hu';cases hu'
  have kl:kA.size=j:=by
   have z1:=rk.length
   have z2:=ik.length
   rw[List.length_take]at z2
   rw[Array.length_toList]at z1
   exact z1.symm.trans (z2.trans (Nat.min_eq_left (by omega)))
  refine wX (wpAny_attempt (wpAny_mono (kfn _ s' H' N v u d kd J x1.hh x1.bn x1.nh (iv'.mono x1.bn) ru hkf) (λw s'' hw=>?_) λ_ _ hF=>hF.elim))
  obtain⟨v',H'',J',rv',N',x2,i2⟩:=hw
  have pk:=J'.pin (kS,seqObj "list" kA e) (mY _ mX)
  obtain⟨c2,hc2⟩:∃c2,(s''.heap.update kS (Obj.mapSeq (·.push w))).get? kS=some (seqObj "list" (kA.push w) c2):=⟨_,get?_update_seq pk.1 (·.push w)⟩
  have u2:=Heap.SameBut.update s''.heap kS (Obj.mapSeq (·.push w))
  refine wX (listUpdate_at pk.1 rfl ?_ (by rw[sizeLine_eq];omega) (Nat.le_trans (Nat.le_of_eq (Array.size_push ..)) (by rw[sizeLine_eq];omega)))
  refine wY ⟨rfl,H'',N',kA.push w,c2,kvs++[v'],eW (t':=s''.toks) J' k0 kp (λb q n z=>(u2.2 b n).trans z) hc2 cC,x1.trans x2,?_,?_⟩
  ·rw[Array.toList_push];exact pA rv' rk
  ·rw[List.take_add_one,hkj];exact(ik.mono x2.bn).append (.cons i2 .nil)
 case done=>
  rintro s' ⟨H',N,kA,e,kvs,J,x1,rk,ik⟩
  have ik':IsL X.K N kvs kds:=by
   have z:kds.take (0+its.length)=kds:=List.take_of_length_le (by omega)
   rw[z]at ik;exact ik
  have pk:=J.pin (kS,seqObj "list" kA e) (mY _ mX)
  have pa':=J.pin (a,seqObj "list" #[] e1) (mY _ (mZ _ mX))
  have hn':H' a=none:=pa'.2.1
  have kz:kA.toList.length=its.length:=by rw[←rk.length,ik'.length];omega
  have kz':kA.size=its.length:=by rw[←Array.length_toList];exact kz
  refine wX (listItems_at pk.1 rfl ?_)
  have hkp:=M.ask J rk (ik'.mono x1.nh) ek hf hc
  -- the end of the sort,for a permutation p
  have ends:∀(st:SortSt)(p:Array Nat),arrOf st=p.map (kas_item (kA.toList.toArray.zip its.toArray))->failedOf st=none->Arr its.length p->Up (rkK ks) p its.length ->
    wpAny (model X.prog X.w) A (ksk_tail a false e1 (.ref kS) st) P E s':=λst p ea ef ap up=>by
   have eo:(arrOf st).map (·.2)=List.toArray (p.toList.map λi=>its.getD i Value.none):=kat_snds kz ea
   have hin:∀i∈p.toList,i<vs.length:=λi hi=>by
    have:=List.mem_range.mp (ap.perm.mem_iff.mp hi)
    omega
   obtain⟨c3,hc3⟩:∃c3,(s'.heap.update kS (Obj.mapSeq λ_=>(#[]:Array Value))).get? kS=some (seqObj "list" #[] c3):=⟨_,get?_update_seq pk.1 λ_=>#[]⟩
   have u3:=Heap.SameBut.update s'.heap kS (Obj.mapSeq λ_=>(#[]:Array Value))
   have J3:=iC (eW (t':=s'.toks) J k0 kp (λb q n z=>(u3.2 b n).trans z) hc3 cC)
   have pa3:=J3.pin (a,seqObj "list" #[] e1) (mY _ mX)
   obtain⟨c4,hc4⟩:∃c4,((s'.heap.update kS (Obj.mapSeq λ_=>(#[]:Array Value))).update a (Obj.mapSeq λ_=>(arrOf st).map (·.2))).get? a=some (seqObj "list" ((arrOf st).map (·.2)) c4):=⟨_,get?_update_seq pa3.1 λ_=>(arrOf st).map (·.2)⟩
   have u4:=Heap.SameBut.update (s'.heap.update kS (Obj.mapSeq λ_=>(#[]:Array Value))) a (Obj.mapSeq λ_=>(arrOf st).map (·.2))
   have so:((arrOf st).map (·.2)).size=its.length:=by rw[eo];simp only[List.size_toArray,List.length_map,Array.length_toList,ap.size]
   unfold ksk_tail
   try dsimp only
   refine wX (listUpdate_at pk.1 rfl ?_ (by rw[kz',sizeLine_eq];omega) (Nat.zero_le _))
   refine wX (wpAny_letGo ?_)
   refine wX (seqEpoch_at pa3.1 rfl ?_)
   refine wX (listUpdate_at pa3.1 rfl ?_ (Nat.zero_le _) (by simp only[Bool.false_eq_true,if_false];rw[so,sizeLine_eq];omega))
   rw[ef]
   simp only[bne_self_eq_false,Bool.false_eq_true,if_false]
   refine wY (h p _ H' N ap up (CG (s:={ s' with heap:=s'.heap.update kS (Obj.mapSeq λ_=>(#[]:Array Value)) }) (t':=s'.toks) J3 h0 hp (λb q n z=>(u4.2 b n).trans z) ⟨_,hc4⟩ ?_) x1 hn')
   refine⟨by rw[List.length_map,Array.length_toList,ap.size];exact hz,p.toList.map λi=>its.getD i Value.none,c4,kI rv p.toList hin,?_⟩
   rw[←eo];exact hc4
  unfold ksk_end
  try dsimp only
  simp only[Bool.false_eq_true,if_false]
  have ekA:kA=kA.toList.toArray:=by simp
  by_cases h2':its.toArray.size<2
  ·rw[if_pos h2',if_pos h2']
   refine wX (wY ?_)
   rw[StateT.run_pure]
   refine wX (wY ?_)
   have hsm:its.length<2:=by simpa using h2'
   refine ends _ (List.toArray (List.range its.length)) ?_ rfl ⟨by simp,by simp⟩ ?_
   ·show kA.zip its.toArray=_
    have:=kas_range (kA.toList.toArray.zip its.toArray)
    rw[show(kA.toList.toArray.zip its.toArray).size=its.length by simp[kz']]at this
    rw[this]
   ·intro i j hij hj
    have:i=j:=by omega
    subst this;exact Int.le_refl _
  ·rw[if_neg h2',if_neg h2']
   have h2'':2<=its.length:=by simp at h2';omega
   rw[ekA]
   refine wX (hkp.1 (by omega) ?_)
   obtain⟨p,r1,r2,r3⟩:=tu (n:=its.length) (rk:=rkK ks) (by omega)
   refine wX (wpAny_mono (kat_run (E:=E) (ks:=kA.toList) (vs:=its) (κ:=tuples' true) (s:=s') (Q:=λst' s2=>s2=s'/\arrOf st'=p.map (kas_item (kA.toList.toArray.zip its.toArray))/\failedOf st'=none)
    (G:=λp' s2=>p'=p/\s2=s') kz h2'' h64 (λp' st' s2 _ e2 e3 e4=>by
     obtain⟨rfl,rfl⟩:=e4
     exact⟨rfl,e2,e3⟩) (Run.wp (λs2=>s2=s') (λi j C s2 hi hj e hC=>hkp.2 i j C s2 (by omega) (by omega) e hC) r1 rfl λs2 e=>⟨rfl,e⟩)) (λr s2 hr=>?_) λ_ _ z=>z)
   obtain⟨⟨⟩,st'⟩:=r
   obtain⟨rfl,e2,e3⟩:=hr
   exact ends st' p e2 e3 r2 r3
end
theorem tG {α β:Type}{f:α->β}:∀ {l:List α},(l.map f).Nodup->l.Nodup
 |[],_=>List.nodup_nil
 |a::l,h=>by
  rw[List.map_cons,List.nodup_cons]at h;exact List.nodup_cons.mpr ⟨λz=>h.1 (List.mem_map.mpr ⟨a,z,rfl⟩),tG h.2⟩
noncomputable def gu (ks:List (List At))(ds:List D):List D:=(cH (λp:List At×D=>bH p.1) (ks.zip ds)).map (·.2)
theorem A3 {α β:Type}(d:α)(e:β):∀ {l₁:List α}{l₂:List β},l₁.length=l₂.length->(List.range l₂.length).map (λi=>(l₁.getD i d,l₂.getD i e))=l₁.zip l₂:=λ{l₁ l₂} h=>by
 apply List.ext_getElem?;intro i;by_cases hi:i<l₂.length
 ·have hi':i<l₁.length:=by omega
  have:=(List.getElem?_zip_eq_some (z:=(l₁[i],l₂[i]))).mpr ⟨List.getElem?_eq_getElem hi',List.getElem?_eq_getElem hi⟩;rw[this];simp[hi,hi']
 ·simp[hi,h]
theorem CH {α β:Type}{l₁:List α}{l₂:List β}(nd:l₁.Nodup){a:α}{b c:β}(h1:(a,b)∈l₁.zip l₂)(h2:(a,c)∈l₁.zip l₂):b=c:=by
 obtain⟨i,hi⟩:=List.mem_iff_getElem?.mp h1;obtain⟨j,hj⟩:=List.mem_iff_getElem?.mp h2;obtain⟨i1,i2⟩:=List.getElem?_zip_eq_some.mp hi;obtain⟨j1,j2⟩:=List.getElem?_zip_eq_some.mp hj;obtain⟨li,ei⟩:=List.getElem?_eq_some_iff.mp i1;obtain⟨lj,ej⟩:=List.getElem?_eq_some_iff.mp j1;have:i=j:=(List.getElem_inj nd).mp (ei.trans ej.symm);subst this;rw[i2]at j2;exact Option.some.inj j2
theorem vG {ds:List D}{ks:List (List At)}{p:Array Nat}(hl:ks.length=ds.length)(hc:cy ks=true)(nd:ks.Nodup)(ap:Arr ds.length p)(up:Up (rkK ks) p ds.length):p.toList.map (λi=>ds.getD i .non)=gu ks ds:=by
 unfold gu;have e:p.toList.map (λi=>(ks.getD i [],ds.getD i .non))=cH (λp:List At×D=>bH p.1) (ks.zip ds):=by
  apply gs
  ·intro x hx y hy e;have mx:=(List.of_mem_zip hx).1;have my:=(List.of_mem_zip hy).1;have:=iR hc mx my e;obtain⟨k1,d1⟩:=x;obtain⟨k2,d2⟩:=y;have z:k1=k2:=this;subst z;rw[CH nd hx hy]
  ·have:=ap.perm.map (λi=>(ks.getD i [],ds.getD i D.non));rw[A3 [] D.non hl]at this;exact this
  ·rw[List.pairwise_iff_getElem];intro i j hi hj hij;have hsz:=ap.size;have hi':i<p.size:=by simpa using hi
   have hj':j<p.size:=by simpa using hj
   have:=up i j (Nat.le_of_lt hij) (by omega);unfold bN rkK at this;have gi:p.getD i 0=p[i]:=by rw[Array.getD_eq_getD_getElem?,Array.getElem?_eq_getElem hi'];rfl
   have gj:p.getD j 0=p[j]:=by rw[Array.getD_eq_getD_getElem?,Array.getElem?_eq_getElem hj'];rfl
   have lj:=ap.lt (k:=j) (by omega);have mj:ks.getD (p.getD j 0) []∈ks:=by
    have h':p.getD j 0<ks.length:=by omega
    rw[List.getD_eq_getElem?_getD,List.getElem?_eq_getElem h'];exact List.getElem_mem h'
   have nl:¬bH (ks.getD (p.getD j 0) [])<bH (ks.getD (p.getD i 0) []):=λz=>by
    have:=qO (cs:=ks.map bH) (List.mem_map.mpr ⟨_,mj,rfl⟩) z;omega
   simp only[List.getElem_map,Array.getElem_toList];unfold leF;rw[←gi,←gj];exact nl
 rw[←e,List.map_map];rfl
@[simp] noncomputable def qR (kd:List D->Option (List (List At)))(ok:List (List At)->Bool)(f:FE)(kf:Env->D->Option D):FE:=λρ=>(f ρ).bind λx=>match x.1 with
 |.lst ds=>(gO (kf ρ) ds).bind λkds=>(kd kds).bind λks=>if ks.length<64/\cy ks=true/\ok ks=true/\(ks.map bH).Nodup then some (.lst (gu ks ds),true)else none
 |_=>none
@[simp] noncomputable abbrev mD:FE->(Env->D->Option D)->FE:=qR cA cz
section
variable {X:Cx}{e ke:Expr}{p pos kp:Pos}
theorem A4 {kd:List D->Option (List (List At))}{ok:List (List At)->Bool}(M:KK X X.A.in1.in1 kd ok){f:FE}{kf:Env->D->Option D}(hm:X.mg "sorted" = none)(he:JE X e f)(hk:JK X X.A.in1.in1 ke kf)(hg:Gl X "sorted":=by rfl)
  (hes:starEach [e] X.env=[(false,eval e X.env)]:=by rfl) (heb:backTo pos (starEach [e] X.env)=(false,eval e X.env)::backTo pos (starEach [] X.env):=by rfl) (hpl:(backTo pos (starEach [e] X.env)).any (·.1)=false:=by rfl)
  (hall:(backToKw pos (keywordEach [⟨some "key",ke,kp⟩] X.env)).all (·.1.isSome)=true:=by rfl) (hkw:(backToKw pos (keywordEach [⟨some "key",ke,kp⟩] X.env)).any (·.1.isNone)=false:=by rfl)
  (hnm:(backToKw pos (keywordEach [⟨some "key",ke,kp⟩] X.env)).filterMap (·.1)=[("key" : Str)]:=by rfl):
  JE X (.Call (.Name "sorted" p) [e] [⟨some "key",ke,kp⟩] pos) (qR kd ok f kf):=by
 intro pins s σ H Q I h;obtain⟨B,ρ,d,b,sB,rep,ee,q⟩:=h;obtain⟨⟨xd,xb⟩,ex,ee⟩:=oX ee;cases xd<;>try (cases ee;done)
 rename_i ds;obtain⟨kds,em,ee⟩:=oX ee;obtain⟨ks,ek,ee⟩:=oX ee;split at ee
 ·rename_i hh;obtain⟨h64,hc,hf,nd⟩:=hh;cases ee
  refine wpAny_Call_Name_kw (jj I hg hm (u:=.builtin "sorted") rfl ?_);refine callWith_kw (thn ((fS he ig hes) pos pins s σ H (λvs H1=>∃v N,vs=[v]/\Ext B N H H1/\Is X.K N v (.lst ds)) I ⟨B,ρ,_,_,sB,rep,ex,λv H1 N x1 i1 _=>⟨v,N,rfl,x1,i1⟩⟩) λus s1 hA=>?_) heb hpl hall hkw;obtain⟨vs1,H1,I1,r1,v,N,rfl,x1,i1⟩:=hA;obtain⟨u,rfl,ru⟩:=fR r1;refine kws_cons (hk pins s1 σ H1 N ρ _ _ I1 x1.nh (rep.mono x1.bn) λqa H2 s2 I2 m2 kfn=>kws_nil ?_);rw[hnm];show wpAny _ _ (call (.builtin "sorted") [u] [(("key" : Str),.ref qa)]) _ _ _;cases i1
  rename_i l vs hq il;cases ru
  have sN:aO N H2:=x1.nh.trans m2;obtain⟨its,rv,pl,hz⟩:=I2.list (sN.seq hq);have hvl:vs.length=its.length:=rv.length;have hdl:ds.length=vs.length:=il.length.symm;have hkd:kds.length=ds.length:=fH em;have hks:ks.length=kds.length:=M.len ek;have h64':its.length<64:=by omega
  refine call_function_entry_kw kind_sorted plain_sorted entry_sorted (ksk_s1 _ _) ?_;unfold Builtin.«sorted»;refine wX (m:=checkCount "sorted" 1 1 _) (wY (wX (collect_list pl.isList (wX (wpAny_newList ?_ (by rw[sizeLine_eq];omega))) (by rw[sizeLine_eq];omega))));let h1:Heap:=(s2.heap.push (seqObj "list" #[] 0)).update s2.heap.objs.size (Obj.mapSeq (· ++ its.toArray));have hsz:h1.objs.size=s2.heap.objs.size+1:=by show(Heap.update _ _ _).objs.size=_;rw[Heap.size_update,size_push']
  have keep1:∀b o,s2.heap.get? b=some o->h1.get? b=some o:=λb o q=>(Heap.get?_update_ne _ _ _ _ (Nat.ne_of_lt (Heap.lt_size q))).trans (Heap.get?_push_of_some _ q);have I3:Inv X ((h1.objs.size,seqObj "list" its.toArray 0)::pins) σ H2 { s2 with heap:=h1.push (seqObj "list" its.toArray 0) } :=
   lM (t':=s2.toks) I2 (λb u q=>Heap.get?_push_of_some _ (keep1 b u q)) (by rw[hsz];exact Nat.le_succ _) (Heap.get?_push_size _ rfl) cC
  have p3:=I3.pin (h1.objs.size,seqObj "list" its.toArray 0) (mY _ mX);show wpAny (model X.prog X.w) X.A.in1 (holding [.ref h1.objs.size] (call (.builtin "list.sort") [.ref h1.objs.size] [(("key" : Str),.ref qa)])>>=_) _ _ { s2 with heap:=h1.push (seqObj "list" its.toArray 0) };refine wX (wpAny_holding (wpAny_call_entry_kw slot_list_sort ⟨_,p3.1,rfl⟩ entry_list_sort ?_ (ksk_l1 _ _)));show wpAny (model X.prog X.w) X.A.in1.in1 (Builtin.«list.sort» ⟨[.ref h1.objs.size],[(Str.ofString "key",.ref qa)]⟩) _ _ _;rw[ksk_t1];refine vF I3 (Nat.le_trans I2.sz (by rw[hsz];exact Nat.le_succ _)) (λq hq=>by rw[hsz];exact Nat.ne_of_lt (Nat.lt_succ_of_lt (Heap.lt_size (I2.pin q hq).1))) kfn rv il sN M em ek hc hf h64' λpm s' H' N' ap up J x3 hn=>⟨_,rfl,wY ⟨_,rfl,?_⟩⟩;have hpl:its.length=ds.length:=by omega
  rw[hpl]at ap up;have er:=vG (by omega) hc (tG nd) ap up;have hin:∀i∈pm.toList,i<ds.length:=λi hi=>List.mem_range.mp (ap.perm.mem_iff.mp hi);have ip:=m9 (il.mono x3.bn) pm.toList hin;rw[er]at ip;have x4:Ext B N' H H':=(x1.trans (.grow x1.nh m2)).trans x3;have hN:N' h1.objs.size=none:=x3.nh.free hn;have x5:=x4.trans (Ext.laid (o:=.lst (pm.toList.map λi=>vs.getD i .non)) x3.nh hn);exact⟨.ref h1.objs.size,_,J,rfl,q _ _ _ x5 (.lst (SqL.of aD) (ip.mono (Ext.laid (o:=.lst (pm.toList.map λi=>vs.getD i .non)) x3.nh hn).bn)) λ_=>⟨_,_,_,rfl,rfl,x4.hh.free hn,aD,ip.mono (Ext.laid (o:=.lst (pm.toList.map λi=>vs.getD i .non)) x3.nh hn).bn⟩⟩
 ·cases ee
end
section
variable {prog:Program}{w:World}{A:Around}{E:Value->Shared->Prop}{s:Shared}
theorem d3.type {xs:List At}{v:Value}(h:d3 s.heap xs v):s.TypeIs v "tuple":=by
 obtain⟨a,o,its,n,rfl,ho,hc,_⟩:=h;exact⟨o,ho,hc⟩
theorem A5 {xs ys:List At}{a b:Addr}{r:Bool}{P:PySem.Fin->Shared->Prop}(hx:d3 s.heap xs (.ref a))(hy:d3 s.heap ys (.ref b))(h:aJ xs ys=some r)(q:P (.done (.ret (.bool r))) s):wpAny (model prog w) A (Builtin.«tuple.__lt__» ⟨[.ref a,.ref b],[]⟩) P E s:=by
 have hTb:=hy.type;obtain⟨a',oa,its,na,ea,hoa,_,hda,ra⟩:=hx;obtain⟨b',ob,jts,nb,eb,hob,_,hdb,rb⟩:=hy;cases ea
 cases eb
 show wpAny _ _ (isInstance (.ref _) (.type "tuple")>>=_) _ _ s;refine wX (wpAny_isInstance hTb isSubtype_tuple_tuple ?_);simp only[Bool.not_true,Bool.false_eq_true,if_false];refine wX (wpAny_tupleItemsOf hoa hda ?_);refine wX (wpAny_tupleItemsOf hob hdb ?_);refine wX ?_;refine wpAny_forIn_list _
  (λay z s'=>z.1=none/\s'=s/\∃xs' ys' its' jts' n,ay=List.zip its' jts'/\Paired atV xs' its'/\Paired atV ys' jts'/\aJ xs' ys'=some r/\its'.length+n=its.size/\jts'.length+n=jts.size)
  _ ?_ ?_ _ _ ⟨rfl,rfl,xs,ys,its.toList,jts.toList,0,rfl,ra,rb,h,by simp,by simp⟩
 ·rintro⟨u,v⟩ ay z s' ⟨hz,rfl,xs',ys',its',jts',n,e,p1,p2,hl,n1,n2⟩;cases p1 with
  |nil=>simp at e
  |@cons x u' xs'' its'' r1 p1'=>
   cases p2 with
   |nil=>simp at e
   |@cons y v' ys'' jts'' r2 p2'=>
    simp only[List.zip_cons_cons,List.cons.injEq,Prod.mk.injEq]at e;obtain⟨⟨rfl,rfl⟩,rfl⟩:=e;cases x with
    |i i=>
     cases y with
     |s j=>simp[aJ]at hl
     |i j=>
      obtain⟨t,rfl⟩:=r1;obtain⟨t',rfl⟩:=r2;rw[aJ]at hl;refine wX (wpAny_eqBool_int ?_);by_cases hk:i=j
      ·rw[if_pos hk]at hl;rw[show(i == j)=true by simp[hk]];simp only[Bool.not_true,Bool.false_eq_true,if_false];exact wY ⟨rfl,rfl,xs'',ys'',its'',jts'',n+1,rfl,p1',p2',hl,by rw[←n1,List.length_cons];omega,by rw[←n2,List.length_cons];omega⟩
      ·rw[if_neg hk]at hl;cases hl
       rw[show(i == j)=false by simp[hk]];simp only[Bool.not_false,if_true];refine wX (wpAny_rule (wX (m:=richCompare .Lt (.int i t) (.int j t')) (wpAny_mono (show wpAny _ _ (richCompare .Lt (.int i t) (.int j t')) (λv s''=>v=.bool (decide (i<j))/\s''=s') E s' from PyProof.Rows.lt_int ⟨rfl,rfl⟩) (λv s'' hv=>?_) λ_ _ z=>z)));obtain⟨rfl,rfl⟩:=hv;exact wX (wY (wY (wY q)))
    |s i=>
     cases y with
     |i j=>simp[aJ]at hl
     |s j=>
      obtain⟨t,rfl⟩:=r1;obtain⟨t',rfl⟩:=r2;rw[aJ]at hl;refine wX (wpAny_eqBool_str ?_);by_cases hk:i=j
      ·rw[if_pos hk]at hl;rw[decide_eq_true hk];simp only[Bool.not_true,Bool.false_eq_true,if_false];exact wY ⟨rfl,rfl,xs'',ys'',its'',jts'',n+1,rfl,p1',p2',hl,by rw[←n1,List.length_cons];omega,by rw[←n2,List.length_cons];omega⟩
      ·rw[if_neg hk]at hl;cases hl
       rw[decide_eq_false hk];simp only[Bool.not_false,if_true];refine wX (wpAny_rule (wX (m:=richCompare .Lt (.str i t) (.str j t')) (wpAny_mono (show wpAny _ _ (richCompare .Lt (.str i t) (.str j t')) (λv s''=>v=.bool (decide (i.cps.toList<j.cps.toList))/\s''=s') E s' from PySem.P.lt_str ⟨rfl,rfl⟩) (λv s'' hv=>?_) λ_ _ z=>z)));obtain⟨rfl,rfl⟩:=hv;exact wX (wY (wY (wY q)))
 ·rintro⟨z1,z2⟩ s' ⟨hz,rfl,xs',ys',its',jts',n,e,p1,p2,hl,n1,n2⟩;simp only at hz;subst hz;refine wY ?_;have:decide (its.size<jts.size)=r:=by
   cases p1 with
   |nil=>
    cases p2 with
    |nil=>simp[aJ]at hl;subst hl;simp at n1 n2;simp;omega
    |cons _ _=>simp[aJ]at hl;subst hl;simp at n1 n2;simp;omega
   |cons _ _=>
    cases p2 with
    |nil=>simp[aJ]at hl;subst hl;simp at n1 n2;simp;omega
    |cons _ _=>simp at e
  show P (.done (.ret (.bool (decide (its.size<jts.size))))) s';rw[this];exact q
theorem A6 {xs ys:List At}{a b:Addr}{r:Bool}{P:PySem.Fin->Shared->Prop}(hx:d3 s.heap xs (.ref a))(hy:d3 s.heap ys (.ref b))(h:aJ ys xs=some r)(q:P (.done (.ret (.bool r))) s):wpAny (model prog w) A (Builtin.«tuple.__gt__» ⟨[.ref a,.ref b],[]⟩) P E s:=by
 have hTb:=hy.type;obtain⟨a',oa,its,na,ea,hoa,_,hda,ra⟩:=hx;obtain⟨b',ob,jts,nb,eb,hob,_,hdb,rb⟩:=hy;cases ea
 cases eb
 show wpAny _ _ (isInstance (.ref _) (.type "tuple")>>=_) _ _ s;refine wX (wpAny_isInstance hTb isSubtype_tuple_tuple ?_);simp only[Bool.not_true,Bool.false_eq_true,if_false];refine wX (wpAny_tupleItemsOf hoa hda ?_);refine wX (wpAny_tupleItemsOf hob hdb ?_);refine wX ?_;refine wpAny_forIn_list _
  (λay z s'=>z.1=none/\s'=s/\∃xs' ys' its' jts' n,ay=List.zip its' jts'/\Paired atV xs' its'/\Paired atV ys' jts'/\aJ ys' xs'=some r/\its'.length+n=its.size/\jts'.length+n=jts.size)
  _ ?_ ?_ _ _ ⟨rfl,rfl,xs,ys,its.toList,jts.toList,0,rfl,ra,rb,h,by simp,by simp⟩
 ·rintro⟨u,v⟩ ay z s' ⟨hz,rfl,xs',ys',its',jts',n,e,p1,p2,hl,n1,n2⟩;cases p1 with
  |nil=>simp at e
  |@cons x u' xs'' its'' r1 p1'=>
   cases p2 with
   |nil=>simp at e
   |@cons y v' ys'' jts'' r2 p2'=>
    simp only[List.zip_cons_cons,List.cons.injEq,Prod.mk.injEq]at e;obtain⟨⟨rfl,rfl⟩,rfl⟩:=e;cases x with
    |i i=>
     cases y with
     |s j=>simp[aJ]at hl
     |i j=>
      obtain⟨t,rfl⟩:=r1;obtain⟨t',rfl⟩:=r2;rw[aJ]at hl;refine wX (wpAny_eqBool_int ?_);by_cases hk:j=i
      ·rw[if_pos hk]at hl;rw[show(i == j)=true by simp[hk]];simp only[Bool.not_true,Bool.false_eq_true,if_false];exact wY ⟨rfl,rfl,xs'',ys'',its'',jts'',n+1,rfl,p1',p2',hl,by rw[←n1,List.length_cons];omega,by rw[←n2,List.length_cons];omega⟩
      ·rw[if_neg hk]at hl;cases hl
       rw[show(i == j)=false by simp;exact λz=>hk z.symm];simp only[Bool.not_false,if_true];refine wX (wpAny_rule (wX (m:=richCompare .Gt (.int i t) (.int j t')) (wpAny_mono (show wpAny _ _ (richCompare .Gt (.int i t) (.int j t')) (λv s''=>v=.bool (decide (j<i))/\s''=s') E s' from PyProof.Rows.gt_int ⟨rfl,rfl⟩) (λv s'' hv=>?_) λ_ _ z=>z)));obtain⟨rfl,rfl⟩:=hv;exact wX (wY (wY (wY q)))
    |s i=>
     cases y with
     |i j=>simp[aJ]at hl
     |s j=>
      obtain⟨t,rfl⟩:=r1;obtain⟨t',rfl⟩:=r2;rw[aJ]at hl;refine wX (wpAny_eqBool_str ?_);by_cases hk:j=i
      ·rw[if_pos hk]at hl;rw[decide_eq_true hk.symm];simp only[Bool.not_true,Bool.false_eq_true,if_false];exact wY ⟨rfl,rfl,xs'',ys'',its'',jts'',n+1,rfl,p1',p2',hl,by rw[←n1,List.length_cons];omega,by rw[←n2,List.length_cons];omega⟩
      ·rw[if_neg hk]at hl;cases hl
       rw[decide_eq_false λz=>hk z.symm];simp only[Bool.not_false,if_true];refine wX (wpAny_rule (wX (m:=richCompare .Gt (.str i t) (.str j t')) (wpAny_mono (show wpAny _ _ (richCompare .Gt (.str i t) (.str j t')) (λv s''=>v=.bool (decide (j.cps.toList<i.cps.toList))/\s''=s') E s' from PySem.P.gt_str ⟨rfl,rfl⟩) (λv s'' hv=>?_) λ_ _ z=>z)));obtain⟨rfl,rfl⟩:=hv;exact wX (wY (wY (wY q)))
 ·rintro⟨z1,z2⟩ s' ⟨hz,rfl,xs',ys',its',jts',n,e,p1,p2,hl,n1,n2⟩;simp only at hz;subst hz;refine wY ?_;have:decide (jts.size<its.size)=r:=by
   cases p1 with
   |nil=>
    cases p2 with
    |nil=>simp[aJ]at hl;subst hl;simp at n1 n2;simp;omega
    |cons _ _=>simp[aJ]at hl;subst hl;simp at n1 n2;simp;omega
   |cons _ _=>
    cases p2 with
    |nil=>simp[aJ]at hl;subst hl;simp at n1 n2;simp;omega
    |cons _ _=>simp at e
  show P (.done (.ret (.bool (decide (jts.size<its.size))))) s';rw[this];exact q
theorem A7 {xs ys:List At}{x y:Value}{r:Bool}{Q:Value->Shared->Prop}(hx:d3 s.heap xs x)(hy:d3 s.heap ys y)(h:aJ xs ys=some r)(hu:A.units<cLine)(q:Q (.bool r) s):wpAny (model prog w) A (richCompare .Lt x y) Q E s:=by
 have tx:=hx.type;have ty:=hy.type;obtain⟨a,_,_,_,rfl,_⟩:=id hx;obtain⟨b,_,_,_,rfl,_⟩:=id hy;exact wpAny_richCompare_same_room (op:=.Lt) tx ty PySem.F.slot_tuple_lt (wpAny_call_entry PySem.F.slot_tuple_lt tx PySem.F.entry_tuple_lt (A5 hx hy h ⟨_,rfl,(λe=>nomatch e),q⟩) (PySem.F.args_tuple_lt_2 _ _)) hu
theorem GY {xs ys:List At}{x y:Value}{r:Bool}{Q:Value->Shared->Prop}(hx:d3 s.heap xs x)(hy:d3 s.heap ys y)(h:aJ ys xs=some r)(hu:A.units<cLine)(q:Q (.bool r) s):wpAny (model prog w) A (richCompare .Gt x y) Q E s:=by
 have tx:=hx.type;have ty:=hy.type;obtain⟨a,_,_,_,rfl,_⟩:=id hx;obtain⟨b,_,_,_,rfl,_⟩:=id hy;exact wpAny_richCompare_same_room (op:=.Gt) tx ty PySem.F.slot_tuple_gt (wpAny_call_entry PySem.F.slot_tuple_gt tx PySem.F.entry_tuple_gt (A6 hx hy h ⟨_,rfl,(λe=>nomatch e),q⟩) (PySem.F.args_tuple_gt_2 _ _)) hu
end
noncomputable def jJ:List At×D->List (List At×D)->D
 |b,[]=>b.2
 |b,x::r=>if aJ b.1 x.1=some true then jJ x r else jJ b r
noncomputable def jd:List At×D->List (List At×D)->D
 |b,[]=>b.2
 |b,x::r=>if aJ x.1 b.1=some true then jd x r else jd b r
noncomputable def mmP {f:String->CmpOp->Builtin}(_:f "max" .Gt=Builtin.«max.loop»):=f
noncomputable def mmL:String->CmpOp->Builtin:=mmP rfl
noncomputable def mmQ {f:String->Builtin}(_:f "max" = Builtin.«max»):=f
noncomputable def mmF:String->Builtin:=mmQ rfl
structure MM (nm lp:String)(ns:Str)(op:CmpOp)(lt:List At->List At->Option Bool)(go:List At×D->List (List At×D)->D):Prop where
 hn:(toString nm++toString ".loop" : String)=lp
 en:entryFor table lp=some (mmL nm op)
 pl:plainId lp=true
 k2:builtinKind nm=none
 p2:plainId nm=true
 e2:entryFor table nm=some (mmF nm)
 ka:∀a v:Value,argsOk nm ⟨[a],[(Str.ofString "key",v)]⟩
 bt:bootBuiltins ns=some (.builtin nm)
 n1:ns ≠ "__name__"
 n2:(ns == ("__debug__" : Str))=false
 g0:∀b,go b []=b.2
 g1:∀b x r,go b (x::r)=if lt b.1 x.1=some true then go x r else go b r
 cg:∀ {ks:List (List At)},cy ks=true->∀ {a b},a∈ks->b∈ks->∃r,lt a b=some r
 rc:∀ {prog:Program}{w:World}{A:Around}{E:Value->Shared->Prop}{s:Shared}{xs ys:List At}{x y:Value}{r:Bool}{Q:Value->Shared->Prop},d3 s.heap xs x->d3 s.heap ys y->lt ys xs=some r->A.units<cLine->Q (.bool r) s->wpAny (model prog w) A (richCompare op x y) Q E s
theorem mmx:MM "max" "max.loop" "max" .Gt aJ jJ :=
 ⟨by decide,PySem.F.entry_max_loop,PySem.F.plain_max_loop,PySem.F.kind_max,PySem.F.plain_max,PySem.F.entry_max,λ_ _=>by unfold argsOk;kernel_rfl,rfl,by decide,by decide,λ_=>rfl,λ_ _ _=>rfl,λh _ _ a b=>⟨_,f9 h a b⟩,GY⟩
theorem mmn:MM "min" "min.loop" "min" .Lt (λa b=>aJ b a) jd :=
 ⟨by decide,PySem.F.entry_min_loop,PySem.F.plain_min_loop,PySem.F.kind_min,PySem.F.plain_min,PySem.F.entry_min,λ_ _=>by unfold argsOk;kernel_rfl,rfl,by decide,by decide,λ_=>rfl,λ_ _ _=>rfl,λh _ _ a b=>⟨_,f9 h b a⟩,A7⟩
section
variable {X:Cx}{pins:List (Addr×Obj)}{σ:St}
theorem mE {o1 o2:Obj}{H':Hp}{s':Shared}{a1 a2:Addr}(J:Inv X ((a1,o1)::(a2,o2)::pins) σ H' s'):Inv X ((a2,o2)::(a1,o1)::pins) σ H' s' :=
 J.pins_of λq hq=>J.pin q (by
  rcases List.mem_cons.mp hq with rfl|hq
  ·exact mY _ (mZ _ mX)
  ·rcases List.mem_cons.mp hq with rfl|hq
   ·exact mY _ mX
   ·exact mY _ (mZ _ (mZ _ hq)))
theorem mF {S a:Addr}{o:Obj}(hp:∀q∈X.pn++pins,q.1≠a)(h:S≠a):∀q∈X.pn++((S,o)::pins),q.1≠a:=λq hq=>by
 rcases List.mem_append.mp hq with hq|hq
 ·exact hp q (List.mem_append_left _ hq)
 ·rcases List.mem_cons.mp hq with rfl|hq
  ·exact h
  ·exact hp q (mY _ hq)
theorem lN {pins:List (Addr×Obj)}{H:Hp}{s:Shared}{v:V}{u:Value}{d:D}{k:List At}(I:Inv X pins σ H s)(r:aS v u)(i:Is X.K H v d)(e:jG d=some k):d3 s.heap k u:=by
 have:=jH I (ys:=[v]) (ds:=[d]) (ks:=[k]) (its:=[u]) (.cons r .nil) (.cons i .nil) (by simp only[cA,e];rfl);cases this;assumption
theorem CI {nm lp:String}{ns:Str}{op:CmpOp}{lt:List At->List At->Option Bool}{go:List At×D->List (List At×D)->D}(M:MM nm lp ns op lt go){qv:Value}{l S It:Addr}{vs:List V}{ds kds:List D}{ks:List (List At)}{B H1:Hp}{kf:D->Option D}{d0:D}{R:Result->Shared->Prop}(hh:X.A.handled=none)(hu:X.A.in1.units<cLine)(kfn:A1 X X.A.in1 σ qv B H1 kf)(hqv:∃a,qv=.ref a)(hq:SqL X.K B l vs)(iv:IsL X.K B vs ds)
  (em:gO kf ds=some kds) (ek:cA kds=some ks) (hc:cy ks=true) (S0:X.s₀.heap.objs.size<=S) (I0:X.s₀.heap.objs.size<=It) (hSp:∀q∈X.pn++pins,q.1≠S) (hIp:∀q∈X.pn++pins,q.1≠It) (hSI:S≠It) (hSl:S≠l) (hIl:l≠It)
  (hR:∀(s':Shared)(H' N:Hp)(v:V)(u:Value),Inv X pins σ H' s'->Ext B N H1 H'->aS v u->Is X.K N v d0->R (.ok (.ret u)) s'):
  ∀(r j:Nat)(s:Shared)(H N:Hp)(ub kub:Value)(vb kvb:V)(db kdb:D)(kb:List At)(c:Nat)(oI:Obj),vs.length - j=r->j<=vs.length->Inv X ((S,seqObj "list" #[ub,kub] c)::(It,oI)::pins) σ H s->s.heap.IsListIter It l j->Ext B N H1 H ->
   aS vb ub->Is X.K N vb db->aS kvb kub->Is X.K N kvb kdb->jG kdb=some kb->kb∈ks->go (kb,db) ((ks.zip ds).drop j)=d0 ->
   codeAny (model X.prog X.w) X.A (.builtin lp ⟨[.ref It,qv,.ref S],[]⟩) R s:=by
 obtain⟨qa,rfl⟩:=hqv;intro r;induction r with
 |zero=>
  intro j s H N ub kub vb kvb db kdb kb c oI hr hj I hit x1 r1 i1 r2 i2 ekb mk hd;have pS:=I.pin (S,seqObj "list" #[ub,kub] c) (mY _ mX);have sB:aO B H:=x1.bn.trans x1.nh;obtain⟨its,rv,pl,_⟩:=I.list (sB.seq hq);have hl:=pl.isList;have W:=Walks.list (prog:=X.prog) (w:=X.w) (A:=X.A.in1) hh It l hIl its.toArray;have hsz:its.toArray.size=its.length:=List.size_toArray ..;have hvl:vs.length=its.length:=rv.length;have hdl:ds.length=its.length:=by rw[←iv.length];exact rv.length
  have hkl:ks.length=ds.length:=by rw[d9 ek,fH em]
  have hd':db=d0:=by
   rw[List.drop_of_length_le (by rw[List.length_zip];omega)]at hd;rw[M.g0]at hd;exact hd
  subst hd';refine codeAny_builtin M.en ?_;rw[Around.under_plainId M.pl _];show wpAny _ X.A.in1 (seqItems? (.ref S)>>=_) _ _ _;refine wX (wpAny_seqItems pS.1 rfl ?_);show wpAny _ X.A.in1 (tryCatch (pyNext (.ref It)) _>>=_) _ _ _;refine wX (wpAny_tryCatch (W.done _ _ _ ⟨by rw[hsz,show its.length=j by omega];exact hit,hl⟩ λh' tk' hk'=>?_));have J1:Inv X ((It,oI)::(S,seqObj "list" #[ub,kub] c)::pins) σ H s:=mE I;have hIp':∀q∈X.pn++((S,seqObj "list" #[ub,kub] c)::pins),q.1≠It:=mF hIp hSI;have J2:Inv X ((S,seqObj "list" #[ub,kub] c)::pins) σ H { s with heap:=h',toks:=tk' } :=
   (iC J1).turned (t':=tk') (λb o n e=>hk' b o (by simpa using n) e) (J1.pin (It,oI) (mY _ mX)).2.1 (J1.pin (It,oI) (mY _ mX)).2.2.1 (.inr I0) (kJ J1) hIp'
  have pS2:=J2.pin (S,seqObj "list" #[ub,kub] c) (mY _ mX);obtain⟨c2,hc2⟩:∃c2,(h'.update S (Obj.mapSeq λ_=>(#[]:Array Value))).get? S=some (seqObj "list" #[] c2):=⟨_,get?_update_seq pS2.1 λ_=>#[]⟩;have u2:=Heap.SameBut.update h' S (Obj.mapSeq λ_=>(#[]:Array Value));show wpAny _ X.A.in1 (updateSeq S (λ_=>#[])>>=_) _ _ _;refine wX ?_;refine wpAny_updateSeq pS2.1 rfl (wX (wpAny_letGo (wY ?_)));exact hR _ H N vb ub (iC (eW (t':=tk') J2 S0 hSp (λb o n e=>(u2.2 b n).trans e) hc2 cC)) x1 r1 i1
 |succ r ih=>
  intro j s H N ub kub vb kvb db kdb kb c oI hr hj I hit x1 r1 i1 r2 i2 ekb mk hd;have hlt:j<vs.length:=by omega
  have pS:=I.pin (S,seqObj "list" #[ub,kub] c) (mY _ mX);have sB:aO B H:=x1.bn.trans x1.nh;obtain⟨its,rv,pl,_⟩:=I.list (sB.seq hq);have hl:=pl.isList;have W:=Walks.list (prog:=X.prog) (w:=X.w) (A:=X.A.in1) hh It l hIl its.toArray;have hsz:its.toArray.size=its.length:=List.size_toArray ..;have hvl:vs.length=its.length:=rv.length;have hdl:ds.length=its.length:=by rw[←iv.length];exact rv.length
  have hkl:ks.length=ds.length:=by rw[d9 ek,fH em]
  refine codeAny_builtin M.en ?_;rw[Around.under_plainId M.pl _];show wpAny _ X.A.in1 (seqItems? (.ref S)>>=_) _ _ _;refine wX (wpAny_seqItems pS.1 rfl ?_);show wpAny _ X.A.in1 (tryCatch (pyNext (.ref It)) _>>=_) _ _ _;refine wX (wpAny_tryCatch (W.item j _ _ _ (by rw[hsz];omega) ⟨hit,hl⟩ λu h' tk' hP hst' hk'=>?_));have hu':its[j]? = some u:=by simpa using hP
  obtain⟨d,hdj⟩:∃d,ds[j]? = some d:=⟨_,List.getElem?_eq_getElem (by omega)⟩;obtain⟨v,hv,iv'⟩:=iv.get hdj;obtain⟨kd,hkj,hkf⟩:=jI em hdj;obtain⟨u2,hu2,ru⟩:=rv.get hv;rw[hu']at hu2;cases hu2;obtain⟨k,hk1⟩:∃k,ks[j]? = some k:=⟨_,List.getElem?_eq_getElem (by omega)⟩;have ekd:jG kd=some k:=by
   have:=fB ek (i:=j) (by rw[fH em];omega);rw[List.getD_eq_getElem?_getD,hkj,List.getD_eq_getElem?_getD,hk1]at this;exact this
  have hm:k∈ks:=List.mem_of_getElem? hk1;obtain⟨oI',hoI',hoc,hod⟩:=id hst'.1;have J1:Inv X ((It,oI)::(S,seqObj "list" #[ub,kub] c)::pins) σ H s:=mE I;have hIp':∀q∈X.pn++((S,seqObj "list" #[ub,kub] c)::pins),q.1≠It:=mF hIp hSI;have hSp':∀q∈X.pn++((It,oI')::pins),q.1≠S:=mF hSp hSI.symm;have J2:Inv X ((It,oI')::(S,seqObj "list" #[ub,kub] c)::pins) σ H { s with heap:=h',toks:=tk' } :=
   eW (t':=tk') J1 I0 hIp' (λb o n e=>hk' b o (by simpa using n) e) hoI' (λv z=>by rw[hod]at z;cases z)
  have J3:Inv X ((S,seqObj "list" #[ub,kub] c)::(It,oI')::pins) σ H { s with heap:=h',toks:=tk' }:=mE J2;show wpAny _ X.A.in1 (tryCatch (holding [u] (call (.ref qa) [u])) _>>=_) _ _ _;refine wX (wpAny_tryCatch (wpAny_holding (wpAny_mono (kfn _ _ H N v u d kd J3 x1.hh x1.bn x1.nh (iv'.mono x1.bn) ru hkf) (λku s2 he=>?_) λ_ _ hF=>hF.elim)));obtain⟨kv,H2,J4,rk,N2,x2,ik⟩:=he;have pI4:=J4.pin (It,oI') (mY _ (mZ _ mX));have pS4:=J4.pin (S,seqObj "list" #[ub,kub] c) (mY _ mX);have hit2:s2.heap.IsListIter It l (j+1):=⟨oI',pI4.1,hoc,hod⟩;have t1:=lN J4 rk (ik.mono x2.nh) ekd;have t2:=lN J4 r2 (i2.mono (x2.bn.trans x2.nh)) ekb;have hz:(ks.zip ds).drop j=(k,d)::(ks.zip ds).drop (j+1):=by
   have hj':j<(ks.zip ds).length:=by rw[List.length_zip];omega
   rw[List.drop_eq_getElem_cons hj'];have:(ks.zip ds)[j]? = some (k,d):=List.getElem?_zip_eq_some.mpr ⟨hk1,hdj⟩;rw[List.getElem?_eq_getElem hj']at this;rw[Option.some.inj this]
  rw[hz,M.g1]at hd;obtain⟨r,hlx⟩:=M.cg hc mk hm;show wpAny _ X.A.in1 (tryCatch (holding [u,ku] (richCompare op ku kub>>=_)) _>>=_) _ _ _;refine wX (wpAny_tryCatch (wpAny_holding (wX (M.rc t1 t2 hlx hu ?_))));refine wX (wpAny_holding (wpAny_truthy_bool ?_));refine wX (wpAny_letGo (wY ?_));cases r with
  |true=>
   rw[if_pos hlx]at hd;obtain⟨c2,hc2⟩:∃c2,(s2.heap.update S (Obj.mapSeq λ_=>#[u,ku])).get? S=some (seqObj "list" #[u,ku] c2):=⟨_,get?_update_seq pS4.1 λ_=>#[u,ku]⟩;have u2:=Heap.SameBut.update s2.heap S (Obj.mapSeq λ_=>#[u,ku]);simp only[if_true];refine wX ?_;refine wpAny_updateSeq pS4.1 rfl (wX (wpAny_letGo ?_));rw[M.hn];exact wY ⟨plainId_quiet M.pl _,ih (j+1) _ H2 N2 u ku v kv d kd k c2 oI' (by omega) hlt (eW (t':=s2.toks) J4 S0 hSp' (λb o n e=>(u2.2 b n).trans e) hc2 cC) ⟨oI',(u2.2 It hSI.symm).trans pI4.1,hoc,hod⟩ (x1.trans x2) ru (iv'.mono (x1.bn.trans x2.bn)) rk ik ekd hm hd⟩
  |false=>
   rw[if_neg (by rw[hlx];simp)]at hd;simp only[Bool.false_eq_true,if_false];refine wX (wpAny_letGo ?_);rw[M.hn];exact wY ⟨plainId_quiet M.pl _,ih (j+1) _ H2 N2 ub kub vb kvb db kdb kb c oI' (by omega) hlt J4 hit2 (x1.trans x2) r1 (i1.mono x2.bn) r2 (i2.mono x2.bn) ekb mk hd⟩
end
@[simp] noncomputable def fKK (go:List At×D->List (List At×D)->D)(f:FE)(kf:Env->D->Option D):FE:=λρ=>(f ρ).bind λx=>match x.1 with
 |.lst ds=>(gO (kf ρ) ds).bind λkds=>(cA kds).bind λks=>if cy ks=true then match ks.zip ds with
  |[]=>none
  |y::r=>some (go y r,false)
  else none
 |_=>none
@[simp] noncomputable def pB:=fKK jJ
@[simp] noncomputable def pC:=fKK jd
section
variable {X:Cx}{e ke:Expr}{p pos kp:Pos}
theorem tH {nm lp:String}{ns:Str}{op:CmpOp}{lt:List At->List At->Option Bool}{go:List At×D->List (List At×D)->D}(M:MM nm lp ns op lt go){f:FE}{kf:Env->D->Option D}{k:Nat}(hm:X.mg ns=none)(he:JE X e f)(hk:JK X X.A.in1 ke kf)(hr:Room k X.A)(hg:Gl X ns:=by rfl)
  (hes:starEach [e] X.env=[(false,eval e X.env)]:=by rfl) (heb:backTo pos (starEach [e] X.env)=(false,eval e X.env)::backTo pos (starEach [] X.env):=by rfl) (hpl:(backTo pos (starEach [e] X.env)).any (·.1)=false:=by rfl)
  (hall:(backToKw pos (keywordEach [⟨some "key",ke,kp⟩] X.env)).all (·.1.isSome)=true:=by rfl) (hkw:(backToKw pos (keywordEach [⟨some "key",ke,kp⟩] X.env)).any (·.1.isNone)=false:=by rfl)
  (hnm:(backToKw pos (keywordEach [⟨some "key",ke,kp⟩] X.env)).filterMap (·.1)=[("key" : Str)]:=by rfl):
  JE X (.Call (.Name ns p) [e] [⟨some "key",ke,kp⟩] pos) (fKK go f kf):=by
 intro pins s σ H Q I h;obtain⟨B,ρ,d,b,sB,rep,ee,q⟩:=h;obtain⟨⟨xd,xb⟩,ex,ee⟩:=oX ee;cases xd<;>try (cases ee;done)
 rename_i ds;obtain⟨kds,em,ee⟩:=oX ee;obtain⟨ks,ek,ee⟩:=oX ee;split at ee
 ·rename_i hc;split at ee
  ·cases ee
  ·rename_i y ay ez;cases ee
   refine wpAny_Call_Name_kw (jj I hg hm M.bt ?_ M.n1 M.n2);refine callWith_kw (thn ((fS he ig hes) pos pins s σ H (λvs H1=>∃v N,vs=[v]/\Ext B N H H1/\Is X.K N v (.lst ds)) I ⟨B,ρ,_,_,sB,rep,ex,λv H1 N x1 i1 _=>⟨v,N,rfl,x1,i1⟩⟩) λus s1 hA=>?_) heb hpl hall hkw;obtain⟨vs1,H1,I1,r1,v,N,rfl,x1,i1⟩:=hA;obtain⟨u,rfl,ru⟩:=fR r1;refine kws_cons (hk pins s1 σ H1 N ρ _ _ I1 x1.nh (rep.mono x1.bn) λqa H2 s2 I2 m2 kfn=>kws_nil ?_);rw[hnm];show wpAny _ _ (call (.builtin nm) [u] [(("key" : Str),.ref qa)]) _ _ _;cases i1
   rename_i l vs hq il;cases ru
   have sN:aO N H2:=x1.nh.trans m2;obtain⟨its,rv,pl,hz⟩:=I2.list (sN.seq hq);have hvl:vs.length=its.length:=rv.length;have hdl:ds.length=vs.length:=il.length.symm;have hkd:kds.length=ds.length:=fH em;have hks:ks.length=kds.length:=d9 ek;have hll:l<s2.heap.objs.size:=by
    obtain⟨ol,hol,_⟩:=pl.isList;exact Heap.lt_size hol
   -- the first item
   obtain⟨k0,d0⟩:=y;have hne:0<its.length:=by
    have:=congrArg List.length ez;rw[List.length_zip,List.length_cons]at this;omega
   have z0:(ks.zip ds)[0]? = some (k0,d0):=by rw[ez];rfl
   obtain⟨hk0,hd0⟩:=List.getElem?_zip_eq_some.mp z0;have hrest:(ks.zip ds).drop 1=ay:=by rw[ez];rfl
   refine kmk_tree M.k2 M.p2 M.e2 (M.ka _ _) ?_;show wpAny _ X.A.in1 (Builtin.Builtins.bindParams nm ["key","default"] 0 ⟨[],[(Str.ofString "key",.ref qa)]⟩>>=_) _ _ s2;refine wX (wpAny_of_eq (show Builtin.Builtins.bindParams nm ["key","default"] 0 ⟨[],[(Str.ofString "key",.ref qa)]⟩=pure [some (.ref qa),none]from rfl) ?_);refine wX (wY ?_);refine wX (wpAny_pyIter_list pl.isList ?_);refine wX (wpAny_newList ?_ (Nat.zero_le _));rw[M.hn];let It:Addr:=s2.heap.objs.size;let oI:Obj:={ cls:=.type "list_iterator",data:=.fields #[.ref l,.int 0 0] };let S:Addr:=(s2.heap.push oI).objs.size;have hS:S=s2.heap.objs.size+1:=size_push' ..;have hSI:S≠It:=by rw[hS];exact Nat.ne_of_gt (Nat.lt_succ_self _)
   have J1:Inv X ((It,oI)::pins) σ H2 { s2 with heap:=s2.heap.push oI }:=lM (t':=s2.toks) I2 (λb u q=>Heap.get?_push_of_some _ q) (Nat.le_refl _) (Heap.get?_push_size _ rfl) (λv z=>by cases z);have J2:Inv X ((S,seqObj "list" #[] 0)::(It,oI)::pins) σ H2 { s2 with heap:=(s2.heap.push oI).push (seqObj "list" #[] 0) }:=lM (s:={ s2 with heap:=s2.heap.push oI }) (t':=s2.toks) J1 (λb u q=>Heap.get?_push_of_some _ q) (Nat.le_refl _) (Heap.get?_push_size _ rfl) cC;have I0:X.s₀.heap.objs.size<=It:=I2.sz;have S0:X.s₀.heap.objs.size<=S:=by rw[hS];exact Nat.le_succ_of_le I2.sz
   have hIp:∀q∈X.pn++pins,q.1≠It:=λq hq=>Nat.ne_of_lt (Heap.lt_size (I2.pin q hq).1);have hSp:∀q∈X.pn++pins,q.1≠S:=λq hq=>by rw[hS];exact Nat.ne_of_lt (Nat.lt_succ_of_lt (Heap.lt_size (I2.pin q hq).1))
   have hIl:l≠It:=Nat.ne_of_lt hll;have hSl:S≠l:=by rw[hS];exact Nat.ne_of_gt (Nat.lt_succ_of_lt hll)
   have hh:X.A.handled=none:=hr.hd;have hu:X.A.in1.units<cLine:=by have:=hr.un;show X.A.units+1<cLine;omega
   have pS:=J2.pin (S,seqObj "list" #[] 0) (mY _ mX);have pI:=J2.pin (It,oI) (mY _ (mZ _ mX));obtain⟨its2,rv2,pl2,_⟩:=J2.list (sN.seq hq);have hv2:vs.length=its2.length:=rv2.length;have W:=Walks.list (prog:=X.prog) (w:=X.w) (A:=X.A.in1) hh It l hIl its2.toArray;have hsz:its2.toArray.size=its2.length:=List.size_toArray ..;refine wY ⟨plainId_quiet M.pl _,?_⟩;refine codeAny_builtin M.en ?_;rw[Around.under_plainId M.pl _];show wpAny _ X.A.in1 (seqItems? (.ref S)>>=_) _ _ { s2 with heap:=(s2.heap.push oI).push (seqObj "list" #[] 0) };refine wX (wpAny_seqItems pS.1 rfl ?_);show wpAny _ X.A.in1 (tryCatch (pyNext (.ref It)) _>>=_) _ _ _;refine wX (wpAny_tryCatch (W.item 0 _ _ _ (by rw[hsz];omega) ⟨⟨oI,pI.1,rfl,rfl⟩,pl2.isList⟩ λu h' tk' hP hst' hk'=>?_));have hu':its2[0]? = some u:=by simpa using hP
   obtain⟨v,hv,iv'⟩:=il.get hd0;obtain⟨kd,hkj,hkf⟩:=jI em hd0;obtain⟨u2,hu2,ru⟩:=rv2.get hv;rw[hu']at hu2;cases hu2;have ekd:jG kd=some k0:=by
    have:=fB ek (i:=0) (by omega);rw[List.getD_eq_getElem?_getD,hkj,List.getD_eq_getElem?_getD,hk0]at this;exact this
   obtain⟨oI',hoI',hoc,hod⟩:=id hst'.1;have hIp':∀q∈X.pn++((S,seqObj "list" #[] 0)::pins),q.1≠It:=mF hIp hSI;have hSp':∀q∈X.pn++((It,oI')::pins),q.1≠S:=mF hSp hSI.symm;have J3:=mE (eW (t':=tk') (mE J2) I0 hIp' (λb o n e=>hk' b o (by simpa using n) e) hoI' (λv z=>by rw[hod]at z;cases z));show wpAny _ X.A.in1 (tryCatch (holding [u] (call (.ref qa) [u])) _>>=_) _ _ _;refine wX (wpAny_tryCatch (wpAny_holding (wpAny_mono (kfn _ _ H2 N v u d0 kd J3 (.refl _) (.refl _) sN iv' ru hkf) (λku s3 he=>?_) λ_ _ hF=>hF.elim)));obtain⟨kv,H3,J4,rk,N3,x3,ik⟩:=he;have pI4:=J4.pin (It,oI') (mY _ (mZ _ mX));have pS4:=J4.pin (S,seqObj "list" #[] 0) (mY _ mX);obtain⟨c2,hc2⟩:∃c2,(s3.heap.update S (Obj.mapSeq λ_=>#[u,ku])).get? S=some (seqObj "list" #[u,ku] c2):=⟨_,get?_update_seq pS4.1 λ_=>#[u,ku]⟩;have u2:=Heap.SameBut.update s3.heap S (Obj.mapSeq λ_=>#[u,ku]);show wpAny _ X.A.in1 (updateSeq S (λ_=>#[u,ku])>>=_) _ _ _;refine wX ?_;refine wpAny_updateSeq pS4.1 rfl ?_;rw[M.hn];have xx:Ext B N H H2:=x1.trans (.grow x1.nh m2);refine wY ⟨plainId_quiet M.pl _,CI M (S:=S) (It:=It) hh hu kfn ⟨qa,rfl⟩ hq il em ek hc S0 I0 hSp hIp hSI hSl hIl (λs' H' N' v' u' J' x' r' i'=>⟨v',H',J',r',q _ _ _ (xx.trans x') i' (by simp)⟩) _ 1 _ H3 N3 u ku v kv d0 kd k0 c2 oI' rfl (by omega)
    (eW (t':=s3.toks) J4 S0 hSp' (λb o n e=>(u2.2 b n).trans e) hc2 cC) ⟨oI',(u2.2 It hSI.symm).trans pI4.1,hoc,hod⟩ x3 ru (iv'.mono x3.bn) rk ik ekd (List.mem_of_getElem? hk0) (by rw[hrest])⟩
 ·cases ee
end
section
variable {X:Cx}
@[simp] noncomputable def tLt:D->D->Option (D×Bool)
 |.tup xs,.tup ys=>(c7 xs).bind λas=>(c7 ys).bind λbs=>(aJ as bs).map λr=>(.bl r,false)
 |_,_=>none
@[simp] noncomputable def tGt:D->D->Option (D×Bool)
 |.tup xs,.tup ys=>(c7 xs).bind λas=>(c7 ys).bind λbs=>(aJ bs as).map λr=>(.bl r,false)
 |_,_=>none
theorem GZ (hu:X.A.units+40<cLine):OpR X (compareOp .Lt) (rD X.K tLt):=by
 intro pins s σ H x y v u Q I rx ry q;obtain⟨B,dx,dy,d,b,sB,ix,iy,e,q⟩:=q;cases dx<;>try (simp[tLt]at e;done)
 cases dy<;>try (simp[tLt]at e;done)
 simp only[tLt]at e;obtain⟨as,e1,e⟩:=oX e;obtain⟨bs,e2,e⟩:=oX e;obtain⟨r,e3,e⟩:=oY e;cases e
 show wpAny _ _ (richCompare .Lt v u) _ _ _;exact A7 (lN I rx (ix.mono sB) e1) (lN I ry (iy.mono sB) e2) e3 (by omega) ⟨.bl r,H,I,rfl,q.one sB (.bl r)⟩
end
section
variable {X:Cx}{a b:Expr}{p pos:Pos}
@[simp] noncomputable def Hr (f g:FE):FA:=λρ=>(f ρ).bind λx=>(g ρ).bind λy=>match x.1,y.1 with
 |.int i,.int j=>if -1000<=i/\i<=1000/\-1000<=j/\j<=1000 then some (dR i (j - i).toNat)else none
 |_,_=>none
end
@[simp] noncomputable def Im:List D->Option (D×Bool)
 |[.tup xs,.tup ys]=>(c7 xs).bind λas=>(c7 ys).bind λbs=>(aJ as bs).map λr=>(if r=true then .tup ys else .tup xs,false)
 |_=>none
end DL
namespace DL
open PySem PySem.Spec PyProof.Rows L2
section
variable {X:Cx}
noncomputable def mG:D->D->Option (D×Bool)
 |.tup xs,.tup ys=>if xs.isEmpty=true then some (.tup ys,false)else none
 |_,_=>none
theorem CJ:OpR X (binaryOp .Add) (rD X.K mG):=by
 intro pins s σ H x y v u Q I rx ry q;obtain⟨B,dx,dy,d,bb,sB,ix,iy,ee,q⟩:=q;cases ix<;>cases iy<;>try (simp[mG]at ee;done)
 rename_i l vs ds h hl l' ws es h' hl';simp only[mG]at ee;split at ee
 ·rename_i hz;cases ee
  cases rx
  cases ry
  obtain⟨its,r1,p1,_⟩:=I.tuple (aV sB h);obtain⟨its2,r2,p2,_⟩:=I.tuple (aV sB h');have he:its.toArray.isEmpty=true:=by
   have e1:=hl.length;have e2:=r1.length;have e3:=List.isEmpty_iff.mp hz;rw[e3]at e1;cases its with
   |nil=>rfl
   |cons a b=>rw[e1]at e2;simp at e2
  obtain⟨⟨cls,dd,data,sl⟩,ho,hc,n,hd⟩:=id p1;obtain⟨⟨cls2,dd2,data2,sl2⟩,ho2,hc2,n2,hd2⟩:=id p2;dsimp only at hc hd hc2 hd2;subst hc;subst hd;subst hc2;subst hd2;exact concat_meets ⟨_,ho,rfl⟩ ⟨_,ho2,rfl⟩ noFill_tuple_add seq_tuple_add PySem.F.slot_tuple_add PySem.F.entry_tuple_add (PySem.F.args_tuple_add_2 _ _)
   (tuple_addW0 l l' its.toArray its2.toArray n n2 dd dd2 sl sl2 he) ⟨ho,ho2,⟨.ref l',H,I,rfl,q.one sB (.tup h' hl')⟩⟩
 ·cases ee
@[simp] noncomputable def xf:D->D->Option (D×Bool)
 |.tup xs,.tup ys=>if xs.length+ys.length<=sizeLine then some (.tup (xs++ys),false)else none
 |_,_=>none
theorem CK (xs ys:List D)(z:xs.length+ys.length<=sizeLine):orD ml mG (.tup xs) (.tup ys)=some (.tup (xs++ys),false):=by
 cases xs with
 |nil=>
  have:ml (.tup []) (.tup ys)=none:=if_neg (λh=>by cases h.2);show(match ml (.tup []) (.tup ys) with|some z=>some z|none=>mG (.tup []) (.tup ys))=_;rw[this];rfl
 |cons a l=>
  have:ml (.tup (a::l)) (.tup ys)=some (.tup (a::l++ys),false):=if_pos ⟨z,rfl⟩;show(match ml (.tup (a::l)) (.tup ys) with|some z=>some z|none=>mG (.tup (a::l)) (.tup ys))=_;rw[this]
theorem A8:OpR X (binaryOp .Add) (rD X.K xf):=by
 refine gd (r:=rD X.K (orD ml mG)) (k7 Ac CJ) λx y H Q q=>?_;obtain⟨B,dx,dy,d,bb,sB,ix,iy,ee,q⟩:=q;refine⟨B,dx,dy,d,bb,sB,ix,iy,?_,q⟩;cases ix<;>try (cases ee;done)
 cases iy<;>try (cases ee;done)
 rename_i l vs ds h hl l' ws es h' hl';simp only[xf]at ee;split at ee
 ·rename_i hz;rw[CK _ _ hz];exact ee
 ·cases ee
end
section
variable {X:Cx}
@[simp] noncomputable def Hs:List D->Option (D×Bool)
 |[d,.tup [.ty n,.ty m]]=>if GL d=true then none else if n = "list"/\m = "tuple" then some (.bl (i6 d == "list" || i6 d == "tuple"),false)else none
 |_=>none
end
@[simp] noncomputable def jK:D->Option Key
 |.int i=>some (.inl i)
 |.str x=>some (.inr x)
 |_=>none
theorem A9 {K:PySem.W.Frag}{B:Hp}{v:V}{d:D}{k:Key}(i:Is K B v d)(e:jK d=some k):v=kV k:=by
 cases i<;>simp only[jK]at e<;>cases e<;>rfl
noncomputable def cn {κ:Type}[DecidableEq κ]:List κ->List D->κ->Option D
 |k'::ks,d::ds,k=>if k'=k then some d else cn ks ds k
 |_,_,_=>none
theorem vH {κ:Type}[DecidableEq κ]{K:PySem.W.Frag}{B:Hp}(k:κ):∀ {ks:List κ}{vs:List V}{ds:List D},ks.length=vs.length->IsL K B vs ds ->
  (∃v d,jk (ks.zip vs) k=some v/\cn ks ds k=some d/\Is K B v d)∨(jk (ks.zip vs) k=none/\cn ks ds k=none)
 |[],vs,ds,_,_=>.inr ⟨by cases vs<;>rfl,by cases ds<;>rfl⟩
 |k'::ks,[],_,h,_=>by simp at h
 |k'::ks,v::vs,_,h,.cons i is=>by
  rw[List.zip_cons_cons];unfold cn;by_cases e:k'=k
  ·rw[if_pos e];exact .inl ⟨v,_,j4 (p:=(k',v)) e,rfl,i⟩
  ·rw[if_neg e,j5 (p:=(k',v)) e];exact vH k (by simpa using h) is
section
variable {X:Cx}{o e i:Expr}{pos:Pos}
@[simp] noncomputable def vI:D->D->Option (D×Bool)
 |.dk ks vs,y=>(jK y).map λk=>((cn ks vs k).getD .non,false)
 |_,_=>none
theorem tI {apos cpos:Pos}{fo fe:FE}(hu:X.A.units+1<cLine)(ho:JE X o fo)(he:JE X e fe)(m:M1 X o "get" apos e cpos):JE X (.Call (.Attribute o "get" apos) [e] [] cpos) (f2 vI fo fe):=by
 refine PE.to (rW hu ho he m) λσ H Q q=>?_;obtain⟨B,ρ,d,bb,sB,r,ee,q⟩:=q;obtain⟨x,ex,ee⟩:=oX ee;obtain⟨y,ey,ee⟩:=oX ee;refine⟨B,ρ,x.1,x.2,sB,r,ex,λv H1 N1 x1 i1 ff=>?_⟩;obtain⟨xd,xb⟩:=x;cases i1 with
 |@dk a ks vs ds ob h hl hs=>
  simp only[vI]at ee;obtain⟨k,hk,ee⟩:=oY ee;cases ee
  refine⟨a,rfl,.inl ⟨_,_,.inl (x1.nh _ _ h)⟩,N1,ρ,y.1,y.2,x1.nh,r.mono x1.bn,ey,λv2 H2 N2 x2 i2 _=>?_⟩;have hv:=A9 i2 hk;subst hv;refine⟨jk (ks.zip vs) k,.inl ⟨_,k,_,.inl (x2.nh _ _ (x2.bn _ _ h)),rfl,rfl⟩,?_⟩;have hs2:=hs.mono x2.bn;rcases vH k hl hs2 with⟨v,d',e1,e2,i3⟩|⟨e1,e2⟩
  ·rw[e1];rw[e2]at q;exact(q.into (x1.trans x2)).one x2.nh i3
  ·rw[e1];rw[e2]at q;exact(q.into (x1.trans x2)).one x2.nh .non
 |_=>simp[vI]at ee
@[simp] noncomputable def ixK:D->D->Option (D×Bool)
 |.dk ks vs,y=>(jK y).bind λk=>(cn ks vs k).map λd=>(d,false)
 |_,_=>none
@[simp] noncomputable def inK:D->D->Option (D×Bool)
 |y,.dk ks vs=>(jK y).map λk=>(.bl (cn ks vs k).isSome,false)
 |_,_=>none
@[simp] noncomputable def HZ:D->D->Option (D×Bool)
 |y,.dk ks vs=>(jK y).map λk=>(.bl (!(cn ks vs k).isSome),false)
 |_,_=>none
end
noncomputable def dM {κ:Type}[DecidableEq κ](ks:List κ)(k:κ):List κ:=if k∈ks then ks else ks++[k]
noncomputable def dN {κ α:Type}[DecidableEq κ](ks:List κ)(xs:List α)(k:κ)(x:α):List α:=if k∈ks then List.zipWith (λk' x'=>if k'=k then x else x') ks xs else xs++[x]
theorem xg {κ:Type}[DecidableEq κ](k:κ):∀ {ks:List κ}{vs:List V},ks.length=vs.length->((ks.zip vs).any λkv=>decide (kv.1=k))=decide (k∈ks)
 |[],_,_=>by simp
 |k'::ks,[],h=>by simp at h
 |k'::ks,v::vs,h=>by
  have ih:=xg k (ks:=ks) (vs:=vs) (by simpa using h);rw[List.zip_cons_cons,List.any_cons,ih];by_cases e:k'=k
  ·simp[e]
  ·have e':¬k=k':=λz=>e z.symm;simp[e,e']
theorem xh {κ:Type}[DecidableEq κ](k:κ)(v:V):∀(ks:List κ)(vs:List V),(ks.zip vs).map (λkv=>if kv.1=k then (kv.1,v)else kv)=ks.zip (List.zipWith (λk' x'=>if k'=k then v else x') ks vs)
 |[],_=>by simp
 |_::_,[]=>by simp
 |k'::ks,w::vs=>by
  rw[List.zip_cons_cons,List.map_cons,xh k v ks vs,List.zipWith_cons_cons,List.zip_cons_cons];by_cases e:k'=k
  ·simp[e]
  ·simp[e]
theorem xi {κ:Type}[DecidableEq κ]{ks:List κ}{vs:List V}(hl:ks.length=vs.length)(k:κ)(v:V):j3 (ks.zip vs) k v=(dM ks k).zip (dN ks vs k v):=by
 unfold j3 dM dN;rw[xg k hl];by_cases h:k∈ks
 ·rw[if_pos (decide_eq_true h),if_pos h,if_pos h,xh]
 ·rw[if_neg (by simpa using h),if_neg h,if_neg h,List.zip_append hl];rfl
theorem qS {κ α:Type}[DecidableEq κ]{ks:List κ}{xs:List α}(hl:ks.length=xs.length)(k:κ)(x:α):(dM ks k).length=(dN ks xs k x).length:=by
 unfold dM dN;split<;>simp[hl]
theorem IsL.zipWith {κ:Type}[DecidableEq κ]{K:PySem.W.Frag}{B:Hp}{k:κ}{v:V}{d:D}(i:Is K B v d):∀ {ks:List κ}{vs:List V}{ds:List D},IsL K B vs ds->IsL K B (List.zipWith (λk' x'=>if k'=k then v else x') ks vs) (List.zipWith (λk' x'=>if k'=k then d else x') ks ds)
 |[],_,_,_=>by simpa using IsL.nil
 |_::_,_,_,.nil=>by simpa using IsL.nil
 |k'::ks,_,_,.cons h t=>by
  rw[List.zipWith_cons_cons,List.zipWith_cons_cons];refine .cons ?_ (IsL.zipWith i t);by_cases e:k'=k
  ·rw[if_pos e,if_pos e];exact i
  ·rw[if_neg e,if_neg e];exact h
theorem IsL.put {κ:Type}[DecidableEq κ]{K:PySem.W.Frag}{B:Hp}{k:κ}{v:V}{d:D}(i:Is K B v d){ks:List κ}{vs:List V}{ds:List D}(h:IsL K B vs ds):IsL K B (dN ks vs k v) (dN ks ds k d):=by
 unfold dN;split
 ·exact h.zipWith i
 ·exact h.append (.cons i .nil)
section
variable {K:PySem.W.Frag}{E:Ends}{σ:St}{H:Hp}
noncomputable def AA (i:Nat):FS:=λρ=>some (.nx (ρ.set i (some (.dt [] [],true))))
theorem StN.newBox {B0 H0 N:Hp}{ρ:Env}(s:StN K B0 H0 N H σ ρ){p:Addr}{ob:HO}{dd:D}(i:Nat)(hp:H p=none)(hb:∀C,Bx K C ob dd):StN K B0 H0 (upd N p ob) (upd H p ob) (σ.set i (some (.ref p))) (ρ.set i (some (dd,true))):=by
 have x:=Ext.laid (o:=ob) s.ext.nh hp;have s1:=s.grow x;have hNp:N p=none:=s.ext.nh.free hp;have hop:¬own σ ρ p:=λz=>by obtain⟨ws,⟨q,_⟩,_⟩:=s.owned z;rw[hNp]at q;cases q
 have c:aO (cut N (own σ ρ)) (cut (upd N p ob) (λb=>own σ ρ b∨b=p)):=dD λb u e q=>⟨x.bn _ _ e,λz=>z.elim q λz=>by subst z;rw[hNp]at e;cases e⟩;refine s1.bindOwn aD (s.ext.hh.free hp) (λj e q z=>hop ⟨j,e,q,z⟩) (λj e _ q=>?_) (λj e _ q=>?_) (hb _)
 ·obtain⟨w,h1,h2⟩:=s.sh j e q;exact⟨w,h1,h2.mono c⟩
 ·obtain⟨a',o',h1,h2,_,h4⟩:=s.ow j e q;exact⟨a',o',h1,x.bn _ _ h2,h4.mono c⟩
theorem AB {i:Nat}(q:tDS K (AA i) E σ H):xZ zI (ie i) E σ H:=by
 obtain⟨B0,H0,ρ,r,⟨N,s⟩,e,p⟩:=q;cases e
 exact λa ha=>p _ _ ⟨_,s.newBox i ha λ_=>.dt (ks:=[]) (vs:=[]) rfl .nil⟩
end
section
variable {X:Cx}{pos:Pos}{e k:Expr}
theorem CL {i:Nat}{x:Str}{p dp:Pos}(hN:X.N.Nodup)(hi:X.N[i]? = some x:=by rfl)(hx:Loc X.env.scope x:=by first|exact Or.inl rfl|exact Or.inr rfl)(hs:swapsWith (.Dict [] [] dp) (some (.Name x p)) pos.line X.env=pure false:=by rfl)
  (hf:X.fn x=true∨X.env.scope.names.lookup x=some .local:=by first|exact .inl rfl|exact .inr rfl):JS X (.Assign [.Name x p] (.Dict [] [] dp) pos) (AA i):=PS.to (uJ hN hi hx zJ hs hf) λ_ _ _ q=>AB q
end
section
variable {prog:Program}{w:World}{A:Around}{E:Value->Shared->Prop}{s:Shared}
abbrev Fv (h:Heap)(z TI TO T0:Addr)(f:Bool):Prop:=h.get? z=some { cls:=.type "zip",dict:=none,data:=.fields #[rawInt T0,.bool f,.bool false,.ref TI,.ref TO],slots:=#[] }
end
def ZSt (k1 k2:Bool)(z TI TO i1 i2 l1 l2 S:Addr)(i:Nat)(h:Heap):Prop :=
 IsPair h TI (.ref i1) (.ref i2)/\KIt k1 h i1 l1 i/\KIt k2 h i2 l2 i/\((IsZip h z TI TO .none/\∃a b,IsPair h TO a b)∨∃T0 f oT oO,Fv h z TI TO T0 f/\h.get? T0=some oT/\T0∉[z,TI,TO,i1,i2]/\T0≠S/\h.get? TO=some oO)
section
variable {prog:Program}{w:World}{A:Around}{E:Value->Shared->Prop}{s:Shared}{k1 k2:Bool}{z TI TO i1 i2 l1 l2 S:Addr}{j:Nat}{xs ys:Array Value}
theorem ZSt.ty {h:Heap}(st:ZSt k1 k2 z TI TO i1 i2 l1 l2 S j h):∃o,h.get? z=some o/\o.cls=.type "zip":=by
 obtain⟨_,_,_,a4⟩:=st;rcases a4 with⟨b1,_⟩|⟨T0,f,oT,oO,b1,_⟩
 ·exact⟨_,b1,rfl⟩
 ·exact⟨_,b1,rfl⟩
end
theorem mH {H:Hp}{a:Addr}{o:HO}(h:H a=none):aO H (upd H a o):=λb u e=>by rw[aF (aR e h)];exact e
@[simp] noncomputable def fLZ (fa fb:FE):FE:=λρ=>(HU fa fb ρ).map λds=>(.lst ds,true)
end DL
namespace DL
open PySem PySem.Spec PyProof.Rows
theorem qT:typeLookup (.type "list") "keys" = pure none:=by rw[typeLookup_type,builtinLookup_eq_fast];kernel_rfl
theorem yH {prog:Program}{w:World}{A:Around}{E:Value->Shared->Prop}{s:Shared}{a:Addr}{xs:Array Value}{k:Nat}{sl:Array (Option Value)}{Q:Option Value->Shared->Prop}
  (hx:s.heap.get? a=some { cls:=.type "list",dict:=none,data:=.seq xs k,slots:=sl }) (hA:A.handled=none)
  (h:∀h' tk,(∀b o,s.heap.get? b=some o->h'.get? b=some o)->Q none { s with heap:=h',toks:=tk }):
  wpAny (model prog w) A (getAttr? (.ref a) "keys") Q E s:=by
 obtain⟨hp,g,d,tk,os⟩:=s;have hT:∀tk',(⟨hp,g,d,tk',os⟩:Shared).TypeIs (.ref a) "list":=λ_=>⟨_,hx,rfl⟩;have f1:=sub_AttributeError;have f3:=PySem.F.slot_list_getattribute.lookup;have f4:=PySem.F.slot_list_getattribute.bind (.ref a);have f5:=am_list_getattr_none;unfold getAttr? getAttrBy? getAttrBy;repeat (any_goals (first|assumption|exact hT _|((with_reducible show wpAny _ _ (call (Value.builtin "list.__getattribute__") _ _) _ _ _);refine call_meets PySem.F.slot_list_getattribute (hT _) am_entry_list_getattribute (PySem.F.args_list_getattribute_2 _ _) (meets_getattribute_miss_list a xs k sl "keys" _ qT (by decide) (by decide)) ⟨hx,hA,λh' tk' e hx'=>?_⟩)|wp_step))
 obtain⟨t',u',he⟩:=hx'.there;show wpAny _ _ (getattributeRaised _ _ _ _ _ _ _) _ _ _;unfold getattributeRaised;repeat (any_goals (first|assumption|wp_step))
 exact h _ _ hx'.of.keeps
end DL
namespace DL
open PySem PySem.Spec PyProof.Rows L2
noncomputable def gf:List D->Option (List (Key×D))
 |[]=>some []
 |.tup [k,v]::r=>(jK k).bind λkk=>(gf r).map λl=>(kk,v)::l
 |_=>none
noncomputable def mI (a:List Key×List D)(p:Key×D):List Key×List D:=(dM a.1 p.1,dN a.1 a.2 p.1 p.2)
noncomputable def bw (l:List (Key×D)):List Key×List D:=l.foldl mI ([],[])
theorem mJ (l:List (Key×D))(p:Key×D):bw (l++[p])=mI (bw l) p:=by unfold bw;rw[List.foldl_append];rfl
theorem mK:∀ {ds:List D}{l:List (Key×D)},gf ds=some l->l.length=ds.length
 |[],l,h=>by simp[gf]at h;subst h;rfl
 |d::r,l,h=>by
  unfold gf at h;split at h
  ·rename_i h0;cases h0
  ·rename_i k v r' h0;cases h0
   obtain⟨kk,_,h⟩:=oX h;obtain⟨l',h1,rfl⟩:=oY h;simp[mK h1]
  ·cases h
theorem mL:∀ {ds:List D}{l:List (Key×D)}{i:Nat}{d:D},gf ds=some l->ds[i]? = some d->∃k v kk,d=.tup [k,v]/\jK k=some kk/\l[i]? = some (kk,v)
 |[],l,i,d,_,h=>by simp at h
 |d0::r,l,i,d,h,hi=>by
  unfold gf at h;split at h
  ·rename_i h0;cases h0
  ·rename_i k v r' h0;cases h0
   obtain⟨kk,h2,h⟩:=oX h;obtain⟨l',h1,rfl⟩:=oY h;cases i with
   |zero=>simp at hi;subst hi;exact⟨k,v,kk,rfl,h2,rfl⟩
   |succ i=>simp only[List.getElem?_cons_succ]at hi ⊢;exact mL h1 hi
  ·cases h
theorem AC (l:List (Key×D)):∀a:List Key×List D,a.1.length=a.2.length->(l.foldl mI a).1.length=(l.foldl mI a).2.length/\(l.foldl mI a).1.length<=a.1.length+l.length:=by
 induction l with
 |nil=>intro a h;exact⟨h,Nat.le_refl _⟩
 |cons p l ih=>
  intro a h;have h1:(mI a p).1.length<=a.1.length+1:=by
   show(dM _ _).length<=_;unfold dM;split<;>simp
  have:=ih (mI a p) (qS h _ _);rw[List.foldl_cons,List.length_cons];exact⟨this.1,by omega⟩
theorem yI (l:List (Key×D)):(bw l).1.length=(bw l).2.length/\(bw l).1.length<=l.length:=by
 have:=AC l ([],[]) rfl;exact⟨this.1,Nat.le_trans this.2 (by simp)⟩
theorem pE:entryFor table "dict.update.loop" = some Builtin.«dict.update.loop»:=entryFor_of_tree (by kernel_rfl)
theorem iS:plainId "dict.update.loop" = true:=by decide +kernel
section
variable {X:Cx}{pins:List (Addr×Obj)}{σ:St}{B H0:Hp}{A:Around}{R:Result->Shared->Prop}{it l d:Addr}{us:List V}{ds:List D}{kds:List (Key×D)}
theorem vJ (hA:A.handled=none)(nl:l≠it)(nd:d≠it)(hl:SqL X.K B l us)(il:IsL X.K B us ds)(hp:gf ds=some kds)
  (hR:∀Hc N vs ob s',Inv X pins σ (upd Hc d (.dK ((bw kds).1.zip vs) ob)) s'->Hc d=none->Ext B N H0 Hc->(bw kds).1.length=vs.length->IsL X.K N vs (bw kds).2->R (.ok (.ret .none)) s'):
  ∀(k i:Nat)(tk:Nat)(s:Shared)(Hc N:Hp)(vs:List V)(ob:Obj),ds.length - i=k->i<=ds.length->Inv X pins σ (upd Hc d (.dK ((bw (kds.take i)).1.zip vs) ob)) s->Hc d=none->Ext B N H0 Hc->ko X pins (upd Hc d (.dK ((bw (kds.take i)).1.zip vs) ob)) it ->
   s.heap.IsListIter it l i->(bw (kds.take i)).1.length=vs.length->IsL X.K N vs (bw (kds.take i)).2 ->
   codeAny (model X.prog X.w) A (.builtin "dict.update.loop" ⟨[.ref d,.ref it,.int i tk,.none],[]⟩) R s:=by
 have n1:=il.length;have n2:=mK hp;intro k;induction k with
 |zero=>
  intro i tk s Hc N vs ob hk hi I hc xt fp st hz hv;have hin:i=ds.length:=by omega
  have sm:aO B (upd Hc d (.dK ((bw (kds.take i)).1.zip vs) ob)):=(xt.bn.trans xt.nh).trans (mH hc);obtain⟨its,r1,p1,z1⟩:=I.list (sm.seq hl);have e1:=r1.length;refine codeAny_builtin pE ?_;rw[Around.under_plainId iS _];show wpAny _ A.in1 (pyNext (.ref it)>>=_) _ _ s;refine wX (wpAny_pyNext_list_end (A:=A.in1) hA st p1.isList (by simp;omega) λh' hk'=>?_);show wpAny _ _ (Builtin.Dict.addKeywords d []>>=_) _ _ _;refine wX (wY (wY ?_));have I1:=qG (t':=s.toks) (h':=h') (ch:=[it]) I (λb hb=>by rw[List.mem_singleton.mp hb];exact fp) λb o hb e=>hk' b o (λq=>hb (by simp[q])) e;rw[hin,←n2,List.take_length]at I1 hz hv;exact hR Hc N vs ob _ I1 hc xt hz hv
 |succ k ih=>
  intro i tk s Hc N vs ob hk hi I hc xt fp st hz hv;have hlt:i<ds.length:=by omega
  have sm:aO B (upd Hc d (.dK ((bw (kds.take i)).1.zip vs) ob)):=(xt.bn.trans xt.nh).trans (mH hc);obtain⟨its,r1,p1,z1⟩:=I.list (sm.seq hl);obtain⟨kd,vd,kk,ed,ek,el⟩:=mL hp (List.getElem?_eq_getElem hlt);obtain⟨x,hx,ix⟩:=il.get (List.getElem?_eq_getElem hlt);rw[ed]at ix;cases ix with
  |@tup T xs _ hT hxs=>
   cases hxs with
   |cons ik r=>
    cases r with
    |cons iv r=>
     cases r
     rename_i xk xv;have exk:=A9 ik ek;subst exk;obtain⟨u,hu,ru⟩:=r1.get hx;cases (show u=Value.ref T from ru)
     refine codeAny_builtin pE ?_;rw[Around.under_plainId iS _];show wpAny _ A.in1 (pyNext (.ref it)>>=_) _ _ s;refine wX (wpAny_pyNext_list_item (A:=A.in1) st p1.isList (x:=.ref T) (by simpa using hu) λh' st' hs=>?_);have I1:=qG (t':=s.toks) (h':=h') (ch:=[it]) I (λb hb=>by rw[List.mem_singleton.mp hb];exact fp) λb o hb e=>hs.extBut b o (λq=>hb (by simp[q])) e;obtain⟨ps,r2,p2,z2⟩:=I1.tuple (aV sm hT);obtain⟨uk,uv,rfl,rk,rv⟩:=r2.two;have hpr:Shared.TypeIs { s with heap:=h' } (.ref T) "tuple":=by obtain⟨o,e,c,_⟩:=p2;exact⟨o,e,c⟩
     dsimp only;refine wX (wpAny_holding (wX (wpAny_tryCatch ?_)));unfold Builtin.Dict.pairItems;refine wX (wpAny_typeOf hpr ?_);obtain⟨oT,eT,cT,nT,dT⟩:=p2;rw[if_pos (by decide)];refine wX (wpAny_seqItems eT dT (wY ?_));show wpAny _ _ (holding [uk,uv] (dictSet d uk uv)) _ _ _;obtain⟨zz,hsm,vs0,rel,dd⟩:=rV I1.hok (a:=d) aD;have hz0:vs0.length<=sizeLine:=by rw[←rel.length];exact zz
     have nk:((bw (kds.take i)).1.zip vs).length<sizeLine:=by
      have a1:=(yI (kds.take i)).2;have a2:=z1;rw[List.length_take]at a1;rw[List.length_zip];omega
     refine wpAny_holding (wpAny_dictSet_pairs (hsz:=hz0) (wu rk) dd λh2 dd2 hs2=>?_);have hl2:(j3 ((bw (kds.take i)).1.zip vs) kk xv).length<=sizeLine:=by have:=im ((bw (kds.take i)).1.zip vs) kk xv;omega
     obtain⟨ob2,he2⟩:∃q,h2.get? d=some q:=let ⟨q,_,_,hq,_⟩:=dd2;⟨q,hq⟩;have I2:=qt (t':=s.toks+1) I1 (a:=d) (ob:=.dK (j3 ((bw (kds.take i)).1.zip vs) kk xv) ob2) (by rw[aD];exact True.intro) hs2 ⟨_,he2⟩ (zF hl2 hsm (rel.put kk rv) dd2 he2);rw[BE,xi hz]at I2;have et:kds.take (i+1)=kds.take i++[(kk,vd)]:=by rw[List.take_add_one,el];rfl
     have ed1:(bw (kds.take (i+1))).1=dM (bw (kds.take i)).1 kk:=by rw[et,mJ];rfl
     have ed2:(bw (kds.take (i+1))).2=dN (bw (kds.take i)).1 (bw (kds.take i)).2 kk vd:=by rw[et,mJ];rfl
     refine wY ⟨plainId_quiet iS _,?_⟩;refine ih (i+1) 0 _ Hc N (dN (bw (kds.take i)).1 vs kk xv) ob2 (by omega) hlt (by rw[ed1];exact I2) hc xt ?_ ?_ ?_ ?_
     ·obtain⟨f0,f1⟩:=fp;refine⟨?_,f1⟩;rw[aF nd.symm]at f0 ⊢;exact f0
     ·exact st'.at λo e=>(hs2.2 it nd.symm).trans e
     ·rw[ed1];exact qS hz _ _
     ·rw[ed2];exact hv.put (iv.mono xt.bn)
end
@[simp] noncomputable def gP:List D->Option (D×Bool)
 |[.lst ds]=>(gf ds).map λkds=>(.dk (bw kds).1 (bw kds).2,false)
 |_=>none
theorem Fw:bootBuiltins "dict" = some (.type "dict"):=by decide +kernel
section
variable {X:Cx}
theorem Fx (hcal:X.calm=true):bA X (.type "dict") (rDA X.K gP):=by
 intro pins s σ H xs us Q I r h;obtain⟨B,dds,d0,bb,sB,i0,ee,q⟩:=h;cases i0 with
 |nil=>simp[gP]at ee
 |cons i1 i2=>
  cases i2 with
  |cons _ _=>cases i1<;>simp[gP]at ee
  |nil=>
   cases i1<;>try (simp[gP]at ee;done)
   rename_i l ws ds hl il;simp only[gP]at ee;obtain⟨kds,hp,ee⟩:=oY ee;cases ee
   obtain⟨u,rfl,rx⟩:=fR r;cases rx
   have hA:X.A.handled=none:=I.ok.hd hcal;refine callType_codes (Q₁:=λobj s₁=>obj=.ref s.heap.objs.size/\s₁={ s with heap:=s.heap.push { cls:=.type "dict",data:=.dict #[] } }) PySem.F.kt_called_dict (PySem.F.kt_typeCall_dict_1 _) PySem.F.entry_dict_init (kt_code_dict_new _ ⟨rfl,rfl⟩) ?_;rintro obj s₁ ⟨rfl,rfl⟩;have I1:Inv X pins σ (upd H s.heap.objs.size (.dK [] { cls:=.type "dict",data:=.dict #[] })) { s with heap:=s.heap.push { cls:=.type "dict",data:=.dict #[] } }:=I.laid (t':=s.toks) (λb o e=>Heap.get?_push_of_some _ e) (Nat.le_refl _) (zG s.heap I.big);have hc0:H s.heap.objs.size=none:=I.fresh;have hT:Shared.TypeIs { s with heap:=s.heap.push { cls:=.type "dict",data:=.dict #[] } } (.ref s.heap.objs.size) "dict":=⟨_,Heap.get?_push_size _ rfl,rfl⟩;refine⟨hT,PySem.F.args_dict_init_2 _ _,?_⟩;unfold Builtin.«dict.__init__»;refine wX ?_;unfold Builtin.Dict.selfAndRest;refine wX (wpAny_notOrdered_dict hT ?_);show wpAny _ _ (pure (s.heap.objs.size,[Value.ref l])) _ _ _;refine wY ?_;show wpAny _ _ (Builtin.Dict.updateFrom "dict.__init__" s.heap.objs.size (.ref l) [] .none) _ _ _;unfold Builtin.Dict.updateFrom;have sm:aO B (upd H s.heap.objs.size (.dK [] { cls:=.type "dict",data:=.dict #[] })):=sB.trans (mH hc0);obtain⟨its,r1,p1,z1⟩:=I1.list (sm.seq hl);have pl:=p1.isList;obtain⟨ol,nl,eol,cl,ddl,dl⟩:=p1;have hTl:Shared.TypeIs { s with heap:=s.heap.push { cls:=.type "dict",data:=.dict #[] } } (.ref l) "list":=⟨ol,eol,cl⟩;refine wX (wpAny_typeOf hTl ?_);rw[if_pos (by decide)];obtain⟨oc,od,oo,os⟩:=ol;simp only at cl ddl dl;subst cl ddl dl;refine wX (yH eol (by exact hA) λh' tk hk=>?_);dsimp only[Option.isNone_none];rw[if_pos rfl];have I2:Inv X pins σ (upd H s.heap.objs.size (.dK [] { cls:=.type "dict",data:=.dict #[] })) { s with heap:=h',toks:=tk }:=I1.kept (t':=tk) hk;refine wX (wpAny_rule ?_);refine wX (wpAny_pyIter_list (items:=its.toArray) ⟨_,hk _ _ eol,rfl,nl,rfl⟩ ?_);have I3:Inv X pins σ (upd H s.heap.objs.size (.dK [] { cls:=.type "dict",data:=.dict #[] })) { s with heap:=h'.push { cls:=.type "list_iterator",data:=.fields #[.ref l,.int 0 0] },toks:=tk }:=I2.kept (t':=tk) λb o e=>Heap.get?_push_of_some _ e;have ld:s.heap.objs.size<h'.objs.size:=Heap.lt_size (hk _ _ (Heap.get?_push_size _ rfl));have ll:l<h'.objs.size:=Heap.lt_size (hk _ _ eol);refine wY ⟨plainId_quiet iS _,vJ (A:=X.A.in1) (B:=B) (H0:=H) (l:=l) (d:=s.heap.objs.size) (it:=h'.objs.size) hA (Nat.ne_of_lt ll) (Nat.ne_of_lt ld) hl il hp (λHc N vs ob s' I' hc' xt hz hv=>?_) _ 0 0 _ H B [] _ rfl (Nat.zero_le _) I3 hc0 (Ext.refl sB) (I2.fpOk (Nat.le_refl _) (I2.hok.fresh (Nat.le_refl _))) ⟨_,Heap.get?_push_size _ rfl,rfl,rfl⟩ rfl .nil⟩;refine⟨rfl,.ref s.heap.objs.size,_,I',rfl,?_⟩;have x3:=xt.trans (Ext.laid (o:=.dK ((bw kds).1.zip vs) ob) xt.nh hc');exact q _ _ _ x3 (.dk aD hz (hv.mono (Ext.laid (o:=.dK ((bw kds).1.zip vs) ob) xt.nh hc').bn)) (by simp)
end
@[simp] noncomputable def Io:FE:=λ_=>none
@[simp] noncomputable def Ip:FA:=λ_=>none
theorem hu1 {n:Nat}(h:n+40<cLine):n+1<cLine:=by omega
@[simp] noncomputable def Fy:D->D->Option (D×Bool)
 |.lst ds,.int k=>if 0<=k/\ds.length*k.toNat<=1000/\k<=1000 then some (.lst (List.replicate k.toNat ds).flatten,true)else none
 |_,_=>none
@[simp] noncomputable def yJ (fa fb:FE):FE:=λρ=>(fa ρ).bind λx=>if x.2=true then (fb ρ).bind λy=>Fy x.1 y.1 else none
theorem IsL.rep {K:PySem.W.Frag}{H:Hp}{vs:List V}{ds:List D}(h:IsL K H vs ds):∀k:Nat,IsL K H (List.replicate k vs).flatten (List.replicate k ds).flatten
 |0=>.nil
 |k+1=>by rw[List.replicate_succ,List.replicate_succ,List.flatten_cons,List.flatten_cons];exact h.append (IsL.rep h k)
section
variable {X:Cx}{a b:Expr}{pos:Pos}
theorem AD {fa fb:FE}(ha:JE X a fa)(hb:JE X b fb):JE X (.BinOp a .Mult b pos) (yJ fa fb):=by
 refine PE.to (Dx EG ha hb) λσ H Q q=>?_;obtain⟨B,ρ,d,bb,sB,r,ee,q⟩:=q;obtain⟨x,ex,ee⟩:=oX ee;split at ee
 ·rename_i hx;obtain⟨⟨yd,yb⟩,ey,ee⟩:=oX ee;refine⟨B,ρ,x.1,x.2,sB,r,ex,λv H1 N1 x1 i1 fr=>⟨N1,ρ,yd,yb,x1.nh,r.mono x1.bn,ey,λu H2 N2 x2 i2 hfr=>?_⟩⟩;obtain⟨a0,vs,ds,rfl,e1,h0,h1,il⟩:=fr hx;rw[e1]at ee;clear hfr;cases i2<;>try (simp[Fy]at ee;done)
  rename_i k;simp only[Fy]at ee;split at ee
  ·rename_i hk;cases ee
   have hl:=il.length;refine⟨a0,k,vs,rfl,rfl,x2.nh _ _ (x2.bn _ _ h1),by omega,by omega,by rw[hl];exact Nat.le_trans hk.2.1 (by decide:(1000:Nat)<=sizeLine),λp hp=>?_⟩;have x3:=Ext.laid (o:=.lst (List.replicate k.toNat vs).flatten) x2.nh hp;have il3:=((il.mono x2.bn).mono x3.bn).rep k.toNat;exact q _ _ _ ((x1.trans x2).trans x3) (.lst (SqL.of aD) il3) λ_=>⟨_,_,_,rfl,rfl,(x1.trans x2).hh.free hp,aD,il3⟩
  ·cases ee
 ·cases ee
end
noncomputable def fV:List D->Option (List Key)
 |[]=>some []
 |d::ds=>(jK d).bind λk=>(fV ds).map (k :: ·)
theorem vK {K:PySem.W.Frag}{B:Hp}:∀ {vs:List V}{ds:List D}{ks:List Key},IsL K B vs ds->fV ds=some ks->vs=ks.map kV
 |_,_,ks,.nil,e=>by simp[fV]at e;subst e;rfl
 |_,_,ks,.cons i is,e=>by
  simp only[fV]at e;obtain⟨k,h1,e⟩:=oX e;obtain⟨r,h2,rfl⟩:=oY e;rw[A9 i h1,vK is h2];rfl
@[simp] noncomputable def AE (fo:FE)(fa:FA):FE:=λρ=>(fo ρ).bind λx=>(fa ρ).bind λds=>match x.1 with
 |.dt kss vs=>if ds.length<=sizeLine then (fV ds).map λk=>((cn kss vs k).getD .non,false)else none
 |_=>none
section
variable {X:Cx}{o:Expr}{es:List Expr}{pos:Pos}
theorem AF {apos cpos tpos:Pos}{x1:Nat}{fo:FE}{fa:FA}(hu:X.A.units+1<cLine)(ho:JE X o fo)(ha:JA X es fa)(m:M1 X o "get" apos (.Tuple es x1 tpos) cpos):JE X (.Call (.Attribute o "get" apos) [.Tuple es x1 tpos] [] cpos) (AE fo fa):=by
 refine PE.to (rW hu ho (uP ha) m) λσ H Q q=>?_;obtain⟨B,ρ,d,bb,sB,r,ee,q⟩:=q;obtain⟨x,ex,ee⟩:=oX ee;obtain⟨ds,ey,ee⟩:=oX ee;refine⟨B,ρ,x.1,x.2,sB,r,ex,λv H1 N1 x1 i1 ff=>?_⟩;obtain⟨xd,xb⟩:=x;cases i1 with
 |@dt a ks vs dvs h hl hs=>
  simp only at ee;split at ee
  ·rename_i hz;obtain⟨k,hk,ee⟩:=oY ee;cases ee
   refine⟨a,rfl,.inr ⟨_,.inl (x1.nh _ _ h)⟩,N1,ρ,ds,x1.nh,r.mono x1.bn,ey,λus H2 N2 x2 i2=>?_⟩;have hv:=vK i2 hk;have hul:us.length<=sizeLine:=by rw[i2.length];exact hz
   refine⟨hul,λp hp=>?_⟩;have x3:=Ext.laid (o:=.tup us) x2.nh hp;have ha2:N2 a=some (.dT (ks.zip vs)):=x2.bn _ _ h;refine⟨jk (ks.zip vs) k,.inr ⟨_,k,p,.inl (x3.nh _ _ (x3.bn _ _ ha2)),rfl,by rw[aD,hv],rfl⟩,?_⟩;have hs2:=(hs.mono x2.bn).mono x3.bn;rcases vH k hl hs2 with⟨v,d',e1,e2,i3⟩|⟨e1,e2⟩
   ·rw[e1];rw[e2]at q;exact(q.into ((x1.trans x2).trans x3)).one x3.nh i3
   ·rw[e1];rw[e2]at q;exact(q.into ((x1.trans x2).trans x3)).one x3.nh .non
  ·cases ee
 |_=>simp at ee
end
section
variable {K:PySem.W.Frag}{E:Ends}{σ:St}{H:Hp}
noncomputable def pF (i:Nat)(fk:FA)(fv:FE):FS:=λρ=>match ρ[i]? with
 |some (some (.dt ks vs,true))=>(fv ρ).bind λv=>(fk ρ).bind λkd=>(fV kd).bind λkk=>if bc v.1=true/\ks.length<sizeLine/\kd.length<=sizeLine then some (.nx (ρ.set i (some (.dt (dM ks kk) (dN ks vs kk v.1),true))))else none
 |_=>none
theorem AG {i:Nat}{fk:FA}{fv:FE}(q:tDS K (pF i fk fv) E σ H):D3 (Ei i) (Gx (tDA K fk)) (tD K fv) E σ H:=by
 obtain⟨B0,H0,ρ,r,⟨N,s⟩,e,p⟩:=q;unfold pF at e;split at e
 ·rename_i ks ds ei;obtain⟨v,ev,e⟩:=oX e;obtain⟨kd,ek,e⟩:=oX e;obtain⟨kk,hk,e⟩:=oX e;split at e
  ·rename_i hx;cases e
   refine⟨N,ρ,v.1,v.2,s.ext.nh,s.rep,ev,λv1 H1 N1 x1 i1 _=>?_⟩;have s1:=s.grow x1;obtain⟨a,o,h1,h2,h3,h4⟩:=s1.ow i _ ei;refine⟨.ref a,h1,N1,ρ,kd,s1.ext.nh,s1.rep,ek,λus H2 N2 x2 i2=>?_⟩;have s2:=s1.grow x2;have hv:=vK i2 hk;refine⟨by rw[i2.length];exact hx.2.2,λpp hp=>?_⟩;have x3:=Ext.laid (o:=.tup us) s2.ext.nh hp;have s3:=s2.grow x3;obtain⟨a',o',k1,k2,k3,k4⟩:=s3.ow i _ ei;rw[h1]at k1;cases k1
   cases k4 with
   |@dt ks vs ds hl h5=>
    refine⟨a,rfl,.inr ⟨_,kk,pp,s3.ext.nh _ _ k2,rfl,by rw[aD,hv],?_,?_⟩⟩
    ·rw[List.length_zip];omega
    ·rw[xi hl];exact p σ _ ⟨_,s3.writeB ei h1 (.dt (qS hl _ _) (h5.put (s3.flat ((i1.mono x2.bn).mono x3.bn) hx.1)))⟩
  ·cases e
 ·cases e
end
section
variable {X:Cx}{pos:Pos}{e:Expr}{es:List Expr}
theorem CM {i:Nat}{y:Str}{py pt tpos:Pos}{x1:Nat}{fk:FA}{fv:FE}(hu:X.A.units+1<cLine)(hv:JE X e fv)(hk:JA X es fk)(hN:X.N[i]? = some y:=by rfl)(hvis:Vis X.env.scope y:=by first|exact Or.inl rfl|exact Or.inr (Or.inl rfl)|exact Or.inr (Or.inr rfl))(hd:(y == ("__debug__" : Str))=false:=by decide)
  (hcd:(y == ("__classdict__" : Str))=false:=by decide) (hs:swapsWith e (some (.Subscript (.Name y py) (.Tuple es x1 tpos) pt)) pos.line X.env=pure false:=by rfl):JS X (.Assign [.Subscript (.Name y py) (.Tuple es x1 tpos) pt] e pos) (pF i fk fv) :=
 PS.to (Ce hu (lT hN hvis hd hcd) (uP hk) hv hs) λ_ _ _ q=>AG q
end
end DL
namespace DL
open PySem PySem.Spec PySem.W PyProof.Rows L2
section
variable {X:Cx}{a b c:Expr}{p pos:Pos}
noncomputable def Fz (lo c:Int)(n:Nat):List D:=(List.range n).map λ(k:Nat)=>.int (lo+(k:Int)*c)
@[simp] noncomputable def Ht (f g h:FE):FA:=λρ=>(f ρ).bind λx=>(g ρ).bind λy=>(h ρ).bind λz=>match x.1,y.1,z.1 with
 |.int i,.int j,.int c=>if(-1000<=i/\i<=1000/\-1000<=j/\j<=1000)/\(c=1∨c=2∨c=3)then some (Fz i c (Builtin.Range.rangeSize i j c).toNat)else none
 |_,_,_=>none
end
end DL
namespace L2
open PySem PySem.Spec PyProof.Rows
noncomputable def ItV (a:Addr)(kvs:List (Key×V))(ob:Obj):It:=⟨λi H=>H a=some (.dK kvs ob)/\i<kvs.length,λi H x H'=>H'=H/\∃k,kvs[i]? = some (k,x),λi H=>H a=some (.dK kvs ob)/\kvs.length<=i⟩
theorem KV.get {kvs:List (Key×V)}{vs:List (Key×Value)}(r:KV kvs vs){i:Nat}{k:Key}{x:V}(h:kvs[i]? = some (k,x)):∃u,vs[i]? = some (k,u)/\aS x u:=by
 unfold KV at r;induction r generalizing i with
 |nil=>simp at h
 |@cons p q ps qs hq t ih=>
  cases i with
  |zero=>
   cases (show p=(k,x)from Option.some.inj h)
   obtain⟨q1,q2⟩:=q;exact⟨q2,by rw[show k=q1 from hq.1];rfl,hq.2⟩
  |succ i=>exact ih h
section
variable {P:Program}{w:World}{H:Hp}{h:Heap}{a:Addr}
theorem AH {kvs:List (Key×V)}{ob:Obj}{es:Array DictEntry}{ep:Nat}(ok:HOk P w H h)(e:H a=some (.dK kvs ob))(hd:ob.data=.dict es ep):∃vs,KV kvs vs/\h.DictAt (ce P w) a vs ep:=by
 obtain⟨_,_,vs,r,o,es',ep',h1,h2,h3,h4⟩:=rV ok e;rw[uV ok e]at h1;cases h1
 rw[hd]at h3;cases h3
 exact⟨vs,r,ob,es,uV ok e,h2,hd,h4⟩
theorem CN {kvs:List (Key×V)}{ob:Obj}(ok:HOk P w H h)(e:H a=some (.dK kvs ob)):∃es ep,ob.data=.dict es ep:=by
 obtain⟨_,_,vs,r,o,es',ep',h1,h2,h3,h4⟩:=rV ok e;rw[uV ok e]at h1;cases h1
 exact⟨es',ep',h3⟩
end
theorem yK {P:Program}{w:World}{K:PySem.W.Frag}{tg:Expr}(a it:Addr)(kvs:List (Key×V))(ob:Obj){es:Array DictEntry}{ep:Nat}(hd:ob.data=.dict es ep):Turn P w K tg (ItV a kvs ob) [it] it (λi h=>h.IsValIter it a i kvs.length ep) where
 mem:=by simp
 obj:=λi h st b hb=>by
  have e:b=it:=by simpa using hb
  subst e;obtain⟨o,e,c,d⟩:=st;exact⟨o,e,λv z=>by rw[d]at z;cases z⟩
 keep:=λi h h' st k=>st.at λo e=>k it (by simp) o e
 item:=by
  intro X hP hw hK hc i pins s σ H E I hf st hg;subst hP hw hK;obtain⟨hH,hlt⟩:=hg;obtain⟨vs,r,m⟩:=AH I.hok hH hd;obtain⟨f0,f1,f2,f3,f4,f5⟩:=hf it (by simp);have hl:vs.length=kvs.length:=(Paired.length r).symm;obtain⟨u,hu,ru⟩:=r.get (k:=kvs[i].1) (x:=kvs[i].2) (List.getElem?_eq_getElem hlt);refine wpAny_pyNext_values_item (by rw[hl];exact st) m hu λh' st' sb=>?_;rw[hl]at st';have I1:Inv X pins σ H { s with heap:=h' }:=I.turned (t':=s.toks) (λb o hb e=>(sb.2 b hb).trans e) f0 f1 f3 f4 f5;obtain⟨o,e,c,d⟩:=id st';exact⟨u,rfl,oJ (s:={ s with heap:=h' }) e c d (by decide) ⟨kvs[i].2,H,I1,ru,⟨rfl,kvs[i].1,List.getElem?_eq_getElem hlt⟩,st',λb hb=>(hf b hb).1⟩⟩
 done:=by
  intro X hP hw hK hc i pins s σ H E I hf st hg;subst hP hw hK;obtain⟨hH,hle⟩:=hg;obtain⟨vs,r,m⟩:=AH I.hok hH hd;obtain⟨f0,f1,f2,f3,f4,f5⟩:=hf it (by simp);have hl:vs.length=kvs.length:=(Paired.length r).symm;exact wpAny_pyNext_values_end (I.ok.hd hc) (by rw[hl];exact st) m (List.getElem?_eq_none (by omega)) λh' eb=>⟨rfl,I.turned (t':=s.toks) (λb o hb e=>eb b o hb e) f0 f1 f3 f4 f5⟩
 self:=λ_ _ _ _ _ st h=>wpAny_pyIter_valiter st h
section
variable {X:Cx}{tg:Expr}
def Ha (td:TE):TI:=λσ H R=>td σ H λx H1=>∃a kvs ob,x=.ref a/\H1 a=some (.dK kvs ob)/\R (ItV a kvs ob) H1
theorem CO {o:Expr}{td:TE}{apos cpos:Pos}(ho:PE X o td)(hbase:attributeBase o "values" X.env (eval o X.env)=eval o X.env:=by rfl)(hline:(apos.endLine == cpos.line)=true:=by rfl):PI X tg (.Call (.Attribute o "values" apos) [] [] cpos) (Ha td):=by
 intro pins s σ H R I h;refine wpAny_Call_method0_late hbase hline (thn (ho pins s σ H _ I h) λv s1 ⟨x,H1,I1,r1,a,kvs,ob,ex,hH,q⟩=>?_);subst ex;obtain⟨h1,h2⟩:=zA I1 r1 (T:="dict") (.inr (.inr (.inl ⟨rfl,.inl ⟨kvs,ob,hH⟩⟩)));cases r1
 obtain⟨es,ep,hd⟩:=CN I1.hok hH;obtain⟨vs,r,m⟩:=AH I1.hok hH hd;have hl:vs.length=kvs.length:=(Paired.length r).symm;refine⟨"dict","dict.values",PySem.F.plainAttrs_dict,PySem.F.slot_dict_values,PySem.F.type_dict_values,h1,h2,Calls.callWith_builtin rfl (PySem.evalArgs_none ?_)⟩;refine call_meetsIn PySem.F.slot_dict_values h1 PySem.F.entry_dict_values (PySem.F.args_dict_values_1 _) (meets_dict_values (ce X.prog X.w) a (rV I1.hok hH).2.1) ⟨⟨vs,m.dictOf⟩,?_⟩;have I2:Inv X pins σ H1 { s1 with heap:=s1.heap.push { cls:=.type "dict_values",data:=.fields #[.ref a] } }:=I1.kept (t':=s1.toks) λb o e=>Heap.get?_push_of_some _ e;refine wpAny_pyIter_values (v:=s1.heap.objs.size) ⟨_,Heap.get?_push_size _ rfl,rfl,rfl⟩ (m.keep λb o e=>Heap.get?_push_of_some _ e) ?_;rw[hl];refine⟨(s1.heap.push { cls:=.type "dict_values",data:=.fields #[.ref a] }).objs.size,[(s1.heap.push { cls:=.type "dict_values",data:=.fields #[.ref a] }).objs.size],_,_,H1,rfl,I2.kept (t':=s1.toks) λb o e=>Heap.get?_push_of_some _ e,yK a _ kvs ob hd,⟨_,Heap.get?_push_size _ rfl,rfl,rfl⟩,λb hb=>?_,q⟩;have e:b=(s1.heap.push { cls:=.type "dict_values",data:=.fields #[.ref a] }).objs.size:=by simpa using hb
 subst e;exact I2.fpOk (Nat.le_refl _) (I2.hok.fresh (Nat.le_refl _))
end
end L2
namespace DL
open PySem PySem.Spec PySem.W PyProof.Rows L2
noncomputable def kD:Key->D
 |.inl i=>.int i
 |.inr z=>.str z
section
variable {K:PySem.W.Frag}{B:Hp}
theorem CP {a:Addr}{ks:List Key}{vs:List V}{ds:List D}{ob:Obj}(h:B a=some (.dK (ks.zip vs) ob))(hl:ks.length=vs.length)(hs:IsL K B vs ds):o0 K (ItV a (ks.zip vs) ob) B ds:=by
 intro i H s;have hz:(ks.zip vs).length=vs.length:=by rw[List.length_zip];omega
 refine⟨λd ed=>?_,λhlen=>⟨s _ _ h,by rw[hz,hs.length];exact hlen⟩⟩;obtain⟨v,ev,iv⟩:=hs.get ed;have hlt:i<vs.length:=(List.getElem?_eq_some_iff.mp ev).1;refine⟨⟨s _ _ h,by rw[hz];exact hlt⟩,λy H3 hy=>?_⟩;obtain⟨rfl,k,e⟩:=hy;have:=(List.getElem?_zip_eq_some.mp e).2;rw[ev]at this;cases this
 exact⟨B,.refl s,iv⟩
end
section
variable {X:Cx}{e:Expr}{tg:Expr}
@[simp] noncomputable def vL (f:FE):FA:=λρ=>(f ρ).bind λx=>match x.1 with|.dk _ ds=>some ds|_=>none
@[simp] noncomputable def Ia (f:FE):FA:=λρ=>(f ρ).bind λx=>match x.1 with|.dk ks _=>some (ks.map kD)|_=>none
theorem CQ {f:FE}{apos cpos:Pos}(h:JE X e f)(hbase:attributeBase e "values" X.env (eval e X.env)=eval e X.env:=by rfl)(hline:(apos.endLine == cpos.line)=true:=by rfl):JI X tg (.Call (.Attribute e "values" apos) [] [] cpos) (vL f):=by
 intro pins s σ H R I q;obtain⟨B,ρ,ds,sB,r,e',q⟩:=q;obtain⟨⟨xd,xb⟩,ex,es⟩:=oX e';cases xd<;>try (cases es;done)
 cases es
 refine CO h hbase hline pins s σ H R I ⟨B,ρ,_,_,sB,r,ex,λv H1 N1 x1 i1 _=>?_⟩;cases i1 with
 |@dk a ks vs ds ob hd hl hs=>exact⟨a,_,ob,rfl,x1.nh _ _ hd,q _ H1 N1 x1 (CP hd hl hs)⟩
end
end DL
namespace DL
open PySem PySem.Spec PyProof.Rows L2
@[simp] noncomputable abbrev ixV (i:Nat)(j:Int):FE:=f2 ixD (ae i) (fC (.int j))
theorem aq {X:Cx}{k j:Nat}{x:Str}{f:List D->Option (D×Bool)}{fa:FA}{e:Expr}{es:List Expr}{p pos:Pos}(F:Fn X.prog X.w X.K X.mg X.base k x f)(hr:Room j X.A)(ha:JA X (e::es) fa)(hj:k<=j:=by decide)(hg:Gl X x:=by rfl)(hdb:(x == ("__debug__" : Str))=false:=by decide)(he:starEach (e::es) X.env=(false,eval e X.env)::starEach es X.env:=by rfl)(hpl:(backTo pos (starEach es X.env)).any (·.1)=false:=by rfl):JE X (.Call (.Name x p) (e::es) [] pos) (fA f fa):=Cy F (hr.mono hj) ha hg hdb he hpl
theorem Hb {X:Cx}{scope:Scope}(h1:∀y∈scope.names,y.2≠.cell:=by decide +kernel)(h2:scope.kind=.function:=by rfl)(h3:∀y∈scope.names,y.2=.local->scope.names.lookup y.1=some .local:=by decide +kernel)(h4':(scope.names.all λy=>!(y.2 == NameKind.free) || (X.env.cells.lookup y.1).isSome)=true:=by rfl):CompSc X scope (cO scope.names X.env.cells []):=EO h1 h2 h3 h4'
theorem cpC {X:Cx}{N':List Str}{scope:Scope}{j i:Nat}{r:List Nat}{x:Str}(h1:N'[j]? = some x)(h2:X.N[i]? = some x)(t:Caps X N' scope (cO scope.names X.env.cells []) (j+1) r)(h3:X.env.kindOf x=some .cell∨X.env.kindOf x=some .free:=by exact Or.inl rfl)(h4:(relabel scope X.env).names.lookup x=some .cell∨(relabel scope X.env).names.lookup x=some .free:=by exact Or.inl rfl)(hf:(x,NameKind.free)∈scope.names:=by decide +kernel)(hc:(X.env.cells.lookup x).isSome=true:=by rfl):Caps X N' scope (cO scope.names X.env.cells []) j (i::r):=.cons h1 h2 h3 h4 (lK hf hc) t
end DL
namespace DL
open PySem PySem.Spec PySem.W PyProof.Rows L2
noncomputable def atD:At->D
 |.i n=>.int n
 |.s z=>.str z
section
variable {prog:Program}{w:World}{A:Around}{E:Value->Shared->Prop}{s:Shared}
theorem Hd {x y:At}{u v:Value}(hx:atV x u)(hy:atV y v):SeqAt.EqAt A s u v (eqD (atD x) (atD y)):=by
 cases x with
 |i a=>
  obtain⟨t,rfl⟩:=hx;cases y with
  |i c=>obtain⟨t',rfl⟩:=hy;simp only[atD,eqD];exact SeqAt.EqAt.int_int _ _ _ _
  |s c=>obtain⟨t',rfl⟩:=hy;simp only[atD,eqD];exact SeqAt.EqAt.int_str _ _ _ _
 |s a=>
  obtain⟨t,rfl⟩:=hx;cases y with
  |i c=>obtain⟨t',rfl⟩:=hy;simp only[atD,eqD];exact SeqAt.EqAt.str_int _ _ _ _
  |s c=>obtain⟨t',rfl⟩:=hy;simp only[atD,eqD];exact SeqAt.EqAt.str_str _ _ _ _
theorem xj:∀ {xs ys:List At}{vs:List Value},Paired atV xs vs->Paired atV ys vs->xs=ys
 |_,_,_,.nil,.nil=>rfl
 |x::xs,y::ys,_,.cons p ps,.cons q qs=>by
  rw[xj ps qs];congr 1;cases x with
  |i a=>
   obtain⟨t,rfl⟩:=p;cases y with
   |i c=>obtain⟨t',e⟩:=q;cases e;rfl
   |s c=>obtain⟨t',e⟩:=q;cases e
  |s a=>
   obtain⟨t,rfl⟩:=p;cases y with
   |i c=>obtain⟨t',e⟩:=q;cases e
   |s c=>obtain⟨t',e⟩:=q;cases e;rfl
theorem F0 (x y:At):eqD (atD x) (atD y)=true↔x=y:=by
 cases x<;>cases y<;>simp[atD]
theorem lO:∀xs ys:List At,cB (xs.map atD) (ys.map atD)=true↔xs=ys
 |[],[]=>by simp[cB]
 |[],_::_=>by simp[cB]
 |_::_,[]=>by simp[cB]
 |x::xs,y::ys=>by
  rw[List.map_cons,List.map_cons,cB,Bool.and_eq_true,F0,lO xs ys];simp
theorem F3 {xs ys:List At}{x y:Value}(hx:d3 s.heap xs x)(hy:d3 s.heap ys y)(hu:A.units<cLine):SeqAt.EqAt A s x y (cB (xs.map atD) (ys.map atD)):=by
 obtain⟨a,o,its,n,rfl,ho,hc,hd,r⟩:=hx;obtain⟨b,o',jts,m,rfl,ho',hc',hd',r'⟩:=hy;by_cases hab:a=b
 ·subst hab;rw[ho]at ho';cases ho';rw[hd]at hd';cases hd';rw[xj r r',(lO ys ys).mpr rfl];exact SeqAt.EqAt.same _
 ·have t1:s.heap.IsTuple a its:=⟨o,ho,hc,n,hd⟩;have t2:s.heap.IsTuple b jts:=⟨o',ho',hc',m,hd'⟩;have l1:xs.length=its.size:=by rw[←Array.length_toList];exact dU r
  have l2:ys.length=jts.size:=by rw[←Array.length_toList];exact dU r'
  have he:∀j (h1:j<its.size) (h2:j<jts.size),SeqAt.EqAt A.in1 s its[j] jts[j] (eqD ((xs.map atD).getD j .non) ((ys.map atD).getD j .non)):=λj h1 h2=>by
   have p:=d4 (.i 0) Value.none r (i:=j) (by omega);have q:=d4 (.i 0) Value.none r' (i:=j) (by omega);have e1:its.toList.getD j Value.none=its[j]:=by rw[List.getD_eq_getElem?_getD,Array.getElem?_toList,Array.getElem?_eq_getElem h1];rfl
   have e2:jts.toList.getD j Value.none=jts[j]:=by rw[List.getD_eq_getElem?_getD,Array.getElem?_toList,Array.getElem?_eq_getElem h2];rfl
   rw[e1]at p;rw[e2]at q;have e3:(xs.map atD).getD j .non=atD (xs.getD j (.i 0)):=by simp[List.getD_eq_getElem?_getD,show j<xs.length by omega]
   have e4:(ys.map atD).getD j .non=atD (ys.getD j (.i 0)):=by simp[List.getD_eq_getElem?_getD,show j<ys.length by omega]
   rw[e3,e4];exact Hd p q
  have rc:=SeqAt.RcAt.tuples t1 t2 hu he;have eqv:((List.range (min its.size jts.size)).all (λj=>eqD ((xs.map atD).getD j .non) ((ys.map atD).getD j .non)) && its.size == jts.size)=cB (xs.map atD) (ys.map atD):=by
   rw[←l1,←l2];by_cases hl:xs.length=ys.length
   ·rw[←hl,Nat.min_self,beq_self_eq_true,Bool.and_true];have:=gL (λj=>eqD ((xs.map atD).getD j .non) ((ys.map atD).getD j .non)) (xs:=xs.map atD) (ys:=ys.map atD) (by simpa using hl) λj x y e1 e2=>q8 j x y e1 e2;rwa [List.length_map]at this
   ·rw[qz (by simpa using hl),beq_eq_false_iff_ne.mpr hl,Bool.and_false]
  rw[eqv]at rc;exact SeqAt.EqAt.of_refs hab rc
theorem yL (xs:List At):aJ xs xs=some false:=by
 induction xs with
 |nil=>rfl
 |cons x xs ih=>cases x<;>rw[aJ,if_pos rfl,ih]
theorem AI {Q:Bool->Shared->Prop}{n m:Int}{xs ys:List At}{t t':Bool}{x y:Value}{b:Bool}(hx:d3 s.heap xs x)(hy:d3 s.heap ys y)(h:aJ (.i n::xs) (.i m::ys)=some b)(hu:A.units<cLine)(q:Q b s){u v:Value}(hn:atV (.i n) u)(hm:atV (.i m) v):KatLex prog w A true false Q [(u,v),(x,y)] 0 s:=by
 obtain⟨t,rfl⟩:=hn;obtain⟨t',rfl⟩:=hm;refine kat_cons (wpAny_eqBool_int ?_);rw[aJ]at h;by_cases e:n=m
 ·rw[if_pos e]at h;rw[show(n == m)=true by simp[e]];refine kat_yes (kat_cons (F3 hx hy hu _ _ _ _ ?_));by_cases e2:xs=ys
  ·rw[(lO xs ys).mpr e2];rw[e2,yL]at h;cases h
   exact kat_yes (kat_nil q)
  ·rw[Bool.eq_false_iff.mpr λz=>e2 ((lO xs ys).mp z)];refine kat_no (kat_one _ _ ?_);show wpAny _ _ (richCompare .Lt x y) _ _ _;exact A7 (Q:=W.BoolBack Q) hx hy h hu (by first|exact q|exact⟨b,rfl,q⟩)
 ·rw[if_neg e]at h;cases h
  rw[show(n == m)=false by simp[e]];exact kat_no (oneLt_int q)
end
def yM (h:Heap)(xs:List At)(v:Value):Prop:=∃n k a o its m u x,xs=.i n::k/\v=.ref a/\h.get? a=some o/\o.cls=.type "tuple"/\o.data=.seq its m/\its.toList=[u,x]/\atV (.i n) u/\d3 h k x
section
variable {prog:Program}{w:World}{A:Around}{E:Value->Shared->Prop}{s:Shared}
theorem CS {Q:Bool->Shared->Prop}{xs ys:List At}{x y:Value}{b:Bool}(hx:yM s.heap xs x)(hy:yM s.heap ys y)(h:aJ xs ys=some b)(hu:A.units<cLine)(q:Q b s):wpAny (model prog w) A (keyLt' (tuples' true) x y) Q E s:=by
 obtain⟨n,k,a,o,its,m,u,x',rfl,rfl,ho,_,hd,ei,an,tx⟩:=hx;obtain⟨n',k',a',o',its',m',u',y',rfl,rfl,ho',_,hd',ei',an',ty⟩:=hy;refine kat_lt ho hd ho' hd' ?_;rw[ei,ei'];have hf:decide (its.size<its'.size)=false:=by
  rw[←Array.length_toList,←Array.length_toList,ei,ei'];rfl
 rw[hf];exact AI (t:=true) (t':=true) tx ty h hu q an an'
theorem lg {h:Heap}:∀ {ks:List (List At)}{vs:List Value},Paired (yM h) ks vs->∃fs,KatTups h vs fs/\fs.length=ks.length/\∀v∈fs,∃n,atV (.i n) v
 |_,_,.nil=>⟨[],trivial,rfl,by simp⟩
 |k::ks,_,.cons x t=>by
  obtain⟨fs,h1,h2,h3⟩:=lg t;obtain⟨n,k,a,o,its,m,u,x',rfl,rfl,ho,hc,hd,ei,an,_⟩:=x;refine⟨u::fs,KatTups.cons ho hc hd (by rw[←Array.getElem?_toList,ei];rfl) h1,by simp[h2],λv hv=>?_⟩;rcases List.mem_cons.mp hv with rfl|hv
  ·exact⟨n,an⟩
  ·exact h3 v hv
theorem yN {ks:List (List At)}{vs:List Value}{Q:SortKind->Shared->Prop}(hp:Paired (yM s.heap) ks vs)(hn:0<ks.length)(q:Q (tuples' true) s):wpAny (model prog w) A (keyKind' vs.toArray) Q E s:=by
 obtain⟨fs,h1,h2,h3⟩:=lg hp;refine kat_kind (T:=.type "int") h1 (by omega) (λv hv=>?_) (by decide) q;obtain⟨n,t,rfl⟩:=h3 v hv;exact .now
theorem AJ {ks:List (List At)}{vs:List Value}(hc:cy ks=true)(hu:A.units<cLine)(hp:Paired (yM s.heap) ks vs):∀(i j:Nat)(C:Bool->Shared->Prop)(s1:Shared),i<ks.length->j<ks.length->s1=s->(∀s',s'=s->C (ltR (rkK ks) i j) s')->kas_ask prog w A (tuples' true) vs i j C s1:=by
 intro i j C s1 hi hj e hC;subst e;unfold kas_ask;have mi:ks.getD i []∈ks:=by rw[List.getD_eq_getElem?_getD,List.getElem?_eq_getElem hi];exact List.getElem_mem hi
 have mj:ks.getD j []∈ks:=by rw[List.getD_eq_getElem?_getD,List.getElem?_eq_getElem hj];exact List.getElem_mem hj
 refine CS (d4 [] Value.none hp hi) (d4 [] Value.none hp hj) (f9 hc mi mj) hu ?_;have:=hC s1 rfl;unfold ltR rkK at this;rw[tw (List.mem_map.mpr ⟨_,mi,rfl⟩)]at this;exact this
end
noncomputable def F4:D->Option (List At)
 |.tup [.int n,.tup es]=>(c7 es).map (.i n :: ·)
 |_=>none
noncomputable def gw:List D->Option (List (List At))
 |[]=>some []
 |d::ds=>(F4 d).bind λa=>(gw ds).map (a :: ·)
theorem pG:∀ {ds:List D}{ks:List (List At)},gw ds=some ks->ks.length=ds.length
 |[],_,h=>by simp only[gw]at h;cases h;rfl
 |d::ds,_,h=>by
  simp only[gw]at h;obtain⟨a,h1,h⟩:=oX h;obtain⟨r,h2,h⟩:=oY h;subst h;simp[pG h2]
theorem tJ {X:Cx}{pins:List (Addr×Obj)}{σ:St}{H:Hp}{s:Shared}(I:Inv X pins σ H s):∀ {ys:List V}{ds:List D}{ks:List (List At)}{its:List Value},aQ ys its->IsL X.K H ys ds->gw ds=some ks->Paired (yM s.heap) ks its
 |_,_,_,_,.nil,.nil,h=>by simp only[gw]at h;cases h;exact .nil
 |_,_,_,_,.cons r rr,.cons i ii,h=>by
  simp only[gw]at h;obtain⟨a,h1,h⟩:=oX h;obtain⟨t,h2,h⟩:=oY h;subst h;refine .cons ?_ (tJ I rr ii h2);unfold F4 at h1;split at h1
  ·rename_i n es;obtain⟨k,hk1,rfl⟩:=oY h1;cases i with
   |tup hq hl=>
    cases r
    obtain⟨its',r',⟨o,ho,hc,m,hd⟩,_⟩:=I.tuple hq;cases hl with
    |cons i1 hl=>
     cases hl with
     |cons i2 hl=>
      cases hl
      cases r' with
      |cons r1 r'=>
       cases r' with
       |cons r2 r'=>
        cases r'
        cases i1
        have hk:cA [D.tup es]=some [k]:=by show(c7 es).bind _=_;rw[hk1];rfl
        have ht:=jH I (.cons r2 .nil) (.cons i2 .nil) hk;cases ht with
        |cons ht _=>exact⟨n,k,_,o,_,m,_,_,rfl,rfl,ho,hc,hd,rfl,r1,ht⟩
  ·cases h1
theorem CT {X:Cx}{A:Around}(hu:A.units<cLine):KK X A gw λ_=>true:=⟨pG,λI _ _ _ _ r i e _ hc=>have hp:=tJ I r i e;⟨λhn _ _ q=>yN hp hn q,AJ hc hu hp⟩⟩
theorem AK {X:Cx}(hu:X.A.units+40<cLine):KK X X.A.in1.in1 gw λ_=>true:=CT (show X.A.units+1+1<cLine by omega)
@[simp] noncomputable abbrev vM:FE->(Env->D->Option D)->FE:=qR gw λ_=>true
end DL
namespace DL
open PySem PySem.Spec PyProof.Rows L2
section
variable {P:Program}{w:World}{K:PySem.W.Frag}{mg:Str->Option Value}{base:Heap}
theorem Def.fq {x:Str}{st:Stmt}{k:Nat}{g:FS}{h:Heap}(F:Def K x st)(X:K.In h)(G:h.Ns mainGlobals mg)(N:List Str)(n:Nat)
  (hb:N.Nodup->∀(f:Addr)(cdv:Value)(A:Around)(outer:List PySem.Env)(s:Shared)(H:Hp)(E:XK),Room k (A.deeper (envOfC x (aM st) s.heap.objs.size f cdv))->(A.deeper (envOfC x (aM st) s.heap.objs.size f cdv)).units+40<cLine->JSs (lB CX0 P w K mg base N x (aM st) f cdv A outer s H E).nox (cf st) g)
  (S:FnScope N (N.take n) (aM st):=by refine⟨rfl,rfl,rfl,?_,rfl,?_,?_⟩<;>decide +kernel)
  (hbd:∀(kV doc pm:Value)(an:Option Addr)(cdv ct:Value)(us:List Value),us.length=(N.take n).length->bindArgs (PySem.W.fnOf x x (eF st) (cf st) (aM st) .none kV doc pm an cdv ct) ⟨us,[]⟩=pure ((N.take n).zip us):=by
   intro _ _ _ _ _ _ us hl;first
    | (have hl:us.length=1:=hl;exact match us,hl with|[_],_=>rfl)
    | (have hl:us.length=2:=hl;exact match us,hl with|[_,_],_=>rfl)
    | (have hl:us.length=3:=hl;exact match us,hl with|[_,_,_],_=>rfl)
    | (have hl:us.length=4:=hl;exact match us,hl with|[_,_,_,_],_=>rfl)
    | (have hl:us.length=5:=hl;exact match us,hl with|[_,_,_,_,_],_=>rfl)
    | (have hl:us.length=6:=hl;exact match us,hl with|[_,_,_,_,_,_],_=>rfl)
    | (have hl:us.length=7:=hl;exact match us,hl with|[_,_,_,_,_,_,_],_=>rfl)):
  Fn P w K mg base (k+1) x (aN g (N.take n).length (N.length - (N.take n).length)):=F.fn X G S hbd λf cdv A outer s H E hr=>hb S.nd f cdv A outer s H E hr (vn hr)
theorem Def.fqL {x:Str}{st:Stmt}{k:Nat}{g:FS}{h:Heap}(F:Def K x st)(X:K.In h)(G:h.Ns mainGlobals mg)(N:List Str)(n:Nat)
  (hb:N.Nodup->∀(f:Addr)(cdv:Value)(A:Around)(outer:List PySem.Env)(s:Shared)(H:Hp)(E:XK),(∀c P,PySem.W.tabIn K x=some (c,P)->cdv=.ref c)->Room k (A.deeper (envOfC x (aM st) s.heap.objs.size f cdv))->(A.deeper (envOfC x (aM st) s.heap.objs.size f cdv)).units+40<cLine->JSs (lB CX0 P w K mg base N x (aM st) f cdv A outer s H E).nox (cf st) g)
  (S:FnScope N (N.take n) (aM st):=by refine⟨rfl,rfl,rfl,?_,rfl,?_,?_⟩<;>decide +kernel)
  (hbd:∀(kV doc pm:Value)(an:Option Addr)(cdv ct:Value)(us:List Value),us.length=(N.take n).length->bindArgs (PySem.W.fnOf x x (eF st) (cf st) (aM st) .none kV doc pm an cdv ct) ⟨us,[]⟩=pure ((N.take n).zip us):=by
   intro _ _ _ _ _ _ us hl;first
    | (have hl:us.length=2:=hl;exact match us,hl with|[_,_],_=>rfl)
    | (have hl:us.length=3:=hl;exact match us,hl with|[_,_,_],_=>rfl)
    | (have hl:us.length=4:=hl;exact match us,hl with|[_,_,_,_],_=>rfl)):
  Fn P w K mg base (k+1) x (aN g (N.take n).length (N.length - (N.take n).length)):=F.fnL X G S hbd λf cdv A outer s H E hc hr=>hb S.nd f cdv A outer s H E hc hr (vn hr)
end
section
variable {X:Cx}{x:Str}{pos:Pos}
theorem pgV (i:Nat)(hN:X.N.Nodup)(hi:X.N[i]? = some x:=by rfl)(hx:Loc X.env.scope x:=by first|exact Or.inl rfl|exact Or.inr rfl)(hf:X.fn x=true∨X.env.scope.names.lookup x=some .local:=by first|exact .inl rfl|exact .inr rfl):PG X (.Name x pos) (ie i):=wm hN hi hx hf
theorem pgC {N':List Str}{scope:Scope}{cl:List (Str×Addr)}{C:Addr}{s:Shared}{H:Hp}{fp}(i:Nat)(hN:N'.Nodup:=by decide +kernel)(hi:(dE X N' scope cl C s H fp).N[i]? = some x:=by rfl)(hx:Loc (dE X N' scope cl C s H fp).env.scope x:=by exact Or.inl rfl)(hf:(dE X N' scope cl C s H fp).fn x=true∨(dE X N' scope cl C s H fp).env.scope.names.lookup x=some .local:=by first|exact .inl rfl|exact .inr rfl):PG (dE X N' scope cl C s H fp) (.Name x pos) (ie i):=wm hN hi hx hf
theorem hZ {tg iter elt:Expr}{ifs:List Expr}{scope:Scope}(N':List Str){nT:Nat}{cap:List Nat}{fi:FA}{tgF:FG}{g:TG}{fc:FT}{fe:FE}
  (cp:Caps X N' scope (cO scope.names X.env.cells []) nT cap) (hi:JI X tg iter fi)
  (hg:∀C s H fp,PG (dE X N' scope (cO scope.names X.env.cells []) C s H fp) tg g) (htg:TGE X.K nT tgF g) (hc:∀C s H fp,JC (dE X N' scope (cO scope.names X.env.cells []) C s H fp) ifs fc) (he:∀C s H fp,JE (dE X N' scope (cO scope.names X.env.cells []) C s H fp) elt fe)
  (S:CompSc X scope (cO scope.names X.env.cells []):=by exact Hb) (hcalm:X.calm=true:=by rfl)
  (hs:∀x,foldedSetIterable iter X.env x=pure x:=by intro _;rfl):
  JE X (.ListComp elt [⟨tg,iter,ifs,0⟩] scope pos) (bR fi nT cap tgF fc fe):=Co hcalm S cp hi hg htg hc he hs
theorem mM {tg iter elt:Expr}{ifs:List Expr}{scope:Scope}{spos py:Pos}(N':List Str){nT:Nat}{cap:List Nat}{fi:FA}{tgF:FG}{g:TG}{fc:FT}{fe:FE}{y:Str}{i:Nat}(hN:X.N.Nodup)
  (cp:Caps X N' scope (cO scope.names X.env.cells []) nT cap) (hi:JI X tg iter fi)
  (hg:∀C s H fp,PG (dE X N' scope (cO scope.names X.env.cells []) C s H fp) tg g) (htg:TGE X.K nT tgF g) (hc:∀C s H fp,JC (dE X N' scope (cO scope.names X.env.cells []) C s H fp) ifs fc) (he:∀C s H fp,JE (dE X N' scope (cO scope.names X.env.cells []) C s H fp) elt fe)
  (hi':X.N[i]? = some y:=by rfl) (hy:X.env.kindOf y=some .local:=by rfl)
  (hsw:swapsWith (.ListComp elt [⟨tg,iter,ifs,0⟩] scope pos) (some (.Name y py)) spos.line X.env=pure true:=by rfl)
  (S:CompSc X scope (cO scope.names X.env.cells []):=by exact Hb) (hcalm:X.calm=true:=by rfl)
  (hs:∀x,foldedSetIterable iter X.env x=pure x:=by intro _;rfl):
  JS X (.Assign [.Name y py] (.ListComp elt [⟨tg,iter,ifs,0⟩] scope pos) spos) (aP i (bR fi nT cap tgF fc fe)):=Cp hcalm hN hi' hy hsw S cp hi hg htg hc he hs
theorem tK {tg iter:Expr}{body:List Stmt}{fi:FA}{tgF:FG}{t:TG}{g:FS}(hi:JI X tg iter fi)(hg:PG X tg t)(ht:tDG X.K tgF t)(hb:JSs X body g)(hp:PassesOwn (model X.prog X.w) X.A X.env X.xe:=by exact PassesOwn.never)(hc:X.calm=true:=by rfl)
  (hs:∀x,foldedSetIterable iter X.env x=pure x:=by intro _;rfl):JS X (.For tg iter body [] pos) (o3 fi tgF g):=EV hp hc hi hg ht hb hs
theorem xl {tg iter:Expr}{body:List Stmt}{fi:FA}{tgF:FG}{t:TG}{g:FS}(hi:PI X tg iter (tDR X.K fi))(hg:PG X tg t)(ht:tDG X.K tgF t)(hb:JSs X body g)(hp:PassesOwn (model X.prog X.w) X.A X.env X.xe:=by exact PassesOwn.never)(hc:X.calm=true:=by rfl)
  (hs:∀x,foldedSetIterable iter X.env x=pure x:=by intro _;rfl):JS X (.For tg iter body [] pos) (j7 fi tgF g):=Cw hp hc hi hg ht hb hs
end
end DL
namespace DL
open PySem PySem.Spec PySem.W PyProof.Rows L2
section
variable {X:Cx}
@[simp] noncomputable def nGe:D->D->Option (D×Bool)
 |.tup [.int n,.tup xs],.tup [.int m,.tup ys]=>(c7 xs).bind λas=>(c7 ys).bind λbs=>(aJ (.i n::as) (.i m::bs)).map λr=>(.bl (!r),false)
 |_,_=>none
end
end DL
namespace DL
open PySem L2
theorem gz {tg:FG}{g:FS}(I:Nat->Env->Prop)(ds:List D)(ρ0:Env)(h0:I 0 ρ0)
  (step:∀i d ρ,ds[i]? = some d->I i ρ->∃ρ1 ρ',tg d ρ=some ρ1/\(g ρ1=some (.nx ρ')∨g ρ1=some (.ct ρ'))/\I (i+1) ρ'):
  ∃ρ',gb tg g ds ρ0=some (.nx ρ')/\I ds.length ρ':=by
 have key:∀(es:List D)(i:Nat)(ρ:Env),ds.drop i=es->i+es.length=ds.length->I i ρ->∃ρ',gb tg g es ρ=some (.nx ρ')/\I ds.length ρ':=by
  intro es;induction es with
  |nil=>intro i ρ e hl h;refine⟨ρ,by rw[zQ],?_⟩;rw[←hl];exact h
  |cons d es ih=>
   intro i ρ e hl h;have hd:ds[i]? = some d:=by
    have:(ds.drop i)[0]? = some d:=by rw[e];rfl
    rwa [List.getElem?_drop,Nat.add_zero]at this
   obtain⟨ρ1,ρ',h1,h2,h3⟩:=step i d ρ hd h;have he:ds.drop (i+1)=es:=by rw[←List.drop_drop,e];rfl
   obtain⟨ρ2,k1,k2⟩:=ih (i+1) ρ' he (by simp at hl;omega) h3;refine⟨ρ2,?_,k2⟩;rw[yq,h1];rcases h2 with h2|h2<;>simp only[Option.bind_some,h2]<;>exact k1
 exact key ds 0 ρ0 (by simp) (by simp) h0
theorem jL {tg:FG}{g:FS}(n:Nat)(I:Nat->Env->Prop)(ρ0:Env)(h0:I 0 ρ0)
  (step:∀(i:Nat) ρ,i<n->I i ρ->∃ρ1 ρ',tg (.int (i:Int)) ρ=some ρ1/\(g ρ1=some (.nx ρ')∨g ρ1=some (.ct ρ'))/\I (i+1) ρ'):
  ∃ρ',gb tg g (dR 0 n) ρ0=some (.nx ρ')/\I n ρ':=by
 have hl:(dR 0 n).length=n:=by simp[dR]
 obtain⟨ρ',h1,h2⟩:=gz (tg:=tg) (g:=g) I (dR 0 n) ρ0 h0 λi d ρ hd h=>by
  unfold dR at hd;rw[List.getElem?_map]at hd;obtain⟨k,hk,hd⟩:=oY hd;obtain⟨hlt,hk⟩:=List.getElem?_eq_some_iff.mp hk;rw[List.length_range]at hlt;rw[List.getElem_range]at hk;subst hk;rw[Int.zero_add]at hd;subst hd;exact step i ρ hlt h
 rw[hl]at h2;exact⟨ρ',h1,h2⟩
theorem iD {α:Type}{xs:List α}{j:Nat}(h:j<xs.length):atI xs (j:Int)=some xs[j]:=BY (by simp[h])
theorem qU {α:Type}{xs:List α}{i:Int}(h0:0<=i)(h:i.toNat<xs.length):atI xs i=some xs[i.toNat]:=by
 have:=iD h;rwa [Int.toNat_of_nonneg h0]at this
@[simp] theorem DV (xs:List Int):bg (xs.map D.int)=true:=by
 induction xs with
 |nil=>simp
 |cons x xs ih=>simp[ih]
@[simp] theorem BD (n:Nat)(xs:List Int):(xs.map D.int).all (ai n)=true:=by
 induction xs with
 |nil=>simp
 |cons x xs ih=>simpa using ih
@[simp] theorem CU (xs:List Int):(xs.map D.int).all fu=true:=by
 induction xs with
 |nil=>simp
 |cons x xs ih=>simpa using ih
theorem yO (n:Nat):dR 0 n=((List.range n).map λ(k:Nat)=>(k:Int)).map D.int:=by
 unfold dR;rw[List.map_map];apply List.map_congr_left;intro k _;simp
mutual
noncomputable def jM:D->D->Bool
 |.non,.non=>true
 |.bl a,.bl b=>a == b
 |.int a,.int b=>decide (a=b)
 |.str a,.str b=>decide (a=b)
 |.ty a,.ty b=>decide (a=b)
 |.tup xs,.tup ys=>mN xs ys
 |.lst xs,.lst ys=>mN xs ys
 |_,_=>false
noncomputable def mN:List D->List D->Bool
 |[],[]=>true
 |x::xs,y::ys=>jM x y && mN xs ys
 |_,_=>false
end
mutual
theorem xm:∀ {x y:D},jM x y=true->x=y
 |.non,.non,_=>rfl
 |.bl a,.bl b,h=>by simp[jM]at h;rw[h]
 |.int a,.int b,h=>by simp[jM]at h;rw[h]
 |.str a,.str b,h=>by simp[jM]at h;rw[h]
 |.ty a,.ty b,h=>by simp[jM]at h;rw[h]
 |.tup xs,.tup ys,h=>by rw[jM]at h;rw[mO h]
 |.lst xs,.lst ys,h=>by rw[jM]at h;rw[mO h]
theorem mO:∀ {xs ys:List D},mN xs ys=true->xs=ys
 |[],[],_=>rfl
 |x::xs,y::ys,h=>by
  rw[mN,Bool.and_eq_true]at h;rw[xm h.1,mO h.2]
end
noncomputable def isR (r:Option (D×Bool))(d:D)(b:Bool):Bool:=match r with
 |some (e,c)=>jM e d && c == b
 |none=>false
theorem aX {r:Option (D×Bool)}{d:D}{b:Bool}(h:isR r d b=true):r=some (d,b):=by
 unfold isR at h;split at h
 ·rw[Bool.and_eq_true]at h;rw[xm h.1,eq_of_beq h.2]
 ·cases h
section
variable {f:FE}{c:FT}{g g' h:FS}{ρ ρ':Env}{i:Nat}{d:D}{b:Bool}{r:Option Res}{ds:List D}
theorem aw {n k:Nat}(hl:ds.length=n)(e:g (ds.map (λd=>some (d,false))++List.replicate k none)=some (.rt d b)):aN g n k ds=some (d,b):=by
 unfold aN;rw[if_pos hl,e]
theorem pH (n:bc d=true):setE ρ i d b=ρ.set i (some (d,false)):=by unfold setE;rw[if_pos n]
theorem tL (n:bg ds=true):setE ρ i (.lst ds) true=ρ.set i (some (.lst ds,true)):=by
 unfold setE;rw[if_neg (by simp),if_pos ⟨rfl,by simpa using n⟩]
theorem DW (e:f ρ=some (d,b))(k:h (setE ρ i d b)=r):a9 (aP i f) h ρ=r:=by simp[e];exact k
theorem F5 (e:f ρ=some (d,b))(n:bc d=true)(k:h (ρ.set i (some (d,false)))=r):a9 (aP i f) h ρ=r:=DW e (by rw[pH n];exact k)
theorem bX (e:f ρ=some (.lst ds,true))(n:bg ds=true)(k:h (ρ.set i (some (.lst ds,true)))=r):a9 (aP i f) h ρ=r:=DW e (by rw[tL n];exact k)
theorem dj (e:g ρ=some (.nx ρ'))(k:h ρ'=r):a9 g h ρ=r:=by unfold a9;rw[e];exact k
theorem Ib (e:g ρ=some (.rt d b)):a9 g h ρ=some (.rt d b):=by unfold a9;rw[e]
theorem Ic (e:g ρ=some (.ct ρ')):a9 g h ρ=some (.ct ρ'):=by unfold a9;rw[e]
theorem ib (e:c ρ=some true)(k:g ρ=r):gIf c g g' ρ=r:=by unfold gIf;rw[e];exact k
theorem gQ (e:c ρ=some false)(k:g' ρ=r):gIf c g g' ρ=r:=by unfold gIf;rw[e];exact k
theorem bK (e:c ρ=some true)(k:g ρ=some (.rt d b)):a9 (gIf c g g') h ρ=some (.rt d b):=Ib (ib e k)
theorem aA (e:c ρ=some false)(k:h ρ=r):a9 (gIf c g aZ) h ρ=r:=dj (gQ e rfl) k
theorem a8 (e:f ρ=some (d,b)):aU f ρ=some (.rt d b):=by simp[e]
theorem lP (e:ρ[i]? = some (some (d,b)))(hb:D5 d=false:=by rfl):kY i ρ=some (.rt d b):=by simp only[kY,e,hb];simp
theorem mP (e:f ρ=some (d,b))(n:bc d=true):aP i f ρ=some (.nx (ρ.set i (some (d,false)))):=by
 show(f ρ).map _=_;rw[e,Option.map_some,pH n]
theorem qV (e:f ρ=some (.lst ds,true))(n:bg ds=true):aP i f ρ=some (.nx (ρ.set i (some (.lst ds,true)))):=by
 show(f ρ).map _=_;rw[e,Option.map_some,tL n]
theorem gg (e:ρ[i]? = some (some (.lst ds,true)))(ef:f ρ=some (d,b))(n:bc d=true)(l:ds.length<sizeLine):gJ i f ρ=some (.nx (ρ.set i (some (.lst (ds++[d]),true)))):=by
 simp[e,ef,n,l]
theorem AL (e:ρ[i]? = some (some (.lst ds,true)))(ef:f ρ=some (d,b))(n:bc d=true)(l:ds.length<sizeLine)(k:h (ρ.set i (some (.lst (ds++[d]),true)))=r):a9 (gJ i f) h ρ=r:=dj (gg e ef n l) k
theorem jN {fi:FA}{tg:FG}{ds:List D}(e:fi ρ=some ds)(k:gb tg g ds ρ=some (.nx ρ')):j7 fi tg g ρ=some (.nx ρ'):=by unfold j7;rw[e];exact k
theorem jO {fi:FA}{tg:FG}{ds:List D}(e:fi (lY ρ)=some ds)(k:gb tg g ds ρ=some (.nx ρ')):o3 fi tg g ρ=some (.nx ρ'):=by unfold o3;rw[e];exact k
theorem g7 {f:FE}{j:Nat}(e:f ρ=some (.int j,b))(hj:j<=1000):dS f ρ=some (dR 0 j):=by
 unfold dS;rw[e];simp only[];rw[if_pos (by omega)];simp
theorem AM {x:Bool}(e:f ρ=some (.bl x,b)):tOf f ρ=some x:=by unfold tOf;rw[e]
theorem xn {F:List D->Option (D×Bool)}{fa:FA}{x:Option (D×Bool)}(e:fa ρ=some ds)(k:F ds=x):fA F fa ρ=x:=by unfold fA;rw[e,Option.bind_some];exact k
theorem AN {f1 g1:D->D->Option (D×Bool)}{fa fb fc:FE}{x y z:D}{b1 b2 b3 b4 p q:Bool}(ea:fa ρ=some (x,b1))(eb:fb ρ=some (y,b2))(ec:fc ρ=some (z,b3))(e1:f1 x y=some (.bl p,b4))(e2:p=true->g1 y z=some (.bl q,false)):k6 f1 g1 fa fb fc ρ=some (.bl (p && q),false):=by
 unfold k6;rw[ea,eb,ec];simp only[Option.bind_some,e1];cases p
 ·rfl
 ·exact e2 rfl
theorem fJ {f1 f2:FE}{p q b1:Bool}(e1:f1 ρ=some (.bl p,b1))(e2:p=true->f2 ρ=some (.bl q,false)):jl f1 f2 ρ=some (.bl (p && q),false):=by
 unfold jl;rw[e1];cases p
 ·rfl
 ·exact e2 rfl
theorem AO {f1 f2:FE}{p q b1:Bool}(e1:f1 ρ=some (.bl p,b1))(e2:p=false->f2 ρ=some (.bl q,false)):fOr f1 f2 ρ=some (.bl (p || q),false):=by
 unfold fOr;rw[e1];cases p
 ·exact e2 rfl
 ·rfl
theorem aB {fr:FA}{xs:List D}(e1:f ρ=some (d,b))(e2:fr ρ=some xs):ab f fr ρ=some (d::xs):=by
 unfold ab;rw[e1,Option.bind_some,e2,Option.bind_some]
theorem gh {op:D->D->Option (D×Bool)}{fa fb:FE}{x y:D}{b1 b2:Bool}{z:Option (D×Bool)}(e1:fa ρ=some (x,b1))(e2:fb ρ=some (y,b2))(e3:op x y=z):f2 op fa fb ρ=z:=by
 unfold f2;rw[e1,Option.bind_some,e2,Option.bind_some];exact e3
theorem dc {c1 c2:FT}{p q:Bool}(e1:c1 ρ=some p)(e2:p=true->c2 ρ=some q):d7 c1 c2 ρ=some (p && q):=by
 unfold d7;rw[e1];cases p
 ·rfl
 ·exact e2 rfl
theorem cD {c1 c2:FT}{p q:Bool}(e1:c1 ρ=some p)(e2:p=false->c2 ρ=some q):gI c1 c2 ρ=some (p || q):=by
 unfold gI;rw[e1];cases p
 ·exact e2 rfl
 ·rfl
theorem bP {c1:FT}{p:Bool}(e1:c1 ρ=some p):di c1 ρ=some (!p):=by
 unfold di;rw[e1];rfl
end
theorem lt1 (a c:Nat):decide ([a]<[c])=decide (a<c):=by
 congr 1;rw[List.cons_lt_cons_iff];simp
@[simp] theorem Hu (a c:Nat):dLe (.str ⟨#[a]⟩) (.str ⟨#[c]⟩)=some (.bl (decide (a<=c)),false):=by
 unfold dLe;show some (D.bl (!decide ([c]<[a])),false)=_;rw[lt1];congr 3;by_cases h:c<a
 ·rw[decide_eq_true h,decide_eq_false (by omega)];rfl
 ·rw[decide_eq_false h,decide_eq_true (by omega)];rfl
theorem bx {n:Nat}(h:n<=100000):n<sizeLine:=Nat.lt_of_le_of_lt h (by decide)
theorem cS {n:Nat}(h:n<=100000):n<=sizeLine:=Nat.le_of_lt (bx h)
theorem g8 {α:Type}{fi:FA}{nT:Nat}{cap:List Nat}{tg:FG}{c:FT}{fe:FE}{ρ:DL.Env}(l:List α)(g:α->D)(p:α->Bool)(h:α->D)(e:fi ρ=some (l.map g))(hl:l.length<=100000)
  (k:∀x∈l,∃ρ1,tg (g x) (bS nT cap ρ)=some ρ1/\c ρ1=some (p x)/\(p x=true->∃b,fe ρ1=some (h x,b))):bR fi nT cap tg c fe ρ=some (.lst ((l.filter p).map h),true):=by
 have key:∀l':List α,(∀x∈l',x∈l)->fD tg c fe (bS nT cap ρ) (l'.map g)=some ((l'.filter p).map h):=by
  intro l';induction l' with
  |nil=>intro _;simp
  |cons x l' ih=>
   intro hm;obtain⟨ρ1,h1,h2,h3⟩:=k x (hm x mX);have ih:=ih λy hy=>hm y (mZ _ hy);rw[List.map_cons,uZ,h1,Option.bind_some,h2,Option.bind_some];cases hp:p x with
   |false=>simp[hp,ih]
   |true=>
    obtain⟨b,h4⟩:=h3 hp;simp[hp,ih,h4]
 unfold bR;rw[e,Option.bind_some,if_pos (cS (by simpa using hl)),key l λ_ h=>h,Option.map_some]
theorem pJ {α:Type}{fi:FA}{nT:Nat}{cap:List Nat}{tg:FG}{fe:FE}{ρ:DL.Env}(l:List α)(g:α->D)(h:α->D)(e:fi ρ=some (l.map g))(hl:l.length<=100000)
  (k:∀x∈l,∃ρ1,tg (g x) (bS nT cap ρ)=some ρ1/\∃b,fe ρ1=some (h x,b)):bR fi nT cap tg io fe ρ=some (.lst (l.map h),true):=by
 have:=g8 (c:=io) (fe:=fe) l g (λ_=>true) h e hl λx hx=>by
  obtain⟨ρ1,h1,h2⟩:=k x hx;exact⟨ρ1,h1,rfl,λ_=>h2⟩
 rw[List.filter_eq_self.mpr λ_ _=>rfl]at this;exact this
@[simp] theorem He {α:Type}(f:α->Bool)(l:List α):sG (l.map λx=>.bl (f x))=some (l.map f):=by
 induction l with
 |nil=>rfl
 |cons x l ih=>simp[ih]
theorem uT {z:Str}{i:Int}(h0:0<=i)(h:i.toNat<z.cps.size)(hz:z.length<=100000):ixD (.str z) (.int i)=some (.str ⟨#[z.cps.toList.getD i.toNat 0]⟩,false):=by
 have hh:i.toNat<z.cps.toList.length:=by simpa using h
 simp only[ixD];rw[if_pos (cS hz),qU h0 hh];simp[List.getD,h]
theorem vN {ds:List D}{i:Int}(h0:0<=i)(h:i.toNat<ds.length):ixD (.lst ds) (.int i)=some (ds.getD i.toNat .non,false):=by
 simp only[ixD];rw[qU h0 h];simp[List.getD,h]
theorem ql {ds:List D}{i:Int}(h0:0<=i)(h:i.toNat<ds.length):ixD (.tup ds) (.int i)=some (ds.getD i.toNat .non,false):=by
 simp only[ixD];rw[qU h0 h];simp[List.getD,h]
theorem xo {xs:List Int}{i:Int}(h0:0<=i)(h:i.toNat<xs.length):ixD (.lst (xs.map .int)) (.int i)=some (.int (xs.getD i.toNat 0),false):=by
 rw[vN h0 (by simpa using h)];simp[List.getD,h]
theorem mod_lt {x m:Int}(hm:0<m):0<=x % m/\x % m<m:=⟨Int.emod_nonneg _ (by omega),Int.emod_lt_of_pos _ hm⟩
theorem CV {ds:List D}:fP [.lst ds]=some (.int ds.length,false):=rfl
theorem xp {i j:Int}:dEq (.int i) (.int j)=some (.bl (decide (i=j)),false):=by simp
theorem eoF {ρ:Env}{op:D->D->Option (D×Bool)}{fa fb:FE}(x y:D){z:Option (D×Bool)}(e1:fa ρ=some (x,false))(e2:fb ρ=some (y,false))(e3:op x y=z):f2 op fa fb ρ=z:=gh e1 e2 e3
theorem tkF {ρ:Env}{f:FE}{x:Bool}(e:f ρ=some (.bl x,false)):tOf f ρ=some x:=AM e
theorem acF {ρ:Env}{f:FE}{d:D}{fr:FA}{xs:List D}(e1:f ρ=some (d,false))(e2:fr ρ=some xs):ab f fr ρ=some (d::xs):=aB e1 e2
theorem cdD {ρ:Env}{F:List D->Option (D×Bool)}{fa:FA}{x:Option (D×Bool)}(ds:List D)(e:fa ρ=some ds)(k:F ds=x):fA F fa ρ=x:=xn e k
theorem rfF {ρ:Env}{f:FE}{h:FS}{i:Nat}{r:Option Res}(d:D)(e:f ρ=some (d,false))(n:bc d=true)(k:h (ρ.set i (some (d,false)))=r):a9 (aP i f) h ρ=r:=F5 e n k
@[simp] noncomputable abbrev rkE (rows:List D)(known:Int)(t:Env):Env:=some (.tup rows,false)::some (.int known,false)::t
@[simp] noncomputable abbrev eR (ns:List Int)(zs:List Str)(ms:Int)(offs:List Str)(R:List D)(a b:Option (D×Bool))(t:Env):Env:=some (.lst (ns.map .int),false)::some (.lst (zs.map .str),false)::some (.int ms,false)::a::some (.lst (offs.map .str),true)::some (.lst R,true)::b::t
end DL
namespace Lw
open PySem DL
noncomputable def mQ:D:=(.tup [(.str "paper"),(.str "like"),(.str "copy")])
noncomputable def eJ:List (PySem.Str×D):=[(("root" : Str),(.tup [(.str "office"),(.str "matters"),(.str "further"),(.str "rule")])),(("named" : Str),(.tup [(.str "day"),(.str "office"),(.str "person")])),(("chosen" : Str),(.tup [(.str "day"),(.str "by"),(.str "office"),(.str "person"),(.str "since")])),(("heir" : Str),(.tup [(.str "day"),(.str "by"),(.str "office"),(.str "person")])),(("death" : Str),(.tup [(.str "day"),(.str "person")])),(("lost" : Str),(.tup [(.str "day"),(.str "person")])),(("found" : Str),(.tup [(.str "day"),(.str "person")])),(("leave" : Str),(.tup [(.str "day"),(.str "by"),(.str "person"),(.str "matters"),(.str "stretch"),(.str "further")])),(("paper" : Str),(.tup [(.str "day"),(.str "by"),(.str "matters"),(.str "stretch"),(.str "whom"),(.str "pieces")])),(("like" : Str),(.tup [(.str "day"),(.str "by"),(.str "matters"),(.str "stretch"),(.str "whom"),(.str "of"),(.str "changes")])),(("copy" : Str),(.tup [(.str "day"),(.str "by"),(.str "of")])),(("call" : Str),(.tup [(.str "day"),(.str "by"),(.str "of")]))]
noncomputable def dW:D:=(.tup [(.str "chosen"),(.str "heir"),(.str "leave"),(.str "paper"),(.str "like"),(.str "copy"),(.str "call")])
noncomputable def pL:FS :=
  (aU (f2 ixD (ixV 0 1) (fC (.int 0))))
noncomputable def aC:=aN pL 1 0
noncomputable def pM:FS :=
  (aU (f2 ixD (ixV 0 1) (f2 bC (fC (.int 1)) (f2 (lF eJ) (fA aC (ab (ae 0) ag)) (ae 1)))))
noncomputable def aj:=aN pM 2 0
noncomputable def tM:FS :=
  (a9 (gIf (tOf (f2 dEq (fA aC (ab (ae 0) ag)) (fC (.str "root")))) (aU (fC .non)) aZ)
  (aU (fA aj (ab (ae 0) (ab (fC (.str "day")) ag)))))
noncomputable def aH:=aN tM 1 0
noncomputable def xq:FS :=
  (aU (bR (Al (ae 0)) 2 [1] (tgT [0,1]) (tOf (f2 dLe (ixV 1 0) (ae 2))) (ae 0)))
noncomputable def bQ:=aN xq 2 0
noncomputable def AQ:FS :=
  (aU (fA aL (ab (fA aH (ab (f2 ixD (ae 0) (ae 1)) ag)) (ab (ae 1) ag))))
noncomputable def cE:=aN AQ 2 0
noncomputable def mR:FS :=
  (a9 (aP 2 (bR (cw (fA bQ (ab (ae 0) (ab (ae 1) ag)))) 1 [0] (tgN 0) (tOf (f2 jm (fA aH (ab (f2 ixD (ae 1) (ae 0)) ag)) (fC .non))) (ae 0)))
  (aU (mD (ae 2) (mC [0] (fA cE (ab (ae 1) (ab (ae 0) ag)))))))
noncomputable def dX:=aN mR 2 1
noncomputable def lh:FS :=
  (aU (fA aL (ab (ixV 0 0) (ab (ixV 0 2) (ab (ixV 0 4) ag)))))
noncomputable def dA:=aN lh 1 0
noncomputable def xu:FS :=
  (a9 (aP 2 (bR (cw (fA bQ (ab (ae 0) (ab (ae 1) ag)))) 1 [0] (tgN 0) io (f2 ixD (ae 1) (ae 0))))
  (aU (fA gP (ab (bR (cw (ae 2)) 1 [] (tgN 0) (tOf (f2 dEq (fA aC (ab (ae 0) ag)) (fC (.str "root")))) (fA aL (ab (fA aj (ab (ae 0) (ab (fC (.str "office")) ag))) (ab (ae 0) ag)))) ag))))
noncomputable def dr:=aN xu 2 1
noncomputable def mS:FS :=
  (aU (jl (k6 dLe dLt (fC (.int 0)) (ae 2) (fA fP (ab (ae 0) ag))) (f2 dLe (f2 ixD (f2 ixD (ae 0) (ae 2)) (fC (.int 0))) (ae 1))))
noncomputable def bV:=aN mS 3 0
noncomputable def xw:FS :=
  (aU (jl (f2 dIn (fA aC (ab (ae 0) ag)) (ae 1)) (jl (f2 dEq (fA aj (ab (ae 0) (ab (fC (.str "person")) ag))) (ae 2)) (f2 dLe (fA aH (ab (ae 0) ag)) (ae 3)))))
noncomputable def jP:=aN xw 4 0
noncomputable def pN:FS :=
  (aU (bR (cw (fA bQ (ab (ae 0) (ab (ae 1) ag)))) 1 [2,3,4,0] (tgN 0) (tOf (fA jP (ab (f2 ixD (ae 4) (ae 0)) (ab (ae 1) (ab (ae 2) (ab (ae 3) ag)))))) (ae 0)))
noncomputable def de:=aN pN 5 0
noncomputable def xy:FS :=
  (aU (f2 dEq (fA fP (ab (fA de (ab (ae 0) (ab (ae 1) (ab (fA aL (ab (fC (.str "death")) ag)) (ab (ae 2) (ab (ae 3) ag)))))) ag)) (fC (.int 0))))
noncomputable def gR:=aN xy 4 0
noncomputable def mT:FS :=
  (a9 (aP 4 (fA de (ab (ae 0) (ab (ae 1) (ab (fA aL (ab (fC (.str "lost")) (ab (fC (.str "found")) ag))) (ab (ae 2) (ab (ae 3) ag)))))))
  (a9 (gIf (tOf (f2 dEq (fA fP (ab (ae 4) ag)) (fC (.int 0)))) (aU (fC (.bl true))) aZ)
  (aU (f2 dEq (fA aC (ab (f2 ixD (ae 0) (pB (ae 4) (mC [0] (fA cE (ab (ae 1) (ab (ae 0) ag)))))) ag)) (fC (.str "found"))))))
noncomputable def gS:=aN mT 4 1
noncomputable def mU:FS :=
  (a9 (gIf (gI (di (tOf (fA bV (ab (ae 0) (ab (ae 1) (ab (ae 2) ag)))))) (tOf (f2 fG (fA aC (ab (f2 ixD (ae 0) (ae 2)) ag)) (fC dW)))) (aU (fC (.bl false))) aZ)
  (a9 (aP 3 (fA aj (ab (f2 ixD (ae 0) (ae 2)) (ab (fC (.str "by")) ag))))
  (a9 (aP 4 (fA aH (ab (f2 ixD (ae 0) (ae 2)) ag)))
  (aU (jl (fA gR (ab (ae 0) (ab (ae 1) (ab (ae 3) (ab (ae 4) ag))))) (fA gS (ab (ae 0) (ab (ae 1) (ab (ae 3) (ab (ae 4) ag))))))))))
noncomputable def gT:=aN mU 3 2
noncomputable def pO:FS :=
  (aU (jl (f2 dLe (ixV 1 0) (ae 0)) (fOr (f2 dIs (ixV 1 1) (fC .non)) (f2 dLt (ae 0) (ixV 1 1)))))
noncomputable def dY:=aN pO 2 0
noncomputable def mV:FS :=
  (aU (fA dY (ab (ae 1) (ab (fA aL (ab (ixV 0 2) (ab (ixV 0 3) ag))) ag))))
noncomputable def bD:=aN mV 2 0
noncomputable def mW:FS :=
  (aU (fA aL (ab (ixV 0 2) (ab (ixV 0 4) ag))))
noncomputable def bW:=aN mW 1 0
noncomputable def ng:FS :=
  (a9 (gIf (tOf (f2 dEq (ae 1) (fC (.str "last")))) (aU (f2 ixD (pB (ae 0) (o9 bW)) (fC (.int 1)))) aZ)
  (aU (f2 ixD (pC (ae 0) (o9 bW)) (fC (.int 1)))))
noncomputable def gU:=aN ng 2 0
noncomputable def lm:FS :=
  (a9 (aP 3 (bR (cw (ae 0)) 1 [2,1] (tgN 0) (d7 (tOf (f2 dEq (ixV 0 0) (fA aj (ab (ae 2) (ab (fC (.str "office")) ag))))) (tOf (fA bD (ab (ae 0) (ab (ae 1) ag))))) (ae 0)))
  (a9 (aP 4 (f1 eV (bR (cw (ae 3)) 1 [] (tgN 0) io (ixV 0 1))))
  (a9 (gIf (tOf (f2 dEq (fA fP (ab (ae 4) ag)) (fC (.int 0)))) (aU (fA aL (ab (fC (.str "none")) ag))) aZ)
  (a9 (gIf (d7 (tOf (f2 iGt (fA fP (ab (ae 4) ag)) (fC (.int 1)))) (tOf (f2 dEq (fA aj (ab (ae 1) (ab (fC (.str "rule")) ag))) (fC (.str "open"))))) (aU (fA aL (ab (fC (.str "parted")) (ab (ae 4) ag)))) aZ)
  (a9 (aP 5 (fA gU (ab (ae 3) (ab (fA aj (ab (ae 1) (ab (fC (.str "rule")) ag))) ag))))
  (a9 (aP 6 (pC (bR (cw (ae 3)) 1 [5] (tgN 0) (tOf (f2 dEq (ixV 0 1) (ae 1))) (ae 0)) (o9 bW)))
  (aU (fA aL (ab (fC (.str "one")) (ab (ae 5) (ab (ixV 6 4) ag)))))))))))
noncomputable def bL:=aN lm 3 4
noncomputable def jQ:FS :=
  (aU (f2 dEq (fSl (fA bL (ab (ae 0) (ab (ae 1) (ab (ae 3) ag)))) sy (pd (fC (.int 2)))) (fA aL (ab (fC (.str "one")) (ab (ae 2) ag)))))
noncomputable def ci:=aN jQ 4 0
noncomputable def g9:FS :=
  (a9 (aP 3 (f2 ixD (ae 0) (ae 2)))
  (a9 (aP 4 (fA de (ab (ae 0) (ab (ae 1) (ab (fA aL (ab (fC (.str "death")) ag)) (ab (fA aj (ab (ae 3) (ab (fC (.str "person")) ag))) (ab (fA aH (ab (ae 3) ag)) ag)))))))
  (aU (f2 dEq (pC (ae 4) (mC [0] (fA cE (ab (ae 1) (ab (ae 0) ag))))) (ae 2)))))
noncomputable def df:=aN g9 3 2
noncomputable def tN:FS :=
  (a9 (aP 4 (f2 ixD (ae 0) (ae 3)))
  (a9 (gIf (tOf (f2 dEq (fA aC (ab (ae 4) ag)) (fC (.str "death")))) (aU (fA df (ab (ae 0) (ab (ae 1) (ab (ae 3) ag))))) aZ)
  (a9 (gIf (tOf (f2 fG (fA aC (ab (ae 4) ag)) (fA aL (ab (fC (.str "named")) (ab (fC (.str "chosen")) (ab (fC (.str "heir")) ag)))))) (aU (fC (.bl false))) aZ)
  (a9 (aP 5 (f2 vI (fA dr (ab (ae 0) (ab (ae 1) ag))) (fA aj (ab (ae 4) (ab (fC (.str "office")) ag)))))
  (a9 (gIf (tOf (f2 dIs (ae 5) (fC .non))) (aU (fC (.bl false))) aZ)
  (a9 (gIf (tOf (f2 dEq (fA aC (ab (ae 4) ag)) (fC (.str "named")))) (aU (fC (.bl true))) aZ)
  (aU (jl (fA gT (ab (ae 0) (ab (ae 1) (ab (ae 3) ag)))) (fA ci (ab (ae 2) (ab (ae 5) (ab (fA aj (ab (ae 4) (ab (fC (.str "by")) ag))) (ab (fA aH (ab (ae 4) ag)) ag)))))))))))))
noncomputable def iE:=aN tN 4 2
noncomputable def ln:FS :=
  (aU (fA aL (ab (fA aj (ab (ae 0) (ab (fC (.str "office")) ag))) (ab (fA aj (ab (ae 0) (ab (fC (.str "person")) ag))) (ab (ae 1) (ab (fC .non) (ab (ae 2) ag)))))))
noncomputable def cU:=aN ln 3 0
noncomputable def ni:FS :=
  (gIf (gI (tOf (f2 fG (ixV 5 0) (ae 1))) (gI (tOf (f2 dNe (ixV 5 1) (ae 2))) (di (gI (tOf (fA bD (ab (ae 5) (ab (ae 3) ag)))) (tOf (f2 iGt (ixV 5 2) (ae 3))))))) (gJ 4 (ae 5)) (gIf (tOf (f2 dLt (ixV 5 2) (ae 3))) (gJ 4 (fA aL (ab (ixV 5 0) (ab (ae 2) (ab (ixV 5 2) (ab (ae 3) (ab (ixV 5 4) ag))))))) aZ))
noncomputable def xz:FS :=
  (a9 (aP 4 (fA br ag))
  (a9 (o3 (cw (ae 0)) (tgN 5) ni)
  (kY 4)))
noncomputable def iT:=aN xz 4 2
noncomputable def iF:FS :=
  (a9 (aP 3 (fA aj (ab (ae 1) (ab (fC (.str "since")) ag))))
  (a9 (aP 4 (fA iT (ab (ae 0) (ab (fA br (ab (fA aj (ab (ae 1) (ab (fC (.str "office")) ag))) ag)) (ab (fA aj (ab (ae 1) (ab (fC (.str "by")) ag))) (ab (ae 3) ag))))))
  (aU (f2 bC (ae 4) (fA br (ab (fA cU (ab (ae 1) (ab (ae 3) (ab (ae 2) ag)))) ag))))))
noncomputable def dH:=aN iF 3 2
noncomputable def f7:FS :=
  (a9 (aP 9 (AE (ae 3) (ab (ae 8) (ab (ae 5) ag))))
  (gIf (d7 (tOf (f2 jm (ae 9) (fC .non))) (tOf (fA gR (ab (ae 0) (ab (ae 1) (ab (ae 9) (ab (ae 6) ag))))))) (gJ 7 (fA aL (ab (ae 8) (ab (ae 9) (ab (ae 6) (ab (fC .non) (ab (ae 4) ag))))))) aZ))
noncomputable def lq:FS :=
  (a9 (aP 5 (fA aj (ab (f2 ixD (ae 0) (ae 4)) (ab (fC (.str "person")) ag))))
  (a9 (aP 6 (fA aH (ab (f2 ixD (ae 0) (ae 4)) ag)))
  (a9 (aP 7 (fA br ag))
  (a9 (gUn [5,6] (o3 (cw (f1 eV (bR (cw (ae 2)) 1 [5,6] (tgN 0) (d7 (tOf (f2 dEq (ixV 0 1) (ae 1))) (tOf (fA bD (ab (ae 0) (ab (ae 2) ag))))) (ixV 0 0)))) (tgN 8) f7))
  (kY 7)))))
noncomputable def fW:=aN lq 5 5
noncomputable def je:FS :=
  (a9 (aP 5 (bR (cw (ae 2)) 1 [] (tgN 0) io (ixV 0 0)))
  (a9 (aP 6 (fA iT (ab (ae 2) (ab (ae 5) (ab (fA aj (ab (f2 ixD (ae 0) (ae 4)) (ab (fC (.str "person")) ag))) (ab (fA aH (ab (f2 ixD (ae 0) (ae 4)) ag)) ag))))))
  (aU (f2 bC (ae 6) (fA fW (ab (ae 0) (ab (ae 1) (ab (ae 2) (ab (ae 3) (ab (ae 4) ag))))))))))
noncomputable def eK:=aN je 5 2
noncomputable def iU:FS :=
  (a9 (aP 5 (f2 ixD (ae 0) (ae 4)))
  (a9 (gIf (di (tOf (fA iE (ab (ae 0) (ab (ae 1) (ab (ae 2) (ab (ae 4) ag))))))) DT aZ)
  (gIf (tOf (f2 dEq (fA aC (ab (ae 5) ag)) (fC (.str "named")))) (aP 2 (f2 bC (ae 2) (fA br (ab (fA cU (ab (ae 5) (ab (fA aH (ab (ae 5) ag)) (ab (ae 4) ag)))) ag)))) (gIf (tOf (f2 dEq (fA aC (ab (ae 5) ag)) (fC (.str "chosen")))) (aP 2 (fA dH (ab (ae 2) (ab (ae 5) (ab (ae 4) ag))))) (gIf (tOf (f2 dEq (fA aC (ab (ae 5) ag)) (fC (.str "heir")))) (pF 3 (ab (fA aj (ab (ae 5) (ab (fC (.str "office")) ag))) (ab (fA aj (ab (ae 5) (ab (fC (.str "by")) ag))) ag)) (fA aj (ab (ae 5) (ab (fC (.str "person")) ag)))) (aP 2 (fA eK (ab (ae 0) (ab (ae 1) (ab (ae 2) (ab (ae 3) (ab (ae 4) ag))))))))))))
noncomputable def tO:FS :=
  (a9 (aP 2 (fA br ag))
  (a9 (AA 3)
  (a9 (o3 (cw (fA dX (ab (ae 0) (ab (ae 1) ag)))) (tgN 4) iU)
  (aU (mD (ae 2) (o9 dA))))))
noncomputable def gA:=aN tO 2 4
noncomputable def nj:FS :=
  (aU (jl (fA bV (ab (ae 0) (ab (ae 1) (ab (ae 2) ag)))) (f2 dIn (fA aC (ab (f2 ixD (ae 0) (ae 2)) ag)) (fC mQ))))
noncomputable def dZ:=aN nj 3 0
noncomputable def nn:FS :=
  (aU (jl (fA bV (ab (ae 0) (ab (ae 1) (ab (ae 2) ag)))) (f2 dEq (fA aC (ab (f2 ixD (ae 0) (ae 2)) ag)) (fC (.str "leave")))))
noncomputable def d5:=aN nn 3 0
noncomputable def np:FS :=
  (aU (fOr (fA d5 (ab (ae 0) (ab (ae 1) (ab (ae 2) ag)))) (fA dZ (ab (ae 0) (ab (ae 1) (ab (ae 2) ag))))))
noncomputable def gV:=aN np 3 0
noncomputable def nq:FS :=
  (aU (f2 dEq (f2 Ct (ae 0) (ae 1)) (ae 1)))
noncomputable def gB:=aN nq 2 0
noncomputable def lr:FS :=
  (a9 (gIf (di (tOf (fA gB (ab (fA aj (ab (ae 1) (ab (fC (.str "matters")) ag))) (ab (fA aj (ab (ae 0) (ab (fC (.str "matters")) ag))) ag))))) (aU (fC (.str "matters"))) aZ)
  (a9 (gIf (d7 (tOf (f2 dEq (fA aC (ab (ae 0) ag)) (fC (.str "leave")))) (tOf (f2 iGe (fA aj (ab (ae 0) (ab (fC (.str "further")) ag))) (fA aj (ab (ae 1) (ab (fC (.str "further")) ag)))))) (aU (fC (.str "further"))) aZ)
  (aU (fC .non))))
noncomputable def dB:=aN lr 2 0
noncomputable def jR:FS :=
  (a9 (gIf (di (tOf (fA ci (ab (ae 0) (ab (ae 2) (ab (fA aj (ab (ae 1) (ab (fC (.str "by")) ag))) (ab (fA aH (ab (ae 1) ag)) ag))))))) (aU (fC (.str "holder"))) aZ)
  (aU (fA dB (ab (ae 1) (ab (ae 2) ag)))))
noncomputable def dI:=aN jR 3 0
noncomputable def iG:FS :=
  (a9 (aP 4 (f2 ixD (ae 0) (ae 3)))
  (a9 (aP 5 (bR (vL (fA dr (ab (ae 0) (ab (ae 1) ag)))) 1 [2,4] (tgN 0) (tOf (f2 dIs (fA dI (ab (ae 1) (ab (ae 2) (ab (ae 0) ag)))) (fC .non))) (ae 0)))
  (aU (bR (cw (ae 5)) 1 [2,4] (tgN 0) io (fA aL (ab (fC (.str "office")) (ab (fA aj (ab (ae 0) (ab (fC (.str "office")) ag))) (ab (f2 ixD (fA bL (ab (ae 1) (ab (ae 0) (ab (fA aH (ab (ae 2) ag)) ag)))) (fC (.int 2))) ag))))))))
noncomputable def dJ:=aN iG 4 2
noncomputable def jf:FS :=
  (a9 (gIf (tOf (f2 dIs (ae 1) (fC .non))) (aU (fC (.bl true))) aZ)
  (aU (jl (f2 jm (ae 0) (fC .non)) (f2 dLe (ae 0) (ae 1)))))
noncomputable def eM:=aN jf 2 0
noncomputable def ls:FS :=
  (aU (jl (f2 dLe (ixV 1 0) (ixV 0 0)) (fA eM (ab (ixV 0 1) (ab (ixV 1 1) ag)))))
noncomputable def eX:=aN ls 2 0
noncomputable def nu:FS :=
  (aU (f2 tLt (fA cE (ab (ae 0) (ab (ae 1) ag))) (fA cE (ab (ae 0) (ab (ae 2) ag)))))
noncomputable def d6:=aN nu 3 0
noncomputable def lu:FS :=
  (a9 (aP 3 (f2 ixD (ae 0) (ae 1)))
  (a9 (aP 4 (fA aj (ab (f2 ixD (ae 0) (ae 2)) (ab (fC (.str "stretch")) ag))))
  (a9 (gIf (di (tOf (fA d6 (ab (ae 0) (ab (ae 2) (ab (ae 1) ag)))))) (aU (fC (.str "order"))) aZ)
  (a9 (gIf (gI (di (tOf (fA dY (ab (fA aH (ab (ae 3) ag)) (ab (ae 4) ag))))) (di (tOf (fA eX (ab (fA aj (ab (ae 3) (ab (fC (.str "stretch")) ag))) (ab (ae 4) ag)))))) (aU (fC (.str "days"))) aZ)
  (aU (fA dB (ab (ae 3) (ab (f2 ixD (ae 0) (ae 2)) ag))))))))
noncomputable def eY:=aN lu 3 2
noncomputable def lw:FS :=
  (a9 (aP 3 (bR (cw (fA bQ (ab (ae 0) (ab (ae 1) ag)))) 1 [0,1] (tgN 0) (tOf (fA d5 (ab (ae 1) (ab (ae 2) (ab (ae 0) ag))))) (ae 0)))
  (aU (bR (cw (ae 3)) 1 [2,0] (tgN 0) (tOf (f2 dEq (fA aj (ab (f2 ixD (ae 2) (ae 0)) (ab (fC (.str "person")) ag))) (ae 1))) (ae 0))))
noncomputable def fX:=aN lw 3 1
noncomputable def jg:FS :=
  (a9 (aP 3 (fA fX (ab (ae 0) (ab (ae 1) (ab (fA aj (ab (f2 ixD (ae 0) (ae 2)) (ab (fC (.str "by")) ag))) ag)))))
  (aU (bR (cw (ae 3)) 1 [0,2] (tgN 0) (tOf (f2 dIs (fA eY (ab (ae 1) (ab (ae 2) (ab (ae 0) ag)))) (fC .non))) (fA aL (ab (fC (.str "leave")) (ab (ae 0) ag))))))
noncomputable def eN:=aN jg 3 1
noncomputable def jS:FS :=
  (a9 (aP 3 (fA aj (ab (f2 ixD (ae 0) (ae 2)) (ab (fC (.str "of")) ag))))
  (a9 (gIf (d7 (tOf (fA dZ (ab (ae 0) (ab (ae 1) (ab (ae 3) ag))))) (tOf (fA d6 (ab (ae 0) (ab (ae 3) (ab (ae 2) ag)))))) (aU (fA br (ab (fA aL (ab (fC (.str "copy")) (ab (ae 3) ag))) ag))) aZ)
  (aU (fA br ag))))
noncomputable def gW:=aN jS 3 1
noncomputable def nv:FS :=
  (a9 (gIf (di (tOf (fA gV (ab (ae 0) (ab (ae 1) (ab (ae 3) ag)))))) (aU (fA br ag)) aZ)
  (a9 (gIf (tOf (f2 dEq (fA aC (ab (f2 ixD (ae 0) (ae 3)) ag)) (fC (.str "copy")))) (aU (fA gW (ab (ae 0) (ab (ae 1) (ab (ae 3) ag))))) aZ)
  (a9 (aP 4 (f2 bC (fA dJ (ab (ae 0) (ab (ae 1) (ab (ae 2) (ab (ae 3) ag))))) (fA eN (ab (ae 0) (ab (ae 1) (ab (ae 3) ag))))))
  (aU (vM (ae 4) (mC [] (fA aL (ab (f2 ixD (ae 0) (f1 ma (fC (.int 1)))) (ab (ae 0) ag)))))))))
noncomputable def gX:=aN nv 4 1
noncomputable def x0:FS :=
  (aU (fA gX (ab (ae 0) (ab (ae 1) (ab (fA gA (ab (ae 0) (ab (ae 1) ag))) (ab (ae 2) ag))))))
noncomputable def lQ:=aN x0 3 0
noncomputable def tP:FS :=
  (a9 (aP 2 (fC (.int 5)))
  (a9 (gIf (tOf (f2 iGt (fA fP (ab (ae 0) ag)) (fC (.int 0)))) (aP 2 (f2 ixD (ae 0) (f2 bi (ae 1) (fA fP (ab (ae 0) ag))))) aZ)
  (a9 (aP 2 (f2 bi (f2 dQ (f2 bC (f2 bC (f2 bi (ae 2) (fC (.int 2147483629))) (f2 dQ (fC (.int 6151)) (ae 1))) (fC (.int 1))) (fC (.int 48271))) (fC (.int 2147483647))))
  (aU (f2 bi (f2 dQ (ae 2) (f2 bC (f2 bC (f2 bi (ae 2) (fC (.int 65519))) (ae 1)) (fC (.int 2)))) (fC (.int 2147483629)))))))
noncomputable def cI:=aN tP 2 1
noncomputable def js:FS :=
  (a9 (aP 6 (fA fU (ab (ae 2) ag)))
  (a9 (y6 6 (ae 3) (f2 ixD (ae 1) (f2 bi (f2 bC (f2 bY (ae 0) (fC (.int 64))) (f2 dQ (fC (.int 3)) (ae 5))) (fC (.int 26)))))
  (gJ 4 (f2 la (fC (.str "")) (ae 6)))))
noncomputable def pP:FS :=
  (a9 (aP 1 (fC (.str "abcdefghijklmnopqrstuvwxyz")))
  (a9 (aP 2 (bR (dS (f2 bC (fC (.int 1)) (f2 bi (ae 0) (fC (.int 8))))) 1 [1,0] (tgN 0) io (f2 ixD (ae 1) (f2 bi (f2 bY (ae 2) (f2 bC (fC (.int 3)) (f2 dQ (fC (.int 4)) (ae 0)))) (fC (.int 26))))))
  (a9 (aP 3 (f2 bi (f2 bY (ae 0) (fC (.int 8))) (fA fP (ab (ae 2) ag))))
  (a9 (aP 4 (fA br ag))
  (a9 (j7 (dS (fC (.int 9))) (tgN 5) js)
  (a9 (gIf (tOf (f2 dEq (f2 bi (f2 bY (ae 0) (fC (.int 1000))) (fC (.int 8))) (fC (.int 1)))) (y6 4 (fC (.int 5)) (ixV 4 0)) aZ)
  (kY 4)))))))
noncomputable def kK:=aN pP 1 6
noncomputable def lx:FS :=
  (a9 (aP 3 (fA br (ab (fA aL (ab (fC (.int 0)) (ab (fC .non) ag))) (ab (fA aL (ab (ae 1) (ab (fC .non) ag))) (ab (fA aL (ab (ae 1) (ab (f2 bC (ae 1) (f2 dQ (fC (.int 3)) (ae 2))) ag))) (ab (fA aL (ab (fC (.int 0)) (ab (f2 bC (ae 1) (f2 dQ (fC (.int 2)) (ae 2))) ag))) (ab (fA aL (ab (fC (.int 0)) (ab (f2 dQ (fC (.int 9)) (ae 2)) ag))) ag)))))))
  (a9 (aP 3 (f2 bC (ae 3) (fA br (ab (fA aL (ab (f2 bC (ae 1) (ae 2)) (ab (f2 bC (ae 1) (f2 dQ (fC (.int 4)) (ae 2))) ag))) (ab (fA aL (ab (f2 bY (ae 1) (fC (.int 2))) (ab (f2 bC (ae 1) (f2 dQ (fC (.int 6)) (ae 2))) ag))) (ab (fA aL (ab (fC (.int 0)) (ab (fC .non) ag))) ag))))))
  (aU (f2 ixD (ae 3) (f2 bi (ae 0) (fC (.int 8)))))))
noncomputable def dC:=aN lx 3 1
noncomputable def tQ:FS :=
  (a9 (aP 7 (f2 bC (f2 bC (yJ (fA br (ab (fC (.str "leave")) ag)) (fC (.int 5))) (yJ (fA br (ab (fC (.str "paper")) ag)) (fC (.int 2)))) (fA br (ab (fC (.str "like")) (ab (fC (.str "copy")) (ab (fC (.str "copy")) (ab (fC (.str "call")) (ab (fC (.str "call")) ag))))))))
  (a9 (aP 7 (f2 bC (ae 7) (fA br (ab (fC (.str "named")) (ab (fC (.str "death")) (ab (fC (.str "lost")) (ab (fC (.str "found")) (ab (fC (.str "chosen")) (ab (fC (.str "heir")) ag)))))))))
  (a9 (aP 8 (f2 ixD (ae 7) (f2 bi (ae 1) (fC (.int 18)))))
  (a9 (aP 9 (f2 ixD (ae 5) (f2 vc (f1 ma (fC (.int 1))) (f2 bi (f2 bY (ae 1) (fC (.int 18))) (fA C1 (ab (fC (.int 3)) (ab (fA fP (ab (ae 5) ag)) ag)))))))
  (a9 (gIf (tOf (f2 dEq (f2 bi (f2 bY (ae 1) (fC (.int 54))) (fC (.int 6))) (fC (.int 1)))) (aP 9 (f2 ixD (ae 3) (f2 bi (f2 bY (ae 1) (fC (.int 324))) (fC (.int 5))))) aZ)
  (a9 (aP 10 (f2 ixD (ae 3) (f2 bi (f2 bY (ae 1) (fC (.int 1620))) (fC (.int 5)))))
  (a9 (aP 11 (fA C0 (ab (fC (.int 0)) (ab (f2 vc (f2 vc (ae 0) (fC (.int 1))) (f2 bi (ae 2) (fC (.int 4)))) ag))))
  (a9 (gIf (tOf (f2 dEq (f2 bi (f2 bY (ae 2) (fC (.int 4))) (fC (.int 8))) (fC (.int 1)))) (aP 11 (f2 bi (f2 bY (ae 2) (fC (.int 32))) (fC (.int 60)))) aZ)
  (a9 (gIf (tOf (f2 dEq (ae 8) (fC (.str "leave")))) (a9 (aP 12 (f2 ixD (fA br (ab (fC (.int 3)) (ab (fC (.int 1)) (ab (fC (.int 7)) (ab (fC (.int 2)) (ab (fC (.int 255)) (ab (fC (.int 5)) (ab (fC (.int 1)) (ab (fC (.int 3)) ag))))))))) (f2 bi (f2 bY (ae 1) (fC (.int 8100))) (fC (.int 8)))))
  (a9 (aP 13 (f2 bi (f2 bY (ae 2) (fC (.int 256))) (f2 ixD (fA br (ab (fC (.int 5)) (ab (fC (.int 5)) (ab (fC (.int 5)) (ab (fC (.int 10)) ag))))) (f2 bi (f2 bY (ae 2) (fC (.int 2560))) (fC (.int 4))))))
  (aU (fA aL (ab (ae 8) (ab (ae 4) (ab (ae 9) (ab (ae 10) (ab (ae 12) (ab (fA dC (ab (f2 bY (ae 2) (fC (.int 32))) (ab (ae 4) (ab (ae 6) ag)))) (ab (ae 13) ag))))))))))) aZ)
  (a9 (gIf (gI (tOf (f2 dEq (ae 8) (fC (.str "paper")))) (tOf (f2 dEq (ae 8) (fC (.str "like"))))) (a9 (aP 12 (f2 ixD (fA br (ab (fC (.int 1)) (ab (fC (.int 1)) (ab (fC (.int 3)) (ab (fC (.int 2)) (ab (fC (.int 4)) (ab (fC (.int 5)) (ab (fC (.int 128)) (ab (fC (.int 7)) ag))))))))) (f2 bi (f2 bY (ae 1) (fC (.int 8100))) (fC (.int 8)))))
  (a9 (aP 14 (fA aL (ab (ae 8) (ab (ae 4) (ab (ae 9) (ab (ae 12) (ab (fA dC (ab (f2 bY (ae 2) (fC (.int 32))) (ab (ae 4) (ab (ae 6) ag)))) (ab (f2 ixD (fA br (ab (fC .non) (ab (ae 10) ag))) (f2 bi (f2 bY (ae 2) (fC (.int 256))) (fC (.int 2)))) ag))))))))
  (a9 (gIf (tOf (f2 dEq (ae 8) (fC (.str "like")))) (aU (f2 xf (ae 14) (fA aL (ab (ae 11) (ab (fA aL (ab (fA aL (ab (fC (.int 0)) (ab (ae 10) ag))) ag)) ag))))) aZ)
  (aU (f2 xf (ae 14) (fA aL (ab (fA aL (ab (ae 10) ag)) ag))))))) aZ)
  (a9 (gIf (tOf (f2 dIn (ae 8) (fA aL (ab (fC (.str "copy")) (ab (fC (.str "call")) ag))))) (aU (fA aL (ab (ae 8) (ab (ae 4) (ab (ae 9) (ab (ae 11) ag)))))) aZ)
  (a9 (gIf (tOf (f2 dEq (ae 8) (fC (.str "named")))) (aU (fA aL (ab (ae 8) (ab (ae 4) (ab (f2 ixD (ae 3) (f2 bC (fC (.int 5)) (f2 bi (ae 2) (fC (.int 2))))) (ab (ae 10) ag)))))) aZ)
  (a9 (gIf (tOf (f2 dEq (ae 8) (fC (.str "chosen")))) (aU (fA aL (ab (ae 8) (ab (ae 4) (ab (ae 9) (ab (f2 ixD (ae 3) (f2 bC (fC (.int 5)) (f2 bi (ae 2) (fC (.int 4))))) (ab (ae 10) (ab (f2 bC (ae 4) (f2 dQ (f2 bi (f2 bY (ae 2) (fC (.int 32))) (fC (.int 3))) (ae 6))) ag)))))))) aZ)
  (a9 (gIf (tOf (f2 dEq (ae 8) (fC (.str "heir")))) (aU (fA aL (ab (ae 8) (ab (ae 4) (ab (ae 9) (ab (f2 ixD (ae 3) (f2 bC (fC (.int 5)) (f2 bi (ae 2) (fC (.int 2))))) (ab (ae 10) ag))))))) aZ)
  (aU (fA aL (ab (ae 8) (ab (ae 4) (ab (ae 9) ag)))))))))))))))))))
noncomputable def jT:=aN tQ 7 8
noncomputable def kL:FS :=
  (a9 (aP 8 (f2 ixD (fA br (ab (fC (.str "open")) (ab (fC (.str "first")) (ab (fC (.str "last")) ag)))) (f2 bi (f2 bY (ae 4) (f2 bC (fC (.int 64)) (f2 dQ (fC (.int 9)) (ae 7)))) (fC (.int 3)))))
  (a9 (aP 9 (f2 ixD (fA br (ab (fC (.int 7)) (ab (fC (.int 255)) (ab (fC (.int 3)) (ab (fC (.int 15)) ag))))) (f2 bi (f2 bY (ae 4) (f2 bC (fC (.int 2)) (f2 dQ (fC (.int 8)) (ae 7)))) (fC (.int 4)))))
  (a9 (aP 10 (f2 dQ (f2 dQ (fA k9 (ab (f2 dEq (f2 bi (f2 bY (ae 4) (f2 bC (fC (.int 512)) (ae 7))) (fC (.int 8))) (fC (.int 1))) ag)) (fC (.int 4))) (ae 2)))
  (a9 (aP 11 (f2 bi (f2 bY (ae 4) (f2 bC (fC (.int 1024)) (f2 dQ (fC (.int 5)) (ae 7)))) (f2 ixD (fA br (ab (fC (.int 5)) (ab (fC (.int 5)) (ab (fC (.int 10)) ag)))) (f2 bi (f2 bY (ae 4) (f2 bC (fC (.int 31)) (ae 7))) (fC (.int 3))))))
  (a9 (gJ 5 (fA aL (ab (ae 10) (ab (fA aL (ab (fC (.str "root")) (ab (f2 ixD (ae 1) (f2 bC (fC (.int 5)) (ae 7))) (ab (ae 9) (ab (ae 11) (ab (ae 8) ag)))))) ag))))
  (a9 (gJ 5 (fA aL (ab (fC (.int 0)) (ab (fA aL (ab (fC (.str "named")) (ab (fC (.int 0)) (ab (f2 ixD (ae 1) (f2 bC (fC (.int 5)) (ae 7))) (ab (f2 ixD (ae 1) (f2 dQ (ae 7) (fA k9 (ab (f2 iGt (f2 bi (f2 bY (ae 4) (fC (.int 5))) (fC (.int 4))) (fC (.int 0))) ag)))) ag))))) ag))))
  (gJ 6 (f2 ixD (ae 1) (ae 7)))))))))
noncomputable def kM:FS :=
  (a9 (aP 12 (fA cI (ab (ae 0) (ab (f2 bC (fC (.int 5)) (ae 7)) ag))))
  (a9 (aP 13 (f2 dQ (f2 bC (f2 bY (ae 7) (fC (.int 2))) (f2 bi (f2 bY (ae 12) (fC (.int 7))) (fC (.int 3)))) (ae 2)))
  (a9 (aP 14 (fA jT (ab (fA fP (ab (ae 5) ag)) (ab (fA cI (ab (ae 0) (ab (f2 bC (fC (.int 30)) (ae 7)) ag))) (ab (fA cI (ab (ae 0) (ab (f2 bC (fC (.int 60)) (ae 7)) ag))) (ab (ae 1) (ab (ae 13) (ab (ae 6) (ab (ae 2) ag)))))))))
  (a9 (gIf (tOf (f2 dIn (ixV 14 0) (fA aL (ab (fC (.str "leave")) (ab (fC (.str "named")) ag))))) (gJ 6 (ixV 14 3)) aZ)
  (a9 (gIf (tOf (f2 dEq (ixV 14 0) (fC (.str "chosen")))) (gJ 6 (ixV 14 4)) aZ)
  (gJ 5 (fA aL (ab (f2 bC (ae 13) (f2 dQ (f2 ixD (fA br (ab (fC (.int 0)) (ab (fC (.int 0)) (ab (fC (.int 0)) (ab (fC (.int 0)) (ab (fC (.int 1)) (ab (fC (.int 4)) ag))))))) (f2 bi (f2 bY (ae 12) (fC (.int 21))) (fC (.int 6)))) (ae 2))) (ab (ae 14) ag)))))))))
noncomputable def tR:FS :=
  (a9 (aP 4 (fA cI (ab (ae 0) (ab (fC (.int 1)) ag))))
  (a9 (aP 5 (fA br ag))
  (a9 (aP 6 (fA br ag))
  (a9 (j7 (dS (f2 ixD (fA br (ab (fC (.int 1)) (ab (fC (.int 2)) (ab (fC (.int 2)) (ab (fC (.int 4)) ag))))) (f2 bi (ae 4) (fC (.int 4))))) (tgN 7) kL)
  (a9 (j7 (dS (f2 bC (fC (.int 3)) (f2 bi (fA cI (ab (ae 0) (ab (fC (.int 2)) ag))) (ae 3)))) (tgN 7) kM)
  (aU (fA eU (ab (ae 5) ag))))))))
noncomputable def nw:=aN tR 4 11
noncomputable def tS:FS :=
  (a9 (aP 4 (f2 vI (fA dr (ab (ae 0) (ab (ae 1) ag))) (ae 2)))
  (a9 (gIf (tOf (f2 dIs (ae 4) (fC .non))) (aU (fA aL (ab (fC (.str "none")) ag))) aZ)
  (aU (fA bL (ab (fA gA (ab (ae 0) (ab (ae 1) ag))) (ab (ae 4) (ab (ae 3) ag)))))))
noncomputable def iH:=aN tS 4 1
noncomputable def nz:FS :=
  (aU (fA GO (ab (bR (dS (fC (.int 8))) 1 [0,1] (tgN 0) (tOf (f2 dEq (f2 Ct (f2 ET (ae 2) (ae 0)) (fC (.int 1))) (fC (.int 1)))) (f2 dEq (f2 Ct (f2 ET (ae 1) (ae 0)) (fC (.int 1))) (fC (.int 1)))) ag)))
noncomputable def eu:=aN nz 2 0
noncomputable def n0:FS :=
  (gIf (d7 (tOf (f2 dLe (ae 4) (ae 1))) (tOf (f2 dEq (ixV 5 0) (fC (.str "root"))))) (a9 (rX 6 (fA iH (ab (ae 0) (ab (ae 1) (ab (ixV 5 1) (ab (ixV 2 1) ag))))))
  (gIf (d7 (tOf (f2 dEq (fSl (ae 6) sy (pd (fC (.int 2)))) (fA aL (ab (fC (.str "one")) (ab (ixV 2 2) ag))))) (tOf (fA eu (ab (ixV 5 2) (ab (f2 ixD (ae 2) (f2 bC (fC (.int 3)) (fA k9 (ab (f2 dEq (ixV 2 0) (fC (.str "leave"))) ag)))) ag))))) (gIf (gI (tOf (f2 dNe (ixV 2 0) (fC (.str "leave")))) (tOf (f2 dLt (ixV 2 6) (ixV 5 3)))) (gJ 3 (fA aL (ab (ixV 6 2) (ab (ixV 5 1) ag)))) aZ) aZ)) aZ)
noncomputable def xA:FS :=
  (a9 (aP 3 (fA br ag))
  (a9 (o3 (cw (ae 0)) (tgT [4,5]) n0)
  (aU (bR (cw (fA eI (ab (ae 3) ag))) 2 [] (tgT [0,1]) io (fA aL (ab (fC (.str "office")) (ab (ae 1) (ab (ae 0) ag))))))))
noncomputable def qW:=aN xA 3 4
noncomputable def n6:FS :=
  (gIf (gI (di (tOf (fA cQ (ab (ae 2) (ab (fC (.ty "tuple")) ag))))) (gI (di (tOf (fA cQ (ab (f2 ixD (ae 2) (f1 ma (fC (.int 1)))) (ab (fC (.ty "int")) ag))))) (tOf (fA cQ (ab (f2 ixD (ae 2) (f1 ma (fC (.int 1)))) (ab (fC (.ty "bool")) ag)))))) (aU (fC (.bl false))) aZ)
noncomputable def pQ:FS :=
  (a9 (gIf (gI (di (tOf (fA cQ (ab (ae 0) (ab (fC (.ty "list")) ag))))) (tOf (f2 dNe (bR (cw (ae 0)) 1 [] (tgN 0) (tOf (f2 dEq (ixV 0 0) (fC (.str "office")))) (ae 0)) (ae 1)))) (aU (fC (.bl false))) aZ)
  (a9 (o3 (cw (ae 0)) (tgN 2) n6)
  (aU (fC (.bl true)))))
noncomputable def iV:=aN pQ 2 1
noncomputable def AR:FS :=
  (gIf (d7 (tOf (f2 dLe (f2 ixD (f2 ixD (ae 3) (ae 6)) (fC (.int 0))) (ae 4))) (tOf (f2 dIn (f2 ixD (f2 ixD (f2 ixD (ae 3) (ae 6)) (fC (.int 1))) (fC (.int 0))) (fA aL (ab (fC (.str "leave")) (ab (fC (.str "paper")) (ab (fC (.str "like")) ag))))))) (a9 (aP 7 (fA qW (ab (ae 3) (ab (ae 4) (ab (f2 ixD (f2 ixD (ae 3) (ae 6)) (fC (.int 1))) ag)))))
  (a9 (aP 8 (fA lQ (ab (ae 5) (ab (ae 4) (ab (ae 6) ag)))))
  (a9 (gIf (di (tOf (fA iV (ab (ae 8) (ab (ae 7) ag))))) (aU (fC (.bl false))) aZ)
  (a9 (gJ 8 (fA aL (ab (fC (.str "office")) (ab (ixV 1 5) (ab (fC (.int 0)) ag)))))
  (gIf (di (tOf (fA iV (ab (fA lQ (ab (ae 5) (ab (ae 4) (ab (ae 6) ag)))) (ab (ae 7) ag))))) (aU (fC (.bl false))) aZ))))) aZ)
noncomputable def DX:FS :=
  (a9 (aP 1 (fA kK (ab (fA cI (ab (ae 0) (ab (fC (.int 0)) ag))) ag)))
  (a9 (aP 2 (f2 ixD (fA br (ab (fC (.int 1)) (ab (fC (.int 1)) (ab (fC (.int 500)) ag)))) (f2 bi (fA cI (ab (ae 0) (ab (fC (.int 3)) ag))) (fC (.int 3)))))
  (a9 (aP 3 (fA nw (ab (ae 0) (ab (ae 1) (ab (ae 2) (ab (fC (.int 14)) ag))))))
  (a9 (aP 4 (f2 ixD (fA br (ab (fC (.int 9999)) (ab (f2 dQ (f2 bi (f2 bY (fA cI (ab (ae 0) (ab (fC (.int 3)) ag))) (fC (.int 3))) (fC (.int 13))) (ae 2)) ag))) (f2 bY (f2 bi (fA cI (ab (ae 0) (ab (fC (.int 4)) ag))) (fC (.int 3))) (fC (.int 2)))))
  (a9 (aP 5 (fA eU (ab (fA fU (ab (ae 3) ag)) ag)))
  (a9 (j7 (dS (fA fP (ab (ae 3) ag))) (tgN 6) AR)
  (aU (f2 dEq (ae 5) (ae 3)))))))))
noncomputable def F_law:=aN DX 1 8
end Lw
namespace DL
open PySem L2
theorem gY:∀(n m:Nat)(d:D),n<=m->ai n d=true->ai m d=true
 |n,m,.non,_,_=>by simp
 |n,m,.bl _,_,_=>by simp
 |n,m,.int _,_,_=>by simp
 |n,m,.str _,_,_=>by simp
 |n,m,.ty _,_,h=>by cases n<;>simp[ai]at h
 |n,m,.dk _ _,_,h=>by simp at h
 |n,m,.dt _ _,_,h=>by simp at h
 |0,m,.tup _,_,h=>by simp[ai]at h
 |0,m,.lst _,_,h=>by simp[ai]at h
 |n+1,0,_,h,_=>by omega
 |n+1,m+1,.tup ds,hl,h=>by
  simp only[ai,List.all_eq_true]at h ⊢;exact λd hd=>gY n m d (by omega) (h d hd)
 |n+1,m+1,.lst ds,hl,h=>by
  simp only[ai,List.all_eq_true]at h ⊢;exact λd hd=>gY n m d (by omega) (h d hd)
theorem kN:∀(ds:List D),(∀d∈ds,eqD d d=true)->cB ds ds=true
 |[],_=>by simp only[cB]
 |d::ds,h=>by
  simp only[cB,h d mX,Bool.true_and];exact kN ds λe he=>h e (mZ _ he)
theorem jU:∀(n:Nat)(d:D),ai n d=true->eqD d d=true
 |n,.non,_=>by simp
 |n,.bl _,_=>by simp
 |n,.int _,_=>by simp
 |n,.str _,_=>by simp
 |n,.ty _,h=>by cases n<;>simp[ai]at h
 |n,.dk _ _,h=>by simp at h
 |n,.dt _ _,h=>by simp at h
 |0,.tup _,h=>by simp[ai]at h
 |0,.lst _,h=>by simp[ai]at h
 |n+1,.tup ds,h=>by
  simp only[ai,List.all_eq_true]at h;simp only[eqD];exact kN ds λd hd=>jU n d (h d hd)
 |n+1,.lst ds,h=>by
  simp only[ai,List.all_eq_true]at h;simp only[eqD];exact kN ds λd hd=>jU n d (h d hd)
theorem AS {d:D}(h:ai 40 d=true):dEq d d=some (.bl true,false):=by unfold dEq;rw[if_pos ⟨h,h⟩,jU 40 d h]
end DL
namespace Lw
open PySem DL L2
theorem at0 (d:D)(r:List D):atI (d::r) 0=some d:=by have:=iD (xs:=d::r) (j:=0) (by simp);simpa using this
theorem at1 (d e:D)(r:List D):atI (d::e::r) 1=some e:=by have:=iD (xs:=d::e::r) (j:=1) (by simp);simpa using this
theorem at2 (d e f:D)(r:List D):atI (d::e::f::r) 2=some f:=by have:=iD (xs:=d::e::f::r) (j:=2) (by simp);simpa using this
noncomputable def cq (k:Str):Bool:=decide (k=("death" : Str)) || decide (k=("lost" : Str)) || decide (k=("found" : Str))
noncomputable def cV (k:Str):Bool:=decide (k=("chosen" : Str)) || decide (k=("heir" : Str)) || decide (k=("leave" : Str)) || decide (k=("paper" : Str)) || decide (k=("like" : Str)) || decide (k=("copy" : Str)) || decide (k=("call" : Str))
structure DeedP (kind:Str)(ay:List D):Prop where
 flat:bg ay=true
 plain:ay.all (ai 5)=true
 three:cq kind=true->∃(day:Int)(p:Str),ay=[.int day,.str p]
 slg:cV kind=true->∃(day:Int)(p:Str)(r:List D),ay=.int day::.str p::r
noncomputable def row (h:Int)(kind:Str)(ay:List D):D:=.tup [.int h,.tup (.str kind::ay)]
def jV (r:D):Prop:=∃h kind ay,r=row h kind ay/\DeedP kind ay
theorem jV.flat {r:D}(h:jV r):bc r=true:=by obtain⟨a,k,ay,rfl,dp⟩:=h;simp[row,dp.flat]
theorem jV.plain {r:D}(h:jV r):ai 39 r=true:=by
 obtain⟨a,k,ay,rfl,dp⟩:=h;refine gY 7 39 _ (by decide) ?_;have:=dp.plain;simp only[row,ai,List.all_cons,List.all_nil,Bool.and_true,Bool.true_and];exact this
theorem bO {ds:List D}(h:∀d∈ds,bc d=true):bg ds=true:=by
 induction ds with
 |nil=>rfl
 |cons d r ih=>simp[h d (by simp),ih λe he=>h e (by simp[he])]
theorem cW (zs:List Str):bg (zs.map D.str)=true:=by
 induction zs with
 |nil=>rfl
 |cons a l ih=>simp[ih]
theorem CW {rows:List D}(h:∀r∈rows,jV r):dEq (.tup rows) (.tup rows)=some (.bl true,false):=by
 refine AS ?_;simp only[ai,List.all_eq_true];exact λr hr=>(h r hr).plain
noncomputable def b9:D->Int
 |.tup (.int h::_)=>h
 |_=>0
noncomputable def kindOf:D->Str
 |.tup [_,.tup (.str k::_)]=>k
 |_=>("" : Str)
noncomputable def aG:D->Int
 |.tup [_,.tup (_::.int d::_)]=>d
 |_=>0
noncomputable def pR (p:Str)(day:Int):List D->Bool
 |[.int d,.str q]=>decide (q=p) && decide (d<=day)
 |_=>false
noncomputable def told (ws:List Str)(p:Str)(day:Int):D->Bool
 |.tup [_,.tup (.str kind::ay)]=>decide (kind∈ws) && pR p day ay
 |_=>false
theorem fY (h:Int)(kind:Str)(ay:List D):aC [row h kind ay]=some (.str kind,false):=aw rfl (a8 (by simp[row,at1,at0]))
theorem iI {k:Str}(h:cq k=true):k=("death" : Str)∨k=("lost" : Str)∨k=("found" : Str):=by
 unfold cq at h;simp only[Bool.or_eq_true,decide_eq_true_eq]at h;rcases h with (h|h)|h
 ·exact .inl h
 ·exact .inr (.inl h)
 ·exact .inr (.inr h)
theorem jt {k:Str}(h:cV k=true):k=("chosen" : Str)∨k=("heir" : Str)∨k=("leave" : Str)∨k=("paper" : Str)∨k=("like" : Str)∨k=("copy" : Str)∨k=("call" : Str):=by
 unfold cV at h;simp only[Bool.or_eq_true,decide_eq_true_eq]at h;rcases h with (((((h|h)|h)|h)|h)|h)|h
 ·exact .inl h
 ·exact .inr (.inl h)
 ·exact .inr (.inr (.inl h))
 ·exact .inr (.inr (.inr (.inl h)))
 ·exact .inr (.inr (.inr (.inr (.inl h))))
 ·exact .inr (.inr (.inr (.inr (.inr (.inl h)))))
 ·exact .inr (.inr (.inr (.inr (.inr (.inr h)))))
theorem CY {k:Str}(h:cq k=true∨cV k=true):lF eJ (.str k) (.str "day")=some (.int 0,false):=by
 rcases h with h|h
 ·rcases iI h with rfl|rfl|rfl<;>exact aX (by decide +kernel)
 ·rcases jt h with rfl|rfl|rfl|rfl|rfl|rfl|rfl<;>exact aX (by decide +kernel)
theorem vO {k:Str}(h:cq k=true):lF eJ (.str k) (.str "person")=some (.int 1,false):=by
 rcases iI h with rfl|rfl|rfl<;>exact aX (by decide +kernel)
theorem AT {k:Str}(h:cq k=true∨cV k=true):dEq (.str k) (.str "root")=some (.bl false,false):=by
 rcases h with h|h
 ·rcases iI h with rfl|rfl|rfl<;>exact aX (by decide +kernel)
 ·rcases jt h with rfl|rfl|rfl|rfl|rfl|rfl|rfl<;>exact aX (by decide +kernel)
theorem ba {h:Int}{k:Str}{ay:List D}{part:Str}{i:Nat}{d:D}(hi:lF eJ (.str k) (.str part)=some (.int i,false))(hd:ay[i]? = some d):aj [row h k ay,.str part]=some (d,false):=by
 refine aw rfl (a8 ?_);refine eoF (.tup (.str k::ay)) (.int (1+i)) (by simp[row,at1]) (eoF (.int 1) (.int i) rfl (eoF (.str k) (.str part) (cdD [row h k ay] rfl (fY _ _ _)) rfl hi) (by simp)) ?_;have hlt:i<ay.length:=(List.getElem?_eq_some_iff.mp hd).1;have:atI (.str k::ay) (1+(i:Int))=some d:=by
  have:=iD (xs:=(.str k:D)::ay) (j:=i+1) (by simp;omega);rw[show(1+(i:Int))=((i+1:Nat):Int) by omega,this];simp only[List.getElem_cons_succ];rw[List.getElem?_eq_getElem hlt]at hd;exact hd
 simp[this]
theorem gD {h:Int}{k:Str}{ay:List D}{d:Int}{r:List D}(hk:cq k=true∨cV k=true)(hr:ay=.int d::r):aH [row h k ay]=some (.int d,false):=by
 subst hr;refine aw rfl (aA (tkF (eoF (.str k) (.str "root") (cdD [row h k (.int d::r)] rfl (fY _ _ _)) rfl (AT hk))) (a8 (cdD [row h k (.int d::r),.str "day"] rfl (ba (i:=0) (CY hk) rfl))))
theorem n8 (k:Str)(ws:List Str):inD (.str k) (ws.map .str)=decide (k∈ws):=by
 induction ws with
 |nil=>simp[inD]
 |cons w ws ih=>
  have:inD (.str k) ((w::ws).map .str)=(eqD (.str w) (.str k) || inD (.str k) (ws.map .str)):=rfl;rw[this,ih,kZ];by_cases e:w=k
  ·simp[e]
  ·have e':¬k=w:=λz=>e z.symm;simp[e,e']
theorem kO (ws:List Str):(ws.map D.str).all fu=true:=by
 induction ws with
 |nil=>rfl
 |cons w ws ih=>simp[fu]
theorem iJ (k:Str)(ws:List Str):dIn (.str k) (.tup (ws.map .str))=some (.bl (decide (k∈ws)),false):=by
 simp only[dIn,fT,Option.bind_some,n8];rw[if_pos ⟨rfl,kO ws⟩]
theorem AU {r:D}(hr:jV r)(ws:List Str)(hw:∀w∈ws,cq w=true)(p:Str)(day:Int):jP [r,.tup (ws.map .str),.str p,.int day]=some (.bl (told ws p day r),false):=by
 obtain⟨h,kind,ay,rfl,dp⟩:=hr;have hin:f2 dIn (fA aC (ab (ae 0) ag)) (ae 1) [some (row h kind ay,false),some (.tup (ws.map .str),false),some (.str p,false),some (.int day,false)]=some (.bl (decide (kind∈ws)),false) :=
  eoF (.str kind) (.tup (ws.map .str)) (cdD [row h kind ay] rfl (fY _ _ _)) rfl (iJ kind ws)
 have ht:told ws p day (row h kind ay)=(decide (kind∈ws) && pR p day ay):=rfl;rw[ht];refine aw rfl (a8 (fJ (b1:=false) hin λhk=>?_));have h3:=hw kind (of_decide_eq_true hk);obtain⟨d,q,rfl⟩:=dp.three h3;show jl _ _ _=some (.bl (decide (q=p) && decide (d<=day)),false);refine fJ (b1:=false) ?_ λ_=>?_
 ·exact eoF (.str q) (.str p) (cdD [row h kind [.int d,.str q],.str "person"] rfl (ba (i:=1) (vO h3) rfl)) rfl (by simp)
 ·exact eoF (.int d) (.int day) (cdD [row h kind [.int d,.str q]] rfl (gD (.inl h3) rfl)) rfl (by simp)
theorem AV (ds:List D):pq ds=ds.zipIdx.map λx=>.tup [.int x.2,x.1]:=by
 unfold pq;apply List.ext_getElem?;intro i;simp[List.getElem?_mapIdx,List.getElem?_zipIdx];cases ds[i]?<;>simp
noncomputable def am (rows:List D)(known:Int):List (D×Nat):=rows.zipIdx.filter λx=>decide (b9 x.1<=known)
theorem jW (rows:List D)(hr:∀r∈rows,jV r)(hl:rows.length<=1000)(known:Int):bQ [.tup rows,.int known]=some (.lst ((am rows known).map λx=>.int x.2),true):=by
 have hc:=g8 (fi:=Al (ae 0)) (nT:=2) (cap:=[1]) (tg:=tgT [0,1]) (c:=tOf (f2 dLe (ixV 1 0) (ae 2))) (fe:=ae 0) (ρ:=[some (.tup rows,false),some (.int known,false)]) rows.zipIdx (λx=>.tup [.int x.2,x.1]) (λx=>decide (b9 x.1<=known)) (λx=>.int x.2)
  (by simp[AV]) (by simp;omega) λx hx=>by
   obtain⟨h,kind,ay,e,_⟩:=hr x.1 (List.fst_mem_of_mem_zipIdx hx);refine⟨_,rfl,tkF ?_,λ_=>⟨false,by simp[bS]⟩⟩;simp[bS,e,row,at0,b9]
 exact aw rfl (a8 hc)
noncomputable def lG (rows:List D)(known:Int)(ws:List Str)(p:Str)(day:Int):List (D×Nat):=(am rows known).filter λx=>told ws p day x.1
theorem xB {rows:List D}{known:Int}{ws:List Str}{p:Str}{day:Int}{x:D×Nat}(h:x∈lG rows known ws p day):rows[x.2]? = some x.1/\told ws p day x.1=true:=by
 obtain⟨h1,h2⟩:=List.mem_filter.mp h;exact⟨(List.mk_mem_zipIdx_iff_getElem? (x:=x.1) (i:=x.2)).mp (List.mem_filter.mp h1).1,h2⟩
theorem cF {rows:List D}{i:Nat}{r:D}(h:rows[i]? = some r):atI rows (i:Int)=some r:=by
 obtain⟨hlt,e⟩:=List.getElem?_eq_some_iff.mp h;rw[iD hlt,e]
theorem CZ (rows:List D)(known:Int)(ws:List Str)(p:Str)(day:Int):(lG rows known ws p day).length<=rows.length:=by
 have h1:=List.length_filter_le (λx:D×Nat=>told ws p day x.1) (am rows known);have h2:=List.length_filter_le (λx:D×Nat=>decide (b9 x.1<=known)) rows.zipIdx;rw[List.length_zipIdx]at h2;exact Nat.le_trans h1 h2
theorem qX (rows:List D)(hr:∀r∈rows,jV r)(hl:rows.length<=1000)(known:Int)(ws:List Str)(hw:∀w∈ws,cq w=true)(p:Str)(day:Int):
  de [.tup rows,.int known,.tup (ws.map .str),.str p,.int day]=some (.lst ((lG rows known ws p day).map λx=>.int x.2),true):=by
 have hc:=g8 (fi:=cw (fA bQ (ab (ae 0) (ab (ae 1) ag)))) (nT:=1) (cap:=[2,3,4,0]) (tg:=tgN 0) (c:=tOf (fA jP (ab (f2 ixD (ae 4) (ae 0)) (ab (ae 1) (ab (ae 2) (ab (ae 3) ag)))))) (fe:=ae 0)
  (ρ:=[some (.tup rows,false),some (.int known,false),some (.tup (ws.map .str),false),some (.str p,false),some (.int day,false)]) (am rows known) (λx=>.int x.2) (λx=>told ws p day x.1) (λx=>.int x.2)
  (by
   show(fA bQ (ab (ae 0) (ab (ae 1) ag)) _).bind _=_;rw[cdD [.tup rows,.int known] rfl (jW rows hr hl known)];rfl) (by have:=List.length_filter_le (λx:D×Nat=>decide (b9 x.1<=known)) rows.zipIdx;rw[List.length_zipIdx]at this;exact Nat.le_trans this (by omega)) λx hx=>by
   have hg:rows[x.2]? = some x.1:=(List.mk_mem_zipIdx_iff_getElem? (x:=x.1) (i:=x.2)).mp (List.mem_filter.mp hx).1;refine⟨_,rfl,tkF (cdD [x.1,.tup (ws.map .str),.str p,.int day] ?_ (AU (hr _ (List.mem_of_getElem? hg)) ws hw p day)),λ_=>⟨false,by simp[bS]⟩⟩;have ha:=cF hg;simp[bS,ha]
 exact aw rfl (a8 hc)
noncomputable def kA (x:D×Nat):List At:=[.i (aG x.1),.i x.2]
noncomputable def eZ (a b:D×Nat):Bool:=decide (aG a.1<aG b.1∨(aG a.1=aG b.1/\(a.2:Int)<b.2))
noncomputable def ft:D×Nat->List (D×Nat)->D×Nat
 |b,[]=>b
 |b,x::r=>if eZ b x=true then ft x r else ft b r
noncomputable def DY:List (D×Nat)->Option (D×Nat)
 |[]=>none
 |x::r=>some (ft x r)
theorem F6 (a b c d:Int):aJ [.i a,.i b] [.i c,.i d]=some (decide (a<c∨(a=c/\b<d))):=by
 rw[aJ];by_cases h:a=c
 ·rw[if_pos h,aJ];by_cases h2:b=d
  ·rw[if_pos h2,aJ];simp[h,h2]
  ·rw[if_neg h2];simp[h]
 ·rw[if_neg h];simp[h]
theorem vP (a b:D×Nat):aJ (kA a) (kA b)=some (eZ a b):=F6 _ _ _ _
theorem qY (l:List (D×Nat)):cy (l.map kA)=true:=by
 unfold cy;simp[List.all_eq_true,vP]
theorem kP:∀(r:List (D×Nat))(b:D×Nat),jJ (kA b,.int b.2) (r.map λx=>(kA x,D.int x.2))=.int (ft b r).2
 |[],b=>rfl
 |x::r,b=>by
  rw[List.map_cons,jJ,ft];show(if aJ (kA b) (kA x)=some true then _ else _)=_;rw[vP];by_cases h:eZ b x=true
  ·rw[if_pos h,if_pos (by rw[h])];exact kP r x
  ·rw[if_neg h,if_neg (by simpa using h)];exact kP r b
theorem nA:∀(r:List (D×Nat))(b:D×Nat),ft b r∈b::r
 |[],b=>by simp[ft]
 |x::r,b=>by
  rw[ft];split
  ·exact mZ _ (nA r x)
  ·rcases List.mem_cons.mp (nA r b)with h|h
   ·rw[h];exact mX
   ·exact mZ _ (mZ _ h)
theorem fK {α:Type}{f:D->Option D}{g h:α->D}:∀(l:List α),(∀x∈l,f (g x)=some (h x))->gO f (l.map g)=some (l.map h)
 |[],_=>rfl
 |x::l,hx=>by
  rw[List.map_cons,gO,hx x mX,Option.bind_some,fK l λy hy=>hx y (mZ _ hy)];rfl
theorem eA {α:Type}{g:α->D}{h:α->List At}:∀(l:List α),(∀x∈l,jG (g x)=some (h x))->cA (l.map g)=some (l.map h)
 |[],_=>rfl
 |x::l,hx=>by
  rw[List.map_cons,cA,hx x mX,Option.bind_some,eA l λy hy=>hx y (mZ _ hy)];rfl
noncomputable def jX:List Str:=[("lost" : Str),("found" : Str)]
theorem ly:∀w∈jX,cq w=true:=by
 intro w hw;rcases List.mem_cons.mp hw with rfl|hw
 ·decide +kernel
 ·rcases List.mem_cons.mp hw with rfl|hw
  ·decide +kernel
  ·cases hw
noncomputable def tT (rows:List D)(known:Int)(p:Str)(day:Int):Bool:=match DY (lG rows known jX p day) with
 |none=>true
 |some b=>decide (kindOf b.1=("found" : Str))
theorem nB {ws:List Str}(hw:∀w∈ws,cq w=true){p:Str}{day:Int}{r:D}(hr:jV r)(ht:told ws p day r=true):∃h k d,r=row h k [.int d,.str p]/\cq k=true/\k∈ws/\d<=day:=by
 obtain⟨h,kind,ay,rfl,dp⟩:=hr;have ht':(decide (kind∈ws) && pR p day ay)=true:=ht;rw[Bool.and_eq_true]at ht';have hm:=of_decide_eq_true ht'.1;obtain⟨d,q,rfl⟩:=dp.three (hw _ hm);have hq:(decide (q=p) && decide (d<=day))=true:=ht'.2;rw[Bool.and_eq_true]at hq;have:=of_decide_eq_true hq.1;subst this;exact⟨h,kind,d,rfl,hw _ hm,hm,of_decide_eq_true hq.2⟩
theorem xC {rows:List D}{i:Nat}{h d:Int}{k p:Str}(hg:rows[i]? = some (row h k [.int d,.str p]))(h3:cq k=true):cE [.tup rows,.int i]=some (.tup [.int d,.int i],false):=by
 have ha:=cF hg;refine aw rfl (a8 (cdD [.int d,.int i] (aB (d:=.int d) (b:=false) (cdD [row h k [.int d,.str p]] (by simp[ha]) (gD (.inl h3) rfl)) rfl) (by simp[sizeLine])))
theorem Da (rows:List D)(hr:∀r∈rows,jV r)(hl:rows.length<=1000)(known:Int)(p:Str)(day:Int):gS [.tup rows,.int known,.str p,.int day]=some (.bl (tT rows known p day),false):=by
 have ht:=qX rows hr hl known jX ly p day;have hsl:=CZ rows known jX p day;have key:∀x∈lG rows known jX p day,∃h k d,rows[x.2]? = some (row h k [.int d,.str p])/\x.1=row h k [.int d,.str p]/\cq k=true:=λx hx=>by
  obtain⟨hg,htl⟩:=xB hx;obtain⟨h,k,d,e,h3,_⟩:=nB ly (hr _ (List.mem_of_getElem? hg)) htl;exact⟨h,k,d,by rw[hg,e],e,h3⟩
 unfold tT;generalize hsel:lG rows known jX p day=sel at ht key hsl ⊢;have hset:fA de (ab (ae 0) (ab (ae 1) (ab (fA aL (ab (fC (.str "lost")) (ab (fC (.str "found")) ag))) (ab (ae 2) (ab (ae 3) ag))))) [some (.tup rows,false),some (.int known,false),some (.str p,false),some (.int day,false),none]=some (.lst (sel.map λx=>.int x.2),true) :=
  cdD [.tup rows,.int known,.tup (jX.map .str),.str p,.int day] (by simp[jX,sizeLine]) ht
 have hnl:bg (sel.map λx=>D.int x.2)=true:=bO λd hd=>by obtain⟨x,_,rfl⟩:=List.mem_map.mp hd;rfl
 cases sel with
 |nil=>exact aw rfl (bX hset hnl (bK (tkF (by simp)) (a8 rfl)))
 |cons x r=>
  refine aw rfl (bX hset hnl (aA (tkF (by simp;omega)) (a8 ?_)));obtain⟨h,k,d,hg,e,h3⟩:=key (ft x r) (nA r x);have hb:kindOf (ft x r).1=k:=by rw[e];rfl
  show _=some (D.bl (decide (kindOf (ft x r).1=("found" : Str))),false);rw[hb];refine eoF (.str k) (.str "found") (cdD [row h k [.int d,.str p]] (aB (d:=row h k [.int d,.str p]) (b:=false) (eoF (.tup rows) (.int (ft x r).2) rfl ?_ (by simp[cF hg])) rfl) (fY _ _ _)) rfl (by simp);have hm:∀ρ:DL.Env,ρ[0]? = some (some (.tup rows,false))->gO (mC [0] (fA cE (ab (ae 1) (ab (ae 0) ag))) ρ) ((x::r).map λx=>D.int x.2)=some ((x::r).map λx=>.tup [.int (aG x.1),.int x.2]):=λρ h0=>
   fK (x::r) λy hy=>by
    obtain⟨h,k,d,hg,e,h3⟩:=key y hy;have hd:aG y.1=d:=by rw[e];rfl
    rw[hd];show(fA cE _ _).map _=_;rw[cdD [.tup rows,.int y.2] (by simp[bS,h0]) (xC hg h3)];rfl
  have hk:cA ((x::r).map λx=>D.tup [.int (aG x.1),.int x.2])=some ((x::r).map kA):=eA (x::r) λy _=>rfl;have hz:((x::r).map kA).zip ((x::r).map λx=>D.int x.2)=(kA x,.int x.2)::r.map λx=>(kA x,D.int x.2):=by
   rw[List.zip_map'];rfl
  show(pB (ae 4) _ _)=_;unfold pB fKK;show((some (D.lst ((x::r).map λx=>D.int x.2),false)).bind _)=_;simp only[Option.bind_some];rw[hm _ rfl];simp only[Option.bind_some];rw[hk];simp only[Option.bind_some];rw[if_pos (qY _),hz];simp only[kP]
noncomputable def cX:List Str:=[("death" : Str)]
theorem gZ:∀w∈cX,cq w=true:=by
 intro w hw;rcases List.mem_cons.mp hw with rfl|hw
 ·decide +kernel
 ·cases hw
noncomputable def kQ (rows:List D)(known:Int)(p:Str)(day:Int):Bool:=(lG rows known cX p day).isEmpty
theorem tU (rows:List D)(hr:∀r∈rows,jV r)(hl:rows.length<=1000)(known:Int)(p:Str)(day:Int):gR [.tup rows,.int known,.str p,.int day]=some (.bl (kQ rows known p day),false):=by
 have ht:=qX rows hr hl known cX gZ p day;unfold kQ;generalize lG rows known cX p day=sel at ht ⊢;refine aw rfl (a8 (eoF (.int ((sel.map λx=>D.int x.2).length:Nat)) (.int 0) ?_ rfl ?_))
 ·exact cdD [.lst (sel.map λx=>.int x.2)] (aB (d:=.lst (sel.map λx=>.int x.2)) (b:=true) (cdD [.tup rows,.int known,.tup (cX.map .str),.str p,.int day] (by simp[sizeLine,cX]) ht) rfl) CV
 ·rw[xp];cases sel<;>simp
  omega
noncomputable def eB:D->Str
 |.tup [_,.tup (_::_::.str p::_)]=>p
 |_=>("" : Str)
noncomputable def tV:List Str:=[("chosen" : Str),("heir" : Str),("leave" : Str),("paper" : Str),("like" : Str),("copy" : Str),("call" : Str)]
theorem nD (k:Str):cV k=decide (k∈tV):=by
 unfold cV tV;simp[List.mem_cons,Bool.or_assoc]
theorem vQ:dW=.tup (tV.map .str):=rfl
theorem lz (k:Str)(ws:List Str):fG (.str k) (.tup (ws.map .str))=some (.bl (!decide (k∈ws)),false):=by
 simp only[fG,fT,Option.bind_some,n8];rw[if_pos ⟨rfl,kO ws⟩]
theorem AW {k:Str}(h:cV k=true):lF eJ (.str k) (.str "by")=some (.int 1,false):=by
 rcases jt h with rfl|rfl|rfl|rfl|rfl|rfl|rfl<;>exact aX (by decide +kernel)
noncomputable def qZ (rows:List D)(known:Int)(r:D):Bool:=(decide (b9 r<=known) && cV (kindOf r)) && (kQ rows known (eB r) (aG r) && tT rows known (eB r) (aG r))
theorem nE {rows:List D}{i:Nat}{h:Int}{kind:Str}{ay:List D}(hg:rows[i]? = some (row h kind ay))(known:Int):bV [.tup rows,.int known,.int i]=some (.bl (decide (h<=known)),false):=by
 have hlt:i<rows.length:=(List.getElem?_eq_some_iff.mp hg).1;have ha:=cF hg;refine aw rfl (a8 ?_);have:=fJ (f1:=k6 dLe dLt (fC (.int 0)) (ae 2) (fA fP (ab (ae 0) ag))) (f2:=f2 dLe (f2 ixD (f2 ixD (ae 0) (ae 2)) (fC (.int 0))) (ae 1)) (ρ:=[some (.tup rows,false),some (.int known,false),some (.int i,false)]) (p:=true) (q:=decide (h<=known)) (b1:=false)
  (by
   refine(AN (x:=.int 0) (y:=.int i) (z:=.int rows.length) (b1:=false) (b2:=false) (b3:=false) (b4:=false) (p:=true) (q:=true) rfl rfl (by simp) (by simp) λ_=>?_).trans rfl;simp;omega) λ_=>by simp[ha,row,at0]
 exact this
theorem AX (rows:List D)(hr:∀r∈rows,jV r)(hl:rows.length<=1000)(known:Int){i:Nat}{r:D}(hg:rows[i]? = some r):gT [.tup rows,.int known,.int i]=some (.bl (qZ rows known r),false):=by
 obtain⟨h,kind,ay,rfl,dp⟩:=hr r (List.mem_of_getElem? hg);have hk:=nE hg known;have ha:=cF hg;have hword:∀(ρ:DL.Env),f2 ixD (ae 0) (ae 2) ρ=some (row h kind ay,false)->fA aC (ab (f2 ixD (ae 0) (ae 2)) ag) ρ=some (.str kind,false):=λρ e=>cdD [row h kind ay] (aB e rfl) (fY _ _ _);have hrow:f2 ixD (ae 0) (ae 2) [some (.tup rows,false),some (.int known,false),some (.int i,false),none,none]=some (row h kind ay,false):=by simp[ha]
 have hc:(gI (di (tOf (fA bV (ab (ae 0) (ab (ae 1) (ab (ae 2) ag)))))) (tOf (f2 fG (fA aC (ab (f2 ixD (ae 0) (ae 2)) ag)) (fC dW)))) [some (.tup rows,false),some (.int known,false),some (.int i,false),none,none]=some (!decide (h<=known) || !cV kind):=by
  refine cD (bP (tkF (cdD [.tup rows,.int known,.int i] rfl hk))) λ_=>tkF (eoF (.str kind) dW (hword _ hrow) rfl ?_);rw[vQ,nD];exact lz kind tV
 have hs:qZ rows known (row h kind ay)=((decide (h<=known) && cV kind) && (kQ rows known (eB (row h kind ay)) (aG (row h kind ay)) && tT rows known (eB (row h kind ay)) (aG (row h kind ay)))):=rfl;cases hb:(decide (h<=known) && cV kind) with
 |false=>
  rw[hs,hb];refine aw rfl (bK (hc.trans ?_) (a8 rfl));rw[←Bool.not_and,hb];rfl
 |true=>
  rw[hs,hb];rw[Bool.and_eq_true]at hb;obtain⟨day,p,r',rfl⟩:=dp.slg hb.2;show _=some (D.bl (true && (kQ rows known p day && tT rows known p day)),false);rw[Bool.true_and];refine aw rfl (aA (hc.trans (by rw[hb.1,hb.2];rfl)) (rfF (.str p) (cdD [row h kind (.int day::.str p::r'),.str "by"] (aB hrow rfl) (ba (i:=1) (AW hb.2) rfl)) rfl (rfF (.int day) (cdD [row h kind (.int day::.str p::r')] (aB (d:=row h kind (.int day::.str p::r')) (b:=false) (by simp[ha]) rfl) (gD (.inr hb.2) rfl)) rfl (a8 ?_))));exact fJ (b1:=false) (cdD [.tup rows,.int known,.str p,.int day] (by simp) (tU rows hr hl known p day)) λ_=>cdD [.tup rows,.int known,.str p,.int day] (by simp) (Da rows hr hl known p day)
inductive Cd:Str->List D->Prop
 |root (o r:Str) (m f:Int):Cd ("root" : Str) [.str o,.int m,.int f,.str r]
 |named (d:Int) (o p:Str):Cd ("named" : Str) [.int d,.str o,.str p]
 |chosen (d:Int) (b o p:Str) (s:Int):Cd ("chosen" : Str) [.int d,.str b,.str o,.str p,.int s]
 |heir (d:Int) (b o p:Str):Cd ("heir" : Str) [.int d,.str b,.str o,.str p]
 |three (k:Str) (hk:k=("death" : Str)∨k=("lost" : Str)∨k=("found" : Str)) (d:Int) (p:Str):Cd k [.int d,.str p]
 |other (k:Str) (hk:k=("leave" : Str)∨k=("paper" : Str)∨k=("like" : Str)∨k=("copy" : Str)∨k=("call" : Str)) (d:Int) (b:Str) (r:List D) (hf:bg r=true) (hp:r.all (ai 5)=true):Cd k (.int d::.str b::r)
theorem Cd.deed {k:Str}{r:List D}(h:Cd k r):DeedP k r:=by
 cases h with
 |root o rl m f=>exact⟨rfl,by simp,λh=>absurd h (by decide +kernel),λh=>absurd h (by decide +kernel)⟩
 |named d o p=>exact⟨rfl,by simp,λh=>absurd h (by decide +kernel),λh=>absurd h (by decide +kernel)⟩
 |chosen d b o p s=>exact⟨rfl,by simp,λh=>absurd h (by decide +kernel),λ_=>⟨d,b,_,rfl⟩⟩
 |heir d b o p=>exact⟨rfl,by simp,λh=>absurd h (by decide +kernel),λ_=>⟨d,b,_,rfl⟩⟩
 |three k hk d p=>exact⟨rfl,by simp,λ_=>⟨d,p,rfl⟩,λh=>by rcases hk with rfl|rfl|rfl<;>exact absurd h (by decide +kernel)⟩
 |other k hk d b r hf hp=>exact⟨by simp[hf],by simp only[List.all_cons,hp,ai,Bool.and_true],λh=>by rcases hk with rfl|rfl|rfl|rfl|rfl<;>exact absurd h (by decide +kernel),λ_=>⟨d,b,r,rfl⟩⟩
def re (r:D):Prop:=∃h k ay,r=row h k ay/\Cd k ay
theorem re.rp {r:D}(h:re r):jV r:=by obtain⟨a,k,ay,rfl,d⟩:=h;exact⟨a,k,ay,rfl,d.deed⟩
noncomputable def aW (r:D):Bool:=decide (kindOf r=("root" : Str))
theorem Cd.day {k:Str}{r:List D}(h:Cd k r)(hk:k≠("root" : Str)):∃d q,r=.int d::q:=by
 cases h with
 |root=>exact absurd rfl hk
 |named d=>exact⟨d,_,rfl⟩
 |chosen d=>exact⟨d,_,rfl⟩
 |heir d=>exact⟨d,_,rfl⟩
 |three _ _ d=>exact⟨d,_,rfl⟩
 |other _ _ d=>exact⟨d,_,rfl⟩
theorem Cd.day_idx {k:Str}{r:List D}(h:Cd k r)(hk:k≠("root" : Str)):lF eJ (.str k) (.str "day")=some (.int 0,false):=by
 cases h with
 |root=>exact absurd rfl hk
 |named=>exact aX (by decide +kernel)
 |chosen=>exact aX (by decide +kernel)
 |heir=>exact aX (by decide +kernel)
 |three _ hh=>rcases hh with rfl|rfl|rfl<;>exact aX (by decide +kernel)
 |other _ hh=>rcases hh with rfl|rfl|rfl|rfl|rfl<;>exact aX (by decide +kernel)
theorem bq {f:FE}{ρ:DL.Env}{a b:Str}{x:Bool}{bb:Bool}(e:f ρ=some (.str a,bb))(h:decide (a=b)=x):tOf (f2 dEq f (fC (.str b))) ρ=some x:=tkF (gh (x:=.str a) (y:=.str b) (b1:=bb) (b2:=false) e rfl (by rw[←h];simp))
noncomputable def tW (r:D):D:=if aW r=true then .non else .int (aG r)
theorem kR {r:D}(g:re r):aC [r]=some (.str (kindOf r),false):=by
 obtain⟨h,k,ay,rfl,_⟩:=g;exact fY h k ay
theorem tX {r:D}(g:re r):aH [r]=some (tW r,false):=by
 obtain⟨h,k,ay,rfl,d⟩:=g;unfold tW;by_cases hk:k=("root" : Str)
 ·have:aW (row h k ay)=true:=decide_eq_true hk;rw[if_pos this];exact aw rfl (bK (bq (a:=k) (bb:=false) (cdD [row h k ay] rfl (fY _ _ _)) (decide_eq_true hk)) (a8 rfl))
 ·have:aW (row h k ay)=false:=decide_eq_false hk;rw[if_neg (by rw[this];decide)];obtain⟨dd,q,rfl⟩:=d.day hk;exact aw rfl (aA (bq (a:=k) (bb:=false) (cdD [row h k (.int dd::q)] rfl (fY _ _ _)) (decide_eq_false hk)) (a8 (cdD [row h k (.int dd::q),.str "day"] rfl (ba (i:=0) (d.day_idx hk) rfl))))
def fg (rows:List D):Prop:=rows.length<=60/\∀r∈rows,re r
theorem fg.rp {rows:List D}(g:fg rows):∀r∈rows,jV r:=λr hr=>(g.2 r hr).rp
theorem fg.le {rows:List D}(g:fg rows):rows.length<=1000:=Nat.le_trans g.1 (by decide)
theorem bz {rows:List D}{known:Int}{x:D×Nat}(h:x∈am rows known):rows[x.2]? = some x.1:=by
 obtain⟨h1,_⟩:=List.mem_filter.mp h;exact List.mem_zipIdx_iff_getElem?.mp h1
theorem cY (rows:List D)(known:Int):(am rows known).length<=rows.length:=by
 have:=List.length_filter_le (λx:D×Nat=>decide (b9 x.1<=known)) rows.zipIdx;rw[List.length_zipIdx]at this;exact this
theorem hU (rows:List D)(known:Int):((am rows known).map (·.2)).Nodup:=by
 have h1:(rows.zipIdx.map (·.2)).Nodup:=by rw[List.zipIdx_map_snd];exact List.nodup_range'
 exact List.Nodup.sublist (List.Sublist.map _ (List.filter_sublist)) h1
noncomputable def c8 (rows:List D)(known:Int):List (D×Nat):=(am rows known).filter λx=>!aW x.1
noncomputable def Hf (rows:List D)(known:Int):List (D×Nat):=cH (λx=>bH (kA x)) (c8 rows known)
theorem AY {a b:D×Nat}(h:bH (kA a)=bH (kA b)):a.2=b.2:=by
 have h:[aG a.1,(a.2:Int)]=[aG b.1,(b.2:Int)]:=h;injection h with _ h;injection h with h;omega
theorem Db {rows:List D}{known:Int}{a b:D×Nat}(ha:a∈am rows known)(hb:b∈am rows known)(h:a.2=b.2):a=b:=by
 have h1:=bz ha;have h2:=bz hb;rw[h,h2]at h1;exact Prod.ext (Option.some.inj h1).symm h
theorem tY {rows:List D}(g:fg rows)(known:Int):dX [.tup rows,.int known]=some (.lst ((Hf rows known).map λx=>.int x.2),true):=by
 have hl:=g.1;have hll:=cY rows known;have hrow:∀x∈am rows known,atI rows (x.2:Int)=some x.1/\re x.1:=λx hx=>⟨cF (bz hx),g.2 _ (List.mem_of_getElem? (bz hx))⟩;have hc:=g8 (fi:=cw (fA bQ (ab (ae 0) (ab (ae 1) ag)))) (nT:=1) (cap:=[0]) (tg:=tgN 0) (c:=tOf (f2 jm (fA aH (ab (f2 ixD (ae 1) (ae 0)) ag)) (fC .non))) (fe:=ae 0) (ρ:=[some (.tup rows,false),some (.int known,false),none]) (am rows known) (λx=>.int x.2) (λx=>!aW x.1) (λx=>.int x.2)
  (by
   show(fA bQ (ab (ae 0) (ab (ae 1) ag)) _).bind _=_;rw[cdD [.tup rows,.int known] rfl (jW rows g.rp g.le known)];rfl) (by omega) λx hx=>by
   obtain⟨ha,gx⟩:=hrow x hx;refine⟨_,rfl,tkF (eoF (tW x.1) .non (cdD [x.1] (by simp[bS,ha]) (tX gx)) rfl ?_),λ_=>⟨false,by simp[bS]⟩⟩;unfold tW;cases aW x.1<;>simp[yu]
 have hc':bR (cw (fA bQ (ab (ae 0) (ab (ae 1) ag)))) 1 [0] (tgN 0) (tOf (f2 jm (fA aH (ab (f2 ixD (ae 1) (ae 0)) ag)) (fC .non))) (ae 0) [some (.tup rows,false),some (.int known,false),none]=some (.lst ((c8 rows known).map λx=>.int x.2),true):=hc;have hfl:bg ((c8 rows known).map λx=>D.int x.2)=true:=bO λd hd=>by obtain⟨x,_,rfl⟩:=List.mem_map.mp hd;rfl
 have hdl:(c8 rows known).length<=60:=Nat.le_trans (List.length_filter_le _ _) (by omega);have hmem:∀x∈c8 rows known,x∈am rows known/\aW x.1=false:=λx hx=>by
  obtain⟨h1,h2⟩:=List.mem_filter.mp hx;exact⟨h1,by simpa using h2⟩
 have hm:∀ρ:DL.Env,ρ[0]? = some (some (.tup rows,false))->gO (mC [0] (fA cE (ab (ae 1) (ab (ae 0) ag))) ρ) ((c8 rows known).map λx=>.int x.2)=some ((c8 rows known).map λx=>.tup [.int (aG x.1),.int x.2]):=λρ h0=>
  fK (c8 rows known) λx hx=>by
   obtain⟨h1,h2⟩:=hmem x hx;obtain⟨ha,gx⟩:=hrow x h1;have hd:=tX gx;unfold tW at hd;rw[h2,if_neg (by decide)]at hd;have hr:cE [.tup rows,.int x.2]=some (.tup [.int (aG x.1),.int x.2],false):=aw rfl (a8 (cdD [.int (aG x.1),.int x.2] (aB (d:=.int (aG x.1)) (b:=false) (cdD [x.1] (by simp[ha]) hd) rfl) (by simp[sizeLine])));show(fA cE _ _).map _=_;rw[cdD [.tup rows,.int x.2] (by simp[bS,h0]) hr];rfl
 have hk:cA ((c8 rows known).map λx=>D.tup [.int (aG x.1),.int x.2])=some ((c8 rows known).map kA):=eA _ λx _=>rfl;have hz:((c8 rows known).map kA).zip ((c8 rows known).map λx=>D.int x.2)=(c8 rows known).map λx=>(kA x,D.int x.2):=by rw[List.zip_map']
 have hnd:((c8 rows known).map (·.2)).Nodup:=List.Nodup.sublist (List.Sublist.map _ (List.filter_sublist)) (hU rows known);have hcond:((c8 rows known).map kA).length<64/\cy ((c8 rows known).map kA)=true/\cz ((c8 rows known).map kA)=true/\(((c8 rows known).map kA).map bH).Nodup:=by
  refine⟨by rw[List.length_map];omega,qY _,?_,?_⟩
  ·unfold cz;rw[Bool.or_eq_true];left;simp[List.all_eq_true,kA]
  ·rw[List.map_map];exact List.Pairwise.map _ (λa b h e=>h (AY e)) (List.pairwise_map.mp hnd)
 refine aw rfl (bX hc' hfl (a8 ?_));show(mD (ae 2) _ _)=_;unfold mD;show((some (D.lst ((c8 rows known).map λx=>D.int x.2),false)).bind _)=_;simp only[Option.bind_some];rw[hm _ rfl];simp only[Option.bind_some];rw[hk];simp only[Option.bind_some];rw[if_pos hcond];unfold gu;rw[hz];have key:((Hf rows known).map λx=>(kA x,D.int x.2))=cH (λp:List At×D=>bH p.1) ((c8 rows known).map λx=>(kA x,D.int x.2)):=by
  refine gs _ (λx hx y hy e=>?_) ((bv _ _).map _) ?_
  ·obtain⟨a,ha,rfl⟩:=List.mem_map.mp hx;obtain⟨b,hb,rfl⟩:=List.mem_map.mp hy;rw[Db (hmem a ha).1 (hmem b hb).1 (AY e)]
  ·exact List.pairwise_map.mpr (dz _ _)
 rw[←key,List.map_map];rfl
structure Cl where
 o:Str
 p:Str
 s:Int
 u:Option Int
 n:Nat
noncomputable def uD:Option Int->D
 |none=>.non
 |some x=>.int x
noncomputable def clD (c:Cl):D:=.tup [.str c.o,.str c.p,.int c.s,uD c.u,.int c.n]
theorem xD (u:Option Int):bc (uD u)=true:=by cases u<;>rfl
theorem jY (c:Cl):bc (clD c)=true:=by simp[clD,xD]
theorem gE (cs:List Cl):bg (cs.map clD)=true:=bO λd hd=>by obtain⟨c,_,rfl⟩:=List.mem_map.mp hd;exact jY c
noncomputable def fL (c:Cl)(day:Int):Bool:=decide (c.s<=day) && (match c.u with|none=>true|some x=>decide (day<x))
theorem at3 (d e f g:D)(r:List D):atI (d::e::f::g::r) 3=some g:=by have:=iD (xs:=d::e::f::g::r) (j:=3) (by simp);simpa using this
theorem at4 (d e f g h:D)(r:List D):atI (d::e::f::g::h::r) 4=some h:=by have:=iD (xs:=d::e::f::g::h::r) (j:=4) (by simp);simpa using this
theorem cl0 (c:Cl):ixD (clD c) (.int 0)=some (.str c.o,false):=by simp[clD,at0]
theorem cl1 (c:Cl):ixD (clD c) (.int 1)=some (.str c.p,false):=by simp[clD,at1]
theorem cl2 (c:Cl):ixD (clD c) (.int 2)=some (.int c.s,false):=by simp[clD,at2]
theorem cl3 (c:Cl):ixD (clD c) (.int 3)=some (uD c.u,false):=by simp[clD,at3]
theorem cl4 (c:Cl):ixD (clD c) (.int 4)=some (.int c.n,false):=by simp[clD,at4]
theorem bF (ds:List D)(h:ds.length<=100):aL ds=some (.tup ds,false):=if_pos (cS (by omega))
theorem ju (ds:List D)(h:ds.length<=100):br ds=some (.lst ds,true):=if_pos (cS (by omega))
theorem xE (s day:Int)(u:Option Int):dY [.int day,.tup [.int s,uD u]]=some (.bl (decide (s<=day) && (match u with|none=>true|some x=>decide (day<x))),false):=by
 refine aw rfl (a8 (fJ (b1:=false) (by simp[at0]) λ_=>?_));cases u with
 |none=>exact AO (p:=true) (q:=true) (b1:=false) (by simp[at1,uD]) (by simp)
 |some x=>exact AO (p:=false) (q:=decide (day<x)) (b1:=false) (by simp[at1,uD]) λ_=>by simp[at1,uD]
theorem nF (c:Cl)(day:Int):bD [clD c,.int day]=some (.bl (fL c day),false) :=
 aw rfl (a8 (cdD [.int day,.tup [.int c.s,uD c.u]] (acF rfl (acF (cdD [.int c.s,uD c.u] (aB (eoF (clD c) (.int 2) rfl rfl (cl2 c)) (aB (eoF (clD c) (.int 3) rfl rfl (cl3 c)) rfl)) (bF _ (by simp))) rfl)) (xE c.s day c.u)))
theorem tZ (c:Cl):bW [clD c]=some (.tup [.int c.s,.int c.n],false) :=
 aw rfl (a8 (cdD [.int c.s,.int c.n] (aB (eoF (clD c) (.int 2) rfl rfl (cl2 c)) (aB (eoF (clD c) (.int 4) rfl rfl (cl4 c)) rfl)) (bF _ (by simp))))
theorem rf (c:Cl):dA [clD c]=some (.tup [.str c.o,.int c.s,.int c.n],false) :=
 aw rfl (a8 (cdD [.str c.o,.int c.s,.int c.n] (aB (eoF (clD c) (.int 0) rfl rfl (cl0 c)) (aB (eoF (clD c) (.int 2) rfl rfl (cl2 c)) (aB (eoF (clD c) (.int 4) rfl rfl (cl4 c)) rfl))) (bF _ (by simp))))
noncomputable def kS (c:Cl):List At:=[.i c.s,.i c.n]
noncomputable def jZ:Cl->List Cl->Cl
 |b,[]=>b
 |b,x::r=>if aJ (kS x) (kS b)=some true then jZ x r else jZ b r
noncomputable def oA:Cl->List Cl->Cl
 |b,[]=>b
 |b,x::r=>if aJ (kS b) (kS x)=some true then oA x r else oA b r
theorem nG:∀(r:List Cl)(b:Cl),jd (kS b,clD b) (r.map λx=>(kS x,clD x))=clD (jZ b r)
 |[],b=>rfl
 |x::r,b=>by
  rw[List.map_cons,jd,jZ];split
  ·exact nG r x
  ·exact nG r b
theorem nH:∀(r:List Cl)(b:Cl),jJ (kS b,clD b) (r.map λx=>(kS x,clD x))=clD (oA b r)
 |[],b=>rfl
 |x::r,b=>by
  rw[List.map_cons,jJ,oA];split
  ·exact nH r x
  ·exact nH r b
theorem xF (cs:List Cl):cy (cs.map kS)=true:=by
 unfold cy;simp[List.all_eq_true,kS,F6]
theorem nI (ρ:DL.Env)(cs:List Cl):gO (o9 bW ρ) (cs.map clD)=some (cs.map λc=>.tup [.int c.s,.int c.n]):=fK cs λc _=>by
 show(bW [clD c]).map _=_;rw[tZ];rfl
theorem l5 (cs:List Cl):cA (cs.map λc=>D.tup [.int c.s,.int c.n])=some (cs.map kS):=eA cs λc _=>rfl
theorem AZ {f:FE}{ρ:DL.Env}{b:Cl}{r:List Cl}{bb:Bool}(e:f ρ=some (.lst ((b::r).map clD),bb)):pC f (o9 bW) ρ=some (clD (jZ b r),false):=by
 unfold pC fKK;rw[e,Option.bind_some];dsimp only;rw[nI,Option.bind_some,l5,Option.bind_some,if_pos (xF _)];have:((b::r).map kS).zip ((b::r).map clD)=(kS b,clD b)::r.map λx=>(kS x,clD x):=by rw[List.zip_map'];rfl
 rw[this];show some (jd _ _,false)=_;rw[nG]
theorem F7 {f:FE}{ρ:DL.Env}{b:Cl}{r:List Cl}{bb:Bool}(e:f ρ=some (.lst ((b::r).map clD),bb)):pB f (o9 bW) ρ=some (clD (oA b r),false):=by
 unfold pB fKK;rw[e,Option.bind_some];dsimp only;rw[nI,Option.bind_some,l5,Option.bind_some,if_pos (xF _)];have:((b::r).map kS).zip ((b::r).map clD)=(kS b,clD b)::r.map λx=>(kS x,clD x):=by rw[List.zip_map'];rfl
 rw[this];show some (jJ _ _,false)=_;rw[nH]
noncomputable def fM (rl:Str)(b:Cl)(r:List Cl):Cl:=if rl=("last" : Str)then oA b r else jZ b r
theorem Ba (rl:Str)(b:Cl)(r:List Cl):gU [.lst ((b::r).map clD),.str rl]=some (.str (fM rl b r).p,false):=by
 unfold fM;by_cases h:rl=("last" : Str)
 ·rw[if_pos h];exact aw rfl (bK (bq (a:=rl) (bb:=false) rfl (decide_eq_true h)) (a8 (eoF (clD (oA b r)) (.int 1) (F7 (bb:=false) rfl) rfl (cl1 _))))
 ·rw[if_neg h];exact aw rfl (aA (bq (a:=rl) (bb:=false) rfl (decide_eq_false h)) (a8 (eoF (clD (jZ b r)) (.int 1) (AZ (bb:=false) rfl) rfl (cl1 _))))
theorem nJ:∀(r:List Cl)(b:Cl),jZ b r∈b::r
 |[],b=>by simp[jZ]
 |x::r,b=>by
  rw[jZ];split
  ·exact mZ _ (nJ r x)
  ·rcases List.mem_cons.mp (nJ r b)with h|h
   ·rw[h];exact mX
   ·exact mZ _ (mZ _ h)
theorem nK:∀(r:List Cl)(b:Cl),oA b r∈b::r
 |[],b=>by simp[oA]
 |x::r,b=>by
  rw[oA];split
  ·exact mZ _ (nK r x)
  ·rcases List.mem_cons.mp (nK r b)with h|h
   ·rw[h];exact mX
   ·exact mZ _ (mZ _ h)
theorem yP (rl:Str)(b:Cl)(r:List Cl):fM rl b r∈b::r:=by
 unfold fM;split
 ·exact nK r b
 ·exact nJ r b
noncomputable def alL (cs:List Cl)(o:Str)(day:Int):List Cl:=cs.filter λc=>decide (c.o=o) && fL c day
noncomputable def jv (cs:List Cl):List Str:=iB (fQ (cs.map (·.p)))
noncomputable def Hg:List Cl->Nat
 |[]=>0
 |b::r=>(jZ b r).n
noncomputable def l7 (rl:Str):List Cl->D
 |[]=>.tup [.str "none"]
 |b::r=>if 1<(jv (b::r)).length/\rl=("open" : Str)then .tup [.str "parted",.lst ((jv (b::r)).map .str)]
  else .tup [.str "one",.str (fM rl b r).p,.int (Hg ((b::r).filter λc=>decide (c.p=(fM rl b r).p)))]
noncomputable def dh (cs:List Cl)(o rl:Str)(day:Int):D:=l7 rl (alL cs o day)
theorem Dc {z:Str}{zs:List Str}:fQ (z::zs)≠[]:=by
 have:∀(ss:List Str)(ts:List Str),z∈ts->z∈ss.foldl ia ts:=λss=>by
  induction ss with
  |nil=>intro ts h;exact h
  |cons a l ih=>intro ts h;exact ih _ (sS.mpr (.inl h))
 have h:=this zs (ia [] z) (sS.mpr (.inr rfl));intro e;unfold fQ at e;rw[List.foldl_cons]at e;rw[e]at h;cases h
theorem iK {h:Int}{o rl:Str}{m f:Int}:aj [row h ("root" : Str) [.str o,.int m,.int f,.str rl],.str "office"]=some (.str o,false):=ba (i:=0) (aX (by decide +kernel)) rfl
theorem yQ {h:Int}{o rl:Str}{m f:Int}:aj [row h ("root" : Str) [.str o,.int m,.int f,.str rl],.str "rule"]=some (.str rl,false):=ba (i:=3) (aX (by decide +kernel)) rfl
theorem nL (zs:List Str):eQ (zs.map .str)=some zs:=by
 induction zs with
 |nil=>rfl
 |cons z zs ih=>simp[ih]
theorem hV (cs:List Cl)(hl:cs.length<=60){h:Int}{o rl:Str}{m f:Int}(day:Int):bL [.lst (cs.map clD),row h ("root" : Str) [.str o,.int m,.int f,.str rl],.int day]=some (dh cs o rl day,false):=by
 let rt:D:=row h ("root" : Str) [.str o,.int m,.int f,.str rl];have h1:=g8 (fi:=cw (ae 0)) (nT:=1) (cap:=[2,1]) (tg:=tgN 0) (c:=d7 (tOf (f2 dEq (ixV 0 0) (fA aj (ab (ae 2) (ab (fC (.str "office")) ag))))) (tOf (fA bD (ab (ae 0) (ab (ae 1) ag))))) (fe:=ae 0)
  (ρ:=[some (.lst (cs.map clD),false),some (rt,false),some (.int day,false),none,none,none,none]) cs clD (λc=>decide (c.o=o) && fL c day) clD (by simp) (by omega) λc hc=>by
   refine⟨_,rfl,dc (tkF (eoF (.str c.o) (.str o) (eoF (clD c) (.int 0) (by simp[bS]) rfl (cl0 c)) (cdD [rt,.str "office"] (by simp[bS]) iK) (by simp))) λ_=>tkF (cdD [clD c,.int day] (by simp[bS]) (nF c day)),λ_=>⟨false,by simp[bS]⟩⟩
 have h1':bR (cw (ae 0)) 1 [2,1] (tgN 0) (d7 (tOf (f2 dEq (ixV 0 0) (fA aj (ab (ae 2) (ab (fC (.str "office")) ag))))) (tOf (fA bD (ab (ae 0) (ab (ae 1) ag))))) (ae 0) [some (.lst (cs.map clD),false),some (rt,false),some (.int day,false),none,none,none,none]=some (.lst ((alL cs o day).map clD),true):=h1;have hal:(alL cs o day).length<=60:=Nat.le_trans (List.length_filter_le _ _) hl;unfold dh;generalize alL cs o day=al at h1' hal;have h2:∀ρ:DL.Env,ρ[3]? = some (some (.lst (al.map clD),true))->f1 eV (bR (cw (ae 3)) 1 [] (tgN 0) io (ixV 0 1)) ρ=some (.lst ((jv al).map .str),true):=λρ h3=>by
  have hc:=pJ (fi:=cw (ae 3)) (nT:=1) (cap:=[]) (tg:=tgN 0) (fe:=ixV 0 1) (ρ:=ρ) al clD (λc=>.str c.p) (by simp[h3]) (by omega) λc hc=>⟨_,rfl,false,eoF (clD c) (.int 1) (by simp[bS]) rfl (cl1 c)⟩;have e2:al.map (λc=>D.str c.p)=(al.map (·.p)).map .str:=by rw[List.map_map];rfl
  rw[e2]at hc;unfold f1;rw[hc,Option.bind_some];show(eQ ((al.map (·.p)).map .str)).bind _=_;rw[nL,Option.bind_some,if_pos (by rw[List.length_map];omega)];rfl
 have hpl:bg ((jv al).map D.str)=true:=cW _;refine aw rfl (bX (ds:=al.map clD) h1' (gE al) (bX (ds:=(jv al).map .str) (h2 _ rfl) hpl ?_));cases al with
 |nil=>exact bK (tkF (by simp[jv,fQ,iB])) (a8 (cdD [.str "none"] rfl (bF _ (by simp))))
 |cons b r=>
  have hne:(jv (b::r)).length≠0:=by
   unfold jv;rw[(dw _).length_eq];intro e;exact Dc (List.length_eq_zero_iff.mp e)
  refine aA (tkF (by simp[hne])) ?_;have hrule:∀ρ:DL.Env,ρ[1]? = some (some (rt,false))->fA aj (ab (ae 1) (ab (fC (.str "rule")) ag)) ρ=some (.str rl,false):=λρ q1=>cdD [rt,.str "rule"] (by simp[q1]) yQ;by_cases hp:1<(jv (b::r)).length/\rl=("open" : Str)
  ·have:l7 rl (b::r)=.tup [.str "parted",.lst ((jv (b::r)).map .str)]:=by rw[l7,if_pos hp]
   rw[this];exact bK (dc (p:=true) (q:=true) (tkF (by simp;omega)) λ_=>bq (bb:=false) (hrule _ rfl) (decide_eq_true hp.2)) (a8 (cdD [.str "parted",.lst ((jv (b::r)).map .str)] (by simp) (bF _ (by simp))))
  ·have:l7 rl (b::r)=.tup [.str "one",.str (fM rl b r).p,.int (Hg ((b::r).filter λc=>decide (c.p=(fM rl b r).p)))]:=by rw[l7,if_neg hp]
   rw[this];have hcond:d7 (tOf (f2 iGt (fA fP (ab (ae 4) ag)) (fC (.int 1)))) (tOf (f2 dEq (fA aj (ab (ae 1) (ab (fC (.str "rule")) ag))) (fC (.str "open")))) [some (.lst (cs.map clD),false),some (rt,false),some (.int day,false),some (.lst ((b::r).map clD),true),some (.lst ((jv (b::r)).map .str),true),none,none]=some false:=by
    by_cases h5:1<(jv (b::r)).length
    ·exact dc (p:=true) (q:=false) (tkF (by simp;omega)) λ_=>bq (bb:=false) (hrule _ rfl) (decide_eq_false λe=>hp ⟨h5,e⟩)
    ·exact dc (p:=false) (q:=false) (tkF (by simp;omega)) (by simp)
   have hmem:=yP rl b r;let ch:=fM rl b r;have h6:=g8 (fi:=cw (ae 3)) (nT:=1) (cap:=[5]) (tg:=tgN 0) (c:=tOf (f2 dEq (ixV 0 1) (ae 1))) (fe:=ae 0) (ρ:=[some (.lst (cs.map clD),false),some (rt,false),some (.int day,false),some (.lst ((b::r).map clD),true),some (.lst ((jv (b::r)).map .str),true),some (.str ch.p,false),none]) (b::r) clD (λc=>decide (c.p=ch.p)) clD (by simp) (by omega) λc hc=>⟨_,rfl,tkF (eoF (.str c.p) (.str ch.p) (eoF (clD c) (.int 1) (by simp[bS]) rfl (cl1 c)) (by simp[bS]) (by simp)),λ_=>⟨false,by simp[bS]⟩⟩;obtain⟨b2,r2,hf⟩:∃b2 r2,(b::r).filter (λc=>decide (c.p=ch.p))=b2::r2:=by
    cases hq:(b::r).filter (λc=>decide (c.p=ch.p)) with
    |nil=>
     have:=List.filter_eq_nil_iff.mp hq _ hmem;simp[ch]at this
    |cons b2 r2=>exact⟨b2,r2,rfl⟩
   rw[hf]at h6 ⊢;refine aA hcond (rfF (.str ch.p) (cdD [.lst ((b::r).map clD),.str rl] (acF (by simp) (aB (hrule _ rfl) rfl)) (Ba rl b r)) rfl (rfF (clD (jZ b2 r2)) (AZ (bb:=true) h6) (jY _) (a8 (cdD [.str "one",.str ch.p,.int (jZ b2 r2).n] (acF rfl (acF rfl (aB (eoF (clD (jZ b2 r2)) (.int 4) rfl rfl (cl4 _)) rfl))) (bF _ (by simp))))))
noncomputable def Bb:D->D
 |.tup ds=>.tup (o5 ds none (some 2))
 |d=>d
noncomputable def fj (cs:List Cl)(o rl p:Str)(day:Int):Bool:=eqD (Bb (dh cs o rl day)) (.tup [.str "one",.str p])
theorem vR (n:Nat)(zs:List Str):(zs.map D.str).all (ai n)=true:=by
 induction zs with
 |nil=>rfl
 |cons a l ih=>simp
theorem pT (rl:Str)(al:List Cl):∃ds,l7 rl al=.tup ds/\ds.all (ai 5)=true:=by
 cases al with
 |nil=>exact⟨_,rfl,by simp⟩
 |cons b r=>
  rw[l7];split
  ·exact⟨_,rfl,by simp only[List.all_cons,List.all_nil,ai,Bool.and_true,Bool.true_and];exact vR _ _⟩
  ·exact⟨_,rfl,by simp⟩
theorem ua {ds:List D}{lo hi:Option Int}(h:ds.all (ai 5)=true):(o5 ds lo hi).all (ai 5)=true:=by
 rw[List.all_eq_true]at h ⊢;exact λd hd=>h d (List.mem_of_mem_drop (List.mem_of_mem_take hd))
theorem kT {ds:List D}(h:ds.all (ai 5)=true):ai 40 (.tup ds)=true:=gY 6 40 _ (by decide) (by simpa only[ai]using h)
theorem xG (cs:List Cl)(hl:cs.length<=60){h:Int}{o rl:Str}{m f:Int}(p:Str)(day:Int):ci [.lst (cs.map clD),row h ("root" : Str) [.str o,.int m,.int f,.str rl],.str p,.int day]=some (.bl (fj cs o rl p day),false):=by
 have hb:=hV cs hl (h:=h) (o:=o) (rl:=rl) (m:=m) (f:=f) day;obtain⟨ds,e,hd⟩:=pT rl (alL cs o day);have e':dh cs o rl day=.tup ds:=e;refine aw rfl (a8 (eoF (Bb (dh cs o rl day)) (.tup [.str "one",.str p]) ?_ (by simp[sizeLine]) ?_))
 ·have hc:=xn (F:=bL) (fa:=ab (ae 0) (ab (ae 1) (ab (ae 3) ag))) (ρ:=[some (.lst (cs.map clD),false),some (row h ("root" : Str) [.str o,.int m,.int f,.str rl],false),some (.str p,false),some (.int day,false)]) (ds:=[.lst (cs.map clD),row h ("root" : Str) [.str o,.int m,.int f,.str rl],.int day]) rfl hb;rw[e']at hc ⊢;show fSl (fA bL (ab (ae 0) (ab (ae 1) (ab (ae 3) ag)))) sy (pd (fC (.int 2))) _=_;unfold fSl;rw[show(List.map (λd=>some (d,false)) [D.lst (cs.map clD),row h ("root" : Str) [.str o,.int m,.int f,.str rl],.str p,.int day]++List.replicate 0 none:DL.Env)=[some (.lst (cs.map clD),false),some (row h ("root" : Str) [.str o,.int m,.int f,.str rl],false),some (.str p,false),some (.int day,false)]from rfl,hc];rfl
 ·unfold fj dEq;rw[if_pos];rw[e'];exact⟨kT (ua hd),kT (by simp)⟩
noncomputable def ax (j:Nat):D->Str
 |.tup [_,.tup (_::ay)]=>match ay[j]? with
  |some (.str s)=>s
  |_=>("" : Str)
 |_=>("" : Str)
noncomputable def jh (j:Nat):D->Int
 |.tup [_,.tup (_::ay)]=>match ay[j]? with
  |some (.int s)=>s
  |_=>0
 |_=>0
theorem Cd.root_of {r:List D}(h:Cd ("root" : Str) r):∃o rl,∃m f:Int,r=[.str o,.int m,.int f,.str rl]:=by
 generalize hk:("root" : Str)=k at h;cases h with
 |root o rl m f=>exact⟨o,rl,m,f,rfl⟩
 |named=>exact absurd hk (by decide +kernel)
 |chosen=>exact absurd hk (by decide +kernel)
 |heir=>exact absurd hk (by decide +kernel)
 |three _ hh=>rcases hh with rfl|rfl|rfl<;>exact absurd hk (by decide +kernel)
 |other _ hh=>rcases hh with rfl|rfl|rfl|rfl|rfl<;>exact absurd hk (by decide +kernel)
theorem pU {κ α:Type}[DecidableEq κ]{ks:List κ}{k:κ}{x y:α}:∀ {xs:List α},y∈dN ks xs k x->y=x∨y∈xs:=by
 intro xs h;unfold dN at h;split at h
 ·rename_i hk0;clear hk0;induction ks generalizing xs with
  |nil=>simp at h
  |cons a ks ih=>
   cases xs with
   |nil=>simp at h
   |cons b xs=>
    rw[List.zipWith_cons_cons,List.mem_cons]at h;rcases h with h|h
    ·split at h
     ·exact .inl h
     ·exact .inr (by rw[h];exact mX)
    ·rcases ih h with h|h
     ·exact .inl h
     ·exact .inr (mZ _ h)
 ·rcases List.mem_append.mp h with h|h
  ·exact .inr h
  ·exact .inl (List.mem_singleton.mp h)
theorem pV:∀(l:List (Key×D))(a:List Key×List D)(y:D),y∈(l.foldl mI a).2->y∈a.2∨∃p∈l,p.2=y
 |[],a,y,h=>.inl h
 |p::l,a,y,h=>by
  rw[List.foldl_cons]at h;rcases pV l _ y h with h|⟨q,hq,e⟩
  ·rcases pU (show y∈dN a.1 a.2 p.1 p.2 from h)with h|h
   ·exact .inr ⟨p,mX,h.symm⟩
   ·exact .inl h
  ·exact .inr ⟨q,mZ _ hq,e⟩
theorem pW {α:Type}(f:α->Str)(g:α->D):∀(l:List α),gf (l.map λx=>D.tup [.str (f x),g x])=some (l.map λx=>(.inr (f x),g x))
 |[]=>rfl
 |x::l=>by
  rw[List.map_cons,gf,pW f g l];rfl
theorem nM {κ:Type}[DecidableEq κ]:∀ {ks:List κ}{vs:List D}{k:κ}{v:D},cn ks vs k=some v->v∈vs
 |k'::ks,d::ds,k,v,h=>by
  unfold cn at h;split at h
  ·cases h;exact mX
  ·exact mZ _ (nM h)
 |[],_,_,_,h=>by simp[cn]at h
 |_::_,[],_,_,h=>by simp[cn]at h
noncomputable def iL (KL:List (D×Nat)):List (Key×D):=(KL.filter λx=>aW x.1).map λx=>(.inr (ax 0 x.1),x.1)
noncomputable def kc (KL:List (D×Nat))(o:Str):Option D:=cn (bw (iL KL)).1 (bw (iL KL)).2 (.inr o)
theorem nN {r:D}(g:re r)(h:aW r=true):∃a o rl,∃m f:Int,r=row a ("root" : Str) [.str o,.int m,.int f,.str rl]:=by
 obtain⟨a,k,ay,rfl,d⟩:=g;have hk:k=("root" : Str):=of_decide_eq_true h;subst hk;obtain⟨o,rl,m,f,rfl⟩:=d.root_of;exact⟨a,o,rl,m,f,rfl⟩
theorem cJ {rows:List D}(g:fg rows){known:Int}{x:D×Nat}(hx:x∈am rows known):atI rows (x.2:Int)=some x.1/\re x.1:=⟨cF (bz hx),g.2 _ (List.mem_of_getElem? (bz hx))⟩
theorem l8 {rows:List D}(g:fg rows){known:Int}{o:Str}{v:D}(h:kc (am rows known) o=some v):∃a o2 rl,∃m f:Int,v=row a ("root" : Str) [.str o2,.int m,.int f,.str rl]:=by
 have hv:=nM h;rcases pV _ ([],[]) v hv with h|⟨p,hp,e⟩
 ·cases h
 ·obtain⟨x,hx,rfl⟩:=List.mem_map.mp hp;obtain⟨h1,h2⟩:=List.mem_filter.mp hx;rw[←e];exact nN (cJ g h1).2 h2
theorem nO {rows:List D}(g:fg rows)(known:Int):dr [.tup rows,.int known]=some (.dk (bw (iL (am rows known))).1 (bw (iL (am rows known))).2,false):=by
 have hl:=cY rows known;have hl2:=g.1;have h1:=pJ (fi:=cw (fA bQ (ab (ae 0) (ab (ae 1) ag)))) (nT:=1) (cap:=[0]) (tg:=tgN 0) (fe:=f2 ixD (ae 1) (ae 0)) (ρ:=[some (.tup rows,false),some (.int known,false),none]) (am rows known) (λx=>.int x.2) Prod.fst
  (by
   show(fA bQ (ab (ae 0) (ab (ae 1) ag)) _).bind _=_;rw[cdD [.tup rows,.int known] rfl (jW rows g.rp g.le known)];rfl) (by omega) λx hx=>by
   have ha:=(cJ g hx).1;exact⟨_,rfl,false,by simp[bS,ha]⟩
 have hn:bg ((am rows known).map Prod.fst)=true:=bO λd hd=>by
  obtain⟨x,hx,rfl⟩:=List.mem_map.mp hd;exact(cJ g hx).2.rp.flat
 have h2:=g8 (fi:=cw (ae 2)) (nT:=1) (cap:=[]) (tg:=tgN 0) (c:=tOf (f2 dEq (fA aC (ab (ae 0) ag)) (fC (.str "root")))) (fe:=fA aL (ab (fA aj (ab (ae 0) (ab (fC (.str "office")) ag))) (ab (ae 0) ag)))
  (ρ:=[some (.tup rows,false),some (.int known,false),some (.lst ((am rows known).map Prod.fst),true)]) (am rows known) Prod.fst (λx=>aW x.1) (λx=>.tup [.str (ax 0 x.1),x.1]) (by simp) (by omega) λx hx=>by
   have gr:=(cJ g hx).2;refine⟨_,rfl,bq (a:=kindOf x.1) (bb:=false) (cdD [x.1] rfl (kR gr)) rfl,λhp=>⟨false,?_⟩⟩;obtain⟨a,o,rl,m,f,e⟩:=nN gr hp;refine cdD [.str (ax 0 x.1),x.1] (acF (cdD [x.1,.str "office"] rfl ?_) rfl) (bF _ (by simp));rw[e];exact iK
 refine aw rfl (bX (ds:=(am rows known).map Prod.fst) h1 hn (a8 (cdD [.lst (((am rows known).filter λx:D×Nat=>aW x.1).map λx:D×Nat=>D.tup [.str (ax 0 x.1),x.1])] (aB h2 rfl) ?_)));rw[gP,pW (λx:D×Nat=>ax 0 x.1) Prod.fst];rfl
noncomputable def lH:D×Nat->List (D×Nat)->D×Nat
 |b,[]=>b
 |b,x::r=>if aJ (kA x) (kA b)=some true then lH x r else lH b r
theorem rg:∀(r:List (D×Nat))(b:D×Nat),jd (kA b,.int b.2) (r.map λx=>(kA x,D.int x.2))=.int (lH b r).2
 |[],b=>rfl
 |x::r,b=>by
  rw[List.map_cons,jd,lH];split
  ·exact rg r x
  ·exact rg r b
noncomputable def fN (KL:List (D×Nat))(p:Str)(day:Int)(i:Nat):Bool:=match KL.filter (λx=>told cX p day x.1) with
 |[]=>false
 |b::r=>decide ((lH b r).2=i)
theorem Bc {rows:List D}(g:fg rows)(known:Int){x:D×Nat}(hx:x∈am rows known){a d:Int}{p:Str}(e:x.1=row a ("death" : Str) [.int d,.str p]):df [.tup rows,.int known,.int x.2]=some (.bl (fN (am rows known) p d x.2),false):=by
 have ha:=(cJ g hx).1;have gx:=(cJ g hx).2;have ht:=qX rows g.rp g.le known cX gZ p d;have hpart:aj [x.1,.str "person"]=some (.str p,false):=by rw[e];exact ba (i:=1) (aX (by decide +kernel)) rfl
 have hday:aH [x.1]=some (.int d,false):=by rw[e];exact gD (.inl (by decide +kernel)) rfl
 have hmem:x∈lG rows known cX p d:=List.mem_filter.mpr ⟨hx,by rw[e];simp[told,row,cX,pR]⟩;have hfv:fN (am rows known) p d x.2=match lG rows known cX p d with|[]=>false|b::r=>decide ((lH b r).2=x.2):=rfl
 have key:∀y∈lG rows known cX p d,∃h k dd,rows[y.2]? = some (row h k [.int dd,.str p])/\y.1=row h k [.int dd,.str p]/\cq k=true:=λy hy=>by
  obtain⟨hg,htl⟩:=xB hy;obtain⟨h,k,dd,e2,h3,_⟩:=nB gZ (g.rp _ (List.mem_of_getElem? hg)) htl;exact⟨h,k,dd,by rw[hg,e2],e2,h3⟩
 rw[hfv];cases hs:lG rows known cX p d with
 |nil=>rw[hs]at hmem;cases hmem
 |cons b r=>
  rw[hs]at ht key;have hm:∀ρ:DL.Env,ρ[0]? = some (some (.tup rows,false))->gO (mC [0] (fA cE (ab (ae 1) (ab (ae 0) ag))) ρ) ((b::r).map λy=>.int y.2)=some ((b::r).map λy=>.tup [.int (aG y.1),.int y.2]):=λρ h0=>
   fK (b::r) λy hy=>by
    obtain⟨h,k,dd,hg,e2,h3⟩:=key y hy;show(fA cE _ _).map _=_;rw[cdD [.tup rows,.int y.2] (by simp[bS,h0]) (xC hg h3),e2];rfl
  have hk:cA ((b::r).map λy=>D.tup [.int (aG y.1),.int y.2])=some ((b::r).map kA):=eA _ λy _=>rfl;have hz:((b::r).map kA).zip ((b::r).map λy=>D.int y.2)=(kA b,D.int b.2)::r.map λy=>(kA y,D.int y.2):=by rw[List.zip_map'];rfl
  have hfl:bg ((b::r).map λy=>D.int y.2)=true:=bO λd hd=>by obtain⟨y,_,rfl⟩:=List.mem_map.mp hd;rfl
  refine aw rfl (rfF x.1 (by simp[ha]) gx.rp.flat (bX (ds:=(b::r).map λy=>.int y.2) (cdD [.tup rows,.int known,.tup (cX.map .str),.str p,.int d] (acF rfl (acF rfl (acF (cdD [.str "death"] rfl (bF _ (by simp))) (aB (cdD [x.1,.str "person"] rfl hpart) (aB (cdD [x.1] rfl hday) rfl))))) ht) hfl (a8 (eoF (.int (lH b r).2) (.int x.2) ?_ rfl ?_))))
  ·unfold pC fKK;show((some (D.lst ((b::r).map λy=>D.int y.2),false)).bind _)=_;rw[Option.bind_some];dsimp only;rw[hm _ rfl,Option.bind_some,hk,Option.bind_some,if_pos (qY _),hz];show some (jd _ _,false)=_;rw[rg]
  ·rw[xp];congr 3;apply decide_eq_decide.mpr;omega
abbrev KL:=List (D×Nat)
noncomputable def nQ (K:KL)(p:Str)(day:Int):Bool:=(K.filter λx=>told cX p day x.1).isEmpty
noncomputable def Hh (K:KL)(p:Str)(day:Int):Bool:=match DY (K.filter λx=>told jX p day x.1) with
 |none=>true
 |some x=>decide (kindOf x.1=("found" : Str))
noncomputable def rh (K:KL)(r:D):Bool:=cV (kindOf r) && (nQ K (eB r) (aG r) && Hh K (eB r) (aG r))
noncomputable def Bd (r:D):Str:=if kindOf r=("named" : Str)then ax 1 r else ax 2 r
noncomputable def rj:List Str:=[("named" : Str),("chosen" : Str),("heir" : Str)]
noncomputable def cj (K:KL)(so:List Cl)(x:D×Nat):Bool :=
 if kindOf x.1=("death" : Str)then fN K (ax 1 x.1) (aG x.1) x.2
 else if kindOf x.1∈rj then match kc K (Bd x.1) with
  |none=>false
  |some v=>if kindOf x.1=("named" : Str)then true else rh K x.1 && fj so (ax 0 v) (ax 3 v) (ax 1 x.1) (aG x.1)
 else false
theorem De (rows:List D)(known:Int)(p:Str)(day:Int):kQ rows known p day=nQ (am rows known) p day:=rfl
theorem Df {rows:List D}{known:Int}{r:D}(h:b9 r<=known):qZ rows known r=rh (am rows known) r:=by
 unfold qZ rh;rw[decide_eq_true h,Bool.true_and];rfl
theorem yR {rows:List D}(g:fg rows)(known:Int)(so:List Cl)(hso:so.length<=60){x:D×Nat}(hx:x∈am rows known)(hnr:aW x.1=false):iE [.tup rows,.int known,.lst (so.map clD),.int x.2]=some (.bl (cj (am rows known) so x),false):=by
 obtain⟨ha,gx⟩:=cJ g hx;have hh:b9 x.1<=known:=of_decide_eq_true (List.mem_filter.mp hx).2;have hf:bc x.1=true:=gx.rp.flat;have hw:∀ρ:DL.Env,ρ[4]? = some (some (x.1,false))->fA aC (ab (ae 4) ag) ρ=some (.str (kindOf x.1),false):=λρ h4=>cdD [x.1] (by simp[h4]) (kR gx);have hni:∀ρ:DL.Env,ρ[4]? = some (some (x.1,false))->tOf (f2 fG (fA aC (ab (ae 4) ag)) (fA aL (ab (fC (.str "named")) (ab (fC (.str "chosen")) (ab (fC (.str "heir")) ag))))) ρ=some (!decide (kindOf x.1∈rj)):=λρ h4=>
  tkF (eoF (.str (kindOf x.1)) (.tup (rj.map .str)) (hw ρ h4) (by simp[sizeLine,rj]) (lz _ _))
 by_cases hd:kindOf x.1=("death" : Str)
 ·obtain⟨a,k,ay,e,d⟩:=gx;have hk:k=("death" : Str):=by rw[e]at hd;exact hd
  subst hk;obtain⟨dd,p,rfl⟩:=d.deed.three (by decide +kernel);have hc:cj (am rows known) so x=fN (am rows known) p dd x.2:=by
   unfold cj;rw[if_pos hd,e];rfl
  rw[hc];exact aw rfl (rfF x.1 (by simp[ha]) hf (bK (bq (bb:=false) (hw _ rfl) (decide_eq_true hd)) (a8 (cdD [.tup rows,.int known,.int x.2] rfl (Bc g known hx e)))))
 ·by_cases h3:kindOf x.1∈rj
  ·have hoff:aj [x.1,.str "office"]=some (.str (Bd x.1),false):=by
    obtain⟨a,k,ay,e,d⟩:=gx;rw[e]at h3 hd hnr ⊢;replace h3:k∈rj:=h3;clear hd hnr;cases d with
    |root=>exact absurd h3 (by decide +kernel)
    |named d o p=>exact ba (i:=1) (aX (by decide +kernel)) rfl
    |chosen d b o p s=>exact ba (i:=2) (aX (by decide +kernel)) rfl
    |heir d b o p=>exact ba (i:=2) (aX (by decide +kernel)) rfl
    |three _ hk=>rcases hk with rfl|rfl|rfl<;>exact absurd h3 (by decide +kernel)
    |other _ hk=>rcases hk with rfl|rfl|rfl|rfl|rfl<;>exact absurd h3 (by decide +kernel)
   have e5:∀ρ:DL.Env,ρ[0]? = some (some (.tup rows,false))->ρ[1]? = some (some (.int known,false))->ρ[4]? = some (some (x.1,false))->f2 vI (fA dr (ab (ae 0) (ab (ae 1) ag))) (fA aj (ab (ae 4) (ab (fC (.str "office")) ag))) ρ=some ((kc (am rows known) (Bd x.1)).getD .non,false):=λρ q0 q1 q4=>
    eoF (.dk (bw (iL (am rows known))).1 (bw (iL (am rows known))).2) (.str (Bd x.1)) (cdD [.tup rows,.int known] (by simp[q0,q1]) (nO g known)) (cdD [x.1,.str "office"] (by simp[q4]) hoff) rfl
   cases hr:kc (am rows known) (Bd x.1) with
   |none=>
    rw[hr]at e5;have hc:cj (am rows known) so x=false:=by unfold cj;rw[if_neg hd,if_pos h3,hr]
    rw[hc];exact aw rfl (rfF x.1 (by simp[ha]) hf (aA (bq (bb:=false) (hw _ rfl) (decide_eq_false hd)) (aA (by rw[hni _ rfl,decide_eq_true h3];rfl) (rfF .non (e5 _ rfl rfl rfl) rfl (bK (tkF (eoF .non .non rfl rfl (by simp))) (a8 rfl))))))
   |some v=>
    rw[hr]at e5;obtain⟨va,vo,vrl,vm,vf,ev⟩:=l8 g hr;have hvf:bc v=true:=by rw[ev];rfl
    have hvn:dIs v .non=some (.bl false,false):=by rw[ev];simp[row]
    by_cases hn:kindOf x.1=("named" : Str)
    ·have hc:cj (am rows known) so x=true:=by unfold cj;rw[if_neg hd,if_pos h3,hr];dsimp only;rw[if_pos hn]
     rw[hc];exact aw rfl (rfF x.1 (by simp[ha]) hf (aA (bq (bb:=false) (hw _ rfl) (decide_eq_false hd)) (aA (by rw[hni _ rfl,decide_eq_true h3];rfl) (rfF v (e5 _ rfl rfl rfl) hvf (aA (tkF (eoF v .non rfl rfl hvn)) (bK (bq (bb:=false) (hw _ rfl) (decide_eq_true hn)) (a8 rfl)))))))
    ·have hc:cj (am rows known) so x=(rh (am rows known) x.1 && fj so (ax 0 v) (ax 3 v) (ax 1 x.1) (aG x.1)):=by unfold cj;rw[if_neg hd,if_pos h3,hr];dsimp only;rw[if_neg hn]
     have hby:aj [x.1,.str "by"]=some (.str (ax 1 x.1),false)/\aH [x.1]=some (.int (aG x.1),false):=by
      refine⟨?_,by rw[tX gx];unfold tW;rw[hnr];rfl⟩;obtain⟨a,k,ay,e,d⟩:=gx;rw[e]at h3 hn ⊢;replace h3:k∈rj:=h3;cases d with
      |root=>exact absurd h3 (by decide +kernel)
      |named=>exact absurd rfl hn
      |chosen d b o p s=>exact ba (i:=1) (aX (by decide +kernel)) rfl
      |heir d b o p=>exact ba (i:=1) (aX (by decide +kernel)) rfl
      |three _ hk=>rcases hk with rfl|rfl|rfl<;>exact absurd h3 (by decide +kernel)
      |other _ hk=>rcases hk with rfl|rfl|rfl|rfl|rfl<;>exact absurd h3 (by decide +kernel)
     have hs:=AX rows g.rp g.le known (bz hx);rw[Df hh]at hs;have hheld:ci [.lst (so.map clD),v,.str (ax 1 x.1),.int (aG x.1)]=some (.bl (fj so (ax 0 v) (ax 3 v) (ax 1 x.1) (aG x.1)),false):=by
      rw[ev];exact xG so hso _ _
     rw[hc];refine aw rfl (rfF x.1 (by simp[ha]) hf (aA (bq (bb:=false) (hw _ rfl) (decide_eq_false hd)) (aA (by rw[hni _ rfl,decide_eq_true h3];rfl) (rfF v (e5 _ rfl rfl rfl) hvf (aA (tkF (eoF v .non rfl rfl hvn)) (aA (bq (bb:=false) (hw _ rfl) (decide_eq_false hn)) (a8 ?_)))))));exact fJ (b1:=false) (cdD [.tup rows,.int known,.int x.2] rfl hs) λ_=>cdD [.lst (so.map clD),v,.str (ax 1 x.1),.int (aG x.1)] (acF rfl (acF rfl (aB (cdD [x.1,.str "by"] rfl hby.1) (aB (cdD [x.1] rfl hby.2) rfl)))) hheld
  ·have hc:cj (am rows known) so x=false:=by unfold cj;rw[if_neg hd,if_neg h3]
   rw[hc];exact aw rfl (rfF x.1 (by simp[ha]) hf (aA (bq (bb:=false) (hw _ rfl) (decide_eq_false hd)) (bK (by rw[hni _ rfl,decide_eq_false h3];rfl) (a8 rfl))))
noncomputable def eC (offs:List Str)(p:Str)(day:Int)(c:Cl):List Cl :=
 if(!decide (c.o∈offs) || (!decide (c.p=p) || !(fL c day || decide (day<c.s))))=true then [c]else if c.s<day then [⟨c.o,p,c.s,some day,c.n⟩]else []
noncomputable def bE (so:List Cl)(offs:List Str)(p:Str)(day:Int):List Cl:=so.flatMap (eC offs p day)
theorem eD (offs:List Str)(p:Str)(day:Int):∀so:List Cl,(bE so offs p day).length<=so.length
 |[]=>Nat.le_refl _
 |c::so=>by
  unfold bE;rw[List.flatMap_cons,List.length_append,List.length_cons];have h1:=eD offs p day so;have h2:(eC offs p day c).length<=1:=by
   unfold eC;split
   ·simp
   ·split<;>simp
  unfold bE at h1;omega
theorem vS (k:Str)(ws:List Str):fG (.str k) (.lst (ws.map .str))=some (.bl (!decide (k∈ws)),false):=by
 simp only[fG,fT,Option.bind_some,n8];rw[if_pos ⟨rfl,kO ws⟩]
theorem uc (so:List Cl)(hso:so.length<=60)(offs:List Str)(p:Str)(day:Int):iT [.lst (so.map clD),.lst (offs.map .str),.str p,.int day]=some (.lst ((bE so offs p day).map clD),true):=by
 obtain⟨ρ',e,v5,rfl⟩:=gz (tg:=tgN 5) (g:=ni) (λj ρ=>∃v5:Option (D×Bool),ρ=[some (.lst (so.map clD),false),some (.lst (offs.map .str),false),some (.str p,false),some (.int day,false),some (.lst ((bE (so.take j) offs p day).map clD),true),v5]) (so.map clD)
  [some (.lst (so.map clD),false),some (.lst (offs.map .str),false),some (.str p,false),some (.int day,false),some (.lst [],true),none] ⟨none,rfl⟩ (by
   rintro j d ρ hd ⟨v5,rfl⟩;rw[List.getElem?_map]at hd;obtain⟨c,hc,rfl⟩:=oY hd;have hj:j<so.length:=(List.getElem?_eq_some_iff.mp hc).1;have et:bE (so.take (j+1)) offs p day=bE (so.take j) offs p day++eC offs p day c:=by
    unfold bE;rw[List.take_add_one,hc,Option.toList_some,List.flatMap_append,List.flatMap_cons,List.flatMap_nil,List.append_nil]
   have hlen:(bE (so.take j) offs p day).length<=60:=Nat.le_trans (eD offs p day _) (by rw[List.length_take];omega);let ρ1:DL.Env:=[some (.lst (so.map clD),false),some (.lst (offs.map .str),false),some (.str p,false),some (.int day,false),some (.lst ((bE (so.take j) offs p day).map clD),true),some (clD c,false)];have q0:ixV 5 0 ρ1=some (.str c.o,false):=eoF (clD c) (.int 0) rfl rfl (cl0 c);have q1:ixV 5 1 ρ1=some (.str c.p,false):=eoF (clD c) (.int 1) rfl rfl (cl1 c);have q2:ixV 5 2 ρ1=some (.int c.s,false):=eoF (clD c) (.int 2) rfl rfl (cl2 c);have q4:ixV 5 4 ρ1=some (.int c.n,false):=eoF (clD c) (.int 4) rfl rfl (cl4 c);have hcond:gI (tOf (f2 fG (ixV 5 0) (ae 1))) (gI (tOf (f2 dNe (ixV 5 1) (ae 2))) (di (gI (tOf (fA bD (ab (ae 5) (ab (ae 3) ag)))) (tOf (f2 iGt (ixV 5 2) (ae 3)))))) ρ1=some (!decide (c.o∈offs) || (!decide (c.p=p) || !(fL c day || decide (day<c.s)))) :=
    cD (tkF (eoF (.str c.o) (.lst (offs.map .str)) q0 rfl (vS _ _))) λ_=>cD (tkF (eoF (.str c.p) (.str p) q1 rfl (by simp))) λ_=>bP (cD (tkF (cdD [clD c,.int day] rfl (nF c day))) λ_=>tkF (eoF (.int c.s) (.int day) q2 rfl (by simp)))
   by_cases h1:(!decide (c.o∈offs) || (!decide (c.p=p) || !(fL c day || decide (day<c.s))))=true
   ·have eo:eC offs p day c=[c]:=by unfold eC;rw[if_pos h1]
    rw[h1]at hcond;refine⟨_,_,rfl,.inl (ib hcond (gg (ds:=(bE (so.take j) offs p day).map clD) (d:=clD c) (b:=false) rfl rfl (jY c) (bx (by simp;omega)))),some (clD c,false),?_⟩;rw[et,eo,List.map_append];rfl
   ·rw[Bool.not_eq_true]at h1;rw[h1]at hcond;by_cases h2:c.s<day
    ·have eo:eC offs p day c=[⟨c.o,p,c.s,some day,c.n⟩]:=by unfold eC;rw[if_neg (by rw[h1];decide),if_pos h2]
     refine⟨_,_,rfl,.inl (gQ hcond (ib (tkF (eoF (.int c.s) (.int day) q2 rfl (by simp[h2]))) (gg (ds:=(bE (so.take j) offs p day).map clD) (d:=clD ⟨c.o,p,c.s,some day,c.n⟩) (b:=false) rfl (cdD [.str c.o,.str p,.int c.s,.int day,.int c.n] (aB q0 (acF rfl (aB q2 (acF rfl (aB q4 rfl))))) (bF _ (by simp))) (jY _) (bx (by simp;omega))))),some (clD c,false),?_⟩;rw[et,eo,List.map_append];rfl
    ·have eo:eC offs p day c=[]:=by unfold eC;rw[if_neg (by rw[h1];decide),if_neg h2]
     refine⟨_,_,rfl,.inl (gQ hcond (gQ (tkF (eoF (.int c.s) (.int day) q2 rfl (by simp;omega))) rfl)),some (clD c,false),?_⟩;rw[et,eo,List.append_nil];rfl)
 have e':gb (tgN 5) ni (so.map clD) [some (.lst (so.map clD),false),some (.lst (offs.map .str),false),some (.str p,false),some (.int day,false),some (.lst [],true),none]=some (.nx [some (.lst (so.map clD),false),some (.lst (offs.map .str),false),some (.str p,false),some (.int day,false),some (.lst ((bE so offs p day).map clD),true),v5]):=by
  rw[e];have:so.take (so.map clD).length=so:=by rw[List.length_map,List.take_length]
  rw[this]
 exact aw rfl (bX (ds:=[]) (by simp[sizeLine]) rfl (dj (jO (ds:=so.map clD) (by simp[lY]) e') (lP rfl)))
theorem DZ {r:D}{o p:Str}(ho:aj [r,.str "office"]=some (.str o,false))(hp:aj [r,.str "person"]=some (.str p,false))(s:Int)(n:Nat):cU [r,.int s,.int n]=some (clD ⟨o,p,s,none,n⟩,false) :=
 aw rfl (a8 (cdD [.str o,.str p,.int s,.non,.int n] (aB (cdD [r,.str "office"] rfl ho) (aB (cdD [r,.str "person"] rfl hp) rfl)) (bF _ (by simp))))
theorem yS (so:List Cl)(hso:so.length<=60){a d s:Int}{b o p:Str}(n:Nat):dH [.lst (so.map clD),row a ("chosen" : Str) [.int d,.str b,.str o,.str p,.int s],.int n]=some (.lst ((bE so [o] b s++[(⟨o,p,s,none,n⟩:Cl)]).map clD),true):=by
 let r:D:=row a ("chosen" : Str) [.int d,.str b,.str o,.str p,.int s];have ho:aj [r,.str "office"]=some (.str o,false):=ba (i:=2) (aX (by decide +kernel)) rfl;have hp:aj [r,.str "person"]=some (.str p,false):=ba (i:=3) (aX (by decide +kernel)) rfl;have hb:aj [r,.str "by"]=some (.str b,false):=ba (i:=1) (aX (by decide +kernel)) rfl;have hs:aj [r,.str "since"]=some (.int s,false):=ba (i:=4) (aX (by decide +kernel)) rfl;have hl:=eD [o] b s so;refine aw rfl (rfF (.int s) (cdD [r,.str "since"] rfl hs) rfl (bX (ds:=(bE so [o] b s).map clD) (cdD [.lst (so.map clD),.lst ([o].map .str),.str b,.int s] (acF rfl (aB (b:=true) (cdD [.str o] (aB (cdD [r,.str "office"] rfl ho) rfl) (ju _ (by simp))) (aB (cdD [r,.str "by"] rfl hb) rfl))) (uc so hso [o] b s)) (gE _) (a8 ?_)));refine gh (x:=.lst ((bE so [o] b s).map clD)) (y:=.lst [clD ⟨o,p,s,none,n⟩]) (b1:=false) (b2:=true) rfl (cdD [clD ⟨o,p,s,none,n⟩] (aB (cdD [r,.int s,.int n] rfl (DZ ho hp s n)) rfl) (ju _ (by simp))) ?_;rw[List.map_append];exact if_pos (cS (by rw[List.length_map,List.length_singleton];omega))
noncomputable def ud (hk:List (List Key))(hv:List D)(o p:Str):Option Str:=match cn hk hv [.inr o,.inr p] with
 |some (.str h)=>some h
 |_=>none
noncomputable def cZ (K:KL)(hk:List (List Key))(hv:List D)(p:Str)(day:Int)(n:Nat)(o:Str):List Cl:=match ud hk hv o p with
 |some h=>if nQ K h day=true then [⟨o,h,day,none,n⟩]else []
 |none=>[]
noncomputable def cG (so:List Cl)(p:Str)(day:Int):List Str:=iB (fQ ((so.filter λc=>decide (c.p=p) && fL c day).map (·.o)))
noncomputable def nR (K:KL)(so:List Cl)(hk:List (List Key))(hv:List D)(p:Str)(day:Int)(n:Nat):List Cl:=(cG so p day).flatMap (cZ K hk hv p day n)
theorem jw (K:KL)(hk:List (List Key))(hv:List D)(p:Str)(day:Int)(n:Nat)(o:Str):(cZ K hk hv p day n o).length<=1:=by
 unfold cZ;split
 ·split<;>simp
 ·simp
theorem nS {α β:Type}(f:α->List β)(h:∀a,(f a).length<=1):∀l:List α,(l.flatMap f).length<=l.length
 |[]=>Nat.le_refl _
 |a::l=>by
  rw[List.flatMap_cons,List.length_append,List.length_cons];have:=h a;have:=nS f h l;omega
theorem ue (so:List Cl)(p:Str)(day:Int):(cG so p day).length<=so.length:=by
 unfold cG;rw[(dw _).length_eq];refine Nat.le_trans (mn _) ?_;rw[List.length_map];exact List.length_filter_le _ _
theorem rm {rows:List D}(g:fg rows)(known:Int)(so:List Cl)(hso:so.length<=60)(hk:List (List Key))(hv:List D)(hhv:∀v∈hv,∃s,v=.str s){x:D×Nat}(hx:x∈am rows known){a d:Int}{p:Str}(e:x.1=row a ("death" : Str) [.int d,.str p]):
  fW [.tup rows,.int known,.lst (so.map clD),.dt hk hv,.int x.2]=some (.lst ((nR (am rows known) so hk hv p d x.2).map clD),true):=by
 have ha:=(cJ g hx).1;have hpart:aj [x.1,.str "person"]=some (.str p,false):=by rw[e];exact ba (i:=1) (aX (by decide +kernel)) rfl
 have hday:aH [x.1]=some (.int d,false):=by rw[e];exact gD (.inl (by decide +kernel)) rfl
 have holen:=ue so p d;have hstep:∀(o:Str)(l:List Cl)(v9:Option (D×Bool)),l.length<=60->f7 [some (.tup rows,false),some (.int known,false),some (.lst (so.map clD),false),some (.dt hk hv,false),some (.int x.2,false),some (.str p,false),some (.int d,false),some (.lst (l.map clD),true),some (.str o,false),v9]=some (.nx [some (.tup rows,false),some (.int known,false),some (.lst (so.map clD),false),some (.dt hk hv,false),some (.int x.2,false),some (.str p,false),some (.int d,false),some (.lst ((l++cZ (am rows known) hk hv p d x.2 o).map clD),true),some (.str o,false),some ((cn hk hv [.inr o,.inr p]).getD .non,false)]):=λo l v9 hl=>by
  have eg:AE (ae 3) (ab (ae 8) (ab (ae 5) ag)) [some (.tup rows,false),some (.int known,false),some (.lst (so.map clD),false),some (.dt hk hv,false),some (.int x.2,false),some (.str p,false),some (.int d,false),some (.lst (l.map clD),true),some (.str o,false),v9]=some ((cn hk hv [.inr o,.inr p]).getD .non,false):=by
   simp[fV,sizeLine]
  cases hlk:cn hk hv [.inr o,.inr p] with
  |none=>
   rw[hlk]at eg;have ei:cZ (am rows known) hk hv p d x.2 o=[]:=by unfold cZ ud;rw[hlk]
   rw[ei,List.append_nil];exact rfF .non eg rfl (gQ (dc (p:=false) (q:=false) (tkF (by simp)) (by simp)) rfl)
  |some v=>
   obtain⟨h,rfl⟩:=hhv v (nM hlk);rw[hlk]at eg;have hlv:=tU rows g.rp g.le known h d;rw[De]at hlv;have hand:∀ρ:DL.Env,ρ[0]? = some (some (.tup rows,false))->ρ[1]? = some (some (.int known,false))->ρ[6]? = some (some (.int d,false))->ρ[9]? = some (some (.str h,false))->d7 (tOf (f2 jm (ae 9) (fC .non))) (tOf (fA gR (ab (ae 0) (ab (ae 1) (ab (ae 9) (ab (ae 6) ag)))))) ρ=some (true && nQ (am rows known) h d):=λρ q0 q1 q6 q9=>
    dc (tkF (by simp[q9])) λ_=>tkF (cdD [.tup rows,.int known,.str h,.int d] (by simp[q0,q1,q6,q9]) hlv)
   cases hl2:nQ (am rows known) h d with
   |false=>
    have ei:cZ (am rows known) hk hv p d x.2 o=[]:=by unfold cZ ud;rw[hlk];dsimp only;rw[hl2];rfl
    rw[ei,List.append_nil];exact rfF (.str h) eg rfl (gQ (by rw[hand _ rfl rfl rfl rfl,hl2];rfl) rfl)
   |true=>
    have ei:cZ (am rows known) hk hv p d x.2 o=[⟨o,h,d,none,x.2⟩]:=by unfold cZ ud;rw[hlk];dsimp only;rw[hl2];rfl
    rw[ei,List.map_append];exact rfF (.str h) eg rfl (ib (by rw[hand _ rfl rfl rfl rfl,hl2];rfl) (gg (ds:=l.map clD) (d:=clD ⟨o,h,d,none,x.2⟩) (b:=false) rfl (cdD [.str o,.str h,.int d,.non,.int x.2] rfl (bF _ (by simp))) rfl (bx (by simp;omega))))
 obtain⟨ρ',el,v8,v9,rfl⟩:=gz (tg:=tgN 8) (g:=f7) (λj ρ=>∃v8 v9:Option (D×Bool),ρ=[some (.tup rows,false),some (.int known,false),some (.lst (so.map clD),false),some (.dt hk hv,false),some (.int x.2,false),some (.str p,false),some (.int d,false),some (.lst ((((cG so p d).take j).flatMap (cZ (am rows known) hk hv p d x.2)).map clD),true),v8,v9]) ((cG so p d).map .str)
  [some (.tup rows,false),some (.int known,false),some (.lst (so.map clD),false),some (.dt hk hv,false),some (.int x.2,false),some (.str p,false),some (.int d,false),some (.lst [],true),none,none] ⟨none,none,rfl⟩ (by
   rintro j dd ρ hd ⟨v8,v9,rfl⟩;rw[List.getElem?_map]at hd;obtain⟨o,ho,rfl⟩:=oY hd;have hl:(((cG so p d).take j).flatMap (cZ (am rows known) hk hv p d x.2)).length<=60:=Nat.le_trans (nS _ (jw _ _ _ _ _ _) _) (by rw[List.length_take];omega);refine⟨_,_,rfl,.inl (hstep o _ v9 hl),some (.str o,false),some ((cn hk hv [.inr o,.inr p]).getD .non,false),?_⟩;rw[List.take_add_one,ho,Option.toList_some,List.flatMap_append,List.flatMap_cons,List.flatMap_nil,List.append_nil])
 have e':gb (tgN 8) f7 ((cG so p d).map .str) [some (.tup rows,false),some (.int known,false),some (.lst (so.map clD),false),some (.dt hk hv,false),some (.int x.2,false),some (.str p,false),some (.int d,false),some (.lst [],true),none,none]=some (.nx [some (.tup rows,false),some (.int known,false),some (.lst (so.map clD),false),some (.dt hk hv,false),some (.int x.2,false),some (.str p,false),some (.int d,false),some (.lst ((nR (am rows known) so hk hv p d x.2).map clD),true),v8,v9]):=by
  rw[el];have:(cG so p d).take ((cG so p d).map D.str).length=cG so p d:=by rw[List.length_map,List.take_length]
  rw[this];rfl
 have hset:∀ρ:DL.Env,ρ[2]? = some (some (.lst (so.map clD),false))->ρ[5]? = some (some (.str p,false))->ρ[6]? = some (some (.int d,false))->cw (f1 eV (bR (cw (ae 2)) 1 [5,6] (tgN 0) (d7 (tOf (f2 dEq (ixV 0 1) (ae 1))) (tOf (fA bD (ab (ae 0) (ab (ae 2) ag))))) (ixV 0 0))) ρ=some ((cG so p d).map .str):=λρ q2 q5 q6=>by
  have hc:=g8 (fi:=cw (ae 2)) (nT:=1) (cap:=[5,6]) (tg:=tgN 0) (c:=d7 (tOf (f2 dEq (ixV 0 1) (ae 1))) (tOf (fA bD (ab (ae 0) (ab (ae 2) ag))))) (fe:=ixV 0 0) (ρ:=ρ) so clD (λc=>decide (c.p=p) && fL c d) (λc=>.str c.o) (by simp[q2]) (by omega) λc hc=>
   ⟨_,rfl,dc (tkF (eoF (.str c.p) (.str p) (eoF (clD c) (.int 1) (by simp[bS]) rfl (cl1 c)) (by simp[bS,q5]) (by simp))) λ_=>tkF (cdD [clD c,.int d] (by simp[bS,q6]) (nF c d)),λ_=>⟨false,eoF (clD c) (.int 0) (by simp[bS]) rfl (cl0 c)⟩⟩
  have e2:(so.filter λc=>decide (c.p=p) && fL c d).map (λc=>D.str c.o)=((so.filter λc=>decide (c.p=p) && fL c d).map (·.o)).map .str:=by rw[List.map_map];rfl
  rw[e2]at hc;show(f1 eV _ ρ).bind _=_;unfold f1;rw[hc,Option.bind_some];have hln:((so.filter λc=>decide (c.p=p) && fL c d).map (·.o)).length<64:=by rw[List.length_map];exact Nat.lt_of_le_of_lt (List.length_filter_le _ _) (by omega)
  show((eQ _).bind _).bind _=_;rw[nL,Option.bind_some,if_pos hln];rfl
 refine aw rfl (rfF (.str p) (cdD [x.1,.str "person"] (by simp[ha]) hpart) rfl (rfF (.int d) (cdD [x.1] (by simp[ha]) hday) rfl (bX (ds:=[]) (by simp[sizeLine]) rfl (dj (ρ':=[some (.tup rows,false),some (.int known,false),some (.lst (so.map clD),false),some (.dt hk hv,false),some (.int x.2,false),some (.str p,false),some (.int d,false),some (.lst ((nR (am rows known) so hk hv p d x.2).map clD),true),v8,v9]) ?_ (lP rfl)))));exact jO (ρ:=[some (.tup rows,false),some (.int known,false),some (.lst (so.map clD),false),some (.dt hk hv,false),some (.int x.2,false),some (.str p,false),some (.int d,false),some (.lst [],true),none,none]) (hset _ rfl rfl rfl) e'
theorem Be {rows:List D}(g:fg rows)(known:Int)(so:List Cl)(hso:so.length<=60)(hk:List (List Key))(hv:List D)(hhv:∀v∈hv,∃s,v=.str s){x:D×Nat}(hx:x∈am rows known){a d:Int}{p:Str}(e:x.1=row a ("death" : Str) [.int d,.str p]):
  eK [.tup rows,.int known,.lst (so.map clD),.dt hk hv,.int x.2]=some (.lst ((bE so (so.map Cl.o) p d++nR (am rows known) so hk hv p d x.2).map clD),true):=by
 have ha:=(cJ g hx).1;have hpart:aj [x.1,.str "person"]=some (.str p,false):=by rw[e];exact ba (i:=1) (aX (by decide +kernel)) rfl
 have hday:aH [x.1]=some (.int d,false):=by rw[e];exact gD (.inl (by decide +kernel)) rfl
 have h1:=pJ (fi:=cw (ae 2)) (nT:=1) (cap:=[]) (tg:=tgN 0) (fe:=ixV 0 0) (ρ:=[some (.tup rows,false),some (.int known,false),some (.lst (so.map clD),false),some (.dt hk hv,false),some (.int x.2,false),none,none]) so clD (λc=>.str c.o) (by simp) (by omega) λc hc=>⟨_,rfl,false,eoF (clD c) (.int 0) (by simp[bS]) rfl (cl0 c)⟩;have e2:so.map (λc=>D.str c.o)=(so.map Cl.o).map .str:=by rw[List.map_map];rfl
 rw[e2]at h1;have hl1:=eD (so.map Cl.o) p d so;have hl2:(nR (am rows known) so hk hv p d x.2).length<=60:=Nat.le_trans (nS _ (jw _ _ _ _ _ _) _) (Nat.le_trans (ue so p d) hso);refine aw rfl (bX (ds:=(so.map Cl.o).map .str) h1 (cW _) (bX (ds:=(bE so (so.map Cl.o) p d).map clD) (cdD [.lst (so.map clD),.lst ((so.map Cl.o).map .str),.str p,.int d] (acF rfl (acF rfl (acF (cdD [x.1,.str "person"] (by simp[ha]) hpart) (acF (cdD [x.1] (by simp[ha]) hday) rfl)))) (uc so hso _ p d)) (gE _) (a8 ?_)));refine gh (x:=.lst ((bE so (so.map Cl.o) p d).map clD)) (y:=.lst ((nR (am rows known) so hk hv p d x.2).map clD)) (b1:=false) (b2:=true) rfl (cdD [.tup rows,.int known,.lst (so.map clD),.dt hk hv,.int x.2] rfl (rm g known so hso hk hv hhv hx e)) ?_;rw[List.map_append];exact if_pos (cS (by rw[List.length_map,List.length_map];omega))
abbrev St3:=List Cl×List (List Key)×List D
noncomputable def dm (K:KL)(st:St3)(x:D×Nat):St3 :=
 if cj K st.1 x=true then
  if kindOf x.1=("named" : Str)then (st.1++[⟨ax 1 x.1,ax 2 x.1,aG x.1,none,x.2⟩],st.2)
  else if kindOf x.1=("chosen" : Str)then (bE st.1 [ax 2 x.1] (ax 1 x.1) (jh 4 x.1)++[⟨ax 2 x.1,ax 3 x.1,jh 4 x.1,none,x.2⟩],st.2)
  else if kindOf x.1=("heir" : Str)then (st.1,dM st.2.1 [.inr (ax 2 x.1),.inr (ax 1 x.1)],dN st.2.1 st.2.2 [.inr (ax 2 x.1),.inr (ax 1 x.1)] (.str (ax 3 x.1)))
  else (bE st.1 (st.1.map Cl.o) (ax 1 x.1) (aG x.1)++nR K st.1 st.2.1 st.2.2 (ax 1 x.1) (aG x.1) x.2,st.2)
 else st
noncomputable def eE (K:KL):KL:=cH (λx=>bH (kA x)) (K.filter λx=>!aW x.1)
noncomputable def kg (K:KL)(l:KL):St3:=l.foldl (dm K) ([],[],[])
noncomputable def kC (c:Cl):List At:=[.s c.o,.i c.s,.i c.n]
noncomputable def cL (K:KL):List Cl:=cH (λc=>bH (kC c)) (kg K (eE K)).1
noncomputable def vT:List Key->Str
 |[_,.inr p]=>p
 |_=>("" : Str)
noncomputable def lvK (dd:List Str)(ks:List (List Key)):Nat:=(ks.filter λk=>decide (vT k∉dd)).length
structure SoOk (K l:KL)(dd:List Str)(st:St3):Prop where
 len:st.1.length+lvK dd st.2.1<=l.length
 ded:∀q∈dd,∃y∈l,fN K q (aG y.1) y.2=true
 nod:(st.1.map λc=>(c.o,c.n)).Nodup
 num:∀c∈st.1,c.n∈l.map (·.2)
 hs:∀v∈st.2.2,∃s,v=D.str s
 hk:st.2.1.length<=l.length
theorem xH {ws:List Str}{p:Str}{d:Int}{r:D}(h:told ws p d r=true):aG r<=d/\∀d',aG r<=d'->told ws p d' r=true:=by
 unfold told at h;split at h
 ·rename_i k ay;rw[Bool.and_eq_true]at h;obtain⟨h1,h2⟩:=h;unfold pR at h2;split at h2
  ·rename_i dd q;rw[Bool.and_eq_true]at h2;refine⟨of_decide_eq_true h2.2,λd' hd=>?_⟩;unfold told;rw[Bool.and_eq_true];refine⟨h1,?_⟩;unfold pR;rw[Bool.and_eq_true];exact⟨h2.1,decide_eq_true hd⟩
  ·cases h2
 ·cases h
theorem nU:∀(r:KL)(b:D×Nat),lH b r∈b::r/\∀y∈b::r,eZ y (lH b r)=false
 |[],b=>⟨by simp[lH],λy hy=>by rw[List.mem_singleton.mp hy];simp[lH,eZ]⟩
 |x::r,b=>by
  rw[lH,vP];by_cases h:eZ x b=true
  ·rw[if_pos (by rw[h])];obtain⟨h1,h2⟩:=nU r x;refine⟨mZ _ h1,λy hy=>?_⟩;rcases List.mem_cons.mp hy with rfl|hy
   ·have:=h2 x mX;unfold eZ at *;simp at *;omega
   ·exact h2 y hy
  ·rw[if_neg (by simpa using h)];obtain⟨h1,h2⟩:=nU r b;refine⟨?_,λy hy=>?_⟩
   ·rcases List.mem_cons.mp h1 with e|e
    ·rw[e];exact mX
    ·exact mZ _ (mZ _ e)
   ·rcases List.mem_cons.mp hy with rfl|hy
    ·exact h2 _ mX
    ·rcases List.mem_cons.mp hy with rfl|hy
     ·have:=h2 b mX;unfold eZ at *;simp at *;omega
     ·exact h2 y (mZ _ hy)
theorem nV {K:KL}{p:Str}{d:Int}{i:Nat}(h:fN K p d i=true):∃m∈K,told cX p d m.1=true/\m.2=i/\∀y∈K,told cX p d y.1=true->eZ y m=false:=by
 unfold fN at h;split at h
 ·cases h
 ·rename_i b r e;obtain⟨h1,h2⟩:=nU r b;rw[←e]at h1 h2;obtain⟨h3,h4⟩:=List.mem_filter.mp h1;exact⟨_,h3,h4,of_decide_eq_true h,λy hy ht=>h2 y (List.mem_filter.mpr ⟨hy,ht⟩)⟩
theorem vU {K:KL}{p:Str}{d1 d2:Int}{i1 i2:Nat}(h1:fN K p d1 i1=true)(h2:fN K p d2 i2=true):i1=i2:=by
 obtain⟨m1,k1,t1,e1,q1⟩:=nV h1;obtain⟨m2,k2,t2,e2,q2⟩:=nV h2;have a1:=xH t1;have a2:=xH t2;by_cases hd:d1<=d2
 ·have z1:=q2 m1 k1 (a1.2 d2 (by omega));have hm:aG m2.1<=aG m1.1:=by unfold eZ at z1;simp at z1;omega
  have z2:=q1 m2 k2 (a2.2 d1 (by omega));unfold eZ at z1 z2;simp at z1 z2;omega
 ·have z1:=q1 m2 k2 (a2.2 d1 (by omega));have hm:aG m1.1<=aG m2.1:=by unfold eZ at z1;simp at z1;omega
  have z2:=q2 m1 k1 (a1.2 d2 (by omega));unfold eZ at z1 z2;simp at z1 z2;omega
theorem ug {κ:Type}[DecidableEq κ]:∀ {ks:List κ}{vs:List D}{k:κ}{v:D},cn ks vs k=some v->k∈ks
 |k'::ks,d::ds,k,v,h=>by
  unfold cn at h;split at h
  ·rename_i e;rw[←e];exact mX
  ·exact mZ _ (ug h)
 |[],_,_,_,h=>by simp[cn]at h
 |_::_,[],_,_,h=>by simp[cn]at h
theorem nW (p:Str)(dd:List Str)(hp:p∉dd):∀ks:List (List Key),lvK dd ks=lvK (p::dd) ks+(ks.filter λk=>decide (vT k=p)).length
 |[]=>rfl
 |k::ks=>by
  have ih:=nW p dd hp ks;unfold lvK at ih ⊢;by_cases e:vT k=p
  ·rw[List.filter_cons_of_pos (by simpa [e]using hp),List.filter_cons_of_neg (by simp[e]),List.filter_cons_of_pos (by simp[e]),List.length_cons,List.length_cons];omega
  ·by_cases h:vT k∈dd
   ·rw[List.filter_cons_of_neg (by simp[h]),List.filter_cons_of_neg (by simp[h]),List.filter_cons_of_neg (by simp[e])];exact ih
   ·rw[List.filter_cons_of_pos (by simp[h]),List.filter_cons_of_pos (by simp[h,e]),List.filter_cons_of_neg (by simp[e]),List.length_cons,List.length_cons];omega
theorem iW (offs:List Str)(p:Str)(day:Int):∀so:List Cl,((bE so offs p day).map λc=>(c.o,c.n)).Sublist (so.map λc=>(c.o,c.n))
 |[]=>List.Sublist.slnil
 |c::so=>by
  have ih:=iW offs p day so;unfold bE at ih ⊢;rw[List.flatMap_cons,List.map_append,List.map_cons];have:((eC offs p day c).map λc=>(c.o,c.n))=[(c.o,c.n)]∨((eC offs p day c).map λc=>(c.o,c.n))=[]:=by
   unfold eC;split
   ·exact .inl rfl
   ·split
    ·exact .inl rfl
    ·exact .inr rfl
  rcases this with h|h
  ·rw[h];exact ih.cons₂ _
  ·rw[h];exact ih.cons _
theorem iX {offs:List Str}{p:Str}{day:Int}{so:List Cl}{c:Cl}(h:c∈bE so offs p day):∃c'∈so,c'.o=c.o/\c'.n=c.n:=by
 have:=(iW offs p day so).subset (List.mem_map.mpr ⟨c,h,rfl⟩);obtain⟨c',h1,h2⟩:=List.mem_map.mp this;injection h2 with h3 h4;exact⟨c',h1,h3,h4⟩
theorem gF:∀(ss ts:List Str),ts.Nodup->(ss.foldl ia ts).Nodup
 |[],_,h=>h
 |s::ss,ts,h=>gF ss _ (vx h s)
theorem nX (so:List Cl)(p:Str)(day:Int):(cG so p day).Nodup:=(dw _).nodup_iff.mpr (gF _ [] List.nodup_nil)
theorem uh (K:KL)(hk:List (List Key))(hv:List D)(p:Str)(day:Int)(n:Nat):∀os:List Str,((os.flatMap (cZ K hk hv p day n)).map λc=>(c.o,c.n)).Sublist (os.map λo=>(o,n))
 |[]=>List.Sublist.slnil
 |o::os=>by
  have ih:=uh K hk hv p day n os;rw[List.flatMap_cons,List.map_append,List.map_cons];have:((cZ K hk hv p day n o).map λc=>(c.o,c.n))=[(o,n)]∨((cZ K hk hv p day n o).map λc=>(c.o,c.n))=[]:=by
   unfold cZ;split
   ·split
    ·exact .inl rfl
    ·exact .inr rfl
   ·exact .inr rfl
  rcases this with h|h
  ·rw[h];exact ih.cons₂ _
  ·rw[h];exact ih.cons _
theorem pX {α:Type}[DecidableEq α]:∀(l m:List α),l.Nodup->(∀x∈l,x∈m)->l.length<=m.length
 |[],_,_,_=>Nat.zero_le _
 |x::l,m,h,s=>by
  rw[List.nodup_cons]at h;have hx:=s x mX;have:=pX l (m.erase x) h.2 λy hy=>(List.mem_erase_of_ne (a:=y) (b:=x) (λe=>h.1 (by rw[←e];exact hy))).mpr (s y (mZ _ hy));rw[List.length_erase_of_mem hx]at this;have:0<m.length:=List.length_pos_of_mem hx;rw[List.length_cons];omega
theorem pY {α β:Type}(f:α->List β)(q:α->Bool)(h:∀a,(f a).length<=1/\(q a=false->f a=[])):∀l:List α,(l.flatMap f).length<=(l.filter q).length
 |[]=>Nat.le_refl _
 |a::l=>by
  have ih:=pY f q h l;rw[List.flatMap_cons,List.length_append];cases hq:q a with
  |true=>rw[List.filter_cons_of_pos hq,List.length_cons];have:=(h a).1;omega
  |false=>rw[List.filter_cons_of_neg (by rw[hq];decide),(h a).2 hq];simpa using ih
theorem Dg (K:KL)(so:List Cl)(hk:List (List Key))(hv:List D)(p:Str)(day:Int)(n:Nat):(nR K so hk hv p day n).length<=(hk.filter λk=>decide (vT k=p)).length:=by
 refine Nat.le_trans (pY _ (λo=>(cn hk hv [.inr o,.inr p]).isSome) (λo=>⟨jw _ _ _ _ _ _ _,λh=>?_⟩) _) ?_
 ·have hl:cn hk hv [.inr o,.inr p]=none:=by simpa using h
  unfold cZ ud;rw[hl]
 ·have hnd:(((cG so p day).filter λo=>(cn hk hv [.inr o,.inr p]).isSome).map λo=>([.inr o,.inr p]:List Key)).Nodup:=List.Pairwise.map _ (λa b hab e=>hab (by injection e with e _;injection e)) ((nX so p day).filter _);have:=pX _ (hk.filter λk=>decide (vT k=p)) hnd λk hm=>by
   obtain⟨o,ho,rfl⟩:=List.mem_map.mp hm;obtain⟨v,hv⟩:=Option.isSome_iff_exists.mp (List.mem_filter.mp ho).2;exact List.mem_filter.mpr ⟨ug hv,decide_eq_true rfl⟩
  rwa [List.length_map]at this
theorem SoOk.step {K l:KL}{dd:List Str}{st:St3}(h:SoOk K l dd st){x:D×Nat}(hx:x.2∉l.map (·.2)):∃dd',SoOk K (l++[x]) dd' (dm K st x):=by
 have up:∀ {n:Nat},n∈l.map (·.2)->n∈(l++[x]).map (·.2):=λh=>by rw[List.map_append];exact List.mem_append_left _ h
 have me:x.2∈(l++[x]).map (·.2):=by simp
 have ll:(l++[x]).length=l.length+1:=by simp
 have dup:∀q∈dd,∃y∈l++[x],fN K q (aG y.1) y.2=true:=λq hq=>by
  obtain⟨y,h1,h2⟩:=h.ded q hq;exact⟨y,List.mem_append_left _ h1,h2⟩
 have wk:SoOk K (l++[x]) dd st:=⟨by have:=h.len;omega,dup,h.nod,λc hc=>up (h.num c hc),h.hs,by have:=h.hk;omega⟩;have hlen:=h.len;unfold dm;split
 ·rename_i hcount;split
  ·refine⟨dd,by simp;omega,dup,?_,λc hc=>?_,h.hs,by rw[ll];exact Nat.le_succ_of_le h.hk⟩
   ·rw[List.map_append,List.nodup_append];refine⟨h.nod,by simp,λa ha b hb e=>?_⟩;obtain⟨c,hc,rfl⟩:=List.mem_map.mp ha;simp at hb;subst hb;injection e with _ e2;exact hx (e2 ▸ h.num c hc)
   ·rcases List.mem_append.mp hc with hc|hc
    ·exact up (h.num c hc)
    ·rw[List.mem_singleton.mp hc];exact me
  ·split
   ·have hl:=eD [ax 2 x.1] (ax 1 x.1) (jh 4 x.1) st.1;refine⟨dd,by simp;omega,dup,?_,λc hc=>?_,h.hs,by rw[ll];exact Nat.le_succ_of_le h.hk⟩
    ·rw[List.map_append,List.nodup_append];refine⟨h.nod.sublist (iW _ _ _ _),by simp,λa ha b hb e=>?_⟩;obtain⟨c,hc,rfl⟩:=List.mem_map.mp ha;simp at hb;subst hb;injection e with _ e2;obtain⟨c',h1,_,h3⟩:=iX hc;exact hx (e2 ▸ h3 ▸ h.num c' h1)
    ·rcases List.mem_append.mp hc with hc|hc
     ·obtain⟨c',h1,_,h3⟩:=iX hc;rw[←h3];exact up (h.num c' h1)
     ·rw[List.mem_singleton.mp hc];exact me
   ·split
    ·have hp:∀k:List Key,lvK dd (dM st.2.1 k)<=lvK dd st.2.1+1/\(dM st.2.1 k).length<=st.2.1.length+1:=λk=>by
      unfold dM;split
      ·omega
      ·have:([k].filter λk=>decide (vT k∉dd)).length<=1:=List.length_filter_le _ _;unfold lvK;rw[List.filter_append,List.length_append,List.length_append,List.length_singleton];omega
     refine⟨dd,?_,dup,wk.nod,wk.num,λv hv=>?_,?_⟩
     ·have:=(hp [.inr (ax 2 x.1),.inr (ax 1 x.1)]).1;rw[ll];show st.1.length+lvK dd (dM st.2.1 [.inr (ax 2 x.1),.inr (ax 1 x.1)])<=_;omega
     ·rcases pU hv with hv|hv
      ·exact⟨_,hv⟩
      ·exact h.hs v hv
     ·have:=(hp [.inr (ax 2 x.1),.inr (ax 1 x.1)]).2;have:=h.hk;rw[ll];show(dM _ _).length<=_;omega
    ·rename_i n1 n2 n3;have hd:kindOf x.1=("death" : Str):=by
      unfold cj at hcount;by_cases hd:kindOf x.1=("death" : Str)
      ·exact hd
      ·rw[if_neg hd,if_neg (by simp[rj,n1,n2,n3])]at hcount;cases hcount
     have hf:fN K (ax 1 x.1) (aG x.1) x.2=true:=by unfold cj at hcount;rwa [if_pos hd]at hcount
     have hnp:ax 1 x.1∉dd:=λhm=>by
      obtain⟨y,h1,h2⟩:=h.ded _ hm;exact hx (by rw[←vU h2 hf];exact List.mem_map.mpr ⟨y,h1,rfl⟩)
     have hl:=eD (st.1.map Cl.o) (ax 1 x.1) (aG x.1) st.1;have hio:=Dg K st.1 st.2.1 st.2.2 (ax 1 x.1) (aG x.1) x.2;have hks:=nW (ax 1 x.1) dd hnp st.2.1;have hik:=uh K st.2.1 st.2.2 (ax 1 x.1) (aG x.1) x.2 (cG st.1 (ax 1 x.1) (aG x.1));have him:∀c∈nR K st.1 st.2.1 st.2.2 (ax 1 x.1) (aG x.1) x.2,c.o∈cG st.1 (ax 1 x.1) (aG x.1)/\c.n=x.2:=λc hc=>by
      have:=hik.subset (List.mem_map.mpr ⟨c,hc,rfl⟩);obtain⟨o,h1,h2⟩:=List.mem_map.mp this;injection h2 with h3 h4;exact⟨h3 ▸ h1,h4.symm⟩
     refine⟨ax 1 x.1::dd,?_,λq hq=>?_,?_,λc hc=>?_,h.hs,by rw[ll];exact Nat.le_succ_of_le h.hk⟩
     ·rw[ll];show(bE st.1 (st.1.map Cl.o) (ax 1 x.1) (aG x.1)++nR K st.1 st.2.1 st.2.2 (ax 1 x.1) (aG x.1) x.2).length+lvK _ st.2.1<=_;rw[List.length_append];omega
     ·rcases List.mem_cons.mp hq with rfl|hq
      ·exact⟨x,by simp,hf⟩
      ·exact dup q hq
     ·rw[List.map_append,List.nodup_append];refine⟨h.nod.sublist (iW _ _ _ _),List.Nodup.sublist hik (List.Pairwise.map _ (λa b hab e=>hab (by injection e)) (nX _ _ _)),λa ha b hb e=>?_⟩;obtain⟨c,hc,rfl⟩:=List.mem_map.mp ha;obtain⟨c2,hc2,rfl⟩:=List.mem_map.mp hb;injection e with _ e2;obtain⟨c',h1,_,h3⟩:=iX hc;exact hx ((him c2 hc2).2 ▸ e2 ▸ h3 ▸ h.num c' h1)
     ·rcases List.mem_append.mp hc with hc|hc
      ·obtain⟨c',h1,_,h3⟩:=iX hc;rw[←h3];exact up (h.num c' h1)
      ·rw[(him c hc).2];exact me
 ·exact⟨dd,wk⟩
theorem Dh {ρ:DL.Env}{i:Nat}{ks:List (List Key)}{vs:List D}{fk:FA}{fv:FE}{d:D}{b:Bool}{kd:List D}{kk:List Key}(e:ρ[i]? = some (some (.dt ks vs,true)))(ev:fv ρ=some (d,b))(ek:fk ρ=some kd)(hk:fV kd=some kk)(hf:bc d=true)(h1:ks.length<=1000)(h2:kd.length<=1000):pF i fk fv ρ=some (.nx (ρ.set i (some (.dt (dM ks kk) (dN ks vs kk d),true)))):=by
 unfold pF;rw[e];dsimp only;rw[ev,Option.bind_some,ek,Option.bind_some,hk,Option.bind_some,if_pos ⟨hf,bx (by omega),cS (by omega)⟩]
theorem Id (a b:Cl):(aJ (kC a) (kC b)).isSome=true:=by
 unfold kC;rw[aJ];split
 ·rw[aJ];split
  ·rw[aJ];split
   ·rw[aJ];rfl
   ·rfl
  ·rfl
 ·rfl
theorem xI (cs:List Cl):cy (cs.map kC)=true:=by
 unfold cy;simp[List.all_eq_true,Id]
theorem pZ {α β:Type}(f:α->β):∀ {l:List α},(l.map f).Nodup->∀ {a b:α},a∈l->b∈l->f a=f b->a=b
 |[],_,_,_,ha,_,_=>by cases ha
 |c::l,h,a,b,ha,hb,e=>by
  rw[List.map_cons,List.nodup_cons]at h;rcases List.mem_cons.mp ha with ea|ha1
  ·rcases List.mem_cons.mp hb with eb|hb1
   ·rw[ea,eb]
   ·exact absurd (List.mem_map.mpr ⟨b,hb1,by rw[←e,ea]⟩) h.1
  ·rcases List.mem_cons.mp hb with eb|hb1
   ·exact absurd (List.mem_map.mpr ⟨a,ha1,by rw[e,eb]⟩) h.1
   ·exact pZ f h.2 ha1 hb1 e
theorem Bf {cs:List Cl}{a b:Cl}(ha:a∈cs)(hb:b∈cs)(e:bH (kC a)=bH (kC b)):(a.o,a.n)=(b.o,b.n):=by
 have h:=iR (xI cs) (List.mem_map.mpr ⟨a,ha,rfl⟩) (List.mem_map.mpr ⟨b,hb,rfl⟩) e;unfold kC at h;injection h with h1 h2;injection h1 with h1;injection h2 with _ h3;injection h3 with h3 _;injection h3 with h3;rw[h1,show a.n=b.n by omega]
theorem Di {rows:List D}(g:fg rows)(known:Int){l:KL}{dd:List Str}{st:St3}(h:SoOk (am rows known) l dd st)(hj:l.length<=60){x:D×Nat}(hx:x∈am rows known)(hnr:aW x.1=false)(v5:Option (D×Bool)):
  ∃w5,(iU [some (.tup rows,false),some (.int known,false),some (.lst (st.1.map clD),true),some (.dt st.2.1 st.2.2,true),some (.int x.2,false),v5]=some (.nx [some (.tup rows,false),some (.int known,false),some (.lst ((dm (am rows known) st x).1.map clD),true),some (.dt (dm (am rows known) st x).2.1 (dm (am rows known) st x).2.2,true),some (.int x.2,false),w5])
   ∨ iU [some (.tup rows,false),some (.int known,false),some (.lst (st.1.map clD),true),some (.dt st.2.1 st.2.2,true),some (.int x.2,false),v5]=some (.ct [some (.tup rows,false),some (.int known,false),some (.lst ((dm (am rows known) st x).1.map clD),true),some (.dt (dm (am rows known) st x).2.1 (dm (am rows known) st x).2.2,true),some (.int x.2,false),w5])):=by
 obtain⟨ha,gx⟩:=cJ g hx;have hso:st.1.length<=60:=by have:=h.len;omega
 have hf:bc x.1=true:=gx.rp.flat;have ec:=yR g known st.1 hso hx hnr;have ecall:di (tOf (fA iE (ab (ae 0) (ab (ae 1) (ab (ae 2) (ab (ae 4) ag)))))) [some (.tup rows,false),some (.int known,false),some (.lst (st.1.map clD),true),some (.dt st.2.1 st.2.2,true),some (.int x.2,false),some (x.1,false)]=some (!cj (am rows known) st.1 x) :=
  bP (tkF (cdD [.tup rows,.int known,.lst (st.1.map clD),.int x.2] (by simp) ec))
 have hw:fA aC (ab (ae 5) ag) [some (.tup rows,false),some (.int known,false),some (.lst (st.1.map clD),true),some (.dt st.2.1 st.2.2,true),some (.int x.2,false),some (x.1,false)]=some (.str (kindOf x.1),false):=cdD [x.1] rfl (kR gx);refine⟨some (x.1,false),?_⟩;cases hc:cj (am rows known) st.1 x with
 |false=>
  rw[hc]at ecall;have es:dm (am rows known) st x=st:=by unfold dm;rw[hc];rfl
  rw[es];exact .inr (rfF x.1 (by simp[ha]) hf (Ic (ib ecall rfl)))
 |true=>
  rw[hc]at ecall;left;refine rfF x.1 (by simp[ha]) hf (dj (gQ ecall rfl) ?_);by_cases hn:kindOf x.1=("named" : Str)
  ·have es:dm (am rows known) st x=(st.1++[⟨ax 1 x.1,ax 2 x.1,aG x.1,none,x.2⟩],st.2):=by unfold dm;rw[hc,if_pos rfl,if_pos hn]
   rw[es];refine ib (bq (bb:=false) hw (decide_eq_true hn)) ?_;have hpo:aj [x.1,.str "office"]=some (.str (ax 1 x.1),false)/\aj [x.1,.str "person"]=some (.str (ax 2 x.1),false):=by
    obtain⟨a,k,ay,e,d⟩:=gx;rw[e]at hn ⊢;replace hn:k=("named" : Str):=hn;cases d with
    |named d o p=>exact⟨ba (i:=1) (aX (by decide +kernel)) rfl,ba (i:=2) (aX (by decide +kernel)) rfl⟩
    |root=>exact absurd hn (by decide +kernel)
    |chosen=>exact absurd hn (by decide +kernel)
    |heir=>exact absurd hn (by decide +kernel)
    |three _ hk=>rcases hk with rfl|rfl|rfl<;>exact absurd hn (by decide +kernel)
    |other _ hk=>rcases hk with rfl|rfl|rfl|rfl|rfl<;>exact absurd hn (by decide +kernel)
   have hday:aH [x.1]=some (.int (aG x.1),false):=by rw[tX gx];unfold tW;rw[hnr];rfl
   have e2:f2 bC (ae 2) (fA br (ab (fA cU (ab (ae 5) (ab (fA aH (ab (ae 5) ag)) (ab (ae 4) ag)))) ag)) [some (.tup rows,false),some (.int known,false),some (.lst (st.1.map clD),true),some (.dt st.2.1 st.2.2,true),some (.int x.2,false),some (x.1,false)]=some (.lst (st.1.map clD++[clD ⟨ax 1 x.1,ax 2 x.1,aG x.1,none,x.2⟩]),true):=by
    refine gh (x:=.lst (st.1.map clD)) (y:=.lst [clD ⟨ax 1 x.1,ax 2 x.1,aG x.1,none,x.2⟩]) (b1:=false) (b2:=true) rfl ?_ (if_pos (cS (by rw[List.length_map,List.length_singleton];omega)));exact cdD [clD ⟨ax 1 x.1,ax 2 x.1,aG x.1,none,x.2⟩] (aB (cdD [x.1,.int (aG x.1),.int x.2] (acF rfl (acF (cdD [x.1] rfl hday) rfl)) (DZ hpo.1 hpo.2 _ _)) rfl) (ju _ (by simp))
   have:=qV (i:=2) e2 (by have hq:=gE (st.1++[(⟨ax 1 x.1,ax 2 x.1,aG x.1,none,x.2⟩:Cl)]);rwa [List.map_append]at hq);rw[List.map_append];exact this
  ·refine gQ (bq (bb:=false) hw (decide_eq_false hn)) ?_;by_cases hch:kindOf x.1=("chosen" : Str)
   ·have es:dm (am rows known) st x=(bE st.1 [ax 2 x.1] (ax 1 x.1) (jh 4 x.1)++[⟨ax 2 x.1,ax 3 x.1,jh 4 x.1,none,x.2⟩],st.2):=by unfold dm;rw[hc,if_pos rfl,if_neg hn,if_pos hch]
    rw[es];refine ib (bq (bb:=false) hw (decide_eq_true hch)) (qV (i:=2) (cdD [.lst (st.1.map clD),x.1,.int x.2] rfl ?_) (gE _));obtain⟨a,k,ay,e,d⟩:=gx;rw[e]at hch ⊢;replace hch:k=("chosen" : Str):=hch;cases d with
    |chosen d b o p s=>exact yS st.1 hso x.2
    |root=>exact absurd hch (by decide +kernel)
    |named=>exact absurd hch (by decide +kernel)
    |heir=>exact absurd hch (by decide +kernel)
    |three _ hk=>rcases hk with rfl|rfl|rfl<;>exact absurd hch (by decide +kernel)
    |other _ hk=>rcases hk with rfl|rfl|rfl|rfl|rfl<;>exact absurd hch (by decide +kernel)
   ·refine gQ (bq (bb:=false) hw (decide_eq_false hch)) ?_;by_cases hh:kindOf x.1=("heir" : Str)
    ·have es:dm (am rows known) st x=(st.1,dM st.2.1 [.inr (ax 2 x.1),.inr (ax 1 x.1)],dN st.2.1 st.2.2 [.inr (ax 2 x.1),.inr (ax 1 x.1)] (.str (ax 3 x.1))):=by unfold dm;rw[hc,if_pos rfl,if_neg hn,if_neg hch,if_pos hh]
     rw[es];have hpo:aj [x.1,.str "office"]=some (.str (ax 2 x.1),false)/\aj [x.1,.str "by"]=some (.str (ax 1 x.1),false)/\aj [x.1,.str "person"]=some (.str (ax 3 x.1),false):=by
      obtain⟨a,k,ay,e,d⟩:=gx;rw[e]at hh ⊢;replace hh:k=("heir" : Str):=hh;cases d with
      |heir d b o p=>exact⟨ba (i:=2) (aX (by decide +kernel)) rfl,ba (i:=1) (aX (by decide +kernel)) rfl,ba (i:=3) (aX (by decide +kernel)) rfl⟩
      |root=>exact absurd hh (by decide +kernel)
      |named=>exact absurd hh (by decide +kernel)
      |chosen=>exact absurd hh (by decide +kernel)
      |three _ hk=>rcases hk with rfl|rfl|rfl<;>exact absurd hh (by decide +kernel)
      |other _ hk=>rcases hk with rfl|rfl|rfl|rfl|rfl<;>exact absurd hh (by decide +kernel)
     exact ib (bq (bb:=false) hw (decide_eq_true hh)) (Dh (ks:=st.2.1) (vs:=st.2.2) (kd:=[.str (ax 2 x.1),.str (ax 1 x.1)]) (b:=false) rfl (cdD [x.1,.str "person"] rfl hpo.2.2) (aB (cdD [x.1,.str "office"] rfl hpo.1) (aB (cdD [x.1,.str "by"] rfl hpo.2.1) rfl)) rfl rfl (by have:=h.hk;omega) (by simp))
    ·refine gQ (bq (bb:=false) hw (decide_eq_false hh)) ?_;have es:dm (am rows known) st x=(bE st.1 (st.1.map Cl.o) (ax 1 x.1) (aG x.1)++nR (am rows known) st.1 st.2.1 st.2.2 (ax 1 x.1) (aG x.1) x.2,st.2):=by unfold dm;rw[hc,if_pos rfl,if_neg hn,if_neg hch,if_neg hh]
     rw[es];have hd:kindOf x.1=("death" : Str):=by
      unfold cj at hc;by_cases hd:kindOf x.1=("death" : Str)
      ·exact hd
      ·rw[if_neg hd,if_neg (by simp[rj,hn,hch,hh])]at hc;cases hc
     refine qV (i:=2) (cdD [.tup rows,.int known,.lst (st.1.map clD),.dt st.2.1 st.2.2,.int x.2] (by simp) ?_) (gE _);obtain⟨a,k,ay,e,d⟩:=gx;have hk:k=("death" : Str):=by rw[e]at hd;exact hd
     subst hk;obtain⟨dd,p,rfl⟩:=d.deed.three (by decide +kernel);have:=Be g known st.1 hso st.2.1 st.2.2 h.hs hx e;rw[this,e];rfl
theorem xJ (K:KL):∀(l l0:KL)(st:St3)(dd:List Str),SoOk K l0 dd st->((l0++l).map (·.2)).Nodup->∃dd',SoOk K (l0++l) dd' (l.foldl (dm K) st)
 |[],l0,st,dd,h,_=>⟨dd,by rw[List.append_nil];exact h⟩
 |x::l,l0,st,dd,h,hn=>by
  have hx:x.2∉l0.map (·.2):=λhm=>by
   rw[List.map_append,List.nodup_append]at hn;exact hn.2.2 _ hm x.2 (by simp) rfl
  obtain⟨dd',h'⟩:=h.step hx;have e:l0++x::l=(l0++[x])++l:=by simp
  rw[e]at hn ⊢;exact xJ K l _ _ _ h' hn
theorem xK (K l:KL)(h:(l.map (·.2)).Nodup):∃dd,SoOk K l dd (kg K l):=by
 have:=xJ K l [] ([],[],[]) [] ⟨Nat.zero_le _,by simp,by simp,by simp,by simp,Nat.zero_le _⟩ h;exact this
theorem yT {K:KL}(h:(K.map (·.2)).Nodup):((eE K).map (·.2)).Nodup:=((bv _ _).map _).nodup_iff.mpr (List.Nodup.sublist (List.Sublist.map _ List.filter_sublist) h)
theorem qc {rows:List D}(g:fg rows)(known:Int)(hlen:(eE (am rows known)).length<=60):gA [.tup rows,.int known]=some (.lst ((cL (am rows known)).map clD),true)/\(cL (am rows known)).length<=60:=by
 have eL:dX [.tup rows,.int known]=some (.lst ((eE (am rows known)).map λx=>.int x.2),true):=tY g known;generalize hK:am rows known=K at hlen eL ⊢;have hmem:∀x∈eE K,x∈K/\aW x.1=false:=λx hx=>by
  obtain⟨h1,h2⟩:=List.mem_filter.mp ((bv _ _).mem_iff.mp hx);exact⟨h1,by simpa using h2⟩
 have hnd:((eE K).map (·.2)).Nodup:=yT (by rw[←hK];exact hU rows known);obtain⟨ρ',e,v4,v5,rfl⟩:=gz (tg:=tgN 4) (g:=iU) (λj ρ=>∃v4 v5:Option (D×Bool),ρ=[some (.tup rows,false),some (.int known,false),some (.lst ((kg K ((eE K).take j)).1.map clD),true),some (.dt (kg K ((eE K).take j)).2.1 (kg K ((eE K).take j)).2.2,true),v4,v5]) ((eE K).map λx=>.int x.2)
  [some (.tup rows,false),some (.int known,false),some (.lst [],true),some (.dt [] [],true),none,none] ⟨none,none,rfl⟩ (by
   rintro j d ρ hd ⟨v4,v5,rfl⟩;rw[List.getElem?_map]at hd;obtain⟨x,hx,rfl⟩:=oY hd;have hjl:j<(eE K).length:=(List.getElem?_eq_some_iff.mp hx).1;have et:(eE K).take (j+1)=(eE K).take j++[x]:=by rw[List.take_add_one,hx];rfl
   have ef:kg K ((eE K).take (j+1))=dm K (kg K ((eE K).take j)) x:=by rw[et];unfold kg;rw[List.foldl_append];rfl
   obtain⟨hxK,hxr⟩:=hmem x (List.mem_of_getElem? hx);obtain⟨dd,h⟩:=xK K ((eE K).take j) (List.Nodup.sublist (List.Sublist.map _ (List.take_sublist _ _)) hnd);rw[←hK]at h;have hst:=Di g known h (by rw[hK,List.length_take];omega) (x:=x) (by rw[hK];exact hxK) hxr v5;rw[hK]at hst;obtain⟨w5,hst⟩:=hst;exact⟨_,_,rfl,hst,some (.int x.2,false),w5,by rw[ef]⟩)
 have hall:(eE K).take ((eE K).map λx=>D.int x.2).length=eE K:=by rw[List.length_map,List.take_length]
 rw[hall]at e;obtain⟨dd,hso⟩:=xK K (eE K) hnd;generalize hcs:(kg K (eE K))=st at e hso;have hcl:st.1.length<=60:=by have:=hso.len;omega
 have hCk:cL K=cH (λc=>bH (kC c)) st.1:=by unfold cL;rw[hcs]
 have hm:∀ρ:DL.Env,gO (o9 dA ρ) (st.1.map clD)=some (st.1.map λc=>.tup [.str c.o,.int c.s,.int c.n]):=λρ=>fK st.1 λc _=>by
  show(dA [clD c]).map _=_;rw[rf];rfl
 have hk:cA (st.1.map λc=>D.tup [.str c.o,.int c.s,.int c.n])=some (st.1.map kC):=eA st.1 λc _=>rfl;have hcond:(st.1.map kC).length<64/\cy (st.1.map kC)=true/\cz (st.1.map kC)=true/\((st.1.map kC).map bH).Nodup:=by
  refine⟨by rw[List.length_map];omega,xI _,?_,?_⟩
  ·unfold cz;rw[Bool.or_eq_true];right;simp[List.all_eq_true,kC]
  ·rw[List.map_map];have h1:st.1.Pairwise λa b=>(a.o,a.n)≠(b.o,b.n):=List.pairwise_map.mp hso.nod;have h2:st.1.Pairwise λa b=>bH (kC a)≠bH (kC b):=by
    refine List.Pairwise.imp_of_mem ?_ h1;intro a b ha hb hne e;exact hne (Bf ha hb e)
   exact List.pairwise_map.mpr h2
 have hz:(st.1.map kC).zip (st.1.map clD)=st.1.map λc=>(kC c,clD c):=by rw[List.zip_map']
 have key:((cL K).map λc=>(kC c,clD c))=cH (λp:List At×D=>bH p.1) (st.1.map λc=>(kC c,clD c)):=by
  rw[hCk];refine gs _ (λx hx y hy e=>?_) ((bv _ _).map _) ?_
  ·obtain⟨a,ha,rfl⟩:=List.mem_map.mp hx;obtain⟨b,hb,rfl⟩:=List.mem_map.mp hy;rw[pZ (λc:Cl=>(c.o,c.n)) hso.nod ha hb (Bf ha hb e)]
  ·exact List.pairwise_map.mpr (dz _ _)
 refine⟨aw rfl (bX (ds:=[]) (by simp[sizeLine]) rfl (dj (ρ':=[some (.tup rows,false),some (.int known,false),some (.lst [],true),some (.dt [] [],true),none,none]) rfl (dj (jO (ds:=(eE K).map λx=>.int x.2) ?_ e) (a8 ?_)))),by rw[hCk,(bv _ _).length_eq];exact hcl⟩
 ·show(fA dX (ab (ae 0) (ab (ae 1) ag)) _).bind _=_;rw[cdD [.tup rows,.int known] rfl eL];rfl
 ·unfold mD;show((some (D.lst (st.1.map clD),false)).bind _)=_;simp only[Option.bind_some];rw[hm];simp only[Option.bind_some];rw[hk];simp only[Option.bind_some];rw[if_pos hcond];unfold gu;rw[hz,←key,List.map_map];rfl
noncomputable def lR (K:KL)(o:Str)(day:Int):D:=match kc K o with
 |none=>.tup [.str "none"]
 |some v=>dh (cL K) (ax 0 v) (ax 3 v) day
theorem yU {rows:List D}(g:fg rows)(known:Int)(hlen:(eE (am rows known)).length<=60)(o:Str)(day:Int):iH [.tup rows,.int known,.str o,.int day]=some (lR (am rows known) o day,false):=by
 obtain⟨ec,hcl⟩:=qc g known hlen;have e4:f2 vI (fA dr (ab (ae 0) (ab (ae 1) ag))) (ae 2) [some (.tup rows,false),some (.int known,false),some (.str o,false),some (.int day,false),none]=some ((kc (am rows known) o).getD .non,false) :=
  eoF (.dk (bw (iL (am rows known))).1 (bw (iL (am rows known))).2) (.str o) (cdD [.tup rows,.int known] rfl (nO g known)) rfl rfl
 unfold lR;cases hr:kc (am rows known) o with
 |none=>
  rw[hr]at e4;exact aw rfl (rfF .non e4 rfl (bK (tkF (by simp)) (a8 (cdD [.str "none"] rfl (bF _ (by simp))))))
 |some v=>
  rw[hr]at e4;obtain⟨va,vo,vrl,vm,vf,ev⟩:=l8 g hr;subst ev;exact aw rfl (rfF (row va ("root" : Str) [.str vo,.int vm,.int vf,.str vrl]) e4 rfl (aA (tkF (by simp[row])) (a8 (cdD [.lst ((cL (am rows known)).map clD),row va ("root" : Str) [.str vo,.int vm,.int vf,.str vrl],.int day] (aB (cdD [.tup rows,.int known] rfl ec) rfl) (hV _ hcl day)))))
end Lw
namespace Lw
open PySem PySem.Spec DL L2
theorem ui (ns:List Int)(k:Nat)(x:Int):∃c:Int,(a9 (aP 2 (f2 bi (f2 dQ (f2 bC (f2 bC (f2 bi (ae 2) (fC (.int 2147483629))) (f2 dQ (fC (.int 6151)) (ae 1))) (fC (.int 1))) (fC (.int 48271))) (fC (.int 2147483647))))
  (aU (f2 bi (f2 dQ (ae 2) (f2 bC (f2 bC (f2 bi (ae 2) (fC (.int 65519))) (ae 1)) (fC (.int 2)))) (fC (.int 2147483629))))) [some (.lst (ns.map .int),false),some (.int k,false),some (.int x,false)]=some (.rt (.int c) false)/\0<=c:=by
 obtain⟨y,hy⟩:∃y,((x % 2147483629+6151*k+1)*48271) % 2147483647=y:=⟨_,rfl⟩;have hb:0<=y/\y<2147483647:=by rw[←hy];exact mod_lt (by decide)
 have hc : -18446744073709551616<y/\y<18446744073709551616:=by omega
 exact⟨(y*(y % 65519+k+2)) % 2147483629,rfF (.int y) (by simp[hy]) rfl (a8 (by simp[hc])),(mod_lt (by decide)).1⟩
theorem fZ (ns:List Int)(k:Nat):∃c:Int,cI [.lst (ns.map .int),.int k]=some (.int c,false)/\0<=c:=by
 by_cases h:ns.length=0
 ·have e:ns=[]:=List.length_eq_zero_iff.mp h;subst e;obtain⟨c,h1,h2⟩:=ui [] k 5;exact⟨c,aw rfl (rfF (.int 5) rfl rfl (aA (tkF (by simp)) h1)),h2⟩
 ·have hm:=mod_lt (x:=(k:Int)) (m:=ns.length) (by omega);obtain⟨c,h1,h2⟩:=ui ns k (ns.getD ((k:Int) % ns.length).toNat 0);refine⟨c,aw rfl (rfF (.int 5) rfl rfl (dj (ib (tkF (by simp;omega)) (mP (d:=.int (ns.getD ((k:Int) % ns.length).toNat 0)) (b:=false) ?_ rfl)) h1)),h2⟩;refine eoF (.lst (ns.map .int)) (.int ((k:Int) % ns.length)) rfl ?_ (xo hm.1 (by omega));refine eoF (.int k) (.int ns.length) rfl (by simp) ?_;have hne:¬ns=[]:=λe=>h (by rw[e];rfl);simp[bi,hne]
theorem Bg {ρ:DL.Env}{i n:Nat}{ds:List D}{fk fv:FE}{d:D}{b b':Bool}(e:ρ[i]? = some (some (.lst ds,true)))(ev:fv ρ=some (d,b))(ek:fk ρ=some (.int n,b'))(hn:n<ds.length)(hf:bc d=true):y6 i fk fv ρ=some (.nx (ρ.set i (some (.lst (ds.set n d),true)))):=by
 have hx:ixN ds.length (n:Int)=some n:=by
  unfold ixN;rw[if_pos (by omega)];simp[hn]
 simp only[y6,e,ev,ek,Option.bind_some,hx,if_pos hf]
theorem xL:∀(zs:List Str),(∀z∈zs,z.length=1)->(zs.map (·.length)).sum=zs.length
 |[],_=>rfl
 |z::zs,h=>by
  rw[List.map_cons,List.sum_cons,xL zs λy hy=>h y (mZ _ hy),h z mX,List.length_cons];omega
theorem xM (x:Int):0<=x % 26/\x % 26<26:=mod_lt (by decide)
noncomputable def kh:PySem.Str:="abcdefghijklmnopqrstuvwxyz"
theorem yV:kh.cps.size=26:=by decide +kernel
noncomputable def ltr (x:Int):Str:=⟨#[kh.cps.toList.getD (x % 26).toNat 0]⟩
theorem Bh (x:Int):ixD (.str kh) (.int (x % 26))=some (.str (ltr x),false):=DL.uT (xM x).1 (by rw[yV];have:=xM x;omega) (by decide +kernel)
theorem uj:∀(zs:List Str)(y:Str),(Str.join ("" : Str) (y::zs)).cps.toList=(y::zs).flatMap λz=>z.cps.toList
 |[],y=>by rw[List.flatMap_cons,List.flatMap_nil,List.append_nil];rfl
 |z::r,y=>by
  have e3:∀a b:Str,(a++b).cps.toList=a.cps.toList++b.cps.toList:=λa b=>by show(a.cps++b.cps).toList=_;simp
  show(y++("" : Str)++Str.join ("" : Str) (z::r)).cps.toList=_;rw[e3,e3,uj r z,show("" : Str).cps.toList=[]from rfl,List.append_nil];rfl
theorem Bi {zs:List Str}(h:zs≠[]):(Txt.join ("" : Str) zs).cps.toList=zs.flatMap λz=>z.cps.toList:=by
 cases zs with
 |nil=>exact absurd rfl h
 |cons y zs=>
  unfold Txt.join;rw[StrLaws.glued_eq_join];exact uj zs y
theorem ki (x y:Nat):∀(bs:List Str)(a:Nat),a<bs.length->(∀z∈bs,∃c,z.cps.toList=[c])->((bs.set a ⟨#[x]⟩).flatMap λz=>z.cps.toList)=((bs.set a ⟨#[y]⟩).flatMap λz=>z.cps.toList)->x=y
 |b::bs,0,_,_,h=>by
  rw[List.set_cons_zero,List.set_cons_zero,List.flatMap_cons,List.flatMap_cons]at h;exact(List.cons.inj h).1
 |b::bs,a+1,hl,hb,h=>by
  rw[List.set_cons_succ,List.set_cons_succ,List.flatMap_cons,List.flatMap_cons]at h;exact ki x y bs a (by simpa using hl) (λz hz=>hb z (mZ _ hz)) (List.append_cancel_left h)
theorem Bj:∀i j:Fin 26,kh.cps.toList.getD i.val 0=kh.cps.toList.getD j.val 0->i=j:=by decide +kernel
noncomputable def iY (bs:List Str)(a:Nat)(c:Int)(i:Nat):Str:=Txt.join ("" : Str) (bs.set a (ltr (c / 64+3*(i:Int))))
theorem Hi {bs:List Str}{a:Nat}{c:Int}{i j:Nat}(ha:a<bs.length)(hb:∀z∈bs,∃c,z.cps.toList=[c])(hij:(3*(i:Int) - 3*(j:Int)) % 26≠0):iY bs a c i≠iY bs a c j:=by
 intro e;have e:=congrArg (λs:Str=>s.cps.toList) e;unfold iY at e;have hne:∀x,bs.set a x≠[]:=λx z=>by have:=congrArg List.length z;rw[List.length_set,List.length_nil]at this;omega
 simp only[Bi (hne _)]at e;have:=ki _ _ bs a ha hb e;have h1:=xM (c / 64+3*(i:Int));have h2:=xM (c / 64+3*(j:Int));have:=Bj ⟨((c / 64+3*(i:Int)) % 26).toNat,by omega⟩ ⟨((c / 64+3*(j:Int)) % 26).toNat,by omega⟩ this;have:=congrArg Fin.val this;simp only at this;omega
theorem nd4 {α:Type}{a b c d:α}(h1:a≠b)(h2:a≠c)(h3:a≠d)(h4:b≠c)(h5:b≠d)(h6:c≠d):[a,b,c,d].Nodup:=by simp[h1,h2,h3,h4,h5,h6]
theorem Bk (c:Int)(hc:0<=c):∃zs:List Str,kK [.int c]=some (.lst (zs.map .str),true)/\zs.length=9/\(zs.drop 5).Nodup:=by
 have h8:=mod_lt (x:=c) (m:=8) (by decide);obtain⟨n,hn⟩:∃n:Nat,1+c % 8=n:=⟨(1+c % 8).toNat,by omega⟩;have hn1:1<=n:=by omega
 have hn8:n<=8:=by omega
 let bs:List Str:=(List.range n).map λ(k:Nat)=>ltr (c / (3+4*k));have hbl:bs.length=n:=by simp[bs]
 have hb:=pJ (fi:=dS (f2 bC (fC (.int 1)) (f2 bi (ae 0) (fC (.int 8))))) (nT:=1) (cap:=[1,0]) (tg:=tgN 0) (fe:=f2 ixD (ae 1) (f2 bi (f2 bY (ae 2) (f2 bC (fC (.int 3)) (f2 dQ (fC (.int 4)) (ae 0)))) (fC (.int 26))))
  (ρ:=[some (.int c,false),some (.str kh,false),none,none,none,none,none]) (List.range n) (λ(k:Nat)=>.int k) (λ(k:Nat)=>.str (ltr (c / (3+4*k))))
  (by rw[g7 (j:=n) (b:=false) (by simp;omega) (by omega),yO];simp) (by simp;omega) λk hk=>by
   have hk:=List.mem_range.mp hk;refine⟨_,rfl,false,eoF (.str kh) (.int (c / (3+4*k) % 26)) (by simp[bS]) ?_ (Bh _)⟩;have h1:(0:Int)<3+4*k:=by omega
   have h2:(3:Int)+4*k<1073741824:=by omega
   simp[bS,h1,h2]
 have hb':bR (dS (f2 bC (fC (.int 1)) (f2 bi (ae 0) (fC (.int 8))))) 1 [1,0] (tgN 0) io (f2 ixD (ae 1) (f2 bi (f2 bY (ae 2) (f2 bC (fC (.int 3)) (f2 dQ (fC (.int 4)) (ae 0)))) (fC (.int 26)))) [some (.int c,false),some (.str kh,false),none,none,none,none,none]=some (.lst (bs.map .str),true):=by
  rw[hb];simp[bs]
 have hat:=mod_lt (x:=c / 8) (m:=n) (by omega);obtain⟨a,ha⟩:∃a:Nat,c / 8 % n=a:=⟨(c / 8 % n).toNat,by omega⟩;obtain⟨zs,v5,v6,e,hz,hzz⟩:∃(zs:List Str)(v5 v6:Option (D×Bool)),gb (tgN 5) js (dR 0 9) [some (.int c,false),some (.str kh,false),some (.lst (bs.map .str),true),some (.int (c / 8 % n),false),some (.lst [],true),none,none]=some (.nx [some (.int c,false),some (.str kh,false),some (.lst (bs.map .str),true),some (.int (c / 8 % n),false),some (.lst (zs.map .str),true),v5,v6])/\zs.length=9/\zs=(List.range 9).map (iY bs a c):=by
  obtain⟨ρ',e,zs,v5,v6,rfl,hz,hzz⟩:=jL (tg:=tgN 5) (g:=js) 9 (λi ρ=>∃(zs:List Str)(v5 v6:Option (D×Bool)),ρ=[some (.int c,false),some (.str kh,false),some (.lst (bs.map .str),true),some (.int (c / 8 % n),false),some (.lst (zs.map .str),true),v5,v6]/\zs.length=i/\zs=(List.range i).map (iY bs a c))
   [some (.int c,false),some (.str kh,false),some (.lst (bs.map .str),true),some (.int (c / 8 % n),false),some (.lst [],true),none,none] ⟨[],none,none,rfl,rfl,rfl⟩ (by
    rintro i ρ hi ⟨zs,v5,v6,rfl,hz,hzz⟩;let l:=ltr (c / 64+3*i);let nm:=bs.set a l;have h1:∀z∈nm,z.length=1:=λz hz=>by
     rcases List.mem_or_eq_of_mem_set hz with h|h
     ·obtain⟨k,_,rfl⟩:=List.mem_map.mp h;rfl
     ·rw[h];rfl
    have hnl:nm.length=n:=by simp[nm,hbl]
    refine⟨_,_,rfl,.inl (bX (ds:=bs.map .str) (by simp) (cW _) (dj (Bg (n:=a) (ds:=bs.map .str) (d:=.str l) (b:=false) (b':=false) rfl ?_ ?_ (by simp[hbl];omega) rfl) (gg (ds:=zs.map .str) (d:=.str (Txt.join ("" : Str) nm)) (b:=false) rfl ?_ rfl (bx (by simp;omega))))),zs++[Txt.join ("" : Str) nm],some (.int i,false),some (.lst (nm.map .str),true),?_,by simp[hz],by rw[hzz,List.range_succ,List.map_append];rfl⟩
    ·exact eoF (.str kh) (.int ((c / 64+3*i) % 26)) rfl (by simp) (Bh _)
    ·simp[ha]
    ·refine eoF (.str "") (.lst (nm.map .str)) rfl (by simp[nm]) ?_;show(eQ (nm.map .str)).bind _=_;rw[nL];have:=xL nm h1;have h0:("" : Str).length=0:=rfl;show(if _ then _ else _)=_;rw[if_pos (by rw[this,h0,hnl];omega)]
    ·simp[nm])
  exact⟨zs,v5,v6,e,hz,hzz⟩
 have hsz:(bs.length:Int)=n:=by omega
 refine⟨if c / 1000 % 8=1 then zs.set 5 (zs.getD 0 ⟨#[]⟩)else zs,?_,by split<;>simp[hz],?_⟩
 refine aw rfl (rfF (.str kh) rfl rfl (bX (ds:=bs.map .str) hb' (cW _) (rfF (.int (c / 8 % n)) ?_ rfl (bX (ds:=[]) (by simp[sizeLine]) (by simp) (dj (jN (g7 (j:=9) (b:=false) rfl (by decide)) e) ?_)))))
 ·have:(bs.length:Int)≠0:=by omega
  refine eoF (.int (c / 8)) (.int n) (by simp) (by simp[hbl]) ?_;have h1:(0:Int)<n:=by omega
  show(if decide ((0:Int)<n)=true then _ else _)=_;rw[if_pos (decide_eq_true h1)]
 ·by_cases h:c / 1000 % 8=1
  ·rw[if_pos h];have h5:5<(zs.map D.str).length:=by simp[hz]
   obtain⟨z0,zr,rfl⟩:∃z0 zr,zs=z0::zr:=by cases zs with|nil=>simp at hz|cons a b=>exact⟨a,b,rfl⟩
   refine dj (ib (tkF (by simp[h])) (Bg (n:=5) (ds:=(z0::zr).map .str) (d:=.str z0) (b:=false) (b':=false) rfl ?_ rfl h5 rfl)) (lP ?_)
   ·exact eoF (.lst ((z0::zr).map .str)) (.int 0) rfl rfl (by simp[at0])
   ·simp
  ·rw[if_neg h];exact aA (tkF (by simp[h])) (lP rfl)
 ·have hal:a<bs.length:=by omega
  have hbc:∀z∈bs,∃c,z.cps.toList=[c]:=λz hz=>by obtain⟨k,_,rfl⟩:=List.mem_map.mp hz;exact⟨_,rfl⟩
  have hne:∀i j:Nat,(3*(i:Int) - 3*(j:Int)) % 26≠0->iY bs a c i≠iY bs a c j:=λi j h=>Hi hal hbc h;have e9:zs=[iY bs a c 0,iY bs a c 1,iY bs a c 2,iY bs a c 3,iY bs a c 4,iY bs a c 5,iY bs a c 6,iY bs a c 7,iY bs a c 8]:=hzz;rw[e9];split
  ·exact nd4 (hne 0 6 (by decide)) (hne 0 7 (by decide)) (hne 0 8 (by decide)) (hne 6 7 (by decide)) (hne 6 8 (by decide)) (hne 7 8 (by decide))
  ·exact nd4 (hne 5 6 (by decide)) (hne 5 7 (by decide)) (hne 5 8 (by decide)) (hne 6 7 (by decide)) (hne 6 8 (by decide)) (hne 7 8 (by decide))
noncomputable def stD (x:Int×Option Int):D:=.tup [.int x.1,uD x.2]
theorem gG (x:Int×Option Int):bc (stD x)=true:=by simp[stD,xD]
theorem qd (x:Int×Option Int):ai 5 (stD x)=true:=by obtain⟨s,u⟩:=x;cases u<;>simp[stD,uD]
theorem vV (a d m:Int):∃x,dC [.int a,.int d,.int m]=some (stD x,false):=by
 have h8:=mod_lt (x:=a) (m:=8) (by decide);let L1:List (Int×Option Int):=[(0,none),(d,none),(d,some (d+3*m)),(0,some (d+2*m)),(0,some (9*m))];let L2:List (Int×Option Int):=[(d+m,some (d+4*m)),(d / 2,some (d+6*m)),(0,none)];have hfl:∀L:List (Int×Option Int),bg (L.map stD)=true:=λL=>bO λd hd=>by obtain⟨x,_,rfl⟩:=List.mem_map.mp hd;exact gG x
 have hi:(a % 8).toNat<((L1++L2).map stD).length:=by show _<8;omega
 refine⟨(L1++L2).getD (a % 8).toNat (0,none),aw rfl (bX (ds:=L1.map stD) (by simp[L1,stD,uD,sizeLine]) (hfl _) (bX (ds:=(L1++L2).map stD) ?_ (hfl _) (a8 (eoF (.lst ((L1++L2).map stD)) (.int (a % 8)) rfl (by simp) ((vN h8.1 hi).trans ?_)))))⟩
 ·refine gh (x:=.lst (L1.map stD)) (y:=.lst (L2.map stD)) (b1:=false) (b2:=true) rfl (by simp[L2,stD,uD,sizeLine]) ?_;simp[L1,L2,sizeLine]
 ·rw[List.getD_eq_getElem?_getD,List.getElem?_map,List.getD_eq_getElem?_getD];rw[List.length_map]at hi;rw[List.getElem?_eq_getElem hi];rfl
theorem hW {zs:List Str}{i:Int}(h1 : -(zs.length:Int)<=i)(h2:i<zs.length):∃z∈zs,ixD (.lst (zs.map .str)) (.int i)=some (.str z,false):=by
 obtain⟨j,hj,hl⟩:∃j,ixN (zs.map D.str).length i=some j/\j<zs.length:=by
  unfold ixN;rw[List.length_map];by_cases h0:0<=i
  ·rw[if_pos h0,if_pos h2];exact⟨_,rfl,by omega⟩
  ·rw[if_neg h0,if_pos (by omega)];exact⟨_,rfl,by omega⟩
 refine⟨zs[j],List.getElem_mem hl,?_⟩;have:atI (zs.map D.str) i=some (.str zs[j]):=by unfold atI;rw[hj,Option.bind_some,List.getElem?_map,List.getElem?_eq_getElem hl];rfl
 simp[this]
noncomputable def MR:List Nat:=[7,255,3,15]
noncomputable def MS:List Nat:=[1,2,3,4,5,7,128,255]
inductive Dd:Str->List D->Prop
 |root (o r:Str) (m:Nat) (hm:m∈MR) (f:Int):Dd ("root" : Str) [.str o,.int m,.int f,.str r]
 |named (d:Int) (o p:Str):Dd ("named" : Str) [.int d,.str o,.str p]
 |chosen (d:Int) (b o p:Str) (s:Int):Dd ("chosen" : Str) [.int d,.str b,.str o,.str p,.int s]
 |heir (d:Int) (b o p:Str):Dd ("heir" : Str) [.int d,.str b,.str o,.str p]
 |three (k:Str) (hk:k=("death" : Str)∨k=("lost" : Str)∨k=("found" : Str)) (d:Int) (p:Str):Dd k [.int d,.str p]
 |leave (d:Int) (b p:Str) (m:Nat) (hm:m∈MS) (x:Int×Option Int) (f:Int):Dd ("leave" : Str) [.int d,.str b,.str p,.int m,stD x,.int f]
 |paper (k:Str) (hk:k=("paper" : Str)∨k=("like" : Str)) (d:Int) (b:Str) (m:Nat) (hm:m∈MS) (x:Int×Option Int) (r:List D) (hf:bg r=true) (hp:r.all (ai 5)=true):Dd k (.int d::.str b::.int m::stD x::r)
 |copy (k:Str) (hk:k=("copy" : Str)∨k=("call" : Str)) (d:Int) (b:Str) (n:Nat):Dd k [.int d,.str b,.int n]
theorem Dd.cd {k:Str}{r:List D}(h:Dd k r):Cd k r:=by
 cases h with
 |root o r m hm f=>exact .root _ _ _ _
 |named d o p=>exact .named _ _ _
 |chosen d b o p s=>exact .chosen _ _ _ _ _
 |heir d b o p=>exact .heir _ _ _ _
 |three k hk d p=>exact .three _ hk _ _
 |leave d b p m hm x f=>exact .other _ (.inl rfl) _ _ _ (by simp[gG]) (by simp only[List.all_cons,List.all_nil,qd,ai,Bool.and_true])
 |paper k hk d b m hm x r hf hp=>exact .other _ (hk.elim (λh=>.inr (.inl h)) λh=>.inr (.inr (.inl h))) _ _ _ (by simp[hf,gG]) (by simp only[List.all_cons,hp,qd,ai,Bool.and_true])
 |copy k hk d b n=>exact .other _ (hk.elim (λh=>.inr (.inr (.inr (.inl h)))) λh=>.inr (.inr (.inr (.inr h)))) _ _ _ rfl (by simp)
theorem Dd.had3 {k:Str}{r:List D}(h:Dd k r)(hk:k=("leave" : Str)∨k=("named" : Str)):∃p,r[2]? = some (.str p):=by
 have hk:k∈[("leave" : Str),("named" : Str)]:=by simpa using hk
 cases h with
 |named d o p=>exact⟨p,rfl⟩
 |leave d b p=>exact⟨p,rfl⟩
 |root=>exact absurd hk (by decide +kernel)
 |chosen=>exact absurd hk (by decide +kernel)
 |heir=>exact absurd hk (by decide +kernel)
 |three k hk'=>rcases hk' with rfl|rfl|rfl<;>exact absurd hk (by decide +kernel)
 |paper k hk'=>rcases hk' with rfl|rfl<;>exact absurd hk (by decide +kernel)
 |copy k hk'=>rcases hk' with rfl|rfl<;>exact absurd hk (by decide +kernel)
theorem Dd.had4 {k:Str}{r:List D}(h:Dd k r)(hk:k=("chosen" : Str)):∃p,r[3]? = some (.str p):=by
 cases h with
 |chosen d b o p=>exact⟨p,rfl⟩
 |root=>exact absurd hk (by decide +kernel)
 |named=>exact absurd hk (by decide +kernel)
 |leave=>exact absurd hk (by decide +kernel)
 |heir=>exact absurd hk (by decide +kernel)
 |three k hk'=>rcases hk' with rfl|rfl|rfl<;>exact absurd hk (by decide +kernel)
 |paper k hk'=>rcases hk' with rfl|rfl<;>exact absurd hk (by decide +kernel)
 |copy k hk'=>rcases hk' with rfl|rfl<;>exact absurd hk (by decide +kernel)
theorem Dd.flat {k:Str}{r:List D}(h:Dd k r):bg r=true:=h.cd.deed.flat
noncomputable def dL:List Str:=[("leave" : Str),("leave" : Str),("leave" : Str),("leave" : Str),("leave" : Str),("paper" : Str),("paper" : Str),("like" : Str),("copy" : Str),("copy" : Str),("call" : Str),("call" : Str),("named" : Str),("death" : Str),("lost" : Str),("found" : Str),("chosen" : Str),("heir" : Str)]
theorem yW {w:Str}(h:w∈dL):w=("leave" : Str)∨w=("paper" : Str)∨w=("like" : Str)∨w=("copy" : Str)∨w=("call" : Str)∨w=("named" : Str)∨w=("death" : Str)∨w=("lost" : Str)∨w=("found" : Str)∨w=("chosen" : Str)∨w=("heir" : Str):=by
 simp only[dL,List.mem_cons,List.not_mem_nil,or_false]at h;rcases h with rfl|rfl|rfl|rfl|rfl|rfl|rfl|rfl|rfl|rfl|rfl|rfl|rfl|rfl|rfl|rfl|rfl|rfl<;>simp
theorem Bl (many c o day m:Int)(zs had:List Str)(hz:zs.length=9)(hh:had≠[]):
  ∃(w by_ p:Str)(ofn:Nat),w∈dL/\∀(h:FS)(r:Option Res),h [some (.int many,false),some (.int c,false),some (.int o,false),some (.lst (zs.map .str),false),some (.int day,false),some (.lst (had.map .str),false),some (.int m,false),some (.lst (dL.map .str),true),some (.str w,false),some (.str by_,false),some (.str p,false),some (.int ofn,false),none,none,none]=r ->
   (a9 (aP 7 (f2 bC (f2 bC (yJ (fA br (ab (fC (.str "leave")) ag)) (fC (.int 5))) (yJ (fA br (ab (fC (.str "paper")) ag)) (fC (.int 2)))) (fA br (ab (fC (.str "like")) (ab (fC (.str "copy")) (ab (fC (.str "copy")) (ab (fC (.str "call")) (ab (fC (.str "call")) ag)))))))) (a9 (aP 7 (f2 bC (ae 7) (fA br (ab (fC (.str "named")) (ab (fC (.str "death")) (ab (fC (.str "lost")) (ab (fC (.str "found")) (ab (fC (.str "chosen")) (ab (fC (.str "heir")) ag))))))))) (a9 (aP 8 (f2 ixD (ae 7) (f2 bi (ae 1) (fC (.int 18))))) (a9 (aP 9 (f2 ixD (ae 5) (f2 vc (f1 ma (fC (.int 1))) (f2 bi (f2 bY (ae 1) (fC (.int 18))) (fA C1 (ab (fC (.int 3)) (ab (fA fP (ab (ae 5) ag)) ag))))))) (a9 (gIf (tOf (f2 dEq (f2 bi (f2 bY (ae 1) (fC (.int 54))) (fC (.int 6))) (fC (.int 1)))) (aP 9 (f2 ixD (ae 3) (f2 bi (f2 bY (ae 1) (fC (.int 324))) (fC (.int 5))))) aZ) (a9 (aP 10 (f2 ixD (ae 3) (f2 bi (f2 bY (ae 1) (fC (.int 1620))) (fC (.int 5))))) (a9 (aP 11 (fA C0 (ab (fC (.int 0)) (ab (f2 vc (f2 vc (ae 0) (fC (.int 1))) (f2 bi (ae 2) (fC (.int 4)))) ag)))) (a9 (gIf (tOf (f2 dEq (f2 bi (f2 bY (ae 2) (fC (.int 4))) (fC (.int 8))) (fC (.int 1)))) (aP 11 (f2 bi (f2 bY (ae 2) (fC (.int 32))) (fC (.int 60)))) aZ) h)))))))) [some (.int many,false),some (.int c,false),some (.int o,false),some (.lst (zs.map .str),false),some (.int day,false),some (.lst (had.map .str),false),some (.int m,false),none,none,none,none,none,none,none,none]=r:=by
 have h18:=mod_lt (x:=c) (m:=18) (by decide);obtain⟨w,hw,ew⟩:=hW (zs:=dL) (i:=c % 18) (by simp[dL];omega) (by simp[dL];omega);obtain⟨n,hn,hn1,hn3⟩:∃n:Int,(if(had.length:Int)<3 then (had.length:Int)else 3)=n/\0<n/\n<=had.length:=by
  have:0<had.length:=List.length_pos_iff.mpr hh;split
  ·exact⟨_,rfl,by omega,by omega⟩
  ·exact⟨_,rfl,by omega,by omega⟩
 have hmn:=mod_lt (x:=c / 18) (m:=n) hn1;obtain⟨b0,_,eb0⟩:=hW (zs:=had) (i:=-1 - c / 18 % n) (by omega) (by omega);have h5:=mod_lt (x:=c / 324) (m:=5) (by decide);obtain⟨b1,_,eb1⟩:=hW (zs:=zs) (i:=c / 324 % 5) (by omega) (by omega);have h5':=mod_lt (x:=c / 1620) (m:=5) (by decide);obtain⟨p,_,ep⟩:=hW (zs:=zs) (i:=c / 1620 % 5) (by omega) (by omega);have h60:=mod_lt (x:=o / 32) (m:=60) (by decide);obtain⟨f0,hf0⟩:∃f0:Nat,(if many - 1 - o % 4 > 0 then many - 1 - o % 4 else 0)=(f0:Int):=by
  split
  ·exact⟨(many - 1 - o % 4).toNat,by omega⟩
  ·exact⟨0,rfl⟩
 obtain⟨f1,hf1⟩:∃f1:Nat,o / 32 % 60=(f1:Int):=⟨(o / 32 % 60).toNat,by omega⟩;refine⟨w,if c / 54 % 6=1 then b1 else b0,p,if o / 4 % 8=1 then f1 else f0,hw,λh r hr=>?_⟩;refine bX (ds:=(dL.take 12).map .str) ?_ (cW _) (bX (ds:=dL.map .str) ?_ (cW _) (rfF (.str w) (eoF (.lst (dL.map .str)) (.int (c % 18)) rfl (by simp) ew) rfl (rfF (.str b0) ?_ rfl (dj (ρ':=[some (.int many,false),some (.int c,false),some (.int o,false),some (.lst (zs.map .str),false),some (.int day,false),some (.lst (had.map .str),false),some (.int m,false),some (.lst (dL.map .str),true),some (.str w,false),some (.str (if c / 54 % 6=1 then b1 else b0),false),none,none,none,none,none]) ?_ (rfF (.str p) ?_ rfl (rfF (.int f0) ?_ rfl (dj ?_ hr)))))))
 ·have e1:∀(s:Str)(k:Nat),k<=100->yJ (fA br (ab (fC (.str s)) ag)) (fC (.int k)) [some (.int many,false),some (.int c,false),some (.int o,false),some (.lst (zs.map .str),false),some (.int day,false),some (.lst (had.map .str),false),some (.int m,false),none,none,none,none,none,none,none,none]=some (.lst (List.replicate k (.str s)),true):=λs k hk=>by
   have h1:(k:Int)<=1000:=by omega
   have h2:k<=1000:=by omega
   have h3:∀n:Nat,(List.replicate n [D.str s]).flatten=List.replicate n (.str s):=λn=>by
    induction n with
    |zero=>rfl
    |succ n ih=>rw[List.replicate_succ,List.flatten_cons,ih,List.replicate_succ];rfl
   simp[sizeLine,h1,h2,h3]
  have z:∀n:Nat,n<=100->n<=sizeLine:=λn h=>cS (by omega);refine gh (x:=.lst ((dL.take 7).map .str)) (y:=.lst (((dL.drop 7).take 5).map .str)) (b1:=true) (b2:=true) (gh (x:=.lst ((dL.take 5).map .str)) (y:=.lst (List.replicate 2 (.str "paper"))) (b1:=true) (b2:=true) (e1 _ 5 (by decide)) (e1 _ 2 (by decide)) ?_) (cdD (((dL.drop 7).take 5).map .str) rfl (ju _ (by simp[dL]))) ?_
  ·refine(if_pos (c:=7<=sizeLine) (e:=none) (z 7 (by decide))).trans ?_;rfl
  ·refine(if_pos (c:=12<=sizeLine) (e:=none) (z 12 (by decide))).trans ?_;rfl
 ·refine gh (x:=.lst ((dL.take 12).map .str)) (y:=.lst ((dL.drop 12).map .str)) (b1:=false) (b2:=true) rfl (cdD ((dL.drop 12).map .str) rfl (ju _ (by decide))) ?_;refine(if_pos (c:=18<=sizeLine) (e:=none) (cS (by decide))).trans ?_;rfl
 ·refine eoF (.lst (had.map .str)) (.int (-1 - c / 18 % n)) rfl ?_ eb0;refine eoF (.int (-1)) (.int (c / 18 % n)) rfl ?_ rfl;refine eoF (.int (c / 18)) (.int n) (by simp) (by simp[hn]) ?_;show(if decide ((0:Int)<n)=true then _ else _)=_;rw[if_pos (decide_eq_true hn1)]
 ·by_cases hx:c / 54 % 6=1
  ·rw[if_pos hx];exact ib (tkF (by simp[hx])) (mP (d:=.str b1) (b:=false) (eoF (.lst (zs.map .str)) (.int (c / 324 % 5)) rfl (by simp) eb1) rfl)
  ·rw[if_neg hx];exact gQ (tkF (by simp[hx])) rfl
 ·exact eoF (.lst (zs.map .str)) (.int (c / 1620 % 5)) rfl (by simp) ep
 ·show some (D.int (if many - 1 - o % 4 > 0 then many - 1 - o % 4 else 0),false)=_;rw[hf0]
 ·by_cases hx:o / 4 % 8=1
  ·simp only[if_pos hx];exact ib (tkF (by simp[hx])) (mP (d:=.int f1) (b:=false) (by simp[hf1]) rfl)
  ·simp only[if_neg hx];exact gQ (tkF (by simp[hx])) rfl
theorem kj {ns:List Int}{i:Int}(h1:0<=i)(h2:i<ns.length):∃m∈ns,ixD (.lst (ns.map .int)) (.int i)=some (.int m,false):=by
 have h:i.toNat<ns.length:=by omega
 refine⟨ns.getD i.toNat 0,?_,xo h1 h⟩;rw[List.getD_eq_getElem?_getD,List.getElem?_eq_getElem h];exact List.getElem_mem h
theorem kU {a b:Int}(h : -1000<=a/\a<=1000):ES (.int a) (.int b)=some (.int (a*b),false):=by
 have : -18446744073709551616<a/\a<18446744073709551616:=by omega
 simp[this]
theorem c9 {ρ:DL.Env}{i:Nat}{a b:Str}(e:ρ[i]? = some (some (.str a,false)))(h:decide (a=b)=false:=by decide +kernel):tOf (f2 dEq (ae i) (fC (.str b))) ρ=some false:=bq (a:=a) (bb:=false) (by simp[e]) h
theorem vW {ρ:DL.Env}{i:Nat}{a b:Str}(e:ρ[i]? = some (some (.str a,false)))(h:decide (a=b)=true:=by decide +kernel):tOf (f2 dEq (ae i) (fC (.str b))) ρ=some true:=bq (a:=a) (bb:=false) (by simp[e]) h
theorem ul {ρ:DL.Env}{i:Nat}{a b c:Str}(x:Bool)(e:ρ[i]? = some (some (.str a,false)))(h:decide (a∈[b,c])=x:=by decide +kernel):tOf (f2 dIn (ae i) (fA aL (ab (fC (.str b)) (ab (fC (.str c)) ag)))) ρ=some x:=tkF (eoF (.str a) (.tup ([b,c].map .str)) (by simp[e]) (by simp[sizeLine]) (by rw[iJ,h]))
theorem Ea {l:List Int}{x:Int}(h:x∈l)(hl:l.all (λy=>decide (0<=y/\y.toNat∈MS))=true):∃m:Nat,x=m/\m∈MS:=by
 have:=of_decide_eq_true (List.all_eq_true.mp hl x h);exact⟨x.toNat,by omega,this.2⟩
theorem Dj (many c o day m:Int)(zs had:List Str)(hz:zs.length=9)(hh:had≠[]):
  ∃k r,jT [.int many,.int c,.int o,.lst (zs.map .str),.int day,.lst (had.map .str),.int m]=some (.tup (.str k::r),false)/\Dd k r/\k≠("root" : Str):=by
 obtain⟨w,by_,p,ofn,hw,pre⟩:=Bl many c o day m zs had hz hh;obtain⟨s,es⟩:=vV (o / 32) day m;have h8:=mod_lt (x:=c / 8100) (m:=8) (by decide);obtain⟨m1i,hm1i,em1⟩:=kj (ns:=[3,1,7,2,255,5,1,3]) (i:=c / 8100 % 8) h8.1 h8.2;obtain⟨m2i,hm2i,em2⟩:=kj (ns:=[1,1,3,2,4,5,128,7]) (i:=c / 8100 % 8) h8.1 h8.2;obtain⟨m1,rfl,hm1⟩:=Ea hm1i (by decide);obtain⟨m2,rfl,hm2⟩:=Ea hm2i (by decide);have h4:=mod_lt (x:=o / 2560) (m:=4) (by decide);obtain⟨dv,hdv,ed⟩:=kj (ns:=[5,5,5,10]) (i:=o / 2560 % 4) h4.1 h4.2;have hd0:0<dv:=by simp only[List.mem_cons,List.not_mem_nil,or_false]at hdv;omega
 have h2:=mod_lt (x:=o / 256) (m:=2) (by decide);obtain⟨wv,ewv,hwv,hwp⟩:∃wv,ixD (.lst [.non,.str p]) (.int (o / 256 % 2))=some (wv,false)/\bc wv=true/\ai 5 wv=true:=by
  rcases (show o / 256 % 2=0∨o / 256 % 2=1 by omega)with h|h
  ·rw[h];exact⟨.non,by simp[at0],rfl,by simp⟩
  ·rw[h];exact⟨.str p,by simp[at1],rfl,by simp⟩
 have h2':=mod_lt (x:=o) (m:=2) (by decide);have h4':=mod_lt (x:=o) (m:=4) (by decide);obtain⟨off,_,eo⟩:=hW (zs:=zs) (i:=5+o % 2) (by omega) (by omega);obtain⟨off4,_,eo4⟩:=hW (zs:=zs) (i:=5+o % 4) (by omega) (by omega);have h3o:=mod_lt (x:=o / 32) (m:=3) (by decide);have stq:∀(ρ:DL.Env),ρ[2]? = some (some (.int o,false))->ρ[4]? = some (some (.int day,false))->ρ[6]? = some (some (.int m,false))->fA dC (ab (f2 bY (ae 2) (fC (.int 32))) (ab (ae 4) (ab (ae 6) ag))) ρ=some (stD s,false):=λρ q1 q2 q3=>
  cdD [.int (o / 32),.int day,.int m] (by simp[q1,q2,q3]) es
 have offq:∀(ρ:DL.Env),ρ[2]? = some (some (.int o,false))->ρ[3]? = some (some (.lst (zs.map .str),false))->f2 ixD (ae 3) (f2 bC (fC (.int 5)) (f2 bi (ae 2) (fC (.int 2)))) ρ=some (.str off,false):=λρ q1 q2=>eoF (.lst (zs.map .str)) (.int (5+o % 2)) (by simp[q2]) (by simp[q1]) eo;have mtq:∀(ns:List Int)(M:Nat)(ρ:DL.Env)(fl:FE),fl ρ=some (.lst (ns.map .int),true)->ρ[1]? = some (some (.int c,false))->ixD (.lst (ns.map .int)) (.int (c / 8100 % 8))=some (.int M,false)->f2 ixD fl (f2 bi (f2 bY (ae 1) (fC (.int 8100))) (fC (.int 8))) ρ=some (.int M,false):=λns M ρ fl e1 q e=>gh (x:=.lst (ns.map .int)) (y:=.int (c / 8100 % 8)) (b1:=true) (b2:=false) e1 (by simp[q]) e;have whq:∀(ρ:DL.Env),ρ[2]? = some (some (.int o,false))->ρ[10]? = some (some (.str p,false))->f2 ixD (fA br (ab (fC .non) (ab (ae 10) ag))) (f2 bi (f2 bY (ae 2) (fC (.int 256))) (fC (.int 2))) ρ=some (wv,false):=λρ q1 q2=>gh (x:=.lst [.non,.str p]) (y:=.int (o / 256 % 2)) (b1:=true) (b2:=false) (by simp[sizeLine,q2]) (by simp[q1]) ewv;rcases yW hw with rfl|rfl|rfl|rfl|rfl|rfl|rfl|rfl|rfl|rfl|rfl
 ·refine⟨_,[.int day,.str by_,.str p,.int m1,stD s,.int (o / 256 % dv)],aw rfl (pre _ _ ?_),.leave _ _ _ _ hm1 _ _,by decide +kernel⟩;refine bK (vW rfl) (rfF (.int m1) (mtq [3,1,7,2,255,5,1,3] _ _ _ (by simp[sizeLine]) rfl em1) rfl (rfF (.int (o / 256 % dv)) ?_ rfl (a8 (cdD [.str "leave",.int day,.str by_,.str p,.int m1,stD s,.int (o / 256 % dv)] (acF rfl (acF rfl (acF rfl (acF rfl (acF rfl (aB (stq _ rfl rfl rfl) (acF rfl rfl))))))) (bF _ (by simp))))));refine eoF (.int (o / 256)) (.int dv) (by simp) (gh (x:=.lst (([5,5,5,10]:List Int).map .int)) (y:=.int (o / 2560 % 4)) (b1:=true) (b2:=false) (by simp[sizeLine]) (by simp) ed) ?_;show(if decide ((0:Int)<dv)=true then _ else _)=_;rw[if_pos (decide_eq_true hd0)]
 ·refine⟨_,[.int day,.str by_,.int m2,stD s,wv,.tup [.str p]],aw rfl (pre _ _ ?_),.paper _ (.inl rfl) _ _ _ hm2 _ _ (by simp[hwv]) (by simp[hwp]),by decide +kernel⟩;exact aA (c9 rfl) (bK (cD (p:=true) (q:=false) (vW rfl) λ_=>c9 rfl) (rfF (.int m2) (mtq [1,1,3,2,4,5,128,7] _ _ _ (by simp[sizeLine]) rfl em2) rfl (rfF (.tup [.str "paper",.int day,.str by_,.int m2,stD s,wv]) (cdD [.str "paper",.int day,.str by_,.int m2,stD s,wv] (acF rfl (acF rfl (acF rfl (acF rfl (aB (stq _ rfl rfl rfl) (aB (whq _ rfl rfl) rfl)))))) (bF _ (by simp))) (by simp[gG,hwv]) (aA (c9 rfl) (a8 (eoF (.tup [.str "paper",.int day,.str by_,.int m2,stD s,wv]) (.tup [.tup [.str p]]) rfl (by simp[sizeLine]) (by simp[sizeLine])))))))
 ·refine⟨_,[.int day,.str by_,.int m2,stD s,wv,.int ofn,.tup [.tup [.int 0,.str p]]],aw rfl (pre _ _ ?_),.paper _ (.inr rfl) _ _ _ hm2 _ _ (by simp[hwv]) (by simp[hwp]),by decide +kernel⟩;exact aA (c9 rfl) (bK (cD (p:=false) (q:=true) (c9 rfl) λ_=>vW rfl) (rfF (.int m2) (mtq [1,1,3,2,4,5,128,7] _ _ _ (by simp[sizeLine]) rfl em2) rfl (rfF (.tup [.str "like",.int day,.str by_,.int m2,stD s,wv]) (cdD [.str "like",.int day,.str by_,.int m2,stD s,wv] (acF rfl (acF rfl (acF rfl (acF rfl (aB (stq _ rfl rfl rfl) (aB (whq _ rfl rfl) rfl)))))) (bF _ (by simp))) (by simp[gG,hwv]) (bK (vW rfl) (a8 (eoF (.tup [.str "like",.int day,.str by_,.int m2,stD s,wv]) (.tup [.int ofn,.tup [.tup [.int 0,.str p]]]) rfl (by simp[sizeLine]) (by simp[sizeLine])))))))
 ·exact⟨_,[.int day,.str by_,.int ofn],aw rfl (pre _ _ (aA (c9 rfl) (aA (cD (p:=false) (q:=false) (c9 rfl) λ_=>c9 rfl) (bK (ul true rfl) (a8 (cdD [.str "copy",.int day,.str by_,.int ofn] rfl (bF _ (by simp)))))))),.copy _ (.inl rfl) _ _ _,by decide +kernel⟩
 ·exact⟨_,[.int day,.str by_,.int ofn],aw rfl (pre _ _ (aA (c9 rfl) (aA (cD (p:=false) (q:=false) (c9 rfl) λ_=>c9 rfl) (bK (ul true rfl) (a8 (cdD [.str "call",.int day,.str by_,.int ofn] rfl (bF _ (by simp)))))))),.copy _ (.inr rfl) _ _ _,by decide +kernel⟩
 ·exact⟨_,[.int day,.str off,.str p],aw rfl (pre _ _ (aA (c9 rfl) (aA (cD (p:=false) (q:=false) (c9 rfl) λ_=>c9 rfl) (aA (ul false rfl) (bK (vW rfl) (a8 (cdD [.str "named",.int day,.str off,.str p] (acF rfl (acF rfl (aB (offq _ rfl rfl) (acF rfl rfl)))) (bF _ (by simp))))))))),.named _ _ _,by decide +kernel⟩
 ·exact⟨_,[.int day,.str by_],aw rfl (pre _ _ (aA (c9 rfl) (aA (cD (p:=false) (q:=false) (c9 rfl) λ_=>c9 rfl) (aA (ul false rfl) (aA (c9 rfl) (aA (c9 rfl) (aA (c9 rfl) (a8 (cdD [.str "death",.int day,.str by_] rfl (bF _ (by simp))))))))))),.three _ (.inl rfl) _ _,by decide +kernel⟩
 ·exact⟨_,[.int day,.str by_],aw rfl (pre _ _ (aA (c9 rfl) (aA (cD (p:=false) (q:=false) (c9 rfl) λ_=>c9 rfl) (aA (ul false rfl) (aA (c9 rfl) (aA (c9 rfl) (aA (c9 rfl) (a8 (cdD [.str "lost",.int day,.str by_] rfl (bF _ (by simp))))))))))),.three _ (.inr (.inl rfl)) _ _,by decide +kernel⟩
 ·exact⟨_,[.int day,.str by_],aw rfl (pre _ _ (aA (c9 rfl) (aA (cD (p:=false) (q:=false) (c9 rfl) λ_=>c9 rfl) (aA (ul false rfl) (aA (c9 rfl) (aA (c9 rfl) (aA (c9 rfl) (a8 (cdD [.str "found",.int day,.str by_] rfl (bF _ (by simp))))))))))),.three _ (.inr (.inr rfl)) _ _,by decide +kernel⟩
 ·refine⟨_,[.int day,.str by_,.str off4,.str p,.int (day+o / 32 % 3*m)],aw rfl (pre _ _ (aA (c9 rfl) (aA (cD (p:=false) (q:=false) (c9 rfl) λ_=>c9 rfl) (aA (ul false rfl) (aA (c9 rfl) (bK (vW rfl) (a8 (cdD [.str "chosen",.int day,.str by_,.str off4,.str p,.int (day+o / 32 % 3*m)] ?_ (bF _ (by simp)))))))))),.chosen _ _ _ _ _,by decide +kernel⟩;exact acF rfl (acF rfl (acF rfl (aB (eoF (.lst (zs.map .str)) (.int (5+o % 4)) rfl (by simp) eo4) (acF rfl (acF (eoF (.int day) (.int (o / 32 % 3*m)) rfl (eoF (.int (o / 32 % 3)) (.int m) (by simp) rfl (kU (by omega))) rfl) rfl)))))
 ·exact⟨_,[.int day,.str by_,.str off,.str p],aw rfl (pre _ _ (aA (c9 rfl) (aA (cD (p:=false) (q:=false) (c9 rfl) λ_=>c9 rfl) (aA (ul false rfl) (aA (c9 rfl) (aA (c9 rfl) (bK (vW rfl) (a8 (cdD [.str "heir",.int day,.str by_,.str off,.str p] (acF rfl (acF rfl (acF rfl (aB (offq _ rfl rfl) (acF rfl rfl))))) (bF _ (by simp))))))))))),.heir _ _ _ _,by decide +kernel⟩
def cK (r:D):Prop:=∃h k ay,r=row h k ay/\Dd k ay
theorem cK.c {r:D}(g:cK r):re r:=by obtain⟨h,k,ay,e,d⟩:=g;exact⟨h,k,ay,e,d.cd⟩
theorem cK.flat {r:D}(g:cK r):bc r=true:=g.c.rp.flat
theorem Dk (p:Prop)[Decidable p]:k9 [.bl (decide p)]=some (.int (if p then 1 else 0),false):=by show some (D.int (if decide p=true then 1 else 0),false)=_;simp only[decide_eq_true_eq]
theorem Hj (c1 m most:Int)(xs zs had:List Str)(ns:List Int)(rows:List D)(hz:zs.length=9)(i:Nat)(hi:i<4)(hr:rows.length<=100)(hh:had.length<=100)(v8 v9 v10 v11:Option (D×Bool)):
  ∃r1 r2 p w8 w9 w10 w11,(cK r1/\aW r1=true/\zs[5+i]? = some (ax 0 r1))/\(cK r2/\aW r2=false)/\kL [some (.lst (ns.map .int),false),some (.lst (zs.map .str),false),some (.int m,false),some (.int most,false),some (.int c1,false),some (.lst rows,true),some (.lst (had.map .str),true),some (.int i,false),v8,v9,v10,v11,none,none,none]
   = some (.nx [some (.lst (ns.map .int),false),some (.lst (zs.map .str),false),some (.int m,false),some (.int most,false),some (.int c1,false),some (.lst (rows++[r1]++[r2]),true),some (.lst ((had++[p]).map .str),true),some (.int i,false),w8,w9,w10,w11,none,none,none]):=by
 have h3:=mod_lt (x:=c1 / (64+9*i)) (m:=3) (by decide);obtain⟨rl,_,erl⟩:=hW (zs:=[("open" : Str),("first" : Str),("last" : Str)]) (i:=c1 / (64+9*i) % 3) (by simp;omega) (by simp;omega);have h4:=mod_lt (x:=c1 / (2+8*i)) (m:=4) (by decide);obtain⟨mti,hmti,emti⟩:=kj (ns:=[7,255,3,15]) (i:=c1 / (2+8*i) % 4) h4.1 h4.2;obtain⟨mt,emt',hmt⟩:∃mt:Nat,mti=mt/\mt∈MR:=by
  simp only[List.mem_cons,List.not_mem_nil,or_false]at hmti;rcases hmti with rfl|rfl|rfl|rfl<;>first|exact⟨7,rfl,by decide⟩|exact⟨255,rfl,by decide⟩|exact⟨3,rfl,by decide⟩|exact⟨15,rfl,by decide⟩
 have emt:=emti;rw[emt']at emt;have h3':=mod_lt (x:=c1 / (31+i)) (m:=3) (by decide);obtain⟨dv,hdv,ed⟩:=kj (ns:=[5,5,10]) (i:=c1 / (31+i) % 3) h3'.1 h3'.2;have hd0:0<dv:=by simp only[List.mem_cons,List.not_mem_nil,or_false]at hdv;omega
 obtain⟨of,hof,eof⟩:∃of,zs[5+i]? = some of/\ixD (.lst (zs.map .str)) (.int (5+i))=some (.str of,false):=by
  have hl:5+i<zs.length:=by omega
  refine⟨zs[5+i],List.getElem?_eq_getElem hl,?_⟩;have hl2:((5:Int)+i).toNat<(zs.map D.str).length:=by rw[List.length_map];omega
  rw[DL.vN (by omega) hl2,show((5:Int)+i).toNat=5+i by omega,List.getD_eq_getElem?_getD,List.getElem?_map,List.getElem?_eq_getElem hl];rfl
 obtain⟨p0,_,ep0⟩:=hW (zs:=zs) (i:=i) (by omega) (by omega);obtain⟨t2,et2,ht2⟩:∃t2:Int,(if 0<c1 / 5 % 4 then (1:Int)else 0)=t2/\0<=(i:Int)*t2/\(i:Int)*t2<=i:=by
  split
  ·exact⟨1,rfl,by omega⟩
  ·exact⟨0,rfl,by omega⟩
 obtain⟨pn,_,epn⟩:=hW (zs:=zs) (i:=(i:Int)*t2) (by omega) (by omega);have hi3 : -1000<=(i:Int)/\(i:Int)<=1000:=by omega
 have hmul:∀x:Int,-1000<=x/\x<=1000->dQ (.int x) (.int t2)=some (.int (x*t2),false):=λx h=>kU h;have it2:∀ρ:DL.Env,ρ[4]? = some (some (.int c1,false))->fA k9 (ab (f2 iGt (f2 bi (f2 bY (ae 4) (fC (.int 5))) (fC (.int 4))) (fC (.int 0))) ag) ρ=some (.int t2,false):=λρ h=>by
  have e1:f2 bi (f2 bY (ae 4) (fC (.int 5))) (fC (.int 4)) ρ=some (.int (c1 / 5 % 4),false):=by simp[h]
  have e2:f2 iGt (f2 bi (f2 bY (ae 4) (fC (.int 5))) (fC (.int 4))) (fC (.int 0)) ρ=some (.bl (decide (0<c1 / 5 % 4)),false):=eoF (.int (c1 / 5 % 4)) (.int 0) e1 rfl rfl;exact cdD [.bl (decide (0<c1 / 5 % 4))] (aB e2 rfl) ((Dk (0<c1 / 5 % 4)).trans (by rw[et2]))
 have b64:(0:Int)<64+9*i/\(64:Int)+9*i<1073741824:=by omega
 have b2:(0:Int)<2+8*i/\(2:Int)+8*i<1073741824:=by omega
 have b512:(0:Int)<512+i/\(512:Int)+i<1073741824:=by omega
 have b1024:(0:Int)<1024+5*i/\(1024:Int)+5*i<1073741824:=by omega
 have b31:(0:Int)<31+i/\(31:Int)+i<1073741824:=by omega
 let t:Int:=if c1 / (512+i) % 8=1 then 1 else 0;have ht:0<=t/\t<=1:=by show 0<=(if _ then (1:Int)else 0)/\(if _ then (1:Int)else 0)<=1;split<;>omega
 refine⟨row (t*4*m) ("root" : Str) [.str of,.int mt,.int (c1 / (1024+5*i) % dv),.str rl],row 0 ("named" : Str) [.int 0,.str of,.str pn],p0,some (.str rl,false),some (.int mt,false),some (.int (t*4*m),false),some (.int (c1 / (1024+5*i) % dv),false),⟨⟨_,_,_,rfl,.root _ _ _ hmt _⟩,decide_eq_true rfl,hof⟩,⟨⟨_,_,_,rfl,.named _ _ _⟩,show decide (("named" : Str)=("root" : Str))=false by decide +kernel⟩,?_⟩;refine rfF (.str rl) ?_ rfl (rfF (.int mt) ?_ rfl (rfF (.int (t*4*m)) ?_ rfl (rfF (.int (c1 / (1024+5*i) % dv)) ?_ rfl (AL (ds:=rows) (d:=row (t*4*m) ("root" : Str) [.str of,.int mt,.int (c1 / (1024+5*i) % dv),.str rl]) (b:=false) rfl ?_ rfl (bx (by omega)) (AL (ds:=rows++[row (t*4*m) ("root" : Str) [.str of,.int mt,.int (c1 / (1024+5*i) % dv),.str rl]]) (d:=row 0 ("named" : Str) [.int 0,.str of,.str pn]) (b:=false) rfl ?_ rfl (bx (by simp;omega)) ((gg (ds:=had.map .str) (d:=.str p0) (b:=false) rfl ?_ rfl (bx (by simp;omega))).trans ?_))))))
 ·exact gh (x:=.lst (([("open" : Str),("first" : Str),("last" : Str)]:List Str).map .str)) (y:=.int (c1 / (64+9*i) % 3)) (b1:=true) (b2:=false) (by simp[sizeLine]) (by simp[b64]) erl
 ·exact gh (x:=.lst (([7,255,3,15]:List Int).map .int)) (y:=.int (c1 / (2+8*i) % 4)) (b1:=true) (b2:=false) (by simp[sizeLine]) (by simp[b2]) emt
 ·refine eoF (.int (t*4)) (.int m) (eoF (.int t) (.int 4) ?_ rfl (by simp)) rfl (kU (by omega));refine cdD [.bl (decide (c1 / (512+i) % 8=1))] (acF (eoF (.int (c1 / (512+i) % 8)) (.int 1) (by simp[b512]) rfl (by simp)) rfl) ?_;simp[t]
 ·refine eoF (.int (c1 / (1024+5*i))) (.int dv) (by simp[b1024]) (gh (x:=.lst (([5,5,10]:List Int).map .int)) (y:=.int (c1 / (31+i) % 3)) (b1:=true) (b2:=false) (by simp[sizeLine]) (by simp[b31]) ed) ?_;show(if decide ((0:Int)<dv)=true then _ else _)=_;rw[if_pos (decide_eq_true hd0)]
 ·refine cdD [.int (t*4*m),.tup [.str "root",.str of,.int mt,.int (c1 / (1024+5*i) % dv),.str rl]] (acF rfl (acF (cdD [.str "root",.str of,.int mt,.int (c1 / (1024+5*i) % dv),.str rl] (acF rfl (aB (eoF (.lst (zs.map .str)) (.int (5+i)) rfl (by simp) eof) (acF rfl (acF rfl (acF rfl rfl))))) (bF _ (by simp))) rfl)) (bF _ (by simp))
 ·refine cdD [.int 0,.tup [.str "named",.int 0,.str of,.str pn]] (acF rfl (acF (cdD [.str "named",.int 0,.str of,.str pn] (acF rfl (acF rfl (aB (eoF (.lst (zs.map .str)) (.int (5+i)) rfl (by simp) eof) (aB (eoF (.lst (zs.map .str)) (.int ((i:Int)*t2)) rfl (eoF (.int i) (.int t2) rfl (it2 _ rfl) (hmul _ hi3)) epn) rfl)))) (bF _ (by simp))) rfl)) (bF _ (by simp))
 ·exact eoF (.lst (zs.map .str)) (.int i) rfl rfl ep0
 ·simp
noncomputable def ji (rows:List D):List Str:=(rows.filter aW).map (ax 0)
theorem kW (rows:List D)(r:D):ji (rows++[r])=ji rows++if aW r=true then [ax 0 r]else []:=by
 unfold ji;rw[List.filter_append,List.map_append,List.filter_cons];split
 ·rename_i h;rfl
 ·rename_i h;rfl
theorem Hk (c1 m most:Int)(zs had:List Str)(ns:List Int)(rows:List D)(hz:zs.length=9)(i:Nat)(hi:i<100)(hr:rows.length<=200)(hh:had≠[])(hh2:had.length<=200)(v8 v9 v10 v11 v12 v13 v14:Option (D×Bool)):
  ∃r1 had' w12 w13 w14,(cK r1/\aW r1=false)/\had'≠[]/\had'.length<=had.length+1/\kM [some (.lst (ns.map .int),false),some (.lst (zs.map .str),false),some (.int m,false),some (.int most,false),some (.int c1,false),some (.lst rows,true),some (.lst (had.map .str),true),some (.int i,false),v8,v9,v10,v11,v12,v13,v14]
   = some (.nx [some (.lst (ns.map .int),false),some (.lst (zs.map .str),false),some (.int m,false),some (.int most,false),some (.int c1,false),some (.lst (rows++[r1]),true),some (.lst (had'.map .str),true),some (.int i,false),v8,v9,v10,v11,w12,w13,w14]):=by
 obtain⟨ca,eca,ca0⟩:=fZ ns (5+i);obtain⟨cb,ecb,cb0⟩:=fZ ns (30+i);obtain⟨cc,ecc,cc0⟩:=fZ ns (60+i);have h3:=mod_lt (x:=ca / 7) (m:=3) (by decide);obtain⟨day,hday⟩:∃day:Int,((i:Int) / 2+ca / 7 % 3)*m=day:=⟨_,rfl⟩;obtain⟨k,r,ed,hD,hk1⟩:=Dj rows.length cb cc day m zs had hz hh;have hk3:=λh=>hD.had3 h;have hk4:=λh=>hD.had4 h;have h6:=mod_lt (x:=ca / 21) (m:=6) (by decide);obtain⟨tv,htv,etv⟩:=kj (ns:=[0,0,0,0,1,4]) (i:=ca / 21 % 6) h6.1 h6.2;have htb : -1000<=tv/\tv<=1000:=by simp only[List.mem_cons,List.not_mem_nil,or_false]at htv;omega
 have hdf:bc (.tup (.str k::r))=true:=by simp[hD.flat]
 have e4:∀(ρ:DL.Env),ρ[14]? = some (some (.tup (.str k::r),false))->ixV 14 0 ρ=some (.str k,false):=λρ h=>eoF (.tup (.str k::r)) (.int 0) (by simp[h]) rfl (by simp[at0]);have e1:∀(b:Bool),decide (k=("leave" : Str)∨k=("named" : Str))=b->tOf (f2 dIn (ixV 14 0) (fA aL (ab (fC (.str "leave")) (ab (fC (.str "named")) ag)))) [some (.lst (ns.map .int),false),some (.lst (zs.map .str),false),some (.int m,false),some (.int most,false),some (.int c1,false),some (.lst rows,true),some (.lst (had.map .str),true),some (.int i,false),v8,v9,v10,v11,some (.int ca,false),some (.int day,false),some (.tup (.str k::r),false)]=some b:=λb hb=>tkF (eoF (.str k) (.tup (([("leave" : Str),("named" : Str)]:List Str).map .str)) (e4 _ rfl) (by simp[sizeLine]) (by rw[iJ,←hb];simp));have at_:∀(j:Nat)(p:Str),r[j]? = some (.str p)->∀ρ:DL.Env,ρ[14]? = some (some (.tup (.str k::r),false))->f2 ixD (ae 14) (fC (.int ((j+1:Nat):Int))) ρ=some (.str p,false):=λj p hp ρ hρ=>by
  have hl:j<r.length:=(List.getElem?_eq_some_iff.mp hp).1;refine eoF (.tup (.str k::r)) (.int ((j+1:Nat):Int)) (by simp[hρ]) rfl ?_;rw[DL.ql (by omega) (by simp;omega),show((j+1:Nat):Int).toNat=j+1 by omega,List.getD_eq_getElem?_getD];show some ((r[j]?).getD .non,false)=_;rw[hp];rfl
 obtain⟨had',hne',hlen',hgo⟩:∃had':List Str,had'≠[]/\had'.length<=had.length+1/\∀(h:FS)(rr:Option Res),h [some (.lst (ns.map .int),false),some (.lst (zs.map .str),false),some (.int m,false),some (.int most,false),some (.int c1,false),some (.lst rows,true),some (.lst (had'.map .str),true),some (.int i,false),v8,v9,v10,v11,some (.int ca,false),some (.int day,false),some (.tup (.str k::r),false)]=rr->a9 (gIf (tOf (f2 dIn (ixV 14 0) (fA aL (ab (fC (.str "leave")) (ab (fC (.str "named")) ag))))) (gJ 6 (ixV 14 3)) aZ) (a9 (gIf (tOf (f2 dEq (ixV 14 0) (fC (.str "chosen")))) (gJ 6 (ixV 14 4)) aZ) h) [some (.lst (ns.map .int),false),some (.lst (zs.map .str),false),some (.int m,false),some (.int most,false),some (.int c1,false),some (.lst rows,true),some (.lst (had.map .str),true),some (.int i,false),v8,v9,v10,v11,some (.int ca,false),some (.int day,false),some (.tup (.str k::r),false)]=rr:=by
  by_cases hx:k=("leave" : Str)∨k=("named" : Str)
  ·obtain⟨p,hp⟩:=hk3 hx;have hnc:k≠("chosen" : Str):=by rcases hx with rfl|rfl<;>decide +kernel
   refine⟨had++[p],by simp,by simp,λh rr hr=>dj (ib (e1 true (decide_eq_true hx)) (gg (ds:=had.map .str) (d:=.str p) (b:=false) rfl (at_ 2 p hp _ rfl) rfl (bx (by simp;omega)))) (aA (bq (a:=k) (bb:=false) (e4 _ rfl) (decide_eq_false hnc)) ?_)⟩;rw[List.map_append]at hr;exact hr
  ·by_cases hy:k=("chosen" : Str)
   ·obtain⟨p,hp⟩:=hk4 hy;refine⟨had++[p],by simp,by simp,λh rr hr=>aA (e1 false (decide_eq_false hx)) (dj (ib (bq (a:=k) (bb:=false) (e4 _ rfl) (decide_eq_true hy)) (gg (ds:=had.map .str) (d:=.str p) (b:=false) rfl (at_ 3 p hp _ rfl) rfl (bx (by simp;omega)))) ?_)⟩;rw[List.map_append]at hr;exact hr
   ·exact⟨had,hh,by omega,λh rr hr=>aA (e1 false (decide_eq_false hx)) (aA (bq (a:=k) (bb:=false) (e4 _ rfl) (decide_eq_false hy)) hr)⟩
 refine⟨row (day+tv*m) k r,had',some (.int ca,false),some (.int day,false),some (.tup (.str k::r),false),⟨⟨_,_,_,rfl,hD⟩,decide_eq_false hk1⟩,hne',hlen',?_⟩;refine rfF (.int ca) (cdD [.lst (ns.map .int),.int ((5+i:Nat):Int)] (by simp) eca) rfl (rfF (.int day) ?_ rfl (rfF (.tup (.str k::r)) ?_ hdf (hgo _ _ ((gg (ds:=rows) (d:=row (day+tv*m) k r) (b:=false) rfl ?_ (by simp[row,hD.flat]) (bx (by omega))).trans ?_))))
 ·refine eoF (.int ((i:Int) / 2+ca / 7 % 3)) (.int m) (by simp) rfl ?_;rw[←hday];exact kU (by omega)
 ·refine cdD [.int rows.length,.int cb,.int cc,.lst (zs.map .str),.int day,.lst (had.map .str),.int m] (acF (by simp) (aB (cdD [.lst (ns.map .int),.int ((30+i:Nat):Int)] (by simp) ecb) (aB (cdD [.lst (ns.map .int),.int ((60+i:Nat):Int)] (by simp) ecc) (acF rfl (acF rfl (acF rfl (acF rfl rfl))))))) ed
 ·refine cdD [.int (day+tv*m),.tup (.str k::r)] (acF (eoF (.int day) (.int (tv*m)) rfl (eoF (.int tv) (.int m) (gh (x:=.lst (([0,0,0,0,1,4]:List Int).map .int)) (y:=.int (ca / 21 % 6)) (b1:=true) (b2:=false) (by simp[sizeLine]) (by simp) etv) rfl (kU htb)) rfl) (acF rfl rfl)) (bF _ (by simp))
 ·simp
theorem Dl (ns:List Int)(zs:List Str)(hz:zs.length=9)(m:Int):∃rows:List D,nw [.lst (ns.map .int),.lst (zs.map .str),.int m,.int 14]=some (.tup rows,false)/\(∀r∈rows,cK r)/\rows.length<=24/\ji rows=(zs.drop 5).take (ji rows).length:=by
 obtain⟨c1,e1,h1⟩:=fZ ns 1;obtain⟨c2,e2,h2⟩:=fZ ns 2;have hm1:=mod_lt (x:=c1) (m:=4) (by decide);have hm2:=mod_lt (x:=c2) (m:=14) (by decide);obtain⟨n1i,hn1i,en1⟩:=kj (ns:=[1,2,2,4]) (i:=c1 % 4) hm1.1 hm1.2;obtain⟨n1,hn1,hn0,hn4⟩:∃n1:Nat,n1i=n1/\1<=n1/\n1<=4:=by
  simp only[List.mem_cons,List.not_mem_nil,or_false]at hn1i;exact⟨n1i.toNat,by omega,by omega,by omega⟩
 rw[hn1]at en1;obtain⟨n2,hn2⟩:∃n2:Nat,3+c2 % 14=n2:=⟨(3+c2 % 14).toNat,by omega⟩;obtain⟨ρ1,f1,rows1,had1,u7,u8,u9,u10,u11,rfl,g1,l1,k1,o1⟩:=jL (tg:=tgN 7) (g:=kL) n1 (λi ρ=>∃(rows:List D)(had:List Str)(v7 v8 v9 v10 v11:Option (D×Bool)),ρ=[some (.lst (ns.map .int),false),some (.lst (zs.map .str),false),some (.int m,false),some (.int 14,false),some (.int c1,false),some (.lst rows,true),some (.lst (had.map .str),true),v7,v8,v9,v10,v11,none,none,none]/\(∀r∈rows,cK r)/\rows.length=2*i/\had.length=i/\ji rows=(zs.drop 5).take i)
  [some (.lst (ns.map .int),false),some (.lst (zs.map .str),false),some (.int m,false),some (.int 14,false),some (.int c1,false),some (.lst [],true),some (.lst [],true),none,none,none,none,none,none,none,none] ⟨[],[],none,none,none,none,none,rfl,by simp,rfl,rfl,rfl⟩ (by
   rintro i ρ hi ⟨rows,had,v7,v8,v9,v10,v11,rfl,g,l,k,o⟩;obtain⟨r1,r2,p,w8,w9,w10,w11,q1,q2,e⟩:=Hj c1 m 14 [] zs had ns rows hz i (by omega) (by omega) (by omega) v8 v9 v10 v11;refine⟨_,_,rfl,.inl e,rows++[r1]++[r2],had++[p],_,w8,w9,w10,w11,rfl,?_,by simp;omega,by simp[k],by rw[kW,kW,if_pos q1.2.1,if_neg (by rw[q2.2];decide),List.append_nil,o,List.take_add_one,List.getElem?_drop,q1.2.2];rfl⟩;intro r hr;simp only[List.mem_append,List.mem_singleton]at hr;rcases hr with (hr|rfl)|rfl
   ·exact g r hr
   ·exact q1.1
   ·exact q2.1)
 obtain⟨ρ2,f2',rows2,had2,w7,w12,w13,w14,rfl,g2,l2,k2,k3,o2⟩:=jL (tg:=tgN 7) (g:=kM) n2 (λi ρ=>∃(rows:List D)(had:List Str)(v7 v12 v13 v14:Option (D×Bool)),ρ=[some (.lst (ns.map .int),false),some (.lst (zs.map .str),false),some (.int m,false),some (.int 14,false),some (.int c1,false),some (.lst rows,true),some (.lst (had.map .str),true),v7,u8,u9,u10,u11,v12,v13,v14]/\(∀r∈rows,cK r)/\rows.length=2*n1+i/\had≠[]/\had.length<=n1+i/\ji rows=(zs.drop 5).take n1)
  [some (.lst (ns.map .int),false),some (.lst (zs.map .str),false),some (.int m,false),some (.int 14,false),some (.int c1,false),some (.lst rows1,true),some (.lst (had1.map .str),true),u7,u8,u9,u10,u11,none,none,none] ⟨rows1,had1,u7,none,none,none,rfl,g1,by omega,λe=>by rw[e]at k1;simp at k1;omega,by omega,o1⟩ (by
   rintro i ρ hi ⟨rows,had,v7,v12,v13,v14,rfl,g,l,k,k',o⟩;obtain⟨r1,had',w12,w13,w14,q1,q2,q3,e⟩:=Hk c1 m 14 zs had ns rows hz i (by omega) (by omega) k (by omega) u8 u9 u10 u11 v12 v13 v14;refine⟨_,_,rfl,.inl e,rows++[r1],had',_,w12,w13,w14,rfl,?_,by simp;omega,q2,by omega,by rw[kW,if_neg (by rw[q1.2];decide),List.append_nil,o]⟩;intro r hr;simp only[List.mem_append,List.mem_singleton]at hr;rcases hr with hr|rfl
   ·exact g r hr
   ·exact q1.1)
 refine⟨rows2,aw rfl (rfF (.int c1) (cdD [.lst (ns.map .int),.int ((1:Nat):Int)] (by simp) e1) rfl (bX (ds:=[]) (by simp[sizeLine]) rfl (bX (ds:=[]) (by simp[sizeLine]) rfl (dj (jN (g7 (j:=n1) (b:=false) (gh (x:=.lst (([1,2,2,4]:List Int).map .int)) (y:=.int (c1 % 4)) (b1:=true) (b2:=false) (by simp[sizeLine]) (by simp) en1) (by omega)) f1) (dj (jN (g7 (j:=n2) (b:=false) ?_ (by omega)) f2') (a8 (by simp))))))),g2,by omega,?_⟩
 ·refine eoF (.int 3) (.int (c2 % 14)) rfl (eoF (.int c2) (.int 14) (cdD [.lst (ns.map .int),.int ((2:Nat):Int)] (by simp) e2) rfl (by simp)) ?_;rw[←hn2];rfl
 ·have hl:(ji rows2).length<=n1:=by rw[o2,List.length_take];omega
  rw[o2,List.length_take];congr 1;rw[List.length_drop];omega
theorem yX (a b:Nat):gB [.int a,.int b]=some (.bl (decide (a &&& b=b)),false):=by
 have:Builtin.bitAnd (a:Int) (b:Int)=((a &&& b:Nat):Int):=by simp[Builtin.bitAnd]
 simp[gB,nq,this];omega
theorem vX:∀a∈MR,∀b∈MS,isR (eu [.int (a:Int),.int (b:Int)]) (.bl (decide (a &&& b=b))) false=true:=by decide +kernel
theorem yY {a b:Nat}(ha:a∈MR)(hb:b∈MS):eu [.int a,.int b]=some (.bl (decide (a &&& b=b)),false):=aX (vX a ha b hb)
noncomputable def mAt (r:D):Nat:=(if kindOf r=("root" : Str)then jh 1 r else if kindOf r=("leave" : Str)then jh 3 r else jh 2 r).toNat
theorem dn (a:Int)(k:Str)(ay:List D):kindOf (row a k ay)=k:=rfl
noncomputable def cM:List Str:=[("leave" : Str),("paper" : Str),("like" : Str)]
theorem nY {r:D}(g:cK r)(h:aW r=true):∃a o rl,∃m:Nat,∃f:Int,r=row a ("root" : Str) [.str o,.int m,.int f,.str rl]/\m∈MR/\mAt r=m:=by
 obtain⟨a,k,ay,rfl,d⟩:=g;have hk:k=("root" : Str):=of_decide_eq_true h;clear h;cases d with
 |root o rl m hm f=>exact⟨a,o,rl,m,f,rfl,hm,by unfold mAt;rw[dn,if_pos rfl];rfl⟩
 |named=>exact absurd hk (by decide +kernel)
 |chosen=>exact absurd hk (by decide +kernel)
 |heir=>exact absurd hk (by decide +kernel)
 |three k hk'=>rcases hk' with rfl|rfl|rfl<;>exact absurd hk (by decide +kernel)
 |leave=>exact absurd hk (by decide +kernel)
 |paper k hk'=>rcases hk' with rfl|rfl<;>exact absurd hk (by decide +kernel)
 |copy k hk'=>rcases hk' with rfl|rfl<;>exact absurd hk (by decide +kernel)
theorem Dm {r:D}(g:cK r)(h:aW r=true):aj [r,.str "matters"]=some (.int (mAt r),false):=by
 obtain⟨a,o,rl,m,f,rfl,_,e⟩:=nY g h;rw[e];exact ba (i:=1) (aX (by decide +kernel)) rfl
theorem Bm {a:Int}{k:Str}{ay:List D}(d:Dd k ay)(h:k∈cM):mAt (row a k ay)∈MS/\(∃i:Nat,lF eJ (.str k) (.str "matters")=some (.int i,false)/\ay[i]? = some (.int (mAt (row a k ay))))/\(D.str k::ay).getD (3+if k=("leave" : Str)then 1 else 0) .non=.int (mAt (row a k ay))/\(3+if k=("leave" : Str)then 1 else 0)<(D.str k::ay).length:=by
 cases d with
 |leave d b p m hm x f=>
  have e:mAt (row a ("leave" : Str) [.int d,.str b,.str p,.int m,stD x,.int f])=m:=by unfold mAt;rw[dn,if_neg (by decide +kernel),if_pos rfl];rfl
  rw[e];refine⟨hm,⟨3,aX (by decide +kernel),rfl⟩,?_,?_⟩
  ·rw[if_pos rfl];rfl
  ·rw[if_pos rfl];simp
 |paper k hk d b m hm x r hf hp=>
  have hl:k≠("leave" : Str):=by rcases hk with rfl|rfl<;>decide +kernel
  have hr:k≠("root" : Str):=by rcases hk with rfl|rfl<;>decide +kernel
  have e:mAt (row a k (.int d::.str b::.int m::stD x::r))=m:=by unfold mAt;rw[dn,if_neg hr,if_neg hl];rfl
  rw[e];refine⟨hm,⟨2,by rcases hk with rfl|rfl<;>exact aX (by decide +kernel),rfl⟩,?_,?_⟩
  ·rw[if_neg hl];rfl
  ·rw[if_neg hl];simp
 |root=>exact absurd h (by decide +kernel)
 |named=>exact absurd h (by decide +kernel)
 |chosen=>exact absurd h (by decide +kernel)
 |heir=>exact absurd h (by decide +kernel)
 |three k hk'=>rcases hk' with rfl|rfl|rfl<;>exact absurd h (by decide +kernel)
 |copy k hk'=>rcases hk' with rfl|rfl<;>exact absurd h (by decide +kernel)
theorem xN {r:D}(g:cK r)(h:kindOf r∈cM):aj [r,.str "matters"]=some (.int (mAt r),false):=by
 obtain⟨a,k,ay,rfl,d⟩:=g;obtain⟨_,⟨i,h1,h2⟩,_⟩:=Bm (a:=a) d h;exact ba h1 h2
noncomputable def rq:List Str:=[("leave" : Str),("paper" : Str),("like" : Str),("copy" : Str)]
theorem jx {k:Str}(h:k∈rq∨k=("call" : Str)):cV k=true:=by
 rw[nD];refine decide_eq_true ?_;rcases h with h|rfl
 ·have:∀k∈rq,k∈tV:=by decide +kernel
  exact this k h
 ·decide +kernel
theorem xO {k:Str}{ay:List D}(d:Dd k ay)(h:cV k=true):∃(dd:Int)(b:Str)(r:List D),ay=.int dd::.str b::r:=d.cd.deed.slg h
theorem Eb {r:D}(g:cK r)(h:cV (kindOf r)=true):aj [r,.str "by"]=some (.str (eB r),false):=by
 obtain⟨a,k,ay,rfl,d⟩:=g;obtain⟨dd,b,q,rfl⟩:=xO d h;exact ba (i:=1) (AW h) rfl
noncomputable def bM (K:KL):List D:=(K.filter λx=>aW x.1).map (·.1)
theorem um:∀(l:List (Key×D))(a:List Key×List D),(a.1++l.map (·.1)).Nodup->l.foldl mI a=(a.1++l.map (·.1),a.2++l.map (·.2))
 |[],a,_=>by simp
 |p::l,a,h=>by
  have hn:p.1∉a.1:=by
   rw[List.map_cons,List.nodup_append]at h;exact λz=>h.2.2 _ z _ mX rfl
  have e:mI a p=(a.1++[p.1],a.2++[p.2]):=by unfold mI dM dN;rw[if_neg hn,if_neg hn]
  rw[List.foldl_cons,e,um l _ (by rw[List.append_assoc];exact h)];simp
theorem xP:∀ {vs:List D}{v:D},(vs.map (ax 0)).Nodup->v∈vs->cn (vs.map λv=>(.inr (ax 0 v):Key)) vs (.inr (ax 0 v))=some v
 |w::vs,v,h,hv=>by
  rw[List.map_cons,List.nodup_cons]at h;rw[List.map_cons,cn];rcases List.mem_cons.mp hv with rfl|hv
  ·rw[if_pos rfl]
  ·rw[if_neg λz=>h.1 (by have e:ax 0 w=ax 0 v:=Sum.inr.inj z;rw[e];exact List.mem_map_of_mem hv)];exact xP h.2 hv
section
variable {K:KL}(hn:((bM K).map (ax 0)).Nodup)
include hn
theorem nZ:bw (iL K)=((bM K).map λv=>(.inr (ax 0 v):Key),bM K):=by
 have e:iL K=(bM K).map λv=>((.inr (ax 0 v):Key),v):=by unfold iL bM;rw[List.map_map];rfl
 have hn2:((bM K).map λv=>(.inr (ax 0 v):Key)).Nodup:=by
  refine List.pairwise_map.mpr ((List.pairwise_map.mp hn).imp λh z=>h (Sum.inr.inj z))
 rw[e];unfold bw;rw[um _ _ (by rw[List.map_map];exact hn2),List.map_map,List.map_map];simp only[List.nil_append];congr 1;exact List.map_id _
theorem yZ {v:D}(hv:v∈bM K):kc K (ax 0 v)=some v:=by
 unfold kc;rw[nZ hn];exact xP hn hv
end
noncomputable def Dn (j:Nat):D->Int×Option Int
 |.tup [_,.tup (_::ay)]=>match ay[j]? with
  |some (.tup [.int s,.int u])=>(s,some u)
  |some (.tup [.int s,.non])=>(s,none)
  |_=>(0,none)
 |_=>(0,none)
theorem rz {h:Int}{k:Str}{ay:List D}{j:Nat}{x:Int×Option Int}(e:ay[j]? = some (stD x)):Dn j (row h k ay)=x:=by
 unfold Dn row;simp only[e];obtain⟨s,u⟩:=x;cases u<;>rfl
noncomputable def fO (r:D):Int×Option Int:=if kindOf r=("leave" : Str)then Dn 4 r else Dn 3 r
noncomputable def cN (r:D):Int:=if kindOf r=("root" : Str)then jh 2 r else jh 5 r
noncomputable def km (r:D):Bool:=decide (kindOf r=("leave" : Str))
theorem iM {r:D}(g:cK r)(h:kindOf r=("leave" : Str)):∃a d b p,∃m:Nat,∃x f,r=row a ("leave" : Str) [.int d,.str b,.str p,.int m,stD x,.int f]/\m∈MS/\mAt r=m/\fO r=x/\cN r=f:=by
 obtain⟨a,k,ay,rfl,d⟩:=g;have hk:k=("leave" : Str):=h;clear h;cases d with
 |leave d b p m hm x f=>exact⟨a,d,b,p,m,x,f,rfl,hm,by unfold mAt;rw[dn,if_neg (by decide +kernel),if_pos rfl];rfl,by unfold fO;rw[dn,if_pos rfl];exact rz rfl,by unfold cN;rw[dn,if_neg (by decide +kernel)];rfl⟩
 |root=>exact absurd hk (by decide +kernel)
 |named=>exact absurd hk (by decide +kernel)
 |chosen=>exact absurd hk (by decide +kernel)
 |heir=>exact absurd hk (by decide +kernel)
 |three k hk'=>rcases hk' with rfl|rfl|rfl<;>exact absurd hk (by decide +kernel)
 |paper k hk'=>rcases hk' with rfl|rfl<;>exact absurd hk (by decide +kernel)
 |copy k hk'=>rcases hk' with rfl|rfl<;>exact absurd hk (by decide +kernel)
theorem Do {a:Int}{k:Str}{ay:List D}(d:Dd k ay)(h:k∈cM):(∃i:Nat,lF eJ (.str k) (.str "stretch")=some (.int i,false)/\ay[i]? = some (stD (fO (row a k ay))))/\(D.str k::ay).getD (4+if k=("leave" : Str)then 1 else 0) .non=stD (fO (row a k ay))/\(4+if k=("leave" : Str)then 1 else 0)<(D.str k::ay).length:=by
 cases d with
 |leave d b p m hm x f=>
  have e:fO (row a ("leave" : Str) [.int d,.str b,.str p,.int m,stD x,.int f])=x:=by unfold fO;rw[dn,if_pos rfl];exact rz rfl
  rw[e,if_pos rfl];exact⟨⟨4,aX (by decide +kernel),rfl⟩,rfl,by simp⟩
 |paper k hk d b m hm x r hf hp=>
  have hl:k≠("leave" : Str):=by rcases hk with rfl|rfl<;>decide +kernel
  have e:fO (row a k (.int d::.str b::.int m::stD x::r))=x:=by unfold fO;rw[dn,if_neg hl];exact rz rfl
  rw[e,if_neg hl];exact⟨⟨3,by rcases hk with rfl|rfl<;>exact aX (by decide +kernel),rfl⟩,rfl,by simp⟩
 |root=>exact absurd h (by decide +kernel)
 |named=>exact absurd h (by decide +kernel)
 |chosen=>exact absurd h (by decide +kernel)
 |heir=>exact absurd h (by decide +kernel)
 |three k hk'=>rcases hk' with rfl|rfl|rfl<;>exact absurd h (by decide +kernel)
 |copy k hk'=>rcases hk' with rfl|rfl<;>exact absurd h (by decide +kernel)
theorem xQ {r:D}(g:cK r)(h:kindOf r∈cM):aj [r,.str "stretch"]=some (stD (fO r),false):=by
 obtain⟨a,k,ay,rfl,d⟩:=g;obtain⟨⟨i,h1,h2⟩,_⟩:=Do (a:=a) d h;exact ba h1 h2
theorem r0 {r:D}(h:kindOf r=("leave" : Str)):kindOf r∈cM:=by rw[h];decide +kernel
theorem Ec {r:D}(g:cK r)(h:aW r=true∨kindOf r=("leave" : Str)):aj [r,.str "further"]=some (.int (cN r),false):=by
 rcases h with h|h
 ·obtain⟨a,o,rl,m,f,rfl,_,_⟩:=nY g h;rw[show cN (row a ("root" : Str) [.str o,.int m,.int f,.str rl])=f by unfold cN;rw[dn,if_pos rfl];rfl];exact ba (i:=2) (aX (by decide +kernel)) rfl
 ·obtain⟨a,d,b,p,m,x,f,e,_,_,_,ef⟩:=iM g h;rw[ef,e];exact ba (i:=5) (aX (by decide +kernel)) rfl
noncomputable def oe (r v:D):Bool:=decide (mAt v &&& mAt r=mAt r) && !(km r && decide (cN v<=cN r))
theorem uo {r v:D}(gr:cK r)(gv:cK v)(kr:kindOf r∈cM)(kv:aW v=true∨kindOf v=("leave" : Str)):∃d,dB [r,v]=some (d,false)/\dIs d .non=some (.bl (oe r v),false):=by
 have pmv:aj [v,.str "matters"]=some (.int (mAt v),false):=kv.elim (Dm gv) λh=>xN gv (r0 h);have t1:tOf (fA gB (ab (fA aj (ab (ae 1) (ab (fC (.str "matters")) ag))) (ab (fA aj (ab (ae 0) (ab (fC (.str "matters")) ag))) ag))) [some (r,false),some (v,false)]=some (decide (mAt v &&& mAt r=mAt r)):=tkF (cdD [.int (mAt v),.int (mAt r)] (aB (cdD [v,.str "matters"] rfl pmv) (aB (cdD [r,.str "matters"] rfl (xN gr kr)) rfl)) (yX _ _));have t2:tOf (f2 dEq (fA aC (ab (ae 0) ag)) (fC (.str "leave"))) [some (r,false),some (v,false)]=some (km r):=bq (a:=kindOf r) (bb:=false) (cdD [r] rfl (kR gr.c)) rfl;have t3:km r=true->tOf (f2 iGe (fA aj (ab (ae 0) (ab (fC (.str "further")) ag))) (fA aj (ab (ae 1) (ab (fC (.str "further")) ag)))) [some (r,false),some (v,false)]=some (decide (cN v<=cN r)):=λh=>tkF (eoF (.int (cN r)) (.int (cN v)) (cdD [r,.str "further"] rfl (Ec gr (.inr (of_decide_eq_true h)))) (cdD [v,.str "further"] rfl (Ec gv kv)) rfl);have t4:=dc t2 t3;unfold oe;cases hA:decide (mAt v &&& mAt r=mAt r) with
 |false=>exact⟨.str "matters",aw rfl (bK (bP (p:=false) (t1.trans (by rw[hA]))) (a8 rfl)),rfl⟩
 |true=>
  cases hB:(km r && decide (cN v<=cN r)) with
  |true=>exact⟨.str "further",aw rfl (aA (bP (p:=true) (t1.trans (by rw[hA]))) (bK (t4.trans (by rw[hB])) (a8 rfl))),rfl⟩
  |false=>exact⟨.non,aw rfl (aA (bP (p:=true) (t1.trans (by rw[hA]))) (aA (t4.trans (by rw[hB])) (a8 rfl))),rfl⟩
theorem jy {k:Str}(h:k∈cM):k∈rq:=by
 have:∀k∈cM,k∈rq:=by decide +kernel
 exact this k h
theorem ga {r:D}(h:kindOf r∈cM):aW r=false:=by
 have:∀k∈cM,decide (k=("root" : Str))=false:=by decide +kernel
 exact this _ h
theorem r6 {r:D}(g:cK r)(h:aW r=false):aH [r]=some (.int (aG r),false):=by
 have:=tX g.c;unfold tW at this;rwa [h,if_neg (by decide)]at this
noncomputable def iN (cs:List Cl)(r v:D):Bool:=fj cs (ax 0 v) (ax 3 v) (eB r) (aG r) && oe r v
theorem Dp (cs:List Cl)(hcs:cs.length<=60){r v:D}(gr:cK r)(gv:cK v)(kr:kindOf r∈cM)(hv:aW v=true):∃d,dI [.lst (cs.map clD),r,v]=some (d,false)/\dIs d .non=some (.bl (iN cs r v),false):=by
 obtain⟨d,e1,e2⟩:=uo gr gv kr (.inl hv);have t1:tOf (fA ci (ab (ae 0) (ab (ae 2) (ab (fA aj (ab (ae 1) (ab (fC (.str "by")) ag))) (ab (fA aH (ab (ae 1) ag)) ag))))) [some (.lst (cs.map clD),false),some (r,false),some (v,false)]=some (fj cs (ax 0 v) (ax 3 v) (eB r) (aG r)):=by
  refine tkF (cdD [.lst (cs.map clD),v,.str (eB r),.int (aG r)] (acF rfl (acF rfl (aB (cdD [r,.str "by"] rfl (Eb gr (jx (.inl (jy kr))))) (aB (cdD [r] rfl (r6 gr (ga kr))) rfl)))) ?_);obtain⟨a,o,rl,m,f,rfl,_,_⟩:=nY gv hv;exact xG cs hcs _ _
 unfold iN;cases hA:fj cs (ax 0 v) (ax 3 v) (eB r) (aG r) with
 |false=>exact⟨.str "holder",aw rfl (bK (bP (p:=false) (t1.trans (by rw[hA]))) (a8 rfl)),rfl⟩
 |true=>exact⟨d,aw rfl (aA (bP (p:=true) (t1.trans (by rw[hA]))) (a8 (cdD [r,v] rfl e1))),e2⟩
noncomputable def oB (cs:List Cl)(r v:D):Int:=match dh cs (ax 0 v) (ax 3 v) (aG r) with
 |.tup [_,_,.int n]=>n
 |_=>0
theorem Bn {cs:List Cl}{o rl p:Str}{day:Int}(h:fj cs o rl p day=true):∃n:Int,dh cs o rl day=.tup [.str "one",.str p,.int n]:=by
 unfold fj dh at h;unfold dh;generalize alL cs o day=al at h ⊢;cases al with
 |nil=>
  have h:eqD (.tup [.str "none"]) (.tup [.str "one",.str p])=true:=h;simp[cB]at h
 |cons b r=>
  rw[l7]at h ⊢;split at h
  ·have h:eqD (.tup [.str "parted",.lst ((jv (b::r)).map .str)]) (.tup [.str "one",.str p])=true:=h;simp[cB]at h
  ·rename_i hn;rw[if_neg hn];have h:eqD (.tup [.str "one",.str (fM rl b r).p]) (.tup [.str "one",.str p])=true:=h;have h:(fM rl b r).p=p:=by simpa [cB]using h
   exact⟨_,by rw[h]⟩
theorem xR {cs:List Cl}{r v:D}(h:fj cs (ax 0 v) (ax 3 v) (eB r) (aG r)=true):dh cs (ax 0 v) (ax 3 v) (aG r)=.tup [.str "one",.str (eB r),.int (oB cs r v)]:=by
 obtain⟨n,e⟩:=Bn h;unfold oB;rw[e]
noncomputable def za (cs:List Cl)(r v:D):D:=.tup [.str "office",.str (ax 0 v),.int (oB cs r v)]
theorem oh {rows:List D}(g:∀r∈rows,cK r){known:Int}{v:D}(hv:v∈bM (am rows known)):cK v/\aW v=true:=by
 obtain⟨x,hx,rfl⟩:=List.mem_map.mp hv;obtain⟨h1,h2⟩:=List.mem_filter.mp hx;exact⟨g _ (List.mem_of_getElem? (bz h1)),h2⟩
theorem Bo {rows:List D}(hl:rows.length<=60)(known:Int):(bM (am rows known)).length<=60:=by
 unfold bM;rw[List.length_map];exact Nat.le_trans (List.length_filter_le _ _) (Nat.le_trans (cY rows known) hl)
theorem zb {rows:List D}(g:∀r∈rows,cK r)(hl:rows.length<=60)(known:Int)(hn:((bM (am rows known)).map (ax 0)).Nodup)(cs:List Cl)(hcs:cs.length<=60){ri:Nat}{r:D}(hr:rows[ri]? = some r)(kr:kindOf r∈cM):
  dJ [.tup rows,.int known,.lst (cs.map clD),.int ri]=some (.lst (((bM (am rows known)).filter (iN cs r)).map (za cs r)),true):=by
 have gC:fg rows:=⟨hl,λr hr=>(g r hr).c⟩;have gr:=g r (List.mem_of_getElem? hr);have hrl:=Bo hl known;have h1:=g8 (fi:=vL (fA dr (ab (ae 0) (ab (ae 1) ag)))) (nT:=1) (cap:=[2,4]) (tg:=tgN 0) (c:=tOf (f2 dIs (fA dI (ab (ae 1) (ab (ae 2) (ab (ae 0) ag)))) (fC .non))) (fe:=ae 0)
  (ρ:=[some (.tup rows,false),some (.int known,false),some (.lst (cs.map clD),false),some (.int ri,false),some (r,false),none]) (bM (am rows known)) id (iN cs r) id
  (by show(fA dr _ _).bind _=_;rw[cdD [.tup rows,.int known] rfl (nO gC known),nZ hn];simp) (by omega) λv hv=>by
   obtain⟨gv,hv2⟩:=oh g hv;obtain⟨d,e1,e2⟩:=Dp cs hcs gr gv kr hv2;exact⟨[some (v,false),some (.lst (cs.map clD),false),some (r,false)],rfl,tkF (eoF d .non (cdD [.lst (cs.map clD),r,v] rfl e1) rfl e2),λ_=>⟨false,rfl⟩⟩
 rw[List.map_id]at h1;have hfl:bg ((bM (am rows known)).filter (iN cs r))=true:=bO λv hv=>(oh g (List.mem_filter.mp hv).1).1.flat;refine aw rfl (rfF r (eoF (.tup rows) (.int ri) rfl rfl (by simp[cF hr])) gr.flat (bX h1 hfl (a8 ?_)));refine pJ (fi:=cw (ae 5)) (nT:=1) (cap:=[2,4]) (tg:=tgN 0) (fe:=fA aL (ab (fC (.str "office")) (ab (fA aj (ab (ae 0) (ab (fC (.str "office")) ag))) (ab (f2 ixD (fA bL (ab (ae 1) (ab (ae 0) (ab (fA aH (ab (ae 2) ag)) ag)))) (fC (.int 2))) ag))))
  (ρ:=[some (.tup rows,false),some (.int known,false),some (.lst (cs.map clD),false),some (.int ri,false),some (r,false),some (.lst ((bM (am rows known)).filter (iN cs r)),true)]) ((bM (am rows known)).filter (iN cs r)) id (za cs r) (by simp) (Nat.le_trans (List.length_filter_le _ _) (by omega)) λv hv=>?_
 obtain⟨hv1,hv3⟩:=List.mem_filter.mp hv;obtain⟨gv,hv2⟩:=oh g hv1;have hv4:(fj cs (ax 0 v) (ax 3 v) (eB r) (aG r) && oe r v)=true:=hv3;rw[Bool.and_eq_true]at hv4;have hh:=xR hv4.1;refine⟨[some (v,false),some (.lst (cs.map clD),false),some (r,false)],rfl,false,?_⟩;obtain⟨a,o,rl,m,f,rfl,_,_⟩:=nY gv hv2;refine cdD [.str "office",.str o,.int (oB cs r _)] (acF rfl (aB (cdD [row a ("root" : Str) [.str o,.int m,.int f,.str rl],.str "office"] rfl iK) (acF (eoF (dh cs o rl (aG r)) (.int 2) (cdD [.lst (cs.map clD),row a ("root" : Str) [.str o,.int m,.int f,.str rl],.int (aG r)] (acF rfl (acF rfl (aB (cdD [r] rfl (r6 gr (ga kr))) rfl))) (hV cs hcs _)) rfl ?_) rfl))) (bF _ (by simp));have hh:dh cs o rl (aG r)=_:=hh;rw[hh];simp[at2]
noncomputable def Bp (day:Int)(x:Int×Option Int):Bool:=decide (x.1<=day) && (match x.2 with|none=>true|some u=>decide (day<u))
noncomputable def Hl:Option Int->Option Int->Bool
 |_,none=>true
 |none,some _=>false
 |some x,some y=>decide (x<=y)
theorem Dq (a b:Option Int):eM [uD a,uD b]=some (.bl (Hl a b),false):=by
 cases b with
 |none=>exact aw rfl (bK (tkF (by simp[uD])) (a8 (by cases a<;>rfl)))
 |some y=>
  refine aw rfl (aA (tkF (by simp[uD])) (a8 ?_));cases a with
  |none=>exact fJ (p:=false) (q:=false) (b1:=false) (by simp[uD]) (by simp)
  |some x=>exact fJ (p:=true) (q:=decide (x<=y)) (b1:=false) (by simp[uD]) λ_=>by simp[uD]
noncomputable def Dr (a b:Int×Option Int):Bool:=decide (b.1<=a.1) && Hl a.2 b.2
theorem F8 (a b:Int×Option Int):eX [stD a,stD b]=some (.bl (Dr a b),false) :=
 aw rfl (a8 (fJ (b1:=false) (by simp[stD,at0]) λ_=>cdD [uD a.2,uD b.2] (acF (by simp[stD,at1]) (acF (by simp[stD,at1]) rfl)) (Dq _ _)))
theorem Ed {rows:List D}{i:Nat}{r:D}(hr:rows[i]? = some r)(g:cK r)(h:aW r=false):cE [.tup rows,.int i]=some (.tup [.int (aG r),.int i],false) :=
 aw rfl (a8 (cdD [.int (aG r),.int i] (acF (cdD [r] (by simp[cF hr]) (r6 g h)) rfl) (by simp[sizeLine])))
theorem Ie (a b c d:Int):tLt (.tup [.int a,.int b]) (.tup [.int c,.int d])=some (.bl (decide (a<c∨(a=c/\b<d))),false):=by
 show(aJ [.i a,.i b] [.i c,.i d]).map _=_;rw[F6];rfl
theorem Bq {rows:List D}{i j:Nat}{x y:D}(hx:rows[i]? = some x)(hy:rows[j]? = some y)(gx:cK x)(gy:cK y)(nx:aW x=false)(ny:aW y=false):d6 [.tup rows,.int i,.int j]=some (.bl (eZ (x,i) (y,j)),false) :=
 aw rfl (a8 (eoF (.tup [.int (aG x),.int i]) (.tup [.int (aG y),.int j]) (cdD [.tup rows,.int i] rfl (Ed hx gx nx)) (cdD [.tup rows,.int j] rfl (Ed hy gy ny)) (Ie _ _ _ _)))
noncomputable def vY (r:D)(ri:Nat)(x:D×Nat):Bool:=eZ x (r,ri) && ((Bp (aG r) (fO x.1) && Dr (fO r) (fO x.1)) && oe r x.1)
theorem Ds {rows:List D}{ri li:Nat}{r l:D}(hr:rows[ri]? = some r)(hl:rows[li]? = some l)(gr:cK r)(gl:cK l)(kr:kindOf r∈cM)(kl:kindOf l=("leave" : Str)):∃d,eY [.tup rows,.int ri,.int li]=some (d,false)/\dIs d .non=some (.bl (vY r ri (l,li)),false):=by
 have nr:=ga kr;have nl:=ga (r0 kl);obtain⟨d,e1,e2⟩:=uo gr gl kr (.inr kl);let E:DL.Env:=[some (.tup rows,false),some (.int ri,false),some (.int li,false),some (r,false),some (stD (fO l),false)];have al:∀ρ:DL.Env,ρ[0]? = some (some (.tup rows,false))->ρ[2]? = some (some (.int li,false))->f2 ixD (ae 0) (ae 2) ρ=some (l,false):=λρ h0 h2=>eoF (.tup rows) (.int li) (by simp[h0]) (by simp[h2]) (by simp[cF hl]);have t1:tOf (fA d6 (ab (ae 0) (ab (ae 2) (ab (ae 1) ag)))) E=some (eZ (l,li) (r,ri)):=tkF (cdD [.tup rows,.int li,.int ri] rfl (Bq hl hr gl gr nl nr));have t2:tOf (fA dY (ab (fA aH (ab (ae 3) ag)) (ab (ae 4) ag))) E=some (Bp (aG r) (fO l)):=tkF (cdD [.int (aG r),stD (fO l)] (aB (cdD [r] rfl (r6 gr nr)) (acF rfl rfl)) (xE _ _ _));have t3:tOf (fA eX (ab (fA aj (ab (ae 3) (ab (fC (.str "stretch")) ag))) (ab (ae 4) ag))) E=some (Dr (fO r) (fO l)):=tkF (cdD [stD (fO r),stD (fO l)] (aB (cdD [r,.str "stretch"] rfl (xQ gr kr)) (acF rfl rfl)) (F8 _ _));have t4:=cD (bP t2) λ_=>bP t3;have go:∀(h:FS)(res:Option Res),h E=res->a9 (aP 3 (f2 ixD (ae 0) (ae 1))) (a9 (aP 4 (fA aj (ab (f2 ixD (ae 0) (ae 2)) (ab (fC (.str "stretch")) ag)))) h) [some (.tup rows,false),some (.int ri,false),some (.int li,false),none,none]=res:=λh res k=>
  rfF r (eoF (.tup rows) (.int ri) rfl rfl (by simp[cF hr])) gr.flat (rfF (stD (fO l)) (cdD [l,.str "stretch"] (aB (al _ rfl rfl) rfl) (xQ gl (r0 kl))) (gG _) k)
 unfold vY;cases hA:eZ (l,li) (r,ri) with
 |false=>exact⟨.str "order",aw rfl (go _ _ (bK (bP (p:=false) (t1.trans (by rw[hA]))) (a8 rfl))),rfl⟩
 |true=>
  cases hB:(Bp (aG r) (fO l) && Dr (fO r) (fO l)) with
  |false=>exact⟨.str "days",aw rfl (go _ _ (aA (bP (p:=true) (t1.trans (by rw[hA]))) (bK (t4.trans (by rw[←Bool.not_and,hB];rfl)) (a8 rfl)))),rfl⟩
  |true=>exact⟨d,aw rfl (go _ _ (aA (bP (p:=true) (t1.trans (by rw[hA]))) (aA (t4.trans (by rw[←Bool.not_and,hB];rfl)) (a8 (cdD [r,l] (acF rfl (aB (al _ rfl rfl) rfl)) e1))))),e2⟩
theorem oi {rows:List D}{known:Int}{i:Nat}{r:D}(hr:rows[i]? = some r)(g:cK r):d5 [.tup rows,.int known,.int i]=some (.bl (decide (b9 r<=known) && km r),false):=by
 have hkn:bV [.tup rows,.int known,.int i]=some (.bl (decide (b9 r<=known)),false):=by
  obtain⟨a,k,ay,rfl,d⟩:=g;exact nE hr known
 exact aw rfl (a8 (fJ (cdD [.tup rows,.int known,.int i] rfl hkn) λ_=>eoF (.str (kindOf r)) (.str "leave") (cdD [r] (acF (eoF (.tup rows) (.int i) rfl rfl (by simp[cF hr])) rfl) (kR g.c)) rfl (by simp[km])))
noncomputable def oj (K:KL)(p:Str):KL:=(K.filter λx=>km x.1).filter λx=>decide (ax 2 x.1=p)
theorem Br {rows:List D}(g:∀r∈rows,cK r){known:Int}{p:Str}{x:D×Nat}(h:x∈oj (am rows known) p):rows[x.2]? = some x.1/\cK x.1/\kindOf x.1=("leave" : Str):=by
 obtain⟨h1,_⟩:=List.mem_filter.mp h;obtain⟨h2,h3⟩:=List.mem_filter.mp h1;exact⟨bz h2,g _ (List.mem_of_getElem? (bz h2)),of_decide_eq_true h3⟩
theorem zc {rows:List D}(g:∀r∈rows,cK r)(hl:rows.length<=60)(known:Int)(p:Str):fX [.tup rows,.int known,.str p]=some (.lst ((oj (am rows known) p).map λx=>.int x.2),true):=by
 have hll:=cY rows known;have h1:=g8 (fi:=cw (fA bQ (ab (ae 0) (ab (ae 1) ag)))) (nT:=1) (cap:=[0,1]) (tg:=tgN 0) (c:=tOf (fA d5 (ab (ae 1) (ab (ae 2) (ab (ae 0) ag))))) (fe:=ae 0)
  (ρ:=[some (.tup rows,false),some (.int known,false),some (.str p,false),none]) (am rows known) (λx=>.int x.2) (λx=>km x.1) (λx=>.int x.2)
  (by show(fA bQ _ _).bind _=_;rw[cdD [.tup rows,.int known] rfl (jW rows (λr hr=>(g r hr).c.rp) (by omega) known)];rfl) (by omega) λx hx=>by
   have hk:decide (b9 x.1<=known)=true:=(List.mem_filter.mp hx).2;have:=oi (known:=known) (bz hx) (g _ (List.mem_of_getElem? (bz hx)));rw[hk,Bool.true_and]at this;exact⟨_,rfl,tkF (cdD [.tup rows,.int known,.int x.2] rfl this),λ_=>⟨false,rfl⟩⟩
 have hfl:bg (((am rows known).filter λx=>km x.1).map λx=>D.int x.2)=true:=bO λd hd=>by obtain⟨x,_,rfl⟩:=List.mem_map.mp hd;rfl
 refine aw rfl (bX h1 hfl (a8 ?_));refine g8 (fi:=cw (ae 3)) (nT:=1) (cap:=[2,0]) (tg:=tgN 0) (c:=tOf (f2 dEq (fA aj (ab (f2 ixD (ae 2) (ae 0)) (ab (fC (.str "person")) ag))) (ae 1))) (fe:=ae 0)
  (ρ:=[some (.tup rows,false),some (.int known,false),some (.str p,false),some (.lst (((am rows known).filter λx=>km x.1).map λx=>.int x.2),true)]) ((am rows known).filter λx=>km x.1) (λx=>.int x.2) (λx=>decide (ax 2 x.1=p)) (λx=>.int x.2) (by simp) (Nat.le_trans (List.length_filter_le _ _) (by omega)) λx hx=>?_
 obtain⟨h2,h3⟩:=List.mem_filter.mp hx;obtain⟨a,d,b,q,m,st,f,e,_⟩:=iM (g _ (List.mem_of_getElem? (bz h2))) (of_decide_eq_true h3);refine⟨[some (.int x.2,false),some (.str p,false),some (.tup rows,false)],rfl,tkF (eoF (.str (ax 2 x.1)) (.str p) (cdD [x.1,.str "person"] (acF (eoF (.tup rows) (.int x.2) rfl rfl (by simp[cF (bz h2)])) rfl) ?_) rfl (by simp)),λ_=>⟨false,rfl⟩⟩;rw[e];exact ba (i:=2) (aX (by decide +kernel)) rfl
theorem zd {rows:List D}(g:∀r∈rows,cK r)(hl:rows.length<=60)(known:Int){ri:Nat}{r:D}(hr:rows[ri]? = some r)(kr:kindOf r∈cM):
  eN [.tup rows,.int known,.int ri]=some (.lst (((oj (am rows known) (eB r)).filter (vY r ri)).map λx=>.tup [.str "leave",.int x.2]),true):=by
 have gr:=g r (List.mem_of_getElem? hr);have hll:=cY rows known;have hlv:(oj (am rows known) (eB r)).length<=60:=Nat.le_trans (List.length_filter_le _ _) (Nat.le_trans (List.length_filter_le _ _) (by omega));have hfl:bg ((oj (am rows known) (eB r)).map λx=>D.int x.2)=true:=bO λd hd=>by obtain⟨x,_,rfl⟩:=List.mem_map.mp hd;rfl
 refine aw rfl (bX (ds:=(oj (am rows known) (eB r)).map λx=>.int x.2) (cdD [.tup rows,.int known,.str (eB r)] (acF rfl (acF rfl (aB (cdD [r,.str "by"] (acF (eoF (.tup rows) (.int ri) rfl rfl (by simp[cF hr])) rfl) (Eb gr (jx (.inl (jy kr))))) rfl))) (zc g hl known _)) hfl (a8 ?_));refine g8 (fi:=cw (ae 3)) (nT:=1) (cap:=[0,2]) (tg:=tgN 0) (c:=tOf (f2 dIs (fA eY (ab (ae 1) (ab (ae 2) (ab (ae 0) ag)))) (fC .non))) (fe:=fA aL (ab (fC (.str "leave")) (ab (ae 0) ag)))
  (ρ:=[some (.tup rows,false),some (.int known,false),some (.int ri,false),some (.lst ((oj (am rows known) (eB r)).map λx=>.int x.2),true)]) (oj (am rows known) (eB r)) (λx=>.int x.2) (vY r ri) (λx=>.tup [.str "leave",.int x.2]) (by simp) (by omega) λx hx=>?_
 obtain⟨h1,h2,h3⟩:=Br g hx;obtain⟨d,e1,e2⟩:=Ds hr h1 gr h2 kr h3;exact⟨[some (.int x.2,false),some (.tup rows,false),some (.int ri,false)],rfl,tkF (eoF d .non (cdD [.tup rows,.int ri,.int x.2] rfl e1) rfl e2),λ_=>⟨false,cdD [.str "leave",.int x.2] rfl (bF _ (by simp))⟩⟩
abbrev Bs:=Option Str×Int
noncomputable def bsD:Bs->D
 | (some o,n)=>.tup [.str "office",.str o,.int n]
 | (none,n)=>.tup [.str "leave",.int n]
noncomputable def bsK:Bs->List At
 | (some o,n)=>[.i n,.s ("office" : Str),.s o,.i n]
 | (none,n)=>[.i n,.s ("leave" : Str),.i n]
theorem uq (b:Bs):bc (bsD b)=true:=by rcases b with⟨_|o,n⟩<;>rfl
theorem ze (b:Bs):ai 39 (bsD b)=true:=by rcases b with⟨_|o,n⟩<;>simp[bsD]
theorem xS (b:Bs):ixD (bsD b) (.int (-1))=some (.int b.2,false):=by rcases b with⟨_|o,n⟩<;>rfl
theorem Bt (a b:Bs):(aJ (bsK a) (bsK b)).isSome=true:=by
 have hol:("office" : Str)≠("leave" : Str):=by decide +kernel
 rcases a with⟨_|o,n⟩<;>rcases b with⟨_|o',n'⟩
 ·show(aJ [.i n,.s ("leave" : Str),.i n] [.i n',.s ("leave" : Str),.i n']).isSome=true;rw[aJ];split
  ·rw[aJ,if_pos rfl,aJ];split
   ·rw[aJ];rfl
   ·rfl
  ·rfl
 ·show(aJ [.i n,.s ("leave" : Str),.i n] [.i n',.s ("office" : Str),.s o',.i n']).isSome=true;rw[aJ];split
  ·rw[aJ,if_neg (Ne.symm hol)];rfl
  ·rfl
 ·show(aJ [.i n,.s ("office" : Str),.s o,.i n] [.i n',.s ("leave" : Str),.i n']).isSome=true;rw[aJ];split
  ·rw[aJ,if_neg hol];rfl
  ·rfl
 ·show(aJ [.i n,.s ("office" : Str),.s o,.i n] [.i n',.s ("office" : Str),.s o',.i n']).isSome=true;rw[aJ];split
  ·rw[aJ,if_pos rfl,aJ];split
   ·rw[aJ];split
    ·rw[aJ];rfl
    ·rfl
   ·rfl
  ·rfl
theorem Dt {a b:Bs}(h:bsK a=bsK b):a=b:=by
 rcases a with⟨_|o,n⟩<;>rcases b with⟨_|o',n'⟩<;>simp[bsK]at h
 ·rw[h]
 ·rw[h.1,h.2.1]
theorem xT (l:List Bs):cy (l.map bsK)=true:=by
 unfold cy;simp[List.all_eq_true,Bt]
theorem vZ {a b:Bs}(e:bH (bsK a)=bH (bsK b)):a=b:=Dt (iR (xT [a,b]) (by simp) (by simp) e)
noncomputable def toB (cs:List Cl)(r v:D):Bs:=(some (ax 0 v),oB cs r v)
noncomputable def oC (K:KL)(cs:List Cl)(r:D)(ri:Nat):List Bs:=((bM K).filter (iN cs r)).map (toB cs r)++((oj K (eB r)).filter (vY r ri)).map λx=>(none,(x.2:Int))
noncomputable def zf (K:KL)(cs:List Cl)(r:D)(ri:Nat):List Bs:=cH (λb=>bH (bsK b)) (oC K cs r ri)
theorem zg {rows:List D}{known:Int}(hn:((bM (am rows known)).map (ax 0)).Nodup)(cs:List Cl)(r:D)(ri:Nat):(oC (am rows known) cs r ri).Nodup:=by
 unfold oC;rw[List.nodup_append];refine⟨?_,?_,?_⟩
 ·exact List.pairwise_map.mpr ((List.Pairwise.sublist List.filter_sublist (List.pairwise_map.mp hn)).imp λh e=>h (Option.some.inj (Prod.mk.inj e).1))
 ·refine List.pairwise_map.mpr ((List.Pairwise.sublist (List.filter_sublist.trans (List.filter_sublist.trans List.filter_sublist)) (List.pairwise_map.mp (hU rows known))).imp λh e=>h ?_);have:=(Prod.mk.inj e).2;omega
 ·intro a ha b hb e;obtain⟨v,_,rfl⟩:=List.mem_map.mp ha;obtain⟨x,_,rfl⟩:=List.mem_map.mp hb;cases (Prod.mk.inj e).1
theorem qe {α:Type}{g:α->D}{h:α->List At}:∀(l:List α),(∀x∈l,F4 (g x)=some (h x))->gw (l.map g)=some (l.map h)
 |[],_=>rfl
 |x::l,k=>by
  rw[List.map_cons,gw,k x mX,Option.bind_some,qe l λy hy=>k y (mZ _ hy)];rfl
theorem xU {rows:List D}(hl:rows.length<=30)(known:Int)(cs:List Cl)(r:D)(ri:Nat):(oC (am rows known) cs r ri).length<=60:=by
 have h1:((bM (am rows known)).filter (iN cs r)).length<=30:=by
  refine Nat.le_trans (List.length_filter_le _ _) ?_;unfold bM;rw[List.length_map];exact Nat.le_trans (List.length_filter_le _ _) (Nat.le_trans (cY rows known) hl)
 have h2:((oj (am rows known) (eB r)).filter (vY r ri)).length<=30:=Nat.le_trans (List.length_filter_le _ _) (Nat.le_trans (List.length_filter_le _ _) (Nat.le_trans (List.length_filter_le _ _) (Nat.le_trans (cY rows known) hl)));unfold oC;rw[List.length_append,List.length_map,List.length_map];omega
theorem Bu {f:FE}{ρ:DL.Env}{b:Bool}(l:List Bs)(hl:l.length<=60)(hn:l.Nodup)(e:f ρ=some (.lst (l.map bsD),b)):vM f (mC [] (fA aL (ab (f2 ixD (ae 0) (f1 ma (fC (.int 1)))) (ab (ae 0) ag)))) ρ=some (.lst ((cH (λb=>bH (bsK b)) l).map bsD),true):=by
 have hm:gO (mC [] (fA aL (ab (f2 ixD (ae 0) (f1 ma (fC (.int 1)))) (ab (ae 0) ag))) ρ) (l.map bsD)=some (l.map λb=>.tup [.int b.2,bsD b]):=fK l λb _=>by
  show(fA aL _ _).map _=_;rw[cdD [.int b.2,bsD b] (acF (eoF (bsD b) (.int (-1)) rfl rfl (xS b)) (acF rfl rfl)) (bF _ (by simp))];rfl
 have hk:gw (l.map λb=>D.tup [.int b.2,bsD b])=some (l.map bsK):=qe l λb _=>by rcases b with⟨_|o,n⟩<;>rfl
 have hcond:(l.map bsK).length<64/\cy (l.map bsK)=true/\True/\((l.map bsK).map bH).Nodup:=by
  refine⟨by rw[List.length_map];omega,xT l,trivial,?_⟩;rw[List.map_map];exact List.pairwise_map.mpr (List.Pairwise.imp (λh e=>h (vZ e)) hn)
 unfold vM qR;rw[e];simp only[Option.bind_some];rw[hm];simp only[Option.bind_some];rw[hk];simp only[Option.bind_some];rw[if_pos hcond];unfold gu;have key:((cH (λb=>bH (bsK b)) l).map λb=>(bsK b,bsD b))=cH (λp:List At×D=>bH p.1) (l.map λb=>(bsK b,bsD b)):=by
  refine gs _ (λx hx y hy e=>?_) ((bv _ _).map _) ?_
  ·obtain⟨a,_,rfl⟩:=List.mem_map.mp hx;obtain⟨b,_,rfl⟩:=List.mem_map.mp hy;rw[vZ e]
  ·exact List.pairwise_map.mpr (dz _ _)
 rw[List.zip_map',←key,List.map_map];rfl
section
variable {rows:List D}(g:∀r∈rows,cK r) (hl:rows.length<=30) (known:Int) (hn:((bM (am rows known)).map (ax 0)).Nodup)
include g hl hn
theorem ur (cs:List Cl)(hcs:cs.length<=60){ri:Nat}{r:D}(hr:rows[ri]? = some r)(kr:kindOf r∈cM)(hk:b9 r<=known):gX [.tup rows,.int known,.lst (cs.map clD),.int ri]=some (.lst ((zf (am rows known) cs r ri).map bsD),true):=by
 have gr:=g r (List.mem_of_getElem? hr);have wd:∀(ρ:DL.Env)(j:Nat),ρ[0]? = some (some (.tup rows,false))->ρ[j]? = some (some (.int ri,false))->fA aC (ab (f2 ixD (ae 0) (ae j)) ag) ρ=some (.str (kindOf r),false):=λρ j h0 h2=>cdD [r] (acF (eoF (.tup rows) (.int ri) (by simp[h0]) (by simp[h2]) (by simp[cF hr])) rfl) (kR gr.c);have hkn:bV [.tup rows,.int known,.int ri]=some (.bl true,false):=by
  obtain⟨a,k,ay,rfl,d⟩:=id gr;rw[nE hr known,decide_eq_true (show a<=known from hk)]
 have hpp:dZ [.tup rows,.int known,.int ri]=some (.bl (decide (kindOf r∈[("paper" : Str),("like" : Str),("copy" : Str)])),false):=aw rfl (a8 (fJ (p:=true) (cdD [.tup rows,.int known,.int ri] rfl hkn) λ_=>eoF (.str (kindOf r)) (.tup ([("paper" : Str),("like" : Str),("copy" : Str)].map .str)) (wd _ 2 rfl rfl) rfl (iJ _ _)));have hb:gV [.tup rows,.int known,.int ri]=some (.bl true,false):=by
  refine(aw rfl (a8 (AO (cdD [.tup rows,.int known,.int ri] rfl (oi hr gr)) λ_=>cdD [.tup rows,.int known,.int ri] rfl hpp))).trans ?_;rw[decide_eq_true hk,Bool.true_and];have:∀k∈cM,(decide (k=("leave" : Str)) || decide (k∈[("paper" : Str),("like" : Str),("copy" : Str)]))=true:=by decide +kernel
  unfold km;rw[this _ kr]
 have hnc:decide (kindOf r=("copy" : Str))=false:=by
  have:∀k∈cM,decide (k=("copy" : Str))=false:=by decide +kernel
  exact this _ kr
 have hbl:=xU hl known cs r ri;have hfl:bg ((oC (am rows known) cs r ri).map bsD)=true:=bO λd hd=>by obtain⟨b,_,rfl⟩:=List.mem_map.mp hd;exact uq b
 refine aw rfl (aA (bP (p:=true) (tkF (cdD [.tup rows,.int known,.int ri] rfl hb))) (aA (bq (a:=kindOf r) (bb:=false) (wd _ 3 rfl rfl) hnc) (bX (ds:=(oC (am rows known) cs r ri).map bsD) ?_ hfl (a8 (Bu (b:=false) _ hbl (zg hn cs r ri) rfl)))));have ho:=zb g (by omega) known hn cs hcs hr kr;have hv:=zd g (by omega) known hr kr;refine gh (x:=.lst (((bM (am rows known)).filter (iN cs r)).map (za cs r))) (y:=.lst (((oj (am rows known) (eB r)).filter (vY r ri)).map λx=>.tup [.str "leave",.int x.2])) (b1:=true) (b2:=true) (cdD [.tup rows,.int known,.lst (cs.map clD),.int ri] rfl ho) (cdD [.tup rows,.int known,.int ri] rfl hv) ?_;have hbl':=hbl;unfold oC at hbl' ⊢;rw[List.length_append,List.length_map,List.length_map]at hbl';refine(if_pos (cS (by rw[List.length_map,List.length_map];omega))).trans ?_;rw[List.map_append,List.map_map,List.map_map];rfl
theorem Bv (ho:(eE (am rows known)).length<=60){ri:Nat}{r:D}(hr:rows[ri]? = some r)(kr:kindOf r∈cM)(hk:b9 r<=known):lQ [.tup rows,.int known,.int ri]=some (.lst ((zf (am rows known) (cL (am rows known)) r ri).map bsD),true):=by
 obtain⟨ec,hcl⟩:=qc (rows:=rows) ⟨by omega,λr hr=>(g r hr).c⟩ known ho;exact aw rfl (a8 (cdD [.tup rows,.int known,.lst ((cL (am rows known)).map clD),.int ri] (acF rfl (acF rfl (aB (cdD [.tup rows,.int known] rfl ec) (acF rfl rfl)))) (ur g hl known hn _ hcl hr kr hk)))
end
theorem F9 {i:Nat}{f:FE}{ρ:DL.Env}{d:D}{b:Bool}{h:FS}{r:Option Res}(e:f (lY ρ)=some (d,b))(k:h (ρ.set i (some (d,false)))=r):a9 (rX i f) h ρ=r:=dj (ρ':=ρ.set i (some (d,false))) (by simp only[rX,e,Option.map_some]) k
noncomputable def pD (cs:List Cl)(r v:D):D:=.tup [.int (oB cs r v),.str (ax 0 v)]
noncomputable def pK (cs:List Cl)(r v:D):List At:=[.i (oB cs r v),.s (ax 0 v)]
theorem ut {α β:Type}(g:α->β)(f:β->List Int)(x:α):∀l:List α,kF f (g x) (l.map g)=(kF (λa=>f (g a)) x l).map g
 |[]=>rfl
 |y::r=>by
  rw[List.map_cons,kF,kF];split
  ·rw[List.map_cons,ut g f x r]
  ·rfl
theorem qg {α β:Type}(g:α->β)(f:β->List Int):∀l:List α,cH f (l.map g)=(cH (λa=>f (g a)) l).map g
 |[]=>rfl
 |x::l=>by
  show kF f (g x) (cH f (l.map g))=(kF (λa=>f (g a)) x (cH (λa=>f (g a)) l)).map g;rw[qg g f l,ut]
theorem Bw (m n:Int)(xs ys:List At):aJ (.i m::xs) (.i n::ys)=if m=n then aJ xs ys else some (decide (m<n)):=by rw[aJ]
theorem By (a b:Str)(xs ys:List At):aJ (.s a::xs) (.s b::ys)=if a=b then aJ xs ys else some (decide (a.cps.toList<b.cps.toList)):=by rw[aJ]
theorem Hm (a b:Str)(m n:Int):aJ [.i m,.s ("office" : Str),.s a,.i m] [.i n,.s ("office" : Str),.s b,.i n]=aJ [.i m,.s a] [.i n,.s b]:=by
 rw[Bw,Bw,By,if_pos rfl,By,By,Bw];by_cases h:m=n
 ·rw[if_pos h,if_pos h,if_pos h]
 ·rw[if_neg h,if_neg h]
theorem xV (cs:List Cl)(r u v:D):(aJ (pK cs r u) (pK cs r v)).isSome=true:=by
 unfold pK;rw[aJ];split
 ·rw[aJ];split
  ·rw[aJ];rfl
  ·rfl
 ·rfl
theorem FB (cs:List Cl)(r u v:D):bH (bsK (toB cs r u))<bH (bsK (toB cs r v))↔bH (pK cs r u)<bH (pK cs r v):=by
 obtain⟨b,e⟩:=Option.isSome_iff_exists.mp (xV cs r u v);have e2:aJ (bsK (toB cs r u)) (bsK (toB cs r v))=some b:=(Hm _ _ _ _).trans e;have h1:=jF _ _ _ e;have h2:=jF _ _ _ e2;rw[h1]at h2;exact(decide_eq_decide.mp h2).symm
theorem Bz (cs:List Cl)(r:D)(L:List D)(hL:L.length<=60):eI [.lst (L.map (pD cs r))]=some (.lst ((cH (λv=>bH (pK cs r v)) L).map (pD cs r)),true):=by
 cases L with
 |nil=>rfl
 |cons v L=>
  have h1:eQ ((v::L).map (pD cs r))=none:=rfl;have h2:m6 ((v::L).map (pD cs r))=none:=rfl;have h3:cA ((v::L).map (pD cs r))=some ((v::L).map (pK cs r)):=eA _ λx _=>rfl;unfold eI;simp only[h1,h2,h3];rw[if_pos]
  ·rw[qg];rfl
  ·refine⟨by rw[List.length_map];omega,?_,?_⟩
   ·unfold cy;simp only[List.all_eq_true];intro x hx y hy;obtain⟨a,_,rfl⟩:=List.mem_map.mp hx;obtain⟨b,_,rfl⟩:=List.mem_map.mp hy;exact xV cs r a b
   ·unfold cz;rw[Bool.or_eq_true];left;rw[List.all_eq_true];intro x hx;obtain⟨a,_,rfl⟩:=List.mem_map.mp hx;rfl
theorem uu (rows:List D)(known:Int):bM (am rows known)=rows.filter λv=>aW v && decide (b9 v<=known):=by
 unfold bM am;rw[List.filter_filter];have:∀(l:List (D×Nat))(q:D->Bool),(l.filter λx=>q x.1).map (·.1)=(l.map (·.1)).filter q:=λl q=>by rw[List.filter_map];rfl
 refine(this rows.zipIdx λv=>aW v && decide (b9 v<=known)).trans ?_;rw[List.zipIdx_map_fst]
noncomputable def wa (K:KL)(cs:List Cl)(r:D):List D:=cH (λv=>bH (pK cs r v)) ((bM K).filter (iN cs r))
theorem B1 {rows:List D}{known:Int}(cs:List Cl)(r:D)(ri:Nat):((zf (am rows known) cs r ri).filter λb=>b.1.isSome)=(wa (am rows known) cs r).map (toB cs r):=by
 refine kH (λb=>bH (bsK b)) _ _ (λx _ y _ e=>vZ e) ?_ (List.Pairwise.filter _ (dz _ _)) (List.pairwise_map.mpr ((dz _ _).imp λ{a b} h z=>h ((FB cs r b a).mp z)));refine((bv _ _).filter _).trans ?_;have e:((oC (am rows known) cs r ri).filter λb=>b.1.isSome)=((bM (am rows known)).filter (iN cs r)).map (toB cs r):=by
  unfold oC;have h1:∀l:List D,((l.map (toB cs r)).filter λb=>b.1.isSome)=l.map (toB cs r):=λl=>List.filter_eq_self.mpr λb hb=>by
   obtain⟨v,_,rfl⟩:=List.mem_map.mp hb;rfl
  have h2:∀l:KL,((l.map λx=>((none,(x.2:Int)):Bs)).filter λb=>b.1.isSome)=[]:=λl=>List.filter_eq_nil_iff.mpr λb hb=>by
   obtain⟨x,_,rfl⟩:=List.mem_map.mp hb;simp
  rw[List.filter_append,h1,h2,List.append_nil]
 rw[e];exact((bv _ _).map _).symm
section
variable {rows:List D}(g:∀r∈rows,cK r) (hl:rows.length<=30) (known:Int) (ho:(eE (am rows known)).length<=60) (hn:((bM (am rows known)).map (ax 0)).Nodup)
include g hl ho hn
theorem FC {a:Int}{k:Str}{ay:List D}(dk:Dd k ay)(kr:k∈cM):qW [.tup rows,.int known,.tup (.str k::ay)]=some (.lst ((wa (am rows known) (cL (am rows known)) (row a k ay)).map (za (cL (am rows known)) (row a k ay))),true):=by
 have gC:fg rows:=⟨by omega,λr hr=>(g r hr).c⟩;obtain⟨dd,b2,q,er⟩:=xO dk (jx (.inl (jy kr)));obtain⟨hms,_,hmi,hmil⟩:=Bm (a:=a) dk kr;have ebd:eB (row a k ay)=b2/\aG (row a k ay)=dd:=by rw[er];exact⟨rfl,rfl⟩
 have ekr:km (row a k ay)=decide (k=("leave" : Str)):=rfl;have efr:k=("leave" : Str)->ixD (.tup (.str k::ay)) (.int 6)=some (.int (cN (row a k ay)),false):=λh=>by
  obtain⟨a',d',b',p',m',x',f',e',_,_,_,ef⟩:=iM (r:=row a k ay) ⟨_,_,_,rfl,dk⟩ h;unfold row at e';injection e' with e';injection e' with _ e';injection e' with e' _;injection e' with e';injection e' with _ e';rw[ef,e'];rfl
 generalize hR:row a k ay=R at hms hmi ebd ekr efr ⊢;obtain⟨eb,ed⟩:=ebd;generalize hcs:cL (am rows known)=cs;let P:D->Bool:=λv=>iN cs R v && (aW v && decide (b9 v<=known));let E:List D->Option (D×Bool)->Option (D×Bool)->Option (D×Bool)->DL.Env:=λL v4 v5 v6=>[some (.tup rows,false),some (.int known,false),some (.tup (.str k::ay),false),some (.lst (L.map (pD cs R)),true),v4,v5,v6];have em:∀ρ:DL.Env,ρ[2]? = some (some (.tup (.str k::ay),false))->f2 ixD (ae 2) (f2 bC (fC (.int 3)) (fA k9 (ab (f2 dEq (ixV 2 0) (fC (.str "leave"))) ag))) ρ=some (.int (mAt R),false):=λρ h2=>by
  have e0:f2 dEq (ixV 2 0) (fC (.str "leave")) ρ=some (.bl (decide (k=("leave" : Str))),false):=eoF (.str k) (.str "leave") (eoF (.tup (.str k::ay)) (.int 0) (by simp[h2]) rfl (by simp[at0])) rfl (by simp);refine eoF (.tup (.str k::ay)) (.int ((3+if k=("leave" : Str)then 1 else 0:Nat):Int)) (by simp[h2]) (eoF (.int 3) (.int (if k=("leave" : Str)then 1 else 0)) rfl (cdD [.bl (decide (k=("leave" : Str)))] (aB e0 rfl) ?_) ?_) ?_
  ·by_cases hh:k=("leave" : Str)
   ·rw[decide_eq_true hh,if_pos hh];rfl
   ·rw[decide_eq_false hh,if_neg hh];rfl
  ·by_cases hh:k=("leave" : Str)
   ·rw[if_pos hh,if_pos hh];rfl
   ·rw[if_neg hh,if_neg hh];rfl
  ·rw[DL.ql (by omega) (by omega),Int.toNat_natCast,hmi]
 obtain⟨ρ',e,v4,v5,v6,rfl⟩:=gz (tg:=tgT [4,5]) (g:=n0) (λi ρ=>∃v4 v5 v6,ρ=E ((rows.take i).filter P) v4 v5 v6) rows (E [] none none none) ⟨none,none,none,rfl⟩ (by
  rintro i x ρ hx ⟨v4,v5,v6,rfl⟩;have gx:=g x (List.mem_of_getElem? hx);obtain⟨xa,xk,xr,ex,xd⟩:=id gx;have et:(rows.take (i+1)).filter P=(rows.take i).filter P++if P x=true then [x]else []:=by
   rw[List.take_add_one,hx,List.filter_append];show _++List.filter P [x]=_;rw[List.filter_cons];split<;>rfl
  generalize hL:(rows.take i).filter P=L at et;have hLl:L.length<=30:=by rw[←hL];exact Nat.le_trans (List.length_filter_le _ _) (Nat.le_trans (List.length_take_le' _ _) hl)
  have hxa:b9 x=xa:=by rw[ex];rfl
  have hxk:aW x=decide (xk=("root" : Str)):=by rw[ex];rfl
  have c1:∀v6,tOf (f2 dLe (ae 4) (ae 1)) (E L (some (.int xa,false)) (some (.tup (.str xk::xr),false)) v6)=some (decide (xa<=known)):=λv6=>tkF (by simp[E]);have c2:∀v6,tOf (f2 dEq (ixV 5 0) (fC (.str "root"))) (E L (some (.int xa,false)) (some (.tup (.str xk::xr),false)) v6)=some (decide (xk=("root" : Str))):=λv6=>bq (a:=xk) (bb:=false) (eoF (.tup (.str xk::xr)) (.int 0) rfl rfl (by simp[at0])) rfl;have key:∃v6',n0 (E L (some (.int xa,false)) (some (.tup (.str xk::xr),false)) v6)=some (.nx (E (L++if P x=true then [x]else []) (some (.int xa,false)) (some (.tup (.str xk::xr),false)) v6')):=by
   by_cases k1:xa<=known
   ·by_cases k2:xk=("root" : Str)
    ·have hroot:aW x=true:=by rw[hxk,decide_eq_true k2]
     obtain⟨a',o,rl,m,f,ex',hm,emx⟩:=nY gx hroot;have exr:(.str xk::xr:List D)=[.str "root",.str o,.int m,.int f,.str rl]:=by
      rw[ex]at ex';unfold row at ex';injection ex' with ex';injection ex' with _ ex';injection ex' with ex';injection ex' with ex'
     have hxin:x∈bM (am rows known):=List.mem_map.mpr ⟨(x,i),List.mem_filter.mpr ⟨List.mem_filter.mpr ⟨List.mk_mem_zipIdx_iff_getElem?.mpr hx,decide_eq_true (by rw[hxa];exact k1)⟩,hroot⟩,rfl⟩;have so:ax 0 x=o:=by rw[ex'];rfl
     have sr:ax 3 x=rl:=by rw[ex'];rfl
     have sf:cN x=f:=by rw[ex'];unfold cN;rw[dn,if_pos rfl];rfl
     have hh:lR (am rows known) o dd=dh cs o rl dd:=by
      unfold lR;rw[←so,yZ hn hxin];show dh (cL (am rows known)) (ax 0 x) (ax 3 x) dd=_;rw[so,sr,hcs]
     have x5:∀(ρ:DL.Env)(j:Nat)(d:D),ρ[5]? = some (some (.tup (.str xk::xr),false))->[D.str "root",.str o,.int m,.int f,.str rl][j]? = some d->f2 ixD (ae 5) (fC (.int j)) ρ=some (d,false):=λρ j d h5 hj=>eoF (.tup (.str xk::xr)) (.int j) (by simp[h5]) rfl (by rw[exr];simp[cF hj]);have x2:∀(ρ:DL.Env)(j:Nat)(d:D),ρ[2]? = some (some (.tup (.str k::ay),false))->(D.str k::ay)[j]? = some d->f2 ixD (ae 2) (fC (.int j)) ρ=some (d,false):=λρ j d h2 hj=>eoF (.tup (.str k::ay)) (.int j) (by simp[h2]) rfl (by simp[cF hj]);have r1:(D.str k::ay)[1]? = some (.int dd):=by rw[er];rfl
     have r2:(D.str k::ay)[2]? = some (.str b2):=by rw[er];rfl
     have hho:fA iH (ab (ae 0) (ab (ae 1) (ab (ixV 5 1) (ab (ixV 2 1) ag)))) (lY (E L (some (.int xa,false)) (some (.tup (.str xk::xr),false)) v6))=some (dh cs o rl dd,false):=by
      rw[←hh];exact cdD [.tup rows,.int known,.str o,.int dd] (acF rfl (acF rfl (aB (x5 _ 1 _ rfl rfl) (aB (x2 _ 1 _ rfl r1) rfl)))) (yU gC known ho o dd)
     let F:DL.Env:=E L (some (.int xa,false)) (some (.tup (.str xk::xr),false)) (some (dh cs o rl dd,false));obtain⟨ds,ehd,hd5⟩:=pT rl (alL cs o dd);have ehd:dh cs o rl dd=.tup ds:=ehd;have c3:tOf (f2 dEq (fSl (ae 6) sy (pd (fC (.int 2)))) (fA aL (ab (fC (.str "one")) (ab (ixV 2 2) ag)))) F=some (fj cs o rl b2 dd):=by
      refine tkF (eoF (Bb (dh cs o rl dd)) (.tup [.str "one",.str b2]) ?_ (cdD [.str "one",.str b2] (acF rfl (aB (x2 _ 2 _ rfl r2) rfl)) (bF _ (by simp))) ?_)
      ·show fSl (ae 6) _ _ (E L _ _ (some (dh cs o rl dd,false)))=_;rw[ehd];rfl
      ·unfold dEq;rw[if_pos ⟨by rw[ehd];exact kT (ua hd5),by simp[ai]⟩];rfl
     have c4:tOf (fA eu (ab (ixV 5 2) (ab (f2 ixD (ae 2) (f2 bC (fC (.int 3)) (fA k9 (ab (f2 dEq (ixV 2 0) (fC (.str "leave"))) ag)))) ag))) F=some (decide (m &&& mAt R=mAt R)):=tkF (cdD [.int m,.int (mAt R)] (aB (x5 _ 2 _ rfl rfl) (aB (em _ rfl) rfl)) (yY hm hms));have c5:tOf (f2 dNe (ixV 2 0) (fC (.str "leave"))) F=some (!decide (k=("leave" : Str))):=tkF (eoF (.str k) (.str "leave") (x2 _ 0 _ rfl rfl) rfl (by simp));have c6:(!decide (k=("leave" : Str)))=false->tOf (f2 dLt (ixV 2 6) (ixV 5 3)) F=some (decide (cN R<f)):=λh=>tkF (eoF (.int (cN R)) (.int f) (eoF (.tup (.str k::ay)) (.int 6) rfl rfl (efr (by simpa using h))) (x5 _ 3 _ rfl rfl) (by simp));have c34:=dc c3 λ_=>c4;have c56:=cD c5 c6;have hP:P x=((fj cs o rl b2 dd && decide (m &&& mAt R=mAt R)) && (!decide (k=("leave" : Str)) || decide (cN R<f))):=by
      show((fj cs (ax 0 x) (ax 3 x) (eB R) (aG R) && (decide (mAt x &&& mAt R=mAt R) && !(km R && decide (cN x<=cN R)))) && (aW x && decide (b9 x<=known)))=_;rw[so,sr,eb,ed,emx,ekr,sf,hroot,hxa,decide_eq_true k1,Bool.not_and,Bool.and_true,Bool.and_true,Bool.and_assoc];congr 3;rw[show(!decide (f<=cN R))=decide (cN R<f) by rw[←decide_not];congr 1;rw[Int.not_le]]
     rw[hP];refine⟨some (dh cs o rl dd,false),ib (dc (p:=true) (q:=true) ((c1 v6).trans (by rw[decide_eq_true k1])) λ_=>(c2 v6).trans (by rw[decide_eq_true k2])) (F9 hho ?_)⟩;show gIf _ _ _ F=_;cases hA:(fj cs o rl b2 dd && decide (m &&& mAt R=mAt R)) with
     |false=>
      rw[hA]at c34;rw[Bool.false_and,if_neg (by decide),List.append_nil];exact gQ c34 rfl
     |true=>
      rw[hA]at c34;rw[Bool.true_and];refine ib c34 ?_;cases hB:(!decide (k=("leave" : Str)) || decide (cN R<f)) with
      |false=>
       rw[hB]at c56;rw[if_neg (by decide),List.append_nil];exact gQ c56 rfl
      |true=>
       rw[hB]at c56;rw[if_pos rfl];have hhe:fj cs (ax 0 x) (ax 3 x) (eB R) (aG R)=true:=by rw[so,sr,eb,ed];rw[Bool.and_eq_true]at hA;exact hA.1
       have hnum:=xR hhe;rw[so,sr,ed]at hnum;refine ib c56 ((gg (ds:=L.map (pD cs R)) (d:=pD cs R x) (b:=false) rfl (cdD [.int (oB cs R x),.str (ax 0 x)] (acF (eoF (dh cs o rl dd) (.int 2) rfl rfl (by rw[hnum];simp[at2])) (aB (by rw[so];exact x5 _ 1 _ rfl rfl) rfl)) (bF _ (by simp))) rfl (bx (by rw[List.length_map];omega))).trans ?_);show _=some (Res.nx (E (L++[x]) _ _ _));simp[E,F]
    ·have hP:P x=false:=by
      show(_ && (aW x && _))=false;rw[hxk,decide_eq_false k2,Bool.false_and,Bool.and_false]
     rw[hP,if_neg (by decide),List.append_nil];exact⟨v6,gQ (dc (p:=true) (q:=false) ((c1 v6).trans (by rw[decide_eq_true k1])) λ_=>(c2 v6).trans (by rw[decide_eq_false k2])) rfl⟩
   ·have hP:P x=false:=by
     show(_ && (_ && decide (b9 x<=known)))=false;rw[hxa,decide_eq_false k1,Bool.and_false,Bool.and_false]
    rw[hP,if_neg (by decide),List.append_nil];exact⟨v6,gQ (dc (p:=false) (q:=false) ((c1 v6).trans (by rw[decide_eq_false k1])) λh=>by cases h) rfl⟩
  obtain⟨v6',key⟩:=key;exact⟨_,_,by rw[ex];rfl,.inl key,_,_,v6',by rw[et]⟩)
 rw[List.take_length]at e;have hLe:rows.filter P=(bM (am rows known)).filter (iN cs R):=by rw[uu,List.filter_filter]
 rw[hLe]at e;have hLl:((bM (am rows known)).filter (iN cs R)).length<=30:=by rw[←hLe];exact Nat.le_trans (List.length_filter_le _ _) hl
 refine aw rfl (bX (ds:=[]) (cdD [] rfl (ju _ (by simp))) rfl (dj (jO (ds:=rows) rfl e) (a8 ?_)));refine pJ (fi:=cw (fA eI (ab (ae 3) ag))) (nT:=2) (cap:=[]) (tg:=tgT [0,1]) (fe:=fA aL (ab (fC (.str "office")) (ab (ae 1) (ab (ae 0) ag)))) (ρ:=E ((bM (am rows known)).filter (iN cs R)) v4 v5 v6) (wa (am rows known) cs R) (pD cs R) (za cs R) ?_ (by unfold wa;rw[(bv _ _).length_eq];omega) λv _=>⟨[some (.int (oB cs R v),false),some (.str (ax 0 v),false)],rfl,false,cdD [.str "office",.str (ax 0 v),.int (oB cs R v)] rfl (bF _ (by simp))⟩;show(fA eI _ _).bind _=_;rw[cdD [.lst (((bM (am rows known)).filter (iN cs R)).map (pD cs R))] rfl (Bz cs R _ (by omega))];rfl
end
theorem B3 {d:D}(h:ai 40 d=true):dNe d d=some (.bl false,false):=by
 unfold dNe;rw[if_pos ⟨h,h⟩,jU 40 _ h];rfl
theorem uw (l:List Bs):bg (l.map bsD)=true:=bO λd hd=>by obtain⟨b,_,rfl⟩:=List.mem_map.mp hd;exact uq b
theorem B4 {l m:List Bs}(hl:l.length<=100)(h:(l.filter λb=>b.1.isSome)=m):iV [.lst (l.map bsD),.lst (m.map bsD)]=some (.bl true,false):=by
 have hc:=g8 (fi:=cw (ae 0)) (nT:=1) (cap:=[]) (tg:=tgN 0) (c:=tOf (f2 dEq (ixV 0 0) (fC (.str "office")))) (fe:=ae 0) (ρ:=[some (.lst (l.map bsD),false),some (.lst (m.map bsD),false),none]) l bsD (λb=>b.1.isSome) bsD rfl (by omega) λb _=>by
  refine⟨[some (bsD b,false)],rfl,?_,λ_=>⟨false,rfl⟩⟩;rcases b with⟨_|o,n⟩
  ·exact bq (x:=false) (a:=("leave" : Str)) (bb:=false) rfl (by decide +kernel)
  ·exact bq (x:=true) (a:=("office" : Str)) (bb:=false) rfl (by decide +kernel)
 rw[h]at hc;have hp:ai 40 (.lst (m.map bsD))=true:=by
  simp only[ai,List.all_eq_true];intro d hd;obtain⟨b,_,rfl⟩:=List.mem_map.mp hd;exact ze b
 have t1:tOf (fA cQ (ab (ae 0) (ab (fC (.ty "list")) ag))) [some (.lst (l.map bsD),false),some (.lst (m.map bsD),false),none]=some true:=tkF (cdD [.lst (l.map bsD),.ty "list"] rfl (aX rfl));have t2:=AM (gh (op:=dNe) (b1:=true) (b2:=false) (fb:=ae 1) (y:=.lst (m.map bsD)) hc rfl (B3 hp));obtain⟨ρ',e,v2,rfl⟩:=gz (tg:=tgN 2) (g:=n6) (λ_ ρ=>∃v2,ρ=[some (.lst (l.map bsD),false),some (.lst (m.map bsD),false),v2]) (l.map bsD) [some (.lst (l.map bsD),false),some (.lst (m.map bsD),false),none] ⟨none,rfl⟩ (by
  rintro i d ρ hd ⟨v2,rfl⟩;rw[List.getElem?_map]at hd;obtain⟨b,_,rfl⟩:=oY hd;have q:f2 ixD (ae 2) (f1 ma (fC (.int 1))) [some (.lst (l.map bsD),false),some (.lst (m.map bsD),false),some (bsD b,false)]=some (.int b.2,false):=eoF (bsD b) (.int (-1)) rfl rfl (xS b);refine⟨_,_,?_,.inl (gQ (cD (p:=false) (q:=false) (bP (p:=true) (tkF (cdD [bsD b,.ty "tuple"] rfl ?_))) λ_=>cD (p:=false) (q:=false) (bP (p:=true) (tkF (cdD [.int b.2,.ty "int"] (aB q rfl) rfl))) λ_=>tkF (cdD [.int b.2,.ty "bool"] (aB q rfl) rfl)) rfl),some (bsD b,false),rfl⟩
  ·rcases b with⟨_|o,n⟩<;>rfl
  ·rcases b with⟨_|o,n⟩<;>rfl)
 exact aw rfl (aA (cD (p:=false) (q:=false) (bP t1) λ_=>t2) (dj (jO (ds:=l.map bsD) rfl e) (a8 rfl)))
theorem B5 (rows:List D)(known:Int):((bM (am rows known)).map (ax 0)).Sublist (ji rows):=by
 rw[uu];unfold ji;refine List.Sublist.map _ ?_;have:(rows.filter λv=>aW v && decide (b9 v<=known))=(rows.filter aW).filter λv=>decide (b9 v<=known):=by rw[List.filter_filter];congr 1;funext v;rw[Bool.and_comm]
 rw[this];exact List.filter_sublist
theorem law_true (ns:List Int)(_:ns.length<=63):∃b,F_law [.lst (ns.map .int)]=some (.bl true,b):=by
 obtain⟨c0,e0,h0⟩:=fZ ns 0;obtain⟨c3,e3,h3⟩:=fZ ns 3;obtain⟨c4,e4,h4⟩:=fZ ns 4;obtain⟨zs,ez,hz,hzd⟩:=Bk c0 h0;have hm3:=mod_lt (x:=c3) (m:=3) (by decide);obtain⟨ms,hms,ems⟩:=kj (ns:=[1,1,500]) (i:=c3 % 3) hm3.1 hm3.2;obtain⟨rows,erw,hrw,hrl,hoff⟩:=Dl ns zs hz ms;have hm13:=mod_lt (x:=c3 / 3) (m:=13) (by decide);have hm4:=mod_lt (x:=c4) (m:=3) (by decide);obtain⟨known,hkn,ekn⟩:=kj (ns:=[9999,c3 / 3 % 13*ms]) (i:=c4 % 3 / 2) (by omega) (by simp;omega);have hflat:bc (.tup rows)=true:=by simp[bO λd hd=>(hrw d hd).flat]
 have hn:((bM (am rows known)).map (ax 0)).Nodup:=by
  refine List.Nodup.sublist (B5 rows known) ?_;rw[hoff];exact List.Nodup.sublist (List.take_sublist _ _) hzd
 have ho:(eE (am rows known)).length<=60:=by
  unfold eE;rw[(bv _ _).length_eq];exact Nat.le_trans (List.length_filter_le _ _) (Nat.le_trans (cY rows known) (by omega))
 obtain⟨z5,hz5⟩:∃z,zs[5]? = some z:=⟨_,List.getElem?_eq_getElem (by omega)⟩;let E:Option (D×Bool)->Option (D×Bool)->Option (D×Bool)->DL.Env:=λv6 v7 v8=>[some (.lst (ns.map .int),false),some (.lst (zs.map .str),true),some (.int ms,false),some (.tup rows,false),some (.int known,false),some (.tup rows,false),v6,v7,v8];obtain⟨ρ',el,v6,v7,v8,rfl⟩:=jL (tg:=tgN 6) (g:=AR) rows.length (λ_ ρ=>∃v6 v7 v8,ρ=E v6 v7 v8) (E none none none) ⟨none,none,none,rfl⟩ (by
  rintro i ρ hi ⟨v6,v7,v8,rfl⟩;have hr:rows[i]? = some rows[i]:=List.getElem?_eq_getElem hi;obtain⟨a,k,ay,er,dk⟩:=hrw _ (List.getElem_mem hi);rw[er]at hr;have ar:=cF hr;have q0:∀v7 v8,f2 ixD (ae 3) (ae 6) (E (some (.int i,false)) v7 v8)=some (row a k ay,false):=λv7 v8=>eoF (.tup rows) (.int i) rfl rfl (by simp[ar]);have q1:∀v7 v8,f2 ixD (f2 ixD (ae 3) (ae 6)) (fC (.int 1)) (E (some (.int i,false)) v7 v8)=some (.tup (.str k::ay),false):=λv7 v8=>eoF (row a k ay) (.int 1) (q0 v7 v8) rfl (by unfold row;simp[at1]);have t1:tOf (f2 dLe (f2 ixD (f2 ixD (ae 3) (ae 6)) (fC (.int 0))) (ae 4)) (E (some (.int i,false)) v7 v8)=some (decide (a<=known)):=tkF (eoF (.int a) (.int known) (eoF (row a k ay) (.int 0) (q0 v7 v8) rfl (by unfold row;simp[at0])) rfl (by simp));have t2:tOf (f2 dIn (f2 ixD (f2 ixD (f2 ixD (ae 3) (ae 6)) (fC (.int 1))) (fC (.int 0))) (fA aL (ab (fC (.str "leave")) (ab (fC (.str "paper")) (ab (fC (.str "like")) ag))))) (E (some (.int i,false)) v7 v8)=some (decide (k∈cM)):=tkF (eoF (.str k) (.tup (cM.map .str)) (eoF (.tup (.str k::ay)) (.int 0) (q1 v7 v8) rfl (by simp[at0])) (cdD (cM.map .str) rfl (bF _ (by decide))) (iJ _ _));have t12:=dc t1 λ_=>t2;cases hA:(decide (a<=known) && decide (k∈cM)) with
  |false=>
   rw[hA]at t12;exact⟨_,_,rfl,.inl (gQ t12 rfl),_,v7,v8,rfl⟩
  |true=>
   rw[hA]at t12;rw[Bool.and_eq_true]at hA;have ka:a<=known:=of_decide_eq_true hA.1;have kr:k∈cM:=of_decide_eq_true hA.2;have edue:=FC hrw (by omega) known ho hn (a:=a) dk kr;have ebas:=Bv hrw (by omega) known hn ho hr kr ka;generalize hcs:cL (am rows known)=cs at edue ebas;have hsm:((wa (am rows known) cs (row a k ay)).map (toB cs (row a k ay))).map bsD=(wa (am rows known) cs (row a k ay)).map (za cs (row a k ay)):=by rw[List.map_map];rfl
   rw[←hsm]at edue;have hbl:(zf (am rows known) cs (row a k ay) i).length<=60:=by unfold zf;rw[(bv _ _).length_eq];exact xU (by omega) known _ _ _
   have hright:=B4 (by omega) (B1 (rows:=rows) (known:=known) cs (row a k ay) i);generalize (wa (am rows known) cs (row a k ay)).map (toB cs (row a k ay))=M at edue hright;generalize zf (am rows known) cs (row a k ay) i=B at ebas hbl hright;refine⟨_,E (some (.int i,false)) (some (.lst (M.map bsD),true)) (some (.lst (B.map bsD++[.tup [.str "office",.str z5,.int 0]]),true)),rfl,.inl (ib t12 (bX (ds:=M.map bsD) (cdD [.tup rows,.int known,.tup (.str k::ay)] (acF rfl (acF rfl (aB (q1 v7 v8) rfl))) edue) (uw M) (bX (ds:=B.map bsD) (cdD [.tup rows,.int known,.int i] rfl ebas) (uw B) (aA (bP (p:=true) (tkF (cdD [.lst (B.map bsD),.lst (M.map bsD)] rfl hright))) (AL (ds:=B.map bsD) (d:=.tup [.str "office",.str z5,.int 0]) (b:=false) rfl (cdD [.str "office",.str z5,.int 0] (acF rfl (acF (eoF (.lst (zs.map .str)) (.int 5) rfl rfl (by have:=cF (rows:=zs.map D.str) (i:=5) (r:=.str z5) (by simp[hz5]);simpa using this)) (acF rfl rfl))) (bF _ (by simp))) rfl (bx (by rw[List.length_map];omega)) (gQ (bP (p:=true) (tkF (cdD [.lst (B.map bsD),.lst (M.map bsD)] (aB (cdD [.tup rows,.int known,.int i] rfl ebas) (acF rfl rfl)) hright))) rfl)))))),_,_,_,rfl⟩)
 refine⟨false,aw rfl (bX (ds:=zs.map .str) (cdD [.int c0] (acF (cdD [.lst (ns.map .int),.int ((0:Nat):Int)] (by simp) e0) rfl) ez) (cW _) (rfF (.int ms) (gh (x:=.lst (([1,1,500]:List Int).map .int)) (y:=.int (c3 % 3)) (b1:=true) (b2:=false) (by simp[sizeLine]) (eoF (.int c3) (.int 3) (cdD [.lst (ns.map .int),.int ((3:Nat):Int)] (by simp) e3) rfl (by simp)) ems) rfl (rfF (.tup rows) (cdD [.lst (ns.map .int),.lst (zs.map .str),.int ms,.int 14] rfl erw) hflat (rfF (.int known) ?_ rfl (rfF (.tup rows) (cdD [.lst rows] (aB (b:=true) (cdD [.tup rows] rfl rfl) rfl) rfl) hflat (dj (jN (g7 (j:=rows.length) (b:=false) (by simp) (by omega)) el) (a8 (eoF (.tup rows) (.tup rows) rfl rfl (CW λr hr=>(hrw r hr).c.rp)))))))))⟩
 ·refine gh (x:=.lst (([9999,c3 / 3 % 13*ms]:List Int).map .int)) (y:=.int (c4 % 3 / 2)) (b1:=true) (b2:=false) ?_ ?_ ekn
  ·refine cdD [.int 9999,.int (c3 / 3 % 13*ms)] (acF rfl (acF ?_ rfl)) (ju _ (by simp));exact eoF (.int (c3 / 3 % 13)) (.int ms) (eoF (.int (c3 / 3)) (.int 13) (eoF (.int c3) (.int 3) (cdD [.lst (ns.map .int),.int ((3:Nat):Int)] (by simp) e3) rfl (by simp)) rfl (by simp)) rfl (kU (by omega))
  ·exact eoF (.int (c4 % 3)) (.int 2) (eoF (.int c4) (.int 3) (cdD [.lst (ns.map .int),.int ((4:Nat):Int)] (by simp) e4) rfl (by simp)) rfl (by simp)
end Lw
namespace Lw
open PySem PySem.Spec PyProof.Rows L2 DL
theorem b7 {X:Cx}{es:List Expr}{g:FA}{i:Int}{j:Nat}{pos:Pos}(hr:JA X es g):JA X (.Constant (.int i) j pos::es) (ab (fC (.int i)) g):=aa ah hr
noncomputable def top (i:Nat):Stmt:=PySem.Challenge.pw_sealchain_k25_offices_that_bear.main.body.getD i (.Pass ⟨0,0,0,0⟩)
structure Tx (K:PySem.W.Frag)(P:Params)(mg:Str->Option Value):Prop where
 n_all:mg "all" = none
 n_bool:mg "bool" = none
 n_dict:mg "dict" = none
 n_enumerate:mg "enumerate" = none
 n_int:mg "int" = none
 n_isinstance:mg "isinstance" = none
 n_len:mg "len" = none
 n_list:mg "list" = none
 n_max:mg "max" = none
 n_min:mg "min" = none
 n_range:mg "range" = none
 n_set:mg "set" = none
 n_sorted:mg "sorted" = none
 n_tuple:mg "tuple" = none
 k_PAPERS:∃u v,mg "PAPERS" = some u/\aS v u/\∀B,Is K B v mQ
 k_PARTS:∃d,mg "PARTS" = some (.ref d)/\pj K P d eJ
 k_SEALINGS:∃u v,mg "SEALINGS" = some u/\aS v u/\∀B,Is K B v dW
section
variable {P:Program}{w:World}{K:PySem.W.Frag}{mg:Str->Option Value}{base h:Heap}
section
variable (P:Program) (w:World) (base:Heap) {K:PySem.W.Frag}{mg:Str->Option Value}{h:Heap}(T:Tx K w.params mg) (X:K.In h) (G:h.Ns mainGlobals mg)
include T X G
theorem wb (F:Def K "word_of" (top 7))  : Fn P w K mg base 1 "word_of" aC:=F.fq X G ["row"] 1 λnd _ _ _ _ _ _ _ hr hu=>(show JSs _ _ pL from
  (ao (a7 (az (az (ac 0) ah) ah))))
theorem wc (F:Def K "part_of" (top 8))(f_word_of:Fn P w K mg base 1 "word_of" aC):Fn P w K mg base 2 "part_of" aj:=F.fq X G ["row","part"] 2 λnd _ _ _ _ _ _ _ hr hu=>(show JSs _ _ pM from
  (ao (a7 (az (az (ac 0) ah) (av aY ah (CC T.k_PARTS (aq f_word_of hr (aa (ac 0) af)) (ac 1)))))))
theorem zh (F:Def K "day_of" (top 9))(f_word_of:Fn P w K mg base 1 "word_of" aC)(f_part_of:Fn P w K mg base 2 "part_of" aj):Fn P w K mg base 3 "day_of" aH:=F.fq X G ["row"] 1 λnd _ _ _ _ _ _ _ hr hu=>(show JSs _ _ tM from
  (ak (bd (aI (cm hu) (aq f_word_of hr (aa (ac 0) af)) au) (ao (a7 cP)) aT)
   (ao (a7 (aq f_part_of hr (aa (ac 0) (aa au af)))))))
theorem B6 (F:Def K "heard" (top 11))  : Fn P w K mg base 1 "heard" bQ:=F.fq X G ["book","known"] 2 λnd _ _ _ _ _ _ _ hr hu=>(show JSs _ _ xq from
  (ao (a7 (hZ ["number","row","known"] (cpC rfl rfl (.nil rfl)) (C7 T.n_enumerate (ac 0)) (λ_ _ _ _=>uI rfl (gk (pgC 0) (gk (pgC 1) qi))) (DS (by decide)) (λ_ _ _ _=>(dP (aI jA (az (ac 1) ah) (ac 2)))) (λ_ _ _ _=>(ac 0))))))
theorem Du (F:Def K "rank" (top 13))(f_day_of:Fn P w K mg base 3 "day_of" aH):Fn P w K mg base 4 "rank" cE:=F.fq X G ["book","number"] 2 λnd _ _ _ _ _ _ _ hr hu=>(show JSs _ _ AQ from
  (ao (a7 (aK (aa (aq f_day_of hr (aa (az (ac 0) (ac 1)) af)) (aa (ac 1) af))))))
theorem ux (F:Def K "in_order" (top 15))(f_day_of:Fn P w K mg base 3 "day_of" aH)(f_heard:Fn P w K mg base 1 "heard" bQ)(f_rank:Fn P w K mg base 4 "rank" cE)(l_in_order:mB K "in_order"):Fn P w K mg base 8 "in_order" dX:=F.fqL X G ["book","known","dated"] 2 λnd _ _ _ _ _ _ _ hcd hr hu=>(show JSs _ _ mR from
  (ak (mM ["number","book"] nd (cpC rfl rfl (.nil rfl)) (cx (aq f_heard hr (aa (ac 0) (aa (ac 1) af)))) (λ_ _ _ _=>pgC 0) (bI (by decide)) (λ_ _ _ _=>(dP (aI qB (aq f_day_of hr (aa (az (ac 1) (ac 0)) af)) cP))) (λ_ _ _ _=>(ac 0)))
   (ao (a7 (A4 A2 T.n_sorted (ac 2) (qQ (cap:=[0]) (N':=["number","book"]) (by decide +kernel) l_in_order hcd rfl rfl (wZ (by decide +kernel) rfl rfl rfl rfl rfl) rfl (.cons rfl rfl (Or.inl rfl) rfl (lK (by decide +kernel) rfl) (.nil rfl)) rfl hr.in1.in1 (λ_ _ _ _=>rfl) λ_ _ _ _ hr=>have hu:=vn hr;(aq f_rank hr (aa (ac 1) (aa (ac 0) af)))))))))
theorem r9 (F:Def K "by_office" (top 27))  : Fn P w K mg base 1 "by_office" dA:=F.fq X G ["claim"] 1 λnd _ _ _ _ _ _ _ hr hu=>(show JSs _ _ lh from
  (ao (a7 (aK (aa (az (ac 0) ah) (aa (az (ac 0) ah) (aa (az (ac 0) ah) af)))))))
theorem B7 (F:Def K "roots" (top 16))(f_word_of:Fn P w K mg base 1 "word_of" aC)(f_part_of:Fn P w K mg base 2 "part_of" aj)(f_heard:Fn P w K mg base 1 "heard" bQ):Fn P w K mg base 3 "roots" dr:=F.fq X G ["book","known","known_rows"] 2 λnd _ _ _ _ _ _ _ hr hu=>(show JSs _ _ xu from
  (ak (mM ["number","book"] nd (cpC rfl rfl (.nil rfl)) (cx (aq f_heard hr (aa (ac 0) (aa (ac 1) af)))) (λ_ _ _ _=>pgC 0) (bI (by decide)) (λ_ _ _ _=>ky) (λ_ _ _ _=>(az (ac 1) (ac 0))))
   (ao (a7 (d8 (Fx rfl) T.n_dict Fw (aa (hZ ["row"] (.nil rfl) (cx (ac 2)) (λ_ _ _ _=>pgC 0) (bI (by decide)) (λ_ _ _ _=>(dP (aI (cm hu) (aq f_word_of hr (aa (ac 0) af)) au))) (λ_ _ _ _=>(aK (aa (aq f_part_of hr (aa (ac 0) (aa au af))) (aa (ac 0) af))))) af))))))
theorem uy (F:Def K "is_known" (top 12))  : Fn P w K mg base 1 "is_known" bV:=F.fq X G ["book","known","number"] 3 λnd _ _ _ _ _ _ _ hr hu=>(show JSs _ _ mS from
  (ao (a7 (gc (zU jA wE ah (ac 2) (bu iw T.n_len iz (aa (ac 0) af))) (fE (bT jA (az (az (ac 0) (ac 2)) ah) (ac 1)))))))
theorem B8 (F:Def K "tells" (top 19))(f_word_of:Fn P w K mg base 1 "word_of" aC)(f_part_of:Fn P w K mg base 2 "part_of" aj)(f_day_of:Fn P w K mg base 3 "day_of" aH):Fn P w K mg base 4 "tells" jP:=F.fq X G ["row","words","person","day"] 4 λnd _ _ _ _ _ _ _ hr hu=>(show JSs _ _ xw from
  (ao (a7 (gc (bT sD (aq f_word_of hr (aa (ac 0) af)) (ac 1)) (gc (bT (cm hu) (aq f_part_of hr (aa (ac 0) (aa au af))) (ac 2)) (fE (bT jA (aq f_day_of hr (aa (ac 0) af)) (ac 3))))))))
theorem we (F:Def K "told_of" (top 20))(f_heard:Fn P w K mg base 1 "heard" bQ)(f_tells:Fn P w K mg base 4 "tells" jP):Fn P w K mg base 5 "told_of" de:=F.fq X G ["book","known","words","person","day"] 5 λnd _ _ _ _ _ _ _ hr hu=>(show JSs _ _ pN from
  (ao (a7 (hZ ["number","words","person","day","book"] (cpC rfl rfl (cpC rfl rfl (cpC rfl rfl (cpC rfl rfl (.nil rfl))))) (cx (aq f_heard hr (aa (ac 0) (aa (ac 1) af)))) (λ_ _ _ _=>pgC 0) (bI (by decide)) (λ_ _ _ _=>(dP (bU (aq f_tells hr (aa (az (ac 4) (ac 0)) (aa (ac 1) (aa (ac 2) (aa (ac 3) af)))))))) (λ_ _ _ _=>(ac 0))))))
theorem B9 (F:Def K "lives" (top 21))(f_told_of:Fn P w K mg base 5 "told_of" de):Fn P w K mg base 6 "lives" gR:=F.fq X G ["book","known","person","day"] 4 λnd _ _ _ _ _ _ _ hr hu=>(show JSs _ _ xy from
  (ao (a7 (bT (cm hu) (bu iw T.n_len iz (aa (aq f_told_of hr (aa (ac 0) (aa (ac 1) (aa (aK (aa au af)) (aa (ac 2) (aa (ac 3) af)))))) af)) ah))))
theorem uz (F:Def K "has_seal" (top 22))(f_word_of:Fn P w K mg base 1 "word_of" aC)(f_rank:Fn P w K mg base 4 "rank" cE)(f_told_of:Fn P w K mg base 5 "told_of" de)(l_has_seal:mB K "has_seal"):Fn P w K mg base 8 "has_seal" gS:=F.fqL X G ["book","known","person","day","told"] 4 λnd _ _ _ _ _ _ _ hcd hr hu=>(show JSs _ _ mT from
  (ak (aE (i:=4) nd (aq f_told_of hr (aa (ac 0) (aa (ac 1) (aa (aK (aa au (aa au af))) (aa (ac 2) (aa (ac 3) af)))))))
   (ak (bd (aI (cm hu) (bu iw T.n_len iz (aa (ac 4) af)) ah) (ao (a7 iq)) aT)
   (ao (a7 (bT (cm hu) (aq f_word_of hr (aa (az (ac 0) (tH mmx T.n_max (ac 4) (qQ (cap:=[0]) (N':=["number","book"]) (by decide +kernel) l_has_seal hcd rfl rfl (wZ (by decide +kernel) rfl rfl rfl rfl rfl) rfl (.cons rfl rfl (Or.inl rfl) rfl (lK (by decide +kernel) rfl) (.nil rfl)) rfl hr.in1 (λ_ _ _ _=>rfl) λ_ _ _ _ hr=>have hu:=vn hr;(aq f_rank hr (aa (ac 1) (aa (ac 0) af)))) hr)) af)) au))))))
theorem u0 (F:Def K "is_sound" (top 23))(f_word_of:Fn P w K mg base 1 "word_of" aC)(f_part_of:Fn P w K mg base 2 "part_of" aj)(f_day_of:Fn P w K mg base 3 "day_of" aH)(f_is_known:Fn P w K mg base 1 "is_known" bV)(f_lives:Fn P w K mg base 6 "lives" gR)(f_has_seal:Fn P w K mg base 8 "has_seal" gS):Fn P w K mg base 9 "is_sound" gT:=F.fq X G ["book","known","number","sealer","day"] 3 λnd _ _ _ _ _ _ _ hr hu=>(show JSs _ _ mU from
  (ak (bd (iu (ja (dF (bU (aq f_is_known hr (aa (ac 0) (aa (ac 1) (aa (ac 2) af)))))) (ir (aI mf (aq f_word_of hr (aa (az (ac 0) (ac 2)) af)) (sA T.k_SEALINGS))))) (ao (a7 iq)) aT)
   (ak (aE (i:=3) nd (aq f_part_of hr (aa (az (ac 0) (ac 2)) (aa au af))))
   (ak (aE (i:=4) nd (aq f_day_of hr (aa (az (ac 0) (ac 2)) af)))
   (ao (a7 (gc (aq f_lives hr (aa (ac 0) (aa (ac 1) (aa (ac 3) (aa (ac 4) af))))) (fE (aq f_has_seal hr (aa (ac 0) (aa (ac 1) (aa (ac 3) (aa (ac 4) af)))))))))))))
theorem wf (F:Def K "lies_in" (top 1))  : Fn P w K mg base 1 "lies_in" dY:=F.fq X G ["day","stretch"] 2 λnd _ _ _ _ _ _ _ hr hu=>(show JSs _ _ pO from
  (ao (a7 (gc (bT jA (az (ac 1) ah) (ac 0)) (fE (D7 (bT yv (az (ac 1) ah) cP) (fE (bT wE (ac 0) (az (ac 1) ah)))))))))
theorem u5 (F:Def K "is_alive" (top 25))(f_lies_in:Fn P w K mg base 1 "lies_in" dY):Fn P w K mg base 2 "is_alive" bD:=F.fq X G ["claim","day"] 2 λnd _ _ _ _ _ _ _ hr hu=>(show JSs _ _ mV from
  (ao (a7 (aq f_lies_in hr (aa (ac 1) (aa (aK (aa (az (ac 0) ah) (aa (az (ac 0) ah) af))) af))))))
theorem u6 (F:Def K "by_since" (top 26))  : Fn P w K mg base 1 "by_since" bW:=F.fq X G ["claim"] 1 λnd _ _ _ _ _ _ _ hr hu=>(show JSs _ _ mW from
  (ao (a7 (aK (aa (az (ac 0) ah) (aa (az (ac 0) ah) af))))))
theorem uA (F:Def K "chief_of" (top 28))(f_by_since:Fn P w K mg base 1 "by_since" bW):Fn P w K mg base 5 "chief_of" gU:=F.fq X G ["alive","rule"] 2 λnd _ _ _ _ _ _ _ hr hu=>(show JSs _ _ ng from
  (ak (bd (aI (cm hu) (ac 1) au) (ao (a7 (az (tH mmx T.n_max (ac 0) (xc f_by_since (hr.in1.mono (by decide)) rfl) hr) ah))) aT)
   (ao (a7 (az (tH mmn T.n_min (ac 0) (xc f_by_since (hr.in1.mono (by decide)) rfl) hr) ah)))))
theorem rA (F:Def K "holder_by" (top 29))(f_part_of:Fn P w K mg base 2 "part_of" aj)(f_is_alive:Fn P w K mg base 2 "is_alive" bD)(f_by_since:Fn P w K mg base 1 "by_since" bW)(f_chief_of:Fn P w K mg base 5 "chief_of" gU):Fn P w K mg base 6 "holder_by" bL:=F.fq X G ["claimed","root","day","alive","people","person","oldest"] 3 λnd _ _ _ _ _ _ _ hr hu=>(show JSs _ _ lm from
  (ak (mM ["claim","day","root"] nd (cpC rfl rfl (cpC rfl rfl (.nil rfl))) (cx (ac 0)) (λ_ _ _ _=>pgC 0) (bI (by decide)) (λ_ _ _ _=>(dP (iu (gK (aI (cm hu) (az (ac 0) ah) (aq f_part_of hr (aa (ac 2) (aa au af)))) (fw (bU (aq f_is_alive hr (aa (ac 0) (aa (ac 1) af))))))))) (λ_ _ _ _=>(ac 0)))
   (ak (aE (i:=4) nd (mz rfl T.n_sorted T.n_set (hZ ["claim"] (.nil rfl) (cx (ac 3)) (λ_ _ _ _=>pgC 0) (bI (by decide)) (λ_ _ _ _=>ky) (λ_ _ _ _=>(az (ac 0) ah)))))
   (ak (bd (aI (cm hu) (bu iw T.n_len iz (aa (ac 4) af)) ah) (ao (a7 (aK (aa au af)))) aT)
   (ak (bd (iu (gK (aI Cu (bu iw T.n_len iz (aa (ac 4) af)) ah) (fw (aI (cm hu) (aq f_part_of hr (aa (ac 1) (aa au af))) au)))) (ao (a7 (aK (aa au (aa (ac 4) af))))) aT)
   (ak (aE (i:=5) nd (aq f_chief_of hr (aa (ac 3) (aa (aq f_part_of hr (aa (ac 1) (aa au af))) af))))
   (ak (aE (i:=6) nd (tH mmn T.n_min (hZ ["claim","person"] (cpC rfl rfl (.nil rfl)) (cx (ac 3)) (λ_ _ _ _=>pgC 0) (bI (by decide)) (λ_ _ _ _=>(dP (aI (cm hu) (az (ac 0) ah) (ac 1)))) (λ_ _ _ _=>(ac 0))) (xc f_by_since (hr.in1.mono (by decide)) rfl) hr))
   (ao (a7 (aK (aa au (aa (ac 5) (aa (az (ac 6) ah) af)))))))))))))
theorem oD (F:Def K "is_held_by" (top 30))(f_holder_by:Fn P w K mg base 6 "holder_by" bL):Fn P w K mg base 7 "is_held_by" ci:=F.fq X G ["claimed","root","person","day"] 4 λnd _ _ _ _ _ _ _ hr hu=>(show JSs _ _ jQ from
  (ao (a7 (bT (cm hu) (sK (aq f_holder_by hr (aa (ac 0) (aa (ac 1) (aa (ac 3) af)))) wA (wB ah)) (aK (aa au (aa (ac 2) af)))))))
theorem kn (F:Def K "is_first_death" (top 31))(f_part_of:Fn P w K mg base 2 "part_of" aj)(f_day_of:Fn P w K mg base 3 "day_of" aH)(f_rank:Fn P w K mg base 4 "rank" cE)(f_told_of:Fn P w K mg base 5 "told_of" de)(l_is_first_death:mB K "is_first_death"):Fn P w K mg base 8 "is_first_death" df:=F.fqL X G ["book","known","number","row","deaths"] 3 λnd _ _ _ _ _ _ _ hcd hr hu=>(show JSs _ _ g9 from
  (ak (aE (i:=3) nd (az (ac 0) (ac 2)))
   (ak (aE (i:=4) nd (aq f_told_of hr (aa (ac 0) (aa (ac 1) (aa (aK (aa au af)) (aa (aq f_part_of hr (aa (ac 3) (aa au af))) (aa (aq f_day_of hr (aa (ac 3) af)) af)))))))
   (ao (a7 (bT (cm hu) (tH mmn T.n_min (ac 4) (qQ (cap:=[0]) (N':=["each","book"]) (by decide +kernel) l_is_first_death hcd rfl rfl (wZ (by decide +kernel) rfl rfl rfl rfl rfl) rfl (.cons rfl rfl (Or.inl rfl) rfl (lK (by decide +kernel) rfl) (.nil rfl)) rfl hr.in1 (λ_ _ _ _=>rfl) λ_ _ _ _ hr=>have hu:=vn hr;(aq f_rank hr (aa (ac 1) (aa (ac 0) af)))) hr) (ac 2)))))))
theorem zi (F:Def K "counts" (top 32))(f_word_of:Fn P w K mg base 1 "word_of" aC)(f_part_of:Fn P w K mg base 2 "part_of" aj)(f_day_of:Fn P w K mg base 3 "day_of" aH)(f_roots:Fn P w K mg base 3 "roots" dr)(f_is_sound:Fn P w K mg base 9 "is_sound" gT)(f_is_held_by:Fn P w K mg base 7 "is_held_by" ci)(f_is_first_death:Fn P w K mg base 8 "is_first_death" df):Fn P w K mg base 10 "counts" iE:=F.fq X G ["book","known","so_far","number","row","root"] 4 λnd _ _ _ _ _ _ _ hr hu=>(show JSs _ _ tN from
  (ak (aE (i:=4) nd (az (ac 0) (ac 3)))
   (ak (bd (aI (cm hu) (aq f_word_of hr (aa (ac 4) af)) au) (ao (a7 (aq f_is_first_death hr (aa (ac 0) (aa (ac 1) (aa (ac 3) af)))))) aT)
   (ak (bd (aI mf (aq f_word_of hr (aa (ac 4) af)) (aK (aa au (aa au (aa au af))))) (ao (a7 iq)) aT)
   (ak (aE (i:=5) nd (tI (hu1 hu) (aq f_roots hr (aa (ac 0) (aa (ac 1) af))) (aq f_part_of hr (aa (ac 4) (aa au af))) ⟨rfl,rfl,rfl,rfl⟩))
   (ak (bd (aI yv (ac 5) cP) (ao (a7 iq)) aT)
   (ak (bd (aI (cm hu) (aq f_word_of hr (aa (ac 4) af)) au) (ao (a7 iq)) aT)
   (ao (a7 (gc (aq f_is_sound hr (aa (ac 0) (aa (ac 1) (aa (ac 3) af)))) (fE (aq f_is_held_by hr (aa (ac 2) (aa (ac 5) (aa (aq f_part_of hr (aa (ac 4) (aa au af))) (aa (aq f_day_of hr (aa (ac 4) af)) af))))))))))))))))
theorem rB (F:Def K "new_claim" (top 33))(f_part_of:Fn P w K mg base 2 "part_of" aj):Fn P w K mg base 3 "new_claim" cU:=F.fq X G ["row","since","number"] 3 λnd _ _ _ _ _ _ _ hr hu=>(show JSs _ _ ln from
  (ao (a7 (aK (aa (aq f_part_of hr (aa (ac 0) (aa au af))) (aa (aq f_part_of hr (aa (ac 0) (aa au af))) (aa (ac 1) (aa cP (aa (ac 2) af)))))))))
theorem BA (F:Def K "ended" (top 34))(f_is_alive:Fn P w K mg base 2 "is_alive" bD):Fn P w K mg base 3 "ended" iT:=F.fq X G ["so_far","offices","person","day","left","claim"] 4 λnd _ _ _ _ _ _ _ hr hu=>(show JSs _ _ xz from
  (ak (aE (i:=4) nd (bo af))
   (ak (tK (cx (ac 0)) (pgV 5 nd) eO (ao (bd (iu (ja (aI mf (az (ac 5) ah) (ac 1)) (ja (aI (Ff hu) (az (ac 5) ah) (ac 2)) (ir (dF (iu (ja (bU (aq f_is_alive hr (aa (ac 5) (aa (ac 3) af)))) (ir (aI Cu (az (ac 5) ah) (ac 3)))))))))) (ao (fm (i:=4) (ac 5))) (ao (bd (aI wE (az (ac 5) ah) (ac 3)) (ao (fm (i:=4) (aK (aa (az (ac 5) ah) (aa (ac 2) (aa (az (ac 5) ah) (aa (ac 3) (aa (az (ac 5) ah) af)))))))) aT)))))
   (ao (qy 4)))))
theorem lI (F:Def K "after_choice" (top 35))(f_part_of:Fn P w K mg base 2 "part_of" aj)(f_new_claim:Fn P w K mg base 3 "new_claim" cU)(f_ended:Fn P w K mg base 3 "ended" iT):Fn P w K mg base 4 "after_choice" dH:=F.fq X G ["so_far","row","number","since","left"] 3 λnd _ _ _ _ _ _ _ hr hu=>(show JSs _ _ iF from
  (ak (aE (i:=3) nd (aq f_part_of hr (aa (ac 1) (aa au af))))
   (ak (aE (i:=4) nd (aq f_ended hr (aa (ac 0) (aa (bo (aa (aq f_part_of hr (aa (ac 1) (aa au af))) af)) (aa (aq f_part_of hr (aa (ac 1) (aa au af))) (aa (ac 3) af))))))
   (ao (a7 (av aY (ac 4) (bo (aa (aq f_new_claim hr (aa (ac 1) (aa (ac 3) (aa (ac 2) af)))) af))))))))
theorem rC (F:Def K "inherited" (top 36))(f_part_of:Fn P w K mg base 2 "part_of" aj)(f_day_of:Fn P w K mg base 3 "day_of" aH)(f_lives:Fn P w K mg base 6 "lives" gR)(f_is_alive:Fn P w K mg base 2 "is_alive" bD):Fn P w K mg base 7 "inherited" fW:=F.fq X G ["book","known","so_far","heirs","number","person","day","told","office","heir"] 5 λnd _ _ _ _ _ _ _ hr hu=>(show JSs _ _ lq from
  (ak (aE (i:=5) nd (aq f_part_of hr (aa (az (ac 0) (ac 4)) (aa au af))))
   (ak (aE (i:=6) nd (aq f_day_of hr (aa (az (ac 0) (ac 4)) af)))
   (ak (aE (i:=7) nd (bo af))
   (ak (GV [5,6] (tK (cx (mz rfl T.n_sorted T.n_set (hZ ["claim","person","day"] (cpC rfl rfl (cpC rfl rfl (.nil rfl))) (cx (ac 2)) (λ_ _ _ _=>pgC 0) (bI (by decide)) (λ_ _ _ _=>(dP (iu (gK (aI (cm hu) (az (ac 0) ah) (ac 1)) (fw (bU (aq f_is_alive hr (aa (ac 0) (aa (ac 2) af))))))))) (λ_ _ _ _=>(az (ac 0) ah))))) (pgV 8 nd) eO (ak (aE (i:=9) nd (AF (hu1 hu) (ac 3) (aa (ac 8) (aa (ac 5) af)) ⟨rfl,rfl,rfl,rfl⟩))
   (ao (bd (iu (gK (aI qB (ac 9) cP) (fw (bU (aq f_lives hr (aa (ac 0) (aa (ac 1) (aa (ac 9) (aa (ac 6) af))))))))) (ao (fm (i:=7) (aK (aa (ac 8) (aa (ac 9) (aa (ac 6) (aa cP (aa (ac 4) af)))))))) aT)))))
   (ao (qy 7)))))))
theorem om (F:Def K "after_death" (top 37))(f_part_of:Fn P w K mg base 2 "part_of" aj)(f_day_of:Fn P w K mg base 3 "day_of" aH)(f_ended:Fn P w K mg base 3 "ended" iT)(f_inherited:Fn P w K mg base 7 "inherited" fW):Fn P w K mg base 8 "after_death" eK:=F.fq X G ["book","known","so_far","heirs","number","offices","left"] 5 λnd _ _ _ _ _ _ _ hr hu=>(show JSs _ _ je from
  (ak (mM ["claim"] nd (.nil rfl) (cx (ac 2)) (λ_ _ _ _=>pgC 0) (bI (by decide)) (λ_ _ _ _=>ky) (λ_ _ _ _=>(az (ac 0) ah)))
   (ak (aE (i:=6) nd (aq f_ended hr (aa (ac 2) (aa (ac 5) (aa (aq f_part_of hr (aa (az (ac 0) (ac 4)) (aa au af))) (aa (aq f_day_of hr (aa (az (ac 0) (ac 4)) af)) af))))))
   (ao (a7 (av aY (ac 6) (aq f_inherited hr (aa (ac 0) (aa (ac 1) (aa (ac 2) (aa (ac 3) (aa (ac 4) af))))))))))))
theorem zj (F:Def K "claims" (top 38))(f_word_of:Fn P w K mg base 1 "word_of" aC)(f_part_of:Fn P w K mg base 2 "part_of" aj)(f_day_of:Fn P w K mg base 3 "day_of" aH)(f_in_order:Fn P w K mg base 8 "in_order" dX)(f_by_office:Fn P w K mg base 1 "by_office" dA)(f_counts:Fn P w K mg base 10 "counts" iE)(f_new_claim:Fn P w K mg base 3 "new_claim" cU)(f_after_choice:Fn P w K mg base 4 "after_choice" dH)(f_after_death:Fn P w K mg base 8 "after_death" eK):Fn P w K mg base 11 "claims" gA:=F.fq X G ["book","known","so_far","heirs","number","row"] 2 λnd _ _ _ _ _ _ _ hr hu=>(show JSs _ _ tO from
  (ak (aE (i:=2) nd (bo af))
   (ak (CL (i:=3) nd)
   (ak (tK (cx (aq f_in_order hr (aa (ac 0) (aa (ac 1) af)))) (pgV 4 nd) eO (ak (aE (i:=5) nd (az (ac 0) (ac 4)))
   (ak (bd (dF (bU (aq f_counts hr (aa (ac 0) (aa (ac 1) (aa (ac 2) (aa (ac 4) af))))))) (ao C5) aT)
   (ao (bd (aI (cm hu) (aq f_word_of hr (aa (ac 5) af)) au) (ao (aE (i:=2) nd (av aY (ac 2) (bo (aa (aq f_new_claim hr (aa (ac 5) (aa (aq f_day_of hr (aa (ac 5) af)) (aa (ac 4) af)))) af))))) (ao (bd (aI (cm hu) (aq f_word_of hr (aa (ac 5) af)) au) (ao (aE (i:=2) nd (aq f_after_choice hr (aa (ac 2) (aa (ac 5) (aa (ac 4) af)))))) (ao (bd (aI (cm hu) (aq f_word_of hr (aa (ac 5) af)) au) (ao (CM (i:=3) (hu1 hu) (aq f_part_of hr (aa (ac 5) (aa au af))) (aa (aq f_part_of hr (aa (ac 5) (aa au af))) (aa (aq f_part_of hr (aa (ac 5) (aa au af))) af)))) (ao (aE (i:=2) nd (aq f_after_death hr (aa (ac 0) (aa (ac 1) (aa (ac 2) (aa (ac 3) (aa (ac 4) af)))))))))))))))))
   (ao (a7 (A4 A2 T.n_sorted (ac 2) (xc f_by_office (hr.in1.in1.mono (by decide)) rfl))))))))
theorem uB (F:Def K "is_paper" (top 42))(f_word_of:Fn P w K mg base 1 "word_of" aC)(f_is_known:Fn P w K mg base 1 "is_known" bV):Fn P w K mg base 2 "is_paper" dZ:=F.fq X G ["book","known","number"] 3 λnd _ _ _ _ _ _ _ hr hu=>(show JSs _ _ nj from
  (ao (a7 (gc (aq f_is_known hr (aa (ac 0) (aa (ac 1) (aa (ac 2) af)))) (fE (bT sD (aq f_word_of hr (aa (az (ac 0) (ac 2)) af)) (sA T.k_PAPERS)))))))
theorem uC (F:Def K "is_leave" (top 43))(f_word_of:Fn P w K mg base 1 "word_of" aC)(f_is_known:Fn P w K mg base 1 "is_known" bV):Fn P w K mg base 2 "is_leave" d5:=F.fq X G ["book","known","number"] 3 λnd _ _ _ _ _ _ _ hr hu=>(show JSs _ _ nn from
  (ao (a7 (gc (aq f_is_known hr (aa (ac 0) (aa (ac 1) (aa (ac 2) af)))) (fE (bT (cm hu) (aq f_word_of hr (aa (az (ac 0) (ac 2)) af)) au))))))
theorem uE (F:Def K "is_borne" (top 44))(f_is_paper:Fn P w K mg base 2 "is_paper" dZ)(f_is_leave:Fn P w K mg base 2 "is_leave" d5):Fn P w K mg base 3 "is_borne" gV:=F.fq X G ["book","known","number"] 3 λnd _ _ _ _ _ _ _ hr hu=>(show JSs _ _ np from
  (ao (a7 (D7 (aq f_is_leave hr (aa (ac 0) (aa (ac 1) (aa (ac 2) af)))) (fE (aq f_is_paper hr (aa (ac 0) (aa (ac 1) (aa (ac 2) af)))))))))
theorem zk (F:Def K "covers" (top 4))  : Fn P w K mg base 1 "covers" gB:=F.fq X G ["matters","some"] 2 λnd _ _ _ _ _ _ _ hr hu=>(show JSs _ _ nq from
  (ao (a7 (bT (cm hu) (av zW (ac 0) (ac 1)) (ac 1)))))
theorem rE (F:Def K "reach_bar" (top 45))(f_covers:Fn P w K mg base 1 "covers" gB)(f_word_of:Fn P w K mg base 1 "word_of" aC)(f_part_of:Fn P w K mg base 2 "part_of" aj):Fn P w K mg base 3 "reach_bar" dB:=F.fq X G ["row","above"] 2 λnd _ _ _ _ _ _ _ hr hu=>(show JSs _ _ lr from
  (ak (bd (dF (bU (aq f_covers hr (aa (aq f_part_of hr (aa (ac 1) (aa au af))) (aa (aq f_part_of hr (aa (ac 0) (aa au af))) af))))) (ao (a7 au)) aT)
   (ak (bd (iu (gK (aI (cm hu) (aq f_word_of hr (aa (ac 0) af)) au) (fw (aI HP (aq f_part_of hr (aa (ac 0) (aa au af))) (aq f_part_of hr (aa (ac 1) (aa au af))))))) (ao (a7 au)) aT)
   (ao (a7 cP)))))
theorem oE (F:Def K "office_bar" (top 46))(f_part_of:Fn P w K mg base 2 "part_of" aj)(f_day_of:Fn P w K mg base 3 "day_of" aH)(f_is_held_by:Fn P w K mg base 7 "is_held_by" ci)(f_reach_bar:Fn P w K mg base 3 "reach_bar" dB):Fn P w K mg base 8 "office_bar" dI:=F.fq X G ["claimed","row","root"] 3 λnd _ _ _ _ _ _ _ hr hu=>(show JSs _ _ jR from
  (ak (bd (dF (bU (aq f_is_held_by hr (aa (ac 0) (aa (ac 2) (aa (aq f_part_of hr (aa (ac 1) (aa au af))) (aa (aq f_day_of hr (aa (ac 1) af)) af))))))) (ao (a7 au)) aT)
   (ao (a7 (aq f_reach_bar hr (aa (ac 1) (aa (ac 2) af)))))))
theorem lJ (F:Def K "office_bases" (top 49))(f_part_of:Fn P w K mg base 2 "part_of" aj)(f_day_of:Fn P w K mg base 3 "day_of" aH)(f_roots:Fn P w K mg base 3 "roots" dr)(f_holder_by:Fn P w K mg base 6 "holder_by" bL)(f_office_bar:Fn P w K mg base 8 "office_bar" dI):Fn P w K mg base 9 "office_bases" dJ:=F.fq X G ["book","known","claimed","number","row","bearing"] 4 λnd _ _ _ _ _ _ _ hr hu=>(show JSs _ _ iG from
  (ak (aE (i:=4) nd (az (ac 0) (ac 3)))
   (ak (mM ["root","claimed","row"] nd (cpC rfl rfl (cpC rfl rfl (.nil rfl))) (CQ (aq f_roots hr (aa (ac 0) (aa (ac 1) af)))) (λ_ _ _ _=>pgC 0) (bI (by decide)) (λ_ _ _ _=>(dP (aI yv (aq f_office_bar hr (aa (ac 1) (aa (ac 2) (aa (ac 0) af)))) cP))) (λ_ _ _ _=>(ac 0)))
   (ao (a7 (hZ ["root","claimed","row"] (cpC rfl rfl (cpC rfl rfl (.nil rfl))) (cx (ac 5)) (λ_ _ _ _=>pgC 0) (bI (by decide)) (λ_ _ _ _=>ky) (λ_ _ _ _=>(aK (aa au (aa (aq f_part_of hr (aa (ac 0) (aa au af))) (aa (az (aq f_holder_by hr (aa (ac 1) (aa (ac 0) (aa (aq f_day_of hr (aa (ac 2) af)) af)))) ah) af)))))))))))
theorem oq (F:Def K "ends_within" (top 3))  : Fn P w K mg base 1 "ends_within" eM:=F.fq X G ["stop","bound"] 2 λnd _ _ _ _ _ _ _ hr hu=>(show JSs _ _ jf from
  (ak (bd (aI yv (ac 1) cP) (ao (a7 iq)) aT)
   (ao (a7 (gc (bT qB (ac 0) cP) (fE (bT jA (ac 0) (ac 1))))))))
theorem rF (F:Def K "is_within" (top 2))(f_ends_within:Fn P w K mg base 1 "ends_within" eM):Fn P w K mg base 2 "is_within" eX:=F.fq X G ["one","other"] 2 λnd _ _ _ _ _ _ _ hr hu=>(show JSs _ _ ls from
  (ao (a7 (gc (bT jA (az (ac 1) ah) (az (ac 0) ah)) (fE (aq f_ends_within hr (aa (az (ac 0) ah) (aa (az (ac 1) ah) af))))))))
theorem uF (F:Def K "is_ahead" (top 14))(f_rank:Fn P w K mg base 4 "rank" cE):Fn P w K mg base 5 "is_ahead" d6:=F.fq X G ["book","one","other"] 3 λnd _ _ _ _ _ _ _ hr hu=>(show JSs _ _ nu from
  (ao (a7 (bT (GZ hu) (aq f_rank hr (aa (ac 0) (aa (ac 1) af))) (aq f_rank hr (aa (ac 0) (aa (ac 2) af)))))))
theorem rG (F:Def K "leave_bar" (top 47))(f_lies_in:Fn P w K mg base 1 "lies_in" dY)(f_is_within:Fn P w K mg base 2 "is_within" eX)(f_part_of:Fn P w K mg base 2 "part_of" aj)(f_day_of:Fn P w K mg base 3 "day_of" aH)(f_is_ahead:Fn P w K mg base 5 "is_ahead" d6)(f_reach_bar:Fn P w K mg base 3 "reach_bar" dB):Fn P w K mg base 6 "leave_bar" eY:=F.fq X G ["book","number","leave","row","stretch"] 3 λnd _ _ _ _ _ _ _ hr hu=>(show JSs _ _ lu from
  (ak (aE (i:=3) nd (az (ac 0) (ac 1)))
   (ak (aE (i:=4) nd (aq f_part_of hr (aa (az (ac 0) (ac 2)) (aa au af))))
   (ak (bd (dF (bU (aq f_is_ahead hr (aa (ac 0) (aa (ac 2) (aa (ac 1) af)))))) (ao (a7 au)) aT)
   (ak (bd (iu (ja (dF (bU (aq f_lies_in hr (aa (aq f_day_of hr (aa (ac 3) af)) (aa (ac 4) af))))) (ir (dF (bU (aq f_is_within hr (aa (aq f_part_of hr (aa (ac 3) (aa au af))) (aa (ac 4) af)))))))) (ao (a7 au)) aT)
   (ao (a7 (aq f_reach_bar hr (aa (ac 3) (aa (az (ac 0) (ac 2)) af))))))))))
theorem rH (F:Def K "leaves_to" (top 48))(f_part_of:Fn P w K mg base 2 "part_of" aj)(f_heard:Fn P w K mg base 1 "heard" bQ)(f_is_leave:Fn P w K mg base 2 "is_leave" d5):Fn P w K mg base 3 "leaves_to" fX:=F.fq X G ["book","known","person","leaves"] 3 λnd _ _ _ _ _ _ _ hr hu=>(show JSs _ _ lw from
  (ak (mM ["number","book","known"] nd (cpC rfl rfl (cpC rfl rfl (.nil rfl))) (cx (aq f_heard hr (aa (ac 0) (aa (ac 1) af)))) (λ_ _ _ _=>pgC 0) (bI (by decide)) (λ_ _ _ _=>(dP (bU (aq f_is_leave hr (aa (ac 1) (aa (ac 2) (aa (ac 0) af))))))) (λ_ _ _ _=>(ac 0)))
   (ao (a7 (hZ ["number","person","book"] (cpC rfl rfl (cpC rfl rfl (.nil rfl))) (cx (ac 3)) (λ_ _ _ _=>pgC 0) (bI (by decide)) (λ_ _ _ _=>(dP (aI (cm hu) (aq f_part_of hr (aa (az (ac 2) (ac 0)) (aa au af))) (ac 1)))) (λ_ _ _ _=>(ac 0)))))))
theorem ot (F:Def K "leave_bases" (top 50))(f_part_of:Fn P w K mg base 2 "part_of" aj)(f_leave_bar:Fn P w K mg base 6 "leave_bar" eY)(f_leaves_to:Fn P w K mg base 3 "leaves_to" fX):Fn P w K mg base 7 "leave_bases" eN:=F.fq X G ["book","known","number","leaves"] 3 λnd _ _ _ _ _ _ _ hr hu=>(show JSs _ _ jg from
  (ak (aE (i:=3) nd (aq f_leaves_to hr (aa (ac 0) (aa (ac 1) (aa (aq f_part_of hr (aa (az (ac 0) (ac 2)) (aa au af))) af)))))
   (ao (a7 (hZ ["leave","book","number"] (cpC rfl rfl (cpC rfl rfl (.nil rfl))) (cx (ac 3)) (λ_ _ _ _=>pgC 0) (bI (by decide)) (λ_ _ _ _=>(dP (aI yv (aq f_leave_bar hr (aa (ac 1) (aa (ac 2) (aa (ac 0) af)))) cP))) (λ_ _ _ _=>(aK (aa au (aa (ac 0) af)))))))))
theorem oF (F:Def K "copy_bases" (top 51))(f_part_of:Fn P w K mg base 2 "part_of" aj)(f_is_ahead:Fn P w K mg base 5 "is_ahead" d6)(f_is_paper:Fn P w K mg base 2 "is_paper" dZ):Fn P w K mg base 6 "copy_bases" gW:=F.fq X G ["book","known","number","of"] 3 λnd _ _ _ _ _ _ _ hr hu=>(show JSs _ _ jS from
  (ak (aE (i:=3) nd (aq f_part_of hr (aa (az (ac 0) (ac 2)) (aa au af))))
   (ak (bd (iu (gK (bU (aq f_is_paper hr (aa (ac 0) (aa (ac 1) (aa (ac 3) af))))) (fw (bU (aq f_is_ahead hr (aa (ac 0) (aa (ac 3) (aa (ac 2) af)))))))) (ao (a7 (bo (aa (aK (aa au (aa (ac 3) af))) af)))) aT)
   (ao (a7 (bo af))))))
theorem uG (F:Def K "bases_by" (top 52))(f_word_of:Fn P w K mg base 1 "word_of" aC)(f_is_borne:Fn P w K mg base 3 "is_borne" gV)(f_office_bases:Fn P w K mg base 9 "office_bases" dJ)(f_leave_bases:Fn P w K mg base 7 "leave_bases" eN)(f_copy_bases:Fn P w K mg base 6 "copy_bases" gW)(l_bases_by:mB K "bases_by"):Fn P w K mg base 10 "bases_by" gX:=F.fqL X G ["book","known","claimed","number","found"] 4 λnd _ _ _ _ _ _ _ hcd hr hu=>(show JSs _ _ nv from
  (ak (bd (dF (bU (aq f_is_borne hr (aa (ac 0) (aa (ac 1) (aa (ac 3) af)))))) (ao (a7 (bo af))) aT)
   (ak (bd (aI (cm hu) (aq f_word_of hr (aa (az (ac 0) (ac 3)) af)) au) (ao (a7 (aq f_copy_bases hr (aa (ac 0) (aa (ac 1) (aa (ac 3) af)))))) aT)
   (ak (aE (i:=4) nd (av aY (aq f_office_bases hr (aa (ac 0) (aa (ac 1) (aa (ac 2) (aa (ac 3) af))))) (aq f_leave_bases hr (aa (ac 0) (aa (ac 1) (aa (ac 3) af))))))
   (ao (a7 (A4 (AK hu) T.n_sorted (ac 4) (qQ (cap:=[]) (N':=["base"]) (by decide +kernel) l_bases_by hcd rfl rfl (wZ (by decide +kernel) rfl rfl rfl rfl rfl) rfl (.nil rfl) rfl hr.in1.in1 (λ_ _ _ _=>rfl) λ_ _ _ _ hr=>have hu:=vn hr;(aK (aa (az (ac 0) (wx wF ah)) (aa (ac 0) af)))))))))))
theorem BB (F:Def K "bases" (top 53))(f_claims:Fn P w K mg base 11 "claims" gA)(f_bases_by:Fn P w K mg base 10 "bases_by" gX):Fn P w K mg base 12 "bases" lQ:=F.fq X G ["book","known","number"] 3 λnd _ _ _ _ _ _ _ hr hu=>(show JSs _ _ x0 from
  (ao (a7 (aq f_bases_by hr (aa (ac 0) (aa (ac 1) (aa (aq f_claims hr (aa (ac 0) (aa (ac 1) af))) (aa (ac 2) af))))))))
theorem zl (F:Def K "_law_cell" (top 55))  : Fn P w K mg base 1 "_law_cell" cI:=F.fq X G ["_law_script","_law_k","_law_cell_here"] 2 λnd _ _ _ _ _ _ _ hr hu=>(show JSs _ _ tP from
  (ak (aE (i:=2) nd ah)
   (ak (bd (aI Cu (bu iw T.n_len iz (aa (ac 0) af)) ah) (ao (aE (i:=2) nd (az (ac 0) (av bj (ac 1) (bu iw T.n_len iz (aa (ac 0) af)))))) aT)
   (ak (aE (i:=2) nd (av bj (av cu (av aY (av aY (av bj (ac 2) ah) (av cu ah (ac 1))) ah) ah) ah))
   (ao (a7 (av bj (av cu (ac 2) (av aY (av aY (av bj (ac 2) ah) (ac 1)) ah)) ah)))))))
theorem wg (F:Def K "_law_names" (top 56))  : Fn P w K mg base 1 "_law_names" kK:=F.fq X G ["_law_cell_here","_law_letters","_law_base","_law_at","_law_names_here","_law_k","_law_name"] 1 λnd _ _ _ _ _ _ _ hr hu=>(show JSs _ _ pP from
  (ak (aE (i:=1) nd au)
   (ak (mM ["_law_k","_law_letters","_law_cell_here"] nd (cpC rfl rfl (cpC rfl rfl (.nil rfl))) (sF T.n_range (av aY ah (av bj (ac 0) ah))) (λ_ _ _ _=>pgC 0) (bI (by decide)) (λ_ _ _ _=>ky) (λ_ _ _ _=>(az (ac 1) (av bj (av bp (ac 2) (av aY ah (av cu ah (ac 0)))) ah))))
   (ak (aE (i:=3) nd (av bj (av bp (ac 0) ah) (bu iw T.n_len iz (aa (ac 2) af))))
   (ak (aE (i:=4) nd (bo af))
   (ak (xl (i7 T.n_range ah) (pgV 5 nd) eO (ak (aE (i:=6) nd (d8 Ah T.n_list vp (aa (ac 2) af)))
   (ak (Ai (i:=6) (az (ac 1) (av bj (av aY (av bp (ac 0) ah) (av cu ah (ac 5))) ah)) (ac 3))
   (ao (fm (i:=4) (Fl PySem.F.slot_str_join PySem.F.type_str_join Fo Af au (ac 6)))))))
   (ak (bd (aI (cm hu) (av bj (av bp (ac 0) ah) ah) ah) (ao (Ai (i:=4) (az (ac 4) ah) ah)) aT)
   (ao (qy 4)))))))))
theorem rJ (F:Def K "_law_stretch" (top 57))  : Fn P w K mg base 1 "_law_stretch" dC:=F.fq X G ["_law_cell_here","_law_day","_law_measure","_law_some"] 3 λnd _ _ _ _ _ _ _ hr hu=>(show JSs _ _ lx from
  (ak (aE (i:=3) nd (bo (aa (aK (b7 (aa cP af))) (aa (aK (aa (ac 1) (aa cP af))) (aa (aK (aa (ac 1) (aa (av aY (ac 1) (av cu ah (ac 2))) af))) (aa (aK (b7 (aa (av aY (ac 1) (av cu ah (ac 2))) af))) (aa (aK (b7 (aa (av cu ah (ac 2)) af))) af)))))))
   (ak (aE (i:=3) nd (av aY (ac 3) (bo (aa (aK (aa (av aY (ac 1) (ac 2)) (aa (av aY (ac 1) (av cu ah (ac 2))) af))) (aa (aK (aa (av bp (ac 1) ah) (aa (av aY (ac 1) (av cu ah (ac 2))) af))) (aa (aK (b7 (aa cP af))) af))))))
   (ao (a7 (az (ac 3) (av bj (ac 0) ah)))))))
theorem zm (F:Def K "_law_deed" (top 58))(f_w_stretch:Fn P w K mg base 1 "_law_stretch" dC):Fn P w K mg base 2 "_law_deed" jT:=F.fq X G ["_law_many","_law_cell_here","_law_other","_law_names_here","_law_day","_law_had","_law_measure","_law_kinds","_law_word","_law_by","_law_person","_law_of","_law_matters","_law_further","_law_start"] 7 λnd _ _ _ _ _ _ _ hr hu=>(show JSs _ _ tQ from
  (ak (aE (i:=7) nd (av aY (av aY (AD (bo (aa au af)) ah) (AD (bo (aa au af)) ah)) (bo (aa au (aa au (aa au (aa au (aa au af))))))))
   (ak (aE (i:=7) nd (av aY (ac 7) (bo (aa au (aa au (aa au (aa au (aa au (aa au af)))))))))
   (ak (aE (i:=8) nd (az (ac 7) (av bj (ac 1) ah)))
   (ak (aE (i:=9) nd (az (ac 5) (av zV (wx wF ah) (av bj (av bp (ac 1) ah) (bu GK T.n_min GH (b7 (aa (bu iw T.n_len iz (aa (ac 5) af)) af)))))))
   (ak (bd (aI (cm hu) (av bj (av bp (ac 1) ah) ah) ah) (ao (aE (i:=9) nd (az (ac 3) (av bj (av bp (ac 1) ah) ah)))) aT)
   (ak (aE (i:=10) nd (az (ac 3) (av bj (av bp (ac 1) ah) ah)))
   (ak (aE (i:=11) nd (bu GJ T.n_max GG (b7 (aa (av zV (av zV (ac 0) ah) (av bj (ac 2) ah)) af))))
   (ak (bd (aI (cm hu) (av bj (av bp (ac 2) ah) ah) ah) (ao (aE (i:=11) nd (av bj (av bp (ac 2) ah) ah))) aT)
   (ak (bd (aI (cm hu) (ac 8) au) (ak (aE (i:=12) nd (by refine az (hs:=?_) ?_ ?_;refine bo ?_;refine b7 ?_;refine b7 ?_;refine b7 ?_;refine b7 ?_;refine b7 ?_;refine b7 ?_;refine b7 ?_;refine b7 ?_;exact af;exact(av bj (av bp (ac 1) ah) ah);intro _ _;rfl))
   (ak (aE (i:=13) nd (av bj (av bp (ac 2) ah) (az (bo (b7 (b7 (b7 (b7 af))))) (av bj (av bp (ac 2) ah) ah))))
   (ao (a7 (aK (aa (ac 8) (aa (ac 4) (aa (ac 9) (aa (ac 10) (aa (ac 12) (aa (aq f_w_stretch hr (aa (av bp (ac 2) ah) (aa (ac 4) (aa (ac 6) af)))) (aa (ac 13) af)))))))))))) aT)
   (ak (bd (iu (ja (aI (cm hu) (ac 8) au) (ir (aI (cm hu) (ac 8) au)))) (ak (aE (i:=12) nd (by refine az (hs:=?_) ?_ ?_;refine bo ?_;refine b7 ?_;refine b7 ?_;refine b7 ?_;refine b7 ?_;refine b7 ?_;refine b7 ?_;refine b7 ?_;refine b7 ?_;exact af;exact(av bj (av bp (ac 1) ah) ah);intro _ _;rfl))
   (ak (aE (i:=14) nd (aK (aa (ac 8) (aa (ac 4) (aa (ac 9) (aa (ac 12) (aa (aq f_w_stretch hr (aa (av bp (ac 2) ah) (aa (ac 4) (aa (ac 6) af)))) (aa (az (bo (aa cP (aa (ac 10) af))) (av bj (av bp (ac 2) ah) ah)) af))))))))
   (ak (bd (aI (cm hu) (ac 8) au) (ao (a7 (av A8 (ac 14) (aK (aa (ac 11) (aa (aK (aa (aK (b7 (aa (ac 10) af))) af)) af)))))) aT)
   (ao (a7 (av A8 (ac 14) (aK (aa (aK (aa (ac 10) af)) af)))))))) aT)
   (ak (bd (aI sD (ac 8) (aK (aa au (aa au af)))) (ao (a7 (aK (aa (ac 8) (aa (ac 4) (aa (ac 9) (aa (ac 11) af))))))) aT)
   (ak (bd (aI (cm hu) (ac 8) au) (ao (a7 (aK (aa (ac 8) (aa (ac 4) (aa (az (ac 3) (av aY ah (av bj (ac 2) ah))) (aa (ac 10) af))))))) aT)
   (ak (bd (aI (cm hu) (ac 8) au) (ao (a7 (aK (aa (ac 8) (aa (ac 4) (aa (ac 9) (aa (az (ac 3) (av aY ah (av bj (ac 2) ah))) (aa (ac 10) (aa (av aY (ac 4) (av cu (av bj (av bp (ac 2) ah) ah) (ac 6))) af))))))))) aT)
   (ak (bd (aI (cm hu) (ac 8) au) (ao (a7 (aK (aa (ac 8) (aa (ac 4) (aa (ac 9) (aa (az (ac 3) (av aY ah (av bj (ac 2) ah))) (aa (ac 10) af)))))))) aT)
   (ao (a7 (aK (aa (ac 8) (aa (ac 4) (aa (ac 9) af)))))))))))))))))))))
theorem zn (F:Def K "_law_rows" (top 59))(f_w_cell:Fn P w K mg base 1 "_law_cell" cI)(f_w_deed:Fn P w K mg base 2 "_law_deed" jT):Fn P w K mg base 3 "_law_rows" nw:=F.fq X G ["_law_script","_law_names_here","_law_measure","_law_most","_law_head","_law_rows_here","_law_had","_law_k","_law_rule","_law_matters","_law_late","_law_further","_law_cell_here","_law_day","_law_deed_here"] 4 λnd _ _ _ _ _ _ _ hr hu=>(show JSs _ _ tR from
  (ak (aE (i:=4) nd (aq f_w_cell hr (aa (ac 0) (b7 af))))
   (ak (aE (i:=5) nd (bo af))
   (ak (aE (i:=6) nd (bo af))
   (ak (xl (i7 T.n_range (az (bo (b7 (b7 (b7 (b7 af))))) (av bj (ac 4) ah))) (pgV 7 nd) eO (ak (aE (i:=8) nd (az (bo (aa au (aa au (aa au af)))) (av bj (av bp (ac 4) (av aY ah (av cu ah (ac 7)))) ah)))
   (ak (aE (i:=9) nd (az (bo (b7 (b7 (b7 (b7 af))))) (av bj (av bp (ac 4) (av aY ah (av cu ah (ac 7)))) ah)))
   (ak (aE (i:=10) nd (av cu (av cu (d8 Aj T.n_int wH (aa (bT (cm hu) (av bj (av bp (ac 4) (av aY ah (ac 7))) ah) ah) af)) ah) (ac 2)))
   (ak (aE (i:=11) nd (av bj (av bp (ac 4) (av aY ah (av cu ah (ac 7)))) (az (bo (b7 (b7 (b7 af)))) (av bj (av bp (ac 4) (av aY ah (ac 7))) ah))))
   (ak (fm (i:=5) (aK (aa (ac 10) (aa (aK (aa au (aa (az (ac 1) (av aY ah (ac 7))) (aa (ac 9) (aa (ac 11) (aa (ac 8) af)))))) af))))
   (ak (fm (i:=5) (aK (b7 (aa (aK (aa au (b7 (aa (az (ac 1) (av aY ah (ac 7))) (aa (az (ac 1) (av cu (ac 7) (d8 Aj T.n_int wH (aa (bT Cu (av bj (av bp (ac 4) ah) ah) ah) af)))) af))))) af))))
   (ao (fm (i:=6) (az (ac 1) (ac 7)))))))))))
   (ak (xl (i7 T.n_range (av aY ah (av bj (aq f_w_cell hr (aa (ac 0) (b7 af))) (ac 3)))) (pgV 7 nd) eO (ak (aE (i:=12) nd (aq f_w_cell hr (aa (ac 0) (aa (av aY ah (ac 7)) af))))
   (ak (aE (i:=13) nd (av cu (av aY (av bp (ac 7) ah) (av bj (av bp (ac 12) ah) ah)) (ac 2)))
   (ak (aE (i:=14) nd (aq f_w_deed hr (aa (bu iw T.n_len iz (aa (ac 5) af)) (aa (aq f_w_cell hr (aa (ac 0) (aa (av aY ah (ac 7)) af))) (aa (aq f_w_cell hr (aa (ac 0) (aa (av aY ah (ac 7)) af))) (aa (ac 1) (aa (ac 13) (aa (ac 6) (aa (ac 2) af)))))))))
   (ak (bd (aI sD (az (ac 14) ah) (aK (aa au (aa au af)))) (ao (fm (i:=6) (az (ac 14) ah))) aT)
   (ak (bd (aI (cm hu) (az (ac 14) ah) au) (ao (fm (i:=6) (az (ac 14) ah))) aT)
   (ao (fm (i:=5) (aK (aa (av aY (ac 13) (av cu (by refine az (hs:=?_) ?_ ?_;refine bo ?_;refine b7 ?_;refine b7 ?_;refine b7 ?_;refine b7 ?_;refine b7 ?_;refine b7 ?_;exact af;exact(av bj (av bp (ac 12) ah) ah);intro _ _;rfl) (ac 2))) (aa (ac 14) af)))))))))))
   (ao (a7 (d8 wM T.n_tuple qC (aa (ac 5) af))))))))))
theorem zo (F:Def K "holder" (top 39))(f_roots:Fn P w K mg base 3 "roots" dr)(f_holder_by:Fn P w K mg base 6 "holder_by" bL)(f_claims:Fn P w K mg base 11 "claims" gA):Fn P w K mg base 12 "holder" iH:=F.fq X G ["book","known","office","day","root"] 4 λnd _ _ _ _ _ _ _ hr hu=>(show JSs _ _ tS from
  (ak (aE (i:=4) nd (tI (hu1 hu) (aq f_roots hr (aa (ac 0) (aa (ac 1) af))) (ac 2) ⟨rfl,rfl,rfl,rfl⟩))
   (ak (bd (aI yv (ac 4) cP) (ao (a7 (aK (aa au af)))) aT)
   (ao (a7 (aq f_holder_by hr (aa (aq f_claims hr (aa (ac 0) (aa (ac 1) af))) (aa (ac 4) (aa (ac 3) af)))))))))
theorem uH (F:Def K "_law_within" (top 60))  : Fn P w K mg base 1 "_law_within" eu:=F.fq X G ["_law_matters","_law_some"] 2 λnd _ _ _ _ _ _ _ hr hu=>(show JSs _ _ nz from
  (ao (a7 (bu GP T.n_all GI (aa (hZ ["_law_bit","_law_matters","_law_some"] (cpC rfl rfl (cpC rfl rfl (.nil rfl))) (sF T.n_range ah) (λ_ _ _ _=>pgC 0) (bI (by decide)) (λ_ _ _ _=>(dP (aI (cm hu) (av zW (av D8 (ac 2) (ac 0)) ah) ah))) (λ_ _ _ _=>(bT (cm hu) (av zW (av D8 (ac 1) (ac 0)) ah) ah))) af)))))
theorem BC (F:Def K "_law_due" (top 61))(f_holder:Fn P w K mg base 12 "holder" iH)(f_w_within:Fn P w K mg base 1 "_law_within" eu):Fn P w K mg base 13 "_law_due" qW:=F.fq X G ["_law_rows_here","_law_known","_law_deed_here","_law_found","_law_there","_law_root","_law_told"] 3 λnd _ _ _ _ _ _ _ hr hu=>(show JSs _ _ xA from
  (ak (aE (i:=3) nd (bo af))
   (ak (tK (cx (ac 0)) (uI rfl (gk (pgV 4 nd) (gk (pgV 5 nd) qi))) GS (ao (bd (iu (gK (aI jA (ac 4) (ac 1)) (fw (aI (cm hu) (az (ac 5) ah) au)))) (ak (Cv (i:=6) nd (aq f_holder hr (aa (ac 0) (aa (ac 1) (aa (az (ac 5) ah) (aa (az (ac 2) ah) af))))))
   (ao (bd (iu (gK (aI (cm hu) (sK (ac 6) wA (wB ah)) (aK (aa au (aa (az (ac 2) ah) af)))) (fw (bU (aq f_w_within hr (aa (az (ac 5) ah) (aa (az (ac 2) (av aY ah (d8 Aj T.n_int wH (aa (bT (cm hu) (az (ac 2) ah) au) af)))) af))))))) (ao (bd (iu (ja (aI (Ff hu) (az (ac 2) ah) au) (ir (aI wE (az (ac 2) ah) (az (ac 5) ah))))) (ao (fm (i:=3) (aK (aa (az (ac 6) ah) (aa (az (ac 5) ah) af))))) aT)) aT))) aT)))
   (ao (a7 (hZ ["_law_number","_law_office"] (.nil rfl) (cx (bu Ax T.n_sorted sZ (aa (ac 3) af))) (λ_ _ _ _=>uI rfl (gk (pgC 0) (gk (pgC 1) qi))) (DS (by decide)) (λ_ _ _ _=>ky) (λ_ _ _ _=>(aK (aa au (aa (ac 1) (aa (ac 0) af)))))))))))
theorem wj (F:Def K "_law_right" (top 62))  : Fn P w K mg base 1 "_law_right" iV:=F.fq X G ["_law_found","_law_due_here","_law_base"] 2 λnd _ _ _ _ _ _ _ hr hu=>(show JSs _ _ pQ from
  (ak (bd (iu (ja (dF (bU (bu f6 T.n_isinstance fz (aa (ac 0) (aa (wC T.n_list vp) af))))) (ir (aI (Ff hu) (hZ ["_law_base"] (.nil rfl) (cx (ac 0)) (λ_ _ _ _=>pgC 0) (bI (by decide)) (λ_ _ _ _=>(dP (aI (cm hu) (az (ac 0) ah) au))) (λ_ _ _ _=>(ac 0))) (ac 1))))) (ao (a7 iq)) aT)
   (ak (tK (cx (ac 0)) (pgV 2 nd) eO (ao (bd (iu (ja (dF (bU (bu f6 T.n_isinstance fz (aa (ac 2) (aa (wC T.n_tuple qC) af))))) (ja (dF (bU (bu f6 T.n_isinstance fz (aa (az (ac 2) (wx wF ah)) (aa (wC T.n_int wH) af))))) (ir (bU (bu f6 T.n_isinstance fz (aa (az (ac 2) (wx wF ah)) (aa (wC T.n_bool Fg) af)))))))) (ao (a7 iq)) aT)))
   (ao (a7 iq)))))
end
end
theorem head {P:Program}{w:World}{K:PySem.W.Frag}{h:Heap}{mg:Str->Option Value}{fa:Addr}(X:K.In h)(G:h.Ns mainGlobals mg)(hfa:mg "law" = some (.ref fa))
  (d_word_of:Def K "word_of" (top 7)) (d_part_of:Def K "part_of" (top 8)) (d_day_of:Def K "day_of" (top 9)) (d_heard:Def K "heard" (top 11)) (d_rank:Def K "rank" (top 13)) (d_in_order:Def K "in_order" (top 15)) (d_by_office:Def K "by_office" (top 27)) (d_roots:Def K "roots" (top 16)) (d_is_known:Def K "is_known" (top 12)) (d_tells:Def K "tells" (top 19)) (d_told_of:Def K "told_of" (top 20)) (d_lives:Def K "lives" (top 21)) (d_has_seal:Def K "has_seal" (top 22)) (d_is_sound:Def K "is_sound" (top 23)) (d_lies_in:Def K "lies_in" (top 1)) (d_is_alive:Def K "is_alive" (top 25)) (d_by_since:Def K "by_since" (top 26)) (d_chief_of:Def K "chief_of" (top 28)) (d_holder_by:Def K "holder_by" (top 29)) (d_is_held_by:Def K "is_held_by" (top 30)) (d_is_first_death:Def K "is_first_death" (top 31)) (d_counts:Def K "counts" (top 32)) (d_new_claim:Def K "new_claim" (top 33)) (d_ended:Def K "ended" (top 34)) (d_after_choice:Def K "after_choice" (top 35)) (d_inherited:Def K "inherited" (top 36)) (d_after_death:Def K "after_death" (top 37)) (d_claims:Def K "claims" (top 38)) (d_is_paper:Def K "is_paper" (top 42)) (d_is_leave:Def K "is_leave" (top 43)) (d_is_borne:Def K "is_borne" (top 44)) (d_covers:Def K "covers" (top 4)) (d_reach_bar:Def K "reach_bar" (top 45)) (d_office_bar:Def K "office_bar" (top 46)) (d_office_bases:Def K "office_bases" (top 49)) (d_ends_within:Def K "ends_within" (top 3)) (d_is_within:Def K "is_within" (top 2)) (d_is_ahead:Def K "is_ahead" (top 14)) (d_leave_bar:Def K "leave_bar" (top 47)) (d_leaves_to:Def K "leaves_to" (top 48)) (d_leave_bases:Def K "leave_bases" (top 50)) (d_copy_bases:Def K "copy_bases" (top 51)) (d_bases_by:Def K "bases_by" (top 52)) (d_bases:Def K "bases" (top 53)) (d_w_cell:Def K "_law_cell" (top 55)) (d_w_names:Def K "_law_names" (top 56)) (d_w_stretch:Def K "_law_stretch" (top 57)) (d_w_deed:Def K "_law_deed" (top 58)) (d_w_rows:Def K "_law_rows" (top 59)) (d_holder:Def K "holder" (top 39)) (d_w_within:Def K "_law_within" (top 60)) (d_w_due:Def K "_law_due" (top 61)) (d_w_right:Def K "_law_right" (top 62)) (d_law:Def K "law" (top 63))
  (z_all:PySem.W.nsIn K mainGlobals "all" = some none) (z_bool:PySem.W.nsIn K mainGlobals "bool" = some none) (z_dict:PySem.W.nsIn K mainGlobals "dict" = some none) (z_enumerate:PySem.W.nsIn K mainGlobals "enumerate" = some none) (z_int:PySem.W.nsIn K mainGlobals "int" = some none) (z_isinstance:PySem.W.nsIn K mainGlobals "isinstance" = some none) (z_len:PySem.W.nsIn K mainGlobals "len" = some none) (z_list:PySem.W.nsIn K mainGlobals "list" = some none) (z_max:PySem.W.nsIn K mainGlobals "max" = some none) (z_min:PySem.W.nsIn K mainGlobals "min" = some none) (z_range:PySem.W.nsIn K mainGlobals "range" = some none) (z_set:PySem.W.nsIn K mainGlobals "set" = some none) (z_sorted:PySem.W.nsIn K mainGlobals "sorted" = some none) (z_tuple:PySem.W.nsIn K mainGlobals "tuple" = some none)
  (k_PAPERS:∃u v,PySem.W.nsIn K mainGlobals "PAPERS" = some (some u)/\aS v u/\∀B,Is K B v mQ) (k_PARTS:∃d,PySem.W.nsIn K mainGlobals "PARTS" = some (some (.ref d))/\pj K w.params d eJ) (k_SEALINGS:∃u v,PySem.W.nsIn K mainGlobals "SEALINGS" = some (some u)/\aS v u/\∀B,Is K B v dW)
  (l_in_order:mB K "in_order") (l_has_seal:mB K "has_seal") (l_is_first_death:mB K "is_first_death") (l_bases_by:mB K "bases_by"):
  ∃fd:FuncData,(∀(s:Shared)(u:Value),BindsTo s fd ⟨[u],[]⟩ [("_law_script",u)])/\∀base:Heap,K.In base->base.Ns mainGlobals mg->FnOk P w K mg base CX0 14 fa fd ["_law_script"] (spD K F_law):=by
 have T:Tx K w.params mg:=⟨PySem.W.mg_none_of X G z_all,PySem.W.mg_none_of X G z_bool,PySem.W.mg_none_of X G z_dict,PySem.W.mg_none_of X G z_enumerate,PySem.W.mg_none_of X G z_int,PySem.W.mg_none_of X G z_isinstance,PySem.W.mg_none_of X G z_len,PySem.W.mg_none_of X G z_list,PySem.W.mg_none_of X G z_max,PySem.W.mg_none_of X G z_min,PySem.W.mg_none_of X G z_range,PySem.W.mg_none_of X G z_set,PySem.W.mg_none_of X G z_sorted,PySem.W.mg_none_of X G z_tuple,(let ⟨u,v,e,r⟩:=k_PAPERS;⟨u,v,PySem.W.mg_of X G e,r⟩),(let ⟨d,e,r⟩:=k_PARTS;⟨d,PySem.W.mg_of X G e,r⟩),(let ⟨u,v,e,r⟩:=k_SEALINGS;⟨u,v,PySem.W.mg_of X G e,r⟩)⟩;have S:FnScope ["_law_script","_law_names_here","_law_measure","_law_rows_here","_law_known","_law_handed","_law_number","_law_due_here","_law_found"] ["_law_script"] (aM (top 63)):=by refine⟨rfl,rfl,rfl,?_,rfl,?_,?_⟩<;>decide +kernel
 refine Def.law d_law X G hfa S (λ_ _ _ _ _ _ u=>rfl) λbase kb nb=>?_;have f_word_of:=wb P w base T X G d_word_of;have f_part_of:=wc P w base T X G d_part_of f_word_of;have f_day_of:=zh P w base T X G d_day_of f_word_of f_part_of;have f_heard:=B6 P w base T X G d_heard;have f_rank:=Du P w base T X G d_rank f_day_of;have f_in_order:=ux P w base T X G d_in_order f_day_of f_heard f_rank l_in_order;have f_by_office:=r9 P w base T X G d_by_office;have f_roots:=B7 P w base T X G d_roots f_word_of f_part_of f_heard;have f_is_known:=uy P w base T X G d_is_known;have f_tells:=B8 P w base T X G d_tells f_word_of f_part_of f_day_of;have f_told_of:=we P w base T X G d_told_of f_heard f_tells;have f_lives:=B9 P w base T X G d_lives f_told_of;have f_has_seal:=uz P w base T X G d_has_seal f_word_of f_rank f_told_of l_has_seal;have f_is_sound:=u0 P w base T X G d_is_sound f_word_of f_part_of f_day_of f_is_known f_lives f_has_seal;have f_lies_in:=wf P w base T X G d_lies_in;have f_is_alive:=u5 P w base T X G d_is_alive f_lies_in;have f_by_since:=u6 P w base T X G d_by_since;have f_chief_of:=uA P w base T X G d_chief_of f_by_since;have f_holder_by:=rA P w base T X G d_holder_by f_part_of f_is_alive f_by_since f_chief_of;have f_is_held_by:=oD P w base T X G d_is_held_by f_holder_by;have f_is_first_death:=kn P w base T X G d_is_first_death f_part_of f_day_of f_rank f_told_of l_is_first_death;have f_counts:=zi P w base T X G d_counts f_word_of f_part_of f_day_of f_roots f_is_sound f_is_held_by f_is_first_death;have f_new_claim:=rB P w base T X G d_new_claim f_part_of;have f_ended:=BA P w base T X G d_ended f_is_alive;have f_after_choice:=lI P w base T X G d_after_choice f_part_of f_new_claim f_ended;have f_inherited:=rC P w base T X G d_inherited f_part_of f_day_of f_lives f_is_alive;have f_after_death:=om P w base T X G d_after_death f_part_of f_day_of f_ended f_inherited;have f_claims:=zj P w base T X G d_claims f_word_of f_part_of f_day_of f_in_order f_by_office f_counts f_new_claim f_after_choice f_after_death;have f_is_paper:=uB P w base T X G d_is_paper f_word_of f_is_known;have f_is_leave:=uC P w base T X G d_is_leave f_word_of f_is_known;have f_is_borne:=uE P w base T X G d_is_borne f_is_paper f_is_leave;have f_covers:=zk P w base T X G d_covers;have f_reach_bar:=rE P w base T X G d_reach_bar f_covers f_word_of f_part_of;have f_office_bar:=oE P w base T X G d_office_bar f_part_of f_day_of f_is_held_by f_reach_bar;have f_office_bases:=lJ P w base T X G d_office_bases f_part_of f_day_of f_roots f_holder_by f_office_bar;have f_ends_within:=oq P w base T X G d_ends_within;have f_is_within:=rF P w base T X G d_is_within f_ends_within;have f_is_ahead:=uF P w base T X G d_is_ahead f_rank;have f_leave_bar:=rG P w base T X G d_leave_bar f_lies_in f_is_within f_part_of f_day_of f_is_ahead f_reach_bar;have f_leaves_to:=rH P w base T X G d_leaves_to f_part_of f_heard f_is_leave;have f_leave_bases:=ot P w base T X G d_leave_bases f_part_of f_leave_bar f_leaves_to;have f_copy_bases:=oF P w base T X G d_copy_bases f_part_of f_is_ahead f_is_paper;have f_bases_by:=uG P w base T X G d_bases_by f_word_of f_is_borne f_office_bases f_leave_bases f_copy_bases l_bases_by;have f_bases:=BB P w base T X G d_bases f_claims f_bases_by;have f_w_cell:=zl P w base T X G d_w_cell;have f_w_names:=wg P w base T X G d_w_names;have f_w_stretch:=rJ P w base T X G d_w_stretch;have f_w_deed:=zm P w base T X G d_w_deed f_w_stretch;have f_w_rows:=zn P w base T X G d_w_rows f_w_cell f_w_deed;have f_holder:=zo P w base T X G d_holder f_roots f_holder_by f_claims;have f_w_within:=uH P w base T X G d_w_within;have f_w_due:=BC P w base T X G d_w_due f_holder f_w_within;have f_w_right:=wj P w base T X G d_w_right;clear d_word_of d_part_of d_day_of d_heard d_rank d_in_order d_by_office d_roots d_is_known d_tells d_told_of d_lives d_has_seal d_is_sound d_lies_in d_is_alive d_by_since d_chief_of d_holder_by d_is_held_by d_is_first_death d_counts d_new_claim d_ended d_after_choice d_inherited d_after_death d_claims d_is_paper d_is_leave d_is_borne d_covers d_reach_bar d_office_bar d_office_bases d_ends_within d_is_within d_is_ahead d_leave_bar d_leaves_to d_leave_bases d_copy_bases d_bases_by d_bases d_w_cell d_w_names d_w_stretch d_w_deed d_w_rows d_holder d_w_within d_w_due d_w_right d_law f_word_of f_part_of f_day_of f_heard f_rank f_in_order f_by_office f_roots f_is_known f_tells f_told_of f_lives f_has_seal f_is_sound f_lies_in f_is_alive f_by_since f_chief_of f_holder_by f_is_held_by f_is_first_death f_counts f_new_claim f_ended f_after_choice f_inherited f_after_death f_claims f_is_paper f_is_leave f_is_borne f_covers f_reach_bar f_office_bar f_office_bases f_ends_within f_is_within f_is_ahead f_leave_bar f_leaves_to f_leave_bases f_copy_bases f_bases_by f_w_stretch f_w_deed f_holder f_w_within;exact λf cdv A outer s H E hr=>have hu:=vn hr;have nd:=S.nd;(show JSs _ _ DX from
  (ak (aE (i:=1) nd (aq f_w_names hr (aa (aq f_w_cell hr (aa (ac 0) (b7 af))) af)))
   (ak (aE (i:=2) nd (az (bo (b7 (b7 (b7 af)))) (av bj (aq f_w_cell hr (aa (ac 0) (b7 af))) ah)))
   (ak (aE (i:=3) nd (aq f_w_rows hr (aa (ac 0) (aa (ac 1) (aa (ac 2) (b7 af))))))
   (ak (aE (i:=4) nd (az (bo (b7 (aa (av cu (av bj (av bp (aq f_w_cell hr (aa (ac 0) (b7 af))) ah) ah) (ac 2)) af))) (av bp (av bj (aq f_w_cell hr (aa (ac 0) (b7 af))) ah) ah)))
   (ak (aE (i:=5) nd (d8 wM T.n_tuple qC (aa (d8 Ah T.n_list vp (aa (ac 3) af)) af)))
   (ak (xl (i7 T.n_range (bu iw T.n_len iz (aa (ac 3) af))) (pgV 6 nd) eO (ao (bd (iu (gK (aI jA (az (az (ac 3) (ac 6)) ah) (ac 4)) (fw (aI sD (az (az (az (ac 3) (ac 6)) ah) ah) (aK (aa au (aa au (aa au af)))))))) (ak (aE (i:=7) nd (aq f_w_due hr (aa (ac 3) (aa (ac 4) (aa (az (az (ac 3) (ac 6)) ah) af)))))
   (ak (aE (i:=8) nd (aq f_bases hr (aa (ac 5) (aa (ac 4) (aa (ac 6) af)))))
   (ak (bd (dF (bU (aq f_w_right hr (aa (ac 8) (aa (ac 7) af))))) (ao (a7 iq)) aT)
   (ak (fm (i:=8) (aK (aa au (aa (az (ac 1) ah) (b7 af)))))
   (ao (bd (dF (bU (aq f_w_right hr (aa (aq f_bases hr (aa (ac 5) (aa (ac 4) (aa (ac 6) af)))) (aa (ac 7) af))))) (ao (a7 iq)) aT)))))) aT)))
   (ao (a7 (bT (cm hu) (ac 5) (ac 3)))))))))))
end Lw
namespace PySem.W.Fast
def tw10516920726034137007:=()
def tw9541420729553686857:=()
def tw6492997827617898282:=()
def tw5713372990970101108:=()
def tw2059212808665408083:=()
def tw8634148306289396212:=()
def tw17918100083927517709:=()
def tw17404052886407715563:=()
def tw13708117391659026437:=()
def tw8068507103834084287:=()
def tw5042648893984828642:=()
def tw4980621466823468944:=()
def tw13910755607985286770:=()
def tw7717457921302525062:=()
def tw9859766497342750191:=()
def tw18277452868301364940:=()
def tw13110545688412693283:=()
def tw9401180455222106830:=()
def tw3991197817681772456:=()
def tw14380439084538731165:=()
def tw8090359481561389081:=()
def tw15215385166200066926:=()
def tw5447978944866500826:=()
def tw15040938963700747965:=()
def tw2606540942759725212:=()
def tw6161157868686934037:=()
def tw2603569646787811630:=()
def tw12777056015185833156:=()
def tw4552277596104692267:=()
def tw14959660301979438051:=()
def tw1908301214098040269:=()
def tw18213747154429703093:=()
def tw15850192291412355417:=()
def tw8066149331388459528:=()
def tw3910707112005296189:=()
def tw11908768624622671324:=()
def tw8576654242923213478:=()
def tw7567502990442726466:=()
def tw8361412697200923380:=()
def tw565495521693905512:=()
def tw7499254799992088971:=()
def tw7225369125702028835:=()
def tw7041550911403325079:=()
def tw4958894392521122315:=()
def tw9348465157020520395:=()
def tw15823976322081051288:=()
def tw5020701613029242817:=()
def tw7902279249429621150:=()
def tw565375105183516608:=()
def tw15797197388198736407:=()
def tw635696138702792517:=()
def tw15273667090388145823:=()
def tw6278153497115752391:=()
def tw9168784685383250126:=()
def tw5894493108533414479:=()
def tw8259211003512135776:=()
def tw3788040925418819348:=()
def tw15374076058466845370:=()
def tw2067047729485453350:=()
def tw9417769748849828979:=()
def tw5065918294080483559:=()
def tw8415299392992776853:=()
def tw7301822126782988215:=()
def tw5443624967064444078:=()
def tw14632204030493457710:=()
def tw8488190037759297690:=()
def tw5042072778949370431:=()
def tw10365647959491199561:=()
def tw1302310894982011087:=()
def tw822385582781089637:=()
def tw12166406522224243001:=()
def tw1894451625858225241:=()
def tw588583090922885418:=()
def tw8828731568954222544:=()
def tw2114184711582030702:=()
def tw14782105242277004851:=()
def tw8020977099074219186:=()
def tw5183162402764971916:=()
def tw10786922126592132760:=()
def tw1982937646017435814:=()
def tw18349058363390606903:=()
def tw89194420869887123:=()
def tw15917388439832241768:=()
def tw2225626555995182721:=()
def tw14465009995006654842:=()
def tw3129531442304540229:=()
def tw1197401107413619470:=()
def tw2551405600443040502:=()
def tw3404386163793328083:=()
def tw9054323689989483261:=()
def tw7606728257474643209:=()
def tw4993727561065671304:=()
def tw18251224880806855521:=()
def tw8267671300800556853:=()
def tw12453048977893658429:=()
def tw7885157439856650018:=()
def tw16220973982698750037:=()
def tw4265468191116932580:=()
def tw7972409508135562208:=()
def tw5169383999241592944:=()
def tw2052832647687040686:=()
def tw3930194327018679112:=()
def tw2213481943549954172:=()
def tw4264904319101653631:=()
def tw7356179390237893428:=()
def tw12382448827046372605:=()
def tw106243481917852365:=()
def tw9633661808377580887:=()
def tw11003077899571970152:=()
def tw2155842082144430874:=()
def tw1456466762075043643:=()
def tw4003479710677037748:=()
def tw15240246914988995321:=()
def tw11866054810770805044:=()
end PySem.W.Fast
open PySem PySem.W PyProof.Rows
set_option maxRecDepth 100000 in
set_option maxHeartbeats 0 in
theorem PySem.Challenge.cw_sealchain_k25_offices_that_bear_holds : PySem.Challenge.rw_sealchain_k25_offices_that_bear.Holds := by
 w_on; o_law; k_head; (case hw => w_witness2)
 k_fill
 refine' DL.walkD (l := PySem.Challenge.rw_sealchain_k25_offices_that_bear) (k := 14) (x := ("_law_script" : PySem.Str)) (f := Lw.F_law) (L := [(("in_order" : PySem.Str), ?t0), (("has_seal" : PySem.Str), ?t1), (("is_first_death" : PySem.Str), ?t2), (("bases_by" : PySem.Str), ?t3)]) rfl rfl ⟨rfl, by decide, by decide⟩ (fun w h Y => PySem.W.km_in_of Y) ?T ?D ?F Lw.law_true
 case T =>
  intro w
  refine' DL.tabs_fit ?h0 ?h1 ?h2 ?h3 ?ap ?nt
  (case h0 => refine' DL.tab_yes ?a ?l ?c ?m ?v; (case a => k_is); (case l => k_is); (case c => exact rfl); (case m => k_is); (case v => exact rfl))
  (case h1 => refine' DL.tab_yes ?a ?l ?c ?m ?v; (case a => k_is); (case l => k_is); (case c => exact rfl); (case m => k_is); (case v => exact rfl))
  (case h2 => refine' DL.tab_yes ?a ?l ?c ?m ?v; (case a => k_is); (case l => k_is); (case c => exact rfl); (case m => k_is); (case v => exact rfl))
  (case h3 => refine' DL.tab_yes ?a ?l ?c ?m ?v; (case a => k_is); (case l => k_is); (case c => exact rfl); (case m => k_is); (case v => exact rfl))
  (case ap => decide)
  (case nt => kernel_rfl)
 case D => kernel_rfl
 case F =>
  intro w mg fa h KX G hmg
  refine' Lw.head KX G hmg ?d0 ?d1 ?d2 ?d3 ?d4 ?d5 ?d6 ?d7 ?d8 ?d9 ?d10 ?d11 ?d12 ?d13 ?d14 ?d15 ?d16 ?d17 ?d18 ?d19 ?d20 ?d21 ?d22 ?d23 ?d24 ?d25 ?d26 ?d27 ?d28 ?d29 ?d30 ?d31 ?d32 ?d33 ?d34 ?d35 ?d36 ?d37 ?d38 ?d39 ?d40 ?d41 ?d42 ?d43 ?d44 ?d45 ?d46 ?d47 ?d48 ?d49 ?d50 ?d51 ?d52 ?d53 ?z0 ?z1 ?z2 ?z3 ?z4 ?z5 ?z6 ?z7 ?z8 ?z9 ?z10 ?z11 ?z12 ?z13 ?k0 ?k1 ?k2 ?q0 ?q1 ?q2 ?q3
  iterate 54 (refine' DL.def_mk ?a ?l ?c ?k; (case a => k_is); (case l => k_is); (case c => k_is); (case k => k_is))
  (case z0 => k_is)
  (case z1 => k_is)
  (case z2 => k_is)
  (case z3 => k_is)
  (case z4 => k_is)
  (case z5 => k_is)
  (case z6 => k_is)
  (case z7 => k_is)
  (case z8 => k_is)
  (case z9 => k_is)
  (case z10 => k_is)
  (case z11 => k_is)
  (case z12 => k_is)
  (case z13 => k_is)
  (case k0 => refine' DL.const_tup ?e ?l ?v; (case e => k_is); (case l => k_is); (case v => decide +kernel))
  (case k1 => refine' DL.const_dict ?e ?l ?r ?s; (case e => k_is); (case l => k_is); (case r => refine' (DL.CRows.tup rfl ?l0 ?f0 (DL.CRows.tup rfl ?l1 ?f1 (DL.CRows.tup rfl ?l2 ?f2 (DL.CRows.tup rfl ?l3 ?f3 (DL.CRows.tup rfl ?l4 ?f4 (DL.CRows.tup rfl ?l5 ?f5 (DL.CRows.tup rfl ?l6 ?f6 (DL.CRows.tup rfl ?l7 ?f7 (DL.CRows.tup rfl ?l8 ?f8 (DL.CRows.tup rfl ?l9 ?f9 (DL.CRows.tup rfl ?l10 ?f10 (DL.CRows.tup rfl ?l11 ?f11 DL.CRows.nil)))))))))))); (case l0 => k_is); (case f0 => decide +kernel); (case l1 => k_is); (case f1 => decide +kernel); (case l2 => k_is); (case f2 => decide +kernel); (case l3 => k_is); (case f3 => decide +kernel); (case l4 => k_is); (case f4 => decide +kernel); (case l5 => k_is); (case f5 => decide +kernel); (case l6 => k_is); (case f6 => decide +kernel); (case l7 => k_is); (case f7 => decide +kernel); (case l8 => k_is); (case f8 => decide +kernel); (case l9 => k_is); (case f9 => decide +kernel); (case l10 => k_is); (case f10 => decide +kernel); (case l11 => k_is); (case f11 => decide +kernel)); (case s => decide +kernel))
  (case k2 => refine' DL.const_tup ?e ?l ?v; (case e => k_is); (case l => k_is); (case v => decide +kernel))
  (case q0 => refine' DL.lam_mk ?a ?l ?c ?m ?v1 ?v2 ?v3 ?v4 ?v5 ?v6 ?v7; (case a => k_is); (case l => k_is); (case c => exact rfl); (case m => k_is); (case v1 => exact rfl); (case v2 => exact rfl); (case v3 => exact rfl); (case v4 => exact rfl); (case v5 => exact rfl); (case v6 => exact rfl); (case v7 => decide))
  (case q1 => refine' DL.lam_mk ?a ?l ?c ?m ?v1 ?v2 ?v3 ?v4 ?v5 ?v6 ?v7; (case a => k_is); (case l => k_is); (case c => exact rfl); (case m => k_is); (case v1 => exact rfl); (case v2 => exact rfl); (case v3 => exact rfl); (case v4 => exact rfl); (case v5 => exact rfl); (case v6 => exact rfl); (case v7 => decide))
  (case q2 => refine' DL.lam_mk ?a ?l ?c ?m ?v1 ?v2 ?v3 ?v4 ?v5 ?v6 ?v7; (case a => k_is); (case l => k_is); (case c => exact rfl); (case m => k_is); (case v1 => exact rfl); (case v2 => exact rfl); (case v3 => exact rfl); (case v4 => exact rfl); (case v5 => exact rfl); (case v6 => exact rfl); (case v7 => decide))
  (case q3 => refine' DL.lam_mk ?a ?l ?c ?m ?v1 ?v2 ?v3 ?v4 ?v5 ?v6 ?v7; (case a => k_is); (case l => k_is); (case c => exact rfl); (case m => k_is); (case v1 => exact rfl); (case v2 => exact rfl); (case v3 => exact rfl); (case v4 => exact rfl); (case v5 => exact rfl); (case v6 => exact rfl); (case v7 => decide))

