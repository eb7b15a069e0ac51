import PyProof.Rows.All
import Wide.All
import OpenK.AllK
import Wide.FinOn
import Lean
import PyProof.EqAt
import PyProof.EqKinds
import PyProof.TupleCall
import PyProof.AttrMissHeap
import PySem.Challenge.RW_sealchain_k17_claims_gone_through
set_option Elab.async false
set_option linter.all false
set_option maxRecDepth 100000
set_option bootstrap.genMatcherCode false
set_option maxHeartbeats 40000000
theorem mY {α:Type _}{a:α}(l:List α){k:List α}(h:a∈k):a∈l++k:=List.mem_append_right l h
theorem mZ {α:Type _}(b:α){a:α}{l:List α}(h:a∈l):a∈b::l:=List.mem_cons_of_mem b h
theorem mX {α:Type _}{a:α}{l:List α}:a∈a::l:=List.mem_cons_self
theorem oX {α β:Type _}{o:Option α}{f:α->Option β}{b:β}(h:o.bind f=some b):∃a,o=some a/\f a=some b:=Option.bind_eq_some_iff.mp h
theorem oY {α β:Type _}{f:α->β}{o:Option α}{b:β}(h:o.map f=some b):∃a,o=some a/\f a=b:=Option.map_eq_some_iff.mp h
def wX:=@PySem.wpAny_bind
def wY:=@PySem.wpAny_pure
namespace L2
open PySem PySem.Spec PyProof.Rows
noncomputable abbrev Key:=Sum Int Str
noncomputable def oQ:Key->Value->Bool
 |.inl k,v=>Value.isInt k v
 |.inr x,v=>Value.isStrOf x v
noncomputable def Gq (w:World):Key->Int
 |.inl k=>hashInt k
 |.inr x=>hashStr w x
theorem ci:∀ {k:Key}{v:Value},oQ k v=true->(∃i t,k=Sum.inl i/\v=Value.int i t)∨(∃x t,k=Sum.inr x/\v=Value.str x t)
 |.inl i,v,h=>by
  obtain⟨t,e⟩:=Value.isInt_shape (k:=i) (v:=v) h;exact .inl ⟨i,t,rfl,e⟩
 |.inr x,v,h=>by
  obtain⟨t,e⟩:=Value.isStrOf_shape (x:=x) (v:=v) h;exact .inr ⟨x,t,rfl,e⟩
theorem xy (i:Int)(t:Tok):oQ (.inl i) (.int i t)=true:=by simp[oQ,Value.isInt]
theorem xz (x:Str)(t:Tok):oQ (.inr x) (.str x t)=true:=by simp[oQ,Value.isStrOf]
theorem Da (a b:Int):decide ((Sum.inl a:Key)=Sum.inl b)=(a == b):=by
 by_cases e:a=b
 ·subst e;simp
 ·have h:¬(Sum.inl a:Key)=Sum.inl b:=λq=>e (Sum.inl.inj q);rw[decide_eq_false h];exact(beq_eq_false_iff_ne.mpr e).symm
theorem Db (a b:Str):decide ((Sum.inr a:Key)=Sum.inr b)=decide (a=b):=by
 by_cases e:a=b
 ·subst e;simp
 ·have h:¬(Sum.inr a:Key)=Sum.inr b:=λq=>e (Sum.inr.inj q);rw[decide_eq_false h,decide_eq_false e]
theorem Dc (a:Int)(b:Str):decide ((Sum.inl a:Key)=Sum.inr b)=false:=decide_eq_false (λq=>nomatch q)
theorem De (a:Str)(b:Int):decide ((Sum.inr a:Key)=Sum.inl b)=false:=decide_eq_false (λq=>nomatch q)
noncomputable def cj (prog:Program)(w:World):PySem.KeyKind prog w Key where
 is:=oQ
 hash:=Gq w
 inj:=λv a b ha hb=>by
  rcases ci ha with⟨i,t,rfl,rfl⟩|⟨x,t,rfl,rfl⟩
  ·rcases ci hb with⟨j,u,rfl,e⟩|⟨y,u,rfl,e⟩
   ·injection e with e1 _;rw[e1]
   ·exact nomatch e
  ·rcases ci hb with⟨j,u,rfl,e⟩|⟨y,u,rfl,e⟩
   ·exact nomatch e
   ·injection e with e1 _;rw[e1]
 byValue:=λk v h=>by
  rcases ci h with⟨i,t,rfl,rfl⟩|⟨x,t,rfl,rfl⟩<;>rfl
 pyHash:=λhv h=>by
  rcases ci hv with⟨i,t,rfl,rfl⟩|⟨x,t,rfl,rfl⟩
  ·exact wpAny_pyHash_int h
  ·exact wpAny_pyHash_str h
 eqBool:=λhu hv h=>by
  rcases ci hu with⟨i,t,rfl,rfl⟩|⟨x,t,rfl,rfl⟩
  ·rcases ci hv with⟨j,u,rfl,rfl⟩|⟨y,u,rfl,rfl⟩
   ·rw[Da]at h;exact wpAny_eqBool_int h
   ·rw[Dc]at h;exact SeqAt.EqAt.int_str i t y u _ _ _ _ h
  ·rcases ci hv with⟨j,u,rfl,rfl⟩|⟨y,u,rfl,rfl⟩
   ·rw[De]at h;exact SeqAt.EqAt.str_int x t j u _ _ _ _ h
   ·rw[Db]at h;exact wpAny_eqBool_str h
 «strs»:=λk x t v h=>by
  rcases ci h with⟨i,u,rfl,e⟩|⟨y,u,rfl,e⟩
  ·exact nomatch e
  ·injection e with e1 _;subst e1;cases v<;>rfl
theorem rK (prog:Program)(w:World)(i:Int)(t:Tok):(cj prog w).is (.inl i) (.int i t)=true:=xy i t
theorem rL (prog:Program)(w:World)(x:Str)(t:Tok):(cj prog w).is (.inr x) (.str x t)=true:=xz x t
inductive V where
 |non|bl (b:Bool)|int (i:Int)|str (x:Str)|byt (b:Array UInt8)|flt (b:UInt64)|ref (a:Addr)|ty (n:String)
 deriving DecidableEq
noncomputable def aL:V->Value->Prop
 |.non,u=>u=Value.none
 |.bl b,u=>u=Value.bool b
 |.int i,u=>∃t,u=Value.int i t
 |.str x,u=>∃t,u=Value.str x t
 |.byt b,u=>∃t,u=Value.bytes b t
 |.flt b,u=>∃t,u=Value.float b t
 |.ref a,u=>u=Value.ref a
 |.ty n,u=>u=Value.type n
noncomputable abbrev aQ:List V->List Value->Prop:=Paired aL
theorem aQ.length {xs:List V}{us:List Value}(r:aQ xs us):xs.length=us.length:=Paired.length r
theorem aQ.get:∀ {xs:List V}{us:List Value}{i:Nat}{x:V},aQ xs us->xs[i]? = some x->∃u,us[i]? = some u/\aL x u
 |_,_,_,_,.nil,e=>by simp at e
 |_,_,0,_,.cons r _,e=>by simp at e;subst e;exact⟨_,rfl,r⟩
 |_,_,i+1,x,.cons _ t,e=>by
  obtain⟨u,h1,h2⟩:=aQ.get (i:=i) (x:=x) t (by simpa using e);exact⟨u,by simpa using h1,h2⟩
theorem aQ.set {x:V}{u:Value}(r:aL x u):∀ {xs:List V}{us:List Value}(i:Nat),aQ xs us->aQ (xs.set i x) (us.set i u)
 |_,_,_,.nil=>.nil
 |_,_,0,.cons _ t=>.cons r t
 |_,_,i+1,.cons q t=>.cons q (aQ.set r i t)
theorem aQ.append:∀ {xs ys:List V}{us ws:List Value},aQ xs us->aQ ys ws->aQ (xs++ys) (us++ws)
 |_,_,_,_,.nil,s=>s
 |_,_,_,_,.cons r t,s=>.cons r (aQ.append t s)
theorem aQ.take:∀ {xs:List V}{us:List Value}(n:Nat),aQ xs us->aQ (xs.take n) (us.take n)
 |_,_,0,_=>.nil
 |_,_,_+1,.nil=>.nil
 |_,_,n+1,.cons r t=>.cons r (aQ.take n t)
theorem aQ.drop:∀ {xs:List V}{us:List Value}(n:Nat),aQ xs us->aQ (xs.drop n) (us.drop n)
 |_,_,0,r=>r
 |_,_,_+1,.nil=>.nil
 |_,_,n+1,.cons _ t=>aQ.drop n t
theorem aQ.none_of:∀ {xs:List V}{us:List Value}{i:Nat},aQ xs us->xs[i]? = none->us[i]? = none:=λ{xs us i} r e=>by
 have h1:=r.length;have h2:xs.length<=i:=List.getElem?_eq_none_iff.mp e;exact List.getElem?_eq_none_iff.mpr (by omega)
noncomputable def jj:Option V->Option Value->Prop
 |some v,some u=>aL v u
 |none,none=>True
 |_,_=>False
noncomputable def KV {κ:Type}:List (κ×V)->List (κ×Value)->Prop:=Paired λ(p:κ×V) (q:κ×Value)=>p.1=q.1/\aL p.2 q.2
noncomputable def kV:Key->V
 |.inl i=>.int i
 |.inr x=>.str x
inductive HO where
  |lst (xs:List V)
  |tup (xs:List V)
  |dK (kvs:List (Key×V)) (ob:Obj)|dT (kvs:List (List Key×V))
  |set (S:Int->Bool) (n:Nat)
  |ins (C dx:Addr) (fs:List (Str×V))
  |own (x:Addr)
  |xd (fs:List (Str×V))
  |met (f x:Addr)
  |rng (lo hi:Int)
  |frz (o:Obj) (u:HO)
  |tbl (q:Str)
  |ext (φ:Heap->Prop)
noncomputable abbrev Hp:=Addr->Option HO
noncomputable def upd (H:Hp)(a:Addr)(o:HO):Hp:=λb=>if b=a then some o else H b
theorem a0 {H:Hp}{a:Addr}{o:HO}:upd H a o a=some o:=by unfold upd;rw[if_pos rfl]
theorem aB {H:Hp}{a b:Addr}{o:HO}(h:b≠a):upd H a o b=H b:=by unfold upd;rw[if_neg h]
theorem AI {H:Hp}{a:Addr}{o u:HO}:upd (upd H a o) a u=upd H a u:=by
 funext b;unfold upd;split<;>rfl
theorem EH {H:Hp}{a b:Addr}{o u:HO}(h:H a=some o)(h':H b=some u)(d:o≠u):a≠b:=by
 intro e;subst e;rw[h]at h';exact d (Option.some.inj h')
theorem aN {H:Hp}{a b:Addr}{o:HO}(h:H a=some o)(h':H b=none):a≠b:=by
 intro e;subst e;rw[h]at h';cases h'
section
variable (P:Program) (w:World)
noncomputable def bA (H:Hp)(h:Heap)(a:Addr):HO->Prop
 |.lst xs=>xs.length<=sizeLine/\∃(its:List Value)(n:Nat),aQ xs its/\h.get? a=some { cls:=.type "list",data:=.seq its.toArray n }
 |.tup xs=>xs.length<=sizeLine/\∃its:List Value,aQ xs its/\IsTup h a its.toArray
 |.dK kvs ob=>h.get? a=some ob/\kvs.length<=sizeLine/\(a == sysModules)=false/\∃vs,KV kvs vs/\h.DictOf (cj P w) a vs
 |.dT kvs=>kvs.length<=sizeLine/\(a == sysModules)=false/\∃xs:List (List Key×Addr×Value),
   Paired (λ(p:List Key×V) (q:List Key×Addr×Value)=>p.1=q.1/\H q.2.1=some (.tup (p.1.map kV))/\aL p.2 q.2.2) kvs xs /\
   ∃o es ep,h.get? a=some o/\o.ExactDict/\o.data=.dict es ep/\es.toList=xs.map (entryOfKey (tupleKind (cj P w)))/\(xs.map (·.1)).Nodup
 |.set S n=>h.SetOf (intKind P w) a S n
 |.ins C dx fs=>H dx=some (.own a)/\fs.length<=1000/\dx≠a/\h.get? a=some (PySem.W.instObj C dx) /\
   ∃mA,h.Ns1 dx mA/\(∀f,jj (fs.lookup f) (mA f))/\PySem.Within mA (fs.map (·.1))
 |.own _=>∃o,h.get? a=some o
 |.xd fs=>∃mA,h.Ns1 a mA/\∀f,jj (fs.lookup f) (mA f)
 |.rng lo hi=>∃t u v,h.get? a=some { cls:=.type "range",data:=.fields #[.int lo t,.int hi u,.int 1 v] }
 |.frz o u=>h.get? a=some o/\bA H h a u
 |.tbl q=>∃ps:Array Value,h.get? a=some { cls:=.none,data:=.fields ps }/\TriplesOk ps.toList/\∀pos cv,codeAmong pos ps.toList=some cv->∃(c:Addr)(oc:Obj)(u:HO)(vs:Array Value)(t:Tok),cv=.ref c/\H c=some (.frz oc u)/\oc.data=.fields vs/\vs[1]? = some (.str q t)
 |.met f x=>h.get? a=some (PySem.W.methodObj (.ref f) (.ref x))
 |.ext φ=>φ h/\(∃o,h.get? a=some o)/\∀h1 h2:Heap,φ h1->(∀o,h1.get? a=some o->h2.get? a=some o)->φ h2
noncomputable def HOk (H:Hp)(h:Heap):Prop:=∀a o,H a=some o->bA P w H h a o
end
section
variable {P:Program}{w:World}{H H':Hp}{h h':Heap}{a:Addr}{o:HO}
theorem bA.lt (x:bA P w H h a o):a<h.objs.size:=by
 cases o with
 |lst xs=>obtain⟨_,_,_,_,e⟩:=x;exact Heap.lt_size e
 |tup xs=>obtain⟨_,_,_,p⟩:=x;exact p.lt
 |dK kvs ob=>exact Heap.lt_size (And.left x)
 |dT kvs=>obtain⟨_,_,_,_,o,_,_,e,_⟩:=x;exact Heap.lt_size e
 |set S n=>obtain⟨o,_,_,_,e,_⟩:=x;exact Heap.lt_size e
 |ins C dx fs=>obtain⟨_,_,_,e,_⟩:=x;exact Heap.lt_size e
 |own y=>obtain⟨_,e⟩:=x;exact Heap.lt_size e
 |xd fs=>obtain⟨_,⟨_,_,_,e,_⟩,_⟩:=x;exact Heap.lt_size e
 |rng lo hi=>obtain⟨_,_,_,e⟩:=x;exact Heap.lt_size e
 |frz ob u=>obtain⟨e,_⟩:=x;exact Heap.lt_size e
 |tbl q=>obtain⟨_,e,_⟩:=x;exact Heap.lt_size e
 |met f y=>exact Heap.lt_size (show h.get? a=some _ from x)
 |ext φ=>obtain⟨_,⟨_,e⟩,_⟩:=x;exact Heap.lt_size e
theorem Paired.mapP {α β:Type}{F G:α->β->Prop}:∀ {l₁:List α}{l₂:List β},Paired F l₁ l₂->(∀a b,F a b->G a b)->Paired G l₁ l₂
 |_,_,.nil,_=>.nil
 |_,_,.cons r t,f=>.cons (f _ _ r) (Paired.mapP t f)
theorem bA.stay (x:bA P w H h a o)(k:∀b u,(b=a∨H b=some (.own a))->h.get? b=some u->h'.get? b=some u)
  (ho:∀b,H b=some (.own a)->H' b=some (.own a)) (ht:∀b xs,H b=some (.tup xs)->H' b=some (.tup xs)) (hf:∀b o u,H b=some (.frz o u)->H' b=some (.frz o u)):bA P w H' h' a o:=by
 induction o with
 |lst xs=>obtain⟨z,its,n,r,e⟩:=x;exact⟨z,its,n,r,k _ _ (.inl rfl) e⟩
 |tup xs=>obtain⟨z,its,r,ob,e,c⟩:=x;exact⟨z,its,r,ob,k _ _ (.inl rfl) e,c⟩
 |dK kvs ob0=>obtain⟨g,z,y,vs,r,ob,es,ep,e,c⟩:=x;exact⟨k _ _ (.inl rfl) g,z,y,vs,r,ob,es,ep,k _ _ (.inl rfl) e,c⟩
 |dT kvs=>
  obtain⟨z,y,xs,r,ob,es,ep,e,c⟩:=x;exact⟨z,y,xs,Paired.mapP r λp q z=>⟨z.1,ht _ _ z.2.1,z.2.2⟩,ob,es,ep,k _ _ (.inl rfl) e,c⟩
 |set S n=>obtain⟨ob,es,ep,t,e,c⟩:=x;exact⟨ob,es,ep,t,k _ _ (.inl rfl) e,c⟩
 |ins C dx fs=>
  obtain⟨d,z,ne,e,mA,⟨od,es,ep,e2,c⟩,r⟩:=x;exact⟨ho _ d,z,ne,k _ _ (.inl rfl) e,mA,⟨od,es,ep,k _ _ (.inr d) e2,c⟩,r⟩
 |own y=>obtain⟨ob,e⟩:=x;exact⟨ob,k _ _ (.inl rfl) e⟩
 |xd fs=>obtain⟨mA,⟨od,es,ep,e,c⟩,r⟩:=x;exact⟨mA,⟨od,es,ep,k _ _ (.inl rfl) e,c⟩,r⟩
 |rng lo hi=>obtain⟨t,u,v,e⟩:=x;exact⟨t,u,v,k _ _ (.inl rfl) e⟩
 |frz ob u ih=>obtain⟨e,q⟩:=x;exact⟨k _ _ (.inl rfl) e,ih q⟩
 |tbl q=>obtain⟨ps,e,t,c⟩:=x;exact⟨ps,k a _ (.inl rfl) e,t,λpos cv z=>let ⟨d,oc,u,vs,tk,z1,z2,z3⟩:=c pos cv z;⟨d,oc,u,vs,tk,z1,hf _ _ _ z2,z3⟩⟩
 |met f y=>
  have e:h.get? a=some (PySem.W.methodObj (.ref f) (.ref y)):=x;show h'.get? a=some (PySem.W.methodObj (.ref f) (.ref y));exact k a _ (.inl rfl) e
 |ext φ=>obtain⟨p,⟨o,e⟩,st⟩:=x;exact⟨st _ _ p λo q=>k _ _ (.inl rfl) q,⟨o,k _ _ (.inl rfl) e⟩,st⟩
theorem HOk.lt (x:HOk P w H h)(e:H a=some o):a<h.objs.size:=(x a o e).lt
theorem HOk.fresh (x:HOk P w H h)(e:h.objs.size<=a):H a=none:=by
 cases q:H a with
 |none=>rfl
 |some u=>exact absurd (Nat.lt_of_lt_of_le (x.lt q) e) (Nat.lt_irrefl _)
theorem HOk.kept (x:HOk P w H h)(k:∀b u,h.get? b=some u->h'.get? b=some u):HOk P w H h':=λa o e=>
 (x a o e).stay (λb u _ q=>k b u q) (λ_ q=>q) (λ_ _ q=>q) λ_ _ _ q=>q
theorem HOk.laid (x:HOk P w H h)(k:∀b u,h.get? b=some u->h'.get? b=some u)(hp:h.objs.size<=a)(new:bA P w (upd H a o) h' a o):HOk P w (upd H a o) h':=λb u e=>by
 have hn:=x.fresh hp;by_cases hb:b=a
 ·subst hb;rw[a0]at e;cases e;exact new
 ·rw[aB hb]at e;exact(x b u e).stay (λc v _ q=>k c v q) (λc q=>by rw[aB (aN q hn)];exact q) (λc xs q=>by rw[aB (aN q hn)];exact q) λc o xs q=>by rw[aB (aN q hn)];exact q
end
noncomputable def Rd (H:Hp)(a:Addr)(u:HO):Prop:=H a=some u∨∃o,H a=some (.frz o u)
theorem Rd.of {H:Hp}{a:Addr}{u:HO}(h:H a=some u):Rd H a u:=.inl h
theorem Rd.ok {P:Program}{w:World}{H:Hp}{h:Heap}{a:Addr}{u:HO}(r:Rd H a u)(x:HOk P w H h):bA P w H h a u:=by
 rcases r with r|⟨o,r⟩
 ·exact x a u r
 ·obtain⟨_,q⟩:=x a _ r;exact q
noncomputable def Mut:Option HO->Prop
 |some (.lst _)=>True
 |some (.dK _ _)=>True
 |some (.dT _)=>True
 |some (.set _ _)=>True
 |some (.ins _ _ _)=>True
 |some (.ext _)=>True
 |_=>False
section
variable {P:Program}{w:World}{H:Hp}{h h':Heap}{x e:Addr}{o':HO}
theorem HOk.write (ok:HOk P w H h)(mu:Mut (H x))(he:e=x∨H e=some (.own x))(k:∀b u,b≠e->h.get? b=some u->h'.get? b=some u)(heo:∃u,h'.get? e=some u)
  (new:bA P w (upd H x o') h' x o'):HOk P w (upd H x o') h':=λb u q=>by
 have nown:∀c y,H c=some (.own y)->c≠x:=λc y r z=>by subst z;rw[r]at mu;exact mu
 have ntup:∀c xs,H c=some (.tup xs)->c≠x:=λc xs r z=>by subst z;rw[r]at mu;exact mu
 by_cases hb:b=x
 ·subst hb;rw[a0]at q;cases q;exact new
 ·rw[aB hb]at q;by_cases hbe:b=e
  ·have q':H b=some (.own x):=by
    rcases he with z|z
    ·exact absurd (hbe.trans z) hb
    ·rw[hbe];exact z
   rw[q]at q';cases q';obtain⟨v,hv⟩:=heo;exact⟨v,by rw[hbe];exact hv⟩
  ·refine(ok b u q).stay (λc v hc r=>k c v ?_ r) (λc r=>by rw[aB (nown c b r)];exact r) (λc xs r=>by rw[aB (ntup c xs r)];exact r) λc o xs r=>by rw[aB (λz=>by subst z;rw[r]at mu;exact mu)];exact r
   rcases hc with rfl|hc
   ·exact hbe
   ·rintro rfl;rcases he with z|z
    ·exact nown c b hc z
    ·rw[hc]at z;cases z;exact hb rfl
end
structure Un (fs ex:List Addr)(H H':Hp)(h h':Heap):Prop where
 keep:∀b o,h.get? b=some o->H b=none->b∉fs->b∉ex->h'.get? b=some o
 slot:∀b o,h.get? b=some o->H b=none->b∈fs->b∉ex->∃sl,h'.get? b=some { o with slots:=sl }
 free:∀b o,h.get? b=some o->H b=none->b∉ex->H' b=none
 there:∀b o,h.get? b=some o->b∉ex->∃o',h'.get? b=some o'
 tups:∀b xs,H b=some (.tup xs)->H' b=some (.tup xs)
 frzs:∀b o u,H b=some (.frz o u)->H' b=some (.frz o u)
 tbls:∀b q,H b=some (.tbl q)->H' b=some (.tbl q)
section
variable {fs fs' ex ex':List Addr}{H H1 H2:Hp}{h h1 h2 h':Heap}{a x e:Addr}{o:HO}
theorem Un.any (u:Un fs ex H H1 h h1){b:Addr}{ob:Obj}(q:h.get? b=some ob)(n:H b=none)(hx:b∉ex):∃sl,h1.get? b=some { ob with slots:=sl }:=by
 by_cases hb:b∈fs
 ·exact u.slot b ob q n hb hx
 ·exact⟨ob.slots,u.keep b ob q n hb hx⟩
theorem Un.trans (a:Un fs ex H H1 h h1)(b:Un fs ex H1 H2 h1 h2):Un fs ex H H2 h h2 where
 keep:=λc ob q n hc hx=>b.keep c ob (a.keep c ob q n hc hx) (a.free c ob q n hx) hc hx
 slot:=λc ob q n hc hx=>by
  obtain⟨sl,e1⟩:=a.slot c ob q n hc hx;obtain⟨sl',e2⟩:=b.slot c _ e1 (a.free c ob q n hx) hc hx;exact⟨sl',e2⟩
 free:=λc ob q n hx=>by
  obtain⟨o',e1⟩:=a.there c ob q hx;exact b.free c o' e1 (a.free c ob q n hx) hx
 there:=λc ob q hx=>by
  obtain⟨o',e1⟩:=a.there c ob q hx;exact b.there c o' e1 hx
 tups:=λc xs q=>b.tups c xs (a.tups c xs q)
 frzs:=λc ob xs q=>b.frzs c ob xs (a.frzs c ob xs q)
 tbls:=λc ps q=>b.tbls c ps (a.tbls c ps q)
theorem Un.kept (k:∀b u,h.get? b=some u->h'.get? b=some u):Un fs ex H H h h' :=
 ⟨λb ob q _ _ _=>k b ob q,λb ob q _ _ _=>⟨ob.slots,k b ob q⟩,λ_ _ _ n _=>n,λb ob q _=>⟨ob,k b ob q⟩,λ_ _ q=>q,λ_ _ _ q=>q,λ_ _ q=>q⟩
theorem Un.refl:Un fs ex H H h h:=Un.kept λ_ _ q=>q
theorem Un.laid (k:∀b u,h.get? b=some u->h'.get? b=some u)(hp:h.objs.size<=a)(hn:H a=none):Un fs ex H (upd H a o) h h' where
 keep:=λb u q _ _ _=>k b u q
 slot:=λb u q _ _ _=>⟨u.slots,k b u q⟩
 free:=λb u q n _=>by rw[aB (Nat.ne_of_lt (Nat.lt_of_lt_of_le (Heap.lt_size q) hp))];exact n
 there:=λb u q _=>⟨u,k b u q⟩
 tups:=λb xs q=>by rw[aB (aN q hn)];exact q
 frzs:=λb u xs q=>by rw[aB (aN q hn)];exact q
 tbls:=λb ps q=>by rw[aB (aN q hn)];exact q
theorem Un.write (mu:Mut (H x))(he:e=x∨H e=some (.own x))(k:∀b u,b≠e->h.get? b=some u->h'.get? b=some u)(heo:∃u,h'.get? e=some u):Un fs ex H (upd H x o) h h':=by
 have hx:∀b,H b=none->b≠x:=λb n z=>by subst z;rw[n]at mu;exact mu
 have hb:∀b,H b=none->b≠e:=λb n z=>by
  subst z;rcases he with r|r
  ·exact hx b n r
  ·rw[n]at r;cases r
 have hm:∀b u,H b=some u->¬Mut (some u)->b≠x:=λb u q nm z=>by subst z;rw[q]at mu;exact nm mu
 refine⟨λb u q n _ _=>k b u (hb b n) q,λb u q n _ _=>⟨u.slots,k b u (hb b n) q⟩,λb u q n _=>by rw[aB (hx b n)];exact n,λb u q _=>?_,
  λb xs q=>by rw[aB (hm b _ q λz=>z)];exact q,λb u xs q=>by rw[aB (hm b _ q λz=>z)];exact q,λb ps q=>by rw[aB (hm b _ q λz=>z)];exact q⟩
 by_cases hbe:b=e
 ·subst hbe;exact heo
 ·exact⟨u,k b u hbe q⟩
end
noncomputable def trk (h:Heap)(H:Hp):List Addr:=(List.range h.objs.size).filter λa=>(H a).isSome
noncomputable def rM (h:Heap)(H:Hp):Heap:=PySem.W.hideAll h (trk h H)
theorem x0 (h:Heap)(H:Hp):(rM h H).objs.size=h.objs.size:=PySem.W.hideAll_size _ _
theorem m4 {h:Heap}{H:Hp}{b:Addr}{o:Obj}(e:h.get? b=some o)(n:H b=none):(rM h H).get? b=some o :=
 PySem.W.hideAll_get _ e λhm=>by
  have q:(H b).isSome=true:=(List.mem_filter.mp hm).2;rw[n]at q;simp at q
theorem AJ {h:Heap}{H:Hp}{b:Addr}{o:Obj}(e:(rM h H).get? b=some o):h.get? b=some o/\H b=none:=by
 have e':h.get? b=some o:=PySem.W.of_hideAll (trk h H) e;refine⟨e',?_⟩;cases q:H b with
 |none=>rfl
 |some x=>
  have hm:b∈trk h H:=List.mem_filter.mpr ⟨List.mem_range.mpr (Heap.lt_size e'),by simp[q]⟩;have z:(rM h H).get? b=none:=PySem.W.hideAll_none (trk h H) hm;rw[z]at e;cases e
noncomputable def AK (g h:Heap)(L:Addr):List (Addr×Obj):=(List.range h.objs.size).filterMap λa=>if a=L∨(g.get? a).isSome=true then none else (h.get? a).map λo=>(a,o)
noncomputable def aC (g h:Heap)(L d:Addr):List (Addr×Obj):=(AK g h L).filter λp=>decide (p.1≠d)
structure Mod (K:PySem.W.Frag)(mg:Str->Option Value)(base:Heap):Prop where
 kin:K.In base
 glob:base.Ns mainGlobals mg
 blt:∃mb,base.Ns builtinsNs mb/\∀x:Str,x ≠ "__name__"->mb x=bootBuiltins x
 nolimit:base.NoLimit
 bmain:∃bm ob,mg "__builtins__" = some (.ref bm)/\bm≠builtinsNs/\base.get? bm=some ob/\ob.cls=.type "module"/\ob.dict=some builtinsNs/\ob.data=.plain
structure Cx where
 prog:Program
 w:World
 K:PySem.W.Frag
 mg:Str->Option Value
 base:Heap
 A:Around
 N:List Str
 s₀:Shared
 H₀:Hp
 env:Env
 outer:List Env
 stack:List Env
 ex:List Addr
 fn:Str->Bool
 calm:Bool
 pn:List (Addr×Obj)
 xe:Value->Shared->Prop
noncomputable def frs (l:List Env):List Addr:=l.filterMap (·.frame)
noncomputable abbrev Cx.fs (X:Cx):List Addr:=frs X.outer
noncomputable def Vis (sc:Scope)(x:Str):Prop:=sc.names.lookup x=some .local∨sc.names.lookup x=some .cell∨sc.names.lookup x=some .free
noncomputable def Loc (sc:Scope)(x:Str):Prop:=sc.names.lookup x=some .local∨sc.names.lookup x=some .cell
noncomputable def Gr (env:Env)(h:Heap)(m:Str->Option Value)(x:Str)(u:Value):Prop :=
 (env.kindOf x=some .local/\m x=some u)∨((env.kindOf x=some .cell∨env.kindOf x=some .free)/\∃c,env.cells.lookup x=some c/\h.IsCell c (some u))
structure Cx.Ok (X:Cx):Prop where
 mod:Mod X.K X.mg X.base
 kind:X.env.scope.kind=.function
 glob:X.env.globals=mainGlobals
 blt:X.env.builtins=builtinsNs
 above:X.s₀.heap.objs.size<=X.env.locals
 inj:∀x y c,X.env.cells.lookup x=some c->X.env.cells.lookup y=some c->x=y
 has:∀x,(X.env.kindOf x=some .cell∨X.env.kindOf x=some .free)->∃c,X.env.cells.lookup x=some c
 cab:∀x c,X.fn x=true->X.env.cells.lookup x=some c->X.s₀.heap.objs.size<=c
 hd:X.calm=true->X.A.handled=none
 frames:X.A.frames=some X.stack
 stk:X.stack=X.outer∨(X.stack=X.env::X.outer/\X.env.frame=some X.env.locals)
 exf:∀b∈X.ex,b≠X.env.locals/\∀x c,X.env.cells.lookup x=some c->c≠b
 bs:∀b o,X.base.get? b=some o->X.s₀.heap.get? b=some o/\X.H₀ b=none
 bsz:X.base.objs.size<=X.s₀.heap.objs.size
 noex:∀b o,X.base.get? b=some o->b∉X.ex
 exfs:∀b∈X.ex,b∉X.fs
 funs:X.s₀.heap.FunFrames X.base X.outer
 frf:∀b∈X.fs,X.H₀ b=none
structure Inv (X:Cx)(pins:List (Addr×Obj))(σ:List (Option V))(H:Hp)(s:Shared):Prop where
 ok:X.Ok
 os:s.os=X.s₀.os
 bare:AllBare s.gens
 base:Un X.fs X.ex X.H₀ H X.s₀.heap s.heap
 loc:∃m,s.heap.Ns X.env.locals m/\∀(i:Nat)(x:Str)(v:V),X.N[i]? = some x->σ[i]? = some (some v)->Vis X.env.scope x->∃u,aL v u/\Gr X.env s.heap m x u
 cell:∀x c,X.env.cells.lookup x=some c->∃v,s.heap.IsCell c v
 free:H X.env.locals=none
 freeC:∀x c,X.env.cells.lookup x=some c->H c=none
 pin:∀p∈X.pn++pins,s.heap.get? p.1=some p.2/\H p.1=none/\p.1≠X.env.locals/\p.1∉X.fs/\∀v,p.2.data≠.cell v
 hok:HOk X.prog X.w H s.heap
 len:σ.length=X.N.length
section
variable {X:Cx}{pins:List (Addr×Obj)}{σ:List (Option V)}{H H':Hp}{s:Shared}{h':Heap}
theorem Cx.Ok.nofr (ok:X.Ok){b:Addr}{o:Obj}(e:X.base.get? b=some o):b∉X.fs:=λhb=>by
 have:=(ok.funs.mem hb).1;rw[e]at this;cases this
theorem Inv.bs (I:Inv X pins σ H s):∀b o,X.base.get? b=some o->s.heap.get? b=some o/\H b=none:=λb o e=>
 ⟨I.base.keep b o (I.ok.bs b o e).1 (I.ok.bs b o e).2 (I.ok.nofr e) (I.ok.noex b o e),I.base.free b o (I.ok.bs b o e).1 (I.ok.bs b o e).2 (I.ok.noex b o e)⟩
theorem Inv.bk (I:Inv X pins σ H s):∀b o,X.base.get? b=some o->s.heap.get? b=some o:=λb o e=>(I.bs b o e).1
theorem Inv.mod (I:Inv X pins σ H s):Mod X.K X.mg X.base:=I.ok.mod
theorem Inv.kIn (I:Inv X pins σ H s):X.K.In s.heap:=I.ok.mod.kin.keeps I.bk
theorem Inv.nolimit (I:Inv X pins σ H s):s.heap.NoLimit:=I.ok.mod.nolimit.keeps I.bk
theorem Inv.lt (I:Inv X pins σ H s):X.env.locals<s.heap.objs.size:=let ⟨_,hn,_⟩:=I.loc;hn.lt
theorem Inv.sz (I:Inv X pins σ H s):X.s₀.heap.objs.size<=s.heap.objs.size:=Nat.le_trans I.ok.above (Nat.le_of_lt I.lt)
theorem Inv.nofs (I:Inv X pins σ H s){a:Addr}(h:s.heap.objs.size<=a):a∉X.fs:=λhb=>by
 obtain⟨_,o,ho,_⟩:=I.ok.funs.mem hb;exact absurd (Nat.lt_of_lt_of_le (Heap.lt_size ho) (Nat.le_trans I.sz h)) (Nat.lt_irrefl _)
theorem Inv.cne (I:Inv X pins σ H s):∀x c,X.env.cells.lookup x=some c->c≠X.env.locals:=λx c e z=>by
 obtain⟨v,o,ho,hd⟩:=I.cell x c e;obtain⟨m,⟨o',es,ep,ho',hd',_⟩,_⟩:=I.loc;rw[z,ho']at ho;cases ho;rw[hd']at hd;cases hd
theorem Inv.funs (I:Inv X pins σ H s):s.heap.FunFrames X.base X.outer:=by
 have all:∀(l:List Env),(∀b∈frs l,b∈X.fs)->X.s₀.heap.FunFrames X.base l->s.heap.FunFrames X.base l:=by
  intro l;induction l with
  |nil=>intro _ _;trivial
  |cons env r ih=>
   intro hs hl;obtain⟨hk,⟨L,o,hf,hn,ho,hd⟩,hr⟩:=hl;have hL:L∈X.fs:=hs L (by unfold frs;rw[List.filterMap_cons,hf];exact mX);obtain⟨sl,e⟩:=I.base.slot L o ho (I.ok.frf L hL) hL λz=>I.ok.exfs L z hL;exact⟨hk,⟨L,_,hf,hn,e,hd⟩,ih (λb hb=>hs b (by unfold frs;rw[List.filterMap_cons,hf];exact mZ _ hb)) hr⟩
 exact all X.outer (λ_ hb=>hb) I.ok.funs
theorem Inv.stack (I:Inv X pins σ H s):s.heap.FunFrames X.base X.stack:=by
 rcases I.ok.stk with e|⟨e,hf⟩
 ·rw[e];exact I.funs
 ·rw[e];obtain⟨m,hn,_⟩:=I.loc;refine .cons (by rw[I.ok.kind];decide) hf hn ?_ I.funs;exact Heap.get?_none_of_le (Nat.le_trans I.ok.bsz I.ok.above)
theorem Inv.stkSub (I:Inv X pins σ H s):∀b∈frs X.stack,b∈X.env.locals::X.fs:=λb hb=>by
 rcases I.ok.stk with e|⟨e,hf⟩
 ·rw[e]at hb;exact mZ _ hb
 ·rw[e]at hb;unfold frs at hb;rw[List.filterMap_cons,hf]at hb;exact hb
theorem Inv.stkFree (I:Inv X pins σ H s):∀b∈frs X.stack,H b=none:=λb hb=>by
 rcases List.mem_cons.mp (I.stkSub b hb)with e|hb
 ·rw[e];exact I.free
 ·obtain⟨_,o,ho,_⟩:=I.ok.funs.mem hb;exact I.base.free b o ho (I.ok.frf b hb) λz=>I.ok.exfs b z hb
theorem Inv.step {g':Array GenState}{t':Nat}{d':Drawn}{ch:List Addr}(I:Inv X pins σ H s)
  (hch:∀b∈ch,(b∈X.ex∨X.s₀.heap.objs.size<=b)/\b≠X.env.locals/\(∀x c,X.env.cells.lookup x=some c->c≠b)/\∀p∈X.pn++pins,p.1≠b)
  (keep:∀b o,b≠X.env.locals->b∉X.fs->b∉ch->s.heap.get? b=some o->H b=none->h'.get? b=some o)
  (slot:∀b o,b≠X.env.locals->b∈X.fs->b∉ch->s.heap.get? b=some o->H b=none->∃sl,h'.get? b=some { o with slots:=sl }) (free:∀b o,b∉ch->s.heap.get? b=some o->H b=none->H' b=none)
  (there:∀b o,b∉ch->s.heap.get? b=some o->∃o',h'.get? b=some o')
  (tups:∀b xs,H b=some (.tup xs)->H' b=some (.tup xs)) (frzs:∀b o u,H b=some (.frz o u)->H' b=some (.frz o u)) (tbls:∀b q,H b=some (.tbl q)->H' b=some (.tbl q))
  (ns:∀m,s.heap.Ns X.env.locals m->h'.Ns X.env.locals m) (hok:HOk X.prog X.w H' h') (hg:AllBare g'):
  Inv X pins σ H' { s with heap:=h',gens:=g',drawn:=d',toks:=t' }:=by
 have neL:∀b o,X.s₀.heap.get? b=some o->b≠X.env.locals:=λb o e=>Nat.ne_of_lt (Nat.lt_of_lt_of_le (Heap.lt_size e) I.ok.above);have neC:∀b o,X.s₀.heap.get? b=some o->b∉X.ex->b∉ch:=λb o e hx hb=>by
  rcases (hch b hb).1 with z|z
  ·exact hx z
  ·exact absurd (Nat.lt_of_lt_of_le (Heap.lt_size e) z) (Nat.lt_irrefl _)
 have cellK:∀x c,X.env.cells.lookup x=some c->∀v,s.heap.IsCell c v->h'.IsCell c v:=λx c e v ⟨o,ho,hd⟩=>by
  have nch:c∉ch:=λz=>(hch c z).2.2.1 x c e rfl;by_cases hc:c∈X.fs
  ·obtain⟨sl,q⟩:=slot c o (I.cne x c e) hc nch ho (I.freeC x c e);exact⟨_,q,hd⟩
  ·exact⟨o,keep c o (I.cne x c e) hc nch ho (I.freeC x c e),hd⟩
 refine⟨I.ok,I.os,hg,⟨λb o e n hb hx=>?_,λb o e n hb hx=>?_,λb o e n hx=>?_,λb o e hx=>?_,λb xs e=>tups b xs (I.base.tups b xs e),λb o xs e=>frzs b o xs (I.base.frzs b o xs e),λb ps e=>?_⟩,?_,λx c e=>?_,?_,λx c e=>?_,λp hp=>?_,hok,I.len⟩
 ·exact keep b o (neL b o e) hb (neC b o e hx) (I.base.keep b o e n hb hx) (I.base.free b o e n hx)
 ·obtain⟨sl,e1⟩:=I.base.slot b o e n hb hx;obtain⟨sl',e2⟩:=slot b _ (neL b o e) hb (neC b o e hx) e1 (I.base.free b o e n hx);exact⟨sl',e2⟩
 ·obtain⟨o',e1⟩:=I.base.there b o e hx;exact free b o' (neC b o e hx) e1 (I.base.free b o e n hx)
 ·obtain⟨o',e1⟩:=I.base.there b o e hx;exact there b o' (neC b o e hx) e1
 ·exact tbls b _ (I.base.tbls b ps e)
 ·obtain⟨m,hn,hl⟩:=I.loc;refine⟨m,ns m hn,λi x v e1 e2 e3=>?_⟩;obtain⟨u,r,l⟩:=hl i x v e1 e2 e3;refine⟨u,r,?_⟩;rcases l with l|⟨k,c,e,z⟩
  ·exact .inl l
  ·exact .inr ⟨k,c,e,cellK x c e _ z⟩
 ·obtain⟨v,z⟩:=I.cell x c e;exact⟨v,cellK x c e v z⟩
 ·obtain⟨m,⟨o,_,_,ho,_⟩,_⟩:=I.loc;exact free _ o (λz=>(hch _ z).2.1 rfl) ho I.free
 ·obtain⟨v,o,ho,hd⟩:=I.cell x c e;exact free c o (λz=>(hch c z).2.2.1 x c e rfl) ho (I.freeC x c e)
 ·obtain⟨e,n,ne,nf,d⟩:=I.pin p hp;have nch:p.1∉ch:=λz=>(hch p.1 z).2.2.2 p hp rfl;exact⟨keep p.1 p.2 ne nf nch e n,free p.1 p.2 nch e n,ne,nf,d⟩
theorem Inv.un {t':Nat}(I:Inv X pins σ H s)(u:Un X.fs [] H H' s.heap h')(hok:HOk X.prog X.w H' h'):Inv X pins σ H' { s with heap:=h',toks:=t' }:=by
 obtain⟨m,⟨o,es,ep,ho,r⟩,_⟩:=id I.loc;obtain⟨sl,hL⟩:=u.any ho I.free (by simp);exact I.step (g':=s.gens) (d':=s.drawn) (ch:=[]) (λ_ z=>nomatch z) (λb o _ hb _ e n=>u.keep b o e n hb (by simp)) (λb o _ hb _ e n=>u.slot b o e n hb (by simp)) (λb o _ e n=>u.free b o e n (by simp)) (λb o _ e=>u.there b o e (by simp)) u.tups u.frzs u.tbls (λm' hm=>by
  obtain⟨o',es',ep',ho',r'⟩:=hm;rw[ho]at ho';cases ho';exact⟨_,es',ep',hL,r'⟩) hok I.bare
theorem Inv.call {g':Array GenState}{t':Nat}{d':Drawn}{ch:List Addr}(I:Inv X pins σ H s)(u:Un (frs X.stack) ch H H' s.heap h')(hok:HOk X.prog X.w H' h')(hg:AllBare g')
  (hch:∀b∈ch,(b∈X.ex∨X.s₀.heap.objs.size<=b)/\b≠X.env.locals/\(∀x c,X.env.cells.lookup x=some c->c≠b)/\∀p∈X.pn++pins,p.1≠b):
  Inv X pins σ H' { s with heap:=h',gens:=g',drawn:=d',toks:=t' }:=by
 obtain⟨m,⟨o,es,ep,ho,r⟩,_⟩:=id I.loc;obtain⟨sl,hL⟩:=u.any ho I.free λz=>(hch _ z).2.1 rfl;exact I.step (ch:=ch) hch (λb o hL hb hc e n=>u.keep b o e n (λz=>(List.mem_cons.mp (I.stkSub b z)).elim hL hb) hc) (λb o _ _ hc e n=>u.any e n hc) (λb o hc e n=>u.free b o e n hc) (λb o hc e=>u.there b o e hc) u.tups u.frzs u.tbls (λm' hm=>by
  obtain⟨o',es',ep',ho',r'⟩:=hm;rw[ho]at ho';cases ho';exact⟨_,es',ep',hL,r'⟩) hok hg
theorem Inv.turned {t':Nat}{it:Addr}(I:Inv X pins σ H s)(k:∀b o,b≠it->s.heap.get? b=some o->h'.get? b=some o)(hn:H it=none)(hL:it≠X.env.locals)
  (h1:it∈X.ex∨X.s₀.heap.objs.size<=it) (h2:∀x c,X.env.cells.lookup x=some c->c≠it) (h3:∀p∈X.pn++pins,p.1≠it):Inv X pins σ H { s with heap:=h',toks:=t' }:=by
 have nit:∀b u,H b=some u->b≠it:=λb u e z=>by rw[z,hn]at e;cases e
 refine I.step (g':=s.gens) (d':=s.drawn) (ch:=[it]) (λb hb=>?_) (λb o _ _ hc e _=>k b o (λz=>hc (by simp[z])) e) (λb o _ _ hc e _=>⟨o.slots,k b o (λz=>hc (by simp[z])) e⟩) (λ_ _ _ _ n=>n)
  (λb o hc e=>⟨o,k b o (λz=>hc (by simp[z])) e⟩) (λ_ _ e=>e) (λ_ _ _ e=>e) (λ_ _ e=>e) (λm hm=>?_) (λb u e=>?_) I.bare
 ·have e:b=it:=by simpa using hb
  subst e;exact⟨h1,hL,h2,h3⟩
 ·obtain⟨o,es,ep,ho,r⟩:=hm;exact⟨o,es,ep,k _ o (Ne.symm hL) ho,r⟩
 ·refine(I.hok b u e).stay (λc v hc q=>k c v ?_ q) (λ_ q=>q) (λ_ _ q=>q) λ_ _ _ q=>q;rcases hc with z|z
  ·rw[z];exact nit b u e
  ·exact nit c _ z
theorem Inv.tok (I:Inv X pins σ H s)(t:Nat):Inv X pins σ H { s with toks:=t }:=I.un (h':=s.heap) (t':=t) Un.refl I.hok
theorem Inv.kept {t':Nat}(I:Inv X pins σ H s)(k:∀b u,s.heap.get? b=some u->h'.get? b=some u):Inv X pins σ H { s with heap:=h',toks:=t' }:=I.un (Un.kept k) (I.hok.kept k)
theorem Inv.laid {a:Addr}{o:HO}{t':Nat}(I:Inv X pins σ H s)(k:∀b u,s.heap.get? b=some u->h'.get? b=some u)(hp:s.heap.objs.size<=a)(new:bA X.prog X.w (upd H a o) h' a o):
  Inv X pins σ (upd H a o) { s with heap:=h',toks:=t' }:=I.un (Un.laid k hp (I.hok.fresh hp)) (I.hok.laid k hp new)
theorem Inv.write {x e:Addr}{o:HO}{t':Nat}(I:Inv X pins σ H s)(mu:Mut (H x))(he:e=x∨H e=some (.own x))(k:∀b u,b≠e->s.heap.get? b=some u->h'.get? b=some u)(heo:∃u,h'.get? e=some u)
  (new:bA X.prog X.w (upd H x o) h' x o):Inv X pins σ (upd H x o) { s with heap:=h',toks:=t' }:=I.un (Un.write mu he k heo) (I.hok.write mu he k heo new)
theorem Inv.pins_of {pins':List (Addr×Obj)}(I:Inv X pins σ H s)(h:∀p∈pins',s.heap.get? p.1=some p.2/\H p.1=none/\p.1≠X.env.locals/\p.1∉X.fs/\∀v,p.2.data≠.cell v):Inv X pins' σ H s :=
 ⟨I.ok,I.os,I.bare,I.base,I.loc,I.cell,I.free,I.freeC,λp hp=>(List.mem_append.mp hp).elim (λz=>I.pin p (List.mem_append_left _ z)) (h p),I.hok,I.len⟩
theorem rN {N:List Str}(hN:N.Nodup){i j:Nat}{x:Str}(a:N[i]? = some x)(b:N[j]? = some x):i=j:=by
 obtain⟨h1,e1⟩:=List.getElem?_eq_some_iff.mp a;obtain⟨h2,e2⟩:=List.getElem?_eq_some_iff.mp b;exact(List.getElem_inj hN).mp (e1.trans e2.symm)
theorem oR {M:Model}{A:Around}{E:Value->Shared->Prop}{i:Nat}{x:Str}{v:V}{u:Value}{Q:Unit->Shared->Prop}(I:Inv X pins σ H s)(hN:X.N.Nodup)(hi:X.N[i]? = some x)(hx:Loc X.env.scope x)(r:aL v u)
  (h:∀s',Inv X pins (σ.set i (some v)) H s'->(∃a,Heap.SameBut a s.heap s'.heap/\(a=X.env.locals∨X.env.cells.lookup x=some a))->Q () s') (hf:X.fn x=true∨X.env.scope.names.lookup x=some .local:=by first|exact .inl rfl|exact .inr rfl|assumption):wpAny M A (storeName X.env x u) Q E s:=by
 obtain⟨m,hn,hl⟩:=id I.loc;have hcls:(X.env.scope.kind == .class || (X.env.scope.kind == .module && X.env.locals != X.env.globals))=false:=by rw[I.ok.kind];rfl
 have hiσ:i<σ.length:=by rw[I.len];exact(List.getElem?_eq_some_iff.mp hi).1
 have cne:=I.cne;have tracked:∀ {a:Addr}{h':Heap},(∃o,s.heap.get? a=some o/\H a=none)->Heap.SameBut a s.heap h'->HOk X.prog X.w H h':=λ{a h'} ha hs b ob e=>by
  obtain⟨_,_,hfree⟩:=ha;refine(I.hok b ob e).stay (λc w' hc q=>(hs.2 c ?_).trans q) (λ_ q=>q) (λ_ _ q=>q) λ_ _ _ q=>q;rintro rfl;rcases hc with rfl|hc
  ·rw[hfree]at e;cases e
  ·rw[hfree]at hc;cases hc
 rcases hx with hk|hk
 ·refine wpAny_storeName_local hk hn (λh' hn' hs=>?_) hcls;obtain⟨oL,_,_,hoL,_⟩:=id hn;refine h _ ⟨I.ok,I.os,I.bare,⟨λb o e n hb hx=>?_,λb o e n hb hx=>?_,I.base.free,λb o e hx=>?_,I.base.tups,I.base.frzs,I.base.tbls⟩,⟨_,hn',λj y v' e1 e2 e3=>?_⟩,λy c e=>?_,I.free,I.freeC,λp hp=>?_,tracked ⟨oL,hoL,I.free⟩ hs,by simpa using I.len⟩ ⟨_,hs,.inl rfl⟩
  ·exact(hs.2 b (Nat.ne_of_lt (Nat.lt_of_lt_of_le (Heap.lt_size e) I.ok.above))).trans (I.base.keep b o e n hb hx)
  ·obtain⟨sl,e1⟩:=I.base.slot b o e n hb hx;exact⟨sl,(hs.2 b (Nat.ne_of_lt (Nat.lt_of_lt_of_le (Heap.lt_size e) I.ok.above))).trans e1⟩
  ·obtain⟨o',e1⟩:=I.base.there b o e hx;exact⟨o',(hs.2 b (Nat.ne_of_lt (Nat.lt_of_lt_of_le (Heap.lt_size e) I.ok.above))).trans e1⟩
  ·by_cases hj:j=i
   ·subst hj;rw[hi]at e1;cases e1;rw[List.getElem?_set_self hiσ]at e2;cases e2
    exact⟨u,r,.inl ⟨hk,by simp⟩⟩
   ·rw[List.getElem?_set_ne (Ne.symm hj)]at e2;obtain⟨u',r',q⟩:=hl j y v' e1 e2 e3;refine⟨u',r',?_⟩;rcases q with⟨k,e⟩|⟨k,c,e,z⟩
    ·refine .inl ⟨k,?_⟩;have:y≠x:=λe=>hj (rN hN e1 (e ▸ hi));simp[this,e]
    ·exact .inr ⟨k,c,e,z.sameBut hs (cne y c e)⟩
  ·obtain⟨w',z⟩:=I.cell y c e;exact⟨w',z.sameBut hs (cne y c e)⟩
  ·obtain⟨e,n,ne,nf,d⟩:=I.pin p hp;exact⟨(hs.2 p.1 ne).trans e,n,ne,nf,d⟩
 ·have hfn:X.fn x=true:=by
   rcases hf with z|z
   ·exact z
   ·rw[z]at hk;cases hk
  obtain⟨c,hc⟩:=I.ok.has x (.inl hk);obtain⟨w',z⟩:=I.cell x c hc;refine wpAny_storeName_cell I.ok.kind hk hc z (λh' hc' hs=>?_);obtain⟨oc,hoc,hocd⟩:=id z;refine h { s with heap:=h' } ⟨I.ok,I.os,I.bare,⟨λb o e n hb hx=>?_,λb o e n hb hx=>?_,I.base.free,λb o e hx=>?_,I.base.tups,I.base.frzs,I.base.tbls⟩,⟨m,hn.sameBut hs (Ne.symm (cne x c hc)),λj y v' e1 e2 e3=>?_⟩,λy c' e=>?_,I.free,I.freeC,λp hp=>?_,tracked ⟨oc,hoc,I.freeC x c hc⟩ hs,by simpa using I.len⟩ ⟨c,hs,.inr hc⟩
  ·exact(hs.2 b (Nat.ne_of_lt (Nat.lt_of_lt_of_le (Heap.lt_size e) (I.ok.cab x c hfn hc)))).trans (I.base.keep b o e n hb hx)
  ·obtain⟨sl,e1⟩:=I.base.slot b o e n hb hx;exact⟨sl,(hs.2 b (Nat.ne_of_lt (Nat.lt_of_lt_of_le (Heap.lt_size e) (I.ok.cab x c hfn hc)))).trans e1⟩
  ·obtain⟨o',e1⟩:=I.base.there b o e hx;exact⟨o',(hs.2 b (Nat.ne_of_lt (Nat.lt_of_lt_of_le (Heap.lt_size e) (I.ok.cab x c hfn hc)))).trans e1⟩
  ·by_cases hj:j=i
   ·subst hj;rw[hi]at e1;cases e1;rw[List.getElem?_set_self hiσ]at e2;cases e2
    exact⟨u,r,.inr ⟨.inl hk,c,hc,hc'⟩⟩
   ·rw[List.getElem?_set_ne (Ne.symm hj)]at e2;obtain⟨u',r',q⟩:=hl j y v' e1 e2 e3;refine⟨u',r',?_⟩;rcases q with q|⟨k,c',e,z'⟩
    ·exact .inl q
    ·refine .inr ⟨k,c',e,z'.sameBut hs ?_⟩;rintro rfl;exact hj (rN hN e1 (I.ok.inj _ _ _ e hc ▸ hi))
  ·by_cases hcc:c'=c
   ·subst hcc;exact⟨_,hc'⟩
   ·obtain⟨w2,z2⟩:=I.cell y c' e;exact⟨w2,z2.sameBut hs hcc⟩
  ·obtain⟨e,n,ne,nf,d⟩:=I.pin p hp;refine⟨(hs.2 p.1 ?_).trans e,n,ne,nf,d⟩;intro q;rw[q,hoc]at e;have q':oc=p.2:=Option.some.inj e;exact d w' (by rw[←q'];exact hocd)
theorem rO {M:Model}{A:Around}{E:Value->Shared->Prop}{i:Nat}{x:Str}{v:V}{u:Value}{Q:Unit->Shared->Prop}(I:Inv X pins σ H s)(hN:X.N.Nodup)(hi:X.N[i]? = some x)(hx:Loc X.env.scope x)(r:aL v u)
  (h:∀s',Inv X pins (σ.set i (some v)) H s'->Q () s') (hf:X.fn x=true∨X.env.scope.names.lookup x=some .local:=by first|exact .inl rfl|exact .inr rfl|assumption):wpAny M A (storeName X.env x u) Q E s :=
 oR I hN hi hx r (λs' I' _=>h s' I') hf
theorem Inv.call' {s':Shared}{ch:List Addr}(I:Inv X pins σ H s)(ho:s'.os=s.os)(u:Un (frs X.stack) ch H H' s.heap s'.heap)(hok:HOk X.prog X.w H' s'.heap)(hg:AllBare s'.gens)
  (hch:∀b∈ch,(b∈X.ex∨X.s₀.heap.objs.size<=b)/\b≠X.env.locals/\(∀x c,X.env.cells.lookup x=some c->c≠b)/\∀p∈X.pn++pins,p.1≠b):Inv X pins σ H' s':=by
 obtain⟨h',g',d',t',o'⟩:=s';have e:o'=s.os:=ho;subst e;exact I.call (g':=g') (t':=t') (d':=d') u hok hg hch
end
noncomputable abbrev XK:=Value->Option Addr->Hp->Prop
noncomputable abbrev St:=List (Option V)
noncomputable abbrev VK:=V->Hp->Prop
noncomputable abbrev TE:=St->Hp->VK->Prop
noncomputable abbrev TT:=St->Hp->(Bool->Hp->Prop)->Prop
noncomputable abbrev TA:=St->Hp->(List V->Hp->Prop)->Prop
structure Ends where
 nx:St->Hp->Prop
 rt:VK
 bk:St->Hp->Prop:=λ_ _=>False
 ct:St->Hp->Prop:=λ_ _=>False
noncomputable abbrev TS:=Ends->St->Hp->Prop
noncomputable def EP (X:Cx)(pins:List (Addr×Obj))(σ:St)(Q:VK)(u:Value)(s':Shared):Prop:=∃v H',Inv X pins σ H' s'/\aL v u/\Q v H'
noncomputable def TP (X:Cx)(pins:List (Addr×Obj))(σ:St)(Q:Bool->Hp->Prop)(b:Bool)(s':Shared):Prop:=∃H',Inv X pins σ H' s'/\Q b H'
noncomputable def AP (X:Cx)(pins:List (Addr×Obj))(σ:St)(Q:List V->Hp->Prop)(us:List Value)(s':Shared):Prop:=∃vs H',Inv X pins σ H' s'/\aQ vs us/\Q vs H'
noncomputable def SP (X:Cx)(pins:List (Addr×Obj))(D:Ends)(f:Flow)(s':Shared):Prop :=
 match f with
 |.next=>∃σ' H',Inv X pins σ' H' s'/\D.nx σ' H'
 |.brk=>∃σ' H',Inv X pins σ' H' s'/\D.bk σ' H'
 |.cont=>∃σ' H',Inv X pins σ' H' s'/\D.ct σ' H'
 |.ret u=>∃v σ' H',Inv X pins σ' H' s'/\aL v u/\D.rt v H'
noncomputable def PE (X:Cx)(e:Expr)(t:TE):Prop :=
 ∀(pins:List (Addr×Obj))(s:Shared)(σ:St)(H:Hp)(Q:VK),Inv X pins σ H s->t σ H Q->wpAny (model X.prog X.w) X.A (eval e X.env) (EP X pins σ Q) X.xe s
noncomputable def PT (X:Cx)(e:Expr)(t:TT):Prop :=
 ∀(pins:List (Addr×Obj))(s:Shared)(σ:St)(H:Hp)(Q:Bool->Hp->Prop),Inv X pins σ H s->t σ H Q->wpAny (model X.prog X.w) X.A (isTrue e X.env (eval e X.env)) (TP X pins σ Q) X.xe s
noncomputable def PW (X:Cx)(e:Expr)(t:TT):Prop :=
 ∀(whole:Sem Value)(pins:List (Addr×Obj))(s:Shared)(σ:St)(H:Hp)(Q:Bool->Hp->Prop),Inv X pins σ H s->t σ H Q->wpAny (model X.prog X.w) X.A (isTrue e X.env whole) (TP X pins σ Q) X.xe s
theorem PW.pt {X:Cx}{e:Expr}{t:TT}(h:PW X e t):PT X e t:=h _
noncomputable def PA (X:Cx)(es:List Expr)(t:TA):Prop :=
 ∀(pos:Pos)(pins:List (Addr×Obj))(s:Shared)(σ:St)(H:Hp)(Q:List V->Hp->Prop),Inv X pins σ H s->t σ H Q->wpAny (model X.prog X.w) X.A (spliced (backTo pos (starEach es X.env))) (AP X pins σ Q) X.xe s
noncomputable def PS (X:Cx)(st:Stmt)(t:TS):Prop :=
 ∀(pins:List (Addr×Obj))(s:Shared)(σ:St)(H:Hp)(D:Ends),Inv X pins σ H s->t D σ H->wpAny (model X.prog X.w) X.A (exec st X.env) (SP X pins D) X.xe s
noncomputable def PSs (X:Cx)(st:List Stmt)(t:TS):Prop :=
 ∀(pins:List (Addr×Obj))(s:Shared)(σ:St)(H:Hp)(D:Ends),Inv X pins σ H s->t D σ H->wpAny (model X.prog X.w) X.A (execs st X.env) (SP X pins D) X.xe s
theorem thn {α:Type}{t:Sem α}{Q Q':α->Shared->Prop}{M:Model}{A:Around}{E:Value->Shared->Prop}{s:Shared}(h:wpAny M A t Q E s)(hQ:∀a s,Q a s->Q' a s):wpAny M A t Q' E s:=wpAny_mono h hQ λ_ _ x=>x
section
variable {X:Cx}
theorem bin {a b:Expr}{ta tb:TE}(ha:PE X a ta)(hb:PE X b tb){pins:List (Addr×Obj)}{s:Shared}{σ:St}{H:Hp}{R:V->V->Hp->Prop}(I:Inv X pins σ H s)(h:ta σ H λx H1=>tb σ H1 λy H2=>R x y H2)
  {α:Type}{Q:α->Shared->Prop}{f:Value->Value->Sem α}
  (hf:∀v u s2 x y H2,Inv X pins σ H2 s2->aL x v->aL y u->R x y H2->wpAny (model X.prog X.w) X.A (f v u) Q X.xe s2):
  wpAny (model X.prog X.w) X.A (eval a X.env) (λv s₁=>wpAny (model X.prog X.w) X.A (eval b X.env) (λu s₂=>wpAny (model X.prog X.w) X.A (f v u) Q X.xe s₂) X.xe s₁) X.xe s:=by
 refine thn (ha pins s σ H _ I h) λv s1 ⟨x,H1,I1,r1,q1⟩=>?_;refine thn (hb pins s1 σ H1 _ I1 q1) λu s2 ⟨y,H2,I2,r2,q2⟩=>?_;exact hf v u s2 x y H2 I2 r1 r2 q2
noncomputable def AL (i:Nat):TE:=λσ H Q=>∃v,σ[i]? = some (some v)/\Q v H
noncomputable def tC (v:V):TE:=λ_ H Q=>Q v H
theorem kN {i:Nat}{x:Str}{pos:Pos}(hN:X.N[i]? = some x)(hv:Vis X.env.scope x)(hd:(x == ("__debug__" : Str))=false:=by decide)(hcd:(x == ("__classdict__" : Str))=false:=by decide):PE X (.Name x pos) (AL i):=by
 intro pins s σ H Q I h;obtain⟨v,e,h⟩:=h;obtain⟨m,hn,hl⟩:=I.loc;obtain⟨u,r,l⟩:=hl i x v hN e hv;have fin:EP X pins σ Q u s:=⟨v,H,I,r,h⟩;rcases l with⟨hk,hm⟩|⟨hk,c,hc,hcell⟩
 ·exact wpAny_Name (wpAny_loadName_local I.ok.kind hk hn hm fin) hd
 ·rcases hk with hk|hk
  ·exact wpAny_Name (wpAny_loadName_cell I.ok.kind hk hc hcell fin) hd
  ·exact wpAny_Name (wpAny_loadName_free I.ok.kind hk hc hcell fin hcd) hd
theorem Df {i j pos}:PE X (.Constant (.int i) j pos) (tC (.int i)):=λ_ _ _ H _ I h=>wpAny_Constant_int ⟨.int i,H,I.tok _,⟨_,rfl⟩,h⟩
theorem EI {b j pos}:PE X (.Constant (.bool b) j pos) (tC (.bl b)):=λ_ _ _ H _ I h=>Constant_bool ⟨.bl b,H,I,rfl,h⟩
theorem Dg {j pos}:PE X (.Constant .none j pos) (tC .non):=λ_ _ _ H _ I h=>Constant_none ⟨.non,H,I,rfl,h⟩
theorem Dh {x j pos}:PE X (.Constant (.str x) j pos) (tC (.str x)):=λ_ _ _ H _ I h=>Calls.Constant_str ⟨.str x,H,I.tok _,⟨_,rfl⟩,h⟩
noncomputable def Gl (X:Cx)(x:Str):Prop:=X.env.kindOf x=some .globalImplicit
theorem qw {E:Value->Shared->Prop}{pins:List (Addr×Obj)}{s:Shared}{σ:St}{H:Hp}{x:Str}{u:Value}{pos:Pos}{Q:Value->Shared->Prop}(I:Inv X pins σ H s)(hg:Gl X x)(hm:X.mg x=some u)(h:Q u s)
  (hd:(x == ("__debug__" : Str))=false:=by decide):wpAny (model X.prog X.w) X.A (eval (.Name x pos) X.env) Q E s :=
 Calls.Name_function_global I.ok.kind hg (Calls.loadGlobal_global (by rw[I.ok.glob];exact I.mod.glob.keeps I.bk) hm h) hd
theorem js {E:Value->Shared->Prop}{pins:List (Addr×Obj)}{s:Shared}{σ:St}{H:Hp}{x:Str}{u:Value}{pos:Pos}{Q:Value->Shared->Prop}(I:Inv X pins σ H s)(hg:Gl X x)(hm:X.mg x=none)(hv:bootBuiltins x=some u)(h:Q u s)
  (hn:x ≠ "__name__":=by decide) (hd:(x == ("__debug__" : Str))=false:=by decide):wpAny (model X.prog X.w) X.A (eval (.Name x pos) X.env) Q E s:=by
 obtain⟨mb,h1,h2⟩:=I.mod.blt;exact Calls.Name_function_global I.ok.kind hg (Calls.loadGlobal_builtin (by rw[I.ok.glob];exact I.mod.glob.keeps I.bk) hm (by rw[I.ok.blt];exact h1.keeps I.bk) ((h2 x hn).trans hv) h) hd
theorem vV {x:Str}{v:V}{u:Value}{pos:Pos}(hg:Gl X x)(hm:X.mg x=some u)(r:aL v u)(hd:(x == ("__debug__" : Str))=false:=by decide):PE X (.Name x pos) (tC v) :=
 λ_ _ _ H _ I h=>qw I hg hm ⟨v,H,I,r,h⟩ hd
theorem AM {x:Str}{v:V}{u:Value}{pos:Pos}(hg:Gl X x)(hm:X.mg x=none)(hv:bootBuiltins x=some u)(r:aL v u)(hn:x ≠ "__name__":=by decide)(hd:(x == ("__debug__" : Str))=false:=by decide):PE X (.Name x pos) (tC v) :=
 λ_ _ _ H _ I h=>js I hg hm hv ⟨v,H,I,r,h⟩ hn hd
noncomputable def t2I (ta tb:TE)(k:Int->Int->Hp->Prop):St->Hp->Prop:=λσ H=>ta σ H λx H1=>tb σ H1 λy H2=>∃i j,x=.int i/\y=.int j/\k i j H2
variable {a b:Expr}{ta tb:TE}{pos:Pos}
noncomputable def PC (X:Cx)(op:CmpOp)(a b:Expr)(t:TE):Prop :=
 ∀(pins:List (Addr×Obj))(s:Shared)(σ:St)(H:Hp)(Q:VK),Inv X pins σ H s->t σ H Q ->
  wpAny (model X.prog X.w) X.A (eval a X.env) (λv s₁=>wpAny (model X.prog X.w) X.A (eval b X.env) (λu s₂=>wpAny (model X.prog X.w) X.A (compareOp op v u) (EP X pins σ Q) X.xe s₂) X.xe s₁) X.xe s
theorem iF (b:Expr){op:CmpOp}(h:op≠.In)(h2:op≠.NotIn):behindInMarks op b=false:=by
 have e1:(op == CmpOp.In)=false:=by cases op<;>first|rfl|exact absurd rfl h
 have e2:(op == CmpOp.NotIn)=false:=by cases op<;>first|rfl|exact absurd rfl h2
 cases b<;>simp[behindInMarks,e1,e2]
noncomputable def EJ (p:Int->Int->Bool)(ta tb:TE):TE:=λσ H Q=>t2I ta tb (λi j H2=>Q (.bl (p i j)) H2) σ H
noncomputable abbrev tLt:TE->TE->TE:=EJ λi j=>decide (i<j)
noncomputable abbrev tGt:TE->TE->TE:=EJ λi j=>decide (j<i)
noncomputable def tB (t:TE):TT:=λσ H Q=>t σ H λx H1=>∃c,x=.bl c/\Q c H1
theorem yJ {op:CmpOp}{t:TE}(h:PC X op a b t)(h1:behindInMarks op b=false:=by first|exact iF _ (by decide) (by decide)|rfl):PT X (.Compare a [op] [b] pos) (tB t):=by
 intro pins s σ H Q I hw;refine wpAny_isTrue_Compare1 (thn (h pins s σ H _ I hw) λv s1 h1=>thn h1 λu s2 h2=>thn h2 λc s3 ⟨x,H1,I1,r1,q1⟩=>?_) h1;obtain⟨d,rfl,q⟩:=q1;cases r1
 exact wpAny_truthy_bool ⟨H1,I1,q⟩
theorem Di {e:Expr}{t:TE}(h:PE X e t)(he:∀whole,isTrue e X.env whole=(do let v ←whole;standAt e.pos;holding [v] (truthy v)):=by intro _;rfl):PT X e (tB t):=by
 intro pins s σ H Q I hw;refine isTrue_plain (thn (h pins s σ H _ I hw) λv s1 ⟨x,H1,I1,r1,q1⟩=>?_) (he _);obtain⟨d,rfl,q⟩:=q1;cases r1
 exact wpAny_truthy_bool ⟨H1,I1,q⟩
variable {tA tB':TT}{aC:List Expr}
noncomputable def EK (t u:TT):TT:=λσ H Q=>t σ H λc H1=>if c=true then u σ H1 Q else Q false H1
noncomputable def tOr (t u:TT):TT:=λσ H Q=>t σ H λc H1=>if c=true then Q true H1 else u σ H1 Q
noncomputable def EL (t:TT):TT:=λσ H Q=>t σ H λc H1=>Q (!c) H1
theorem AN (ha:PT X a tA):PW X (.BoolOp .And [a] pos) tA:=by
 intro wh pins s σ H Q I h;refine isTrue_and (thn (ha pins s σ H Q I h) λc s1 e=>?_);cases c with
 |true=>exact isTrue_and_nil e
 |false=>exact e
theorem Dj (ha:PT X a tA):PW X (.BoolOp .Or [a] pos) tA:=by
 intro wh pins s σ H Q I h;refine isTrue_or (thn (ha pins s σ H Q I h) λc s1 e=>?_);cases c with
 |false=>exact isTrue_or_nil e
 |true=>exact e
theorem Dk (ha:PT X a tA)(hb:PW X (.BoolOp .And (b::aC) pos) tB'):PW X (.BoolOp .And (a::b::aC) pos) (EK tA tB'):=by
 intro wh pins s σ H Q I h;refine isTrue_and (thn (ha pins s σ H _ I h) λc s1 ⟨H1,I1,q1⟩=>?_);cases c with
 |true=>exact hb wh pins s1 σ H1 Q I1 q1
 |false=>exact⟨H1,I1,q1⟩
theorem EM (ha:PT X a tA)(hb:PW X (.BoolOp .Or (b::aC) pos) tB'):PW X (.BoolOp .Or (a::b::aC) pos) (tOr tA tB'):=by
 intro wh pins s σ H Q I h;refine isTrue_or (thn (ha pins s σ H _ I h) λc s1 ⟨H1,I1,q1⟩=>?_);cases c with
 |true=>exact⟨H1,I1,q1⟩
 |false=>exact hb wh pins s1 σ H1 Q I1 q1
theorem Dl (ha:PT X a tA):PT X (.UnaryOp .Not a pos) (EL tA):=by
 intro pins s σ H Q I h;exact isTrue_not (ha pins s σ H (λc H1=>Q (!c) H1) I h)
noncomputable def EN (ta tb:TE):TE:=λσ H Q=>ta σ H λx H1=>∃c,x=.bl c/\if c=true then tb σ H1 Q else Q (.bl false) H1
noncomputable def Gs (ta tb:TE):TE:=λσ H Q=>ta σ H λx H1=>∃c,x=.bl c/\if c=true then Q (.bl true) H1 else tb σ H1 Q
theorem Dm {op}{t:TE}(h:PE X a t):PE X (.BoolOp op [a] pos) t:=λpins s σ H Q I hw=>BoolOp_one (h pins s σ H Q I hw)
theorem Dn (ha:PE X a ta)(hb:PE X (.BoolOp .And (b::aC) pos) tb):PE X (.BoolOp .And (a::b::aC) pos) (EN ta tb):=by
 intro pins s σ H Q I h;refine BoolOp_and (thn (ha pins s σ H _ I h) λv s1 ⟨x,H1,I1,r1,q1⟩=>?_);obtain⟨c,rfl,q1⟩:=q1;cases r1
 refine wpAny_truthy_bool ?_;cases c with
 |true=>exact hb pins s1 σ H1 Q I1 q1
 |false=>exact⟨.bl false,H1,I1,rfl,q1⟩
theorem EO (ha:PE X a ta)(hb:PE X (.BoolOp .Or (b::aC) pos) tb):PE X (.BoolOp .Or (a::b::aC) pos) (Gs ta tb):=by
 intro pins s σ H Q I h;refine BoolOp_or (thn (ha pins s σ H _ I h) λv s1 ⟨x,H1,I1,r1,q1⟩=>?_);obtain⟨c,rfl,q1⟩:=q1;cases r1
 refine wpAny_truthy_bool ?_;cases c with
 |false=>exact hb pins s1 σ H1 Q I1 q1
 |true=>exact⟨.bl true,H1,I1,rfl,q1⟩
end
noncomputable def SqL (K:PySem.W.Frag)(H:Hp)(a:Addr)(xs:List V):Prop :=
 Rd H a (.lst xs) ∨
  ∃(o:Obj)(its:Array Value)(n:Nat),K.lookup a=some o/\o.cls=.type "list"/\o.dict=none/\o.data=.seq its n/\its.size<=sizeLine/\aQ xs its.toList
noncomputable def SqT (K:PySem.W.Frag)(H:Hp)(a:Addr)(xs:List V):Prop :=
 Rd H a (.tup xs) ∨
  ∃(o:Obj)(its:Array Value)(n:Nat),K.lookup a=some o/\o.cls=.type "tuple"/\o.data=.seq its n/\its.size<=sizeLine/\aQ xs its.toList
noncomputable def Gu:Value->Option V
 |.none=>some .non
 |.bool b=>some (.bl b)
 |.int i _=>some (.int i)
 |.str x _=>some (.str x)
 |.bytes b _=>some (.byt b)
 |.float b _=>some (.flt b)
 |.ref a=>some (.ref a)
 |.type n=>some (.ty n)
 |_=>none
theorem aL.abs {x:V}{u:Value}(r:aL x u):Gu u=some x:=by
 cases x with
 |non=>cases r;rfl
 |bl _=>cases r;rfl
 |int _=>obtain⟨t,rfl⟩:=r;rfl
 |str _=>obtain⟨t,rfl⟩:=r;rfl
 |byt _=>obtain⟨t,rfl⟩:=r;rfl
 |flt _=>obtain⟨t,rfl⟩:=r;rfl
 |ref _=>cases r;rfl
 |ty _=>cases r;rfl
theorem aL.inj {x y:V}{u:Value}(r:aL x u)(q:aL y u):x=y:=Option.some.inj (r.abs.symm.trans q.abs)
theorem aQ.inj:∀ {xs ys:List V}{us:List Value},aQ xs us->aQ ys us->xs=ys
 |_,_,_,.nil,.nil=>rfl
 |_,_,_,.cons r t,.cons r' t'=>by rw[r.inj r',aQ.inj t t']
section
variable {X:Cx}{pins:List (Addr×Obj)}{σ:St}{H:Hp}{s:Shared}{a:Addr}{xs ys:List V}
theorem SqL.of {K:PySem.W.Frag}(h:H a=some (.lst xs)):SqL K H a xs:=.inl (.inl h)
theorem SqT.of {K:PySem.W.Frag}(h:H a=some (.tup xs)):SqT K H a xs:=.inl (.inl h)
theorem Inv.list (I:Inv X pins σ H s)(h:SqL X.K H a xs):∃its:List Value,aQ xs its/\PlainL s.heap a its.toArray/\xs.length<=sizeLine:=by
 rcases h with h|⟨o,its,n,hk,hc,hd,hs,hz,r⟩
 ·obtain⟨z,its,n,r,e⟩:=h.ok I.hok;exact⟨its,r,⟨_,n,e,rfl,rfl,rfl⟩,z⟩
 ·refine⟨its.toList,r,⟨o,n,I.kIn a o hk,hc,hd,by simpa using hs⟩,?_⟩;have e:=r.length;simp only[Array.length_toList]at e;omega
theorem Inv.tuple (I:Inv X pins σ H s)(h:SqT X.K H a xs):∃its:List Value,aQ xs its/\IsTup s.heap a its.toArray/\xs.length<=sizeLine:=by
 rcases h with h|⟨o,its,n,hk,hc,hs,hz,r⟩
 ·obtain⟨z,its,r,p⟩:=h.ok I.hok;exact⟨its,r,p,z⟩
 ·refine⟨its.toList,r,⟨o,I.kIn a o hk,hc,n,by simpa using hs⟩,?_⟩;have e:=r.length;simp only[Array.length_toList]at e;omega
theorem Inv.list_inj (I:Inv X pins σ H s)(h:SqL X.K H a xs)(h':SqL X.K H a ys):xs=ys:=by
 obtain⟨its,r,⟨o,n,e,_,_,d⟩,_⟩:=I.list h;obtain⟨its',r',⟨o',n',e',_,_,d'⟩,_⟩:=I.list h';rw[e]at e';cases e';rw[d]at d';injection d' with d1 _;have:its=its':=by simpa using congrArg Array.toList d1
 subst this;exact r.inj r'
theorem Inv.tuple_inj (I:Inv X pins σ H s)(h:SqT X.K H a xs)(h':SqT X.K H a ys):xs=ys:=by
 obtain⟨its,r,⟨o,e,_,n,d⟩,_⟩:=I.tuple h;obtain⟨its',r',⟨o',e',_,n',d'⟩,_⟩:=I.tuple h';rw[e]at e';cases e';rw[d]at d';injection d' with d1 _;have:its=its':=by simpa using congrArg Array.toList d1
 subst this;exact r.inj r'
end
noncomputable abbrev Cx.wish (X:Cx)(E:Value->Shared->Prop):Cx:={ X with xe:=E }
noncomputable abbrev Cx.nox (X:Cx):Cx:=X.wish λ_ _=>False
theorem Cx.Ok.wish {X:Cx}(ok:X.Ok)(E:Value->Shared->Prop):(X.wish E).Ok :=
 ⟨ok.mod,ok.kind,ok.glob,ok.blt,ok.above,ok.inj,ok.has,ok.cab,ok.hd,ok.frames,ok.stk,ok.exf,ok.bs,ok.bsz,ok.noex,ok.exfs,ok.funs,ok.frf⟩
theorem Cx.Ok.unwish {X:Cx}{E:Value->Shared->Prop}(ok:(X.wish E).Ok):X.Ok :=
 ⟨ok.mod,ok.kind,ok.glob,ok.blt,ok.above,ok.inj,ok.has,ok.cab,ok.hd,ok.frames,ok.stk,ok.exf,ok.bs,ok.bsz,ok.noex,ok.exfs,ok.funs,ok.frf⟩
section
variable {X:Cx}{pins:List (Addr×Obj)}{σ:St}{H:Hp}{s:Shared}{E:Value->Shared->Prop}
theorem Inv.wish (I:Inv X pins σ H s)(E:Value->Shared->Prop):Inv (X.wish E) pins σ H s:=⟨I.ok.wish E,I.os,I.bare,I.base,I.loc,I.cell,I.free,I.freeC,I.pin,I.hok,I.len⟩
theorem Inv.unwish (I:Inv (X.wish E) pins σ H s):Inv X pins σ H s:=⟨I.ok.unwish,I.os,I.bare,I.base,I.loc,I.cell,I.free,I.freeC,I.pin,I.hok,I.len⟩
theorem SP.unwish {D:Ends}{f:Flow}{s':Shared}(h:SP (X.wish E) pins D f s'):SP X pins D f s':=by
 cases f with
 |next=>obtain⟨σ',H',I,q⟩:=h;exact⟨σ',H',I.unwish,q⟩
 |brk=>obtain⟨σ',H',I,q⟩:=h;exact⟨σ',H',I.unwish,q⟩
 |cont=>obtain⟨σ',H',I,q⟩:=h;exact⟨σ',H',I.unwish,q⟩
 |ret u=>obtain⟨v,σ',H',I,r,q⟩:=h;exact⟨v,σ',H',I.unwish,r,q⟩
theorem PSs.nox {st:List Stmt}{t:TS}(h:PSs X.nox st t):PSs X st t:=λpins s σ H D I hw=>
 wpAny_mono (h pins s σ H D (I.wish _) hw) (λ_ _ q=>q.unwish) λ_ _ z=>False.elim z
end
section
variable {X:Cx}{st:Stmt}{aC:List Stmt}{t u:TS}{e:Expr}{te:TE}{pos:Pos}
noncomputable def Cq:TS:=λD σ H=>D.nx σ H
noncomputable def EQ (t u:TS):TS:=λD σ H=>t { D with nx:=u D } σ H
theorem AO:PSs X [] Cq:=λ_ _ σ H _ I h=>wpAny_execs_nil ⟨σ,H,I,h⟩
theorem yK (h1:PS X st t)(h2:PSs X aC u):PSs X (st::aC) (EQ t u):=by
 intro pins s σ H D I h;refine wpAny_execs_cons (thn (h1 pins s σ H { D with nx:=u D } I h) λf s1 q=>?_);cases f with
 |next=>
  obtain⟨σ',H',I',q⟩:=q;exact h2 pins s1 σ' H' D I' q
 |ret v=>exact q
 |brk=>exact q
 |cont=>exact q
theorem AQ (h1:PS X st t):PSs X [st] t:=by
 intro pins s σ H D I h;refine wpAny_execs_cons (thn (h1 pins s σ H D I h) λf s1 q=>?_);cases f with
 |next=>exact wpAny_execs_nil q
 |ret v=>exact q
 |brk=>exact q
 |cont=>exact q
noncomputable def ER:TS:=λD σ H=>D.ct σ H
theorem rP:PS X (.Continue pos) ER:=λ_ _ σ H _ I h=>wpAny_Continue ⟨σ,H,I,h⟩
theorem Inv.quiet {pins:List (Addr×Obj)}{σ:St}{H:Hp}{s:Shared}(I:Inv X pins σ H s):interactive X.env=false:=by simp[interactive,I.ok.kind]
noncomputable def ES (te:TE):TS:=λD σ H=>te σ H λ_ H1=>D.nx σ H1
theorem AR (he:PE X e te)(hs:swapsWith e none pos.line X.env=pure false:=by rfl):PS X (.Expr e pos) (ES te):=by
 intro pins s σ H D I h;exact wpAny_Expr_any (thn (he pins s σ H _ I h) λv s1 ⟨x,H1,I1,r1,q1⟩=>⟨σ,H1,I1,q1⟩) I.quiet hs
noncomputable def Do (te:TE):TS:=λD σ H=>te σ H D.rt
theorem yL (he:PE X e te):PS X (.Return (some e) pos) (Do te):=by
 intro pins s σ H D I h;exact wpAny_Return_some (thn (he pins s σ H _ I h) λv s1 ⟨x,H1,I1,r1,q1⟩=>⟨x,σ,H1,I1,r1,q1⟩)
noncomputable def ET (c:TT)(t u:TS):TS:=λD σ H=>c σ H λb H1=>if b=true then t D σ H1 else u D σ H1
theorem EU {c:Expr}{a b:List Stmt}{tc:TT}(hc:PT X c tc)(ha:PSs X a t)(hb:PSs X b u):PS X (.If c a b pos) (ET tc t u):=by
 intro pins s σ H D I h;refine wpAny_If (thn (hc pins s σ H _ I h) λd s1 ⟨H1,I1,q1⟩=>?_);cases d with
 |true=>exact ha pins s1 σ H1 D I1 q1
 |false=>exact hb pins s1 σ H1 D I1 q1
end
noncomputable abbrev TG:=V->St->Hp->(St->Hp->Prop)->Prop
noncomputable abbrev TGs:=List V->St->Hp->(St->Hp->Prop)->Prop
noncomputable def PG (X:Cx)(target:Expr)(t:TG):Prop :=
 ∀(pins:List (Addr×Obj))(s:Shared)(σ:St)(H:Hp)(v:V)(u:Value)(Q:St->Hp->Prop),Inv X pins σ H s->aL v u->t v σ H Q ->
  wpAny (model X.prog X.w) X.A (assign target X.env u) (λ_ s'=>∃σ' H',Inv X pins σ' H' s'/\Q σ' H') X.xe s
noncomputable def PGs (X:Cx)(ts:List Expr)(t:TGs):Prop :=
 ∀(pins:List (Addr×Obj))(s:Shared)(σ:St)(H:Hp)(vs:List V)(us:List Value)(Q:St->Hp->Prop),Inv X pins σ H s->aQ vs us->t vs σ H Q ->
  wpAny (model X.prog X.w) X.A (assignInOrder ((assignEach ts X.env).map (·.2)) us) (λ_ s'=>∃σ' H',Inv X pins σ' H' s'/\Q σ' H') X.xe s
noncomputable abbrev Dp:=V->V->V->Hp->(Hp->Prop)->Prop
noncomputable def EV (X:Cx)(t:Dp):Prop :=
 ∀(pins:List (Addr×Obj))(s:Shared)(σ:St)(H:Hp)(o i v:V)(ov iv u:Value)(Q:Hp->Prop),Inv X pins σ H s->aL o ov->aL i iv->aL v u->t o i v H Q ->
  wpAny (model X.prog X.w) X.A (setItem ov iv u) (λ_ s'=>∃H',Inv X pins σ H' s'/\Q H') X.xe s
section
variable {X:Cx}{pos:Pos}
noncomputable def iG (i:Nat):TG:=λv σ H Q=>Q (σ.set i (some v)) H
theorem vW {i:Nat}{x:Str}(hN:X.N.Nodup)(hi:X.N[i]? = some x)(hx:Loc X.env.scope x)(hf:X.fn x=true∨X.env.scope.names.lookup x=some .local:=by first|exact .inl rfl|exact .inr rfl|assumption):PG X (.Name x pos) (iG i):=by
 intro pins s σ H v u Q I r h;exact wpAny_assign_Name (rO I hN hi hx r (λs' I'=>⟨_,H,I',h⟩) hf)
noncomputable def EW:TGs:=λvs σ H Q=>vs=[]/\Q σ H
noncomputable def Cr (t:TG)(u:TGs):TGs:=λvs σ H Q=>∃v r,vs=v::r/\t v σ H λσ' H'=>u r σ' H' Q
theorem jJ:PGs X [] EW:=by
 intro pins s σ H vs us Q I r h;obtain⟨e,h⟩:=h;subst e;cases r
 exact assignInOrder_nil ⟨σ,H,I,h⟩
theorem d7 {e:Expr}{es:List Expr}{t:TG}{u:TGs}(h1:PG X e t)(h2:PGs X es u)
  (hs:(assignEach (e::es) X.env).map (·.2)=assign e X.env::(assignEach es X.env).map (·.2):=by rfl):PGs X (e::es) (Cr t u):=by
 intro pins s σ H vs us Q I r h;obtain⟨v,vr,e1,h⟩:=h;subst e1;cases r with
 |cons r rr=>
  rw[hs];refine assignInOrder_cons (thn (h1 pins s σ H _ _ _ I r h) λ_ s1 ⟨σ1,H1,I1,q1⟩=>?_);exact h2 pins s1 σ1 H1 _ _ Q I1 rr q1
noncomputable def Dq (K:PySem.W.Frag)(n:Nat)(t:TGs):TG:=λv σ H Q=>∃a xs,v=.ref a/\SqT K H a xs/\xs.length=n/\t xs σ H Q
theorem m6 {es:List Expr}{k:Nat}{t:TGs}{n:Nat}(hc:X.calm=true)(h:PGs X es t)
  (hn:(assignEach es X.env).length=n:=by rfl) (hst:(assignEach es X.env).findIdx? (·.1)=none:=by rfl):PG X (.Tuple es k pos) (Dq X.K n t):=by
 intro pins s σ H v u Q I r hw;obtain⟨a,xs,e1,hq,hl,hw⟩:=hw;subst e1;cases r
 obtain⟨its,rv,ht,hz⟩:=I.tuple hq;refine assign_Tuple_tuple (I.ok.hd hc) ht (by simp[hn,←hl,rv.length]) hst λh' hx=>?_;have I1:Inv X pins σ H { s with heap:=h' }:=I.kept (t':=s.toks) λb o e=>hx b o (Nat.ne_of_lt (Heap.lt_size e)) e;exact h pins _ σ H xs _ Q I1 (by simpa using rv) hw
noncomputable def Gv (to ti:TE)(t:Dp):TG:=λv σ H Q=>to σ H λo H1=>ti σ H1 λi H2=>t o i v H2 λH3=>Q σ H3
theorem Dr {o i:Expr}{to ti:TE}{t:Dp}(ho:PE X o to)(hi:PE X i ti)(hs:EV X t)
  (ha:∀v,assign (.Subscript o i pos) X.env v=(do
   let ov ←holding [v] (eval o X.env)
   let iv ←holding [v,ov] (eval i X.env)
   standAt pos
   holding [v,ov,iv] (setItem ov iv v)
   release [v,ov,iv] []):=by intro _;rfl):PG X (.Subscript o i pos) (Gv to ti t):=by
 intro pins s σ H v u Q I r h;rw[ha];refine wX (wpAny_holding (thn (ho pins s σ H _ I h) λov s1 ⟨x,H1,I1,r1,q1⟩=>?_));refine wX (wpAny_holding (thn (hi pins s1 σ H1 _ I1 q1) λiv s2 ⟨y,H2,I2,r2,q2⟩=>?_));refine wX (wpAny_standAt (wX (wpAny_holding (thn (hs pins s2 σ H2 x y v ov iv u _ I2 r1 r2 r q2) λ_ s3 ⟨H3,I3,q3⟩=>?_))));exact wpAny_release ⟨σ,H3,I3,q3⟩
noncomputable def xA (te:TE)(g:TG):TS:=λD σ H=>te σ H λx H1=>g x σ H1 D.nx
theorem Ds {tg e:Expr}{te:TE}{g:TG}(he:PE X e te)(hg:PG X tg g)(hs:swapsWithSole [tg] e pos.line X.env=pure false:=by rfl)(hw:swappedStores [tg] e X.env=pure none:=by rfl)
  (h1:(assignEach [tg] X.env).map (·.2)=[assign tg X.env]:=by rfl):PS X (.Assign [tg] e pos) (xA te g):=by
 intro pins s σ H D I h;refine wpAny_Assign_stores (thn (he pins s σ H _ I h) λv s1 ⟨x,H1,I1,r1,q1⟩=>?_) hs hw;rw[h1];exact thn (hg pins s1 σ H1 x v _ I1 r1 q1) λ_ s2 q=>q
theorem u5 {i:Nat}{x:Str}{e:Expr}{te:TE}{pos':Pos}(hN:X.N.Nodup)(hi:X.N[i]? = some x)(hx:Loc X.env.scope x)(he:PE X e te)(hs:swapsWith e (some (.Name x pos')) pos.line X.env=pure false:=by rfl)(hf:X.fn x=true∨X.env.scope.names.lookup x=some .local:=by first|exact .inl rfl|exact .inr rfl|assumption):
  PS X (.Assign [.Name x pos'] e pos) (xA te (iG i)):=by
 intro pins s σ H D I h;refine wpAny_Assign_Name (thn (he pins s σ H _ I h) λv s1 ⟨y,H1,I1,r1,q1⟩=>?_) hs;exact rO I1 hN hi hx r1 (λs2 I2=>⟨_,H1,I2,q1⟩) hf
end
section
variable {X:Cx}{pos:Pos}
noncomputable def yM (c:TT)(tb:TS):TS:=λD σ H=>∃W:Nat->St->Hp->Prop,(∃m,W m σ H)/\∀m σ H,W m σ H ->
 c σ H λb H1=>if b=true then ∃N:St->Hp->Prop,(∀σ' H',N σ' H'->∃m',m'<m/\W m' σ' H')/\tb { D with nx:=N,ct:=N,bk:=D.nx } σ H1 else D.nx σ H1
theorem yN {c:Expr}{body:List Stmt}{tc:TT}{tb:TS}(hp:PassesOwn (model X.prog X.w) X.A X.env X.xe)(hc:PT X c tc)(hb:PSs X body tb):PS X (.While c body [] pos) (yM tc tb):=by
 intro pins s σ H D I h;obtain⟨W,⟨m0,w0⟩,turn⟩:=h;refine wpAny_While (codeAny_whileLoop (λn s'=>∃σ' H',Inv X pins σ' H' s'/\W n σ' H') ?_ m0 ⟨σ,H,I,w0⟩);rintro n s1 ⟨σ1,H1,I1,w1⟩;refine wpAny_passesOwn hp (thn (hc pins s1 σ1 H1 _ I1 (turn n σ1 H1 w1)) λb s2 ⟨H2,I2,q2⟩=>?_);cases b with
 |true=>
  obtain⟨N,hN,q2⟩:=q2;rw[if_pos rfl];refine wpAny_passesOwn hp (thn (hb pins s2 σ1 H2 _ I2 q2) λf s3 q3=>?_);cases f with
  |next=>
   obtain⟨σ3,H3,I3,n3⟩:=q3;obtain⟨m',hm,w3⟩:=hN σ3 H3 n3;exact⟨m',hm,σ3,H3,I3,w3⟩
  |cont=>
   obtain⟨σ3,H3,I3,n3⟩:=q3;obtain⟨m',hm,w3⟩:=hN σ3 H3 n3;exact⟨m',hm,σ3,H3,I3,w3⟩
  |brk=>exact q3
  |ret v=>exact q3
 |false=>
  rw[if_neg Bool.false_ne_true];exact wpAny_execs_nil ⟨σ1,H2,I2,q2⟩
end
structure It where
 go:Nat->Hp->Prop
 yld:Nat->Hp->V->Hp->Prop
 stop:Nat->Hp->Prop
noncomputable def kO (X:Cx)(pins:List (Addr×Obj))(H:Hp)(b:Addr):Prop :=
 H b=none/\b≠X.env.locals/\b∉X.fs/\(b∈X.ex∨X.s₀.heap.objs.size<=b)/\(∀x c,X.env.cells.lookup x=some c->c≠b)/\∀p∈X.pn++pins,p.1≠b
theorem Inv.fpOk {X:Cx}{pins:List (Addr×Obj)}{σ:St}{H H':Hp}{s:Shared}{b:Addr}(I:Inv X pins σ H s)(hb:s.heap.objs.size<=b)(hn:H' b=none):kO X pins H' b:=by
 refine⟨hn,Nat.ne_of_gt (Nat.lt_of_lt_of_le I.lt hb),I.nofs hb,.inr (Nat.le_trans I.sz hb),λx c e z=>?_,λp hp z=>?_⟩
 ·obtain⟨v,q⟩:=I.cell x c e;exact absurd (Nat.lt_of_lt_of_le q.lt (by rw[z];exact hb)) (Nat.lt_irrefl _)
 ·exact absurd (Nat.lt_of_lt_of_le (Heap.lt_size (I.pin p hp).1) (by rw[z];exact hb)) (Nat.lt_irrefl _)
structure Turn (P:Program)(w:World)(K:PySem.W.Frag)(tg:Expr)(J:It)(fp:List Addr)(it:Addr)(tn:Nat->Heap->Prop):Prop where
 mem:it∈fp
 obj:∀i h,tn i h->∀b∈fp,∃o,h.get? b=some o/\∀v,o.data≠.cell v
 keep:∀i h h',tn i h->(∀b∈fp,∀o,h.get? b=some o->h'.get? b=some o)->tn i h'
 item:∀(X:Cx),X.prog=P->X.w=w->X.K=K->X.calm=true->∀(i:Nat)(pins:List (Addr×Obj))(s:Shared)(σ:St)(H:Hp)(E:Value->Shared->Prop),Inv X pins σ H s->(∀b∈fp,kO X pins H b)->tn i s.heap->J.go i H ->
  wpAny (model P w) X.A (pyNext (.ref it)) (λr s1=>∃u,r=some u /\
   wpAny (model P w) X.A (letOwnedTupleGo tg (.ref it) u) (λ_ s2=>∃x H',Inv X pins σ H' s2/\aL x u/\J.yld i H x H'/\tn (i+1) s2.heap/\∀b∈fp,H' b=none) E s1) E s
 done:∀(X:Cx),X.prog=P->X.w=w->X.K=K->X.calm=true->∀(i:Nat)(pins:List (Addr×Obj))(s:Shared)(σ:St)(H:Hp)(E:Value->Shared->Prop),Inv X pins σ H s->(∀b∈fp,kO X pins H b)->tn i s.heap->J.stop i H ->
  wpAny (model P w) X.A (pyNext (.ref it)) (λr s1=>r=none/\Inv X pins σ H s1) E s
 self:∀(A:Around)(i:Nat)(s:Shared)(Q:Value->Shared->Prop)(E:Value->Shared->Prop),tn i s.heap->Q (.ref it) s->wpAny (model P w) A (pyIter (.ref it)) Q E s
noncomputable abbrev TI:=St->Hp->(It->Hp->Prop)->Prop
noncomputable def PIE (X:Cx)(pins:List (Addr×Obj))(σ:St)(tg:Expr)(R:It->Hp->Prop)(itv:Value)(s2:Shared):Prop :=
 ∃(it:Addr)(fp:List Addr)(tn:Nat->Heap->Prop)(J:It)(H':Hp),itv=.ref it/\Inv X pins σ H' s2/\Turn X.prog X.w X.K tg J fp it tn/\tn 0 s2.heap/\(∀b∈fp,kO X pins H' b)/\R J H'
noncomputable def PI (X:Cx)(tg iter:Expr)(wi:TI):Prop :=
 ∀(pins:List (Addr×Obj))(s:Shared)(σ:St)(H:Hp)(R:It->Hp->Prop),Inv X pins σ H s->wi σ H R ->
  wpAny (model X.prog X.w) X.A (eval iter X.env) (λv s1=>wpAny (model X.prog X.w) X.A (pyIter v) (PIE X pins σ tg R) X.xe s1) X.xe s
theorem m7 {M:Model}{A:Around}{E:Value->Shared->Prop}{s:Shared}{tg:Expr}{it:Addr}{u:Value}{o:Obj}{n:String}{vs:Array Value}{Q:Unit->Shared->Prop}(ho:s.heap.get? it=some o)(hc:o.cls=.type n)(hd:o.data=.fields vs)
    (hn:["enumerate","zip","dict_itemiterator","dict_reverseitemiterator","odict_iterator","itertools.zip_longest","itertools.pairwise"].contains n=false) (hQ:Q () s):wpAny M A (letOwnedTupleGo tg (.ref it) u) Q E s:=by
  unfold letOwnedTupleGo;cases tg<;>first
    |exact wY hQ
    | (cases u<;>first
        |exact wY hQ
        | (refine wX (wpAny_load ho ?_)
           rw[hc,hd]
           show wpAny M A (if(["enumerate","zip","dict_itemiterator","dict_reverseitemiterator","odict_iterator","itertools.zip_longest","itertools.pairwise"].contains n && vs[0]? == some (rawInt _))=true then _ else _) Q E s
           rw[if_neg (by intro h;rw[hn,Bool.false_and]at h;cases h)]
           exact wY hQ))
noncomputable def Itl (K:PySem.W.Frag)(a:Addr):It :=
 ⟨λi H=>∃xs x,SqL K H a xs/\xs[i]? = some x,λi H x H'=>H'=H/\∀xs,SqL K H a xs->xs[i]? = some x,λi H=>∃xs,SqL K H a xs/\xs.length<=i⟩
noncomputable def Itt (K:PySem.W.Frag)(a:Addr):It :=
 ⟨λi H=>∃xs x,SqT K H a xs/\xs[i]? = some x,λi H x H'=>H'=H/\∀xs,SqT K H a xs->xs[i]? = some x,λi H=>∃xs,SqT K H a xs/\xs.length<=i⟩
noncomputable def Itr (lo:Int)(n:Nat):It:=⟨λi _=>i<n,λi H x H'=>H'=H/\x=.int (lo+i),λi _=>n<=i⟩
theorem xB {P:Program}{w:World}{K:PySem.W.Frag}{tg:Expr}(a it:Addr):Turn P w K tg (Itl K a) [it] it (λi h=>h.IsListIter it a i) where
 mem:=by simp
 obj:=λi h st b hb=>by
  have e:b=it:=by simpa using hb
  subst e;obtain⟨o,e,c,d⟩:=st;exact⟨o,e,λv z=>by rw[d]at z;cases z⟩
 keep:=λi h h' st k=>st.at λo e=>k it (by simp) o e
 item:=by
  intro X hP hw hK hc i pins s σ H E I hf st hg;subst hP hw hK;obtain⟨xs,x,hq,hx⟩:=hg;obtain⟨its,rv,p,hz⟩:=I.list hq;obtain⟨u,hu,ru⟩:=rv.get hx;obtain⟨f0,f1,f2,f3,f4,f5⟩:=hf it (by simp);refine wpAny_pyNext_list_item st p.isList (x:=u) (by simpa using hu) λh' st' sb=>?_;have I1:Inv X pins σ H { s with heap:=h' }:=I.turned (t':=s.toks) (λb o hb e=>(sb.2 b hb).trans e) f0 f1 f3 f4 f5;obtain⟨o,e,c,d⟩:=id st';exact⟨u,rfl,m7 (s:={ s with heap:=h' }) e c d (by decide) ⟨x,H,I1,ru,⟨rfl,λys hy=>by rw[I.list_inj hy hq];exact hx⟩,st',λb hb=>(hf b hb).1⟩⟩
 done:=by
  intro X hP hw hK hc i pins s σ H E I hf st hg;subst hP hw hK;obtain⟨xs,hq,hx⟩:=hg;obtain⟨its,rv,p,hz⟩:=I.list hq;obtain⟨f0,f1,f2,f3,f4,f5⟩:=hf it (by simp);have hl:=rv.length;exact wpAny_pyNext_list_end (I.ok.hd hc) st p.isList (by simp;omega) λh' eb=>⟨rfl,I.turned (t':=s.toks) (λb o hb e=>eb b o hb e) f0 f1 f3 f4 f5⟩
 self:=λ_ _ _ _ _ st h=>wpAny_pyIter_listiter st h
theorem u7 {P:Program}{w:World}{K:PySem.W.Frag}{tg:Expr}(a it:Addr):Turn P w K tg (Itt K a) [it] it (λi h=>h.IsTupleIter it a i) where
 mem:=by simp
 obj:=λi h st b hb=>by
  have e:b=it:=by simpa using hb
  subst e;obtain⟨o,e,c,d⟩:=st;exact⟨o,e,λv z=>by rw[d]at z;cases z⟩
 keep:=λi h h' st k=>st.at λo e=>k it (by simp) o e
 item:=by
  intro X hP hw hK hc i pins s σ H E I hf st hg;subst hP hw hK;obtain⟨xs,x,hq,hx⟩:=hg;obtain⟨its,rv,p,hz⟩:=I.tuple hq;obtain⟨u,hu,ru⟩:=rv.get hx;obtain⟨f0,f1,f2,f3,f4,f5⟩:=hf it (by simp);refine wpAny_pyNext_tuple_item st (show s.heap.IsTuple a its.toArray from p) (x:=u) (by simpa using hu) λh' st' sb=>?_;have I1:Inv X pins σ H { s with heap:=h' }:=I.turned (t':=s.toks) (λb o hb e=>(sb.2 b hb).trans e) f0 f1 f3 f4 f5;obtain⟨o,e,c,d⟩:=id st';exact⟨u,rfl,m7 (s:={ s with heap:=h' }) e c d (by decide) ⟨x,H,I1,ru,⟨rfl,λys hy=>by rw[I.tuple_inj hy hq];exact hx⟩,st',λb hb=>(hf b hb).1⟩⟩
 done:=by
  intro X hP hw hK hc i pins s σ H E I hf st hg;subst hP hw hK;obtain⟨xs,hq,hx⟩:=hg;obtain⟨its,rv,p,hz⟩:=I.tuple hq;obtain⟨f0,f1,f2,f3,f4,f5⟩:=hf it (by simp);have hl:=rv.length;exact wpAny_pyNext_tuple_end (I.ok.hd hc) st (show s.heap.IsTuple a its.toArray from p) (by simp;omega) λh' eb=>⟨rfl,I.turned (t':=s.toks) (λb o hb e=>eb b o hb e) f0 f1 f3 f4 f5⟩
 self:=λ_ _ _ _ _ st h=>wpAny_pyIter_tupleiter st h
theorem u9 {P:Program}{w:World}{K:PySem.W.Frag}{tg:Expr}(it:Addr)(lo:Int)(n:Nat):Turn P w K tg (Itr lo n) [it] it (λi h=>IsRangeIter h it (lo+(i:Nat)*1) ((n:Int) - (i:Nat)) 1) where
 mem:=by simp
 obj:=λi h st b hb=>by
  have e:b=it:=by simpa using hb
  subst e;exact⟨_,st,λv z=>by
   have z':Data.fields _=Data.cell v:=z;cases z'⟩
 keep:=λi h h' st k=>k it (by simp) _ st
 item:=by
  intro X hP hw hK hc i pins s σ H E I hf st hg;subst hP hw hK;obtain⟨f0,f1,f2,f3,f4,f5⟩:=hf it (by simp);have W:=Walks.range (prog:=X.prog) (w:=X.w) (I.ok.hd hc) it lo 1 n;refine W.item i s _ _ hg st λv h' tk hv st' kk=>?_;obtain⟨t,rfl⟩:=hv;have I1:Inv X pins σ H { s with heap:=h',toks:=tk }:=I.turned (λb o hb e=>kk b o (by simpa using hb) e) f0 f1 f3 f4 f5;refine⟨_,rfl,m7 (s:={ s with heap:=h',toks:=tk }) (n:="range_iterator") st' rfl rfl (by decide) ⟨.int (lo+i),H,I1,⟨t,?_⟩,⟨rfl,rfl⟩,st',λb hb=>(hf b hb).1⟩⟩;rw[Int.mul_one]
 done:=by
  intro X hP hw hK hc i pins s σ H E I hf st hg;subst hP hw hK;obtain⟨f0,f1,f2,f3,f4,f5⟩:=hf it (by simp);exact wpAny_pyNext_range_end (I.ok.hd hc) st (by have:n<=i:=hg;omega) λh' eb=>⟨rfl,I.turned (t':=s.toks) (λb o hb e=>eb b o hb e) f0 f1 f3 f4 f5⟩
 self:=λ_ _ _ _ _ st h=>wpAny_pyIter_rangeiter st h
section
variable {X:Cx}{tg:Expr}
noncomputable def EX (K:PySem.W.Frag)(tl:TE):TI:=λσ H R=>tl σ H λx H1=>∃a,x=.ref a/\(∃xs,SqL K H1 a xs)/\R (Itl K a) H1
noncomputable def Gw (K:PySem.W.Frag)(tl:TE):TI:=λσ H R=>tl σ H λx H1=>∃a,x=.ref a/\(∃xs,SqT K H1 a xs)/\R (Itt K a) H1
theorem AS {l:Expr}{tl:TE}(hl:PE X l tl):PI X tg l (EX X.K tl):=by
 intro pins s σ H R I h;refine thn (hl pins s σ H _ I h) λv s1 ⟨x,H1,I1,r1,q1⟩=>?_;obtain⟨a,e,⟨xs,hq⟩,q⟩:=q1;subst e;cases r1
 obtain⟨its,rv,p,hz⟩:=I1.list hq;refine wpAny_pyIter_list p.isList ?_;refine⟨s1.heap.objs.size,[s1.heap.objs.size],_,_,H1,rfl,I1.kept (t':=s1.toks) λb o e=>Heap.get?_push_of_some _ e,xB a _,⟨_,Heap.get?_push_size _ rfl,rfl,rfl⟩,λb hb=>?_,q⟩;have e:b=s1.heap.objs.size:=by simpa using hb
 subst e;exact I1.fpOk (Nat.le_refl _) (I1.hok.fresh (Nat.le_refl _))
theorem Dt {l:Expr}{tl:TE}(hl:PE X l tl):PI X tg l (Gw X.K tl):=by
 intro pins s σ H R I h;refine thn (hl pins s σ H _ I h) λv s1 ⟨x,H1,I1,r1,q1⟩=>?_;obtain⟨a,e,⟨xs,hq⟩,q⟩:=q1;subst e;cases r1
 obtain⟨its,rv,p,hz⟩:=I1.tuple hq;refine wpAny_pyIter_tuple (show s1.heap.IsTuple a its.toArray from p) ?_;refine⟨s1.heap.objs.size,[s1.heap.objs.size],_,_,H1,rfl,I1.kept (t':=s1.toks) λb o e=>Heap.get?_push_of_some _ e,u7 a _,⟨_,Heap.get?_push_size _ rfl,rfl,rfl⟩,λb hb=>?_,q⟩;have e:b=s1.heap.objs.size:=by simpa using hb
 subst e;exact I1.fpOk (Nat.le_refl _) (I1.hok.fresh (Nat.le_refl _))
theorem yO {pins:List (Addr×Obj)}{σ:St}{H:Hp}{s:Shared}{R:It->Hp->Prop}{E:Value->Shared->Prop}{lo hi:Int}{t u v:Tok}{tk:Nat}(I:Inv X pins σ H s)(h1 : -(2 ^ 62)<=lo)(h2:lo<2 ^ 62)(h3 : -(2 ^ 62)<=hi)(h4:hi<2 ^ 62)
  (q:R (Itr lo (hi - lo).toNat) H):wpAny (model X.prog X.w) X.A (pyIter (.ref s.heap.objs.size)) (PIE X pins σ tg R) E { s with heap:=s.heap.push { cls:=.type "range",data:=.fields #[.int lo t,.int hi u,.int 1 v] },toks:=tk }:=by
 refine wpAny_pyIter_range (IsRange.new ..) (small_one h1 h2 h3 h4) ?_;have I1:Inv X pins σ H { s with heap:=s.heap.push { cls:=.type "range",data:=.fields #[.int lo t,.int hi u,.int 1 v] },toks:=tk }:=I.kept λb o e=>Heap.get?_push_of_some _ e;refine⟨(s.heap.push { cls:=.type "range",data:=.fields #[.int lo t,.int hi u,.int 1 v] }).objs.size,[(s.heap.push { cls:=.type "range",data:=.fields #[.int lo t,.int hi u,.int 1 v] }).objs.size],_,_,H,rfl,
  I1.kept (t':=tk) λb o e=>Heap.get?_push_of_some _ e,u9 _ lo (hi - lo).toNat,?_,λb hb=>?_,q⟩
 ·have e1:lo+((0:Nat):Int)*1=lo:=by simp
  have e2:(((hi - lo).toNat:Nat):Int) - ((0:Nat):Int)=Builtin.Range.rangeSize lo hi 1:=by rw[rangeSize_one];split<;>omega
  show IsRangeIter _ _ (lo+((0:Nat):Int)*1) ((((hi - lo).toNat:Nat):Int) - ((0:Nat):Int)) 1;rw[e1,e2];exact Heap.get?_push_size _ rfl
 ·have e:b=(s.heap.push { cls:=.type "range",data:=.fields #[.int lo t,.int hi u,.int 1 v] }).objs.size:=by simpa using hb
  subst e;exact I1.fpOk (Nat.le_refl _) (I1.hok.fresh (Nat.le_refl _))
noncomputable def EY (ta:TA):TI:=λσ H R=>ta σ H λvs H1=>∃j:Int,vs=[.int j]/\-(2 ^ 62)<=j/\j<2 ^ 62/\R (Itr 0 j.toNat) H1
theorem xC {a:Expr}{ta:TA}{p pos:Pos}(hg:Gl X "range")(hm:X.mg "range" = none)(ha:PA X [a] ta)(hs:starEach [a] X.env=[(false,eval a X.env)]:=by rfl):PI X tg (.Call (.Name "range" p) [a] [] pos) (EY ta):=by
 intro pins s σ H R I h;refine Call_ (js I hg hm boot_range (PyProof.Rows.callWith_type1 (thn (ha pos pins s σ H _ I h) λus s1 ⟨vs,H1,I1,r1,q1⟩=>?_) hs rfl));obtain⟨j,e,q1,q2,q⟩:=q1;subst e;cases r1 with
 |cons r rr=>
  cases rr
  obtain⟨t,rfl⟩:=r;exact call_range_1 (yO I1 (by omega) (by omega) q1 q2 (by simpa using q))
noncomputable def Du (wi:TI)(g:TG)(tb:TS):TS:=λD σ H=>wi σ H λJ H1=>∃W:Nat->Nat->St->Hp->Prop,(∃m,W 0 m σ H1)/\∀i m σ H,W i m σ H ->
 (J.stop i H/\D.nx σ H)∨(J.go i H/\∃N:St->Hp->Prop,(∀σ' H',N σ' H'->∃m',m'<m/\W (i+1) m' σ' H')/\∀x H',J.yld i H x H'->g x σ H' λσ2 H2=>tb { D with nx:=N,ct:=N,bk:=D.nx } σ2 H2)
noncomputable def kP (fp:List Addr)(h:Heap):List (Addr×Obj):=fp.filterMap λb=>(h.get? b).map λo=>(b,o)
theorem gS {fp:List Addr}{h:Heap}{b:Addr}{o:Obj}(hb:b∈fp)(e:h.get? b=some o):(b,o)∈kP fp h:=List.mem_filterMap.mpr ⟨b,hb,by rw[e];rfl⟩
theorem xD {fp:List Addr}{h:Heap}{p:Addr×Obj}(hp:p∈kP fp h):p.1∈fp/\h.get? p.1=some p.2:=by
 obtain⟨b,hb,e⟩:=List.mem_filterMap.mp hp;cases q:h.get? b with
 |none=>rw[q]at e;cases e
 |some o=>
  rw[q]at e;have e':(b,o)=p:=Option.some.inj e;subst e';exact⟨hb,q⟩
theorem Inv.pinned {pins:List (Addr×Obj)}{σ:St}{H:Hp}{s:Shared}{fp:List Addr}(I:Inv X pins σ H s)(hf:∀b∈fp,kO X pins H b)(ho:∀b∈fp,∃o,s.heap.get? b=some o/\∀v,o.data≠.cell v):Inv X (pins++kP fp s.heap) σ H s :=
 I.pins_of λp hp=>(List.mem_append.mp hp).elim (λz=>I.pin p (mY _ z)) λz=>by
  obtain⟨hb,e⟩:=xD z;obtain⟨f0,f1,f2,_⟩:=hf p.1 hb;obtain⟨o,e',d⟩:=ho p.1 hb;rw[e]at e';cases e';exact⟨e,f0,f1,f2,d⟩
theorem Inv.unpinned {pins pl:List (Addr×Obj)}{σ:St}{H:Hp}{s:Shared}(I:Inv X (pins++pl) σ H s):Inv X pins σ H s:=I.pins_of λp hp=>I.pin p (mY _ (List.mem_append_left _ hp))
theorem yP {iter:Expr}{body:List Stmt}{wi:TI}{g:TG}{tb:TS}{pos:Pos}(hp:PassesOwn (model X.prog X.w) X.A X.env X.xe)(hc:X.calm=true)(hi:PI X tg iter wi)(hg:PG X tg g)(hb:PSs X body tb)
  (hs:∀x,foldedSetIterable iter X.env x=pure x:=by intro _;rfl):PS X (.For tg iter body [] pos) (Du wi g tb):=by
 intro pins s σ H D I h;refine wpAny_For (thn (hi pins s σ H _ I h) λv s1 h1=>thn h1 λitv s2 h2=>?_) hs;obtain⟨it,fp,tn,J,H2,e,I2,T,st2,f2,W,⟨m0,w0⟩,turn⟩:=h2;subst e
 -- what stays true of the iterator's objects through the loop
 have stat:∀ {H':Hp},(∀b∈fp,H' b=none)->∀b∈fp,kO X pins H' b:=λhn b hb=>⟨hn b hb,(f2 b hb).2⟩;refine codeAny_forLoop_any (λn s'=>∃i σ' H',Inv X pins σ' H' s'/\tn i s'.heap/\(∀b∈fp,H' b=none)/\W i n σ' H') ?_ m0 ⟨0,σ,H2,I2,st2,λb hb=>(f2 b hb).1,w0⟩;rintro n s3 ⟨i,σ3,H3,I3,st3,fr3,w3⟩;rcases turn i n σ3 H3 w3 with⟨stop,qn⟩|⟨go,N,hN,step⟩
 ·refine wpAny_passesOwn hp (thn (T.done X rfl rfl rfl hc i pins s3 σ3 H3 X.xe I3 (stat fr3) st3 stop) λr s4 ⟨hr,I4⟩=>?_);subst hr;exact wpAny_execs_nil ⟨σ3,H3,I4,qn⟩
 ·refine wpAny_passesOwn hp (thn (T.item X rfl rfl rfl hc i pins s3 σ3 H3 X.xe I3 (stat fr3) st3 go) λr s4 ⟨u,hr,h4⟩=>?_);subst hr;refine wpAny_passesOwn hp (thn h4 λ_ s5 ⟨x,H5,I5,r5,y5,st5,fr5⟩=>?_);have I5':=I5.pinned (stat fr5) (T.obj _ _ st5);refine wpAny_passesOwn hp (thn (hg _ s5 σ3 H5 x u _ I5' r5 (step x H5 y5)) λ_ s6 ⟨σ6,H6,I6,q6⟩=>?_);refine wpAny_passesOwn hp (thn (hb _ s6 σ6 H6 _ I6 q6) λf s7 q7=>?_);have again:∀ {σ7:St}{H7:Hp},Inv X (pins++kP fp s5.heap) σ7 H7 s7->N σ7 H7->∃m,m<n/\∃i σ' H',Inv X pins σ' H' s7/\tn i s7.heap/\(∀b∈fp,H' b=none)/\W i m σ' H':=λ{σ7 H7} I7 n7=>by
   obtain⟨m',hm,w7⟩:=hN σ7 H7 n7;refine⟨m',hm,i+1,σ7,H7,I7.unpinned,T.keep _ _ _ st5 λb hb o e=>(I7.pin (b,o) (mY _ (mY _ (gS hb e)))).1,λb hb=>?_,w7⟩;obtain⟨o,e,d⟩:=T.obj _ _ st5 b hb;exact(I7.pin (b,o) (mY _ (mY _ (gS hb e)))).2.1
  cases f with
  |next=>obtain⟨σ7,H7,I7,n7⟩:=q7;exact again I7 n7
  |cont=>obtain⟨σ7,H7,I7,n7⟩:=q7;exact again I7 n7
  |brk=>obtain⟨σ7,H7,I7,q7⟩:=q7;exact⟨σ7,H7,I7.unpinned,q7⟩
  |ret v=>obtain⟨x7,σ7,H7,I7,r7,q7⟩:=q7;exact⟨x7,σ7,H7,I7.unpinned,r7,q7⟩
end
noncomputable abbrev R2:=V->V->Hp->VK->Prop
noncomputable def OpR (X:Cx)(f:Value->Value->Sem Value)(r:R2):Prop :=
 ∀(pins:List (Addr×Obj))(s:Shared)(σ:St)(H:Hp)(x y:V)(v u:Value)(Q:VK),Inv X pins σ H s->aL x v->aL y u->r x y H Q ->
  wpAny (model X.prog X.w) X.A (f v u) (EP X pins σ Q) X.xe s
noncomputable def UnR (X:Cx)(f:Value->Sem Value)(r:V->Hp->VK->Prop):Prop :=
 ∀(pins:List (Addr×Obj))(s:Shared)(σ:St)(H:Hp)(x:V)(v:Value)(Q:VK),Inv X pins σ H s->aL x v->r x H Q ->
  wpAny (model X.prog X.w) X.A (f v) (EP X pins σ Q) X.xe s
noncomputable def bO (X:Cx)(f:Value)(r:List V->Hp->VK->Prop):Prop :=
 ∀(pins:List (Addr×Obj))(s:Shared)(σ:St)(H:Hp)(xs:List V)(us:List Value)(Q:VK),Inv X pins σ H s->aQ xs us->r xs H Q ->
  wpAny (model X.prog X.w) X.A (call f us) (EP X pins σ Q) X.xe s
noncomputable def tOp (r:R2)(ta tb:TE):TE:=λσ H Q=>ta σ H λx H1=>tb σ H1 λy H2=>r x y H2 Q
noncomputable def tUn (r:V->Hp->VK->Prop)(ta:TE):TE:=λσ H Q=>ta σ H λx H1=>r x H1 Q
noncomputable def rI (C:Int->Int->Prop)(g:Int->Int->V):R2:=λx y H Q=>∃i j,x=.int i/\y=.int j/\C i j/\Q (g i j) H
noncomputable def rI0 (g:Int->Int->V):R2:=λx y H Q=>∃i j,x=.int i/\y=.int j/\Q (g i j) H
noncomputable def rU (g:Int->V):V->Hp->VK->Prop:=λx H Q=>∃i,x=.int i/\Q (g i) H
section
variable {X:Cx}{a b c:Expr}{ta tb tc:TE}{pos:Pos}
theorem Dv (ha:PE X a ta)(hb:PE X b tb){pins:List (Addr×Obj)}{s:Shared}{σ:St}{H:Hp}{R:V->V->Hp->Prop}(I:Inv X pins σ H s)
  (h:ta σ H λx H1=>tb σ H1 λy H2=>R x y H2) {Q:Value->Shared->Prop}{f:Value->Value->Sem Value}
  (hf:∀v u s2 x y H2,Inv X pins σ H2 s2->aL x v->aL y u->R x y H2->wpAny (model X.prog X.w) X.A (f v u) Q X.xe s2):
  wpAny (model X.prog X.w) X.A (eval a X.env) (λv s₁=>wpAny (model X.prog X.w) X.A (eval b X.env) (λu s₂=>wpAny (model X.prog X.w) X.A (f v u) Q X.xe s₂) X.xe s₁) X.xe s:=by
 refine thn (ha pins s σ H _ I h) λv s1 ⟨x,H1,I1,r1,q1⟩=>?_;refine thn (hb pins s1 σ H1 _ I1 q1) λu s2 ⟨y,H2,I2,r2,q2⟩=>?_;exact hf v u s2 x y H2 I2 r1 r2 q2
theorem EZ {op:Operator}{r:R2}(ho:OpR X (binaryOp op) r)(ha:PE X a ta)(hb:PE X b tb):PE X (.BinOp a op b pos) (tOp r ta tb):=by
 intro pins s σ H Q I h;exact wpAny_BinOp (Dv ha hb I h λv u s2 x y H2 I2 rx ry q=>ho pins s2 σ H2 x y v u Q I2 rx ry q)
theorem Fa {op:UnaryOp}{r:V->Hp->VK->Prop}(ho:UnR X (unaryOp op) r)(ha:PE X a ta):PE X (.UnaryOp op a pos) (tUn r ta):=by
 intro pins s σ H Q I h;exact UnaryOp_ (thn (ha pins s σ H _ I h) λv s1 ⟨x,H1,I1,r1,q1⟩=>ho pins s1 σ H1 x v Q I1 r1 q1)
theorem opI {f:Value->Value->Sem Value}{C:Int->Int->Prop}{g:Int->Int->Int}
  (rule:∀(i j:Int)(t u:Tok)(s:Shared)(Q:Value->Shared->Prop)(E:Value->Shared->Prop),C i j->Q (.int (g i j) s.toks) { s with toks:=s.toks+1 }->wpAny (model X.prog X.w) X.A (f (.int i t) (.int j u)) Q E s):
  OpR X f (rI C λi j=>.int (g i j)):=by
 intro pins s σ H x y v u Q I rx ry h;obtain⟨i,j,rfl,rfl,hc,q⟩:=h;obtain⟨t,rfl⟩:=rx;obtain⟨t',rfl⟩:=ry;exact rule i j t t' s _ _ hc ⟨.int (g i j),H,I.tok _,⟨_,rfl⟩,q⟩
theorem Fb {f:Value->Value->Sem Value}{g:Int->Int->Int}
  (rule:∀(i j:Int)(t u:Tok)(s:Shared)(Q:Value->Shared->Prop)(E:Value->Shared->Prop),Q (.int (g i j) s.toks) { s with toks:=s.toks+1 }->wpAny (model X.prog X.w) X.A (f (.int i t) (.int j u)) Q E s):
  OpR X f (rI0 λi j=>.int (g i j)):=by
 intro pins s σ H x y v u Q I rx ry h;obtain⟨i,j,rfl,rfl,q⟩:=h;obtain⟨t,rfl⟩:=rx;obtain⟨t',rfl⟩:=ry;exact rule i j t t' s _ _ ⟨.int (g i j),H,I.tok _,⟨_,rfl⟩,q⟩
theorem Dw {f:Value->Value->Sem Value}{g:Int->Int->Bool}
  (rule:∀(i j:Int)(t u:Tok)(s:Shared)(Q:Value->Shared->Prop)(E:Value->Shared->Prop),Q (.bool (g i j)) s->wpAny (model X.prog X.w) X.A (f (.int i t) (.int j u)) Q E s):
  OpR X f (rI0 λi j=>.bl (g i j)):=by
 intro pins s σ H x y v u Q I rx ry h;obtain⟨i,j,rfl,rfl,q⟩:=h;obtain⟨t,rfl⟩:=rx;obtain⟨t',rfl⟩:=ry;exact rule i j t t' s _ _ ⟨.bl (g i j),H,I,rfl,q⟩
noncomputable def Fc (i j:Int):Prop:=0<j/\j<1073741824
noncomputable def AT (i j:Int):Prop:=(-(2 ^ 64)<i/\i<2 ^ 64)∨(-(2 ^ 64)<j/\j<2 ^ 64)
theorem AT.ok {i j:Int}(h:AT i j):IntMulOk i j:=by
 rcases h with⟨h1,h2⟩|⟨h1,h2⟩
 ·exact .of_left (intBits_le_64 h1 h2)
 ·exact .of_right (intBits_le_64 h1 h2)
theorem Dx:OpR X (binaryOp .Add) (rI0 λi j=>.int (i+j)):=Fb λ_ _ _ _ _ _ _ q=>add_int q
theorem Dy:OpR X (binaryOp .Sub) (rI0 λi j=>.int (i - j)):=Fb λ_ _ _ _ _ _ _ q=>sub_int q
theorem Dz:OpR X (binaryOp .Mult) (rI AT λi j=>.int (i*j)):=opI λ_ _ _ _ _ _ _ hc q=>mul_int q hc.ok
theorem AU:OpR X (binaryOp .FloorDiv) (rI Fc λi j=>.int (i / j)):=opI λi j _ _ _ _ _ hc q=>by
 have h1:(0:Int)<j:=hc.1;have h2:j<1073741824:=hc.2;exact floordiv_int (by omega) (by rw[Int.fdiv_eq_ediv_of_nonneg i (by omega)];exact q) (.inl (PyProof.noPylong_small (by omega)))
theorem D0:OpR X (binaryOp .Mod) (rI (λ_ j=>0<j) λi j=>.int (i % j)):=opI λi j _ _ _ _ _ hc q=>by
 have h1:(0:Int)<j:=hc;exact mod_int' (by omega) (by rw[Int.fmod_eq_emod_of_nonneg i (by omega)];exact q)
theorem unI {f:Value->Sem Value}{g:Int->Int}
  (rule:∀(i:Int)(t:Tok)(s:Shared)(Q:Value->Shared->Prop)(E:Value->Shared->Prop),Q (.int (g i) s.toks) { s with toks:=s.toks+1 }->wpAny (model X.prog X.w) X.A (f (.int i t)) Q E s):
  UnR X f (rU λi=>.int (g i)):=by
 intro pins s σ H x v Q I rx h;obtain⟨i,rfl,q⟩:=h;obtain⟨t,rfl⟩:=rx;exact rule i t s _ _ ⟨.int (g i),H,I.tok _,⟨_,rfl⟩,q⟩
theorem D1:UnR X (unaryOp .USub) (rU λi=>.int (-i)):=unI λ_ _ _ _ _ q=>neg_int q
theorem xE:OpR X (binaryOp .Add) (λx y H Q=>∃i k,x=.int i/\y=.bl k/\Q (.int (i+b2i k)) H):=by
 intro pins s σ H x y v u Q I rx ry h;obtain⟨i,k,rfl,rfl,q⟩:=h;obtain⟨t,rfl⟩:=rx;cases ry
 exact add_int_bool ⟨.int (i+b2i k),H,I.tok _,⟨_,rfl⟩,q⟩
end
section
variable {X:Cx}{a b c:Expr}{ta tb tc:TE}{pos:Pos}
theorem Fd:OpR X (compareOp .Lt) (rI0 λi j=>.bl (decide (i<j))):=Dw λ_ _ _ _ _ _ _ q=>lt_int q
theorem Fe:OpR X (compareOp .LtE) (rI0 λi j=>.bl (decide (i<=j))):=Dw λ_ _ _ _ _ _ _ q=>le_int q
theorem Ff:OpR X (compareOp .Gt) (rI0 λi j=>.bl (decide (j<i))):=Dw λ_ _ _ _ _ _ _ q=>gt_int q
theorem OpR.or {f:Value->Value->Sem Value}{r r':R2}(h:OpR X f r)(h':OpR X f r'):OpR X f (λx y H Q=>r x y H Q∨r' x y H Q):=by
 intro pins s σ H x y v u Q I rx ry q;rcases q with q|q
 ·exact h pins s σ H x y v u Q I rx ry q
 ·exact h' pins s σ H x y v u Q I rx ry q
theorem Gx (b:Expr){op:CmpOp}(h:op≠.In:=by decide)(h2:op≠.NotIn:=by decide):behindInMarks op b=false:=by
 have e1:(op == CmpOp.In)=false:=by cases op<;>first|rfl|exact absurd rfl h
 have e2:(op == CmpOp.NotIn)=false:=by cases op<;>first|rfl|exact absurd rfl h2
 cases b<;>simp[behindInMarks,e1,e2]
theorem AV {op:CmpOp}{r:R2}(ho:OpR X (compareOp op) r)(ha:PE X a ta)(hb:PE X b tb)(hm:behindInMarks op b=false):PE X (.Compare a [op] [b] pos) (tOp r ta tb):=by
 intro pins s σ H Q I h;exact wpAny_Compare1 (Dv ha hb I h λv u s2 x y H2 I2 rx ry q=>ho pins s2 σ H2 x y v u Q I2 rx ry q) hm
noncomputable def Fg (t:TE):TT:=λσ H Q=>t σ H λx H'=>∃k,x=.bl k/\Q k H'
theorem AW {op:CmpOp}{r:R2}(ho:OpR X (compareOp op) r)(ha:PE X a ta)(hb:PE X b tb)(hm:behindInMarks op b=false):PT X (.Compare a [op] [b] pos) (Fg (tOp r ta tb)):=by
 intro pins s σ H Q I h;refine wpAny_isTrue_Compare1 (thn (ha pins s σ H _ I h) λv s1 ⟨x,H1,I1,r1,q1⟩=>thn (hb pins s1 σ H1 _ I1 q1) λu s2 ⟨y,H2,I2,r2,q2⟩=>
  thn (ho pins s2 σ H2 x y v u _ I2 r1 r2 q2) λc s3 ⟨z,H3,I3,r3,k,e,q3⟩=>?_) hm
 subst e;cases r3
 exact wpAny_truthy_bool ⟨H3,I3,q3⟩
noncomputable def yQ (r r':R2)(ta tb tc:TE):TE:=λσ H Q=>ta σ H λx H1=>tb σ H1 λy H2=>r x y H2 λz H3=>∃k,z=.bl k /\
 (if k=true then tc σ H3 λw' H4=>r' y w' H4 Q else Q (.bl false) H3)
theorem yR {op op':CmpOp}{r r':R2}(ho:OpR X (compareOp op) r)(ho':OpR X (compareOp op') r')(ha:PE X a ta)(hb:PE X b tb)(hc:PE X c tc)
  (hm:lastMarks [op,op'] [b,c]=false:=by with_unfolding_all rfl):PE X (.Compare a [op,op'] [b,c] pos) (yQ r r' ta tb tc):=by
 intro pins s σ H Q I h;refine Compare_chain (thn (ha pins s σ H _ I h) λv s1 ⟨x,H1,I1,r1,q1⟩=>chain_link (thn (hb pins s1 σ H1 _ I1 q1) λu s2 ⟨y,H2,I2,r2,q2⟩=>
  thn (ho pins s2 σ H2 x y v u _ I2 r1 r2 q2) λd s3 ⟨z,H3,I3,r3,k,e,q3⟩=>?_)) hm
 subst e;cases r3
 refine wpAny_truthy_bool ?_;cases k with
 |false=>exact ite_ff ⟨.bl false,H3,I3,rfl,q3⟩
 |true=>exact ite_tt (chain_last (thn (hc pins s3 σ H3 _ I3 q3) λw' s4 ⟨z',H4,I4,r4,q4⟩=>ho' pins s4 σ H4 y z' u w' Q I4 r2 r4 q4))
theorem kR:(sizeLine:Nat)<2 ^ 63:=by rw[sizeLine_eq];decide
theorem uA:OpR X (binaryOp .Add) (λx y H Q=>∃i j,x=.str i/\y=.str j/\i.length+j.length<=sizeLine/\Q (.str (i++j)) H):=by
 intro pins s σ H x y v u Q I rx ry h;obtain⟨i,j,rfl,rfl,hz,q⟩:=h;obtain⟨t,rfl⟩:=rx;obtain⟨t',rfl⟩:=ry;exact add_str (λt' tk=>⟨.str (i++j),H,I.tok _,⟨_,rfl⟩,q⟩) hz
theorem gv {x:V}{us:List Value}(r:aQ [x] us):∃u,us=[u]/\aL x u:=by
 cases r with
 |cons r1 r2=>cases r2;exact⟨_,rfl,r1⟩
theorem Cs {x y:V}{us:List Value}(r:aQ [x,y] us):∃u w',us=[u,w']/\aL x u/\aL y w':=by
 cases r with
 |cons r1 r2=>
  cases r2 with
  |cons r3 r4=>cases r4;exact⟨_,_,rfl,r1,r3⟩
theorem xF (hc:X.calm=true):bO X (.builtin "min") (λxs H Q=>∃i j,xs=[.int i,.int j]/\Q (.int (if j<i then j else i)) H):=by
 intro pins s σ H xs us Q I r h;obtain⟨i,j,rfl,q⟩:=h;obtain⟨u,w',rfl,⟨t,rfl⟩,⟨t',rfl⟩⟩:=Cs r;refine min_two_ints (I.ok.hd hc) λh' tk k=>⟨_,H,I.kept k,?_,q⟩;by_cases hj:j<i
 ·rw[if_pos hj,if_pos hj];exact⟨_,rfl⟩
 ·rw[if_neg hj,if_neg hj];exact⟨_,rfl⟩
theorem xG:bO X (.type "int") (λxs H Q=>(∃i,xs=[.int i]/\Q (.int i) H)∨∃k,xs=[.bl k]/\Q (.int (if k then 1 else 0)) H):=by
 intro pins s σ H xs us Q I r h;rcases h with⟨i,rfl,q⟩|⟨k,rfl,q⟩
 ·obtain⟨u,rfl,t,rfl⟩:=gv r;exact call_int_int ⟨.int i,H,I,⟨_,rfl⟩,q⟩
 ·obtain⟨u,rfl,r1⟩:=gv r;cases r1
  exact call_int_bool ⟨.int (if k then 1 else 0),H,I.tok _,⟨_,rfl⟩,q⟩
end
structure ObjM (h:Heap)(x dx C:Addr)(mA:Str->Option Value):Prop where
 obj:h.get? x=some (PySem.W.instObj C dx)
 ns:h.Ns1 dx mA
 ne:dx≠x
theorem xH {h:Heap}{dx:Addr}{mA:Str->Option Value}(n:h.Ns1 dx mA):∃od,h.get? dx=some od/\∀name,PySem.W.lookIn name od=some (mA name):=by
 obtain⟨o,es,ep,ho,hd,hk,_,hm⟩:=n;refine⟨o,ho,λname=>?_⟩;have e:=hm name;unfold nsFind findBy at e;rw[←Array.find?_toList]at e;unfold PySem.W.lookIn;rw[hd];dsimp only;split
 ·rename_i y q;rw[q]at e;exact congrArg some e
 ·rename_i q;rw[q]at e;have a:es.toList.any (·.refKey)=false:=by
   rw[List.any_eq_false];intro y hy;obtain⟨z,t,hkey⟩:=hk y (Array.mem_toList_iff.mp hy);simp[DictEntry.refKey,hkey]
  have a':¬es.toList.any (·.refKey)=true:=by rw[a];exact Bool.false_ne_true
  rw[if_neg a'];exact congrArg some e
theorem ObjM.look {h:Heap}{x dx C:Addr}{mA:Str->Option Value}(I:ObjM h x dx C mA):∃od,PySem.W.InstAt h x (PySem.W.instObj C dx) C (some od)/\∀name,PySem.W.lookIn name od=some (mA name) :=
 let ⟨od,ho,hl⟩:=xH I.ns
 ⟨od,⟨I.obj,rfl,rfl,ho⟩,hl⟩
section
variable {prog:Program}{w:World}{A:Around}{E:Value->Shared->Prop}{s:Shared}{K:PySem.W.Frag}{x dx C f:Addr}{mA:Str->Option Value}{name:Str}{v:Value}
theorem yS {pl:Sem Bool}{Q:Value×List Value->Shared->Prop}(X:K.In s.heap)(I:ObjM s.heap x dx C mA)(hg:PySem.W.plainGet K C name=true)
  (hf:PySem.W.findIn K (.ref C) name=some (some (.ref f))) (ht:PySem.W.isFn K (.ref f)=true) (hv:mA name=none) (h:Q (.ref f,[.ref x]) s):
  wpAny (model prog w) A (getMethod (.ref x) name pl) Q E s:=by
 obtain⟨od,J,hl⟩:=I.look;exact PySem.W.method_fn X J (PySem.W.plainGet_of hg).1 (PySem.W.plainGet_of hg).2 hf (beq_iff_eq.mp ht) (by show(PySem.W.lookIn name od).map (·.isSome)=some false;rw[hl,hv];rfl) h
theorem Fh {R:Result->Shared->Prop}{vs:List Value}{kw:List (Str×Value)}(X:K.In s.heap)(hm:PySem.W.makesIn K C=true)
  (hi:PySem.W.findIn K (.ref C) "__init__" = some (some (.ref f))) (hf:PySem.W.typeIn K (.ref f)=some (.type "function"))
  (h:codeAny (model prog w) (A.under (.builtin "type.__call__" ⟨.ref C::vs,kw⟩)) (.call (.ref f) ⟨.ref (s.heap.objs.size+1)::vs,kw⟩) (PySem.W.InitBack (s.heap.objs.size+1) R)
   { s with heap:=(s.heap.push PySem.W.emptyDict).push (PySem.W.instObj C s.heap.objs.size) }):
  codeAny (model prog w) A (.call (.ref C) ⟨vs,kw⟩) R s:=by
 obtain⟨hh,g,d,t,os⟩:=s;exact PySem.W.make_core (PySem.W.makes_of X hm) (PySem.W.looks_findIn X hi) (λself=>PySem.W.bind_fn X self hf) (.inl rfl) h
end
theorem jj.some_of {v:V}{o:Option Value}(r:jj (some v) o):∃u,o=some u/\aL v u:=by
 cases o with
 |none=>exact(show False from r).elim
 |some u=>exact⟨u,rfl,r⟩
theorem jj.none_of {o:Option Value}(r:jj none o):o=none:=by
 cases o with
 |none=>rfl
 |some u=>exact(show False from r).elim
section
variable {P:Program}{w:World}{H H':Hp}{h h':Heap}{a C dx:Addr}{fs fs':List (Str×V)}
theorem vX (hok:HOk P w H h)(e:H a=some (.ins C dx fs)):∃mA,ObjM h a dx C mA/\(∀f,jj (fs.lookup f) (mA f))/\PySem.Within mA (fs.map (·.1))/\fs.length<=1000/\H dx=some (.own a):=by
 obtain⟨d,z,ne,ob,mA,n,r,q⟩:=(show bA P w H h a (.ins C dx fs)from hok a _ e);exact⟨mA,⟨ob,n,ne⟩,r,q,z,d⟩
end
structure Cls (K:PySem.W.Frag)(C:Addr):Prop where
 pg:PySem.W.plainGet K C Str.empty=true
 hd:PySem.W.hasDictIn K C=true
 po:PySem.W.plainOver K C=true
 sa:PySem.W.findIn K (.ref C) "__setattr__" = some (some (.builtin "object.__setattr__"))
theorem Cls.get {K:PySem.W.Frag}{C:Addr}(c:Cls K C)(f:Str):PySem.W.plainGet K C f=true:=c.pg
noncomputable def D2 (K:PySem.W.Frag)(C:Addr)(f:Str):Prop:=PySem.W.findIn K (.ref C) f=some none
structure Meth (K:PySem.W.Frag)(C:Addr)(m:Str)(f:Addr):Prop where
 at_:PySem.W.findIn K (.ref C) m=some (some (.ref f))
 fn:PySem.W.isFn K (.ref f)=true
 kp:PySem.W.keepIn K (.ref f)=true
section
variable {X:Cx}{pins:List (Addr×Obj)}{σ:St}{H:Hp}{s:Shared}{a C dx:Addr}{fs:List (Str×V)}{f:Str}{v:V}{A:Around}{E:Value->Shared->Prop}
theorem uB {m:Str}{g:Addr}{pl:Sem Bool}{Q:Value×List Value->Shared->Prop}(I:Inv X pins σ H s)(e:H a=some (.ins C dx fs))(c:Cls X.K C)(k:Meth X.K C m g)(l:fs.lookup m=none)
  (h:Q (.ref g,[.ref a]) s):wpAny (model X.prog X.w) A (getMethod (.ref a) m pl) Q E s:=by
 obtain⟨mA,O,r,_,_,_⟩:=vX I.hok e;have hn:mA m=none:=jj.none_of (by rw[←l];exact r m);exact yS I.kIn O (c.get m) k.at_ k.fn hn h
theorem Inv.made (I:Inv X pins σ H s):Inv X pins σ (upd (upd H s.heap.objs.size (.own (s.heap.objs.size+1))) (s.heap.objs.size+1) (.ins C s.heap.objs.size []))
  { s with heap:=(s.heap.push PySem.W.emptyDict).push (PySem.W.instObj C s.heap.objs.size) }:=by
 have e1:(s.heap.push PySem.W.emptyDict).get? s.heap.objs.size=some PySem.W.emptyDict:=Heap.get?_push_size s.heap rfl;have e2:((s.heap.push PySem.W.emptyDict).push (PySem.W.instObj C s.heap.objs.size)).get? (s.heap.objs.size+1)=some (PySem.W.instObj C s.heap.objs.size):=by
  have:=Heap.get?_push_size (s.heap.push PySem.W.emptyDict) (o:=PySem.W.instObj C s.heap.objs.size) rfl;rwa [Heap.size_push]at this
 have e3:(s.heap.push PySem.W.emptyDict).Ns s.heap.objs.size (λ_=>none):=⟨PySem.W.emptyDict,#[],_,e1,rfl,(λe he=>absurd he (by simp)),λ_=>rfl⟩;have I1:=I.laid (a:=s.heap.objs.size) (o:=.own (s.heap.objs.size+1)) (h':=s.heap.push PySem.W.emptyDict) (t':=s.toks) (λb u q=>Heap.get?_push_of_some _ q) (Nat.le_refl _) ⟨_,e1⟩;refine I1.laid (a:=s.heap.objs.size+1) (o:=.ins C s.heap.objs.size []) (t':=s.toks) (λb u q=>Heap.get?_push_of_some _ q) (Nat.le_of_eq (Heap.size_push _ _)) ?_;have ne:s.heap.objs.size≠s.heap.objs.size+1:=Nat.ne_of_lt (Nat.lt_succ_self _);refine⟨by rw[aB ne,a0],Nat.zero_le _,ne,e2,λ_=>none,(Heap.Ns1.of_empty e3).at λo q=>Heap.get?_push_of_some _ q,λ_=>True.intro,λy hy=>absurd rfl hy⟩
end
noncomputable def Ha (K:PySem.W.Frag)(ta:TE)(f:Str):TE:=λσ H Q=>ta σ H λx H1=>∃a C dx fs v,x=.ref a/\H1 a=some (.ins C dx fs)/\Cls K C/\D2 K C f/\fs.lookup f=some v/\Q v H1
section
variable {X:Cx}{o e value:Expr}{f:Str}{pos pos' tpos:Pos}{ta tv:TE}
theorem Ct {pl:Sem Bool}{m:Str}{apos:Pos}{args:List Expr}{pins:List (Addr×Obj)}{s:Shared}{σ:St}{H:Hp}{Q:Value->Shared->Prop}{te:TE}(he:PE X e te)(I:Inv X pins σ H s)
  (h:te σ H λx H1=>∃a C dx fs g,x=.ref a/\H1 a=some (.ins C dx fs)/\Cls X.K C/\Meth X.K C m g/\fs.lookup m=none /\
   ∀s1,Inv X pins σ H1 s1->wpAny (model X.prog X.w) X.A (callWith pos (.ref g) [.ref a] (backTo pos (starEach args X.env)) (backToKw pos (keywordEach [] X.env))) Q X.xe s1)
  (ht:eval (.Call (.Attribute e m apos) args [] pos) X.env=(do
   let ov ←eval e X.env
   standAt apos.atName
   let (f,first) ←holding [ov] (getMethod ov m pl)
   callWith pos f first (backTo pos (starEach args X.env)) (backToKw pos (keywordEach [] X.env)))):
  wpAny (model X.prog X.w) X.A (eval (.Call (.Attribute e m apos) args [] pos) X.env) Q X.xe s:=by
 refine PySem.W.methodCall_KW (pl:=pl) (thn (he pins s σ H _ I h) λu s1 ⟨x,H1,I1,rx,a,C,dx,fs,g,ex,ea,c,k,l,q⟩=>?_) ht;subst ex;obtain rfl:u=Value.ref a:=rx;exact uB I1 ea c k l (q s1 I1)
end
section
variable {X:Cx}{pins:List (Addr×Obj)}{σ:St}{H:Hp}{s:Shared}{A:Around}{E:Value->Shared->Prop}{Q:Value->Shared->Prop}{c:Value}{b:Bool}
inductive TyOf (K:PySem.W.Frag)(H:Hp):V->Value->Prop where
 |non:TyOf K H .non (.type "NoneType")
 |bl (x:Bool):TyOf K H (.bl x) (.type "bool")
 |int (i:Int):TyOf K H (.int i) (.type "int")
 |str (x:Str):TyOf K H (.str x) (.type "str")
 |flt (x:UInt64):TyOf K H (.flt x) (.type "float")
 |lst {a:Addr}{xs:List V}(e:H a=some (.lst xs)):TyOf K H (.ref a) (.type "list")
 |frz {a:Addr}{o:Obj}{xs:List V}(e:H a=some (.frz o (.lst xs))):TyOf K H (.ref a) (.type "list")
 |tup {a:Addr}{xs:List V}(e:H a=some (.tup xs)):TyOf K H (.ref a) (.type "tuple")
 |dK {a:Addr}{kvs:List (Key×V)}{ob:Obj}(e:H a=some (.dK kvs ob)):TyOf K H (.ref a) (.type "dict")
 |dT {a:Addr}{kvs:List (List Key×V)}(e:H a=some (.dT kvs)):TyOf K H (.ref a) (.type "dict")
 |ins {a C dx:Addr}{fs:List (Str×V)}(e:H a=some (.ins C dx fs)) (cl:Cls K C) (ha:PySem.W.findIn K (.ref C) "__class__" = some (some (.builtin "object.__class__")))
   (hn:PySem.W.specialIn K (.builtin "object.__class__") "__get__" = some (some (.builtin "getset_descriptor.__get__"))) (htk:PySem.W.takesIn K (.builtin "object.__class__")=some true)
   (hm:PySem.W.mroIn K C (.type "object")=some true):TyOf K H (.ref a) (.ref C)
theorem fN {x:V}{u t:Value}(I:Inv X pins σ H s)(rx:aL x u)(ty:TyOf X.K H x t)(e:PySem.W.kitOne X.K t c=some b)(h:∀tk,Q (.bool b) { s with toks:=tk }):
  wpAny (model X.prog X.w) A (call (.builtin "isinstance") [u,c]) Q E s:=by
 cases ty with
 |non=>cases (show u=Value.none from rx);exact PySem.W.kia_one PySem.W.kitx_none I.kIn True.intro e (λz=>nomatch z) h
 |bl y=>cases (show u=Value.bool y from rx);exact PySem.W.kia_one PySem.W.kitx_bool I.kIn True.intro e (λz=>nomatch z) h
 |int i=>obtain⟨t,q⟩:=(show ∃t,u=Value.int i t from rx);cases q;exact PySem.W.kia_one PySem.W.kitx_int I.kIn True.intro e (λz=>nomatch z) h
 |str y=>obtain⟨t,q⟩:=(show ∃t,u=Value.str y t from rx);cases q;exact PySem.W.kia_one PySem.W.kitx_str I.kIn True.intro e (λz=>nomatch z) h
 |flt y=>obtain⟨t,q⟩:=(show ∃t,u=Value.float y t from rx);cases q;exact PySem.W.kia_one PySem.W.kitx_float I.kIn True.intro e (λz=>nomatch z) h
 |@lst a xs ea=>
  cases (show u=Value.ref a from rx)
  obtain⟨_,_,n,_,h1⟩:=(show bA X.prog X.w H s.heap a (.lst xs)from I.hok a _ ea);exact PySem.W.kia_one PySem.W.kitx_list I.kIn ⟨_,h1,rfl⟩ e (λz=>nomatch z) h
 |@frz a ob xs ea=>
  cases (show u=Value.ref a from rx)
  obtain⟨_,_,_,n,_,h1⟩:=(show bA X.prog X.w H s.heap a (.frz ob (.lst xs))from I.hok a _ ea);exact PySem.W.kia_one PySem.W.kitx_list I.kIn ⟨_,h1,rfl⟩ e (λz=>nomatch z) h
 |@tup a xs ea=>
  cases (show u=Value.ref a from rx)
  obtain⟨_,_,_,p⟩:=(show bA X.prog X.w H s.heap a (.tup xs)from I.hok a _ ea);obtain⟨o,h1,h2,_⟩:=p;exact PySem.W.kia_one PySem.W.kitx_tuple I.kIn ⟨o,h1,h2⟩ e (λz=>nomatch z) h
 |@dK a kvs ob ea=>
  cases (show u=Value.ref a from rx)
  obtain⟨_,_,_,vs,_,p⟩:=(show bA X.prog X.w H s.heap a (.dK kvs ob)from I.hok a _ ea);obtain⟨o,es,ep,h1,h2,_⟩:=p;exact PySem.W.kia_one PySem.W.kitx_dict I.kIn ⟨o,h1,h2.1⟩ e (λz=>nomatch z) h
 |@dT a kvs ea=>
  cases (show u=Value.ref a from rx)
  obtain⟨_,_,xs,_,o,es,ep,h1,h2,_⟩:=(show bA X.prog X.w H s.heap a (.dT kvs)from I.hok a _ ea);exact PySem.W.kia_one PySem.W.kitx_dict I.kIn ⟨o,h1,h2.1⟩ e (λz=>nomatch z) h
 |@ins a C dx fs ea cl ha hn htk hm=>
  cases (show u=Value.ref a from rx)
  obtain⟨mA,O,_⟩:=vX I.hok ea;obtain⟨od,J,_⟩:=O.look;exact PySem.W.kia_one (PySem.W.kitx_own (cl.get _) cl.hd ha hn htk hm) I.kIn J e (λz=>nomatch z) h
end
structure Room (k:Nat)(A:Around):Prop where
 hd:A.handled=none
 dp:A.depth+3*k+5<recursionLimit
 un:A.units+16*k+200<cLine
theorem Room.mono {j k:Nat}{A:Around}(r:Room k A)(h:j<=k):Room j A:=⟨r.hd,by have:=r.dp;omega,by have:=r.un;omega⟩
theorem Room.deeper {k:Nat}{A:Around}(r:Room (k+1) A)(env:Env):Room k (A.deeper env) :=
 ⟨r.hd,by have:=r.dp;show A.depth+1+3*k+5<_;omega,by have:=r.un;show A.units+3+16*k+200<_;omega⟩
theorem Room.in1 {k:Nat}{A:Around}(r:Room (k+1) A):Room k A.in1 :=
 ⟨r.hd,by have:=r.dp;show A.depth+3*k+5<_;omega,by have:=r.un;show A.units+1+16*k+200<_;omega⟩
theorem Room.depth {k:Nat}{A:Around}(r:Room k A):A.depth<recursionLimit:=by have:=r.dp;omega
noncomputable def Fi:TA:=λ_ H Q=>Q [] H
noncomputable def Cu (ta:TE)(tr:TA):TA:=λσ H Q=>ta σ H λx H1=>tr σ H1 λxs H2=>Q (x::xs) H2
section
variable {X:Cx}{e:Expr}{es:List Expr}{te:TE}{t:TA}{pos:Pos}
theorem jt:PA X [] Fi:=λ_ _ _ _ H Q I h=>Calls.spliced_nil ⟨[],H,I,.nil,h⟩
theorem gT (ha:PE X e te)(hr:PA X es t)(hs:starEach (e::es) X.env=(false,eval e X.env)::starEach es X.env:=by rfl):PA X (e::es) (Cu te t):=by
 intro pos pins s σ H Q I h;rw[hs];show wpAny _ _ (spliced ((false,eval e X.env)::backTo pos (starEach es X.env))) _ _ s;refine Calls.spliced_cons (thn (ha pins s σ H _ I h) λu s1 ⟨x,H1,I1,r1,q1⟩=>?_);exact thn (hr pos pins s1 σ H1 _ I1 q1) λus s2 ⟨xs,H2,I2,r2,q2⟩=>⟨x::xs,H2,I2,.cons r1 r2,q2⟩
noncomputable def Fj (t:TA):TE:=λσ H Q=>t σ H λxs H1=>xs.length<=sizeLine/\∀p,H1 p=none->Q (.ref p) (upd H1 p (.tup xs))
noncomputable def Gy (t:TA):TE:=λσ H Q=>t σ H λxs H1=>xs.length<=sizeLine/\∀p,H1 p=none->Q (.ref p) (upd H1 p (.lst xs))
theorem uC {x1}(h:PA X es t):PE X (.Tuple es x1 pos) (Fj t):=by
 intro pins s σ H Q I hq;refine wpAny_Tuple_spliced (thn (h pos pins s σ H _ I hq) λus s1 ⟨xs,H1,I1,r,z,q⟩=>⟨by rw[←r.length];exact z,?_⟩);have hf:H1 s1.heap.objs.size=none:=I1.hok.fresh (Nat.le_refl _);refine⟨.ref s1.heap.objs.size,upd H1 s1.heap.objs.size (.tup xs),I1.laid (t':=s1.toks) (λb u e=>Heap.get?_push_of_some _ e) (Nat.le_refl _) ?_,rfl,q _ hf⟩;exact⟨z,us,r,⟨_,Heap.get?_push_size _ rfl,rfl,_,rfl⟩⟩
theorem D3 (h:PA X es t):PE X (.List es pos) (Gy t):=by
 intro pins s σ H Q I hq;refine wpAny_List_spliced (thn (h pos pins s σ H _ I hq) λus s1 ⟨xs,H1,I1,r,z,q⟩=>⟨by rw[←r.length];exact z,?_⟩);have hf:H1 s1.heap.objs.size=none:=I1.hok.fresh (Nat.le_refl _);refine⟨.ref s1.heap.objs.size,upd H1 s1.heap.objs.size (.lst xs),I1.laid (t':=s1.toks) (λb u e=>Heap.get?_push_of_some _ e) (Nat.le_refl _) ?_,rfl,q _ hf⟩;exact⟨z,us,0,r,Heap.get?_push_size _ rfl⟩
end
noncomputable abbrev Sp:=List V->Hp->VK->XK->Prop
noncomputable abbrev CXT:=List Env->Hp->Shared->XK->Value->Shared->Prop
structure Env0 (P:Program)(w:World)(K:PySem.W.Frag)(mg:Str->Option Value)(base:Heap)(A:Around)(outer:List Env)(s:Shared)(H:Hp):Prop where
 frames:A.frames=some outer
 mod:Mod K mg base
 bs:∀b o,base.get? b=some o->s.heap.get? b=some o/\H b=none
 bsz:base.objs.size<=s.heap.objs.size
 funs:s.heap.FunFrames base outer
 frf:∀b∈frs outer,H b=none
 hok:HOk P w H s.heap
 bare:AllBare s.gens
noncomputable def CE (outer:List Env)(P:Program)(w:World)(H:Hp)(s:Shared)(Q:VK)(u:Value)(s':Shared):Prop :=
 ∃v H',s'.os=s.os/\AllBare s'.gens/\Un (frs outer) [] H H' s.heap s'.heap/\HOk P w H' s'.heap/\aL v u/\Q v H'
noncomputable def CR (CX:CXT)(outer:List Env)(P:Program)(w:World)(H:Hp)(s:Shared)(Q:VK)(E:XK)(r:Result)(s':Shared):Prop :=
 match r with
 |.ok (.ret u)=>CE outer P w H s Q u s'
 |.ok _=>False
 |.error e=>CX outer H s E e s'
structure FnOk (P:Program)(w:World)(K:PySem.W.Frag)(mg:Str->Option Value)(base:Heap)(CX:CXT)(k:Nat)(f:Addr)(fd:FuncData)(ps:List Str)(sp:Sp):Prop where
 len:∀vs H Q E,sp vs H Q E->vs.length=ps.length
 run:∀(A:Around)(outer:List Env)(s:Shared)(H:Hp)(args:Args)(us:List Value)(vs:List V)(Q:VK)(E:XK),Room k A->Env0 P w K mg base A outer s H->BindsTo s fd args (ps.zip us)->aQ vs us->sp vs H Q E ->
  codeAny (model P w) A (.call (.ref f) args) (CR CX outer P w H s Q E) s
section
variable {X:Cx}{pins:List (Addr×Obj)}{σ:St}{H:Hp}{s s':Shared}
theorem Inv.env0 (I:Inv X pins σ H s):Env0 X.prog X.w X.K X.mg X.base X.A X.stack s H :=
 ⟨I.ok.frames,I.ok.mod,I.bs,Nat.le_trans I.ok.bsz I.sz,I.stack,I.stkFree,I.hok,I.bare⟩
theorem Inv.after {Q:VK}{u:Value}(I:Inv X pins σ H s)(h:CE X.stack X.prog X.w H s Q u s'):EP X pins σ Q u s':=by
 obtain⟨v,H',os,bare,un,hok,r,q⟩:=h;obtain⟨hh,g,d,t,os'⟩:=s';obtain rfl:os'=s.os:=os;exact⟨v,H',I.call (h':=hh) (g':=g) (d':=d) (t':=t) (ch:=[]) un hok bare (λb z=>absurd z (by simp)),r,q⟩
end
noncomputable def Fk (sp:Sp)(dvs:List V)(E:XK)(t:TA):TE:=λσ H Q=>t σ H λvs H1=>sp (vs++dvs) H1 Q E
noncomputable def GO (C:Addr)(m:Str)(sp:Sp)(dvs:List V)(E:XK)(ta:TE)(t:TA):TE:=λσ H Q=>ta σ H λx H1=>∃a dx fs,x=.ref a/\H1 a=some (.ins C dx fs)/\fs.lookup m=none /\
 t σ H1 λvs H2=>sp (x::(vs++dvs)) H2 Q E
noncomputable def GP (C:Addr)(sp:Sp)(dvs:List V)(E:XK)(t:TA):TE:=λσ H Q=>t σ H λvs H1=>∀x dx,H1 x=none->H1 dx=none->dx≠x ->
 sp (.ref x::(vs++dvs)) (upd (upd H1 dx (.own x)) x (.ins C dx [])) (λv H2=>v=.non/\Q (.ref x) H2) E
noncomputable def oS (K:PySem.W.Frag)(fd:FuncData)(ps:List Str)(ds:List Value):Prop :=
 ∀(s:Shared)(us:List Value),K.In s.heap->(us++ds).length=ps.length->BindsTo s fd ⟨us,[]⟩ (ps.zip (us++ds))
theorem oS.all {K:PySem.W.Frag}{fd:FuncData}{ps:List Str}(h:∀us:List Value,us.length=ps.length->bindArgs fd ⟨us,[]⟩=pure (ps.zip us)):oS K fd ps []:=λs us _ hl=>by
 rw[List.append_nil]at hl ⊢;exact .of_eq (h us hl)
noncomputable def uE (CX:CXT)(X:Cx)(E:XK):Prop:=∀(pins:List (Addr×Obj))(σ:St)(H:Hp)(s:Shared)(e:Value)(s':Shared),Inv X pins σ H s->CX X.stack H s E e s'->X.xe e s'
section
variable {X:Cx}{CX:CXT}{k:Nat}{f C:Addr}{fd:FuncData}{ps:List Str}{sp:Sp}{dvs:List V}{ds:List Value}{E:XK}{x m:Str}{p pos apos:Pos}{e o:Expr}{es:List Expr}{ta:TE}{t:TA}
theorem D4 {pins:List (Addr×Obj)}{σ:St}{H:Hp}{s:Shared}{Q:VK}{us:List Value}{vs:List V}(F:FnOk X.prog X.w X.K X.mg X.base CX k f fd ps sp)(hr:Room k X.A)(hb:oS X.K fd ps ds)(hd:aQ dvs ds)(hx:uE CX X E)
  (I:Inv X pins σ H s) (r:aQ vs us) (h:sp (vs++dvs) H Q E):wpAny (model X.prog X.w) X.A (call (.ref f) us) (EP X pins σ Q) X.xe s:=by
 have r2:aQ (vs++dvs) (us++ds):=r.append hd;have hl:(us++ds).length=ps.length:=by rw[←r2.length];exact F.len _ _ _ _ h
 refine wpAny_call (codeAny_mono (F.run X.A X.stack s H ⟨us,[]⟩ (us++ds) (vs++dvs) Q E hr I.env0 (hb s us I.kIn hl) r2 h) λr s' hq=>?_);cases r with
 |error e=>exact hx pins σ H s e s' I hq
 |ok fl=>
  cases fl with
  |ret u=>exact I.after hq
  |next=>exact False.elim hq
  |brk=>exact False.elim hq
  |cont=>exact False.elim hq
theorem AX (F:FnOk X.prog X.w X.K X.mg X.base CX k f fd ps sp)(hr:Room k X.A)(hg:Gl X x)(hm:X.mg x=some (.ref f))(hk:PySem.W.keepIn X.K (.ref f)=true)(hb:oS X.K fd ps ds)(hd:aQ dvs ds)(hx:uE CX X E)
  (ha:PA X (e::es) t) (hdb:(x == ("__debug__" : Str))=false:=by decide) (he:starEach (e::es) X.env=(false,eval e X.env)::starEach es X.env:=by rfl) (hpl:(backTo pos (starEach es X.env)).any (·.1)=false:=by rfl):
  PE X (.Call (.Name x p) (e::es) [] pos) (Fk sp dvs E t):=by
 intro pins s σ H Q I h;refine wpAny_Call_Name_kw (qw I hg hm ?_ hdb);refine PySem.W.callWith_K (h₀:=X.base) I.ok.mod.kin hk (thn (ha pos pins s σ H _ I h) λus s1 ⟨vs,H1,I1,r,q⟩=>⟨I1.kIn,?_⟩) he hpl;exact D4 F hr hb hd hx I1 r q
end
structure FnScope (N P:List Str)(sc:Scope):Prop where
 kind:sc.kind=.function
 co:sc.isCoroutine=false
 gen:sc.isGenerator=false
 nd:N.Nodup
 pre:N.take P.length=P
 par:∀x∈P,sc.names.lookup x=some .local∨sc.names.lookup x=some .cell
 nofree:∀y∈sc.names,y.2≠.free
theorem oU {kindOf:Str->Option NameKind}{x:Str}:∀ {binds:List (Str×Value)}{m:Str->Option Value},(∀v,(x,v)∉binds)->bindL kindOf binds m x=m x
 |[],_,_=>rfl
 | (n,v)::r,m,h=>by
  unfold bindL;rw[oU λw hw=>h w (mZ _ hw)];split
  ·have:x≠n:=by rintro rfl;exact h v mX
   simp[this]
  ·rfl
theorem oV {kindOf:Str->Option NameKind}{x:Str}:∀ {binds:List (Str×Value)}{m:Str->Option Value},(∀v,(x,v)∉binds)->bindC kindOf binds m x=m x
 |[],_,_=>rfl
 | (n,v)::r,m,h=>by
  unfold bindC;rw[oV λw hw=>h w (mZ _ hw)];split
  ·rfl
  ·have:x≠n:=by rintro rfl;exact h v mX
   simp[this]
theorem oW {kindOf:Str->Option NameKind}{x:Str}{v:Value}:∀ {P:List Str}{vs:List Value}{i:Nat}{m:Str->Option Value},P.Nodup->P[i]? = some x->vs[i]? = some v->kindOf x=some .local ->
  bindL kindOf (P.zip vs) m x=some v
 |[],_,_,_,_,h,_,_=>by simp at h
 |_::_,[],_,_,_,_,h,_=>by simp at h
 |p::P,w::vs,0,m,nd,h1,h2,hk=>by
  simp at h1 h2;subst h1;subst h2;show bindL kindOf ((p,w)::P.zip vs) m p=_;unfold bindL;rw[oU λv hv=>(List.nodup_cons.mp nd).1 (List.of_mem_zip hv).1,if_pos hk];simp
 |p::P,w::vs,i+1,m,nd,h1,h2,hk=>by
  show bindL kindOf ((p,w)::P.zip vs) m x=_;unfold bindL;exact oW (i:=i) (List.nodup_cons.mp nd).2 (by simpa using h1) (by simpa using h2) hk
theorem oZ {kindOf:Str->Option NameKind}{x:Str}{v:Value}:∀ {P:List Str}{vs:List Value}{i:Nat}{m:Str->Option Value},P.Nodup->P[i]? = some x->vs[i]? = some v->kindOf x≠some .local ->
  bindC kindOf (P.zip vs) m x=some v
 |[],_,_,_,_,h,_,_=>by simp at h
 |_::_,[],_,_,_,_,h,_=>by simp at h
 |p::P,w::vs,0,m,nd,h1,h2,hk=>by
  simp at h1 h2;subst h1;subst h2;show bindC kindOf ((p,w)::P.zip vs) m p=_;unfold bindC;rw[oV λv hv=>(List.nodup_cons.mp nd).1 (List.of_mem_zip hv).1,if_neg hk];simp
 |p::P,w::vs,i+1,m,nd,h1,h2,hk=>by
  show bindC kindOf ((p,w)::P.zip vs) m x=_;unfold bindC;exact oZ (i:=i) (List.nodup_cons.mp nd).2 (by simpa using h1) (by simpa using h2) hk
noncomputable def i6 (N:List Str)(vs:List V):St:=vs.map some++List.replicate (N.length - vs.length) none
noncomputable def lW (CX:CXT)(P:Program)(w:World)(K:PySem.W.Frag)(mg:Str->Option Value)(base:Heap)(N:List Str)(qual:Str)(scope:Scope)(f:Addr)(cd:Value)(A:Around)(outer:List Env)(s:Shared)(H:Hp)(E:XK):Cx where
 prog:=P
 w:=w
 K:=K
 mg:=mg
 base:=base
 A:=A.deeper (envOfC qual scope s.heap.objs.size f cd)
 N:=N
 s₀:=s
 H₀:=H
 env:=envOfC qual scope s.heap.objs.size f cd
 outer:=outer
 stack:=envOfC qual scope s.heap.objs.size f cd::outer
 ex:=[]
 calm:=true
 fn:=λ_=>true
 pn:=[]
 xe:=λe s'=>wpAny (model P w) (A.deeper (envOfC qual scope s.heap.objs.size f cd)) (leaving (envOfC qual scope s.heap.objs.size f cd) e) (λ_ s''=>CX outer H s E e s'') (λe' s''=>CX outer H s E e' s'') s'
theorem rQ {sc:Scope}{n:Nat}{x:Str}(h:sc.names.lookup x=some .cell):∃c,(cellsFrom n sc.names []).lookup x=some c:=by
 have q:=PySem.W.cellsFrom_some sc.names n [] (.inl h);exact Option.isSome_iff_exists.mp q
theorem xI {CX:CXT}{P:Program}{w:World}{K:PySem.W.Frag}{mg:Str->Option Value}{base:Heap}{N ps:List Str}{qual:Str}{scope:Scope}{f:Addr}{cd:Value}{A:Around}{outer:List Env}{s s1:Shared}{H:Hp}{E:XK}{us:List Value}{vs:List V}
  (S:FnScope N ps scope) (hd:A.handled=none) (e0:Env0 P w K mg base A outer s H) (hl:vs.length=ps.length) (r:aQ vs us)
  (x:InCallC s s.heap.objs.size (bindL (envOfC qual scope s.heap.objs.size f cd).kindOf (ps.zip us) λ_=>none) (cellsFrom (s.heap.objs.size+1) scope.names []) (bindC (envOfC qual scope s.heap.objs.size f cd).kindOf (ps.zip us) λ_=>none) s1):
  Inv (lW CX P w K mg base N qual scope f cd A outer s H E) [] (i6 N vs) H s1:=by
 have hpl:ps.length<=N.length:=by have:=congrArg List.length S.pre;rw[List.length_take]at this;omega
 obtain⟨h1,tk,rfl,hk⟩:=x.done;have noA:∀b:Addr,b∉(lW CX P w K mg base N qual scope f cd A outer s H E).ex:=λb z=>absurd (show b∈([]:List Addr)from z) (by simp);refine⟨⟨e0.mod,S.kind,rfl,rfl,Nat.le_refl _,λy z c h1 h2=>?_,λy hy=>?_,λy c _ h=>?_,λ_=>hd,Around.frames_deeper e0.frames,.inr ⟨rfl,rfl⟩,λb z=>absurd z (noA b),e0.bs,e0.bsz,λb _ _=>noA b,λb z=>absurd z (noA b),e0.funs,e0.frf⟩,
  rfl,e0.bare,Un.kept hk,⟨_,x.toInCall.ns,λi y v h1 h2 h3=>?_⟩,λy c h=>⟨_,x.cell y c h⟩,e0.hok.fresh (Nat.le_refl _),λy c h=>?_,λp hp=>absurd (show p∈([]:List (Addr×Obj))from hp) (by simp),e0.hok.kept hk,?_⟩
 ·exact name_of_addr x.apart (PySem.mem_of_lookup h1) (PySem.mem_of_lookup h2)
 ·have hy:scope.names.lookup y=some .cell∨scope.names.lookup y=some .free:=hy;rcases hy with hy|hy
  ·exact rQ hy
  ·exact absurd rfl (S.nofree _ (PySem.mem_of_lookup hy))
 ·exact Nat.le_of_lt (x.above y c (PySem.mem_of_lookup h))
 ·have hi:i<vs.length:=by
   unfold i6 at h2;by_cases hi:i<vs.length
   ·exact hi
   ·rw[List.getElem?_append_right (by simpa using hi)]at h2;rw[List.getElem?_replicate]at h2;split at h2<;>cases h2
  have ha:vs[i]? = some v:=by
   unfold i6 at h2;rw[List.getElem?_append_left (by simpa using hi),List.getElem?_map]at h2;cases e:vs[i]? with
   |none=>rw[e]at h2;cases h2
   |some a=>rw[e]at h2;cases h2;rfl
  obtain⟨u,hu,rv⟩:=r.get ha;have hp:ps[i]? = some y:=by
   rw[←S.pre,List.getElem?_take_of_lt (by omega)];exact h1
  have ndP:ps.Nodup:=by rw[←S.pre];exact S.nd.sublist (List.take_sublist _ _)
  refine⟨u,rv,?_⟩;rcases S.par y (List.mem_of_getElem? hp)with k|k
  ·exact .inl ⟨k,oW ndP hp hu k⟩
  ·obtain⟨c,e⟩:=rQ (n:=s.heap.objs.size+1) k;refine .inr ⟨.inl k,c,e,?_⟩;have q:=x.cell y c e;rw[oZ ndP hp hu (by show scope.names.lookup y≠_;rw[k];decide)]at q;exact q
 ·exact e0.hok.fresh (Nat.le_of_lt (x.above y c (PySem.mem_of_lookup h)))
 ·unfold i6;show _=N.length;rw[List.length_append,List.length_map,List.length_replicate];omega
theorem Cv {CX:CXT}{P:Program}{w:World}{K:PySem.W.Frag}{mg:Str->Option Value}{base:Heap}{k:Nat}{f:Addr}{name qual:Str}{params:Arguments}{body:List Stmt}{scope:Scope}{dV kV doc pm cdv ct oc:Value}{an od:Option Addr}
  {osl:Array (Option Value)}{N ps:List Str}{sp:Sp}(lk:K.lookup f=some ⟨oc,od,.func (PySem.W.fnOf name qual params body scope dV kV doc pm an cdv ct),osl⟩) (hcd:PySem.W.codeIn K cdv qual=true) (S:FnScope N ps scope)
  (len:∀vs H Q E,sp vs H Q E->vs.length=ps.length)
  (hbody:∀(A:Around)(outer:List Env)(s:Shared)(H:Hp)(vs:List V)(Q:VK)(E:XK),Room k (A.deeper (envOfC qual scope s.heap.objs.size f cdv))->sp vs H Q E ->
   ∃t,PSs (lW CX P w K mg base N qual scope f cdv A outer s H E) body t/\t { nx:=λ_ H'=>Q .non H',rt:=Q } (i6 N vs) H):
  FnOk P w K mg base CX (k+1) f (PySem.W.fnOf name qual params body scope dV kV doc pm an cdv ct) ps sp:=by
 refine⟨len,λA outer s H args us vs Q E hr e0 hb r hsp=>?_⟩;have hl:=len _ _ _ _ hsp;have KX:K.In s.heap:=e0.mod.kin.keeps λb o e=>(e0.bs b o e).1;have lim:s.heap.NoLimit:=e0.mod.nolimit.keeps λb o e=>(e0.bs b o e).1;have hkind:∀y∈ps.zip us,scope.names.lookup y.1=some .local∨(scope.names.lookup y.1=some .cell/\((cellsFrom (s.heap.objs.size+1) scope.names []).lookup y.1).isSome=true):=λ⟨n,v⟩ hy=>by
  rcases S.par n (List.of_mem_zip hy).1 with q|q
  ·exact .inl q
  ·exact .inr ⟨q,PySem.W.cellsFrom_some _ _ _ (.inl q)⟩
 refine codeAny_call_function hr.depth (KX _ _ lk) rfl S.co S.gen rfl (PySem.W.codeRec_of KX hcd) (hb _ _ _ _ ?_);refine wpAny_newFunctionEnv_cells S.kind hkind λenv he s1 x=>?_;subst he;refine⟨lim.keeps x.toInCall.keep,codeAny_func ?_⟩;obtain⟨t,ht,hq⟩:=hbody A outer s H vs Q E (hr.deeper _) hsp;have I:Inv (lW CX P w K mg base N qual scope f cdv A outer s H E) [] (i6 N vs) H s1:=xI S hr.hd e0 hl r x;refine wpAny_mono (ht [] s1 (i6 N vs) H _ I hq) (λfl s' hs=>?_) λe s' hs=>hs;have fin:∀ {σ':St}{H':Hp}{v:V}{u:Value},Inv (lW CX P w K mg base N qual scope f cdv A outer s H E) [] σ' H' s'->aL v u->Q v H'->CE outer P w H s Q u s' :=
  λ{σ' H' v u} J rv q=>⟨v,H',J.os,J.bare,J.base,J.hok,rv,q⟩
 cases fl with
 |ret u=>
  obtain⟨v,σ',H',J,rv,q⟩:=hs;exact fin J rv q
 |next=>
  obtain⟨σ',H',J,q⟩:=hs;exact fin (v:=V.non) (u:=Value.none) J rfl q
 |brk=>
  obtain⟨_,_,_,q⟩:=hs;exact False.elim q
 |cont=>
  obtain⟨_,_,_,q⟩:=hs;exact False.elim q
section
variable {X:Cx}{x:Str}{p pos:Pos}{e:Expr}{es:List Expr}{t:TA}{id T:String}{r:List V->Hp->VK->Prop}
noncomputable def tCB (r:List V->Hp->VK->Prop)(t:TA):TE:=λσ H Q=>t σ H λvs H1=>r vs H1 Q
theorem rR (hc:bO X (.builtin id) r)(hg:Gl X x)(hm:X.mg x=none)(hv:bootBuiltins x=some (.builtin id))(ha:PA X (e::es) t)(hn:x ≠ "__name__":=by decide)(hdb:(x == ("__debug__" : Str))=false:=by decide)
  (he:starEach (e::es) X.env=(false,eval e X.env)::starEach es X.env:=by rfl) (hpl:(backTo pos (starEach es X.env)).any (·.1)=false:=by rfl):PE X (.Call (.Name x p) (e::es) [] pos) (tCB r t):=by
 intro pins s σ H Q I h;refine wpAny_Call_Name_kw (js I hg hm hv ?_ hn hdb);exact PyProof.Rows.callWith_builtin1 (thn (ha pos pins s σ H _ I h) λus s1 ⟨vs,H1,I1,r1,q1⟩=>hc pins s1 σ H1 vs us Q I1 r1 q1) he hpl
theorem pb (hc:bO X (.type T) r)(hg:Gl X x)(hm:X.mg x=none)(hv:bootBuiltins x=some (.type T))(ha:PA X (e::es) t)(hn:x ≠ "__name__":=by decide)(hdb:(x == ("__debug__" : Str))=false:=by decide)
  (he:starEach (e::es) X.env=(false,eval e X.env)::starEach es X.env:=by rfl) (hpl:(backTo pos (starEach es X.env)).any (·.1)=false:=by rfl):PE X (.Call (.Name x p) (e::es) [] pos) (tCB r t):=by
 intro pins s σ H Q I h;refine wpAny_Call_Name_kw (js I hg hm hv ?_ hn hdb);exact PyProof.Rows.callWith_type1 (thn (ha pos pins s σ H _ I h) λus s1 ⟨vs,H1,I1,r1,q1⟩=>hc pins s1 σ H1 vs us Q I1 r1 q1) he hpl
end
end L2
namespace HT
open PySem PyProof.Rows
section
open PySem.SeqAt
open PySem.AutoSeq1 (wpAny_loadPart')
open PySem.MeetsSeq PySem.MeetsSeq2 PySem.MeetsSeq3
end
section
variable {prog:Program}{w:World}{A:Around}{E:Value->Shared->Prop}{s:Shared}
theorem AY {t b:Addr}{vs ws:List Value}{Q:Value->Shared->Prop}(ht:IsTup s.heap t vs.toArray)(hb:IsTup s.heap b ws.toArray)(hv:vs≠[])
  (h1:ws=[]->Q (.ref t) s) (h2:ws≠[]->Q (.ref s.heap.objs.size) { s with heap:=s.heap.push { cls:=.type "tuple",data:=.seq (vs++ws).toArray } })
  (hsz:vs.length+ws.length<=sizeLine):wpAny (model prog w) A (binaryOp .Add (.ref t) (.ref b)) Q E s:=by
 obtain⟨⟨cls,dd,data,sl⟩,ho,hc,n,hd⟩:=id ht;obtain⟨⟨cls2,dd2,data2,sl2⟩,ho2,hc2,n2,hd2⟩:=id hb;simp only at hc hd hc2 hd2;subst hc hd hc2 hd2;have e:vs.toArray++ws.toArray=(vs++ws).toArray:=by simp
 by_cases hw:ws=[]
 ·exact concat_meets ⟨_,ho,rfl⟩ ⟨_,ho2,rfl⟩ noFill_tuple_add seq_tuple_add PySem.F.slot_tuple_add PySem.F.entry_tuple_add (PySem.F.args_tuple_add_2 _ _)
   (tuple_addW1 t b vs.toArray ws.toArray n n2 dd dd2 sl sl2 (by simpa using hv) (by simp[hw])) ⟨ho,ho2,h1 hw⟩
 ·refine concat_meets ⟨_,ho,rfl⟩ ⟨_,ho2,rfl⟩ noFill_tuple_add seq_tuple_add PySem.F.slot_tuple_add PySem.F.entry_tuple_add (PySem.F.args_tuple_add_2 _ _)
   (tuple_addW2 t b vs.toArray ws.toArray n n2 dd dd2 sl sl2 (by simpa using hv) (by simpa using hw) (by rw[List.size_toArray,List.size_toArray];exact hsz)) ⟨ho,ho2,?_⟩
  rw[e];exact h2 hw
noncomputable def sIx (n d:Nat):Option Int->Nat
 |none=>d
 |some v=>if v<0 then (v+(n:Int)).toNat else min v.toNat n
theorem D5 (n d:Nat)(hd:d<=n)(o:Option Int):sIx n d o<=n:=by
 cases o with
 |none=>exact hd
 |some v=>
  show(if v<0 then (v+(n:Int)).toNat else min v.toNat n)<=n;by_cases hv:v<0
  ·rw[if_pos hv];omega
  ·rw[if_neg hv];exact Nat.min_le_right _ _
theorem vY (v:Int)(n d:Nat):(if v<0 then max (v+(n:Int)) 0 else min v (n:Int))=((sIx n d (some v):Nat):Int):=by
 show(if v<0 then max (v+(n:Int)) 0 else min v (n:Int))=(((if v<0 then (v+(n:Int)).toNat else min v.toNat n):Nat):Int);by_cases hv:v<0
 ·simp only[if_pos hv];omega
 ·simp only[if_neg hv];omega
theorem uF (lo hi:Option Int)(n:Nat):Builtin.Slice.sliceAdjust lo hi 1 (n:Int)=(((sIx n 0 lo:Nat):Int),((sIx n n hi:Nat):Int)):=by
 have h1:¬((1:Int)<0):=by omega
 unfold Builtin.Slice.sliceAdjust;simp only[h1,if_false];refine Prod.ext ?_ ?_
 ·cases lo with
  |none=>rfl
  |some v=>exact vY v n 0
 ·cases hi with
  |none=>rfl
  |some v=>exact vY v n n
theorem uG (i j:Nat):Builtin.Slice.slicePlaces (i:Int) (j:Int) 1=j - i:=by
 unfold Builtin.Slice.slicePlaces;have h1:(1:Int) > 0:=by omega
 simp only[h1,if_true,Int.ediv_one];split<;>omega
theorem m8 {v:Value}{o:Option Int}{Q:Option Int->Shared->Prop}(p:IsPart v o)(h:Q o s):wpAny (model prog w) A (Builtin.Slice.slicePartIndex v) Q E s:=by
 cases p with
 |none=>exact slicePart_none h
 |int i t=>exact slicePart_int h
theorem gw {sl:Addr}{vl vu:Value}{lo hi:Option Int}{n:Nat}{Q:Int×Int×Nat->Shared->Prop}(hs:s.heap.IsSliceOf sl vl vu .none)(pl:IsPart vl lo)(pu:IsPart vu hi)
  (h:Q (((sIx n 0 lo:Nat):Int),1,sIx n n hi - sIx n 0 lo) s):wpAny (model prog w) A (Builtin.Slice.sliceApplied (.ref sl) (pure (n:Int))) Q E s:=by
 obtain⟨os,hos,hcs,hds⟩:=id hs;unfold Builtin.Slice.sliceApplied Builtin.Slice.sliceFields;refine wX (wX (wpAny_field hos hds (x:=vl) rfl (wX (wpAny_field hos hds (x:=vu) rfl (wX (wpAny_field hos hds (x:=.none) rfl (wY ?_)))))));refine wX (slicePart_none ?_);show wpAny _ _ (if((1:Int) == 0)=true then _ else _) _ _ s;rw[if_neg (by decide)];refine wX (m8 pl (wX (m8 pu (wX (wY ?_)))));show wpAny _ _ (match Builtin.Slice.sliceAdjust lo hi 1 (n:Int) with|(lo,hi)=>pure (lo,(1:Int),Builtin.Slice.slicePlaces lo hi 1)) _ _ s;rw[uF lo hi n];show wpAny _ _ (pure (((sIx n 0 lo:Nat):Int),(1:Int),Builtin.Slice.slicePlaces ((sIx n 0 lo:Nat):Int) ((sIx n n hi:Nat):Int) 1)) _ _ s;rw[uG];exact wY h
theorem yT (xs:Array Value)(i k:Nat):((List.range k).filterMap λ(m:Nat)=>xs[((i:Int)+(m:Int)*1).toNat]?).toArray=((xs.toList.drop i).take k).toArray:=by
 have e:(λ(m:Nat)=>xs[((i:Int)+(m:Int)*1).toNat]?)=λm=>xs[i+m]?:=by
  funext m;have:((i:Int)+(m:Int)*1).toNat=i+m:=by omega
  rw[this]
 rw[e];have:=pick_run xs i k;rw[List.filterMap_map]at this;have e2:((λx=>xs[x]?) ∘ λx=>i+x)=λm=>xs[i+m]?:=rfl;rw[e2]at this;rw[this]
theorem jK {t sl:Addr}{items:Array Value}{vl vu:Value}{lo hi:Option Int}{Q:Value->Shared->Prop}(ht:IsTup s.heap t items)(hs:s.heap.IsSliceOf sl vl vu .none)(pl:IsPart vl lo)(pu:IsPart vu hi)
  (hw:¬(sIx items.size 0 lo=0/\sIx items.size items.size hi=items.size))
  (h:Q (.ref s.heap.objs.size) { s with heap:=s.heap.push { cls:=.type "tuple",data:=.seq ((items.toList.drop (sIx items.size 0 lo)).take (sIx items.size items.size hi - sIx items.size 0 lo)).toArray } })
  (hsz:items.size<=sizeLine):wpAny (model prog w) A (getItem (.ref t) (.ref sl)) Q E s:=by
 have htake:sizeOk (.seq ((items.toList.drop (sIx items.size 0 lo)).take (sIx items.size items.size hi - sIx items.size 0 lo)).toArray):=by
  show((items.toList.drop (sIx items.size 0 lo)).take (sIx items.size items.size hi - sIx items.size 0 lo)).toArray.size<=sizeLine
  rw[List.size_toArray,List.length_take,List.length_drop,Array.length_toList]
  omega
 have hj:sIx items.size items.size hi<=items.size:=D5 _ _ (Nat.le_refl _) hi
 obtain⟨os,hos,hcs,hds⟩:=id hs
 have hTs:s.TypeIs (.ref sl) "slice":=⟨os,hos,hcs⟩
 unfold getItem
 try with_reducible refine wpAny_holding ?_
 first|refine wX (wY ?_)|skip
 refine wX (wpAny_sequenceKey ht.typeIs (by decide) ?_)
 refine wX (wpAny_callSpecial?_slot (name:=Str.ofString "__getitem__") ht.typeIs PyProof.Rows.slot_tuple_getitem
  (wpAny_call_entry PyProof.Rows.slot_tuple_getitem ht.typeIs entry_tuple_getitem ?_ (args_tuple_getitem _ _)))
 show wpAny _ _ (Builtin.Tuple.tupleItemsOf (.ref t)>>=_) _ _ s
 refine wX (tupleItemsOf_ ht ?_)
 refine wX (wpAny_typeOf hTs ?_)
 rw[if_pos (by decide)]
 refine wX (gw hs pl pu ?_)
 have hno:¬((((sIx items.size 0 lo:Nat):Int) == 0 && (1:Int) == 1 && (sIx items.size items.size hi - sIx items.size 0 lo) == items.size)=true):=by
  intro q
  rw[Bool.and_eq_true,Bool.and_eq_true]at q
  have q1:((sIx items.size 0 lo:Nat):Int)=0:=eq_of_beq q.1.1
  have q2:sIx items.size items.size hi - sIx items.size 0 lo=items.size:=eq_of_beq q.2
  exact hw ⟨by omega,by omega⟩
 show wpAny _ _ (if(((sIx items.size 0 lo:Nat):Int) == 0 && (1:Int) == 1 && (sIx items.size items.size hi - sIx items.size 0 lo) == items.size)=true then _ else _) _ _ s
 rw[if_neg hno,yT]
 first
  |exact wX (m:=Builtin.Tuple.tupleExact _) (wpAny_newObj_type (wY ⟨_,rfl,wY h⟩) htake)
  |exact wX (m:=Builtin.Tuple.tupleExact _) (wpAny_newObj_type (wX (wY (wY ⟨_,rfl,wY h⟩))) htake)
  |exact wX (wX (m:=Builtin.Tuple.tupleExact _) (wpAny_newObj_type (wY (wY ⟨_,rfl,wY h⟩)) htake))
  |exact wX (wX (m:=Builtin.Tuple.tupleExact _) (wpAny_newObj_type (wY ⟨_,rfl,wY h⟩) htake))
end
end HT
namespace L2
open PySem PySem.Spec PyProof.Rows
noncomputable abbrev TO:=St->Hp->(Option Int->Hp->Prop)->Prop
noncomputable def PO (X:Cx)(e:Option Expr)(t:TO):Prop :=
 ∀(pins:List (Addr×Obj))(s:Shared)(σ:St)(H:Hp)(Q:Option Int->Hp->Prop),Inv X pins σ H s->t σ H Q ->
  wpAny (model X.prog X.w) X.A (evalPart e X.env) (λu s'=>∃o H',Inv X pins σ H' s'/\IsPart u o/\Q o H') X.xe s
noncomputable def AZ:TO:=λ_ H Q=>Q none H
noncomputable def Fl (t:TE):TO:=λσ H Q=>t σ H λx H1=>∃i,x=.int i/\Q (some i) H1
section
variable {X:Cx}{e:Expr}{te:TE}{lo hi:Option Expr}{tl th:TO}{pos p2:Pos}
theorem Ba:PO X none AZ:=by
 intro pins s σ H Q I h;rw[evalPart_none];exact wY ⟨none,H,I,.none,h⟩
theorem Bb (h:PE X e te):PO X (some e) (Fl te):=by
 intro pins s σ H Q I hw;rw[evalPart_some];refine thn (h pins s σ H _ I hw) λu s1 ⟨x,H1,I1,r1,q1⟩=>?_;obtain⟨i,rfl,q⟩:=q1;obtain⟨t,rfl⟩:=r1;exact⟨some i,H1,I1,.int i t,q⟩
noncomputable def SlR (X:Cx)(r:V->Option Int->Option Int->Hp->VK->Prop):Prop :=
 ∀(pins:List (Addr×Obj))(s:Shared)(σ:St)(H:Hp)(x:V)(v vl vu:Value)(lo hi:Option Int)(sl:Addr)(Q:VK),Inv X pins σ H s->aL x v->s.heap.IsSliceOf sl vl vu .none->IsPart vl lo->IsPart vu hi->r x lo hi H Q ->
  ∃T id,typeLookup (.type T) "__getitem__" = pure (some (.builtin id))/\s.TypeIs v T/\wpAny (model X.prog X.w) X.A (getItem v (.ref sl)) (EP X pins σ Q) X.xe s
theorem SlR.or {r r':V->Option Int->Option Int->Hp->VK->Prop}(h:SlR X r)(h':SlR X r'):SlR X (λx lo hi H Q=>r x lo hi H Q∨r' x lo hi H Q):=by
 intro pins s σ H x v vl vu lo hi sl Q I rx hs pl pu q;rcases q with q|q
 ·exact h pins s σ H x v vl vu lo hi sl Q I rx hs pl pu q
 ·exact h' pins s σ H x v vl vu lo hi sl Q I rx hs pl pu q
noncomputable def tSl (r:V->Option Int->Option Int->Hp->VK->Prop)(te:TE)(tl th:TO):TE:=λσ H Q=>te σ H λx H1=>tl σ H1 λl H2=>th σ H2 λu H3=>r x l u H3 Q
theorem yU {r:V->Option Int->Option Int->Hp->VK->Prop}(hr:SlR X r)(he:PE X e te)(hl:PO X lo tl)(hu:PO X hi th):PE X (.Subscript e (.Slice lo hi none p2) pos) (tSl r te tl th):=by
 intro pins s σ H Q I h;refine Subscript_ (thn (he pins s σ H _ I h) λv s1 ⟨x,H1,I1,r1,q1⟩=>?_);refine wpAny_Slice (thn (hl pins s1 σ H1 _ I1 q1) λvl s2 ⟨l,H2,I2,pl,q2⟩=>thn (hu pins s2 σ H2 _ I2 q2) λvu s3 ⟨u,H3,I3,pu,q3⟩=>?_);rw[evalPart_none];refine wY ?_;have I4:Inv X pins σ H3 { s3 with heap:=s3.heap.push { cls:=.type "slice",data:=.fields #[vl,vu,.none] } }:=I3.kept (t':=s3.toks) λb ob q=>Heap.get?_push_of_some _ q;obtain⟨T,id,hT,ht,hg⟩:=hr pins { s3 with heap:=s3.heap.push { cls:=.type "slice",data:=.fields #[vl,vu,.none] } } σ H3 x v vl vu l u s3.heap.objs.size Q I4 r1 (Heap.IsSliceOf.new ..) pl pu q3;show wpAny (model X.prog X.w) X.A (subscriptTail e (.Slice lo hi none p2) v (.ref s3.heap.objs.size)) (EP X pins σ Q) X.xe { s3 with heap:=s3.heap.push { cls:=.type "slice",data:=.fields #[vl,vu,.none] } };exact tail_any (ops:=[.ref s3.heap.objs.size,v]) ht hT hg (by with_unfolding_all rfl)
noncomputable def oA (xs:List V)(lo hi:Option Int):List V:=(xs.drop (HT.sIx xs.length 0 lo)).take (HT.sIx xs.length xs.length hi - HT.sIx xs.length 0 lo)
theorem lC (xs:List V)(lo hi:Option Int):(oA xs lo hi).length<=xs.length:=by
 unfold oA;rw[List.length_take,List.length_drop];omega
noncomputable def Gz (K:PySem.W.Frag):V->Option Int->Option Int->Hp->VK->Prop:=λx lo hi H Q=>∃a xs,x=.ref a/\SqT K H a xs /\
 ¬(HT.sIx xs.length 0 lo=0/\HT.sIx xs.length xs.length hi=xs.length)/\∀p,H p=none->Q (.ref p) (upd H p (.tup (oA xs lo hi)))
theorem D6:SlR X (Gz X.K):=by
 intro pins s σ H x v vl vu lo hi sl Q I rx hs pl pu h;obtain⟨a,xs,rfl,hx,hw,q⟩:=h;cases rx
 obtain⟨its,r,ht,hz⟩:=I.tuple hx;have hlen:its.toArray.size=xs.length:=by rw[List.size_toArray];exact r.length.symm
 refine⟨"tuple",_,PyProof.Rows.slot_tuple_getitem.lookup,ht.typeIs,?_⟩;refine HT.jK ht hs pl pu (by rw[hlen];exact hw) ?_ (by rw[hlen];exact hz);rw[hlen];refine⟨.ref s.heap.objs.size,_,I.laid (t':=s.toks) (o:=.tup (oA xs lo hi)) (λb ob q=>Heap.get?_push_of_some _ q) (Nat.le_refl _) ?_,rfl,q _ (I.hok.fresh (Nat.le_refl _))⟩;exact⟨Nat.le_trans (lC xs lo hi) hz,_,(r.drop (HT.sIx xs.length 0 lo)).take (HT.sIx xs.length xs.length hi - HT.sIx xs.length 0 lo),IsTup.new _ _⟩
noncomputable def Fm (K:PySem.W.Frag):R2:=λx y H Q=>∃a b xs ys,x=.ref a/\y=.ref b/\SqT K H a xs/\SqT K H b ys/\xs≠[]/\xs.length+ys.length<=sizeLine /\
 (ys=[]->Q (.ref a) H)/\(ys≠[]->∀p,H p=none->Q (.ref p) (upd H p (.tup (xs++ys))))
theorem aQ.nil_iff {xs:List V}{us:List Value}(r:aQ xs us):us=[]↔xs=[]:=by
 cases r with
 |nil=>simp
 |cons _ _=>simp
theorem Bc:OpR X (binaryOp .Add) (Fm X.K):=by
 intro pins s σ H x y v u Q I rx ry h;obtain⟨a,b,xs,ys,rfl,rfl,ha,hb,hx,hz,q1,q2⟩:=h;cases rx
 cases ry
 obtain⟨its,r1,p1,_⟩:=I.tuple ha;obtain⟨its2,r2,p2,_⟩:=I.tuple hb;refine HT.AY p1 p2 (λz=>hx (r1.nil_iff.mp z)) (λz=>⟨.ref a,H,I,rfl,q1 (r2.nil_iff.mp z)⟩) (λz=>?_) (by rw[←r1.length,←r2.length];exact hz);refine⟨.ref s.heap.objs.size,_,I.laid (t':=s.toks) (o:=.tup (xs++ys)) (λb ob q=>Heap.get?_push_of_some _ q) (Nat.le_refl _) ?_,rfl,q2 (λw=>z (r2.nil_iff.mpr w)) _ (I.hok.fresh (Nat.le_refl _))⟩;exact⟨by rw[List.length_append];exact hz,_,r1.append r2,IsTup.new _ _⟩
end
noncomputable def ixN (n:Nat)(i:Int):Option Nat:=if 0<=i then (if i<n then some i.toNat else none)else if -(n:Int)<=i then some (i+n).toNat else none
noncomputable def atI {α:Type}(xs:List α)(i:Int):Option α:=(ixN xs.length i).bind λj=>xs[j]?
theorem vZ {n:Nat}{i:Int}{j:Nat}(h:ixN n i=some j):seqIndex? i n=some j/\j<n/\-(n:Int)<=i/\i<n:=by
 unfold ixN at h;by_cases h0:0<=i
 ·rw[if_pos h0]at h;by_cases h1:i<n
  ·rw[if_pos h1]at h;have e:i.toNat=j:=Option.some.inj h;exact⟨by rw[seqIndex_of h0 h1,e],by omega,by omega,h1⟩
  ·rw[if_neg h1]at h;cases h
 ·rw[if_neg h0]at h;by_cases h1 : -(n:Int)<=i
  ·rw[if_pos h1]at h;have e:(i+n).toNat=j:=Option.some.inj h;exact⟨by rw[seqIndex_neg (by omega) h1,e],by omega,h1,by omega⟩
  ·rw[if_neg h1]at h;cases h
theorem qx {α:Type}{xs:List α}{i:Int}{v:α}(h:atI xs i=some v):∃j,seqIndex? i xs.length=some j/\xs[j]? = some v/\j<xs.length/\-(xs.length:Int)<=i/\i<xs.length:=by
 unfold atI at h;cases e:ixN xs.length i with
 |none=>rw[e]at h;cases h
 |some j=>
  rw[e]at h;obtain⟨h1,h2,h3,h4⟩:=vZ e;exact⟨j,h1,h,h2,h3,h4⟩
theorem Bd {α:Type}{xs:List α}{j:Nat}{v:α}(h:xs[j]? = some v):atI xs (j:Int)=some v:=by
 have hj:j<xs.length:=(List.getElem?_eq_some_iff.mp h).1;have e:ixN xs.length (j:Int)=some j:=by
  unfold ixN;rw[if_pos (by omega),if_pos (by omega)];simp
 unfold atI;rw[e];exact h
theorem rS {α:Type}(xs:List α)(v:α):atI (xs++[v]) (-1)=some v:=by
 have hl:(xs++[v]).length=xs.length+1:=by simp
 have e:ixN (xs++[v]).length (-1)=some xs.length:=by
  unfold ixN;rw[hl,if_neg (by decide),if_pos (by omega)];congr 1;omega
 unfold atI;rw[e];show(xs++[v])[xs.length]? = some v;simp
noncomputable def mm (b:Expr):Prop:=∀o i,subscripted b false o i=operate [o,i] (getItem o i)
noncomputable def IxR (X:Cx)(r:R2):Prop :=
 ∀(value slice:Expr)(pins:List (Addr×Obj))(s:Shared)(σ:St)(H:Hp)(x y:V)(v u:Value)(Q:VK),Inv X pins σ H s->aL x v->aL y u->r x y H Q ->
  subscripted slice false v u=operate [v,u] (getItem v u)->wpAny (model X.prog X.w) X.A (subscriptTail value slice v u) (EP X pins σ Q) X.xe s
noncomputable def MtR (X:Cx)(id:String)(r:V->List V->Hp->VK->Prop):Prop :=
 ∀(pins:List (Addr×Obj))(s:Shared)(σ:St)(H:Hp)(x:V)(xs:List V)(v:Value)(us:List Value)(Q:VK),Inv X pins σ H s->aL x v->aQ xs us->r x xs H Q ->
  wpAny (model X.prog X.w) X.A (call (.builtin id) (v::us)) (EP X pins σ Q) X.xe s
section
variable {X:Cx}{a b:Expr}{ta tb:TE}{pos:Pos}
theorem IxR.or {r r':R2}(h:IxR X r)(h':IxR X r'):IxR X (λx y H Q=>r x y H Q∨r' x y H Q):=by
 intro value slice pins s σ H x y v u Q I rx ry q hs;rcases q with q|q
 ·exact h value slice pins s σ H x y v u Q I rx ry q hs
 ·exact h' value slice pins s σ H x y v u Q I rx ry q hs
theorem MtR.or {id:String}{r r':V->List V->Hp->VK->Prop}(h:MtR X id r)(h':MtR X id r'):MtR X id (λx xs H Q=>r x xs H Q∨r' x xs H Q):=by
 intro pins s σ H x xs v us Q I rx rs q;rcases q with q|q
 ·exact h pins s σ H x xs v us Q I rx rs q
 ·exact h' pins s σ H x xs v us Q I rx rs q
theorem Cw {r:R2}(hr:IxR X r)(ha:PE X a ta)(hb:PE X b tb)(hs:mm b):PE X (.Subscript a b pos) (tOp r ta tb):=by
 intro pins s σ H Q I h;exact Subscript_ (Dv ha hb I h λv u s2 x y H2 I2 rx ry q=>hr a b pins s2 σ H2 x y v u Q I2 rx ry q (hs _ _))
noncomputable def G0 (K:PySem.W.Frag):R2:=λx y H Q=>∃p xs i v,x=.ref p/\y=.int i/\SqL K H p xs/\atI xs i=some v/\Q v H
noncomputable def G1 (K:PySem.W.Frag):R2:=λx y H Q=>∃p xs i v,x=.ref p/\y=.int i/\SqT K H p xs/\atI xs i=some v/\Q v H
noncomputable def G2:R2:=λx y H Q=>∃z i c,x=.str z/\y=.int i/\z.length<=sizeLine/\atI z.cps.toList i=some c/\Q (.str ⟨#[c]⟩) H
theorem Be:IxR X (G0 X.K):=by
 intro value slice pins s σ H x y v u Q I rx ry h hs;obtain⟨p,xs,i,z,rfl,rfl,hq,he,q⟩:=h;cases rx
 obtain⟨t,rfl⟩:=ry;obtain⟨its,r,pl,hz⟩:=I.list hq;obtain⟨j,h1,h2,h3,h4,h5⟩:=qx he;obtain⟨w,ew,rw'⟩:=r.get h2;have hl:=r.length;have hn:=kR;have fin:EP X pins σ Q w s:=⟨z,H,I,rw',q⟩;by_cases h0:0<=i
 ·have hj:i.toNat=j:=by
   rw[seqIndex_of h0 h5]at h1;exact Option.some.inj h1
  exact item_listR pl.isList h0 (by omega) (by rw[hj];simpa using ew) fin hs
 ·have hj:(i+(its.toArray.size:Int)).toNat=j:=by
   rw[seqIndex_neg (by omega) h4]at h1;rw[List.size_toArray,←hl];exact Option.some.inj h1
  exact subscriptTail_builtinR (x:=w) pl.isList.typeIs slot_list_getitem.lookup
   (wpAny_getItem_list_neg (Q:=λr s'=>r=w/\EP X pins σ Q r s') pl.isList (by omega) (by rw[List.size_toArray]<;>omega) (by omega) (by rw[hj];simpa using ew) ⟨rfl,fin⟩) hs
theorem yV:IxR X (G1 X.K):=by
 intro value slice pins s σ H x y v u Q I rx ry h hs;obtain⟨p,xs,i,z,rfl,rfl,hq,he,q⟩:=h;cases rx
 obtain⟨t,rfl⟩:=ry;obtain⟨its,r,pl,hz⟩:=I.tuple hq;obtain⟨j,h1,h2,h3,h4,h5⟩:=qx he;obtain⟨w,ew,rw'⟩:=r.get h2;have hl:=r.length;have hn:=kR;have fin:EP X pins σ Q w s:=⟨z,H,I,rw',q⟩;exact subscriptTail_builtinR (x:=w) pl.typeIs slot_tuple_getitem.lookup
  (getItem_tuple (j:=j) (Q:=λr s'=>r=w/\EP X pins σ Q r s') pl (by omega) (by omega) (by rw[List.size_toArray,←hl];exact h1) (by simpa using ew) ⟨rfl,fin⟩) hs
theorem uH:IxR X G2:=by
 intro value slice pins s σ H x y v u Q I rx ry h hs;obtain⟨z,i,c,rfl,rfl,hz,he,q⟩:=h;obtain⟨t,rfl⟩:=rx;obtain⟨t',rfl⟩:=ry;obtain⟨j,h1,h2,h3,h4,h5⟩:=qx he;have hl:z.cps.toList.length=z.length:=by simp[Str.length]
 rw[hl]at h1 h4 h5;have hn:=kR;exact tail_any (typeIs_str s z t) slot_str_getitem.lookup (getItem_str (c:=c) (by
  have e1:decide (i < -(2 ^ 63:Int))=false:=decide_eq_false (by omega);have e2:decide (i ≥ 2 ^ 63)=false:=decide_eq_false (by omega);rw[e1,e2,Bool.or_false]) (by rw[h1];simpa using h2) ⟨.str ⟨#[c]⟩,H,I.tok _,⟨_,rfl⟩,q⟩) hs
theorem uI (its:List Value)(n j:Nat)(u:Value):Obj.mapSeq (·.setIfInBounds j u) { cls:=.type "list",data:=.seq its.toArray n }={ cls:=.type "list",data:=.seq (its.set j u).toArray n }:=by
 simp[Obj.mapSeq]
theorem Inv.lst {pins:List (Addr×Obj)}{σ:St}{H:Hp}{s:Shared}{p:Addr}{xs:List V}(I:Inv X pins σ H s)(h:H p=some (.lst xs)):
  ∃(its:List Value)(n:Nat),aQ xs its/\s.heap.get? p=some { cls:=.type "list",data:=.seq its.toArray n }/\xs.length<=sizeLine:=by
 obtain⟨z,its,n,r,e⟩:=I.hok p _ h;exact⟨its,n,r,e,z⟩
theorem Inv.lstUpd {pins:List (Addr×Obj)}{σ:St}{H:Hp}{s:Shared}{p:Addr}{xs ys:List V}{its its':List Value}{n n':Nat}{f:Obj->Obj}(I:Inv X pins σ H s)(h:H p=some (.lst xs))
  (ho:s.heap.get? p=some { cls:=.type "list",data:=.seq its.toArray n }) (hf:f { cls:=.type "list",data:=.seq its.toArray n }={ cls:=.type "list",data:=.seq its'.toArray n' }) (r:aQ ys its') (hz:ys.length<=sizeLine) (t:Nat):
  Inv X pins σ (upd H p (.lst ys)) { s with heap:=s.heap.update p f,toks:=t }:=by
 have e:(s.heap.update p f).get? p=some { cls:=.type "list",data:=.seq its'.toArray n' }:=by
  rw[Heap.get?_update_self f ho (by rw[hf]<;>rfl),hf]
 refine I.write (x:=p) (e:=p) (by rw[h];trivial) (.inl rfl) (λb u hb q=>(Heap.get?_update_other _ _ (Ne.symm hb)).trans q) ⟨_,e⟩ ?_;exact⟨hz,its',n',r,e⟩
noncomputable def Fo:V->V->V->Hp->(Hp->Prop)->Prop:=λo i v H Q=>∃p xs k j,o=.ref p/\i=.int k/\H p=some (.lst xs)/\ixN xs.length k=some j/\Q (upd H p (.lst (xs.set j v)))
theorem yW:EV X Fo:=by
 intro pins s σ H o i v ov iv u Q I ro ri rv h;obtain⟨p,xs,k,j,rfl,rfl,hp,hj,q⟩:=h;cases ro
 obtain⟨t,rfl⟩:=ri;obtain⟨its,n,r,ho,hz⟩:=I.lst hp;obtain⟨h1,h2,h3,h4⟩:=vZ hj;have hl:=r.length;have hn:=kR;have I':Inv X pins σ (upd H p (.lst (xs.set j v))) { s with heap:=s.heap.update p (Obj.mapSeq (·.setIfInBounds j u)) } :=
  I.lstUpd hp ho (uI its n j u) (r.set rv j) (by rw[List.length_set];exact hz) s.toks
 by_cases h0:0<=k
 ·have hk:k.toNat=j:=by
   rw[seqIndex_of h0 h4]at h1;exact Option.some.inj h1
  exact PySem.W.ki_setAt ho h0 (by omega) (by rw[List.size_toArray,←hl];exact h4) (by rw[hk];exact⟨_,I',q⟩)
 ·have hk:(k+(its.toArray.size:Int)).toNat=j:=by
   rw[seqIndex_neg (by omega) h3]at h1;rw[List.size_toArray,←hl];exact Option.some.inj h1
  exact PySem.W.ki_setBack ho (by omega) (by rw[List.size_toArray,←hl];exact h3) (by omega) (by rw[hk];exact⟨_,I',q⟩)
theorem qy (lo hi:Option Int)(n:Nat):(sliceBounds lo hi none n).1=((HT.sIx n 0 lo:Nat):Int)/\(sliceBounds lo hi none n).2.1=((HT.sIx n n hi:Nat):Int)/\(sliceBounds lo hi none n).2.2=1:=by
 refine⟨?_,?_,rfl⟩
 ·cases lo with
  |none=>simp[sliceBounds,HT.sIx]
  |some i=>
   simp only[sliceBounds,HT.sIx,Option.getD_none,show(1:Int) > 0 by decide,if_true];by_cases h:i<0
   ·simp only[h,if_true]<;>omega
   ·simp only[h,if_false]<;>omega
 ·cases hi with
  |none=>simp[sliceBounds,HT.sIx]
  |some i=>
   simp only[sliceBounds,HT.sIx,Option.getD_none,show(1:Int) > 0 by decide,if_true];by_cases h:i<0
   ·simp only[h,if_true]<;>omega
   ·simp only[h,if_false]<;>omega
theorem oB (its:List Value)(lo hi:Option Int):slicePick its.toArray lo hi none=((its.drop (HT.sIx its.length 0 lo)).take (HT.sIx its.length its.length hi - HT.sIx its.length 0 lo)).toArray:=by
 obtain⟨h1,h2,h3⟩:=qy lo hi its.toArray.size;unfold slicePick;rw[h1,h2,h3];simp only[sliceRange_one,pick_run,List.size_toArray]<;>rfl
noncomputable def G3 (K:PySem.W.Frag):V->Option Int->Option Int->Hp->VK->Prop:=λx lo hi H Q=>∃a xs,x=.ref a/\SqL K H a xs/\∀p,H p=none->Q (.ref p) (upd H p (.lst (oA xs lo hi)))
theorem Bf:SlR X (G3 X.K):=by
 intro pins s σ H x v vl vu lo hi sl Q I rx hs pl pu h;obtain⟨a,xs,rfl,hx,q⟩:=h;cases rx
 obtain⟨its,r,ht,hz⟩:=I.list hx;have hlen:=r.length;refine⟨"list",_,slot_list_getitem.lookup,ht.isList.typeIs,?_⟩;refine wpAny_getItem_list_slice ht.isList hs pl pu .none (by simp) ?_ (by rw[List.size_toArray]<;>omega)
 rw[oB,←hlen];refine⟨.ref s.heap.objs.size,_,I.laid (t':=s.toks) (o:=.lst (oA xs lo hi)) (λb ob q=>Heap.get?_push_of_some _ q) (Nat.le_refl _) ?_,rfl,q _ (I.hok.fresh (Nat.le_refl _))⟩;exact⟨Nat.le_trans (lC xs lo hi) hz,_,0,(r.drop (HT.sIx xs.length 0 lo)).take (HT.sIx xs.length xs.length hi - HT.sIx xs.length 0 lo),Heap.get?_push_size _ rfl⟩
noncomputable def jl:V->Bool
 |.non=>true
 |.bl _=>true
 |.int _=>true
 |.str _=>true
 |_=>false
noncomputable def eqV:V->V->Bool
 |.non,.non=>true
 |.bl a,.bl b=>a == b
 |.bl a,.int b=>(if a then 1 else 0) == b
 |.int a,.bl b=>a == (if b then 1 else 0)
 |.int a,.int b=>a == b
 |.str a,.str b=>a == b
 |_,_=>false
theorem D7 {A:Around}{s:Shared}{y x:V}{u v:Value}(ry:aL y u)(rx:aL x v)(fy:jl y=true)(fx:jl x=true):SeqAt.EqAt A s u v (eqV y x):=by
 cases y with
 |non=>
  cases ry
  cases x with
  |non=>cases rx;exact SeqAt.EqAt.same _
  |bl b=>cases rx;exact SeqAt.EqAt.none_bool b
  |int b=>obtain⟨t,rfl⟩:=rx;exact SeqAt.EqAt.none_int b t
  |str b=>obtain⟨t,rfl⟩:=rx;exact SeqAt.EqAt.none_str b t
  |_=>exact absurd (show false=true from fx) Bool.false_ne_true
 |bl a=>
  cases ry
  cases x with
  |non=>cases rx;exact SeqAt.EqAt.bool_none a
  |bl b=>cases rx;exact SeqAt.EqAt.bool_bool a b
  |int b=>obtain⟨t,rfl⟩:=rx;exact SeqAt.EqAt.bool_int a b t
  |str b=>obtain⟨t,rfl⟩:=rx;exact SeqAt.EqAt.bool_str a b t
  |_=>exact absurd (show false=true from fx) Bool.false_ne_true
 |int a=>
  obtain⟨t',rfl⟩:=ry;cases x with
  |non=>cases rx;exact SeqAt.EqAt.int_none a t'
  |bl b=>cases rx;exact SeqAt.EqAt.int_bool a t' b
  |int b=>obtain⟨t,rfl⟩:=rx;exact SeqAt.EqAt.int_int a t' b t
  |str b=>obtain⟨t,rfl⟩:=rx;exact SeqAt.EqAt.int_str a t' b t
  |_=>exact absurd (show false=true from fx) Bool.false_ne_true
 |str a=>
  obtain⟨t',rfl⟩:=ry;cases x with
  |non=>cases rx;exact SeqAt.EqAt.str_none a t'
  |bl b=>cases rx;exact SeqAt.EqAt.str_bool a t' b
  |int b=>obtain⟨t,rfl⟩:=rx;exact SeqAt.EqAt.str_int a t' b t
  |str b=>obtain⟨t,rfl⟩:=rx;exact SeqAt.EqAt.str_str a t' b t
  |_=>exact absurd (show false=true from fx) Bool.false_ne_true
 |_=>exact absurd (show false=true from fy) Bool.false_ne_true
noncomputable def eqU (x:V)(u:Value):Bool:=match u with
 |.none=>eqV .non x
 |.bool b=>eqV (.bl b) x
 |.int i _=>eqV (.int i) x
 |.str z _=>eqV (.str z) x
 |_=>false
theorem yX {x y:V}{u:Value}(r:aL y u)(f:jl y=true):eqU x u=eqV y x:=by
 cases y with
 |non=>cases r;rfl
 |bl b=>cases r;rfl
 |int i=>obtain⟨t,rfl⟩:=r;rfl
 |str z=>obtain⟨t,rfl⟩:=r;rfl
 |_=>exact absurd (show false=true from f) Bool.false_ne_true
theorem jL {x:V}:∀ {xs:List V}{us:List Value},aQ xs us->xs.all jl=true->us.any (eqU x)=xs.any λy=>eqV y x
 |_,_,.nil,_=>rfl
 |y::xs,u::us,.cons r t,f=>by
  rw[List.all_cons,Bool.and_eq_true]at f;rw[List.any_cons,List.any_cons,yX r f.1,jL t f.2]
theorem iH {A:Around}{s:Shared}{x:V}{v:Value}(rx:aL x v)(fx:jl x=true):∀ {xs:List V}{us:List Value},aQ xs us->xs.all jl=true->∀u∈us,SeqAt.EqAt A s u v (eqU x u)
 |_,_,.nil,_=>λu hu=>by cases hu
 |y::xs,u::us,.cons r t,f=>λu' hu=>by
  rw[List.all_cons,Bool.and_eq_true]at f;rcases List.mem_cons.mp hu with rfl|hu
  ·rw[yX r f.1];exact D7 r rx f.1 fx
  ·exact iH rx fx t f.2 u' hu
noncomputable def inV (x:V)(xs:List V):Bool:=xs.any λy=>eqV y x
noncomputable def rIn (K:PySem.W.Frag)(neg:Bool):R2:=λx y H Q=>∃p xs,y=.ref p/\(SqL K H p xs∨SqT K H p xs)/\jl x=true/\xs.all jl=true/\Q (.bl (if neg then !inV x xs else inV x xs)) H
theorem xJ:OpR X (compareOp .In) (rIn X.K false):=by
 intro pins s σ H x y v u Q I rx ry h;obtain⟨p,xs,rfl,hq,fx,fs,q⟩:=h;cases ry
 rcases hq with hq|hq
 ·obtain⟨its,r,pl,hz⟩:=I.list hq;refine SeqAt.in_listAt (eqU x) pl.isList (λw hw=>iH rx fx r fs w (by simpa using hw)) ⟨.bl _,H,I,rfl,?_⟩;rw[show its.toArray.any (eqU x)=its.any (eqU x) by simp,jL r fs];exact q
 ·obtain⟨its,r,pl,hz⟩:=I.tuple hq;refine SeqAt.in_tupleAt (eqU x) pl (λw hw=>iH rx fx r fs w (by simpa using hw)) ⟨.bl _,H,I,rfl,?_⟩;rw[show its.toArray.any (eqU x)=its.any (eqU x) by simp,jL r fs];exact q
theorem qz:OpR X (compareOp .NotIn) (rIn X.K true):=by
 intro pins s σ H x y v u Q I rx ry h;obtain⟨p,xs,rfl,hq,fx,fs,q⟩:=h;cases ry
 rcases hq with hq|hq
 ·obtain⟨its,r,pl,hz⟩:=I.list hq;refine SeqAt.notIn_listAt (eqU x) pl.isList (λw hw=>iH rx fx r fs w (by simpa using hw)) ⟨.bl _,H,I,rfl,?_⟩;rw[show its.toArray.any (eqU x)=its.any (eqU x) by simp,jL r fs];exact q
 ·obtain⟨its,r,pl,hz⟩:=I.tuple hq;refine SeqAt.notIn_tupleAt (eqU x) pl (λw hw=>iH rx fx r fs w (by simpa using hw)) ⟨.bl _,H,I,rfl,?_⟩;rw[show its.toArray.any (eqU x)=its.any (eqU x) by simp,jL r fs];exact q
theorem q8:bO X (.builtin "len") (λxs H Q=>∃p ys,xs=[.ref p]/\(SqL X.K H p ys∨SqT X.K H p ys)/\Q (.int ys.length) H):=by
 intro pins s σ H xs us Q I r h;obtain⟨p,ys,rfl,hq,q⟩:=h;obtain⟨u,rfl,rx⟩:=gv r;cases rx
 have hn:=kR;rcases hq with hq|hq
 ·obtain⟨its,r',pl,hz⟩:=I.list hq;have hlen:=r'.length;exact Calls.call_len_list pl.isList (by simp only[List.size_toArray]<;>omega) ⟨.int ys.length,H,I.tok _,⟨s.toks+1,by rw[List.size_toArray,hlen]⟩,q⟩
 ·obtain⟨its,r',pl,hz⟩:=I.tuple hq;have hlen:=r'.length;exact len_tuple pl (by simp only[List.size_toArray]<;>omega) ⟨.int ys.length,H,I.tok _,⟨s.toks+1,by rw[List.size_toArray,hlen]⟩,q⟩
theorem qA:bO X (.builtin "len") (λxs H Q=>∃z,xs=[.str z]/\z.length<=sizeLine/\Q (.int z.length) H):=by
 intro pins s σ H xs us Q I r h;obtain⟨z,rfl,hz,q⟩:=h;obtain⟨u,rfl,t,rfl⟩:=gv r;have hn:=kR;exact len_str (by omega) ⟨.int z.length,H,I.tok _,⟨_,rfl⟩,q⟩
theorem bO.or {f:Value}{r r':List V->Hp->VK->Prop}(h:bO X f r)(h':bO X f r'):bO X f (λxs H Q=>r xs H Q∨r' xs H Q):=by
 intro pins s σ H xs us Q I rs q;rcases q with q|q
 ·exact h pins s σ H xs us Q I rs q
 ·exact h' pins s σ H xs us Q I rs q
theorem qB:bO X (.type "list") (λxs H Q=>∃p ys,xs=[.ref p]/\(SqL X.K H p ys∨SqT X.K H p ys)/\∀l,H l=none->Q (.ref l) (upd H l (.lst ys))):=by
 intro pins s σ H xs us Q I r h;obtain⟨p,ys,rfl,hq,q⟩:=h;obtain⟨u,rfl,rx⟩:=gv r;cases rx
 have fin:∀(its:List Value),aQ ys its->ys.length<=sizeLine->∀(h':Heap)(c':Nat),(∀b o',s.heap.get? b=some o'->h'.get? b=some o') ->
   h'.get? s.heap.objs.size=some { cls:=.type "list",dict:=none,data:=.seq its.toArray c',slots:=#[] }->EP X pins σ Q (.ref s.heap.objs.size) { s with heap:=h' }:=λits r' hz h' c' kp e=>
  ⟨.ref s.heap.objs.size,_,I.laid (t':=s.toks) kp (Nat.le_refl _) (show bA X.prog X.w _ h' _ (.lst ys)from ⟨hz,its,c',r',e⟩),rfl,q _ (I.hok.fresh (Nat.le_refl _))⟩
 rcases hq with hq|hq
 ·obtain⟨its,r',pl,hz⟩:=I.list hq;have hlen:=r'.length;obtain⟨o,ho,hc,n,hd⟩:=pl.isList;exact call_list_seq p (.inl rfl) ho hc hd (λh' c' kp e=>fin its r' hz h' c' kp e) (by simp only[List.size_toArray]<;>omega)
 ·obtain⟨its,r',pl,hz⟩:=I.tuple hq;have hlen:=r'.length;obtain⟨o,ho,hc,n,hd⟩:=pl;exact call_list_seq p (.inr rfl) ho hc hd (λh' c' kp e=>fin its r' hz h' c' kp e) (by simp only[List.size_toArray]<;>omega)
theorem oC:bO X (.type "tuple") (λxs H Q=>∃p ys,xs=[.ref p]/\((SqL X.K H p ys/\∀l,H l=none->Q (.ref l) (upd H l (.tup ys)))∨(SqT X.K H p ys/\Q (.ref p) H))):=by
 intro pins s σ H xs us Q I r h;obtain⟨p,ys,rfl,h⟩:=h;obtain⟨u,rfl,rx⟩:=gv r;cases rx
 rcases h with⟨hq,q⟩|⟨hq,q⟩
 ·obtain⟨its,r',pl,hz⟩:=I.list hq;have hlen:=r'.length;refine call_tuple_list pl.isList (λh' kp=>?_) (by simp only[List.size_toArray]<;>omega)
  have I1:Inv X pins σ H { s with heap:=h' }:=I.kept (t':=s.toks) kp;have I2:Inv X pins σ (upd H h'.objs.size (.tup ys)) { s with heap:=h'.push { cls:=.type "tuple",data:=.seq its.toArray } } :=
   I1.laid (t':=s.toks) (λb o e=>Heap.get?_push_of_some _ e) (Nat.le_refl _) (show bA X.prog X.w _ _ _ (.tup ys)from ⟨hz,its,r',IsTup.new _ _⟩)
  exact⟨.ref h'.objs.size,_,I2,rfl,q _ (I1.hok.fresh (Nat.le_refl _))⟩
 ·obtain⟨its,r',pl,hz⟩:=I.tuple hq;exact call_tuple_same pl ⟨.ref p,H,I,rfl,q⟩
noncomputable def tyV (K:PySem.W.Frag)(T:String)(x:V)(H:Hp):Prop:=match x with
 |.str _=>T = "str"
 |.int _=>T = "int"
 |.ref p=>(T = "list"/\∃xs,SqL K H p xs)∨(T = "tuple"/\∃o,K.lookup p=some o/\o.cls=.type "tuple"/\o.dict=none) ∨
   (T = "dict"/\((∃kvs ob,H p=some (.dK kvs ob))∨∃kvs,H p=some (.dT kvs)))∨(T = "set"/\∃S n,H p=some (.set S n))
 |_=>False
theorem D8 {pins:List (Addr×Obj)}{σ:St}{H:Hp}{s:Shared}{T:String}{x:V}{v:Value}(I:Inv X pins σ H s)(r:aL x v)(ty:tyV X.K T x H):
  s.TypeIs v T/\∀a,v=.ref a->∃ob,s.heap.get? a=some ob/\ob.dict=none:=by
 cases x with
 |str z=>
  obtain⟨t,rfl⟩:=r;cases (show T = "str" from ty)
  exact⟨typeIs_str s z t,λ_ e=>nomatch e⟩
 |int i=>
  obtain⟨t,rfl⟩:=r;cases (show T = "int" from ty)
  exact⟨typeIs_int s i t,λ_ e=>nomatch e⟩
 |ref p=>
  cases r
  rcases ty with⟨rfl,xs,hq⟩|⟨rfl,o,hk,hc,hd⟩|⟨rfl,hk⟩|⟨rfl,S,n,hk⟩
  ·obtain⟨its,_,pl,_⟩:=I.list hq;refine⟨pl.isList.typeIs,λa e=>?_⟩;cases e
   obtain⟨o,n,e,c,hd,_⟩:=pl;exact⟨o,e,hd⟩
  ·refine⟨⟨o,I.kIn p o hk,hc⟩,λa e=>?_⟩;cases e
   exact⟨o,I.kIn _ o hk,hd⟩
  ·have z:∃o,s.heap.get? p=some o/\o.ExactDict:=by
    rcases hk with⟨kvs,ob0,hk⟩|⟨kvs,hk⟩
    ·obtain⟨_,_,_,_,_,o,_,_,e,ex,_⟩:=I.hok p _ hk;exact⟨o,e,ex⟩
    ·obtain⟨_,_,_,_,o,_,_,e,ex,_⟩:=I.hok p _ hk;exact⟨o,e,ex⟩
   obtain⟨o,e,ex⟩:=z;refine⟨⟨o,e,ex.1⟩,λa e2=>?_⟩;cases e2
   exact⟨o,e,ex.2.1⟩
  ·obtain⟨o,_,_,_,e,ex,_⟩:=I.hok p _ hk;refine⟨⟨o,e,ex.1⟩,λa e2=>?_⟩;cases e2
   exact⟨o,e,ex.2.1⟩
 |_=>exact False.elim ty
noncomputable def tBM (K:PySem.W.Frag)(T:String)(r:V->List V->Hp->VK->Prop)(to:TE)(t:TA):TE:=λσ H Q=>to σ H λx H1=>tyV K T x H1/\t σ H1 λxs H2=>r x xs H2 Q
variable {o e:Expr}{es:List Expr}{to:TE}{t:TA}{name:Str}{apos cpos:Pos}{T id:String}{r:V->List V->Hp->VK->Prop}
theorem Cy (pa:PlainAttrs T)(slot:Slot T name id)(hty:typeOf (.builtin id)=pure (.type "method_descriptor"))(hm:MtR X id r)(ho:PE X o to)(ha:PA X (e::es) t)
  (hbase:attributeBase o name X.env (eval o X.env)=eval o X.env:=by rfl)
  (hfew:((backTo cpos (starEach (e::es) X.env)).all (λx=>!x.1) && (backToKw cpos (keywordEach [] X.env)).all (λx=>x.1.isSome)
   && decide ((e::es).length+([]:List Keyword).length+(if([]:List Keyword).isEmpty then 0 else 1)<30))=true:=by rfl)
  (hline:(apos.endLine == cpos.line)=true:=by rfl) (hs:starEach (e::es) X.env=(false,eval e X.env)::starEach es X.env:=by rfl) (hplain:(backTo cpos (starEach es X.env)).any (·.1)=false:=by rfl):
  PE X (.Call (.Attribute o name apos) (e::es) [] cpos) (tBM X.K T r to t):=by
 intro pins s σ H Q I h;refine wpAny_Call_method_late hbase hfew hline rfl (thn (ho pins s σ H _ I h) λv s1 ⟨x,H1,I1,r1,ty,q1⟩=>?_);obtain⟨h1,h2⟩:=D8 I1 r1 ty;refine⟨T,id,pa,slot,hty,h1,h2,?_⟩;have hA:=ha cpos pins s1 σ H1 _ I1 q1;rw[hs]at hA ⊢;refine Calls.callWith_builtin (by show(false || (backTo cpos (starEach es X.env)).any (·.1))=false;rw[hplain]<;>rfl) (Calls.evalArgs_plain ?_)
 exact thn hA λus s2 ⟨vs,H2,I2,r2,q2⟩=>hm pins s2 σ H2 x vs v us Q I2 r1 r2 q2
/- xs.append(e),list.index on a module's tuple .. are MtR facts of 06m -/
end
noncomputable def MtM (X:Cx)(id:String)(r:V->List V->Hp->VK->Prop):Prop :=
 ∀(pins:List (Addr×Obj))(s:Shared)(σ:St)(H:Hp)(x:V)(xs:List V)(v:Value)(us:List Value)(Q:VK),Inv X pins σ H s->aL x v->aQ xs us->r x xs H Q ->
  wpAny (model X.prog X.w) X.A (call (.builtin id) (v::us)) (EP X pins σ Q) X.xe s
theorem aQ.one:∀ {x:V}{us:List Value},aQ [x] us->∃u,us=[u]/\aL x u
 |_,_,.cons r .nil=>⟨_,rfl,r⟩
theorem aQ.two:∀ {x y:V}{us:List Value},aQ [x,y] us->∃u v,us=[u,v]/\aL x u/\aL y v
 |_,_,_,.cons r (.cons q .nil)=>⟨_,_,rfl,r,q⟩
theorem aQ.eraseIdx:∀ {xs:List V}{us:List Value}(i:Nat),aQ xs us->aQ (xs.eraseIdx i) (us.eraseIdx i)
 |_,_,_,.nil=>.nil
 |_,_,0,.cons _ t=>t
 |_,_,i+1,.cons r t=>.cons r (aQ.eraseIdx i t)
section
variable {X:Cx}{pins:List (Addr×Obj)}{σ:St}{H:Hp}{s:Shared}{l b:Addr}{xs ys zs:List V}
theorem Inv.lset {its its':List Value}{n:Nat}{f:Array Value->Array Value}{t':Nat}(I:Inv X pins σ H s)(hH:H l=some (.lst xs))
  (e:s.heap.get? l=some { cls:=.type "list",data:=.seq its.toArray n }) (hf:f its.toArray=its'.toArray) (hv:aQ ys its') (hz:ys.length<=sizeLine):
  Inv X pins σ (upd H l (.lst ys)) { s with heap:=s.heap.update l (Obj.mapSeq f),toks:=t' }:=by
 have q:=PySem.IsL.update e f;rw[hf]at q;refine I.write (x:=l) (e:=l) (by rw[hH];exact trivial) (.inl rfl) (λb' u hb hu=>(Heap.get?_update_other s.heap (Obj.mapSeq f) (Ne.symm hb)).trans hu) ⟨_,q⟩ ?_;exact⟨hz,its',_,hv,q⟩
theorem Inv.lnew {its:List Value}{t':Nat}(I:Inv X pins σ H s)(hv:aQ ys its)(hz:ys.length<=sizeLine):
  Inv X pins σ (upd H s.heap.objs.size (.lst ys)) { s with heap:=s.heap.push { cls:=.type "list",data:=.seq its.toArray },toks:=t' } :=
 I.laid (λ_ _ q=>Heap.get?_push_of_some _ q) (Nat.le_refl _) ⟨hz,its,0,hv,Heap.get?_push_size _ rfl⟩
theorem Inv.fresh (I:Inv X pins σ H s):H s.heap.objs.size=none:=I.hok.fresh (Nat.le_refl _)
theorem Inv.lstM (I:Inv X pins σ H s)(hH:H l=some (.lst xs)):xs.length<=sizeLine/\∃(its:List Value)(n:Nat),aQ xs its/\xs.length=its.length/\s.heap.get? l=some { cls:=.type "list",data:=.seq its.toArray n }:=by
 obtain⟨z,its,n,r,e⟩:=I.hok l _ hH;exact⟨z,its,n,r,r.length,e⟩
end
section
variable {X:Cx}
noncomputable def wa:V->List V->Hp->VK->Prop:=λx vs H Q=>∃l xs y,x=.ref l/\vs=[y]/\H l=some (.lst xs)/\xs.length<sizeLine/\Q .non (upd H l (.lst (xs++[y])))
theorem pc:MtM X "list.append" wa:=by
 intro pins s σ H x vs v us Q I rx rv h;obtain⟨l,xs,y,rfl,rfl,hH,hz,q⟩:=h;cases rx
 obtain⟨u,rfl,ru⟩:=rv.one;obtain⟨z,its,n,r,hl,e⟩:=I.lstM hH;refine call_meets F.slot_list_append ⟨_,e,rfl⟩ F.entry_list_append (F.args_list_append_2 _ _) (PySem.list_append l its.toArray n u (by rw[List.size_toArray];omega)) ⟨e,?_⟩;refine⟨.non,_,I.lset (its':=its++[u]) hH e (by simp) (r.append (.cons ru .nil)) ?_,rfl,q⟩;rw[List.length_append,List.length_singleton];omega
end
end L2
namespace Att
open PySem PySem.W PySem.Calls PyProof.Rows
theorem lX {P:Params}{h:Heap}:∀(ns:List Int)(vs:List Value),WellAll P h vs (ns.map WData.int)->IntsAre vs ns:=by
 intro ns;induction ns with
 |nil=>
  intro vs w;rw[List.map_nil]at w;cases w
  exact .nil
 |cons n ns ih=>
  intro vs w;rw[List.map_cons]at w;cases w with
  |cons a b=>
   cases a
   exact .cons _ _ (ih _ b)
theorem xK {l:OpenLaw}{n:Nat}(hn:l.most=some n){P:Params}{h:Heap}{args:List WData}{vals:List Value}
  (hpre:l.row.toRowW.claim.pre args=true) (hwl:WellAll P h vals args):
  ∃a vs ns,vals=[Value.ref a]/\args=[WData.list (ns.map WData.int)]/\h.get? a=some { cls:=.type "list",data:=.seq vs.toArray }/\IntsAre vs ns/\ns.length<=n:=by
 have hsh:WShape.hasAll [] args [.list .int]=true:=(pre_splitW hpre).1;have hc:l.pre.holds [] { args:=args }=true:=(pre_splitW hpre).2;obtain⟨d,r,rfl,h1,h2⟩:=hasAllW_cons hsh;obtain rfl:=hasAllW_nil h2;obtain⟨xs,rfl,h3⟩:=hasW_list h1;obtain⟨ns,rfl⟩:=items_int h3;have hlen:ns.length<=n:=by
  unfold OpenLaw.pre at hc;have h4:(WTm.not (.lt (.lit (.int (n:Int))) (.len (.arg 0)))).holds [] { args:=[.list (ns.map .int)] }=true:=by
   have h4:=(holds_andW hc).1;rw[hn]at h4;exact h4
  have h5:=condW_of h4 (w_not (w_lt w_lit (w_len_list (w_arg rfl))));rw[List.length_map]at h5;refine Nat.le_of_not_lt λq=>?_;have q':(n:Int)<((ns.length:Nat):Int):=by omega
  first
   | (rw[decide_eq_true q']at h5;exact absurd h5 (by decide))
   | (simp at h5;omega)
 cases hwl with
 |cons w1 w2=>
  cases w2
  cases w1 with
  |list ho hall=>exact⟨_,_,ns,rfl,rfl,ho,lX ns _ hall,hlen⟩
theorem xL (l:OpenLaw)(args:List WData):l.row.toRowW.claim.post args (.bool true) args=true :=
 postW_of (r:=l.row.toRowW) (X:=(true == true))
  (show WShape.has [] (.bool true) .bool=true by first|rfl|decide|simp[WShape.has,WShape.arms,WShape.armsAll])
  (show(WTm.eq .res (.lit (.bool true))).value [] { args:=args,res:=some (.bool true),after:=args }=some (.bool (true == true))from w_eq_bool (w_res rfl) w_lit) rfl
theorem rT {l:OpenLaw}{n:Nat}{q:Program}{loose:List Str}{XP:(Str->Option Value)->Heap->Prop}{YP:World->Heap->Prop}{d:DefRec}
  (hn:l.most=some n) (hdf:d.params.defaults=[])
  (call:∀(w:World)(s₀ s₁:Shared)(mg mb:Str->Option Value)(fa:Addr)(o:Obj)(pm cd doc:Value)(a:Addr)(vs:List Value)(ns:List Int),
   Ground q loose [] XP w s₀ mg mb s₁.heap->YP w s₁.heap ->
   s₁.heap.get? fa=some o->o.data=.func (docDef d.name d.params d.body d.scope pm cd doc)->s₁.heap.CodeRec cd d.name->mg d.name=some (.ref fa) ->
   s₁.heap.get? a=some { cls:=.type "list",data:=.seq vs.toArray }->IntsAre vs ns->ns.length<=n->s₁.gens=#[] ->
   codeAny (model l.prog w) callerA (.call (.ref fa) ⟨[.ref a],[]⟩) (λr s'=>r=.ok (.ret (.bool true))/\OldK s₁.heap s'.heap/\s'.os=s₁.os/\AllBare s'.gens) s₁):
  WalkO q loose XP YP l.row.toRowW d [] (λf vs=>PySem.call f vs):=by
 intro w s₀ s₁ mg mb G Y fa o pm cd doc dV kV ho hd hcd hD hmg hg args vals as hpre hlay hrd hwl hlo;obtain rfl:dV=.none:=Dflts.none hD hdf;obtain rfl:kV=.none:=Dflts.noKw hD;obtain⟨a,vs,ns,rfl,rfl,hobj,hints,hlen⟩:=xK hn hpre hwl;refine enter_call (codeAny_mono (call w s₀ s₁ mg mb fa o pm cd doc a vs ns G Y ho (fd_plain hd) hcd hmg hobj hints hlen hg) λr s' hq=>?_);obtain⟨rfl,h2,h3,h4⟩:=hq;exact⟨.inl ⟨.bool true,.bool true,[],rfl,λ_=>rfl,.bool true,xL l _,λ_=>⟨List.Pairwise.nil,λ_ hm=>(nomatch hm)⟩⟩,h2,h3,h4⟩
section
variable {prog:Program}{w:World}{A:Around}{E:Value->Shared->Prop}{s:Shared}{K:Frag}
theorem Fp {R:Result->Shared->Prop}{C fI:Addr}{aC:List Value}{kw:List (Str×Value)}
  (X:K.In s.heap) (hm:makesIn K C=true) (hi:findIn K (.ref C) "__init__" = some (some (.ref fI))) (hf:isFn K (.ref fI)=true)
  (h:codeAny (model prog w) (A.under (.builtin "type.__call__" ⟨.ref C::aC,kw⟩)) (.call (.ref fI) ⟨.ref (s.heap.objs.size+1)::aC,kw⟩) (InitBack (s.heap.objs.size+1) R)
   { s with heap:=(s.heap.push emptyDict).push (instObj C s.heap.objs.size) }):codeAny (model prog w) A (.call (.ref C) ⟨aC,kw⟩) R s:=by
 obtain⟨hh,g,d,t,os⟩:=s;exact make_core (makes_of X hm) (looks_findIn X hi) (λself=>bind_fn X self (beq_iff_eq.mp hf)) (.inl rfl) h
theorem E3 {x C:Addr}{ox:Obj}{es:List DictEntry}{n:Nat}{name:Str}{expr:Bool}{v:Value}{Q:Value->Shared->Prop}
  (X:K.In s.heap) (I:PySem.W.InstAt s.heap x ox C (some (dictOf es n))) (hg:plainGet K C name=true) (hh:hasDictIn K C=true) (ha:findIn K (.ref C) name=some none)
  (hl:getL name es=some (some v)) (hv:handedIn v=true) (h:Q v { s with toks:=s.toks+1 }):wpAny (model prog w) A (getAttr (.ref x) name expr) Q E s :=
 get_value X I (plainGet_of hg).1 (findObj_own hh ha rfl hl) hv h
noncomputable def G4 (h:Heap)(L d:Addr):List (Addr×Obj):=(List.range h.objs.size).filterMap λa=>if a=L∨a=d then none else (h.get? a).map λo=>(a,o)
end
end Att
namespace L2
open PySem PySem.Spec PyProof.Rows
theorem gz:∀ {vs:List Value}{ns:List Int},IntsAre vs ns->aQ (ns.map V.int) vs
 |_,_,.nil=>.nil
 |_,_,.cons n t h=>.cons ⟨t,rfl⟩ (gz h)
noncomputable def eW (s:Stmt):Arguments:=match s with
 |.FunctionDef _ a _ _ _ _ _ _ _ _=>a
 |_=>{ posonlyargs:=[],args:=[],vararg:=none,kwonlyargs:=[],kw_defaults:=[],kwarg:=none,defaults:=[] }
noncomputable def cm (s:Stmt):List Stmt:=match s with
 |.FunctionDef _ _ b _ _ _ _ _ _ _=>b
 |_=>[]
noncomputable def aJ (s:Stmt):Scope:=match s with
 |.FunctionDef _ _ _ _ _ _ sc _ _ _=>sc
 |_=>{ kind:=.function,names:=[],isGenerator:=false,isCoroutine:=false }
noncomputable abbrev CX0:CXT:=λ_ _ _ _ _ _=>False
noncomputable abbrev E0:XK:=λ_ _ _=>False
theorem Fq {X:Cx}:uE CX0 X E0:=λ_ _ _ _ _ _ _ h=>h.elim
structure Fun (K:PySem.W.Frag)(x qual:Str)(st:Stmt)(f:Addr)(fd:FuncData):Prop where
 ex:∃(oc:Value)(od:Option Addr)(kV doc pm:Value)(an:Option Addr)(cdv ct:Value)(osl:Array (Option Value)),
  fd=PySem.W.fnOf x qual (eW st) (cm st) (aJ st) .none kV doc pm an cdv ct/\K.lookup f=some ⟨oc,od,.func fd,osl⟩/\PySem.W.codeIn K cdv qual=true
 kp:PySem.W.keepIn K (.ref f)=true
section
variable {P:Program}{w:World}{K:PySem.W.Frag}{mg:Str->Option Value}{base:Heap}
theorem Fun.ok {x qual:Str}{st:Stmt}{f:Addr}{fd:FuncData}{N ps:List Str}{k:Nat}{sp:Sp}(F:Fun K x qual st f fd)(S:FnScope N ps (aJ st))(len:∀vs H Q E,sp vs H Q E->vs.length=ps.length)
  (hbody:∀(cdv:Value)(A:Around)(outer:List Env)(s:Shared)(H:Hp)(vs:List V)(Q:VK)(E:XK),Room k (A.deeper (envOfC qual (aJ st) s.heap.objs.size f cdv))->sp vs H Q E ->
   ∃t,PSs (lW CX0 P w K mg base N qual (aJ st) f cdv A outer s H E).nox (cm st) t/\t { nx:=λ_ H'=>Q .non H',rt:=Q } (i6 N vs) H):FnOk P w K mg base CX0 (k+1) f fd ps sp:=by
 obtain⟨oc,od,kV,doc,pm,an,cdv,ct,osl,rfl,lk,hcd⟩:=F.ex;refine Cv lk hcd S len λA outer s H vs Q E hr hsp=>?_;obtain⟨t,h,q⟩:=hbody cdv A outer s H vs Q E hr hsp;exact⟨t,h.nox,q⟩
theorem Fun.binds {x qual:Str}{st:Stmt}{f:Addr}{fd:FuncData}{ps:List Str}(F:Fun K x qual st f fd)
  (h:∀(kV doc pm:Value)(an:Option Addr)(cdv ct:Value)(us:List Value),us.length=ps.length->bindArgs (PySem.W.fnOf x qual (eW st) (cm st) (aJ st) .none kV doc pm an cdv ct) ⟨us,[]⟩=pure (ps.zip us)):oS K fd ps []:=by
 obtain⟨oc,od,kV,doc,pm,an,cdv,ct,osl,rfl,lk,hcd⟩:=F.ex;exact .all (h kV doc pm an cdv ct)
theorem D9 {x qual:Str}{st:Stmt}{f:Addr}{oc:Value}{od an:Option Addr}{osl:Array (Option Value)}{kV doc pm cdv ct:Value}(l:K.lookup f=some ⟨oc,od,.func (PySem.W.fnOf x qual (eW st) (cm st) (aJ st) .none kV doc pm an cdv ct),osl⟩)
  (c:PySem.W.codeIn K cdv qual=true) (k:PySem.W.keepIn K (.ref f)=true):Fun K x qual st f (PySem.W.fnOf x qual (eW st) (cm st) (aJ st) .none kV doc pm an cdv ct):=⟨⟨oc,od,kV,doc,pm,an,cdv,ct,osl,rfl,l,c⟩,k⟩
end
noncomputable def aM (H H':Hp):Prop:=∀b o,H b=some o->H' b=some o
theorem aM.refl (H:Hp):aM H H:=λ_ _ h=>h
theorem aM.trans {H H1 H2:Hp}(a:aM H H1)(b:aM H1 H2):aM H H2:=λc o h=>b c o (a c o h)
theorem aM.free {H H':Hp}(e:aM H H'){l:Addr}(h:H' l=Option.none):H l=Option.none:=by
 cases q:H l with
 |none=>rfl
 |some o=>
  rw[e l o q]at h;cases h
theorem aM.seq {K:PySem.W.Frag}{H H':Hp}{a:Addr}{xs:List V}(e:aM H H')(h:SqL K H a xs):SqL K H' a xs:=by
 rcases h with (h|⟨o,h⟩)|h
 ·exact .inl (.inl (e _ _ h))
 ·exact .inl (.inr ⟨o,e _ _ h⟩)
 ·exact .inr h
section
variable {κ:Type}[DecidableEq κ]
noncomputable def iD (kvs:List (κ×V))(k:κ):Option V:=(kvs.find? λkv=>decide (kv.1=k)).map (·.2)
noncomputable def jM (kvs:List (κ×V))(k:κ)(v:V):List (κ×V) :=
 if(kvs.any λkv=>decide (kv.1=k))=true then kvs.map (λkv=>if kv.1=k then (kv.1,v)else kv)else kvs++[(k,v)]
theorem jN {p:κ×V}{r:List (κ×V)}{k:κ}(e:p.1=k):iD (p::r) k=some p.2:=by simp[iD,List.find?_cons,e]
theorem jO {p:κ×V}{r:List (κ×V)}{k:κ}(e:¬p.1=k):iD (p::r) k=iD r k:=by simp[iD,List.find?_cons,e]
theorem rV (k:κ):∀kvs:List (κ×V),(kvs.any λkv=>decide (kv.1=k))=(iD kvs k).isSome
 |[]=>rfl
 |p::r=>by
  rw[List.any_cons];by_cases e:p.1=k
  ·simp only[jN e,decide_eq_true e,Bool.true_or,Option.isSome_some]
  ·rw[jO e,decide_eq_false e,Bool.false_or];exact rV k r
theorem iI (kvs:List (κ×V))(k:κ)(v:V):(jM kvs k v).length<=kvs.length+1:=by
 unfold jM;split
 ·rw[List.length_map];omega
 ·rw[List.length_append,List.length_cons,List.length_nil];omega
theorem jj.isSome_eq {o:Option V}{u:Option Value}(r:jj o u):o.isSome=u.isSome:=by
 cases o with
 |none=>cases u with
  |none=>rfl
  |some _=>exact(show False from r).elim
 |some _=>cases u with
  |none=>exact(show False from r).elim
  |some _=>rfl
theorem jj.getD {o:Option V}{u:Option Value}{d:V}{d':Value}(r:jj o u)(rd:aL d d'):aL (o.getD d) (u.getD d'):=by
 cases o with
 |none=>cases u with
  |none=>exact rd
  |some _=>exact(show False from r).elim
 |some _=>cases u with
  |none=>exact(show False from r).elim
  |some _=>exact r
theorem KV.val {kvs:List (κ×V)}{vs:List (κ×Value)}(r:KV kvs vs)(k:κ):jj (iD kvs k) (valueAt vs k):=by
 unfold KV at r;induction r with
 |nil=>exact True.intro
 |@cons p q ps qs h t ih=>
  obtain⟨h1,h2⟩:=h;by_cases e:p.1=k
  ·have e':q.1=k:=h1.symm.trans e;have b:valueAt (q::qs) k=some q.2:=by simp[valueAt,List.find?_cons,e']
   rw[jN e,b];exact h2
  ·have e':¬q.1=k:=λz=>e (h1.trans z);have b:valueAt (q::qs) k=valueAt qs k:=by simp[valueAt,List.find?_cons,e']
   rw[jO e,b];exact ih
theorem KV.any {kvs:List (κ×V)}{vs:List (κ×Value)}(r:KV kvs vs)(k:κ):(kvs.any λkv=>decide (kv.1=k))=vs.any λkv=>decide (kv.1=k):=by
 unfold KV at r;induction r with
 |nil=>rfl
 |cons h t ih=>rw[List.any_cons,List.any_cons,ih,h.1]
theorem KV.repl {kvs:List (κ×V)}{vs:List (κ×Value)}(r:KV kvs vs)(k:κ){y:V}{u:Value}(ry:aL y u):
  KV (kvs.map λkv=>if kv.1=k then (kv.1,y)else kv) (vs.map λkv=>if kv.1=k then (kv.1,u)else kv):=by
 unfold KV at r ⊢;induction r with
 |nil=>exact .nil
 |@cons p q ps qs h t ih=>
  rw[List.map_cons,List.map_cons];refine .cons ?_ ih;obtain⟨h1,h2⟩:=h;by_cases e:p.1=k
  ·rw[if_pos e,if_pos (h1.symm.trans e)];exact⟨h1,ry⟩
  ·rw[if_neg e,if_neg (λz=>e (h1.trans z))];exact⟨h1,h2⟩
theorem KV.put {kvs:List (κ×V)}{vs:List (κ×Value)}(r:KV kvs vs)(k:κ){y:V}{u:Value}(ry:aL y u):KV (jM kvs k y) (stored vs k u):=by
 unfold jM stored;rw[r.any k];by_cases e:(vs.any λkv=>decide (kv.1=k))=true
 ·rw[if_pos e,if_pos e];exact r.repl k ry
 ·rw[if_neg e,if_neg e];exact Paired.snoc r ⟨rfl,ry⟩
theorem KV.length {kvs:List (κ×V)}{vs:List (κ×Value)}(r:KV kvs vs):kvs.length=vs.length:=Paired.length r
end
theorem m9 {P:Program}{w:World}{k:Key}{u:Value}(r:aL (kV k) u):(cj P w).is k u=true:=by
 cases k with
 |inl i=>obtain⟨t,e⟩:=(show ∃t,u=Value.int i t from r);subst e;exact rK P w i t
 |inr x=>obtain⟨t,e⟩:=(show ∃t,u=Value.str x t from r);subst e;exact rL P w x t
theorem pd {P:Program}{w:World}:∀ {ks:List Key}{us:List Value},aQ (ks.map kV) us->ItemsAre (cj P w) ks us
 |[],_,r=>by rw[List.map_nil]at r;cases r;exact .nil
 |k::ks,_,r=>by
  rw[List.map_cons]at r;cases r with
  |cons h t=>exact .cons (m9 h) (pd t)
noncomputable abbrev KT (H:Hp):List (List Key×V)->List (List Key×Addr×Value)->Prop:=Paired λp q=>p.1=q.1/\H q.2.1=some (.tup (p.1.map kV))/\aL p.2 q.2.2
theorem KT.val {H:Hp}{kvs:List (List Key×V)}{xs:List (List Key×Addr×Value)}(r:KT H kvs xs)(k:List Key):jj (iD kvs k) ((atKey xs k).map (·.2)):=by
 induction r with
 |nil=>exact True.intro
 |@cons p q ps qs h t ih=>
  obtain⟨h1,_,h2⟩:=h;by_cases e:p.1=k
  ·have e':q.1=k:=h1.symm.trans e;have b:atKey (q::qs) k=some q.2:=by simp[atKey,List.find?_cons,e']
   rw[jN e,b];exact h2
  ·have e':¬q.1=k:=λz=>e (h1.trans z);have b:atKey (q::qs) k=atKey qs k:=by simp[atKey,List.find?_cons,e']
   rw[jO e,b];exact ih
theorem KT.repl {H:Hp}{kvs:List (List Key×V)}{xs:List (List Key×Addr×Value)}(r:KT H kvs xs)(k:List Key){y:V}{u:Value}(ry:aL y u):
  KT H (kvs.map λkv=>if kv.1=k then (kv.1,y)else kv) (xs.map (putAt k u)):=by
 induction r with
 |nil=>exact .nil
 |@cons p q ps qs h t ih=>
  rw[List.map_cons,List.map_cons];refine .cons ?_ ih;obtain⟨h1,h2,h3⟩:=h;unfold putAt;by_cases e:p.1=k
  ·rw[if_pos e,if_pos (h1.symm.trans e)];exact⟨h1,h2,ry⟩
  ·rw[if_neg e,if_neg (λz=>e (h1.trans z))];exact⟨h1,h2,h3⟩
theorem KT.put {H:Hp}{kvs:List (List Key×V)}{xs:List (List Key×Addr×Value)}(r:KT H kvs xs)(k:List Key){b:Addr}{y:V}{u:Value}(hb:H b=some (.tup (k.map kV)))(ry:aL y u):
  KT H (jM kvs k y) (storedH xs k b u):=by
 have e:(kvs.any λkv=>decide (kv.1=k))=(atKey xs k).isSome:=by
  rw[rV,(r.val k).isSome_eq,Option.isSome_map]
 unfold jM storedH;rw[e];by_cases q:(atKey xs k).isSome=true
 ·rw[if_pos q,if_pos q];exact r.repl k ry
 ·rw[if_neg q,if_neg q];exact Paired.snoc r ⟨rfl,hb,ry⟩
theorem KT.keeps {H H':Hp}{kvs:List (List Key×V)}{xs:List (List Key×Addr×Value)}(r:KT H kvs xs)(ht:∀b ys,H b=some (.tup ys)->H' b=some (.tup ys)):KT H' kvs xs :=
 Paired.mapP r λ_ _ z=>⟨z.1,ht _ _ z.2.1,z.2.2⟩
section
variable {P:Program}{w:World}{H:Hp}{h:Heap}{a:Addr}
theorem Cz {u:HO}(ok:HOk P w H h)(e:Rd H a u):bA P w H h a u:=e.ok ok
theorem uJ {kvs:List (Key×V)}{ob:Obj}(ok:HOk P w H h)(e:H a=some (.dK kvs ob)):h.get? a=some ob:=And.left (show bA P w H h a (.dK kvs ob)from ok a _ e)
theorem mB {kvs:List (Key×V)}{ob:Obj}(ok:HOk P w H h)(e:Rd H a (.dK kvs ob)):kvs.length<=sizeLine/\(a == sysModules)=false/\∃vs,KV kvs vs/\h.DictOf (cj P w) a vs :=
 And.right (show bA P w H h a (.dK kvs ob)from Cz ok e)
theorem rW {kvs:List (Key×V)}{ob:Obj}(ok:HOk P w H h)(e:H a=some (.dK kvs ob)):kvs.length<=sizeLine/\(a == sysModules)=false/\∃vs,KV kvs vs/\h.DictOf (cj P w) a vs:=mB ok (.inl e)
theorem kU {ks:List Key}(ok:HOk P w H h)(e:H a=some (.tup (ks.map kV))):(tupleKind (cj P w)).is h ks a:=by
 obtain⟨_,its,r,o,h1,h2,n,h3⟩:=(show bA P w H h a (.tup (ks.map kV))from ok a _ e);exact⟨o,its.toArray,n,h1,h2,h3,by simpa using pd r⟩
theorem mC {kvs:List (List Key×V)}(ok:HOk P w H h)(e:Rd H a (.dT kvs)):kvs.length<=sizeLine/\(a == sysModules)=false /\
  ∃xs,KT H kvs xs/\h.DictOfH (tupleKind (cj P w)) a xs:=by
 obtain⟨z,y,xs,r,o,es,ep,h1,h2,h3,h4,h5⟩:=(show bA P w H h a (.dT kvs)from Cz ok e);refine⟨z,y,xs,r,o,es,ep,h1,h2,h3,h4,λx hx=>?_,h5⟩;have all:∀ {l:List (List Key×V)}{m:List (List Key×Addr×Value)},KT H l m->∀x∈m,(tupleKind (cj P w)).is h x.1 x.2.1:=by
  intro l m q;induction q with
  |nil=>intro x hx;exact nomatch hx
  |@cons p q ps qs hq t ih=>
   intro x hx;rcases List.mem_cons.mp hx with e|hx
   ·subst e;exact kU ok (by rw[←hq.1];exact hq.2.1)
   ·exact ih x hx
 exact all r x hx
theorem Fr {kvs:List (List Key×V)}(ok:HOk P w H h)(e:H a=some (.dT kvs)):kvs.length<=sizeLine/\(a == sysModules)=false /\
  ∃xs,KT H kvs xs/\h.DictOfH (tupleKind (cj P w)) a xs:=mC ok (.inl e)
end
noncomputable def mD (H:Hp)(a:Addr)(y:V)(r:Option V):Prop :=
 (∃kvs k ob,Rd H a (.dK kvs ob)/\y=kV k/\r=iD kvs k)∨∃kvs k b,Rd H a (.dT kvs)/\y=.ref b/\H b=some (.tup (k.map kV))/\r=iD kvs k
noncomputable def Fs (H:Hp)(a:Addr)(y v:V)(Q:Hp->Prop):Prop :=
 (∃kvs k ob,H a=some (.dK kvs ob)/\y=kV k/\kvs.length<sizeLine/\∀ob',Q (upd H a (.dK (jM kvs k v) ob'))) ∨
 ∃kvs k b,H a=some (.dT kvs)/\y=.ref b/\H b=some (.tup (k.map kV))/\kvs.length<sizeLine/\Q (upd H a (.dT (jM kvs k v)))
theorem mD.t {H:Hp}{a b:Addr}{kvs:List (List Key×V)}{k:List Key}(e:H a=some (.dT kvs))(eb:H b=some (.tup (k.map kV))):mD H a (.ref b) (iD kvs k):=.inr ⟨kvs,k,b,.inl e,rfl,eb,rfl⟩
section
variable {X:Cx}{pins:List (Addr×Obj)}{σ:St}{H:Hp}{s:Shared}{a:Addr}{y v:V}{u r:Value}{o:Option V}{A:Around}{E:Value->Shared->Prop}
theorem Inv.big (I:Inv X pins σ H s):sysModules<s.heap.objs.size:=by
 have h:mainGlobals<s.heap.objs.size:=(I.mod.glob.keeps I.bk).lt;exact Nat.lt_trans (by decide) h
theorem xM {Q:Value->Shared->Prop}(hu:A.units+1<cLine)(I:Inv X pins σ H s)(g:mD H a y (some v))(ry:aL y u)(h:∀w' s',Inv X pins σ H s'->aL v w'->Q w' s'):
  wpAny (model X.prog X.w) A (getItem (.ref a) u) Q E s:=by
 rcases g with⟨kvs,k,ob,e,ey,l⟩|⟨kvs,k,b,e,ey,eb,l⟩
 ·subst ey;obtain⟨z,hd,vs,rel,dd⟩:=mB I.hok e;obtain⟨w',hw,rw'⟩:=jj.some_of (v:=v) (o:=valueAt vs k) (by rw[l];exact rel.val k);exact wpAny_getItem_of (m9 ry) dd.mapOf hw (h w' _ (I.tok _) rw')
 ·subst ey;cases (show u=Value.ref b from ry)
  obtain⟨z,hd,xs,rel,dd⟩:=mC I.hok e;obtain⟨w',hw,rw'⟩:=jj.some_of (v:=v) (o:=(atKey xs k).map (·.2)) (by rw[l];exact rel.val k);obtain⟨p,hp,hp2⟩:=oY hw;refine wpAny_getItem_heap (tupleKind_room_in1 hu) (kU I.hok eb) dd hp ?_;rw[hp2];exact h w' _ (I.tok _) rw'
theorem G5 {Q:Value->Shared->Prop}(hu:A.units+1<cLine)(I:Inv X pins σ H s)(g:mD H a y o)(ry:aL y u)(h:∀s',Inv X pins σ H s'->Q (.bool o.isSome) s'):
  wpAny (model X.prog X.w) A (compareOp .In u (.ref a)) Q E s:=by
 rcases g with⟨kvs,k,ob,e,ey,l⟩|⟨kvs,k,b,e,ey,eb,l⟩
 ·subst ey;obtain⟨z,hd,vs,rel,dd⟩:=mB I.hok e;refine wpAny_in_of (m9 ry) hd dd.mapOf ?_;rw[←(rel.val k).isSome_eq,←l];exact h _ (I.tok _)
 ·subst ey;cases (show u=Value.ref b from ry)
  obtain⟨z,hd,xs,rel,dd⟩:=mC I.hok e;refine wpAny_in_heap (tupleKind_room_in1 hu) (kU I.hok eb) hd dd ?_;have q:=(rel.val k).isSome_eq;rw[Option.isSome_map]at q;rw[←q,←l];exact h _ (I.tok _)
theorem Bg {Q:Value->Shared->Prop}(hu:A.units+1<cLine)(I:Inv X pins σ H s)(g:mD H a y o)(ry:aL y u)(h:∀s',Inv X pins σ H s'->Q (.bool (!o.isSome)) s'):
  wpAny (model X.prog X.w) A (compareOp .NotIn u (.ref a)) Q E s:=by
 rcases g with⟨kvs,k,ob,e,ey,l⟩|⟨kvs,k,b,e,ey,eb,l⟩
 ·subst ey;obtain⟨z,hd,vs,rel,dd⟩:=mB I.hok e;refine wpAny_notIn_of (m9 ry) hd dd.mapOf ?_;rw[←(rel.val k).isSome_eq,←l];exact h _ (I.tok _)
 ·subst ey;cases (show u=Value.ref b from ry)
  obtain⟨z,hd,xs,rel,dd⟩:=mC I.hok e;refine wpAny_notIn_heap (tupleKind_room_in1 hu) (kU I.hok eb) hd dd ?_;have q:=(rel.val k).isSome_eq;rw[Option.isSome_map]at q;rw[←q,←l];exact h _ (I.tok _)
theorem qC {h':Heap}{t':Nat}{ob:HO}(I:Inv X pins σ H s)(mu:Mut (H a))(hs:Heap.SameBut a s.heap h')(he:∃q,h'.get? a=some q)(new:bA X.prog X.w (upd H a ob) h' a ob):
  Inv X pins σ (upd H a ob) { s with heap:=h',toks:=t' } :=
 I.write (x:=a) (e:=a) mu (.inl rfl) (λb q hb z=>(hs.2 b hb).trans z) he new
theorem yY {P:Program}{w:World}{H':Hp}{h':Heap}{kvs:List (Key×V)}{vs:List (Key×Value)}(z:kvs.length<=sizeLine)(hd:(a == sysModules)=false)(rel:KV kvs vs)(dd:h'.DictOf (cj P w) a vs){ob:Obj}(hg:h'.get? a=some ob):
  bA P w H' h' a (.dK kvs ob):=⟨hg,z,hd,vs,rel,dd⟩
theorem xN {R:Hp->Prop}{Q:Unit->Shared->Prop}(hu:A.units+1<cLine)(I:Inv X pins σ H s)(g:Fs H a y v R)(ry:aL y u)(rv:aL v r)(h:∀H' s',R H'->Inv X pins σ H' s'->Q () s'):
  wpAny (model X.prog X.w) A (setItem (.ref a) u r) Q E s:=by
 rcases g with⟨kvs,k,ob,e,ey,l,eH⟩|⟨kvs,k,b,e,ey,eb,l,eH⟩
 ·subst ey;obtain⟨z,hd,vs,rel,dd⟩:=rW I.hok e;have hz:vs.length<=sizeLine:=by rw[←rel.length];exact z
  have hl:(jM kvs k v).length<=sizeLine:=by have:=iI kvs k v;omega
  refine wpAny_setItem_pairs (hsz:=hz) (m9 ry) dd λh' dd' hs=>?_;obtain⟨q,hq⟩:∃q,h'.get? a=some q:=let ⟨q,_,_,hq,_⟩:=dd';⟨q,hq⟩;exact h _ _ (eH q) (qC I (by rw[e];exact True.intro) hs ⟨q,hq⟩ (yY hl hd (rel.put k rv) dd' hq))
 ·subst ey;cases (show u=Value.ref b from ry)
  obtain⟨z,hd,xs,rel,dd⟩:=Fr I.hok e;have hz:xs.length<=sizeLine:=by rw[←Paired.length rel];exact z
  have hl:(jM kvs k v).length<=sizeLine:=by have:=iI kvs k v;omega
  refine wpAny_setItem_heap (hsz:=hz) (tupleKind_room_in1 hu) (kU I.hok eb) dd λh' dd' hs=>h _ _ eH ?_;obtain⟨q,es,ep,hq,h2,h3,h4,_,h5⟩:=dd';refine qC I (by rw[e];exact True.intro) hs ⟨q,hq⟩ ⟨hl,hd,_,(rel.put k eb rv).keeps λc ys ec=>?_,q,es,ep,hq,h2,h3,h4,h5⟩;rw[aB (EH ec e (λz=>nomatch z))];exact ec
end
noncomputable def DA (i:Expr):Prop:=∀ov iv,subscripted i false ov iv=operate [ov,iv] (getItem ov iv)
theorem Bh {prog:Program}{w:World}{A:Around}{E:Value->Shared->Prop}{s:Shared}{env:Env}{value slice:Expr}{pos:Pos}{T id:String}{Q:Value->Shared->Prop}
  (hl:typeLookup (.type T) "__getitem__" = pure (some (.builtin id))) (hs:DA slice)
  (h:wpAny (model prog w) A (eval value env) (λo s₁=>wpAny (model prog w) A (eval slice env) (λi s₂=>s₂.TypeIs o T/\wpAny (model prog w) A (getItem o i) Q E s₂) E s₁) E s):
  wpAny (model prog w) A (eval (.Subscript value slice pos) env) Q E s:=by
 refine Subscript_ (wpAny_mono h (λo s₁ h₁=>wpAny_mono h₁ (λi s₂ h₂=>?_) λ_ _ x=>x) λ_ _ x=>x);obtain⟨hT,h₂⟩:=h₂;unfold subscriptTail;refine wX ?_;rw[getitemInPython_of_ne hT.not_modules];refine wX (wpAny_specialOf hT hl ?_);have fin:wpAny (model prog w) A (subscripted slice false o i) (λr s₃=>wpAny (model prog w) A (letTemporaryGo value o r>>=λ_=>pure r) Q E s₃) E s₂:=by
  rw[hs o i];exact wpAny_operating (wpAny_mono h₂ (λr s₃ h₃=>wX (wpAny_letTemporaryGo (wY h₃))) λ_ _ x=>x)
 first
  |exact wY (wX fin)
  |exact wX (wY (wX fin))
  |exact wX fin
theorem rX {X:Cx}{pins:List (Addr×Obj)}{σ:St}{H:Hp}{s:Shared}{a:Addr}{y:V}{o:Option V}(I:Inv X pins σ H s)(g:mD H a y o):s.TypeIs (.ref a) "dict":=by
 rcases g with⟨kvs,k,ob0,e,_,_⟩|⟨kvs,k,b,e,_,_,_⟩
 ·obtain⟨_,_,vs,_,dd⟩:=mB I.hok e;exact dd.typeIs
 ·obtain⟨_,_,xs,_,dd⟩:=mC I.hok e;exact dd.typeIs
noncomputable def Ft (td ty:TE):TE:=λσ H Q=>td σ H λx H1=>ty σ H1 λy H2=>∃a v,x=.ref a/\mD H2 a y (some v)/\Q v H2
noncomputable def G6 (ty td:TE):TE:=λσ H Q=>ty σ H λy H1=>td σ H1 λx H2=>∃a o,x=.ref a/\mD H2 a y o/\Q (.bl o.isSome) H2
noncomputable def Bi (ty td:TE):TE:=λσ H Q=>ty σ H λy H1=>td σ H1 λx H2=>∃a o,x=.ref a/\mD H2 a y o/\Q (.bl (!o.isSome)) H2
noncomputable def yZ (td ty tv:TE):TS:=λD σ H=>tv σ H λv H1=>td σ H1 λx H2=>ty σ H2 λy H3=>∃a,x=.ref a/\Fs H3 a y v (D.nx σ)
section
variable {X:Cx}{o i e value:Expr}{pos pos' tpos:Pos}{td ty tv:TE}
theorem Bj (hu:X.A.units+1<cLine)(ho:PE X o td)(hi:PE X i ty)(hs:DA i):PE X (.Subscript o i pos) (Ft td ty):=by
 intro pins s σ H Q I h;refine Bh PySem.F.slot_dict_getitem.lookup hs (thn (ho pins s σ H _ I h) λu s1 ⟨x,H1,I1,rx,q1⟩=>thn (hi pins s1 σ H1 _ I1 q1) λiv s2 ⟨y,H2,I2,ry,a,v,ex,g,q2⟩=>?_);subst ex;obtain rfl:u=Value.ref a:=rx;exact⟨rX I2 g,xM hu I2 g ry λw' s3 I3 rw'=>⟨v,H2,I3,rw',q2⟩⟩
theorem DB (hu:X.A.units+1<cLine)(hi:PE X i ty)(ho:PE X o td):PC X .In i o (G6 ty td):=by
 intro pins s σ H Q I h;refine thn (hi pins s σ H _ I h) λiv s1 ⟨y,H1,I1,ry,q1⟩=>thn (ho pins s1 σ H1 _ I1 q1) λu s2 ⟨x,H2,I2,rx,a,ov,ex,g,q2⟩=>?_;subst ex;obtain rfl:u=Value.ref a:=rx;exact G5 hu I2 g ry λs3 I3=>⟨.bl ov.isSome,H2,I3,rfl,q2⟩
theorem xO (hu:X.A.units+1<cLine)(hi:PE X i ty)(ho:PE X o td):PC X .NotIn i o (Bi ty td):=by
 intro pins s σ H Q I h;refine thn (hi pins s σ H _ I h) λiv s1 ⟨y,H1,I1,ry,q1⟩=>thn (ho pins s1 σ H1 _ I1 q1) λu s2 ⟨x,H2,I2,rx,a,ov,ex,g,q2⟩=>?_;subst ex;obtain rfl:u=Value.ref a:=rx;exact Bg hu I2 g ry λs3 I3=>⟨.bl (!ov.isSome),H2,I3,rfl,q2⟩
theorem wb (hu:X.A.units+1<cLine)(ho:PE X o td)(hi:PE X i ty)(hv:PE X value tv)(hs:swapsWith value (some (.Subscript o i pos')) pos.line X.env=pure false):
  PS X (.Assign [.Subscript o i pos'] value pos) (yZ td ty tv):=by
 intro pins s σ H D I h;refine wpAny_Assign_Subscript (thn (hv pins s σ H _ I h) λr s1 ⟨v,H1,I1,rv,q1⟩=>thn (ho pins s1 σ H1 _ I1 q1) λu s2 ⟨x,H2,I2,rx,q2⟩=>thn (hi pins s2 σ H2 _ I2 q2) λiv s3 ⟨y,H3,I3,ry,a,ex,g⟩=>?_) hs;subst ex;obtain rfl:u=Value.ref a:=rx;exact xN hu I3 g ry rv λH4 s4 q3 I4=>⟨σ,H4,I4,q3⟩
end
theorem rY {P:Program}{w:World}{H:Hp}(h:Heap)(hb:sysModules<h.objs.size):bA P w H (h.push { cls:=.type "dict",data:=.dict #[] }) h.objs.size (.dK [] { cls:=.type "dict",data:=.dict #[] }) :=
 ⟨Heap.get?_push_size _ rfl,Nat.zero_le _,beq_eq_false_iff_ne.mpr (Ne.symm (Nat.ne_of_lt hb)),[],.nil,Heap.DictOf.new h⟩
theorem za {P:Program}{w:World}{H:Hp}(h:Heap)(hb:sysModules<h.objs.size):bA P w H (h.push { cls:=.type "dict",data:=.dict #[] }) h.objs.size (.dT []) :=
 ⟨Nat.zero_le _,beq_eq_false_iff_ne.mpr (Ne.symm (Nat.ne_of_lt hb)),[],.nil,_,#[],0,Heap.get?_push_size _ rfl,⟨rfl,rfl,rfl⟩,rfl,rfl,List.nodup_nil⟩
noncomputable def zb:TE:=λ_ H Q=>∀p ob,H p=none->Q (.ref p) (upd H p (.dK [] ob))
noncomputable def zc:TE:=λ_ H Q=>∀p,H p=none->Q (.ref p) (upd H p (.dT []))
section
variable {X:Cx}{pos:Pos}
theorem zd:PE X (.Dict [] [] pos) zb:=λpins s σ H Q I h=>
 wpAny_Dict_empty ⟨.ref s.heap.objs.size,_,I.laid (a:=s.heap.objs.size) (o:=.dK [] { cls:=.type "dict",data:=.dict #[] }) (t':=s.toks) (λ_ _ q=>Heap.get?_push_of_some _ q) (Nat.le_refl _) (rY s.heap I.big),rfl,h _ _ (I.hok.fresh (Nat.le_refl _))⟩
theorem ze:PE X (.Dict [] [] pos) zc:=λpins s σ H Q I h=>
 wpAny_Dict_empty ⟨.ref s.heap.objs.size,_,I.laid (a:=s.heap.objs.size) (o:=.dT []) (t':=s.toks) (λ_ _ q=>Heap.get?_push_of_some _ q) (Nat.le_refl _) (za s.heap I.big),rfl,h _ (I.hok.fresh (Nat.le_refl _))⟩
end
structure M1 (X:Cx)(o:Expr)(m:Str)(apos:Pos)(e:Expr)(cpos:Pos):Prop where
 base:attributeBase o m X.env (eval o X.env)=eval o X.env
 few:((backTo cpos (starEach [e] X.env)).all (λx=>!x.1) && (backToKw cpos (keywordEach [] X.env)).all (λx=>x.1.isSome)
  && decide (([e]:List Expr).length+([]:List Keyword).length+(if([]:List Keyword).isEmpty then 0 else 1)<30))=true
 line:(apos.endLine == cpos.line)=true
 trees:backTo cpos (starEach [e] X.env)=[(false,eval e X.env)]
noncomputable def IsD (H:Hp)(a:Addr):Prop:=(∃kvs ob,Rd H a (.dK kvs ob))∨∃kvs,Rd H a (.dT kvs)
theorem DC {X:Cx}{pins:List (Addr×Obj)}{σ:St}{H:Hp}{s:Shared}{a:Addr}(I:Inv X pins σ H s)(d:IsD H a):
  s.TypeIs (.ref a) "dict"/\(∀b,Value.ref a=.ref b->∃ob,s.heap.get? b=some ob/\ob.dict=none)/\(a == sysModules)=false:=by
 rcases d with⟨kvs,ob0,e⟩|⟨kvs,e⟩
 ·obtain⟨_,hd,vs,_,dd⟩:=mB I.hok e;refine⟨dd.typeIs,λb q=>?_,hd⟩;cases q
  obtain⟨ob,_,_,h1,h2,_⟩:=dd;exact⟨ob,h1,h2.2.1⟩
 ·obtain⟨_,hd,xs,_,dd⟩:=mC I.hok e;refine⟨dd.typeIs,λb q=>?_,hd⟩;cases q
  obtain⟨ob,_,_,h1,h2,_⟩:=dd;exact⟨ob,h1,h2.2.1⟩
section
variable {X:Cx}{pins:List (Addr×Obj)}{σ:St}{H:Hp}{s:Shared}{a:Addr}{y d:V}{u r:Value}{o:Option V}{A:Around}{E:Value->Shared->Prop}
theorem DD {Q:Value->Shared->Prop}(hu:A.units+1<cLine)(I:Inv X pins σ H s)(g:mD H a y o)(ry:aL y u)(h:∀w' s',Inv X pins σ H s'->aL (o.getD .non) w'->Q w' s'):
  wpAny (model X.prog X.w) A (call (.builtin "dict.get") [.ref a,u]) Q E s:=by
 rcases g with⟨kvs,k,ob,e,ey,l⟩|⟨kvs,k,b,e,ey,eb,l⟩
 ·subst ey;obtain⟨z,hd,vs,rel,dd⟩:=mB I.hok e;refine call_meetsIn PySem.F.slot_dict_get dd.typeIs PySem.F.entry_dict_get (PySem.F.args_dict_get_2 _ _) (meets_dict_get (cj X.prog X.w) a (m9 ry) hd) ⟨_,dd.mapOf,h _ _ (I.tok _) ?_⟩;rw[l];exact(rel.val k).getD rfl
 ·subst ey;cases (show u=Value.ref b from ry)
  obtain⟨z,hd,xs,rel,dd⟩:=mC I.hok e;refine call_meetsIn PySem.F.slot_dict_get dd.typeIs PySem.F.entry_dict_get (PySem.F.args_dict_get_2 _ _) (meetsH_dict_get (tupleKind (cj X.prog X.w)) a b hd) ⟨tupleKind_room_in1 hu,k,xs,kU I.hok eb,dd,h _ _ (I.tok _) ?_⟩;rw[l];exact(rel.val k).getD rfl
end
noncomputable def DE (td ty:TE):TE:=λσ H Q=>td σ H λx H1=>∃a,x=.ref a/\IsD H1 a/\ty σ H1 λy H2=>∃o,mD H2 a y o/\Q (o.getD .non) H2
section
variable {X:Cx}{o e f:Expr}{apos cpos:Pos}{td ty tx:TE}
theorem rZ (hu:X.A.units+1<cLine)(ho:PE X o td)(he:PE X e ty)(m:M1 X o "get" apos e cpos):PE X (.Call (.Attribute o "get" apos) [e] [] cpos) (DE td ty):=by
 intro pins s σ H Q I h;refine wpAny_Call_method m.base m.few m.line PySem.F.plainAttrs_dict PySem.F.slot_dict_get PySem.F.type_dict_get (thn (ho pins s σ H _ I h) λu s1 ⟨x,H1,I1,rx,a,ex,d,q1⟩=>?_);subst ex;obtain rfl:u=Value.ref a:=rx;obtain⟨t1,t2,_⟩:=DC I1 d;refine⟨t1,t2,?_⟩;rw[m.trees];refine Calls.callWith_builtin rfl (Calls.evalArgs_plain (Calls.spliced_cons (thn (he pins s1 σ H1 _ I1 q1) λiv s2 ⟨y,H2,I2,ry,ov,g,q2⟩=>Calls.spliced_nil ?_)));exact DD hu I2 g ry λw' s3 I3 rw'=>⟨_,H2,I3,rw',q2⟩
end
end L2
namespace DL
open PySem L2
set_option linter.all false
noncomputable abbrev St:=L2.St
inductive D where
 |non|bl (b:Bool)|int (i:Int)|str (x:Str)|ty (n:String)|tup (ds:List D)|lst (ds:List D)
  |dk (ks:List Key) (vs:List D)|dt (ks:List (List Key)) (vs:List D)
mutual
inductive Is (K:PySem.W.Frag)(H:Hp):V->D->Prop where
 |non:Is K H .non .non
 |bl (b:Bool):Is K H (.bl b) (.bl b)
 |int (i:Int):Is K H (.int i) (.int i)
 |str (x:Str):Is K H (.str x) (.str x)
 |ty (n:String):Is K H (.ty n) (.ty n)
 |tup {a:Addr}{vs:List V}{ds:List D}(h:SqT K H a vs) (hs:IsL K H vs ds):Is K H (.ref a) (.tup ds)
 |lst {a:Addr}{vs:List V}{ds:List D}(h:SqL K H a vs) (hs:IsL K H vs ds):Is K H (.ref a) (.lst ds)
 |dk {a:Addr}{ks:List Key}{vs:List V}{ds:List D}{ob:Obj}(h:H a=some (.dK (ks.zip vs) ob)) (hl:ks.length=vs.length) (hs:IsL K H vs ds):Is K H (.ref a) (.dk ks ds)
 |dt {a:Addr}{ks:List (List Key)}{vs:List V}{ds:List D}(h:H a=some (.dT (ks.zip vs))) (hl:ks.length=vs.length) (hs:IsL K H vs ds):Is K H (.ref a) (.dt ks ds)
inductive IsL (K:PySem.W.Frag)(H:Hp):List V->List D->Prop where
 |nil:IsL K H [] []
 |cons {v:V}{d:D}{vs:List V}{ds:List D}(h:Is K H v d) (hs:IsL K H vs ds):IsL K H (v::vs) (d::ds)
end
mutual
noncomputable def bo:D->Bool
 |.lst _=>false
 |.dk _ _=>false
 |.dt _ _=>false
 |.tup ds=>b7 ds
 |_=>true
noncomputable def b7:List D->Bool
 |[]=>true
 |d::ds=>bo d && b7 ds
end
@[simp] theorem E4:bo .non=true:=by simp only[bo]
@[simp] theorem Fu (b:Bool):bo (.bl b)=true:=by simp only[bo]
@[simp] theorem E5 (i:Int):bo (.int i)=true:=by simp only[bo]
@[simp] theorem E6 (x:Str):bo (.str x)=true:=by simp only[bo]
@[simp] theorem Fv (x:String):bo (.ty x)=true:=by simp only[bo]
@[simp] theorem E7 (ds:List D):bo (.tup ds)=b7 ds:=by rw[bo]
@[simp] theorem E8 (ds:List D):bo (.lst ds)=false:=by rw[bo]
@[simp] theorem Fw (ks:List Key)(ds:List D):bo (.dk ks ds)=false:=by rw[bo]
@[simp] theorem Fx (ks:List (List Key))(ds:List D):bo (.dt ks ds)=false:=by rw[bo]
@[simp] theorem DF:b7 []=true:=by rw[b7]
@[simp] theorem C0 (d:D)(ds:List D):b7 (d::ds)=(bo d && b7 ds):=by rw[b7]
section
variable {K:PySem.W.Frag}{H H':Hp}
mutual
theorem Is.keep (hT:∀a vs,SqT K H a vs->SqT K H' a vs)(hL:∀a vs,SqL K H a vs->SqL K H' a vs)(hK:∀a kvs ob,H a=some (.dK kvs ob)->H' a=some (.dK kvs ob))(hM:∀a kvs,H a=some (.dT kvs)->H' a=some (.dT kvs)):∀ {v:V}{d:D},Is K H v d->Is K H' v d
 |_,_,.non=>.non
 |_,_,.bl b=>.bl b
 |_,_,.int i=>.int i
 |_,_,.str x=>.str x
 |_,_,.ty x=>.ty x
 |_,_,.tup h hs=>.tup (hT _ _ h) (IsL.keep hT hL hK hM hs)
 |_,_,.lst h hs=>.lst (hL _ _ h) (IsL.keep hT hL hK hM hs)
 |_,_,.dk h hl hs=>.dk (hK _ _ _ h) hl (IsL.keep hT hL hK hM hs)
 |_,_,.dt h hl hs=>.dt (hM _ _ h) hl (IsL.keep hT hL hK hM hs)
theorem IsL.keep (hT:∀a vs,SqT K H a vs->SqT K H' a vs)(hL:∀a vs,SqL K H a vs->SqL K H' a vs)(hK:∀a kvs ob,H a=some (.dK kvs ob)->H' a=some (.dK kvs ob))(hM:∀a kvs,H a=some (.dT kvs)->H' a=some (.dT kvs)):∀ {vs:List V}{ds:List D},IsL K H vs ds->IsL K H' vs ds
 |_,_,.nil=>.nil
 |_,_,.cons h hs=>.cons (Is.keep hT hL hK hM h) (IsL.keep hT hL hK hM hs)
end
mutual
theorem Is.keepT (hT:∀a vs,SqT K H a vs->SqT K H' a vs):∀ {v:V}{d:D},Is K H v d->bo d=true->Is K H' v d
 |_,_,.non,_=>.non
 |_,_,.bl b,_=>.bl b
 |_,_,.int i,_=>.int i
 |_,_,.str x,_=>.str x
 |_,_,.ty x,_=>.ty x
 |_,_,.tup h hs,n=>.tup (hT _ _ h) (IsL.keepT hT hs (by simpa using n))
 |_,_,.lst h hs,n=>by simp at n
 |_,_,.dk h hl hs,n=>by simp at n
 |_,_,.dt h hl hs,n=>by simp at n
theorem IsL.keepT (hT:∀a vs,SqT K H a vs->SqT K H' a vs):∀ {vs:List V}{ds:List D},IsL K H vs ds->b7 ds=true->IsL K H' vs ds
 |_,_,.nil,_=>.nil
 |_,_,.cons h hs,n=>by
  simp at n;exact .cons (Is.keepT hT h n.1) (IsL.keepT hT hs n.2)
end
theorem bd {a:Addr}{xs:List V}(e:aM H H')(h:SqT K H a xs):SqT K H' a xs:=by
 rcases h with (h|⟨o,h⟩)|h
 ·exact .inl (.inl (e _ _ h))
 ·exact .inl (.inr ⟨o,e _ _ h⟩)
 ·exact .inr h
theorem Is.mono {v:V}{d:D}(h:Is K H v d)(e:aM H H'):Is K H' v d:=h.keep (λ_ _=>bd e) (λ_ _=>e.seq) (λ_ _ _ q=>e _ _ q) λ_ _ q=>e _ _ q
theorem IsL.mono {v:List V}{d:List D}(h:IsL K H v d)(e:aM H H'):IsL K H' v d:=h.keep (λ_ _=>bd e) (λ_ _=>e.seq) (λ_ _ _ q=>e _ _ q) λ_ _ q=>e _ _ q
theorem IsL.length:∀ {vs:List V}{ds:List D},IsL K H vs ds->vs.length=ds.length
 |_,_,.nil=>rfl
 |_,_,.cons _ t=>congrArg (· + 1) t.length
theorem IsL.get:∀ {vs:List V}{ds:List D}{i:Nat}{d:D},IsL K H vs ds->ds[i]? = some d->∃v,vs[i]? = some v/\Is K H v d
 |_,_,_,_,.nil,e=>by simp at e
 |_,_,0,_,.cons h _,e=>by simp at e;subst e;exact⟨_,rfl,h⟩
 |_,_,i+1,d,.cons _ t,e=>by
  obtain⟨u,h1,h2⟩:=t.get (i:=i) (d:=d) (by simpa using e);exact⟨u,by simpa using h1,h2⟩
theorem IsL.append:∀ {vs ws:List V}{ds es:List D},IsL K H vs ds->IsL K H ws es->IsL K H (vs++ws) (ds++es)
 |_,_,_,_,.nil,s=>s
 |_,_,_,_,.cons r t,s=>.cons r (t.append s)
theorem IsL.take:∀ {vs:List V}{ds:List D}(n:Nat),IsL K H vs ds->IsL K H (vs.take n) (ds.take n)
 |_,_,0,_=>by simpa using IsL.nil
 |_,_,_+1,.nil=>.nil
 |_,_,n+1,.cons r t=>.cons r (t.take n)
theorem IsL.drop:∀ {vs:List V}{ds:List D}(n:Nat),IsL K H vs ds->IsL K H (vs.drop n) (ds.drop n)
 |_,_,0,r=>r
 |_,_,_+1,.nil=>.nil
 |_,_,n+1,.cons _ t=>t.drop n
theorem IsL.set {v:V}{d:D}(h:Is K H v d):∀ {vs:List V}{ds:List D}(i:Nat),IsL K H vs ds->IsL K H (vs.set i v) (ds.set i d)
 |_,_,_,.nil=>.nil
 |_,_,0,.cons _ t=>.cons h t
 |_,_,i+1,.cons r t=>.cons r (IsL.set h i t)
theorem IsL.eraseIdx:∀ {vs:List V}{ds:List D}(i:Nat),IsL K H vs ds->IsL K H (vs.eraseIdx i) (ds.eraseIdx i)
 |_,_,_,.nil=>.nil
 |_,_,0,.cons _ t=>t
 |_,_,i+1,.cons r t=>.cons r (t.eraseIdx i)
theorem IsL.flat {vs:List V}{ns:List Int}(h:vs=ns.map V.int):IsL K H vs (ns.map D.int):=by
 subst h;induction ns with
 |nil=>exact .nil
 |cons n ns ih=>exact .cons (.int n) ih
end
structure Ext (B N H H':Hp):Prop where
 hh:aM H H'
 bn:aM B N
 nh:aM N H'
 new:∀a o,N a=some o->B a=some o∨H a=none
theorem Ext.refl {B H:Hp}(h:aM B H):Ext B B H H:=⟨.refl _,.refl _,h,λ_ _ e=>.inl e⟩
theorem Ext.trans {B N H H1 N2 H2:Hp}(x:Ext B N H H1)(y:Ext N N2 H1 H2):Ext B N2 H H2 :=
 ⟨x.hh.trans y.hh,x.bn.trans y.bn,y.nh,λa o e=>(y.new a o e).elim (λq=>x.new a o q) λq=>.inr (x.hh.free q)⟩
theorem Ext.laid {B H:Hp}{p:Addr}{o:HO}(h:aM B H)(hp:H p=none):Ext B (upd B p o) H (upd H p o):=by
 have hB:B p=none:=h.free hp;refine⟨λa u e=>?_,λa u e=>?_,λa u e=>?_,λa u e=>?_⟩
 ·rw[aB (λq=>by subst q;rw[hp]at e;cases e)];exact e
 ·rw[aB (λq=>by subst q;rw[hB]at e;cases e)];exact e
 ·by_cases q:a=p
  ·subst q;rw[a0]at e ⊢;exact e
  ·rw[aB q]at e ⊢;exact h _ _ e
 ·by_cases q:a=p
  ·subst q;exact .inr hp
  ·rw[aB q]at e;exact .inl e
theorem Ext.grow {B H H':Hp}(h:aM B H)(hh:aM H H'):Ext B B H H':=⟨hh,.refl _,h.trans hh,λ_ _ e=>.inl e⟩
noncomputable abbrev Env:=List (Option (D×Bool))
noncomputable abbrev FE:=Env->Option (D×Bool)
noncomputable abbrev FA:=Env->Option (List D)
noncomputable abbrev FT:=Env->Option Bool
noncomputable def Fsh (K:PySem.W.Frag)(H N:Hp)(v:V)(d:D):Prop:=∃(a:Addr)(vs:List V)(ds:List D),v=.ref a/\d=.lst ds/\H a=none/\N a=some (.lst vs)/\IsL K N vs ds
theorem Fsh.back {K:PySem.W.Frag}{H H' N:Hp}{v:V}{d:D}(h:Fsh K H' N v d)(e:aM H H'):Fsh K H N v d:=let ⟨a,vs,ds,q,y,z,r⟩:=h;⟨a,vs,ds,q,y,e.free z,r⟩
noncomputable def jP:List Str:=["in_order","has_seal","is_first_death","bases_by"]
noncomputable def mE (x:Str):Str:=x ++ ".<locals>." ++ "<lambda>"
noncomputable def Tb (K:PySem.W.Frag)(B:Hp):Prop:=∀x∈jP,∀c P,PySem.W.tabIn K x=some (c,P)->B P=some (.tbl (mE x))
theorem Tb.mono {K:PySem.W.Frag}{B B':Hp}(h:Tb K B)(e:aM B B'):Tb K B':=λx hx c P q=>e _ _ (h x hx c P q)
structure RepE (K:PySem.W.Frag)(B:Hp)(σ:St)(ρ:Env):Prop where
 tb:Tb K B
 at':∀(i:Nat)(d:D)(b:Bool),ρ[i]? = some (some (d,b))->∃v,σ[i]? = some (some v)/\Is K B v d
theorem RepE.mono {K:PySem.W.Frag}{B B':Hp}{σ:St}{ρ:Env}(h:RepE K B σ ρ)(e:aM B B'):RepE K B' σ ρ:=⟨h.tb.mono e,λi d b q=>let ⟨v,h1,h2⟩:=h.at' i d b q;⟨v,h1,h2.mono e⟩⟩
noncomputable def Fin (K:PySem.W.Frag)(B H:Hp)(d:D)(b:Bool)(Q:VK):Prop:=∀(v:V)(H' N:Hp),Ext B N H H'->Is K N v d->(b=true->Fsh K H N v d)->Q v H'
noncomputable def tD (K:PySem.W.Frag)(f:FE):TE:=λσ H Q=>∃(B:Hp)(ρ:Env)(d:D)(b:Bool),aM B H/\RepE K B σ ρ/\f ρ=some (d,b)/\Fin K B H d b Q
noncomputable def tDT (K:PySem.W.Frag)(f:FT):TT:=λσ H Q=>∃(B:Hp)(ρ:Env)(c:Bool),aM B H/\RepE K B σ ρ/\f ρ=some c/\∀H',aM H H'->Q c H'
noncomputable def tDA (K:PySem.W.Frag)(f:FA):TA:=λσ H Q=>∃(B:Hp)(ρ:Env)(ds:List D),aM B H/\RepE K B σ ρ/\f ρ=some ds/\∀(vs:List V)(H' N:Hp),Ext B N H H'->IsL K N vs ds->Q vs H'
noncomputable def rD (K:PySem.W.Frag)(op:D->D->Option (D×Bool)):R2:=λx y H Q=>∃(B:Hp)(dx dy d:D)(b:Bool),aM B H/\Is K B x dx/\Is K B y dy/\op dx dy=some (d,b)/\Fin K B H d b Q
noncomputable def rDU (K:PySem.W.Frag)(op:D->Option (D×Bool)):V->Hp->VK->Prop:=λx H Q=>∃(B:Hp)(dx d:D)(b:Bool),aM B H/\Is K B x dx/\op dx=some (d,b)/\Fin K B H d b Q
noncomputable def rDA (K:PySem.W.Frag)(op:List D->Option (D×Bool)):List V->Hp->VK->Prop:=λxs H Q=>∃(B:Hp)(ds:List D)(d:D)(b:Bool),aM B H/\IsL K B xs ds/\op ds=some (d,b)/\Fin K B H d b Q
theorem Fin.one {K:PySem.W.Frag}{B H:Hp}{d:D}{Q:VK}(h:Fin K B H d false Q)(s:aM B H){v:V}(i:Is K B v d):Q v H:=h v H B (.refl s) i (by simp)
theorem Fin.into {K:PySem.W.Frag}{B N H H1:Hp}{d:D}{b:Bool}{Q:VK}(h:Fin K B H d b Q)(x:Ext B N H H1):Fin K N H1 d b Q:=λv H' N' y i fr=>h v H' N' (x.trans y) i λe=>(fr e).back x.hh
@[simp] noncomputable def fC (d:D):FE:=λ_=>some (d,false)
@[simp] noncomputable def af (i:Nat):FE:=λρ=>match ρ[i]? with|some (some (d,_))=>some (d,false)|_=>none
@[simp] noncomputable def f2 (op:D->D->Option (D×Bool))(fa fb:FE):FE:=λρ=>(fa ρ).bind λx=>(fb ρ).bind λy=>op x.1 y.1
@[simp] noncomputable def f1 (op:D->Option (D×Bool))(fa:FE):FE:=λρ=>(fa ρ).bind λx=>op x.1
@[simp] noncomputable def ak:FA:=λ_=>some []
@[simp] noncomputable def ab (fa:FE)(fr:FA):FA:=λρ=>(fa ρ).bind λx=>(fr ρ).bind λxs=>some (x.1::xs)
@[simp] noncomputable def fA (op:List D->Option (D×Bool))(fa:FA):FE:=λρ=>(fa ρ).bind op
theorem DG {K:PySem.W.Frag}{i:Nat}{σ:St}{H:Hp}{Q:VK}(h:tD K (af i) σ H Q):∃v,σ[i]? = some (some v)/\Q v H:=by
 obtain⟨B,ρ,d,b,s,r,e,q⟩:=h;unfold af at e;split at e
 ·rename_i d' b' e';cases e
  obtain⟨v,h1,h2⟩:=r.at' i _ _ e';exact⟨v,h1,q.one s h2⟩
 ·cases e
theorem Bk {K:PySem.W.Frag}{op:D->D->Option (D×Bool)}{fa fb:FE}{σ:St}{H:Hp}{Q:VK}(h:tD K (f2 op fa fb) σ H Q):tD K fa σ H λx H1=>tD K fb σ H1 λy H2=>rD K op x y H2 Q:=by
 obtain⟨B,ρ,d,b,s,r,e,q⟩:=h;obtain⟨x,ex,e⟩:=oX e;obtain⟨y,ey,e⟩:=oX e;refine⟨B,ρ,x.1,x.2,s,r,ex,λv H1 N x1 i1 _=>⟨N,ρ,y.1,y.2,x1.nh,r.mono x1.bn,ey,λv2 H2 N2 x2 i2 _=>⟨N2,x.1,y.1,d,b,x2.nh,i1.mono x2.bn,i2,e,?_⟩⟩⟩;exact q.into (x1.trans x2)
theorem G7 {K:PySem.W.Frag}{op:D->Option (D×Bool)}{fa:FE}{σ:St}{H:Hp}{Q:VK}(h:tD K (f1 op fa) σ H Q):tD K fa σ H λx H1=>rDU K op x H1 Q:=by
 obtain⟨B,ρ,d,b,s,r,e,q⟩:=h;obtain⟨x,ex,e⟩:=oX e;exact⟨B,ρ,x.1,x.2,s,r,ex,λv H1 N x1 i1 _=>⟨N,x.1,d,b,x1.nh,i1,e,q.into x1⟩⟩
theorem Bl {K:PySem.W.Frag}{op:List D->Option (D×Bool)}{fa:FA}{σ:St}{H:Hp}{Q:VK}(h:tD K (fA op fa) σ H Q):tDA K fa σ H λxs H1=>rDA K op xs H1 Q:=by
 obtain⟨B,ρ,d,b,s,r,e,q⟩:=h;obtain⟨x,ex,e⟩:=oX e;exact⟨B,ρ,x,s,r,ex,λv H1 N x1 i1=>⟨N,x,d,b,x1.nh,i1,e,q.into x1⟩⟩
theorem Bm {K:PySem.W.Frag}{σ:St}{H:Hp}{Q:List V->Hp->Prop}(h:tDA K ak σ H Q):Q [] H:=by
 obtain⟨B,ρ,ds,s,r,e,q⟩:=h;cases e
 exact q [] H B (.refl s) .nil
theorem zf {K:PySem.W.Frag}{fa:FE}{fr:FA}{σ:St}{H:Hp}{Q:List V->Hp->Prop}(h:tDA K (ab fa fr) σ H Q):tD K fa σ H λx H1=>tDA K fr σ H1 λxs H2=>Q (x::xs) H2:=by
 obtain⟨B,ρ,ds,s,r,e,q⟩:=h;obtain⟨x,ex,e⟩:=oX e;obtain⟨y,ey,e⟩:=oX e;cases e
 exact⟨B,ρ,x.1,x.2,s,r,ex,λv H1 N x1 i1 _=>⟨N,ρ,y,x1.nh,r.mono x1.bn,ey,λvs H2 N2 x2 i2=>q _ H2 N2 (x1.trans x2) (.cons (i1.mono x2.bn) i2)⟩⟩
@[simp] noncomputable def tOf (f:FE):FT:=λρ=>match f ρ with|some (.bl c,_)=>some c|_=>none
@[simp] noncomputable def aY (f g:FT):FT:=λρ=>match f ρ with|some true=>g ρ|some false=>some false|none=>none
@[simp] noncomputable def dj (f g:FT):FT:=λρ=>match f ρ with|some true=>some true|some false=>g ρ|none=>none
@[simp] noncomputable def dO (f:FT):FT:=λρ=>(f ρ).map (!·)
@[simp] noncomputable def fIf (c:FT)(f g:FE):FE:=λρ=>match c ρ with|some true=>f ρ|some false=>g ρ|none=>none
open Classical in
noncomputable def cut (H:Hp)(P:Addr->Prop):Hp:=λa=>if P a then none else H a
theorem c6 {H:Hp}{P:Addr->Prop}{a:Addr}(h:¬P a):cut H P a=H a:=by unfold cut;rw[if_neg h]
theorem uK {H:Hp}{P:Addr->Prop}{a:Addr}(h:P a):cut H P a=none:=by unfold cut;rw[if_pos h]
theorem mF {H:Hp}{P:Addr->Prop}{a:Addr}{o:HO}(h:cut H P a=some o):¬P a/\H a=some o:=by
 by_cases q:P a
 ·rw[uK q]at h;cases h
 ·rw[c6 q]at h;exact⟨q,h⟩
theorem bJ {H:Hp}{P:Addr->Prop}:aM (cut H P) H:=λ_ _ e=>(mF e).2
theorem dP {H H':Hp}{P P':Addr->Prop}(e:∀a o,H a=some o->¬P a->H' a=some o/\¬P' a):aM (cut H P) (cut H' P'):=λa o q=>by
 obtain⟨h1,h2⟩:=mF q;obtain⟨h3,h4⟩:=e a o h2 h1;rw[c6 h4];exact h3
noncomputable def join (N N':Hp):Hp:=λa=>match N a with|some o=>some o|none=>N' a
theorem dA {N N':Hp}:aM N (join N N'):=λa o e=>by unfold join;rw[e]
theorem dm {N N':Hp}{a:Addr}(e:N a=none):join N N' a=N' a:=by unfold join;rw[e]
noncomputable def own (σ:St)(ρ:Env)(a:Addr):Prop:=∃(i:Nat)(d:D),ρ[i]? = some (some (d,true))/\σ[i]? = some (some (V.ref a))
inductive Bx (K:PySem.W.Frag)(C:Hp):HO->D->Prop where
 |lst {vs:List V}{ds:List D}(h:IsL K C vs ds):Bx K C (.lst vs) (.lst ds)
 |dk {ks:List Key}{vs:List V}{ds:List D}(hl:ks.length=vs.length) (h:IsL K C vs ds) {ob:Obj}:Bx K C (.dK (ks.zip vs) ob) (.dk ks ds)
 |dt {ks:List (List Key)}{vs:List V}{ds:List D}(hl:ks.length=vs.length) (h:IsL K C vs ds):Bx K C (.dT (ks.zip vs)) (.dt ks ds)
theorem Bx.mono {K:PySem.W.Frag}{C C':Hp}{o:HO}{d:D}(h:Bx K C o d)(e:aM C C'):Bx K C' o d:=by
 cases h with
 |lst h=>exact .lst (h.mono e)
 |dk hl h=>exact .dk hl (h.mono e)
 |dt hl h=>exact .dt hl (h.mono e)
theorem Bx.is {K:PySem.W.Frag}{C:Hp}{o:HO}{d:D}{a:Addr}(h:Bx K C o d)(e:C a=some o):Is K C (.ref a) d:=by
 cases h with
 |lst h=>exact .lst (SqL.of e) h
 |dk hl h=>exact .dk e hl h
 |dt hl h=>exact .dt e hl h
structure StN (K:PySem.W.Frag)(B0 H0 N H:Hp)(σ:St)(ρ:Env):Prop where
 bh:aM B0 H0
 tb:Tb K B0
 ext:Ext B0 N H0 H
 len:ρ.length=σ.length
 sh:∀(i:Nat)(d:D),ρ[i]? = some (some (d,false))->∃v,σ[i]? = some (some v)/\Is K (cut N (own σ ρ)) v d
 ow:∀(i:Nat)(d:D),ρ[i]? = some (some (d,true))->∃(a:Addr)(o:HO),σ[i]? = some (some (V.ref a))/\N a=some o/\H0 a=none/\Bx K (cut N (own σ ρ)) o d
 inj:∀(i j:Nat)(a:Addr)(d e:D),ρ[i]? = some (some (d,true))->ρ[j]? = some (some (e,true))->σ[i]? = some (some (V.ref a))->σ[j]? = some (some (V.ref a))->i=j
noncomputable def qD (K:PySem.W.Frag)(B0 H0 H:Hp)(σ:St)(ρ:Env):Prop:=∃N,StN K B0 H0 N H σ ρ
section
variable {K:PySem.W.Frag}{B0 H0 N H H':Hp}{σ:St}{ρ:Env}
theorem StN.owL (s:StN K B0 H0 N H σ ρ)(i:Nat)(d:D){es:List D}(q:ρ[i]? = some (some (.lst es,true)))(hd:d=.lst es:=by rfl):∃(a:Addr)(vs:List V)(ds:List D),d=.lst ds/\σ[i]? = some (some (V.ref a))/\N a=some (.lst vs)/\H0 a=none/\IsL K (cut N (own σ ρ)) vs ds:=by
 obtain⟨a,o,h1,h2,h3,h4⟩:=s.ow i _ q;cases h4 with
 |lst h4=>exact⟨a,_,es,hd,h1,h2,h3,h4⟩
noncomputable def boxed:HO->Prop
 |.lst _|.dK _ _|.dT _=>True
 |_=>False
theorem Bx.boxed {C:Hp}{o:HO}{d:D}(h:Bx K C o d):boxed o:=by cases h<;>exact trivial
theorem StN.owned (s:StN K B0 H0 N H σ ρ){a:Addr}(h:own σ ρ a):∃o,(N a=some o/\boxed o)/\H0 a=none:=by
 obtain⟨i,d,h1,h2⟩:=h;obtain⟨a',o,h3,h4,h5,h6⟩:=s.ow i d h1;rw[h2]at h3;cases h3;exact⟨o,⟨h4,h6.boxed⟩,h5⟩
theorem StN.rep (s:StN K B0 H0 N H σ ρ):RepE K N σ ρ:=⟨s.tb.mono s.ext.bn,λi d b q=>by
 cases b with
 |false=>obtain⟨v,h1,h2⟩:=s.sh i d q;exact⟨v,h1,h2.mono bJ⟩
 |true=>
  obtain⟨a,o,h2,h3,_,h4⟩:=s.ow i d q;exact⟨_,h2,(h4.mono bJ).is h3⟩⟩
noncomputable def mG (ρ:Env):Env:=ρ.map λx=>match x with|some (d,false)=>some (d,false)|_=>none
theorem zg {i:Nat}{d:D}{b:Bool}(h:(mG ρ)[i]? = some (some (d,b))):b=false/\ρ[i]? = some (some (d,false)):=by
 unfold mG at h;rw[List.getElem?_map]at h;cases e:ρ[i]? with
 |none=>rw[e]at h;cases h
 |some x=>
  rw[e]at h;match x,h with
  |some (d',false),h=>cases h;exact⟨rfl,rfl⟩
  |some (d',true),h=>cases h
  |none,h=>cases h
theorem StN.tbC (s:StN K B0 H0 N H σ ρ):Tb K (cut N (own σ ρ)):=λx hx c P q=>by
 have z:=s.tb.mono s.ext.bn x hx c P q;rw[c6]
 ·exact z
 ·intro y;obtain⟨o,⟨y,yb⟩,_⟩:=s.owned y;rw[z]at y;cases y;exact yb
theorem StN.repH (s:StN K B0 H0 N H σ ρ):RepE K (cut N (own σ ρ)) σ (mG ρ):=⟨s.tbC,λi d b q=>by
 obtain⟨rfl,q2⟩:=zg q;exact s.sh i d q2⟩
theorem StN.grow (s:StN K B0 H0 N H σ ρ){N':Hp}(x:Ext N N' H H'):StN K B0 H0 N' H' σ ρ:=by
 have c:aM (cut N (own σ ρ)) (cut N' (own σ ρ)):=dP λa o e q=>⟨x.bn a o e,q⟩;refine⟨s.bh,s.tb,s.ext.trans x,s.len,λi d q=>?_,λi d q=>?_,s.inj⟩
 ·obtain⟨v,h1,h2⟩:=s.sh i d q;exact⟨v,h1,h2.mono c⟩
 ·obtain⟨a,o,h2,h3,h4,h5⟩:=s.ow i d q;exact⟨a,o,h2,x.bn _ _ h3,h4,h5.mono c⟩
theorem StN.growH (s:StN K B0 H0 N H σ ρ){N':Hp}(x:Ext (cut N (own σ ρ)) N' H H'):StN K B0 H0 (join N N') H' σ ρ/\aM N' (cut (join N N') (own σ ρ)):=by
 have x':Ext N (join N N') H H':=by
  refine⟨x.hh,dA,λa o e=>?_,λa o e=>?_⟩
  ·cases q:N a with
   |some u=>
    have:join N N' a=some u:=dA _ _ q;rw[this]at e;cases e;exact x.hh _ _ (s.ext.nh _ _ q)
   |none=>rw[dm q]at e;exact x.nh _ _ e
  ·cases q:N a with
   |some u=>
    have:join N N' a=some u:=dA _ _ q;rw[this]at e;cases e;exact .inl rfl
   |none=>
    rw[dm q]at e;rcases x.new a o e with z|z
    ·have:=bJ _ _ z;rw[q]at this;cases this
    ·exact .inr z
 refine⟨s.grow x',λa o e=>?_⟩;rcases x.new a o e with z|z
 ·obtain⟨z1,z2⟩:=mF z;rw[c6 z1];exact dA _ _ z2
 ·have hN:N a=none:=s.ext.nh.free z;have:¬own σ ρ a:=λq=>by obtain⟨vs,⟨q,_⟩,_⟩:=s.owned q;rw[hN]at q;cases q
  rw[c6 this,dm hN];exact e
noncomputable def unown (ρ:Env):Env:=ρ.map λx=>x.map λy=>(y.1,false)
theorem iX {i:Nat}{d:D}{b:Bool}(h:(unown ρ)[i]? = some (some (d,b))):b=false/\∃c,ρ[i]? = some (some (d,c)):=by
 unfold unown at h;rw[List.getElem?_map]at h;cases e:ρ[i]? with
 |none=>rw[e]at h;cases h
 |some x=>
  rw[e]at h;match x,h with
  |some (d',c),h=>cases h;exact⟨rfl,c,rfl⟩
  |none,h=>cases h
theorem pe {a:Addr}:¬own σ (unown ρ) a:=λ⟨i,d,h,_⟩=>by
 obtain⟨z,_⟩:=iX h;cases z
theorem StN.unown (s:StN K B0 H0 N H σ ρ):StN K B0 H0 N H σ (unown ρ):=by
 refine⟨s.bh,s.tb,s.ext,by unfold DL.unown;rw[List.length_map];exact s.len,λi d q=>?_,λi d q=>?_,λi j a d e q=>?_⟩
 ·obtain⟨_,c,q⟩:=iX q;obtain⟨v,h1,h2⟩:=s.rep.at' i d c q;exact⟨v,h1,h2.mono λa o e=>by rw[c6 pe];exact e⟩
 ·obtain⟨z,_⟩:=iX q;cases z
 ·obtain⟨z,_⟩:=iX q;cases z
theorem bI {α:Type}{l:List α}{i j:Nat}{x y:α}(h:(l.set i x)[j]? = some y):(i=j/\x=y)∨(i≠j/\l[j]? = some y):=by
 by_cases e:i=j
 ·subst e;rw[List.getElem?_set]at h;split at h
  ·split at h
   ·exact .inl ⟨rfl,Option.some.inj h⟩
   ·cases h
  ·contradiction
 ·rw[List.getElem?_set_ne e]at h;exact .inr ⟨e,h⟩
theorem ph {α β:Type}{l:List α}{m:List β}{i:Nat}{x y:α}(h:(l.set i x)[i]? = some y)(e:l.length=m.length):i<m.length:=by
 obtain⟨h,_⟩:=List.getElem?_eq_some_iff.mp h;rw[List.length_set]at h;omega
theorem qE {i:Nat}{v:V}{x:Option (D×Bool)}{a:Addr}(h:own (σ.set i (some v)) (ρ.set i x) a):(v=.ref a/\∃d,x=some (d,true))∨∃j,j≠i/\∃d,ρ[j]? = some (some (d,true))/\σ[j]? = some (some (V.ref a)):=by
 obtain⟨j,d,h1,h2⟩:=h;rcases bI h1 with⟨e,q⟩|⟨e,q⟩
 ·rcases bI h2 with⟨e2,q2⟩|⟨e2,q2⟩
  ·cases q2;exact .inl ⟨rfl,d,q⟩
  ·exact absurd e e2
 ·rcases bI h2 with⟨e2,q2⟩|⟨e2,q2⟩
  ·exact absurd e2 e
  ·exact .inr ⟨j,λz=>e z.symm,d,q,q2⟩
theorem StN.bind (s:StN K B0 H0 N H σ ρ){i:Nat}{v:V}{d:D}(h:Is K (cut N (own σ ρ)) v d):StN K B0 H0 N H (σ.set i (some v)) (ρ.set i (some (d,false))):=by
 have o:∀a,own (σ.set i (some v)) (ρ.set i (some (d,false))) a->own σ ρ a:=λa q=>by
  rcases qE q with⟨_,d',p⟩|⟨j,_,d',q1,q2⟩
  ·cases p
  ·exact⟨j,d',q1,q2⟩
 have c:aM (cut N (own σ ρ)) (cut N (own (σ.set i (some v)) (ρ.set i (some (d,false))))):=dP λa u e q=>⟨e,λz=>q (o a z)⟩;refine⟨s.bh,s.tb,s.ext,by simp[s.len],λj e q=>?_,λj e q=>?_,λj k a e f q q' h1 h2=>?_⟩
 ·rcases bI q with⟨rfl,p⟩|⟨ne,p⟩
  ·cases p
   have hi:=ph q s.len;exact⟨v,by simp[hi],h.mono c⟩
  ·obtain⟨w,h1,h2⟩:=s.sh j e p;exact⟨w,by rw[List.getElem?_set_ne ne];exact h1,h2.mono c⟩
 ·rcases bI q with⟨rfl,p⟩|⟨ne,p⟩
  ·cases p
  ·obtain⟨a,o,h1,h2,h3,h4⟩:=s.ow j e p;exact⟨a,o,by rw[List.getElem?_set_ne ne];exact h1,h2,h3,h4.mono c⟩
 ·rcases bI q with⟨rfl,p⟩|⟨ne,p⟩
  ·cases p
  ·rcases bI q' with⟨rfl,p'⟩|⟨ne',p'⟩
   ·cases p'
   ·rw[List.getElem?_set_ne ne]at h1;rw[List.getElem?_set_ne ne']at h2;exact s.inj j k a e f p p' h1 h2
theorem StN.bindOwn (s:StN K B0 H0 N H σ ρ){i:Nat}{a:Addr}{ob:HO}{dd:D}(hN:N a=some ob)(h0:H0 a=none)(hno:∀(j:Nat)(d:D),ρ[j]? = some (some (d,true))->σ[j]? ≠ some (some (V.ref a)))
  (hsh:∀(j:Nat)(d:D),j≠i->ρ[j]? = some (some (d,false))->∃v,σ[j]? = some (some v)/\Is K (cut N (λb=>own σ ρ b∨b=a)) v d) (how:∀(j:Nat)(d:D),j≠i->ρ[j]? = some (some (d,true))->∃(a':Addr)(o:HO),σ[j]? = some (some (V.ref a'))/\N a'=some o/\Bx K (cut N (λb=>own σ ρ b∨b=a)) o d)
  (hds:Bx K (cut N (λb=>own σ ρ b∨b=a)) ob dd):StN K B0 H0 N H (σ.set i (some (.ref a))) (ρ.set i (some (dd,true))):=by
 have o:∀b,own (σ.set i (some (V.ref a))) (ρ.set i (some (dd,true))) b->own σ ρ b∨b=a:=λb q=>by
  rcases qE q with⟨p,_⟩|⟨j,_,d',q1,q2⟩
  ·cases p;exact .inr rfl
  ·exact .inl ⟨j,d',q1,q2⟩
 have c:aM (cut N (λb=>own σ ρ b∨b=a)) (cut N (own (σ.set i (some (V.ref a))) (ρ.set i (some (dd,true))))):=dP λb u e q=>⟨e,λz=>q (o b z)⟩;refine⟨s.bh,s.tb,s.ext,by simp[s.len],λj e q=>?_,λj e q=>?_,λj k b e f q q' h1 h2=>?_⟩
 ·rcases bI q with⟨rfl,p⟩|⟨ne,p⟩
  ·cases p
  ·obtain⟨w,h1,h2⟩:=hsh j e (Ne.symm ne) p;exact⟨w,by rw[List.getElem?_set_ne ne];exact h1,h2.mono c⟩
 ·rcases bI q with⟨rfl,p⟩|⟨ne,p⟩
  ·cases p
   have hi:=ph q s.len;exact⟨a,ob,by simp[hi],hN,h0,hds.mono c⟩
  ·obtain⟨a',o',h1,h2,h4⟩:=how j e (Ne.symm ne) p;have h3:H0 a'=none:=by
    obtain⟨a2,_,k1,_,k3,_⟩:=s.ow j e p;rw[h1]at k1;cases k1;exact k3
   exact⟨a',o',by rw[List.getElem?_set_ne ne];exact h1,h2,h3,h4.mono c⟩
 ·rcases bI q with⟨rfl,p⟩|⟨ne,p⟩
  ·rcases bI q' with⟨rfl,p'⟩|⟨ne',p'⟩
   ·rfl
   ·rw[List.getElem?_set_ne ne']at h2;have h1':V.ref a=V.ref b:=by
     rcases bI h1 with⟨_,z⟩|⟨z,_⟩
     ·exact Option.some.inj z
     ·exact absurd rfl z
    cases h1'
    exact absurd h2 (hno k f p')
  ·rcases bI q' with⟨rfl,p'⟩|⟨ne',p'⟩
   ·rw[List.getElem?_set_ne ne]at h1;have h2':V.ref a=V.ref b:=by
     rcases bI h2 with⟨_,z⟩|⟨z,_⟩
     ·exact Option.some.inj z
     ·exact absurd rfl z
    cases h2'
    exact absurd h1 (hno j e p)
   ·rw[List.getElem?_set_ne ne]at h1;rw[List.getElem?_set_ne ne']at h2;exact s.inj j k b e f p p' h1 h2
end
inductive Res where
 |nx (ρ:Env)|rt (d:D) (b:Bool)|bk (ρ:Env)|ct (ρ:Env)
noncomputable abbrev FS:=Env->Option Res
noncomputable def Fy (K:PySem.W.Frag)(B0 H0:Hp)(E:Ends):Res->Prop
 |.nx ρ=>∀σ H,qD K B0 H0 H σ ρ->E.nx σ H
 |.rt d b=>∀v H N,Ext B0 N H0 H->Is K N v d->(b=true->Fsh K H0 N v d)->E.rt v H
 |.bk ρ=>∀σ H,qD K B0 H0 H σ ρ->E.bk σ H
 |.ct ρ=>∀σ H,qD K B0 H0 H σ ρ->E.ct σ H
noncomputable def tDS (K:PySem.W.Frag)(g:FS):TS:=λE σ H=>∃(B0 H0:Hp)(ρ:Env)(r:Res),qD K B0 H0 H σ ρ/\g ρ=some r/\Fy K B0 H0 E r
section
variable {K:PySem.W.Frag}{B0 H0 N H H':Hp}{σ:St}{ρ:Env}{E:Ends}
theorem StN.writeB (s:StN K B0 H0 N H σ ρ){i:Nat}{d dd:D}{a:Addr}{ob:HO}(hi:ρ[i]? = some (some (d,true)))(hσ:σ[i]? = some (some (V.ref a)))(h:Bx K (cut N (own σ ρ)) ob dd):
  StN K B0 H0 (upd N a ob) (upd H a ob) σ (ρ.set i (some (dd,true))):=by
 have oa:own σ ρ a:=⟨i,d,hi,hσ⟩;obtain⟨ws,hw,h0⟩:=s.owned oa;have b0:B0 a=none:=s.bh.free h0;have o:∀b,own σ (ρ.set i (some (dd,true))) b↔own σ ρ b:=λb=>by
  constructor
  ·rintro⟨j,e,q1,q2⟩;rcases bI q1 with⟨rfl,p⟩|⟨_,p⟩
   ·exact⟨i,d,hi,q2⟩
   ·exact⟨j,e,p,q2⟩
  ·rintro⟨j,e,q1,q2⟩;by_cases z:i=j
   ·subst z;exact⟨i,dd,by rw[List.getElem?_set_self (List.getElem?_eq_some_iff.mp hi).1],q2⟩
   ·exact⟨j,e,by rw[List.getElem?_set_ne z];exact q1,q2⟩
 have c:aM (cut N (own σ ρ)) (cut (upd N a ob) (own σ (ρ.set i (some (dd,true))))):=dP λb u e q=>by
  have ne:b≠a:=λz=>q (z ▸ oa);exact⟨by rw[aB ne];exact e,λz=>q ((o b).mp z)⟩
 refine⟨s.bh,s.tb,⟨λb u e=>?_,λb u e=>?_,λb u e=>?_,λb u e=>?_⟩,by rw[List.length_set];exact s.len,λj e q=>?_,λj e q=>?_,λj k b e f q q' h1 h2=>?_⟩
 ·rw[aB (λz=>by subst z;rw[h0]at e;cases e)];exact s.ext.hh _ _ e
 ·rw[aB (λz=>by subst z;rw[b0]at e;cases e)];exact s.ext.bn _ _ e
 ·by_cases z:b=a
  ·subst z;rw[a0]at e ⊢;exact e
  ·rw[aB z]at e ⊢;exact s.ext.nh _ _ e
 ·by_cases z:b=a
  ·subst z;exact .inr h0
  ·rw[aB z]at e;exact s.ext.new _ _ e
 ·rcases bI q with⟨rfl,p⟩|⟨ne,p⟩
  ·cases p
  ·obtain⟨v,h1,h2⟩:=s.sh j e p;exact⟨v,h1,h2.mono c⟩
 ·rcases bI q with⟨rfl,p⟩|⟨ne,p⟩
  ·cases p
   exact⟨a,ob,hσ,a0,h0,h.mono c⟩
  ·obtain⟨a',o',h1,h2,h3,h4⟩:=s.ow j e p;have na:a'≠a:=λz=>by subst z;exact ne (s.inj i j _ d e hi p hσ h1)
   exact⟨a',o',h1,by rw[aB na];exact h2,h3,h4.mono c⟩
 ·have get:∀ {j:Nat}{e:D},(ρ.set i (some (dd,true)))[j]? = some (some (e,true))->∃e',ρ[j]? = some (some (e',true)):=λ{j e} q=>by
   rcases bI q with⟨rfl,p⟩|⟨ne,p⟩
   ·exact⟨d,hi⟩
   ·exact⟨e,p⟩
  obtain⟨e',q1⟩:=get q;obtain⟨f',q2⟩:=get q';exact s.inj j k b e' f' q1 q2 h1 h2
theorem StN.write (s:StN K B0 H0 N H σ ρ){i:Nat}{d:D}{a:Addr}{vs:List V}{ds:List D}(hi:ρ[i]? = some (some (d,true)))(hσ:σ[i]? = some (some (V.ref a)))(h:IsL K (cut N (own σ ρ)) vs ds):
  StN K B0 H0 (upd N a (.lst vs)) (upd H a (.lst vs)) σ (ρ.set i (some (.lst ds,true))):=s.writeB hi hσ (.lst h)
theorem StN.tups (s:StN K B0 H0 N H σ ρ):∀a vs,SqT K N a vs->SqT K (cut N (own σ ρ)) a vs:=λa vs h=>by
 have key:∀u,N a=some u->¬boxed u->cut N (own σ ρ) a=some u:=λu e hu=>by
  rw[c6 λz=>?_];exact e;obtain⟨ws,⟨q,qb⟩,_⟩:=s.owned z;rw[e]at q;cases q;exact hu qb
 rcases h with (h|⟨o,h⟩)|h
 ·exact .inl (.inl (key _ h (λq=>q)))
 ·exact .inl (.inr ⟨o,key _ h (λq=>q)⟩)
 ·exact .inr h
theorem StN.flat (s:StN K B0 H0 N H σ ρ){v:V}{d:D}(h:Is K N v d)(n:bo d=true):Is K (cut N (own σ ρ)) v d:=h.keepT s.tups n
theorem StN.rebase (s:StN K B0 H0 N H σ ρ):StN K (cut N (own σ ρ)) (cut H (own σ ρ)) N H σ ρ :=
 ⟨dP λa o e q=>⟨s.ext.nh _ _ e,q⟩,s.tbC,⟨bJ,bJ,s.ext.nh,λa o e=>by
  by_cases q:own σ ρ a
  ·exact .inr (uK q)
  ·exact .inl (by rw[c6 q];exact e)⟩,s.len,s.sh,λi d q=>by
   obtain⟨a,o,h1,h2,_,h4⟩:=s.ow i d q;exact⟨a,o,h1,h2,uK ⟨i,d,q,h1⟩,h4⟩,s.inj⟩
theorem StN.unbase (s:StN K B0 H0 N H σ ρ){N' H':Hp}{σ':St}{ρ':Env}(t:StN K (cut N (own σ ρ)) (cut H (own σ ρ)) N' H' σ' ρ'):StN K B0 H0 N' H' σ' ρ':=by
 have h0:aM H0 (cut H (own σ ρ)):=λa o e=>by
  rw[c6 λz=>?_];exact s.ext.hh _ _ e;obtain⟨_,_,q⟩:=s.owned z;rw[q]at e;cases e
 have b0:aM B0 (cut N (own σ ρ)):=λa o e=>by
  rw[c6 λz=>?_];exact s.ext.bn _ _ e;obtain⟨_,_,q⟩:=s.owned z;rw[s.bh _ _ e]at q;cases q
 refine⟨s.bh,s.tb,⟨h0.trans t.ext.hh,b0.trans t.ext.bn,t.ext.nh,λa o e=>?_⟩,t.len,t.sh,λi d q=>?_,t.inj⟩
 ·rcases t.ext.new a o e with z|z
  ·exact s.ext.new a o (bJ _ _ z)
  ·exact .inr (h0.free z)
 ·obtain⟨a,o,h1,h2,h3,h4⟩:=t.ow i d q;exact⟨a,o,h1,h2,h0.free h3,h4⟩
theorem StN.based (t:StN K B0 H0 N H σ ρ):aM B0 (cut N (own σ ρ)):=λa o e=>by
 rw[c6 λz=>?_];exact t.ext.bn _ _ e;obtain⟨_,_,q⟩:=t.owned z;rw[t.bh _ _ e]at q;cases q
@[simp] noncomputable def aA (g h:FS):FS:=λρ=>match g ρ with|some (.nx ρ')=>h ρ'|r=>r
@[simp] noncomputable def bH:FS:=λρ=>some (.nx ρ)
@[simp] noncomputable def gIf (c:FT)(g h:FS):FS:=λρ=>match c ρ with|some true=>g ρ|some false=>h ρ|none=>none
@[simp] noncomputable def bC (f:FE):FS:=λρ=>(f ρ).map λx=>.rt x.1 x.2
@[simp] noncomputable def GQ:FS:=λ_=>some (.rt .non false)
@[simp] noncomputable def GR (f:FE):FS:=λρ=>(f ρ).map λ_=>.nx ρ
@[simp] noncomputable def C1:D->Bool
 |.dk _ _=>true
 |.dt _ _=>true
 |_=>false
@[simp] noncomputable def jm (i:Nat):FS:=λρ=>match ρ[i]? with|some (some (d,b))=>some (.rt d (b && !C1 d))|_=>none
@[simp] noncomputable def C2:D->Bool
 |.lst ds=>b7 ds
 |_=>false
@[simp] noncomputable def setE (ρ:Env)(i:Nat)(d:D)(b:Bool):Env :=
 if bo d=true then ρ.set i (some (d,false))else if b=true/\C2 d=true then ρ.set i (some (d,true))else (unown ρ).set i (some (d,false))
@[simp] noncomputable def aS (i:Nat)(f:FE):FS:=λρ=>(f ρ).map λx=>.nx (setE ρ i x.1 x.2)
@[simp] noncomputable def GS (i:Nat)(f:FE):FS:=λρ=>(f (mG ρ)).map λx=>.nx (ρ.set i (some (x.1,false)))
@[simp] noncomputable def g7 (i:Nat)(f:FE):FS:=λρ=>match ρ[i]? with
 |some (some (.lst ds,true))=>(f ρ).bind λx=>if bo x.1=true/\ds.length<sizeLine then some (.nx (ρ.set i (some (.lst (ds++[x.1]),true))))else none
 |_=>none
theorem Bn {g h:FS}(q:tDS K (aA g h) E σ H):EQ (tDS K g) (tDS K h) E σ H:=by
 obtain⟨B0,H0,ρ,r,s,e,p⟩:=q;unfold aA at e;cases eg:g ρ with
 |none=>rw[eg]at e;cases e
 |some r1=>
  rw[eg]at e;cases r1 with
  |nx ρ'=>exact⟨B0,H0,ρ,.nx ρ',s,eg,λσ' H' s'=>⟨B0,H0,ρ',r,s',e,p⟩⟩
  |rt d b=>cases e;exact⟨B0,H0,ρ,_,s,eg,p⟩
  |bk ρ'=>cases e;exact⟨B0,H0,ρ,_,s,eg,p⟩
  |ct ρ'=>cases e;exact⟨B0,H0,ρ,_,s,eg,p⟩
theorem zh (q:tDS K bH E σ H):Cq E σ H:=by
 obtain⟨B0,H0,ρ,r,s,e,p⟩:=q;cases e
 exact p σ H s
theorem qD.grown {H':Hp}(s:StN K B0 H0 N H σ ρ)(h:aM H H'):qD K B0 H0 H' σ ρ:=⟨N,s.grow (.grow s.ext.nh h)⟩
theorem DH {c:FT}{g h:FS}(q:tDS K (gIf c g h) E σ H):ET (tDT K c) (tDS K g) (tDS K h) E σ H:=by
 obtain⟨B0,H0,ρ,r,⟨N,s⟩,e,p⟩:=q;unfold gIf at e;cases ec:c ρ with
 |none=>rw[ec]at e;cases e
 |some b=>
  rw[ec]at e;refine⟨N,ρ,b,s.ext.nh,s.rep,ec,λH1 h1=>?_⟩;cases b with
  |true=>rw[if_pos rfl];exact⟨B0,H0,ρ,r,.grown s h1,e,p⟩
  |false=>rw[if_neg (by decide)];exact⟨B0,H0,ρ,r,.grown s h1,e,p⟩
theorem Bo {f:FE}(q:tDS K (bC f) E σ H):Do (tD K f) E σ H:=by
 obtain⟨B0,H0,ρ,r,⟨N,s⟩,e,p⟩:=q;obtain⟨x,ex,e⟩:=oY e;subst e;exact⟨N,ρ,x.1,x.2,s.ext.nh,s.rep,ex,λv H1 N1 x1 i1 f1=>p v H1 N1 (s.ext.trans x1) i1 λb=>(f1 b).back s.ext.hh⟩
theorem zi {i:Nat}(q:tDS K (jm i) E σ H):Do (AL i) E σ H:=by
 obtain⟨B0,H0,ρ,r,⟨N,s⟩,e,p⟩:=q;unfold jm at e;split at e
 ·rename_i d b ei;cases e
  cases b with
  |false=>
   obtain⟨v,h1,h2⟩:=s.sh i d ei;exact⟨v,h1,p v H N s.ext (h2.mono bJ) (by simp)⟩
  |true=>
   obtain⟨a,o,h1,h2,h3,h4⟩:=s.ow i d ei;cases h4 with
   |lst h4=>exact⟨_,h1,p _ H N s.ext (.lst (SqL.of h2) (h4.mono bJ)) λ_=>⟨a,_,_,rfl,rfl,h3,h2,h4.mono bJ⟩⟩
   |dk hl h4=>exact⟨_,h1,p _ H N s.ext (.dk h2 hl (h4.mono bJ)) (by simp)⟩
   |dt hl h4=>exact⟨_,h1,p _ H N s.ext (.dt h2 hl (h4.mono bJ)) (by simp)⟩
 ·cases e
theorem StN.setE (s:StN K B0 H0 N H σ ρ){i:Nat}{v:V}{d:D}{b:Bool}{N1 H1:Hp}(x:Ext N N1 H H1)(h:Is K N1 v d)(f:b=true->Fsh K H N1 v d):StN K B0 H0 N1 H1 (σ.set i (some v)) (setE ρ i d b):=by
 have s1:=s.grow x;unfold DL.setE;by_cases hn:bo d=true
 ·rw[if_pos hn];exact s1.bind (s1.flat h hn)
 ·rw[if_neg hn];by_cases hb:b=true/\C2 d=true
  ·rw[if_pos hb];obtain⟨a,vs,ds,rfl,rfl,ha,hN,hs⟩:=f hb.1;have hNa:N a=none:=s.ext.nh.free ha;have hoa:¬own σ ρ a:=λz=>by obtain⟨ws,⟨q,_⟩,_⟩:=s.owned z;rw[hNa]at q;cases q
   have c:aM (cut N (own σ ρ)) (cut N1 (λb=>own σ ρ b∨b=a)):=dP λb u e q=>⟨x.bn _ _ e,λz=>z.elim q λz=>by subst z;rw[hNa]at e;cases e⟩;refine s1.bindOwn hN (s.ext.hh.free ha) (λj e q z=>hoa ⟨j,e,q,z⟩) (λj e _ q=>?_) (λj e _ q=>?_) (.lst (hs.keepT (λt ts st=>?_) hb.2))
   ·obtain⟨w,h1,h2⟩:=s.sh j e q;exact⟨w,h1,h2.mono c⟩
   ·obtain⟨a',o',h1,h2,_,h4⟩:=s.ow j e q;exact⟨a',o',h1,x.bn _ _ h2,h4.mono c⟩
   ·have key:∀u,N1 t=some u->¬boxed u->cut N1 (λb=>own σ ρ b∨b=a) t=some u:=λu e hu=>by
     rw[c6 λz=>?_];exact e;rcases z with z|z
     ·obtain⟨ws,⟨q,qb⟩,_⟩:=s1.owned z;rw[e]at q;cases q;exact hu qb
     ·subst z;rw[e]at hN;cases hN;exact hu trivial
    rcases st with (st|⟨o,st⟩)|st
    ·exact .inl (.inl (key _ st (λq=>q)))
    ·exact .inl (.inr ⟨o,key _ st (λq=>q)⟩)
    ·exact .inr st
  ·rw[if_neg hb];exact s1.unown.bind (h.mono λa o e=>by rw[c6 pe];exact e)
theorem wc {i:Nat}{f:FE}(q:tDS K (aS i f) E σ H):xA (tD K f) (iG i) E σ H:=by
 obtain⟨B0,H0,ρ,r,⟨N,s⟩,e,p⟩:=q;obtain⟨x,ex,e⟩:=oY e;subst e;exact⟨N,ρ,x.1,x.2,s.ext.nh,s.rep,ex,λv H1 N1 x1 i1 f1=>p _ H1 ⟨N1,s.setE x1 i1 f1⟩⟩
theorem Bp {i:Nat}{f:FE}(q:tDS K (g7 i f) E σ H):∃(a:Addr)(us:List V),σ[i]? = some (some (V.ref a))/\H a=some (.lst us)/\Cu (tD K f) Fi σ H λxs H2=>wa (.ref a) xs H2 λ_ H3=>E.nx σ H3:=by
 obtain⟨B0,H0,ρ,r,⟨N,s⟩,e,p⟩:=q;unfold g7 at e;split at e
 ·rename_i ds ei;obtain⟨x,ex,e⟩:=oX e;split at e
  ·rename_i hx;cases e
   obtain⟨a,vs,ds',z,h1,h2,h3,h4⟩:=s.owL i _ ei;cases z
   refine⟨a,vs,h1,s.ext.nh _ _ h2,N,ρ,x.1,x.2,s.ext.nh,s.rep,ex,λv H1 N1 x1 i1 f1=>⟨a,vs,v,rfl,rfl,x1.hh _ _ (s.ext.nh _ _ h2),by rw[h4.length];exact hx.2,?_⟩⟩;have s1:=s.grow x1;obtain⟨a',vs',ds',z,k1,k2,_,k4⟩:=s1.owL i _ ei;cases z
   rw[h1]at k1;cases k1;rw[x1.bn _ _ h2]at k2;cases k2;exact p σ _ ⟨_,s1.write ei h1 (k4.append (.cons (s1.flat i1 hx.1) .nil))⟩
  ·cases e
 ·cases e
end
noncomputable def gs (c:FT)(g:FS):Nat->Env->Option Res
 |0,_=>none
 |n+1,ρ=>match c ρ with
  |some true=>match g ρ with
   |some (.nx ρ')=>gs c g n ρ'
   |some (.ct ρ')=>gs c g n ρ'
   |some (.bk ρ')=>some (.nx ρ')
   |r=>r
  |some false=>some (.nx ρ)
  |none=>none
theorem xP {K:PySem.W.Frag}{c:FT}{g:FS}{n:Nat}{E:Ends}{σ:St}{H:Hp}(q:tDS K (gs c g n) E σ H):yM (tDT K c) (tDS K g) E σ H:=by
 obtain⟨B0,H0,ρ,r,s,e,p⟩:=q;refine⟨λm σ H=>∃ρ,qD K B0 H0 H σ ρ/\gs c g m ρ=some r,⟨n,ρ,s,e⟩,?_⟩;rintro m σ H ⟨ρ,⟨N,s⟩,e⟩;cases m with
 |zero=>cases e
 |succ m=>
  unfold gs at e;cases ec:c ρ with
  |none=>rw[ec]at e;cases e
  |some b=>
   rw[ec]at e;refine⟨N,ρ,b,s.ext.nh,s.rep,ec,λH1 h1=>?_⟩;cases b with
   |false=>rw[if_neg (by decide)];cases e;exact p σ H1 (.grown s h1)
   |true=>
    rw[if_pos rfl];refine⟨λσ H=>∃ρ,qD K B0 H0 H σ ρ/\gs c g m ρ=some r,λσ' H' w=>⟨m,Nat.lt_succ_self m,w⟩,?_⟩;cases eg:g ρ with
    |none=>rw[eg]at e;cases e
    |some r1=>
     rw[eg]at e;refine⟨B0,H0,ρ,r1,.grown s h1,eg,?_⟩;cases r1 with
     |nx ρ'=>exact λσ' H' s'=>⟨ρ',s',e⟩
     |ct ρ'=>exact λσ' H' s'=>⟨ρ',s',e⟩
     |bk ρ'=>cases e;exact λσ' H' s'=>p σ' H' s'
     |rt d b=>cases e;exact p
noncomputable def oD (K:PySem.W.Frag)(J:It)(B:Hp)(ds:List D):Prop:=∀(i:Nat)(H:Hp),aM B H ->
 (∀d,ds[i]? = some d->J.go i H/\∀x H',J.yld i H x H'->∃N,Ext B N H H'/\Is K N x d)/\(ds.length<=i->J.stop i H)
noncomputable def tDI (K:PySem.W.Frag)(f:FA):TI:=λσ H R=>∃(B:Hp)(ρ:Env)(ds:List D),aM B H/\RepE K B σ ρ/\f ρ=some ds/\∀(J:It)(H' N:Hp),Ext B N H H'->oD K J N ds->R J H'
noncomputable abbrev FG:=D->Env->Option Env
noncomputable def tDG (K:PySem.W.Frag)(tg:FG)(g:TG):Prop:=∀(B0 H0 N H:Hp)(σ:St)(ρ ρ':Env)(v:V)(d:D)(Q:St->Hp->Prop),StN K B0 H0 N H σ ρ->Is K (cut N (own σ ρ)) v d->tg d ρ=some ρ' ->
 (∀σ' H',qD K B0 H0 H' σ' ρ'->Q σ' H')->g v σ H Q
@[simp] noncomputable def tgN (i:Nat):FG:=λd ρ=>some (ρ.set i (some (d,false)))
theorem cO {K:PySem.W.Frag}{i:Nat}:tDG K (tgN i) (iG i):=by
 intro B0 H0 N H σ ρ ρ' v d Q s h e k;cases e
 exact k _ H ⟨N,s.bind h⟩
noncomputable def eZ (tg:FG)(g:FS):List D->Env->Option Res
 |[],ρ=>some (.nx ρ)
 |d::ds,ρ=>(tg d ρ).bind λρ1=>match g ρ1 with
  |some (.nx ρ')=>eZ tg g ds ρ'
  |some (.ct ρ')=>eZ tg g ds ρ'
  |some (.bk ρ')=>some (.nx ρ')
  |r=>r
@[simp] theorem sd (tg:FG)(g:FS)(ρ:Env):eZ tg g [] ρ=some (.nx ρ):=by rw[eZ]
@[simp] theorem iY (tg:FG)(g:FS)(d:D)(ds:List D)(ρ:Env):eZ tg g (d::ds) ρ=(tg d ρ).bind λρ1=>match g ρ1 with
  |some (.nx ρ')=>eZ tg g ds ρ'
  |some (.ct ρ')=>eZ tg g ds ρ'
  |some (.bk ρ')=>some (.nx ρ')
  |r=>r:=by rw[eZ]
@[simp] noncomputable def gd (f:FA)(tg:FG)(g:FS):FS:=λρ=>(f (mG ρ)).bind λds=>eZ tg g ds ρ
theorem se {K:PySem.W.Frag}{tg:FG}{t:TG}{g:FS}{E:Ends}{σ:St}{H1 B0 H0 N N1:Hp}{ρ:Env}{r:Res}{J:It}{ds:List D}(ht:tDG K tg t)(s1:StN K B0 H0 N H1 σ ρ)(c:aM N1 (cut N (own σ ρ)))(J1:oD K J N1 ds)(e:eZ tg g ds ρ=some r)(p:Fy K B0 H0 E r):
  ∃W:Nat->Nat->St->Hp->Prop,(∃m,W 0 m σ H1)/\∀i m σ H,W i m σ H->(J.stop i H/\E.nx σ H)∨(J.go i H/\∃N:St->Hp->Prop,(∀σ' H',N σ' H'->∃m',m'<m/\W (i+1) m' σ' H')/\∀x H',J.yld i H x H'->t x σ H' λσ2 H2=>tDS K g { E with nx:=N,ct:=N,bk:=E.nx } σ2 H2):=by
 refine⟨λi m σ H=>∃(N:Hp)(ρ:Env),StN K B0 H0 N H σ ρ/\aM N1 (cut N (own σ ρ))/\m=ds.length - i/\i<=ds.length/\eZ tg g (ds.drop i) ρ=some r,⟨ds.length,_,ρ,s1,c,rfl,Nat.zero_le _,e⟩,?_⟩;clear e s1 c;rintro i m σ H ⟨N,ρ,s,c,rfl,hi,e⟩;have hs:aM N1 H:=c.trans (bJ.trans s.ext.nh);obtain⟨j1,j2⟩:=J1 i H hs;by_cases hlt:i<ds.length
 ·obtain⟨go,yl⟩:=j1 ds[i] (by simp[hlt]);rw[List.drop_eq_getElem_cons hlt]at e;obtain⟨ρ1,e1,e⟩:=oX e;refine .inr ⟨go,λσ' H'=>∃(N:Hp)(ρ:Env),StN K B0 H0 N H' σ' ρ/\aM N1 (cut N (own σ' ρ))/\eZ tg g (ds.drop (i+1)) ρ=some r,λσ' H' ⟨N',ρ',s',c',e'⟩=>⟨_,by omega,N',ρ',s',c',rfl,hlt,e'⟩,λx H' y=>?_⟩;obtain⟨N2,x2,i2⟩:=yl x H' y;have x3:Ext (cut N (own σ ρ)) (join (cut N (own σ ρ)) N2) H H':=by
   refine⟨x2.hh,dA,λa o e=>?_,λa o e=>?_⟩
   ·cases q:cut N (own σ ρ) a with
    |some u=>rw[dA _ _ q]at e;cases e;exact x2.hh _ _ (s.ext.nh _ _ (bJ _ _ q))
    |none=>rw[dm q]at e;exact x2.nh _ _ e
   ·cases q:cut N (own σ ρ) a with
    |some u=>rw[dA _ _ q]at e;cases e;exact .inl rfl
    |none=>
     rw[dm q]at e;rcases x2.new a o e with z|z
     ·rw[c _ _ z]at q;cases q
     ·exact .inr z
  obtain⟨s2,c2⟩:=s.growH x3;have c3:aM N2 (join (cut N (own σ ρ)) N2):=λa o e=>by
   rcases x2.new a o e with z|z
   ·exact dA _ _ (c _ _ z)
   ·rw[dm ((bJ.trans s.ext.nh).free z)];exact e
  have i3:=i2.mono (c3.trans c2);have c4:aM N1 (cut (join N (join (cut N (own σ ρ)) N2)) (own σ ρ)):=(x2.bn.trans c3).trans c2;refine ht _ _ _ _ _ _ _ _ _ _ s2.rebase i3 e1 λσ2 H2 ⟨N4,s4⟩=>?_;cases eg:g ρ1 with
  |none=>rw[eg]at e;cases e
  |some r1=>
   rw[eg]at e;refine⟨_,_,ρ1,r1,⟨N4,s4⟩,eg,?_⟩;have back:∀ {σ':St}{H':Hp}{ρ':Env}{N':Hp},StN K _ _ N' H' σ' ρ'->StN K B0 H0 N' H' σ' ρ'/\aM N1 (cut N' (own σ' ρ')):=λt=>⟨s2.unbase t,c4.trans t.based⟩;cases r1 with
   |nx ρ'=>exact λσ' H' ⟨N',t⟩=>⟨N',ρ',(back t).1,(back t).2,e⟩
   |ct ρ'=>exact λσ' H' ⟨N',t⟩=>⟨N',ρ',(back t).1,(back t).2,e⟩
   |bk ρ'=>cases e;exact λσ' H' ⟨N',t⟩=>p σ' H' ⟨N',(back t).1⟩
   |rt d b=>
    cases e
    intro v H' N' x' i' f';have y:=s2.rebase.ext;have h0:aM H0 (cut H' (λ_=>False)):=λa o e=>by rw[c6 (λz=>z)];exact x'.hh _ _ (by
     rw[c6 λz=>?_];exact s2.ext.hh _ _ e;obtain⟨_,_,q⟩:=s2.owned z;rw[q]at e;cases e)
    have h0':aM H0 (cut H' (λ_=>False)):=h0;have hH:aM H0 (cut H' (λ_=>False)):=h0;have hc:∀a,cut H' (λ_=>False) a=H' a:=λa=>c6 (λz=>z);have hb:aM H0 (cut _ (own σ ρ)):=λa o e=>by
     rw[c6 λz=>?_];exact s2.ext.hh _ _ e;obtain⟨_,_,q⟩:=s2.owned z;rw[q]at e;cases e
    have bb:aM B0 (cut _ (own σ ρ)):=λa o e=>by
     rw[c6 λz=>?_];exact s2.ext.bn _ _ e;obtain⟨_,_,q⟩:=s2.owned z;rw[s2.bh _ _ e]at q;cases q
    refine p v H' N' ⟨hb.trans x'.hh,bb.trans x'.bn,x'.nh,λa o e=>?_⟩ i' λz=>(f' z).back hb;rcases x'.new a o e with z|z
    ·exact s2.ext.new a o (bJ _ _ z)
    ·exact .inr (hb.free z)
 ·have ei:i=ds.length:=by omega
  subst ei;rw[List.drop_eq_nil_of_le (Nat.le_refl _)]at e;cases e
  exact .inl ⟨j2 (Nat.le_refl _),p σ H ⟨N,s⟩⟩
theorem Bq {K:PySem.W.Frag}{f:FA}{tg:FG}{t:TG}{g:FS}{E:Ends}{σ:St}{H:Hp}(ht:tDG K tg t)(q:tDS K (gd f tg g) E σ H):Du (tDI K f) t (tDS K g) E σ H:=by
 obtain⟨B0,H0,ρ,r,⟨N,s⟩,e,p⟩:=q;obtain⟨ds,ef,e⟩:=oX e;refine⟨cut N (own σ ρ),mG ρ,ds,bJ.trans s.ext.nh,s.repH,ef,λJ H1 N1 x1 J1=>?_⟩;obtain⟨s1,c⟩:=s.growH x1;exact se ht s1 c J1 e p
noncomputable def tDR (K:PySem.W.Frag)(f:FA):TI:=λσ H R=>∃(B:Hp)(ρ:Env)(ds:List D),aM B H/\RepE K B σ ρ/\f ρ=some ds/\∀(J:It)(H' N:Hp),Ext B N H H'->(∀B',oD K J B' ds)->R J H'
@[simp] noncomputable def lD (f:FA)(tg:FG)(g:FS):FS:=λρ=>(f ρ).bind λds=>eZ tg g ds ρ
theorem zj {K:PySem.W.Frag}{f:FA}{tg:FG}{t:TG}{g:FS}{E:Ends}{σ:St}{H:Hp}(ht:tDG K tg t)(q:tDS K (lD f tg g) E σ H):Du (tDR K f) t (tDS K g) E σ H:=by
 obtain⟨B0,H0,ρ,r,⟨N,s⟩,e,p⟩:=q;obtain⟨ds,ef,e⟩:=oX e;refine⟨N,ρ,ds,s.ext.nh,s.rep,ef,λJ H1 N1 x1 J1=>?_⟩;exact se ht (s.grow x1) (aM.refl _) (J1 _) e p
end DL
namespace DL
open PySem PySem.Spec PyProof.Rows L2
noncomputable abbrev JE (X:Cx)(e:Expr)(f:FE):Prop:=PE X e (tD X.K f)
noncomputable abbrev JT (X:Cx)(e:Expr)(f:FT):Prop:=PT X e (tDT X.K f)
noncomputable abbrev JW (X:Cx)(e:Expr)(f:FT):Prop:=PW X e (tDT X.K f)
noncomputable abbrev JA (X:Cx)(es:List Expr)(f:FA):Prop:=PA X es (tDA X.K f)
noncomputable abbrev JS (X:Cx)(st:Stmt)(g:FS):Prop:=PS X st (tDS X.K g)
noncomputable abbrev JSs (X:Cx)(st:List Stmt)(g:FS):Prop:=PSs X st (tDS X.K g)
noncomputable abbrev JI (X:Cx)(tg iter:Expr)(f:FA):Prop:=PI X tg iter (tDI X.K f)
theorem qF {prog:Program}{w:World}{A:Around}{R:Result->Shared->Prop}{s:Shared}{elt target iter:Expr}{ifs:List Expr}{scope:Scope}{pos:Pos}{it acc:Value}{env:PySem.Env}(I:Nat->Shared->Prop)
  (turn:∀n s,I n s->wpAny (model prog w) A (pyNext it) (λr s₁=>match r with
   |none=>R (.ok .next) s₁
   |some v=>wpAny (model prog w) A (letOwnedTupleGo target it v) (λ_ s₁=>wpAny (model prog w) A (assign target env v) (λ_ s₂=>
     wpAny (model prog w) A (forIn ifs true λc r=>if r=true then do let ok ←isTrue c env (eval c env);pure (ForInStep.yield ok)else pure (ForInStep.yield r)) (λok s₃=>
      if ok=true then wpAny (model prog w) A (eval elt env) (λx s₄=>
       wpAny (model prog w) A (call (.builtin "list.append") [acc,x]) (λ_ s₅=>∃m,m<n/\I m s₅) (λ_ _=>False) s₄) (λ_ _=>False) s₃
      else ∃m,m<n/\I m s₃) (λ_ _=>False) s₂) (λ_ _=>False) s₁) (λ_ _=>False) s₁) (λ_ _=>False) s)
  (n:Nat) (h:I n s):codeAny (model prog w) A (.compLoop (.ListComp elt [⟨target,iter,ifs,0⟩] scope pos) 0 it acc env) R s:=by
 refine codeAny_loop rfl I (λn s hI=>?_) n h;show wpAny _ A ((compTurn (.ListComp elt [⟨target,iter,ifs,0⟩] scope pos) 0 it acc env).onRaise (λx=>do noteFrame x env;theTreesLotGoes x)) _ _ s;refine wpAny_noted (wpAny_mono (E:=λ_ _=>False) ?_ (λ_ _ q=>q) λ_ _ z=>z.elim);rw[compTurn_list];refine wX (wpAny_standAt (wX (wpAny_mono (turn n s hI) (λr s₁ h₁=>?_) λ_ _ h'=>h')));cases r with
 |none=>exact wY h₁
 |some v=>
  refine wX (wpAny_mono h₁ (λ_ s₁ h₁=>?_) λ_ _ h'=>h');refine wX (wpAny_mono h₁ (λ_ s₂ h₂=>wX (wpAny_mono h₂ (λok s₃ h₃=>?_) λ_ _ h'=>h')) λ_ _ h'=>h');cases ok with
  |false=>exact wY ⟨rfl,h₃⟩
  |true=>exact wX (wX (wpAny_mono h₃ (λx s₄ h₄=>wX (wpAny_mono h₄ (λ_ s₅ h₅=>wY (wY ⟨rfl,h₅⟩)) λ_ _ h'=>h')) λ_ _ h'=>h'))
theorem Ext.upd {B N H H':Hp}{a:Addr}{o:HO}(x:Ext B N H H')(h:H a=none)(hN:N a=none):Ext B N H (upd H' a o) :=
 ⟨λb u e=>by rw[aB (λz=>by subst z;rw[h]at e;cases e)];exact x.hh _ _ e,x.bn,λb u e=>by rw[aB (λz=>by subst z;rw[hN]at e;cases e)];exact x.nh _ _ e,x.new⟩
noncomputable abbrev dQ (X:Cx)(N':List Str)(scope:Scope)(cl:List (Str×Addr))(C:Addr)(s₃:Shared)(H₃:Hp)(fp:List Addr):Cx :=
 { X with N:=N',s₀:=s₃,H₀:=H₃,env:=compEnvC scope cl C X.env,outer:=X.stack,stack:=X.stack,ex:=fp,fn:=λ_=>false,pn:=[],xe:=λ_ _=>False }
inductive Caps (X:Cx)(N':List Str)(scope:Scope)(cl:List (Str×Addr)):Nat->List Nat->Prop where
 |nil {j:Nat}(h:N'.length=j):Caps X N' scope cl j []
 |cons {j i:Nat}{r:List Nat}{x:Str}(h1:N'[j]? = some x) (h2:X.N[i]? = some x) (h3:X.env.kindOf x=some .cell∨X.env.kindOf x=some .free)
   (h4:(relabel scope X.env).names.lookup x=some .cell∨(relabel scope X.env).names.lookup x=some .free) (h5:cl.lookup x=X.env.cells.lookup x) (t:Caps X N' scope cl (j+1) r):Caps X N' scope cl j (i::r)
theorem Caps.len {X:Cx}{N':List Str}{scope:Scope}{cl:List (Str×Addr)}:∀ {j:Nat}{cap:List Nat},Caps X N' scope cl j cap->N'.length=j+cap.length
 |_,_,.nil h=>by rw[h];rfl
 |j,i::r,.cons _ _ _ _ _ t=>by rw[t.len,List.length_cons];omega
theorem Caps.get {X:Cx}{N':List Str}{scope:Scope}{cl:List (Str×Addr)}:∀ {j:Nat}{cap:List Nat}{k i:Nat},Caps X N' scope cl j cap->cap[k]? = some i->∃x,N'[j+k]? = some x/\X.N[i]? = some x/\(X.env.kindOf x=some .cell∨X.env.kindOf x=some .free) /\
  ((relabel scope X.env).names.lookup x=some .cell∨(relabel scope X.env).names.lookup x=some .free)/\cl.lookup x=X.env.cells.lookup x
 |_,_,_,_,.nil _,e=>by simp at e
 |j,_,0,_,.cons h1 h2 h3 h4 h5 _,e=>by simp at e;subst e;exact⟨_,h1,h2,h3,h4,h5⟩
 |j,_,k+1,i,.cons _ _ _ _ _ t,e=>by
  obtain⟨x,q,r⟩:=t.get (k:=k) (i:=i) (by simpa using e);exact⟨x,by rw[show j+(k+1)=j+1+k by omega];exact q,r⟩
structure CompSc (X:Cx)(scope:Scope)(cl:List (Str×Addr)):Prop where
 clos:closureFor scope X.env=pure cl
 nocell:∀y∈scope.names,y.2≠.cell
 kind:scope.kind=.function
 names:∀y∈scope.names,y.2=.local->scope.names.lookup y.1=some .local
 sub:∀x c,cl.lookup x=some c->X.env.cells.lookup x=some c
 has:∀x,((relabel scope X.env).names.lookup x=some .cell∨(relabel scope X.env).names.lookup x=some .free)->∃c,cl.lookup x=some c
noncomputable def cW:List (Str×NameKind)->List (Str×Addr)->List (Str×Addr)->List (Str×Addr)
 |[],_,cs=>cs
 | (n,k)::r,cells,cs=>cW r cells (if k == .free then (match cells.lookup n with|some c=>(n,c)::cs|none=>cs)else cs)
theorem pi {env:PySem.Env}:∀(names:List (Str×NameKind))(cs:List (Str×Addr)),(∀y∈names,y.2=.free->(env.cells.lookup y.1).isSome=true) ->
    (do let mut cs:=cs
        for (name,kind)in names do
          if kind == .free then cs:=(name,←cellOf env name)::cs
        return cs:Sem (List (Str×Addr)))=pure (cW names env.cells cs):=by
  intro names;induction names with
  |nil=>intro cs _;rfl
  |cons y r ih=>
    intro cs h;obtain⟨n,k⟩:=y;have ih':=λcs=>ih cs λy hy=>h y (mZ _ hy);by_cases hk:k=.free
    . subst hk;have hc:=h (n,.free) mX rfl;cases q:env.cells.lookup n with
      |none=>rw[q]at hc;cases hc
      |some c=>
        have e1:cW ((n,.free)::r) env.cells cs=cW r env.cells ((n,c)::cs):=by
          rw[cW,q];rfl
        rw[e1,←ih' ((n,c)::cs)];have e2:cellOf env n=pure c:=by unfold cellOf;rw[q]
        simp only[List.forIn_cons,beq_self_eq_true,if_true,e2];rfl
    . have hb:(k == NameKind.free)=false:=by simpa using hk
      have e1:cW ((n,k)::r) env.cells cs=cW r env.cells cs:=by rw[cW,hb];rfl
      rw[e1,←ih' cs];simp only[List.forIn_cons,hb,Bool.false_eq_true,if_false];rfl
theorem jQ {cells:List (Str×Addr)}{x:Str}{c:Addr}:∀(names:List (Str×NameKind))(cs:List (Str×Addr)),(∀y d,cs.lookup y=some d->cells.lookup y=some d)->(cW names cells cs).lookup x=some c->cells.lookup x=some c
 |[],cs,h,e=>h x c e
 | (n,k)::r,cs,h,e=>by
  rw[cW]at e;refine jQ r _ (λy d q=>?_) e;split at q
  ·split at q
   ·rename_i c' ec;rw[List.lookup_cons]at q;split at q
    ·rename_i hy;cases q
     rw[eq_of_beq hy];exact ec
    ·exact h y d q
   ·exact h y d q
  ·exact h y d q
theorem pj {cells:List (Str×Addr)}{x:Str}:∀(names:List (Str×NameKind))(cs:List (Str×Addr)),(cs.lookup x).isSome=true->((cW names cells cs).lookup x).isSome=true
 |[],cs,h=>h
 | (n,k)::r,cs,h=>by
  rw[cW];refine pj r _ ?_;split
  ·split
   ·rw[List.lookup_cons];split
    ·rfl
    ·exact h
   ·exact h
  ·exact h
theorem jR {cells:List (Str×Addr)}{x:Str}:∀(names:List (Str×NameKind))(cs:List (Str×Addr)),(x,NameKind.free)∈names->(cells.lookup x).isSome=true->((cW names cells cs).lookup x).isSome=true
 | (n,k)::r,cs,hm,hc=>by
  rw[cW];rcases List.mem_cons.mp hm with e|e
  ·cases e
   refine pj r _ ?_;cases q:cells.lookup x with
   |none=>rw[q]at hc;cases hc
   |some c=>simp
  ·exact jR r _ e hc
theorem eF {α:Type}{x:Str}{k:α}:∀ {l:List (Str×α)},l.lookup x=some k->(x,k)∈l
 | (n,j)::r,h=>by
  rw[List.lookup_cons]at h;split at h
  ·rename_i e;cases h
   rw[eq_of_beq e];exact mX
  ·exact mZ _ (eF h)
theorem DI {X:Cx}{scope:Scope}(h1:∀y∈scope.names,y.2≠.cell)(h2:scope.kind=.function)(h3:∀y∈scope.names,y.2=.local->scope.names.lookup y.1=some .local)(h4':(scope.names.all λy=>!(y.2 == NameKind.free) || (X.env.cells.lookup y.1).isSome)=true):
  CompSc X scope (cW scope.names X.env.cells []):=by
 have h4:∀y∈scope.names,y.2=.free->(X.env.cells.lookup y.1).isSome=true:=λy hy e=>by
  have:=List.all_eq_true.mp h4' y hy;rw[e]at this;simpa using this
 have frees:∀x,((relabel scope X.env).names.lookup x=some .cell∨(relabel scope X.env).names.lookup x=some .free)->(x,NameKind.free)∈scope.names:=λx h=>by
  have:∃k,(x,k)∈(relabel scope X.env).names/\(k=.cell∨k=.free):=by
   rcases h with h|h
   ·exact⟨_,eF h,.inl rfl⟩
   ·exact⟨_,eF h,.inr rfl⟩
  obtain⟨k,hm,hk⟩:=this;obtain⟨⟨n,j⟩,hj,e⟩:=List.mem_map.mp hm;dsimp only at e;split at e
  ·rename_i hc;rw[Bool.and_eq_true,Bool.and_eq_true]at hc;cases e
   rw[←eq_of_beq hc.1.1];exact hj
  ·cases e
   rcases hk with rfl|rfl
   ·exact absurd rfl (h1 _ hj)
   ·exact hj
 exact⟨pi scope.names [] h4,h1,h2,h3,λx c e=>jQ scope.names [] (λy d q=>by cases q) e,λx h=>by
  have:=jR (x:=x) scope.names [] (frees x h) (h4 _ (frees x h) rfl);exact Option.isSome_iff_exists.mp this⟩
theorem mn {scope:Scope}{cells:List (Str×Addr)}{x:Str}(h:(x,NameKind.free)∈scope.names)(hc:(cells.lookup x).isSome=true):(cW scope.names cells []).lookup x=cells.lookup x:=by
 obtain⟨c,e⟩:=Option.isSome_iff_exists.mp (jR (x:=x) scope.names [] h hc);rw[e,jQ scope.names [] (λy d q=>by cases q) e]
noncomputable def oE (nT:Nat)(cap:List Nat)(σ:St):St:=List.replicate nT none++cap.map λi=>(σ[i]?).join
noncomputable def bW (nT:Nat)(cap:List Nat)(ρ:Env):Env:=List.replicate nT none++cap.map λi=>match ρ[i]? with|some (some (d,_))=>some (d,false)|_=>none
theorem qG {α:Type}{nT:Nat}{cap:List Nat}{f:Nat->Option α}{j:Nat}{v:α}(h:(List.replicate nT none++cap.map f)[j]? = some (some v)):∃k i,j=nT+k/\cap[k]? = some i/\f i=some v:=by
 by_cases hj:j<nT
 ·rw[List.getElem?_append_left (by simpa using hj),List.getElem?_replicate,if_pos hj]at h;cases h
 ·rw[List.getElem?_append_right (by simpa using Nat.not_lt.mp hj),List.length_replicate,List.getElem?_map]at h;obtain⟨i,h1,h2⟩:=oY h;exact⟨j - nT,i,by omega,h1,h2⟩
theorem Br {α:Type}{nT:Nat}{cap:List Nat}{f:Nat->Option α}{k i:Nat}{v:α}(h1:cap[k]? = some i)(h2:f i=some v):(List.replicate nT none++cap.map f)[nT+k]? = some (some v):=by
 rw[List.getElem?_append_right (by simp),List.length_replicate,List.getElem?_map,Nat.add_sub_cancel_left,h1];simp[h2]
theorem RepE.caps {K:PySem.W.Frag}{B:Hp}{σ:St}{ρ:Env}{nT:Nat}{cap:List Nat}(h:RepE K B σ ρ):RepE K B (oE nT cap σ) (bW nT cap ρ):=⟨h.tb,λj d b q=>by
 obtain⟨k,i,rfl,h1,h2⟩:=qG q;split at h2
 ·rename_i d' b' e;cases h2
  obtain⟨v,g1,g2⟩:=h.at' i _ _ e;exact⟨v,Br h1 (by rw[g1];rfl),g2⟩
 ·cases h2⟩
noncomputable def fR (tg:FG)(c:FT)(fe:FE)(ρ:Env):List D->Option (List D)
 |[]=>some []
 |d::r=>(tg d ρ).bind λρ1=>(c ρ1).bind λb=>if b=true then (fe ρ1).bind λx=>(fR tg c fe ρ r).map (x.1 :: ·)else fR tg c fe ρ r
@[simp] theorem E9 (tg:FG)(c:FT)(fe:FE)(ρ:Env):fR tg c fe ρ []=some []:=by rw[fR]
@[simp] theorem uL (tg:FG)(c:FT)(fe:FE)(ρ:Env)(d:D)(r:List D):fR tg c fe ρ (d::r)=(tg d ρ).bind λρ1=>(c ρ1).bind λb=>if b=true then (fe ρ1).bind λx=>(fR tg c fe ρ r).map (x.1 :: ·)else fR tg c fe ρ r:=by rw[fR]
@[simp] noncomputable def bS (fi:FA)(nT:Nat)(cap:List Nat)(tg:FG)(c:FT)(fe:FE):FE:=λρ=>(fi ρ).bind λitems=>if items.length<=sizeLine then (fR tg c fe (bW nT cap ρ) items).map λds=>(.lst ds,true)else none
noncomputable def TGE (K:PySem.W.Frag)(n:Nat)(tg:FG)(g:TG):Prop:=∀(B H:Hp)(σ:St)(ρ ρ1:Env)(v:V)(d:D)(Q:St->Hp->Prop),(∀i,i<n->ρ[i]? = some none)->RepE K B σ ρ->aM B H->Is K B v d->tg d ρ=some ρ1 ->
 ρ.length=σ.length->(∀σ1,RepE K B σ1 ρ1->(∀B',RepE K B' σ ρ->RepE K B' σ1 ρ)->ρ.length=σ1.length->Q σ1 H)->g v σ H Q
theorem bE {K:PySem.W.Frag}{n i:Nat}(hi:i<n):TGE K n (tgN i) (iG i):=by
 intro B H σ ρ ρ1 v d Q cl rep s h e hl k;cases e
 have hiσ:i<σ.length:=by
  have:=(List.getElem?_eq_some_iff.mp (cl i hi)).1;omega
 refine k _ ⟨rep.tb,λj e b q=>?_⟩ ?_ (by simpa using hl)
 ·rcases bI q with⟨rfl,p⟩|⟨ne,p⟩
  ·cases p
   exact⟨v,by simp[hiσ],h⟩
  ·obtain⟨w,h1,h2⟩:=rep.at' j e b p;exact⟨w,by rw[List.getElem?_set_ne ne];exact h1,h2⟩
 ·intro B' rep';refine⟨rep'.tb,λj e b q=>?_⟩;obtain⟨w,h1,h2⟩:=rep'.at' j e b q;have ne:i≠j:=λz=>by subst z;rw[cl i hi]at q;cases q
  exact⟨w,by rw[List.getElem?_set_ne ne];exact h1,h2⟩
noncomputable def JC (X:Cx)(ifs:List Expr)(c:FT):Prop:=∀(pins:List (Addr×Obj))(s:Shared)(σ:St)(H:Hp)(Q:Bool->Hp->Prop),Inv X pins σ H s->tDT X.K c σ H Q ->
 wpAny (model X.prog X.w) X.A (forIn ifs true λc r=>if r=true then do let ok ←isTrue c X.env (eval c X.env);pure (ForInStep.yield ok)else pure (ForInStep.yield r)) (TP X pins σ Q) X.xe s
@[simp] noncomputable def g8:FT:=λ_=>some true
theorem gU {X:Cx}:JC X [] g8:=by
 intro pins s σ H Q I h;obtain⟨B,ρ,c,sB,rep,e,q⟩:=h;cases e
 exact wpAny_tests_nil ⟨H,I,q H (.refl H)⟩
theorem fS {X:Cx}{e:Expr}{f:FT}(h:JT X e f):JC X [e] f:=λpins s σ H Q I q=>wpAny_tests_one (h pins s σ H Q I q)
theorem mH {X:Cx}(hcalm:X.calm=true){tg iter elt:Expr}{ifs:List Expr}{scope:Scope}{pos:Pos}{cl:List (Str×Addr)}{N':List Str}{nT:Nat}{cap:List Nat}{tgF:FG}{g:TG}{fc:FT}{fe:FE}
  (S:CompSc X scope cl) (cp:Caps X N' scope cl nT cap)
  (hg:∀C s H fp,PG (dQ X N' scope cl C s H fp) tg g) (htg:TGE X.K nT tgF g) (hc:∀C s H fp,JC (dQ X N' scope cl C s H fp) ifs fc) (he:∀C s H fp,JE (dQ X N' scope cl C s H fp) elt fe)
  {pins:List (Addr×Obj)}{σ:St}{H2:Hp}{s2:Shared}{it:Addr}{fp:List Addr}{tn:Nat->Heap->Prop}{J:It}{N1:Hp}{ρ:Env}{items ds:List D}{E:Value->Shared->Prop}
  (I2:Inv X pins σ H2 s2) (T:Turn X.prog X.w X.K tg J fp it tn) (st2:tn 0 s2.heap) (f2:∀b∈fp,kO X pins H2 b)
  (rep:RepE X.K N1 σ ρ) (sN:aM N1 H2) (J1:oD X.K J N1 items) (hsz:items.length<=sizeLine) (ec:fR tgF fc fe (bW nT cap ρ) items=some ds) {RR:Value->Addr->Result->Shared->Prop}
  (hRR:∀(Dd C:Addr)(s':Shared)(H' N:Hp)(vs:List V)(m:Str->Option Value),H2 Dd=none->Inv X pins σ H' s'->s'.heap.Ns C m->kO X pins H' C->Ext N1 N H2 H'->N Dd=some (.lst vs)->IsL X.K N vs ds->RR (.ref Dd) C (.ok .next) s'):
  wpAny (model X.prog X.w) X.A (newList []) (λacc s₃=>wpAny (model X.prog X.w) X.A (newFunctionEnv scope X.env.globals cl [] X.env.qual none .none (some X.env)) (λcenv s₄=>
   codeAny (model X.prog X.w) X.A (.compStart (.ListComp elt [⟨tg,iter,ifs,0⟩] scope pos) 0 (.ref it) acc { cenv with scope:=relabel scope X.env }) (RR acc cenv.locals) s₄) E s₃) E s2:=by
 refine wpAny_newObj_type (wpAny_newFunctionEnv S.nocell (by intro y hy;simp at hy) (λh₁ hns₁ hsb₁=>?_) S.kind);dsimp only at hns₁ hsb₁ ⊢;have hD:H2 s2.heap.objs.size=none:=I2.fresh;have I3:Inv X pins σ (upd H2 s2.heap.objs.size (.lst [])) { s2 with heap:=s2.heap.push { cls:=.type "list",dict:=none,data:=.seq ([]:List Value).toArray } }:=I2.lnew (t':=s2.toks) (ys:=[]) (its:=[]) .nil (Nat.zero_le _);generalize hH3:s2.heap.push { cls:=.type "list",dict:=none,data:=.seq ([]:List Value).toArray }=g3 at hns₁ hsb₁ I3 ⊢;have hC:g3.objs.size=s2.heap.objs.size+1:=by rw[←hH3,Heap.size_push]
 have old2:∀b o,s2.heap.get? b=some o->g3.get? b=some o:=λb o e=>hH3 ▸ Heap.get?_push_of_some _ e;have old3:∀b o,g3.get? b=some o->h₁.get? b=some o:=λb o e=>hsb₁.extBut b o (Nat.ne_of_lt (Heap.lt_size e)) (Heap.get?_push_of_some _ e);have neC:∀b o,g3.get? b=some o->b≠g3.objs.size:=λb o e=>Nat.ne_of_lt (Heap.lt_size e);have fpo:∀b∈fp,∃o,s2.heap.get? b=some o:=λb hb=>let ⟨o,e,_⟩:=T.obj 0 s2.heap st2 b hb;⟨o,e⟩;have fpD:∀b∈fp,b≠s2.heap.objs.size:=λb hb=>let ⟨o,e⟩:=fpo b hb;Nat.ne_of_lt (Heap.lt_size e);have fpC:∀b∈fp,b≠g3.objs.size:=λb hb=>let ⟨o,e⟩:=fpo b hb;neC b o (old2 b o e);have cellC:∀x c,X.env.cells.lookup x=some c->c≠g3.objs.size:=λx c e=>by
  obtain⟨v,z⟩:=I3.cell x c e;exact Nat.ne_of_lt z.lt
 have hHC:(upd H2 s2.heap.objs.size (HO.lst [])) g3.objs.size=none:=I3.hok.fresh (Nat.le_refl _);have stk:∀b∈frs X.stack,∃o,s2.heap.get? b=some o:=λb hb=>by
  obtain⟨_,o,ho,_⟩:=(I2.stack).mem hb;exact⟨o,ho⟩
 -- the block's context
 have ok:(dQ X N' scope cl g3.objs.size { s2 with heap:=g3 } (upd H2 s2.heap.objs.size (.lst [])) fp).Ok:=by
  refine⟨I2.ok.mod,?_,I2.ok.glob,I2.ok.blt,Nat.le_refl _,λx y c e1 e2=>I2.ok.inj x y c (S.sub x c e1) (S.sub y c e2),λx h=>S.has x h,λx c h=>absurd h Bool.false_ne_true,I2.ok.hd,I2.ok.frames,.inl rfl,λb hb=>⟨fpC b hb,λx c e=>(f2 b hb).2.2.2.2.1 x c (S.sub x c e)⟩,λb o e=>?_,?_,λb o e hb=>?_,λb hb hz=>?_,I3.stack,λb hb=>I3.stkFree b hb⟩
  ·show(relabel scope X.env).kind=.function;exact S.kind
  ·exact I3.bs b o e
  ·exact Nat.le_trans I3.ok.bsz I3.sz
  ·have h1:=(f2 b hb).2.2.2.1;rcases h1 with z|z
   ·exact I2.ok.noex b o e z
   ·exact absurd (Nat.lt_of_lt_of_le (Heap.lt_size e) (Nat.le_trans I2.ok.bsz z)) (Nat.lt_irrefl _)
  ·rcases List.mem_cons.mp (I2.stkSub b hz)with z|z
   ·exact(f2 b hb).2.1 z
   ·exact(f2 b hb).2.2.1 z
 have I4:Inv (dQ X N' scope cl g3.objs.size { s2 with heap:=g3 } (upd H2 s2.heap.objs.size (.lst [])) fp) [] (oE nT cap σ) (upd H2 s2.heap.objs.size (.lst [])) { s2 with heap:=h₁,toks:=s2.toks+([]:List (Str×Value)).length }:=by
  refine⟨ok,rfl,I2.bare,Un.kept old3,⟨_,hns₁,λj x v e1 e2 e3=>?_⟩,λx c e=>?_,hHC,λx c e=>I3.freeC x c (S.sub x c e),λp hp=>by simp at hp,I3.hok.kept old3,?_⟩
  ·obtain⟨k,i,rfl,h1,h2⟩:=qG e2;obtain⟨y,g1,g2,g3',g4,g5⟩:=cp.get h1;have e1':N'[nT+k]? = some x:=e1;rw[g1]at e1';cases e1';have h2':σ[i]? = some (some v):=by
    cases q:σ[i]? with
    |none=>rw[q]at h2;cases h2
    |some z=>rw[q]at h2;have:z=some v:=h2;rw[this]
   obtain⟨m,_,hl⟩:=I3.loc;obtain⟨u,r,l⟩:=hl i _ v g2 h2' (g3'.elim (λz=>.inr (.inl z)) λz=>.inr (.inr z));refine⟨u,r,?_⟩;rcases l with⟨l,_⟩|⟨_,c,lc,ic⟩
   ·rcases g3' with z|z<;>(rw[z]at l;cases l)
   ·refine .inr ⟨g4,c,by show cl.lookup _=some c;rw[g5];exact lc,?_⟩;obtain⟨o,ho,hd⟩:=ic;exact⟨o,old3 _ _ ho,hd⟩
  ·obtain⟨v,o,ho,hd⟩:=I3.cell x c (S.sub x c e);exact⟨v,o,old3 _ _ ho,hd⟩
  ·show(oE nT cap σ).length=N'.length;unfold oE;rw[cp.len];simp
 have fpX:∀ {H':Hp},(∀b∈fp,H' b=none)->∀b∈fp,kO (dQ X N' scope cl g3.objs.size { s2 with heap:=g3 } (upd H2 s2.heap.objs.size (.lst [])) fp) [] H' b:=λhn b hb=>
  ⟨hn b hb,fpC b hb,ok.exfs b hb,.inl hb,λx c e=>(f2 b hb).2.2.2.2.1 x c (S.sub x c e),λp hp=>by simp at hp⟩
 have clean:∀i,i<nT->(bW nT cap ρ)[i]? = some none:=λi hi=>by
  unfold bW;rw[List.getElem?_append_left (by simpa using hi),List.getElem?_replicate,if_pos hi]
 have hND:N1 s2.heap.objs.size=none:=sN.free hD;have loop:∀s₃:Shared,s₃={ s2 with heap:=h₁,toks:=s2.toks+([]:List (Str×Value)).length } ->
   codeAny (model X.prog X.w) X.A (.compLoop (.ListComp elt [⟨tg,iter,ifs,0⟩] scope pos) 0 (.ref it) (.ref s2.heap.objs.size) (compEnvC scope cl g3.objs.size X.env)) (RR (.ref s2.heap.objs.size) g3.objs.size) s₃:=by
  rintro s₃ rfl;refine qF (λn s'=>∃(i:Nat)(N:Hp)(vs:List V)(es:List D)(σ':St)(H':Hp),Inv (dQ X N' scope cl g3.objs.size { s2 with heap:=g3 } (upd H2 s2.heap.objs.size (.lst [])) fp) [] σ' H' s'/\tn i s'.heap/\(∀b∈fp,H' b=none) /\
   n=items.length - i/\i<=items.length/\RepE X.K N1 σ' (bW nT cap ρ)/\(bW nT cap ρ).length=σ'.length/\Ext N1 N H2 H'/\N s2.heap.objs.size=none/\H' s2.heap.objs.size=some (.lst vs)/\vs.length<=i/\IsL X.K N vs es /\
   ∃r,fR tgF fc fe (bW nT cap ρ) (items.drop i)=some r/\es++r=ds) ?_ items.length ?_
  ·rintro n s' ⟨i,N,vs,es,σ',H',I',ti,hn,rfl,hi,rp,hlen,x,hN0,hH0,hvl,hvs,r,er,eds⟩;have sH:aM N1 H':=x.bn.trans x.nh;by_cases hlt:i<items.length
   ·obtain⟨j1,_⟩:=J1 i H' sH;obtain⟨go,yl⟩:=j1 items[i] (by simp[hlt]);rw[List.drop_eq_getElem_cons hlt]at er;unfold fR at er;obtain⟨ρ1,e1,er⟩:=oX er;obtain⟨b,e2,er⟩:=oX er;refine thn (T.item (dQ X N' scope cl g3.objs.size { s2 with heap:=g3 } (upd H2 s2.heap.objs.size (.lst [])) fp) rfl rfl rfl hcalm i [] s' σ' H' (λ_ _=>False) I' (fpX hn) ti go) λq s4 hq=>?_;obtain⟨u,rfl,hq⟩:=hq;refine thn hq λ_ s5 hq=>?_;obtain⟨xv,H5,I5,rx,y5,t5,fr5⟩:=hq;obtain⟨N5,x5,i5⟩:=yl xv H5 y5
    -- all that may be named at this turn
    have x6:Ext N (join N N5) H' H5:=by
     refine⟨x5.hh,dA,λa o e=>?_,λa o e=>?_⟩
     ·cases z:N a with
      |some u'=>rw[dA _ _ z]at e;cases e;exact x5.hh _ _ (x.nh _ _ z)
      |none=>rw[dm z]at e;exact x5.nh _ _ e
     ·cases z:N a with
      |some u'=>rw[dA _ _ z]at e;cases e;exact .inl rfl
      |none=>
       rw[dm z]at e;rcases x5.new a o e with z'|z'
       ·rw[x.bn _ _ z']at z;cases z
       ·exact .inr z'
    have c5:aM N5 (join N N5):=λa o e=>by
     rcases x5.new a o e with z|z
     ·exact dA _ _ (x.bn _ _ z)
     ·rw[dm (x.nh.free z)];exact e
    have hN5:(join N N5) s2.heap.objs.size=none:=by
     cases z:join N N5 s2.heap.objs.size with
     |none=>rfl
     |some o=>
      rcases x6.new _ _ z with z'|z'
      ·rw[hN0]at z';cases z'
      ·rw[hH0]at z';cases z'
    have fin:∀(s9:Shared)(σ9:St)(H9 N9:Hp)(vs9:List V)(es9:List D),Inv (dQ X N' scope cl g3.objs.size { s2 with heap:=g3 } (upd H2 s2.heap.objs.size (.lst [])) fp) (kP fp s5.heap) σ9 H9 s9 ->
      RepE X.K N1 σ9 (bW nT cap ρ)->(bW nT cap ρ).length=σ9.length->Ext N1 N9 H2 H9->N9 s2.heap.objs.size=none->H9 s2.heap.objs.size=some (.lst vs9)->vs9.length<=i+1->IsL X.K N9 vs9 es9 ->
      (∃r,fR tgF fc fe (bW nT cap ρ) (items.drop (i+1))=some r/\es9++r=ds)->∃m,m<items.length - i/\∃(i:Nat)(N:Hp)(vs:List V)(es:List D)(σ':St)(H':Hp),Inv (dQ X N' scope cl g3.objs.size { s2 with heap:=g3 } (upd H2 s2.heap.objs.size (.lst [])) fp) [] σ' H' s9/\tn i s9.heap/\(∀b∈fp,H' b=none) /\
       m=items.length - i/\i<=items.length/\RepE X.K N1 σ' (bW nT cap ρ)/\(bW nT cap ρ).length=σ'.length/\Ext N1 N H2 H'/\N s2.heap.objs.size=none/\H' s2.heap.objs.size=some (.lst vs)/\vs.length<=i/\IsL X.K N vs es /\
       ∃r,fR tgF fc fe (bW nT cap ρ) (items.drop i)=some r/\es++r=ds:=λs9 σ9 H9 N9 vs9 es9 I9 rp9 l9 x9 n9 h9 v9 i9 er9=>by
     refine⟨items.length - (i+1),by omega,i+1,N9,vs9,es9,σ9,H9,I9.pins_of λp hp=>by simp at hp,T.keep _ _ _ t5 λb hb o e=>(I9.pin (b,o) (mY _ (gS hb e))).1,λb hb=>?_,rfl,hlt,rp9,l9,x9,n9,h9,v9,i9,er9⟩;obtain⟨o,e,d⟩:=T.obj _ _ t5 b hb;exact(I9.pin (b,o) (mY _ (gS hb e))).2.1
    have I5':Inv (dQ X N' scope cl g3.objs.size { s2 with heap:=g3 } (upd H2 s2.heap.objs.size (.lst [])) fp) (kP fp s5.heap) σ' H5 s5:=by
     have:=I5.pinned (fpX fr5) (T.obj _ _ t5);rwa [List.nil_append]at this
    have sN5:aM (join N N5) H5:=x6.nh;refine thn (hg _ _ _ _ _ s5 σ' H5 xv u (λσ6 H6=>H6=H5/\RepE X.K (join N N5) σ6 ρ1/\RepE X.K N1 σ6 (bW nT cap ρ)/\(bW nT cap ρ).length=σ6.length) I5' rx ?_) λ_ s6 ⟨σ6,H6,I6,eH,rp6,rq6,l6⟩=>?_
    ·refine htg (join N N5) H5 σ' (bW nT cap ρ) ρ1 xv items[i] _ clean (rp.mono (x.bn.trans dA)) sN5 (i5.mono c5) e1 hlen λσ1 r1 r2 l1=>⟨rfl,r1,r2 N1 rp,l1⟩
    ·subst eH;have hH5:H6 s2.heap.objs.size=some (.lst vs):=x5.hh _ _ hH0;refine thn (hc _ _ _ _ _ s6 σ6 H6 (λc H7=>c=b/\aM H6 H7) I6 ⟨join N N5,ρ1,b,sN5,rp6,e2,λH7 h7=>⟨rfl,h7⟩⟩) λok s7 ⟨H7,I7,eb,h7⟩=>?_;subst eb;have x7:Ext N1 (join N N5) H2 H7:=(x.trans x6).trans (.grow sN5 h7);cases ok with
     |false=>
      rw[if_neg (by decide)]at er ⊢;exact fin s7 σ6 H7 (join N N5) vs es I7 rq6 l6 x7 hN5 (h7 _ _ hH5) (Nat.le_succ_of_le hvl) (hvs.mono dA) ⟨r,er,eds⟩
     |true=>
      rw[if_pos rfl]at er ⊢;obtain⟨y,e3,er⟩:=oX er;obtain⟨r',e4,er⟩:=oY er;subst er;refine thn (he _ _ _ _ _ s7 σ6 H7 (λv H8=>∃N8,Ext (join N N5) N8 H7 H8/\Is X.K N8 v y.1) I7 ⟨join N N5,ρ1,y.1,y.2,sN5.trans h7,rp6,e3,λv H8 N8 x8 i8 _=>⟨N8,x8,i8⟩⟩) λw8 s8 ⟨v8,H8,I8,r8,N8,x8,i8⟩=>?_;have hH8:H8 s2.heap.objs.size=some (.lst vs):=x8.hh _ _ (h7 _ _ hH5);refine thn (pc _ s8 σ6 H8 (.ref s2.heap.objs.size) [v8] (.ref s2.heap.objs.size) [w8] (λ_ H9=>H9=upd H8 s2.heap.objs.size (.lst (vs++[v8]))) I8 rfl (.cons r8 .nil) ⟨_,vs,v8,rfl,rfl,hH8,by omega,rfl⟩) λ_ s9 ⟨_,H9,I9,_,e9⟩=>?_;subst e9;have hN8:N8 s2.heap.objs.size=none:=by
       cases z:N8 s2.heap.objs.size with
       |none=>rfl
       |some o=>
        rcases x8.new _ _ z with z'|z'
        ·rw[hN5]at z';cases z'
        ·rw[h7 _ _ hH5]at z';cases z'
      refine fin s9 σ6 _ N8 (vs++[v8]) (es++[y.1]) I9 rq6 l6 ((x7.trans x8).upd hD hN8) hN8 a0 (by rw[List.length_append,List.length_singleton];omega) ((hvs.mono (dA.trans x8.bn)).append (.cons i8 .nil)) ⟨r',e4,by rw[List.append_assoc];exact eds⟩
   ·have ei:i=items.length:=by omega
    subst ei;rw[List.drop_eq_nil_of_le (Nat.le_refl _)]at er;cases er
    rw[List.append_nil]at eds;subst eds;refine thn (T.done (dQ X N' scope cl g3.objs.size { s2 with heap:=g3 } (upd H2 s2.heap.objs.size (.lst [])) fp) rfl rfl rfl hcalm items.length [] s' σ' H' (λ_ _=>False) I' (fpX hn) ti ((J1 _ H' sH).2 (Nat.le_refl _))) λq s4 ⟨hq,I9⟩=>?_;subst hq;obtain⟨m,hm,_⟩:=I9.loc;have u1:Un (frs X.stack) fp H2 (upd H2 s2.heap.objs.size (.lst [])) s2.heap g3:=Un.laid old2 (Nat.le_refl _) hD;have x9:Ext N1 (upd N s2.heap.objs.size (.lst vs)) H2 H':=by
     refine⟨x.hh,x.bn.trans λa o e=>by rw[aB (λz=>by subst z;rw[hN0]at e;cases e)];exact e,λa o e=>?_,λa o e=>?_⟩
     ·by_cases z:a=s2.heap.objs.size
      ·subst z;rw[a0]at e;cases e;exact hH0
      ·rw[aB z]at e;exact x.nh _ _ e
     ·by_cases z:a=s2.heap.objs.size
      ·subst z;exact .inr hD
      ·rw[aB z]at e;exact x.new _ _ e
    refine hRR s2.heap.objs.size g3.objs.size s4 H' (upd N s2.heap.objs.size (.lst vs)) vs m hD (I2.call' (ch:=fp) I9.os (u1.trans I9.base) I9.hok I9.bare λb hb=>⟨(f2 b hb).2.2.2.1,(f2 b hb).2.1,(f2 b hb).2.2.2.2.1,(f2 b hb).2.2.2.2.2⟩) hm (I2.fpOk (by rw[hC];exact Nat.le_succ _) I9.free) x9 a0
     (hvs.mono λa o e=>by rw[aB (λz=>by subst z;rw[hN0]at e;cases e)];exact e)
  ·refine⟨0,N1,[],[],oE nT cap σ,_,I4,T.keep _ _ _ st2 λb hb o e=>old3 _ _ (old2 _ _ e),λb hb=>?_,rfl,Nat.zero_le _,rep.caps,?_,(Ext.refl sN).upd hD hND,hND,a0,Nat.zero_le _,.nil,ds,by simpa using ec,rfl⟩
   ·rw[aB (fpD b hb)];exact(f2 b hb).1
   ·unfold bW oE;simp
 exact codeAny_compStart_list (loop _ rfl) (T.self _ 0 _ _ _ (T.keep _ _ _ st2 λb hb o e=>old3 _ _ (old2 _ _ e)) (loop _ rfl))
theorem Bs {X:Cx}(hcalm:X.calm=true){tg iter elt:Expr}{ifs:List Expr}{scope:Scope}{pos:Pos}{cl:List (Str×Addr)}{N':List Str}{nT:Nat}{cap:List Nat}{fi:FA}{tgF:FG}{g:TG}{fc:FT}{fe:FE}
  (S:CompSc X scope cl) (cp:Caps X N' scope cl nT cap) (hi:JI X tg iter fi)
  (hg:∀C s H fp,PG (dQ X N' scope cl C s H fp) tg g) (htg:TGE X.K nT tgF g) (hc:∀C s H fp,JC (dQ X N' scope cl C s H fp) ifs fc) (he:∀C s H fp,JE (dQ X N' scope cl C s H fp) elt fe)
  (hs:∀x,foldedSetIterable iter X.env x=pure x:=by intro _;rfl):
  JE X (.ListComp elt [⟨tg,iter,ifs,0⟩] scope pos) (bS fi nT cap tgF fc fe):=by
 intro pins s σ H Q I h;obtain⟨B,ρ,d,b,sB,rep,e,q⟩:=h;obtain⟨items,ei,e⟩:=oX e;have hsz:items.length<=sizeLine:=Decidable.byContradiction λz=>by rw[if_neg z]at e;cases e
 rw[if_pos hsz]at e;obtain⟨ds,ec,e⟩:=oY e;cases e
 rw[eval_ListComp];refine wpAny_comprehension_free (use:=none) rfl hs S.clos S.kind S.names (thn (hi pins s σ H (λJ H2=>∃N1,Ext B N1 H H2/\oD X.K J N1 items) I ⟨B,ρ,items,sB,rep,ei,λJ H2 N1 x1 j1=>⟨N1,x1,j1⟩⟩) λv s1 h1=>thn h1 λitv s2 h2=>?_);obtain⟨it,fp,tn,J,H2,e,I2,T,st2,f2,N1,x1,j1⟩:=h2;subst e;refine mH hcalm S cp hg htg hc he I2 T st2 f2 (rep.mono x1.bn) x1.nh j1 hsz ec (RR:=λacc C=>compPost (model X.prog X.w) X.A X.xe none (EP X pins σ Q) acc C) ?_;intro Dd C s' H' N vs m hD I' hm fC x hN hl;refine⟨m,hm,λh' hs'=>⟨.ref Dd,H',?_,rfl,q _ H' N (x1.trans x) (.lst (SqL.of hN) hl) λ_=>⟨Dd,vs,ds,rfl,rfl,x1.hh.free hD,hN,hl⟩⟩⟩;obtain⟨c0,c1,c2,c3,c4,c5⟩:=fC;exact I'.turned (t':=s'.toks) (λb o hb e=>(hs'.2 b hb).trans e) c0 c1 c3 c4 c5
theorem Bt {X:Cx}(hcalm:X.calm=true){tg iter elt:Expr}{ifs:List Expr}{scope:Scope}{pos spos py:Pos}{cl:List (Str×Addr)}{N':List Str}{nT:Nat}{cap:List Nat}{fi:FA}{tgF:FG}{g:TG}{fc:FT}{fe:FE}{y:Str}{i:Nat}
  (hN:X.N.Nodup) (hi':X.N[i]? = some y) (hy:X.env.kindOf y=some .local)
  (hsw:swapsWith (.ListComp elt [⟨tg,iter,ifs,0⟩] scope pos) (some (.Name y py)) spos.line X.env=pure true)
  (S:CompSc X scope cl) (cp:Caps X N' scope cl nT cap) (hi:JI X tg iter fi)
  (hg:∀C s H fp,PG (dQ X N' scope cl C s H fp) tg g) (htg:TGE X.K nT tgF g) (hc:∀C s H fp,JC (dQ X N' scope cl C s H fp) ifs fc) (he:∀C s H fp,JE (dQ X N' scope cl C s H fp) elt fe)
  (hs:∀x,foldedSetIterable iter X.env x=pure x:=by intro _;rfl):
  JS X (.Assign [.Name y py] (.ListComp elt [⟨tg,iter,ifs,0⟩] scope pos) spos) (aS i (bS fi nT cap tgF fc fe)):=by
 intro pins s σ H E I h;have h2:xA (tD X.K (bS fi nT cap tgF fc fe)) (iG i) E σ H:=wc h;obtain⟨B,ρ,d,b,sB,rep,e,q⟩:=h2;obtain⟨items,ei,e⟩:=oX e;have hsz:items.length<=sizeLine:=Decidable.byContradiction λz=>by rw[if_neg z]at e;cases e
 rw[if_pos hsz]at e;obtain⟨ds,ec,e⟩:=oY e;cases e
 rw[exec_Assign_Name_used _ _ _ _ hsw];refine wX (wpAny_standAt (wX ?_));show wpAny _ _ (do let _ ←comprehension (.ListComp elt [⟨tg,iter,ifs,0⟩] scope pos) scope X.env _ (newList []) false (eval iter X.env) (some (assign (.Name y py) X.env))) _ _ s;refine wX (wpAny_mono (wpAny_comprehension_free (use:=some (assign (.Name y py) X.env)) (Q:=λ_ s'=>SP X pins E .next s') rfl hs S.clos S.kind S.names
  (thn (hi pins s σ H (λJ H2=>∃N1,Ext B N1 H H2/\oD X.K J N1 items) I ⟨B,ρ,items,sB,rep,ei,λJ H2 N1 x1 j1=>⟨N1,x1,j1⟩⟩) λv s1 h1=>thn h1 λitv s2 h2=>?_)) (λ_ s' hq=>wY (wY hq)) λ_ _ e=>e)
 obtain⟨it,fp,tn,J,H2,e,I2,T,st2,f2,N1,x1,j1⟩:=h2;subst e;refine mH hcalm S cp hg htg hc he I2 T st2 f2 (rep.mono x1.bn) x1.nh j1 hsz ec (RR:=λacc C=>compPost (model X.prog X.w) X.A X.xe (some (assign (.Name y py) X.env)) (λ_ s'=>SP X pins E .next s') acc C) ?_;intro Dd C s' H' N vs m hD I' hm fC x hN' hl;show wpAny _ _ (assign (.Name y py) X.env (.ref Dd)) _ _ s';obtain⟨c0,c1,c2,c3,c4,c5⟩:=fC;refine wpAny_assign_Name (oR I' hN hi' (.inl hy) (r:=show aL (.ref Dd) (.ref Dd)from rfl) (λs9 I9 ⟨a,sb,ha⟩=>?_) (.inr hy));have nC:C≠a:=by
  rcases ha with z|z
  ·rw[z];exact c1
  ·exact λw=>c4 y a z w.symm
 refine⟨m,hm.sameBut sb nC,λh' hs'=>⟨_,H',?_,q _ H' N (x1.trans x) (.lst (SqL.of hN') hl) λ_=>⟨Dd,vs,ds,rfl,rfl,x1.hh.free hD,hN',hl⟩⟩⟩;exact I9.turned (t':=s9.toks) (λb o hb e=>(hs'.2 b hb).trans e) c0 c1 c3 c4 c5
section
variable {X:Cx}{a b c e:Expr}{pos:Pos}
theorem PE.to {t t':TE}(h:PE X e t)(k:∀σ H Q,t' σ H Q->t σ H Q):PE X e t':=λpins s σ H Q I q=>h pins s σ H Q I (k σ H Q q)
theorem PT.to {t t':TT}(h:PT X e t)(k:∀σ H Q,t' σ H Q->t σ H Q):PT X e t':=λpins s σ H Q I q=>h pins s σ H Q I (k σ H Q q)
theorem PW.to {t t':TT}(h:PW X e t)(k:∀σ H Q,t' σ H Q->t σ H Q):PW X e t':=λwh pins s σ H Q I q=>h wh pins s σ H Q I (k σ H Q q)
theorem PA.to {es:List Expr}{t t':TA}(h:PA X es t)(k:∀σ H Q,t' σ H Q->t σ H Q):PA X es t':=λpos pins s σ H Q I q=>h pos pins s σ H Q I (k σ H Q q)
theorem PS.to {st:Stmt}{t t':TS}(h:PS X st t)(k:∀E σ H,t' E σ H->t E σ H):PS X st t':=λpins s σ H E I q=>h pins s σ H E I (k E σ H q)
theorem PSs.to {st:List Stmt}{t t':TS}(h:PSs X st t)(k:∀E σ H,t' E σ H->t E σ H):PSs X st t':=λpins s σ H E I q=>h pins s σ H E I (k E σ H q)
theorem PI.to {tg it:Expr}{t t':TI}(h:PI X tg it t)(k:∀σ H Q,t' σ H Q->t σ H Q):PI X tg it t':=λpins s σ H Q I q=>h pins s σ H Q I (k σ H Q q)
theorem xQ {K:PySem.W.Frag}{d:D}{v:V}(i:∀B,Is K B v d){σ:St}{H:Hp}{Q:VK}(h:tD K (fC d) σ H Q):tC v σ H Q:=by
 obtain⟨B,ρ,d',b,s,r,e,q⟩:=h;cases e
 exact q.one s (i B)
theorem ac (i:Nat){x:Str}(hN:X.N[i]? = some x:=by rfl)(hv:Vis X.env.scope x:=by first|exact Or.inl rfl|exact Or.inr (Or.inl rfl)|exact Or.inr (Or.inr rfl))(hd:(x == ("__debug__" : Str))=false:=by decide)
  (hcd:(x == ("__classdict__" : Str))=false:=by decide):JE X (.Name x pos) (af i):=PE.to (kN hN hv hd hcd) λ_ _ _ h=>DG h
theorem ah {i:Int}{j:Nat}:JE X (.Constant (.int i) j pos) (fC (.int i)):=PE.to Df λ_ _ _ h=>xQ (λ_=>.int i) h
theorem fT {i:Bool}{j:Nat}:JE X (.Constant (.bool i) j pos) (fC (.bl i)):=PE.to EI λ_ _ _ h=>xQ (λ_=>.bl i) h
theorem c7 {j:Nat}:JE X (.Constant .none j pos) (fC .non):=PE.to Dg λ_ _ _ h=>xQ (λ_=>.non) h
theorem ax {x:Str}{j:Nat}:JE X (.Constant (.str x) j pos) (fC (.str x)):=PE.to Dh λ_ _ _ h=>xQ (λ_=>.str x) h
theorem Bu {x:Str}{v:V}{d:D}{u:Value}(hg:Gl X x)(hm:X.mg x=some u)(r:aL v u)(i:∀B,Is X.K B v d)(hd:(x == ("__debug__" : Str))=false:=by decide):JE X (.Name x pos) (fC d):=PE.to (vV hg hm r hd) λ_ _ _ h=>xQ i h
theorem aE {op:Operator}{f:D->D->Option (D×Bool)}{fa fb:FE}(ho:OpR X (binaryOp op) (rD X.K f))(ha:JE X a fa)(hb:JE X b fb):JE X (.BinOp a op b pos) (f2 f fa fb):=PE.to (EZ ho ha hb) λ_ _ _ h=>Bk h
theorem C3 {op:UnaryOp}{f:D->Option (D×Bool)}{fa:FE}(ho:UnR X (unaryOp op) (rDU X.K f))(ha:JE X a fa):JE X (.UnaryOp op a pos) (f1 f fa):=PE.to (Fa ho ha) λ_ _ _ h=>G7 h
theorem cX {op:CmpOp}{f:D->D->Option (D×Bool)}{fa fb:FE}(ho:OpR X (compareOp op) (rD X.K f))(ha:JE X a fa)(hb:JE X b fb)(hm:behindInMarks op b=false:=by first|exact iF _ (by decide) (by decide)|rfl):JE X (.Compare a [op] [b] pos) (f2 f fa fb):=PE.to (AV ho ha hb hm) λ_ _ _ h=>Bk h
theorem qH {K:PySem.W.Frag}{f:FE}{σ:St}{H:Hp}{Q:Bool->Hp->Prop}(h:tDT K (tOf f) σ H Q):tD K f σ H λx H'=>∃k,x=.bl k/\Q k H':=by
 obtain⟨B,ρ,c,s,r,e,q⟩:=h;unfold tOf at e;split at e
 ·rename_i c' b' ef;cases e
  refine⟨B,ρ,.bl c,b',s,r,ef,λv H' N x i _=>?_⟩;cases i
  exact⟨c,rfl,q H' x.hh⟩
 ·cases e
theorem az {op:CmpOp}{f:D->D->Option (D×Bool)}{fa fb:FE}(ho:OpR X (compareOp op) (rD X.K f))(ha:JE X a fa)(hb:JE X b fb)(hm:behindInMarks op b=false:=by first|exact iF _ (by decide) (by decide)|rfl):JT X (.Compare a [op] [b] pos) (tOf (f2 f fa fb)) :=
 PT.to (AW ho ha hb hm) λ_ _ _ h=>Bk (qH h)
theorem cY {f:FE}(h:JE X e f)(he:∀whole,isTrue e X.env whole=(do let v ←whole;standAt e.pos;holding [v] (truthy v)):=by intro _;rfl):JT X e (tOf f):=PT.to (Di h he) λ_ _ _ q=>qH q
@[simp] noncomputable def kW (f g:D->D->Option (D×Bool))(fa fb fc:FE):FE:=λρ=>(fa ρ).bind λx=>(fb ρ).bind λy=>match f x.1 y.1 with
 |some (.bl true,_)=>(fc ρ).bind λz=>g y.1 z.1
 |some (.bl false,_)=>some (.bl false,false)
 |_=>none
theorem zk {K:PySem.W.Frag}{f g:D->D->Option (D×Bool)}{fa fb fc:FE}{σ:St}{H:Hp}{Q:VK}(h:tD K (kW f g fa fb fc) σ H Q):yQ (rD K f) (rD K g) (tD K fa) (tD K fb) (tD K fc) σ H Q:=by
 obtain⟨B,ρ,d,b,s,r,e,q⟩:=h;obtain⟨x,ex,e⟩:=oX e;obtain⟨y,ey,e⟩:=oX e;refine⟨B,ρ,x.1,x.2,s,r,ex,λv H1 N1 x1 i1 _=>⟨N1,ρ,y.1,y.2,x1.nh,r.mono x1.bn,ey,λv2 H2 N2 x2 i2 _=>?_⟩⟩;split at e
 ·rename_i b' ef;obtain⟨z,ez,e⟩:=oX e;refine⟨N2,x.1,y.1,.bl true,b',x2.nh,i1.mono x2.bn,i2,ef,λv3 H3 N3 x3 i3 _=>?_⟩;cases i3
  refine⟨true,rfl,?_⟩;rw[if_pos rfl];refine⟨N3,ρ,z.1,z.2,x3.nh,r.mono (x1.bn.trans (x2.bn.trans x3.bn)),ez,λv4 H4 N4 x4 i4 _=>⟨N4,y.1,z.1,d,b,x4.nh,i2.mono (x3.bn.trans x4.bn),i4,e,?_⟩⟩;exact q.into ((x1.trans x2).trans (x3.trans x4))
 ·rename_i b' ef;cases e
  refine⟨N2,x.1,y.1,.bl false,b',x2.nh,i1.mono x2.bn,i2,ef,λv3 H3 N3 x3 i3 _=>?_⟩;cases i3
  refine⟨false,rfl,?_⟩;rw[if_neg (by decide)];exact(q.into ((x1.trans x2).trans x3)).one x3.nh (.bl false)
 ·cases e
theorem zl {op op':CmpOp}{f g:D->D->Option (D×Bool)}{fa fb fc:FE}(ho:OpR X (compareOp op) (rD X.K f))(ho':OpR X (compareOp op') (rD X.K g))(ha:JE X a fa)(hb:JE X b fb)(hc:JE X c fc)
  (hm:lastMarks [op,op'] [b,c]=false:=by with_unfolding_all rfl):JE X (.Compare a [op,op'] [b,c] pos) (kW f g fa fb fc):=PE.to (yR ho ho' ha hb hc hm) λ_ _ _ h=>zk h
theorem Bv {K:PySem.W.Frag}{f g:FT}{σ:St}{H:Hp}{Q:Bool->Hp->Prop}(h:tDT K (aY f g) σ H Q):EK (tDT K f) (tDT K g) σ H Q:=by
 obtain⟨B,ρ,c,s,r,e,q⟩:=h;unfold aY at e;cases ef:f ρ with
 |none=>rw[ef]at e;cases e
 |some k=>
  rw[ef]at e;refine⟨B,ρ,k,s,r,ef,λH1 h1=>?_⟩;cases k with
  |true=>rw[if_pos rfl];exact⟨B,ρ,c,s.trans h1,r,e,λH2 h2=>q H2 (h1.trans h2)⟩
  |false=>rw[if_neg (by decide)];cases e;exact q H1 h1
theorem DJ {K:PySem.W.Frag}{f g:FT}{σ:St}{H:Hp}{Q:Bool->Hp->Prop}(h:tDT K (dj f g) σ H Q):tOr (tDT K f) (tDT K g) σ H Q:=by
 obtain⟨B,ρ,c,s,r,e,q⟩:=h;unfold dj at e;cases ef:f ρ with
 |none=>rw[ef]at e;cases e
 |some k=>
  rw[ef]at e;refine⟨B,ρ,k,s,r,ef,λH1 h1=>?_⟩;cases k with
  |false=>rw[if_neg (by decide)];exact⟨B,ρ,c,s.trans h1,r,e,λH2 h2=>q H2 (h1.trans h2)⟩
  |true=>rw[if_pos rfl];cases e;exact q H1 h1
theorem Bw {K:PySem.W.Frag}{f:FT}{σ:St}{H:Hp}{Q:Bool->Hp->Prop}(h:tDT K (dO f) σ H Q):EL (tDT K f) σ H Q:=by
 obtain⟨B,ρ,c,s,r,e,q⟩:=h;obtain⟨k,ek,e⟩:=oY e;subst e;exact⟨B,ρ,k,s,r,ek,λH1 h1=>q H1 h1⟩
variable {aC:List Expr}
theorem cz {f:FT}(ha:JT X a f):JW X (.BoolOp .And [a] pos) f:=AN ha
theorem f8 {f:FT}(ha:JT X a f):JW X (.BoolOp .Or [a] pos) f:=Dj ha
theorem cb {f g:FT}(ha:JT X a f)(hb:JW X (.BoolOp .And (b::aC) pos) g):JW X (.BoolOp .And (a::b::aC) pos) (aY f g):=PW.to (Dk ha hb) λ_ _ _ h=>Bv h
theorem fB {f g:FT}(ha:JT X a f)(hb:JW X (.BoolOp .Or (b::aC) pos) g):JW X (.BoolOp .Or (a::b::aC) pos) (dj f g):=PW.to (EM ha hb) λ_ _ _ h=>DJ h
theorem eD {f:FT}(h:JW X e f):JT X e f:=h.pt
theorem gV {f:FT}(ha:JT X a f):JT X (.UnaryOp .Not a pos) (dO f):=PT.to (Dl ha) λ_ _ _ h=>Bw h
@[simp] noncomputable def lY (f g:FE):FE:=λρ=>match f ρ with|some (.bl true,_)=>g ρ|some (.bl false,_)=>some (.bl false,false)|_=>none
@[simp] noncomputable def fOr (f g:FE):FE:=λρ=>match f ρ with|some (.bl true,_)=>some (.bl true,false)|some (.bl false,_)=>g ρ|_=>none
@[simp] noncomputable def Hb (f:FE):FE:=λρ=>match f ρ with|some (.bl c,_)=>some (.bl (!c),false)|_=>none
theorem ju {f g:FE}(ha:JE X a f)(hb:JE X (.BoolOp .And (b::aC) pos) g):JE X (.BoolOp .And (a::b::aC) pos) (lY f g):=PE.to (Dn ha hb) λσ H Q h=>by
 obtain⟨B,ρ,d,k,s,r,e,q⟩:=h;unfold lY at e;split at e
 ·rename_i b' ef;refine⟨B,ρ,_,_,s,r,ef,λv H1 N1 x1 i1 _=>?_⟩;cases i1
  refine⟨true,rfl,?_⟩;rw[if_pos rfl];exact⟨N1,ρ,d,k,x1.nh,r.mono x1.bn,e,q.into x1⟩
 ·rename_i b' ef;cases e
  refine⟨B,ρ,_,_,s,r,ef,λv H1 N1 x1 i1 _=>?_⟩;cases i1
  refine⟨false,rfl,?_⟩;rw[if_neg (by decide)];exact(q.into x1).one x1.nh (.bl false)
 ·cases e
theorem Fz {f g:FE}(ha:JE X a f)(hb:JE X (.BoolOp .Or (b::aC) pos) g):JE X (.BoolOp .Or (a::b::aC) pos) (fOr f g):=PE.to (EO ha hb) λσ H Q h=>by
 obtain⟨B,ρ,d,k,s,r,e,q⟩:=h;unfold fOr at e;split at e
 ·rename_i b' ef;cases e
  refine⟨B,ρ,_,_,s,r,ef,λv H1 N1 x1 i1 _=>?_⟩;cases i1
  refine⟨true,rfl,?_⟩;rw[if_pos rfl];exact(q.into x1).one x1.nh (.bl true)
 ·rename_i b' ef;refine⟨B,ρ,_,_,s,r,ef,λv H1 N1 x1 i1 _=>?_⟩;cases i1
  refine⟨false,rfl,?_⟩;rw[if_neg (by decide)];exact⟨N1,ρ,d,k,x1.nh,r.mono x1.bn,e,q.into x1⟩
 ·cases e
theorem jw {op:BoolOp}{f:FE}(h:JE X a f):JE X (.BoolOp op [a] pos) f:=Dm h
variable {es:List Expr}
theorem ag:JA X [] ak:=PA.to jt λ_ _ _ h=>Bm h
theorem ae {f:FE}{g:FA}(ha:JE X e f)(hr:JA X es g)(hs:starEach (e::es) X.env=(false,eval e X.env)::starEach es X.env:=by rfl):JA X (e::es) (ab f g):=PA.to (gT ha hr hs) λ_ _ _ h=>zf h
@[simp] noncomputable def aI:List D->Option (D×Bool):=λds=>if ds.length<=sizeLine then some (.tup ds,false)else none
@[simp] noncomputable def bq:List D->Option (D×Bool):=λds=>if ds.length<=sizeLine then some (.lst ds,true)else none
theorem aT {x1}{f:FA}(h:JA X es f):JE X (.Tuple es x1 pos) (fA aI f):=PE.to (uC h) λσ H Q q=>by
 obtain⟨B,ρ,ds,s,r,e,k⟩:=Bl q;refine⟨B,ρ,ds,s,r,e,λvs H1 N1 x1 i1=>?_⟩;obtain⟨B2,ds2,d,b,s2,i2,e2,k2⟩:=k vs H1 N1 x1 i1;unfold aI at e2;split at e2
 ·rename_i hz;cases e2
  refine⟨by rw[i2.length];exact hz,λp hp=>k2 _ _ (upd B2 p (.tup vs)) (.laid s2 hp) (.tup (SqT.of a0) (i2.mono (Ext.laid s2 hp).bn)) (by simp)⟩
 ·cases e2
theorem b8 {f:FA}(h:JA X es f):JE X (.List es pos) (fA bq f):=PE.to (D3 h) λσ H Q q=>by
 obtain⟨B,ρ,ds,s,r,e,k⟩:=Bl q;refine⟨B,ρ,ds,s,r,e,λvs H1 N1 x1 i1=>?_⟩;obtain⟨B2,ds2,d,b,s2,i2,e2,k2⟩:=k vs H1 N1 x1 i1;unfold bq at e2;split at e2
 ·rename_i hz;cases e2
  refine⟨by rw[i2.length];exact hz,λp hp=>k2 _ _ (upd B2 p (.lst vs)) (.laid s2 hp) (.lst (SqL.of a0) (i2.mono (Ext.laid s2 hp).bn)) λ_=>⟨p,vs,ds2,rfl,rfl,hp,a0,i2.mono (Ext.laid s2 hp).bn⟩⟩
 ·cases e2
end
section
variable {X:Cx}
theorem gW {f:Value->Value->Sem Value}{r r':R2}(h:OpR X f r)(k:∀x y H Q,r' x y H Q->r x y H Q):OpR X f r':=λpins s σ H x y v u Q I rx ry q=>h pins s σ H x y v u Q I rx ry (k x y H Q q)
noncomputable def orD (f g:D->D->Option (D×Bool)):D->D->Option (D×Bool):=λx y=>match f x y with|some r=>some r|none=>g x y
theorem mI {s:Value->Value->Sem Value}{f g:D->D->Option (D×Bool)}(h:OpR X s (rD X.K f))(h':OpR X s (rD X.K g)):OpR X s (rD X.K (orD f g)):=by
 intro pins st σ H x y v u Q I rx ry q;obtain⟨B,dx,dy,d,b,sB,ix,iy,e,q⟩:=q;unfold orD at e;split at e
 ·rename_i r ef;cases e
  exact h pins st σ H x y v u Q I rx ry ⟨B,dx,dy,_,_,sB,ix,iy,ef,q⟩
 ·exact h' pins st σ H x y v u Q I rx ry ⟨B,dx,dy,_,_,sB,ix,iy,e,q⟩
@[simp] noncomputable def iop (C:Int->Int->Bool)(g:Int->Int->D):D->D->Option (D×Bool)
 |.int i,.int j=>if C i j=true then some (g i j,false)else none
 |_,_=>none
theorem qI {s:Value->Value->Sem Value}{C:Int->Int->Prop}{C':Int->Int->Bool}{g:Int->Int->V}{g':Int->Int->D}(h:OpR X s (rI C g))(hC:∀i j,C' i j=true->C i j)(hg:∀i j B,Is X.K B (g i j) (g' i j)):OpR X s (rD X.K (iop C' g')):=by
 refine gW h λx y H Q q=>?_;obtain⟨B,dx,dy,d,b,sB,ix,iy,e,q⟩:=q;cases ix<;>cases iy<;>try (simp[iop]at e;done)
 rename_i i j;simp only[iop]at e;split at e
 ·rename_i hc;cases e
  exact⟨i,j,rfl,rfl,hC i j hc,q.one sB (hg i j B)⟩
 ·cases e
theorem iJ {s:Value->Value->Sem Value}{g:Int->Int->V}{g':Int->Int->D}(h:OpR X s (rI0 g))(hg:∀i j B,Is X.K B (g i j) (g' i j)):OpR X s (rD X.K (iop (λ_ _=>true) g')):=by
 refine gW h λx y H Q q=>?_;obtain⟨B,dx,dy,d,b,sB,ix,iy,e,q⟩:=q;cases ix<;>cases iy<;>try (simp[iop]at e;done)
 rename_i i j;simp only[iop,if_true]at e;cases e
 exact⟨i,j,rfl,rfl,q.one sB (hg i j B)⟩
noncomputable abbrev DK:D->D->Option (D×Bool):=iop (λ_ _=>true) λi j=>.int (i+j)
noncomputable abbrev F0:D->D->Option (D×Bool):=iop (λ_ _=>true) λi j=>.int (i - j)
noncomputable abbrev F3:D->D->Option (D×Bool):=iop (λi j=>decide ((-18446744073709551616<i/\i<18446744073709551616)∨(-18446744073709551616<j/\j<18446744073709551616))) λi j=>.int (i*j)
noncomputable abbrev fg:D->D->Option (D×Bool):=iop (λ_ j=>decide (0<j/\j<1073741824)) λi j=>.int (i / j)
noncomputable abbrev dn:D->D->Option (D×Bool):=iop (λ_ j=>decide (0<j)) λi j=>.int (i % j)
noncomputable abbrev iLt:D->D->Option (D×Bool):=iop (λ_ _=>true) λi j=>.bl (decide (i<j))
noncomputable abbrev iLe:D->D->Option (D×Bool):=iop (λ_ _=>true) λi j=>.bl (decide (i<=j))
noncomputable abbrev iGt:D->D->Option (D×Bool):=iop (λ_ _=>true) λi j=>.bl (decide (j<i))
theorem F4:OpR X (binaryOp .Add) (rD X.K DK):=iJ Dx λ_ _ _=>.int _
theorem F5:OpR X (binaryOp .Sub) (rD X.K F0):=iJ Dy λ_ _ _=>.int _
theorem F6:OpR X (binaryOp .Mult) (rD X.K F3):=qI Dz (λi j h=>by have h:=of_decide_eq_true h;unfold AT;omega) λ_ _ _=>.int _
theorem cZ:OpR X (binaryOp .FloorDiv) (rD X.K fg):=qI AU (λi j h=>by have h:=of_decide_eq_true h;unfold Fc;omega) λ_ _ _=>.int _
theorem da:OpR X (binaryOp .Mod) (rD X.K dn):=qI D0 (λ_ _ h=>of_decide_eq_true h) λ_ _ _=>.int _
theorem G8:OpR X (compareOp .Lt) (rD X.K iLt):=iJ Fd λ_ _ _=>.bl _
theorem G9:OpR X (compareOp .LtE) (rD X.K iLe):=iJ Fe λ_ _ _=>.bl _
theorem DM:OpR X (compareOp .Gt) (rD X.K iGt):=iJ Ff λ_ _ _=>.bl _
@[simp] noncomputable def sop (C:Str->Str->Bool)(g:Str->Str->D):D->D->Option (D×Bool)
 |.str i,.str j=>if C i j=true then some (g i j,false)else none
 |_,_=>none
noncomputable abbrev zm:D->D->Option (D×Bool):=sop (λi j=>decide (i.length+j.length<=sizeLine)) λi j=>.str (i++j)
noncomputable abbrev sLe:D->D->Option (D×Bool):=sop (λ_ _=>true) λi j=>.bl (!decide (j.cps.toList<i.cps.toList))
theorem DN:OpR X (binaryOp .Add) (rD X.K zm):=by
 refine gW uA λx y H Q q=>?_;obtain⟨B,dx,dy,d,b,sB,ix,iy,e,q⟩:=q;cases ix<;>cases iy<;>try (simp[zm,sop]at e;done)
 rename_i i j;simp only[zm,sop]at e;split at e
 ·rename_i hc;cases e
  exact⟨i,j,rfl,rfl,of_decide_eq_true hc,q.one sB (.str _)⟩
 ·cases e
theorem F7:OpR X (compareOp .LtE) (rD X.K sLe):=by
 intro pins s σ H x y v u Q I rx ry q;obtain⟨B,dx,dy,d,b,sB,ix,iy,e,q⟩:=q;cases ix<;>cases iy<;>try (simp[sLe,sop]at e;done)
 rename_i i j;simp only[sLe,sop,if_true]at e;cases e
 obtain⟨t,rfl⟩:=rx;obtain⟨t',rfl⟩:=ry;exact PySem.P.le_str ⟨.bl _,H,I,rfl,q.one sB (.bl _)⟩
end
section
variable {X:Cx}{a b c e:Expr}{pos:Pos}{st:Stmt}{aC:List Stmt}
theorem bu:JSs X [] bH:=PSs.to AO λ_ _ _ h=>zh h
theorem ao {g h:FS}(h1:JS X st g)(h2:JSs X aC h):JSs X (st::aC) (aA g h):=PSs.to (yK h1 h2) λ_ _ _ q=>Bn q
theorem au {g:FS}(h1:JS X st g):JSs X [st] g:=AQ h1
theorem bB {c:Expr}{a b:List Stmt}{fc:FT}{g h:FS}(hc:JT X c fc)(ha:JSs X a g)(hb:JSs X b h):JS X (.If c a b pos) (gIf fc g h):=PS.to (EU hc ha hb) λ_ _ _ q=>DH q
theorem aF {f:FE}(he:JE X e f):JS X (.Return (some e) pos) (bC f):=PS.to (yL he) λ_ _ _ q=>Bo q
theorem jS (i:Nat){x:Str}{p:Pos}(hN:X.N[i]? = some x:=by rfl)(hv:Vis X.env.scope x:=by first|exact Or.inl rfl|exact Or.inr (Or.inl rfl)|exact Or.inr (Or.inr rfl))(hd:(x == ("__debug__" : Str))=false:=by decide)
  (hcd:(x == ("__classdict__" : Str))=false:=by decide):JS X (.Return (some (.Name x p)) pos) (jm i):=PS.to (yL (kN hN hv hd hcd)) λ_ _ _ q=>zi q
theorem a9 {i:Nat}{x:Str}{p:Pos}{f:FE}(hN:X.N.Nodup)(he:JE X e f)(hi:X.N[i]? = some x:=by rfl)(hx:Loc X.env.scope x:=by first|exact Or.inl rfl|exact Or.inr rfl)(hs:swapsWith e (some (.Name x p)) pos.line X.env=pure false:=by rfl)
  (hf:X.fn x=true∨X.env.scope.names.lookup x=some .local:=by first|exact .inl rfl|exact .inr rfl):JS X (.Assign [.Name x p] e pos) (aS i f):=PS.to (u5 hN hi hx he hs hf) λ_ _ _ q=>wc q
theorem zn {c:Expr}{body:List Stmt}{fc:FT}{g:FS}(n:Nat)(hp:PassesOwn (model X.prog X.w) X.A X.env X.xe)(hc:JT X c fc)(hb:JSs X body g):JS X (.While c body [] pos) (gs fc g n):=PS.to (yN hp hc hb) λ_ _ _ q=>xP q
theorem DO {tg iter:Expr}{body:List Stmt}{fi:FA}{tgF:FG}{t:TG}{g:FS}(hp:PassesOwn (model X.prog X.w) X.A X.env X.xe)(hc:X.calm=true)(hi:JI X tg iter fi)(hg:PG X tg t)(ht:tDG X.K tgF t)(hb:JSs X body g)
  (hs:∀x,foldedSetIterable iter X.env x=pure x:=by intro _;rfl):JS X (.For tg iter body [] pos) (gd fi tgF g):=PS.to (yP hp hc hi hg hb hs) λ_ _ _ q=>Bq ht q
theorem By {tg iter:Expr}{body:List Stmt}{fi:FA}{tgF:FG}{t:TG}{g:FS}(hp:PassesOwn (model X.prog X.w) X.A X.env X.xe)(hc:X.calm=true)(hi:PI X tg iter (tDR X.K fi))(hg:PG X tg t)(ht:tDG X.K tgF t)(hb:JSs X body g)
  (hs:∀x,foldedSetIterable iter X.env x=pure x:=by intro _;rfl):JS X (.For tg iter body [] pos) (lD fi tgF g):=PS.to (yP hp hc hi hg hb hs) λ_ _ _ q=>zj ht q
theorem dR {i:Nat}{x:Str}{p apos cpos:Pos}{f:FE}(he:JE X e f)(hN:X.N[i]? = some x:=by rfl)(hv:Vis X.env.scope x:=by first|exact Or.inl rfl|exact Or.inr (Or.inl rfl)|exact Or.inr (Or.inr rfl))(hd:(x == ("__debug__" : Str))=false:=by decide)
  (hcd:(x == ("__classdict__" : Str))=false:=by decide)
  (hbase:attributeBase (.Name x p) "append" X.env (eval (.Name x p) X.env)=eval (.Name x p) X.env:=by rfl)
  (hfew:((backTo cpos (starEach [e] X.env)).all (λx=>!x.1) && (backToKw cpos (keywordEach [] X.env)).all (λx=>x.1.isSome)
   && decide ([e].length+([]:List Keyword).length+(if([]:List Keyword).isEmpty then 0 else 1)<30))=true:=by rfl)
  (hline:(apos.endLine == cpos.line)=true:=by rfl) (hs:starEach [e] X.env=[(false,eval e X.env)]:=by rfl) (hsw:swapsWith (.Call (.Attribute (.Name x p) "append" apos) [e] [] cpos) none pos.line X.env=pure false:=by rfl):
  JS X (.Expr (.Call (.Attribute (.Name x p) "append" apos) [e] [] cpos) pos) (g7 i f):=by
 refine PS.to (AR (Cy PySem.F.plainAttrs_list PySem.F.slot_list_append PySem.F.type_list_append pc (kN hN hv hd hcd) (gT he jt hs) hbase hfew hline hs rfl) hsw) λE σ H q=>?_;obtain⟨a,us,h1,h2,k⟩:=Bp q;exact⟨_,h1,.inl ⟨rfl,us,SqL.of h2⟩,k⟩
end
@[simp] noncomputable def aU (g:FS)(n k:Nat):List D->Option (D×Bool):=λds=>if ds.length=n then
 match g (ds.map (λd=>some (d,false))++List.replicate k none) with
 |some (.rt d b)=>some (d,b)
 |some (.nx _)=>some (.non,false)
 |_=>none
 else none
noncomputable def spD (K:PySem.W.Frag)(f:List D->Option (D×Bool)):Sp:=λvs H Q _=>∃(B:Hp)(ds:List D)(d:D)(b:Bool),(aM B H/\Tb K B)/\IsL K B vs ds/\f ds=some (d,b)/\Fin K B H d b Q
theorem sf {K:PySem.W.Frag}{B H:Hp}{vs:List V}{ds:List D}{N:List Str}(sB:aM B H)(tb:Tb K B)(i:IsL K B vs ds):StN K B H B H (L2.i6 N vs) (ds.map (λd=>some (d,false))++List.replicate (N.length - vs.length) none):=by
 have nf:∀(j:Nat)(d:D)(b:Bool),(ds.map (λd=>some (d,false))++List.replicate (N.length - vs.length) none:Env)[j]? = some (some (d,b))->b=false/\ds[j]? = some d:=λj d b e=>by
  by_cases hj:j<ds.length
  ·rw[List.getElem?_append_left (by simpa using hj),List.getElem?_map]at e;obtain⟨d',h1,h2⟩:=oY e;cases h2
   exact⟨rfl,h1⟩
  ·rw[List.getElem?_append_right (by simpa using Nat.not_lt.mp hj),List.getElem?_replicate]at e;split at e<;>cases e
 have no:∀a,¬own (L2.i6 N vs) (ds.map (λd=>some (d,false))++List.replicate (N.length - vs.length) none) a:=λa ⟨j,d,h,_⟩=>by
  obtain⟨z,_⟩:=nf j d true h;cases z
 refine⟨sB,tb,.refl sB,?_,λj d e=>?_,λj d e=>?_,λj k a d e h=>?_⟩
 ·unfold L2.i6;rw[List.length_append,List.length_append,List.length_map,List.length_map,List.length_replicate,List.length_replicate,i.length]
 ·obtain⟨_,e1⟩:=nf j d false e;obtain⟨v,h1,h2⟩:=i.get e1;refine⟨v,?_,h2.mono λa o e=>by rw[c6 (no a)];exact e⟩;unfold L2.i6;have hj:j<vs.length:=(List.getElem?_eq_some_iff.mp h1).1;rw[List.getElem?_append_left (by simpa using hj),List.getElem?_map,h1]<;>rfl
 ·obtain⟨z,_⟩:=nf j d true e;cases z
 ·obtain⟨z,_⟩:=nf j d true h;cases z
section
variable {P:Program}{w:World}{K:PySem.W.Frag}{mg:Str->Option Value}{base:Heap}
theorem F8 {x qual:Str}{st:Stmt}{f:Addr}{fd:FuncData}{N ps:List Str}{k:Nat}{g:FS}(F:Fun K x qual st f fd)(S:FnScope N ps (aJ st))
  (hb:∀(cdv:Value)(A:Around)(outer:List PySem.Env)(s:Shared)(H:Hp)(E:XK),Room k (A.deeper (envOfC qual (aJ st) s.heap.objs.size f cdv))->JSs (lW CX0 P w K mg base N qual (aJ st) f cdv A outer s H E).nox (cm st) g):
  FnOk P w K mg base CX0 (k+1) f fd ps (spD K (aU g ps.length (N.length - ps.length))):=by
 have len:∀vs H Q E,spD K (aU g ps.length (N.length - ps.length)) vs H Q E->vs.length=ps.length:=λvs H Q E h=>by
  obtain⟨B,ds,d,b,sB,i,e,q⟩:=h;unfold aU at e;split at e
  ·rename_i hl;rw[i.length];exact hl
  ·cases e
 refine F.ok S len λcdv A outer s H vs Q E hr h=>⟨_,hb cdv A outer s H E hr,?_⟩;have hlen:=len vs H Q E h;obtain⟨B,ds,d,b,sB,i,e,q⟩:=h;unfold aU at e;rw[if_pos (by rw[←i.length];exact hlen)]at e;have s0:=sf (N:=N) sB.1 sB.2 i;rw[hlen]at s0;split at e
 ·rename_i d' b' eg;cases e
  exact⟨B,H,_,_,⟨B,s0⟩,eg,λv H' N' x' i' f'=>q v H' N' x' i' f'⟩
 ·rename_i ρ' eg;cases e
  exact⟨B,H,_,_,⟨B,s0⟩,eg,λσ' H' ⟨N',s'⟩=>q .non H' N' s'.ext .non (by simp)⟩
 ·cases e
structure Fn (P:Program)(w:World)(K:PySem.W.Frag)(mg:Str->Option Value)(base:Heap)(k:Nat)(x:Str)(f:List D->Option (D×Bool)):Prop where
 ex:∃(ad:Addr)(fd:FuncData)(ps:List Str),FnOk P w K mg base CX0 k ad fd ps (spD K f)/\mg x=some (.ref ad)/\PySem.W.keepIn K (.ref ad)=true/\oS K fd ps []
end
theorem Bz {X:Cx}{k:Nat}{x:Str}{f:List D->Option (D×Bool)}{fa:FA}{e:Expr}{es:List Expr}{p pos:Pos}(F:Fn X.prog X.w X.K X.mg X.base k x f)(hr:Room k X.A)(ha:JA X (e::es) fa)(hg:Gl X x:=by rfl)
  (hdb:(x == ("__debug__" : Str))=false:=by decide) (he:starEach (e::es) X.env=(false,eval e X.env)::starEach es X.env:=by rfl) (hpl:(backTo pos (starEach es X.env)).any (·.1)=false:=by rfl):
  JE X (.Call (.Name x p) (e::es) [] pos) (fA f fa):=by
 obtain⟨ad,fd,ps,F1,hm,hk,hb⟩:=F.ex;refine PE.to (AX F1 hr hg hm hk hb .nil Fq ha hdb he hpl) λσ H Q q=>?_;obtain⟨B,ρ,d,b,s,r,e,q⟩:=q;obtain⟨ds,ex,e⟩:=oX e;exact⟨B,ρ,ds,s,r,ex,λvs H1 N1 x1 i1=>by
  show spD X.K f (vs++[]) H1 Q _;rw[List.append_nil];exact⟨N1,ds,d,b,⟨x1.nh,r.tb.mono x1.bn⟩,i1,e,q.into x1⟩⟩
mutual
noncomputable def eqD:D->D->Bool
 |.non,.non=>true
 |.bl a,.bl b=>a == b
 |.bl a,.int b=>decide ((if a then 1 else 0)=b)
 |.int a,.bl b=>decide (a=(if b then 1 else 0))
 |.int a,.int b=>decide (a=b)
 |.str a,.str b=>decide (a=b)
 |.tup xs,.tup ys=>dq xs ys
 |.lst xs,.lst ys=>dq xs ys
 |_,_=>false
noncomputable def dq:List D->List D->Bool
 |[],[]=>true
 |x::xs,y::ys=>eqD x y && dq xs ys
 |_,_=>false
end
@[simp] theorem sg:eqD .non .non=true:=by simp only[eqD]
@[simp] theorem uM (b:Bool):eqD .non (.bl b)=false:=by simp only[eqD]
@[simp] theorem si (b:Int):eqD .non (.int b)=false:=by simp only[eqD]
@[simp] theorem sj (b:Str):eqD .non (.str b)=false:=by simp only[eqD]
@[simp] theorem C4 (b:List D):eqD .non (.tup b)=false:=by simp only[eqD]
@[simp] theorem C5 (b:List D):eqD .non (.lst b)=false:=by simp only[eqD]
@[simp] theorem uN (a:Bool):eqD (.bl a) .non=false:=by simp only[eqD]
@[simp] theorem xR (a:Bool)(b:Bool):eqD (.bl a) (.bl b)=(a == b):=by simp only[eqD]
@[simp] theorem uO (a:Bool)(b:Int):eqD (.bl a) (.int b)=decide ((if a then 1 else 0)=b):=by simp only[eqD]
@[simp] theorem uP (a:Bool)(b:Str):eqD (.bl a) (.str b)=false:=by simp only[eqD]
@[simp] theorem DP (a:Bool)(b:List D):eqD (.bl a) (.tup b)=false:=by simp only[eqD]
@[simp] theorem DQ (a:Bool)(b:List D):eqD (.bl a) (.lst b)=false:=by simp only[eqD]
@[simp] theorem sk (a:Int):eqD (.int a) .non=false:=by simp only[eqD]
@[simp] theorem uQ (a:Int)(b:Bool):eqD (.int a) (.bl b)=decide (a=(if b then 1 else 0)):=by simp only[eqD]
@[simp] theorem sn (a:Int)(b:Int):eqD (.int a) (.int b)=decide (a=b):=by simp only[eqD]
@[simp] theorem sq (a:Int)(b:Str):eqD (.int a) (.str b)=false:=by simp only[eqD]
@[simp] theorem C6 (a:Int)(b:List D):eqD (.int a) (.tup b)=false:=by simp only[eqD]
@[simp] theorem C7 (a:Int)(b:List D):eqD (.int a) (.lst b)=false:=by simp only[eqD]
@[simp] theorem sr (a:Str):eqD (.str a) .non=false:=by simp only[eqD]
@[simp] theorem uR (a:Str)(b:Bool):eqD (.str a) (.bl b)=false:=by simp only[eqD]
@[simp] theorem su (a:Str)(b:Int):eqD (.str a) (.int b)=false:=by simp only[eqD]
@[simp] theorem lE (a:Str)(b:Str):eqD (.str a) (.str b)=decide (a=b):=by simp only[eqD]
@[simp] theorem C8 (a:Str)(b:List D):eqD (.str a) (.tup b)=false:=by simp only[eqD]
@[simp] theorem C9 (a:Str)(b:List D):eqD (.str a) (.lst b)=false:=by simp only[eqD]
@[simp] theorem CA (a:List D):eqD (.tup a) .non=false:=by simp only[eqD]
@[simp] theorem DR (a:List D)(b:Bool):eqD (.tup a) (.bl b)=false:=by simp only[eqD]
@[simp] theorem CB (a:List D)(b:Int):eqD (.tup a) (.int b)=false:=by simp only[eqD]
@[simp] theorem CC (a:List D)(b:Str):eqD (.tup a) (.str b)=false:=by simp only[eqD]
@[simp] theorem CD (a:List D)(b:List D):eqD (.tup a) (.tup b)=dq a b:=by simp only[eqD]
@[simp] theorem CF (a:List D)(b:List D):eqD (.tup a) (.lst b)=false:=by simp only[eqD]
@[simp] theorem CG (a:List D):eqD (.lst a) .non=false:=by simp only[eqD]
@[simp] theorem DS (a:List D)(b:Bool):eqD (.lst a) (.bl b)=false:=by simp only[eqD]
@[simp] theorem CH (a:List D)(b:Int):eqD (.lst a) (.int b)=false:=by simp only[eqD]
@[simp] theorem CI (a:List D)(b:Str):eqD (.lst a) (.str b)=false:=by simp only[eqD]
@[simp] theorem CJ (a:List D)(b:List D):eqD (.lst a) (.tup b)=false:=by simp only[eqD]
@[simp] theorem CK (a:List D)(b:List D):eqD (.lst a) (.lst b)=dq a b:=by simp only[eqD]
@[simp] theorem F9:dq [] []=true:=by rw[dq]
@[simp] theorem EA (x y:D)(xs ys:List D):dq (x::xs) (y::ys)=(eqD x y && dq xs ys):=by rw[dq]
@[simp] theorem Gi (y:D)(ys:List D):dq [] (y::ys)=false:=by simp only[dq]
@[simp] theorem Gj (x:D)(xs:List D):dq (x::xs) []=false:=by simp only[dq]
noncomputable def am:Nat->D->Bool
 |_,.non=>true
 |_,.bl _=>true
 |_,.int _=>true
 |_,.str _=>true
 |_,.ty _=>false
 |_,.dk _ _=>false
 |_,.dt _ _=>false
 |0,.tup _=>false
 |0,.lst _=>false
 |n+1,.tup ds=>ds.all (am n)
 |n+1,.lst ds=>ds.all (am n)
@[simp] theorem DT (n:Nat):am n .non=true:=by cases n<;>simp only[am]
@[simp] theorem EB (n:Nat)(a:Bool):am n (.bl a)=true:=by cases n<;>simp only[am]
@[simp] theorem DU (n:Nat)(a:Int):am n (.int a)=true:=by cases n<;>simp only[am]
@[simp] theorem DV (n:Nat)(a:Str):am n (.str a)=true:=by cases n<;>simp only[am]
@[simp] theorem EC (n:Nat)(ks:List Key)(vs:List D):am n (.dk ks vs)=false:=by cases n<;>simp only[am]
@[simp] theorem ED (n:Nat)(ks:List (List Key))(vs:List D):am n (.dt ks vs)=false:=by cases n<;>simp only[am]
@[simp] theorem DW (n:Nat)(ds:List D):am (n+1) (.tup ds)=ds.all (am n):=by simp only[am]
@[simp] theorem DX (n:Nat)(ds:List D):am (n+1) (.lst ds)=ds.all (am n):=by simp only[am]
theorem sv:∀ {xs ys:List D},dq xs ys=true->xs.length=ys.length
 |[],[],_=>rfl
 |x::xs,y::ys,h=>by
  simp only[dq,Bool.and_eq_true]at h;rw[List.length_cons,List.length_cons,sv h.2]
 |[],_::_,h=>by simp[dq]at h
 |_::_,[],h=>by simp[dq]at h
theorem wd {xs ys:List D}(h:xs.length≠ys.length):dq xs ys=false:=by
 cases e:dq xs ys with
 |false=>rfl
 |true=>exact absurd (sv e) h
theorem jx (f:Nat->Bool):∀ {xs ys:List D},xs.length=ys.length->(∀(j:Nat) x y,xs[j]? = some x->ys[j]? = some y->f j=eqD x y)->(List.range xs.length).all f=dq xs ys
 |[],[],_,_=>by simp[dq]
 |x::xs,y::ys,hl,h=>by
  have e:=jx (λj=>f (j+1)) (xs:=xs) (ys:=ys) (by simpa using hl) λj a b h1 h2=>h (j+1) a b (by simpa using h1) (by simpa using h2);rw[List.length_cons,List.range_succ_eq_map,List.all_cons,List.all_map,dq,←h 0 x y rfl rfl,←e];rfl
 |[],_::_,hl,_=>by simp at hl
 |_::_,[],hl,_=>by simp at hl
section
variable {X:Cx}{pins:List (Addr×Obj)}{σ:St}{H:Hp}{s:Shared}
theorem we (I:Inv X pins σ H s){a:Addr}{vs ws:List V}(h1:SqT X.K H a vs)(h2:SqL X.K H a ws):False:=by
 obtain⟨its,_,⟨o,e,c,_⟩,_⟩:=I.tuple h1;obtain⟨its',_,⟨o',n',e',c',_⟩,_⟩:=I.list h2;rw[e]at e';cases e';rw[c]at c';injection c' with z;exact absurd z (by decide)
theorem wf (I:Inv X pins σ H s){a:Addr}{o:Obj}{its:Array Value}{n:Nat}(e:s.heap.get? a=some o)(d:o.data=.seq its n):(∀kvs ob,H a≠some (.dK kvs ob))/\∀kvs,H a≠some (.dT kvs):=by
 refine⟨λkvs ob h=>?_,λkvs h=>?_⟩
 ·obtain⟨_,_,_,_,_,o',es,ep,e',_,d',_⟩:=(show bA X.prog X.w H s.heap a (.dK kvs ob)from I.hok a _ h);rw[e]at e';cases e';rw[d]at d';cases d'
 ·obtain⟨_,_,_,_,o',es,ep,e',_,d',_⟩:=(show bA X.prog X.w H s.heap a (.dT kvs)from I.hok a _ h);rw[e]at e';cases e';rw[d]at d';cases d'
theorem sw (I:Inv X pins σ H s){a:Addr}{vs:List V}(h1:SqT X.K H a vs):(∀kvs ob,H a≠some (.dK kvs ob))/\∀kvs,H a≠some (.dT kvs):=by
 obtain⟨its,_,⟨o,e,c,n,d⟩,_⟩:=I.tuple h1;exact wf I e d
theorem sx (I:Inv X pins σ H s){a:Addr}{vs:List V}(h1:SqL X.K H a vs):(∀kvs ob,H a≠some (.dK kvs ob))/\∀kvs,H a≠some (.dT kvs):=by
 obtain⟨its,_,p,_⟩:=I.list h1;obtain⟨o,e,c,n,d⟩:=p.isList;exact wf I e d
theorem wg (I:Inv X pins σ H s):∀(n:Nat){v:V}{d d':D},Is X.K H v d->Is X.K H v d'->am n d=true->eqD d d'=true:=by
 have lists:∀ {p:D->Bool}(ih:∀ {v:V}{d d':D},Is X.K H v d->Is X.K H v d'->p d=true->eqD d d'=true) {vs:List V}{ds ds':List D},IsL X.K H vs ds->IsL X.K H vs ds'->ds.all p=true->dq ds ds'=true:=by
  intro p ih vs;induction vs with
  |nil=>intro ds ds' h h' _;cases h;cases h';simp[dq]
  |cons v vs ihv=>
   intro ds ds' h h' hp;cases h with
   |cons h1 h2=>
    cases h' with
    |cons h3 h4=>
     rw[List.all_cons,Bool.and_eq_true]at hp;rw[dq,ih h1 h3 hp.1,ihv h2 h4 hp.2];rfl
 intro n;induction n with
 |zero=>
  intro v d d' h h' hp;cases h<;>cases h'<;>first|(simp[am]at hp;done)|simp[eqD]
 |succ n ih=>
  intro v d d' h h' hp;cases h with
  |tup h1 h2=>
   cases h' with
   |tup h3 h4=>
    rw[I.tuple_inj h3 h1]at h4;rw[eqD];exact lists ih h2 h4 (by simpa [am]using hp)
   |lst h3 h4=>exact(we I h1 h3).elim
   |dk h3 _ _=>exact((sw I h1).1 _ _ h3).elim
   |dt h3 _ _=>exact((sw I h1).2 _ h3).elim
  |lst h1 h2=>
   cases h' with
   |lst h3 h4=>
    rw[I.list_inj h3 h1]at h4;rw[eqD];exact lists ih h2 h4 (by simpa [am]using hp)
   |tup h3 h4=>exact(we I h3 h1).elim
   |dk h3 _ _=>exact((sx I h1).1 _ _ h3).elim
   |dt h3 _ _=>exact((sx I h1).2 _ h3).elim
  |ty=>simp[am]at hp
  |dk=>simp[am]at hp
  |dt=>simp[am]at hp
  |_=>cases h'<;>simp[eqD]
theorem CL {α:Type}{p:α->Bool}{l:List α}{j:Nat}{x:α}(h:l.all p=true)(e:l[j]? = some x):p x=true:=List.all_eq_true.mp h x (List.mem_of_getElem? e)
theorem sy {A:Around}{p:D->Bool}(ih:∀ {v1 v2:V}{d1 d2:D}{u1 u2:Value},p d1=true->p d2=true->Is X.K H v1 d1->Is X.K H v2 d2->aL v1 u1->aL v2 u2->SeqAt.EqAt A s u1 u2 (eqD d1 d2))
  {vs ws:List V}{ds es:List D}{its jts:List Value}(i1:IsL X.K H vs ds) (i2:IsL X.K H ws es) (r1:aQ vs its) (r2:aQ ws jts) (p1:ds.all p=true) (p2:es.all p=true):
  ∀j (h1:j<its.toArray.size) (h2:j<jts.toArray.size),SeqAt.EqAt A s its.toArray[j] jts.toArray[j] (eqD (ds.getD j .non) (es.getD j .non)):=by
 intro j h1 h2;rw[List.size_toArray]at h1 h2;have l1:=r1.length;have l2:=r2.length;have l3:=i1.length;have l4:=i2.length;have hv:j<vs.length:=by omega
 have hw:j<ws.length:=by omega
 have hd:j<ds.length:=by omega
 have he:j<es.length:=by omega
 obtain⟨u,e1,q1⟩:=r1.get (i:=j) (x:=vs[j]) (by simp[hv]);obtain⟨u',e2,q2⟩:=r2.get (i:=j) (x:=ws[j]) (by simp[hw]);obtain⟨v,e3,q3⟩:=i1.get (i:=j) (d:=ds[j]) (by simp[hd]);obtain⟨w,e4,q4⟩:=i2.get (i:=j) (d:=es[j]) (by simp[he]);have a1:its.toArray[j]=u:=by have z:=(List.getElem?_eq_some_iff.mp e1).2;simpa using z
 have a2:jts.toArray[j]=u':=by have z:=(List.getElem?_eq_some_iff.mp e2).2;simpa using z
 have a3:vs[j]=v:=by simpa [hv]using e3
 have a4:ws[j]=w:=by simpa [hw]using e4
 have a5:ds.getD j .non=ds[j]:=by simp[List.getD,hd]
 have a6:es.getD j .non=es[j]:=by simp[List.getD,he]
 rw[a1,a2,a5,a6];exact ih (CL p1 (j:=j) (by simp[hd])) (CL p2 (j:=j) (by simp[he])) (a3 ▸ q3) (a4 ▸ q4) q1 q2
theorem wj {xs ys:List D}(j:Nat)(x y:D)(h1:xs[j]? = some x)(h2:ys[j]? = some y):eqD (xs.getD j .non) (ys.getD j .non)=eqD x y:=by
 simp[List.getD,h1,h2]
noncomputable abbrev Tri (A:Around)(s:Shared)(u1 u2:Value)(b:Bool):Prop:=SeqAt.RcAt A s u1 u2 b/\SeqAt.EqAt A s u1 u2 b/\SeqAt.RcNeAt A s u1 u2 (!b)
theorem bK {A:Around}{v1 v2:V}{d1 d2:D}{u1 u2:Value}(p1:am 0 d1=true)(p2:am 0 d2=true)(i1:Is X.K H v1 d1)(i2:Is X.K H v2 d2)(r1:aL v1 u1)(r2:aL v2 u2):Tri A s u1 u2 (eqD d1 d2):=by
 cases i1 with
 |non=>
  cases r1
  cases i2 with
  |non=>
   cases r2
   rw[sg];exact⟨SeqAt.RcAt.none_none,SeqAt.EqAt.same _,SeqAt.RcNeAt.none_none⟩
  |bl b=>
   cases r2
   rw[uM];exact⟨SeqAt.RcAt.none_bool _,SeqAt.EqAt.none_bool _,SeqAt.RcNeAt.none_bool _⟩
  |int b=>
   obtain⟨t',rfl⟩:=r2;rw[si];exact⟨SeqAt.RcAt.none_int _ _,SeqAt.EqAt.none_int _ _,SeqAt.RcNeAt.none_int _ _⟩
  |str b=>
   obtain⟨t',rfl⟩:=r2;rw[sj];exact⟨SeqAt.RcAt.none_str _ _,SeqAt.EqAt.none_str _ _,SeqAt.RcNeAt.none_str _ _⟩
  |ty=>simp[am]at p2
  |dk=>simp[am]at p2
  |dt=>simp[am]at p2
  |tup=>simp[am]at p2
  |lst=>simp[am]at p2
 |bl a=>
  cases r1
  cases i2 with
  |non=>
   cases r2
   rw[uN];exact⟨SeqAt.RcAt.bool_none _,SeqAt.EqAt.bool_none _,SeqAt.RcNeAt.bool_none _⟩
  |bl b=>
   cases r2
   rw[xR];exact⟨SeqAt.RcAt.bool_bool _ _,SeqAt.EqAt.bool_bool _ _,SeqAt.RcNeAt.bool_bool _ _⟩
  |int b=>
   obtain⟨t',rfl⟩:=r2;rw[uO,←Bool.beq_eq_decide_eq];exact⟨SeqAt.RcAt.bool_int _ _ _,SeqAt.EqAt.bool_int _ _ _,SeqAt.RcNeAt.bool_int _ _ _⟩
  |str b=>
   obtain⟨t',rfl⟩:=r2;rw[uP];exact⟨SeqAt.RcAt.bool_str _ _ _,SeqAt.EqAt.bool_str _ _ _,SeqAt.RcNeAt.bool_str _ _ _⟩
  |ty=>simp[am]at p2
  |dk=>simp[am]at p2
  |dt=>simp[am]at p2
  |tup=>simp[am]at p2
  |lst=>simp[am]at p2
 |int a=>
  obtain⟨t,rfl⟩:=r1;cases i2 with
  |non=>
   cases r2
   rw[sk];exact⟨SeqAt.RcAt.int_none _ _,SeqAt.EqAt.int_none _ _,SeqAt.RcNeAt.int_none _ _⟩
  |bl b=>
   cases r2
   rw[uQ,←Bool.beq_eq_decide_eq];exact⟨SeqAt.RcAt.int_bool _ _ _,SeqAt.EqAt.int_bool _ _ _,SeqAt.RcNeAt.int_bool _ _ _⟩
  |int b=>
   obtain⟨t',rfl⟩:=r2;rw[sn,←Bool.beq_eq_decide_eq];exact⟨SeqAt.RcAt.int_int _ _ _ _,SeqAt.EqAt.int_int _ _ _ _,SeqAt.RcNeAt.int_int _ _ _ _⟩
  |str b=>
   obtain⟨t',rfl⟩:=r2;rw[sq];exact⟨SeqAt.RcAt.int_str _ _ _ _,SeqAt.EqAt.int_str _ _ _ _,SeqAt.RcNeAt.int_str _ _ _ _⟩
  |ty=>simp[am]at p2
  |dk=>simp[am]at p2
  |dt=>simp[am]at p2
  |tup=>simp[am]at p2
  |lst=>simp[am]at p2
 |str a=>
  obtain⟨t,rfl⟩:=r1;cases i2 with
  |non=>
   cases r2
   rw[sr];exact⟨SeqAt.RcAt.str_none _ _,SeqAt.EqAt.str_none _ _,SeqAt.RcNeAt.str_none _ _⟩
  |bl b=>
   cases r2
   rw[uR];exact⟨SeqAt.RcAt.str_bool _ _ _,SeqAt.EqAt.str_bool _ _ _,SeqAt.RcNeAt.str_bool _ _ _⟩
  |int b=>
   obtain⟨t',rfl⟩:=r2;rw[su];exact⟨SeqAt.RcAt.str_int _ _ _ _,SeqAt.EqAt.str_int _ _ _ _,SeqAt.RcNeAt.str_int _ _ _ _⟩
  |str b=>
   obtain⟨t',rfl⟩:=r2;rw[lE,←Bool.beq_eq_decide_eq];exact⟨SeqAt.RcAt.str_str _ _ _ _,SeqAt.EqAt.str_str _ _ _ _,SeqAt.RcNeAt.str_str _ _ _ _⟩
  |ty=>simp[am]at p2
  |dk=>simp[am]at p2
  |dt=>simp[am]at p2
  |tup=>simp[am]at p2
  |lst=>simp[am]at p2
 |ty=>simp[am]at p1
 |dk=>simp[am]at p1
 |dt=>simp[am]at p1
 |tup=>simp[am]at p1
 |lst=>simp[am]at p1
theorem CM (I:Inv X pins σ H s):∀(n:Nat){A:Around}{v1 v2:V}{d1 d2:D}{u1 u2:Value},A.units+n<cLine->am n d1=true->am n d2=true->Is X.K H v1 d1->Is X.K H v2 d2->aL v1 u1->aL v2 u2->Tri A s u1 u2 (eqD d1 d2):=by
 intro n;induction n with
 |zero=>exact λ_ p1 p2 i1 i2 r1 r2=>bK p1 p2 i1 i2 r1 r2
 |succ n ih=>
  intro A v1 v2 d1 d2 u1 u2 hu p1 p2 i1 i2 r1 r2;have hu0:A.units<cLine:=by omega
  have ih':∀ {v1 v2:V}{d1 d2:D}{u1 u2:Value},am n d1=true->am n d2=true->Is X.K H v1 d1->Is X.K H v2 d2->aL v1 u1->aL v2 u2->SeqAt.EqAt A.in1 s u1 u2 (eqD d1 d2):=λp1 p2 i1 i2 r1 r2=>(ih (A:=A.in1) (by show A.units+1+n<cLine;omega) p1 p2 i1 i2 r1 r2).2.1;cases i1 with
  |tup h1 k1=>
   cases r1
   obtain⟨its,rv1,t1,z1⟩:=I.tuple h1;have t1':s.heap.IsTuple _ its.toArray:=t1;have q1:=p1;simp only[am]at q1;cases i2 with
   |tup h2 k2=>
    cases r2
    obtain⟨jts,rv2,t2,z2⟩:=I.tuple h2;have t2':s.heap.IsTuple _ jts.toArray:=t2;have q2:=p2;simp only[am]at q2;rename_i a1 vs ds a2 ws es;have he:=sy (A:=A.in1) (p:=am n) ih' k1 k2 rv1 rv2 q1 q2;have eqv:((List.range (min its.toArray.size jts.toArray.size)).all (λj=>eqD (ds.getD j .non) (es.getD j .non)) && its.toArray.size == jts.toArray.size)=eqD (.tup ds) (.tup es):=by
     rw[eqD,List.size_toArray,List.size_toArray,←rv1.length,←rv2.length,k1.length,k2.length];by_cases hl:ds.length=es.length
     ·rw[←hl,Nat.min_self,beq_self_eq_true,Bool.and_true];exact jx _ hl λj x y e1 e2=>wj j x y e1 e2
     ·rw[wd hl,beq_eq_false_iff_ne.mpr hl,Bool.and_false]
    have rc:=SeqAt.RcAt.tuples t1' t2' hu0 he;have rn:=SeqAt.RcNeAt.tuples t1' t2' hu0 he;rw[eqv]at rc rn;refine⟨rc,?_,rn⟩;by_cases ha:a1=a2
    ·subst ha;rw[wg I (n+1) (.tup h1 k1) (.tup h2 k2) p1];exact SeqAt.EqAt.same _
    ·exact SeqAt.EqAt.of_refs ha rc
   |lst h2 k2=>
    cases r2
    obtain⟨jts,rv2,t2,z2⟩:=I.list h2;rw[show eqD (.tup _) (.lst _)=false by simp only[eqD]];exact⟨SeqAt.RcAt.tuple_list t1' t2.isList hu0,SeqAt.EqAt.tuple_list t1' t2.isList hu0,SeqAt.RcNeAt.tuple_list t1' t2.isList hu0⟩
   |ty=>simp[am]at p2
   |dk=>simp[am]at p2
   |dt=>simp[am]at p2
   |non=>cases r2;simp only[eqD];exact⟨SeqAt.RcAt.tuple_none t1' hu0,SeqAt.EqAt.tuple_none t1' hu0,SeqAt.RcNeAt.tuple_none t1' hu0⟩
   |bl=>cases r2;simp only[eqD];exact⟨SeqAt.RcAt.tuple_bool _ t1' hu0,SeqAt.EqAt.tuple_bool _ t1' hu0,SeqAt.RcNeAt.tuple_bool _ t1' hu0⟩
   |int=>obtain⟨t,rfl⟩:=r2;simp only[eqD];exact⟨SeqAt.RcAt.tuple_int _ _ t1' hu0,SeqAt.EqAt.tuple_int _ _ t1' hu0,SeqAt.RcNeAt.tuple_int _ _ t1' hu0⟩
   |str=>obtain⟨t,rfl⟩:=r2;simp only[eqD];exact⟨SeqAt.RcAt.tuple_str _ _ t1' hu0,SeqAt.EqAt.tuple_str _ _ t1' hu0,SeqAt.RcNeAt.tuple_str _ _ t1' hu0⟩
  |lst h1 k1=>
   cases r1
   obtain⟨its,rv1,t1,z1⟩:=I.list h1;have t1':s.heap.IsList _ its.toArray:=t1.isList;have q1:=p1;simp only[am]at q1;cases i2 with
   |lst h2 k2=>
    cases r2
    obtain⟨jts,rv2,t2,z2⟩:=I.list h2;have t2':s.heap.IsList _ jts.toArray:=t2.isList;have q2:=p2;simp only[am]at q2;rename_i a1 vs ds a2 ws es;have he:=sy (A:=A.in1) (p:=am n) ih' k1 k2 rv1 rv2 q1 q2;have both:SeqAt.RcAt A s (.ref a1) (.ref a2) (eqD (.lst ds) (.lst es))/\SeqAt.RcNeAt A s (.ref a1) (.ref a2) (!eqD (.lst ds) (.lst es)):=by
     by_cases hl:ds.length=es.length
     ·have hs:its.toArray.size=jts.toArray.size:=by rw[List.size_toArray,List.size_toArray,←rv1.length,←rv2.length,k1.length,k2.length];exact hl
      have eqv:(List.range its.toArray.size).all (λj=>eqD (ds.getD j .non) (es.getD j .non))=eqD (.lst ds) (.lst es):=by
       rw[eqD,List.size_toArray,←rv1.length,k1.length];exact jx _ hl λj x y e1 e2=>wj j x y e1 e2
      have rc:=SeqAt.RcAt.lists t1' t2' hs hu0 he;have rn:=SeqAt.RcNeAt.lists t1' t2' hs hu0 he;rw[eqv]at rc rn;exact⟨rc,rn⟩
     ·have hs:(its.toArray.size != jts.toArray.size)=true:=by rw[List.size_toArray,List.size_toArray,←rv1.length,←rv2.length,k1.length,k2.length];exact bne_iff_ne.mpr hl
      rw[eqD,wd hl];exact⟨SeqAt.RcAt.lists_lengths t1' t2' hs hu0,SeqAt.RcNeAt.lists_lengths t1' t2' hs hu0⟩
    refine⟨both.1,?_,both.2⟩;by_cases ha:a1=a2
    ·subst ha;rw[wg I (n+1) (.lst h1 k1) (.lst h2 k2) p1];exact SeqAt.EqAt.same _
    ·exact SeqAt.EqAt.of_refs ha both.1
   |tup h2 k2=>
    cases r2
    obtain⟨jts,rv2,t2,z2⟩:=I.tuple h2;have t2':s.heap.IsTuple _ jts.toArray:=t2;rw[show eqD (.lst _) (.tup _)=false by simp only[eqD]];exact⟨SeqAt.RcAt.list_tuple t1' t2' hu0,SeqAt.EqAt.list_tuple t1' t2' hu0,SeqAt.RcNeAt.list_tuple t1' t2' hu0⟩
   |ty=>simp[am]at p2
   |dk=>simp[am]at p2
   |dt=>simp[am]at p2
   |non=>cases r2;simp only[eqD];exact⟨SeqAt.RcAt.list_none t1' hu0,SeqAt.EqAt.list_none t1' hu0,SeqAt.RcNeAt.list_none t1' hu0⟩
   |bl=>cases r2;simp only[eqD];exact⟨SeqAt.RcAt.list_bool _ t1' hu0,SeqAt.EqAt.list_bool _ t1' hu0,SeqAt.RcNeAt.list_bool _ t1' hu0⟩
   |int=>obtain⟨t,rfl⟩:=r2;simp only[eqD];exact⟨SeqAt.RcAt.list_int _ _ t1' hu0,SeqAt.EqAt.list_int _ _ t1' hu0,SeqAt.RcNeAt.list_int _ _ t1' hu0⟩
   |str=>obtain⟨t,rfl⟩:=r2;simp only[eqD];exact⟨SeqAt.RcAt.list_str _ _ t1' hu0,SeqAt.EqAt.list_str _ _ t1' hu0,SeqAt.RcNeAt.list_str _ _ t1' hu0⟩
  |ty=>simp[am]at p1
  |dk=>simp[am]at p1
  |dt=>simp[am]at p1
  |non=>
   cases i2 with
   |tup h2 k2=>cases r1;cases r2;obtain⟨jts,rv2,t2,z2⟩:=I.tuple h2;have t2':s.heap.IsTuple _ jts.toArray:=t2;simp only[eqD];exact⟨SeqAt.RcAt.none_tuple t2' hu0,SeqAt.EqAt.none_tuple t2' hu0,SeqAt.RcNeAt.none_tuple t2' hu0⟩
   |lst h2 k2=>cases r1;cases r2;obtain⟨jts,rv2,t2,z2⟩:=I.list h2;simp only[eqD];exact⟨SeqAt.RcAt.none_list t2.isList hu0,SeqAt.EqAt.none_list t2.isList hu0,SeqAt.RcNeAt.none_list t2.isList hu0⟩
   |ty=>simp[am]at p2
   |dk=>simp[am]at p2
   |dt=>simp[am]at p2
   |non=>exact bK (X:=X) (H:=H) (by simp[am]) (by simp[am]) .non .non r1 r2
   |bl x=>exact bK (X:=X) (H:=H) (by simp[am]) (by simp[am]) .non (.bl x) r1 r2
   |int x=>exact bK (X:=X) (H:=H) (by simp[am]) (by simp[am]) .non (.int x) r1 r2
   |str x=>exact bK (X:=X) (H:=H) (by simp[am]) (by simp[am]) .non (.str x) r1 r2
  |bl y=>
   cases i2 with
   |tup h2 k2=>cases r1;cases r2;obtain⟨jts,rv2,t2,z2⟩:=I.tuple h2;have t2':s.heap.IsTuple _ jts.toArray:=t2;simp only[eqD];exact⟨SeqAt.RcAt.bool_tuple _ t2' hu0,SeqAt.EqAt.bool_tuple _ t2' hu0,SeqAt.RcNeAt.bool_tuple _ t2' hu0⟩
   |lst h2 k2=>cases r1;cases r2;obtain⟨jts,rv2,t2,z2⟩:=I.list h2;simp only[eqD];exact⟨SeqAt.RcAt.bool_list _ t2.isList hu0,SeqAt.EqAt.bool_list _ t2.isList hu0,SeqAt.RcNeAt.bool_list _ t2.isList hu0⟩
   |ty=>simp[am]at p2
   |dk=>simp[am]at p2
   |dt=>simp[am]at p2
   |non=>exact bK (X:=X) (H:=H) (by simp[am]) (by simp[am]) (.bl y) .non r1 r2
   |bl x=>exact bK (X:=X) (H:=H) (by simp[am]) (by simp[am]) (.bl y) (.bl x) r1 r2
   |int x=>exact bK (X:=X) (H:=H) (by simp[am]) (by simp[am]) (.bl y) (.int x) r1 r2
   |str x=>exact bK (X:=X) (H:=H) (by simp[am]) (by simp[am]) (.bl y) (.str x) r1 r2
  |int y=>
   cases i2 with
   |tup h2 k2=>obtain⟨t,rfl⟩:=r1;cases r2;obtain⟨jts,rv2,t2,z2⟩:=I.tuple h2;have t2':s.heap.IsTuple _ jts.toArray:=t2;simp only[eqD];exact⟨SeqAt.RcAt.int_tuple _ _ t2' hu0,SeqAt.EqAt.int_tuple _ _ t2' hu0,SeqAt.RcNeAt.int_tuple _ _ t2' hu0⟩
   |lst h2 k2=>obtain⟨t,rfl⟩:=r1;cases r2;obtain⟨jts,rv2,t2,z2⟩:=I.list h2;simp only[eqD];exact⟨SeqAt.RcAt.int_list _ _ t2.isList hu0,SeqAt.EqAt.int_list _ _ t2.isList hu0,SeqAt.RcNeAt.int_list _ _ t2.isList hu0⟩
   |ty=>simp[am]at p2
   |dk=>simp[am]at p2
   |dt=>simp[am]at p2
   |non=>exact bK (X:=X) (H:=H) (by simp[am]) (by simp[am]) (.int y) .non r1 r2
   |bl x=>exact bK (X:=X) (H:=H) (by simp[am]) (by simp[am]) (.int y) (.bl x) r1 r2
   |int x=>exact bK (X:=X) (H:=H) (by simp[am]) (by simp[am]) (.int y) (.int x) r1 r2
   |str x=>exact bK (X:=X) (H:=H) (by simp[am]) (by simp[am]) (.int y) (.str x) r1 r2
  |str y=>
   cases i2 with
   |tup h2 k2=>obtain⟨t,rfl⟩:=r1;cases r2;obtain⟨jts,rv2,t2,z2⟩:=I.tuple h2;have t2':s.heap.IsTuple _ jts.toArray:=t2;simp only[eqD];exact⟨SeqAt.RcAt.str_tuple _ _ t2' hu0,SeqAt.EqAt.str_tuple _ _ t2' hu0,SeqAt.RcNeAt.str_tuple _ _ t2' hu0⟩
   |lst h2 k2=>obtain⟨t,rfl⟩:=r1;cases r2;obtain⟨jts,rv2,t2,z2⟩:=I.list h2;simp only[eqD];exact⟨SeqAt.RcAt.str_list _ _ t2.isList hu0,SeqAt.EqAt.str_list _ _ t2.isList hu0,SeqAt.RcNeAt.str_list _ _ t2.isList hu0⟩
   |ty=>simp[am]at p2
   |dk=>simp[am]at p2
   |dt=>simp[am]at p2
   |non=>exact bK (X:=X) (H:=H) (by simp[am]) (by simp[am]) (.str y) .non r1 r2
   |bl x=>exact bK (X:=X) (H:=H) (by simp[am]) (by simp[am]) (.str y) (.bl x) r1 r2
   |int x=>exact bK (X:=X) (H:=H) (by simp[am]) (by simp[am]) (.str y) (.int x) r1 r2
   |str x=>exact bK (X:=X) (H:=H) (by simp[am]) (by simp[am]) (.str y) (.str x) r1 r2
@[simp] noncomputable def dEq:D->D->Option (D×Bool):=λx y=>if am 40 x=true/\am 40 y=true then some (.bl (eqD x y),false)else none
@[simp] noncomputable def dNe:D->D->Option (D×Bool):=λx y=>if am 40 x=true/\am 40 y=true then some (.bl (!eqD x y),false)else none
theorem c8 (hu:X.A.units+40<cLine):OpR X (compareOp .Eq) (rD X.K dEq):=by
 intro pins s σ H x y v u Q I rx ry q;obtain⟨B,dx,dy,d,b,sB,ix,iy,e,q⟩:=q;unfold dEq at e;split at e
 ·rename_i hp;cases e
  exact(CM I 40 hu hp.1 hp.2 (ix.mono sB) (iy.mono sB) rx ry).1 _ _ _ _ ⟨.bl _,H,I,rfl,q.one sB (.bl _)⟩
 ·cases e
theorem xS (hu:X.A.units+40<cLine):OpR X (compareOp .NotEq) (rD X.K dNe):=by
 intro pins s σ H x y v u Q I rx ry q;obtain⟨B,dx,dy,d,b,sB,ix,iy,e,q⟩:=q;unfold dNe at e;split at e
 ·rename_i hp;cases e
  exact(CM I 40 hu hp.1 hp.2 (ix.mono sB) (iy.mono sB) rx ry).2.2 _ _ _ _ ⟨.bl _,H,I,rfl,q.one sB (.bl _)⟩
 ·cases e
end
section
variable {X:Cx}{a b e:Expr}{pos:Pos}
theorem wl {K:PySem.W.Frag}{H:Hp}{vs:List V}{ds:List D}{i:Int}{d:D}(h:IsL K H vs ds)(e:atI ds i=some d):∃v,atI vs i=some v/\Is K H v d:=by
 unfold atI at e ⊢;rw[h.length];cases q:ixN ds.length i with
 |none=>rw[q]at e;cases e
 |some j=>rw[q]at e;exact h.get e
@[simp] noncomputable def ixD:D->D->Option (D×Bool)
 |.lst ds,.int i=>(atI ds i).map λd=>(d,false)
 |.tup ds,.int i=>(atI ds i).map λd=>(d,false)
 |.str z,.int i=>if z.length<=sizeLine then (atI z.cps.toList i).map λc=>(.str ⟨#[c]⟩,false)else none
 |_,_=>none
theorem GA:IxR X (rD X.K ixD):=by
 intro value slice pins s σ H x y v u Q I rx ry q hs;obtain⟨B,dx,dy,d,b,sB,ix,iy,e,q⟩:=q;cases ix<;>cases iy<;>try (simp[ixD]at e;done)
 ·simp only[ixD]at e;split at e
  ·rename_i hz;obtain⟨c,e1,e2⟩:=oY e;cases e2
   exact uH value slice pins s σ H _ _ v u Q I rx ry ⟨_,_,c,rfl,rfl,hz,e1,q.one sB (.str _)⟩ hs
  ·cases e
 ·rename_i h hl i;simp only[ixD]at e;obtain⟨c,e1,e2⟩:=oY e;cases e2
  obtain⟨w,h1,h2⟩:=wl hl e1;exact yV value slice pins s σ H _ _ v u Q I rx ry ⟨_,_,_,w,rfl,rfl,bd sB h,h1,q.one sB h2⟩ hs
 ·rename_i h hl i;simp only[ixD]at e;obtain⟨c,e1,e2⟩:=oY e;cases e2
  obtain⟨w,h1,h2⟩:=wl hl e1;exact Be value slice pins s σ H _ _ v u Q I rx ry ⟨_,_,_,w,rfl,rfl,sB.seq h,h1,q.one sB h2⟩ hs
theorem aq {fa fb:FE}(ha:JE X a fa)(hb:JE X b fb)(hs:mm b:=by intro _ _;rfl):JE X (.Subscript a b pos) (f2 ixD fa fb):=PE.to (Cw GA ha hb hs) λ_ _ _ h=>Bk h
noncomputable abbrev FO:=Env->Option (Option Int)
noncomputable def tDO (K:PySem.W.Frag)(f:FO):TO:=λσ H Q=>∃(B:Hp)(ρ:Env)(o:Option Int),aM B H/\RepE K B σ ρ/\f ρ=some o/\∀H',aM H H'->Q o H'
noncomputable abbrev JO (X:Cx)(e:Option Expr)(f:FO):Prop:=PO X e (tDO X.K f)
@[simp] noncomputable def jn:FO:=λ_=>some none
@[simp] noncomputable def fU (f:FE):FO:=λρ=>match f ρ with|some (.int i,_)=>some (some i)|_=>none
theorem iZ:JO X none jn:=λpins s σ H Q I h=>Ba pins s σ H Q I (by
 obtain⟨B,ρ,o,sB,r,e,q⟩:=h;cases e
 exact q H (.refl H))
theorem gf {f:FE}(h:JE X e f):JO X (some e) (fU f):=λpins s σ H Q I q=>Bb h pins s σ H Q I (by
 obtain⟨B,ρ,o,sB,r,e,q⟩:=q;unfold fU at e;split at e
 ·rename_i i b' ef;cases e
  refine⟨B,ρ,_,_,sB,r,ef,λv H1 N1 x1 i1 _=>?_⟩;cases i1
  exact⟨i,rfl,q H1 x1.hh⟩
 ·cases e)
noncomputable def kX (ds:List D)(lo hi:Option Int):List D:=(ds.drop (HT.sIx ds.length 0 lo)).take (HT.sIx ds.length ds.length hi - HT.sIx ds.length 0 lo)
theorem qJ {K:PySem.W.Frag}{H:Hp}{vs:List V}{ds:List D}{lo hi:Option Int}(h:IsL K H vs ds):IsL K H (oA vs lo hi) (kX ds lo hi):=by
 unfold oA kX;rw[h.length];exact(h.drop _).take _
@[simp] noncomputable def Hd (fa:FE)(fl fh:FO):FE:=λρ=>(fa ρ).bind λx=>(fl ρ).bind λl=>(fh ρ).bind λh=>match x.1 with
 |.lst ds=>some (.lst (kX ds l h),true)
 |.tup ds=>if HT.sIx ds.length 0 l=0/\HT.sIx ds.length ds.length h=ds.length then none else some (.tup (kX ds l h),false)
 |_=>none
theorem bO.to {f:Value}{r r':List V->Hp->VK->Prop}(h:bO X f r)(k:∀xs H Q,r' xs H Q->r xs H Q):bO X f r':=λpins s σ H xs us Q I rs q=>h pins s σ H xs us Q I rs (k xs H Q q)
variable {es:List Expr}{x:Str}{p:Pos}{id T:String}
theorem aW {f:List D->Option (D×Bool)}{fa:FA}(hc:bO X (.builtin id) (rDA X.K f))(hm:X.mg x=none)(hv:bootBuiltins x=some (.builtin id))(ha:JA X (e::es) fa)(hg:Gl X x:=by rfl)(hn:x ≠ "__name__":=by decide)(hdb:(x == ("__debug__" : Str))=false:=by decide)
  (he:starEach (e::es) X.env=(false,eval e X.env)::starEach es X.env:=by rfl) (hpl:(backTo pos (starEach es X.env)).any (·.1)=false:=by rfl):JE X (.Call (.Name x p) (e::es) [] pos) (fA f fa):=PE.to (rR hc hg hm hv ha hn hdb he hpl) λ_ _ _ h=>Bl h
theorem eG {f:List D->Option (D×Bool)}{fa:FA}(hc:bO X (.type T) (rDA X.K f))(hm:X.mg x=none)(hv:bootBuiltins x=some (.type T))(ha:JA X (e::es) fa)(hg:Gl X x:=by rfl)(hn:x ≠ "__name__":=by decide)(hdb:(x == ("__debug__" : Str))=false:=by decide)
  (he:starEach (e::es) X.env=(false,eval e X.env)::starEach es X.env:=by rfl) (hpl:(backTo pos (starEach es X.env)).any (·.1)=false:=by rfl):JE X (.Call (.Name x p) (e::es) [] pos) (fA f fa):=PE.to (pb hc hg hm hv ha hn hdb he hpl) λ_ _ _ h=>Bl h
@[simp] noncomputable def dN:List D->Option (D×Bool)
 |[.lst ds]=>some (.int ds.length,false)
 |[.tup ds]=>some (.int ds.length,false)
 |[.str z]=>if z.length<=sizeLine then some (.int z.length,false)else none
 |_=>none
theorem fV:bO X (.builtin "len") (rDA X.K dN):=by
 refine bO.to (bO.or q8 qA) λxs H Q q=>?_;obtain⟨B,ds,d,b,sB,i,e,q⟩:=q;cases i with
 |nil=>simp[dN]at e
 |cons i1 i2=>
  cases i2 with
  |cons _ _=>cases i1<;>simp[dN]at e
  |nil=>
   cases i1<;>try (simp[dN]at e;done)
   ·simp only[dN]at e;split at e
    ·rename_i hz;cases e
     exact .inr ⟨_,rfl,hz,q.one sB (.int _)⟩
    ·cases e
   ·rename_i h hl;simp only[dN]at e;cases e
    refine .inl ⟨_,_,rfl,.inr (bd sB h),?_⟩;rw[hl.length];exact q.one sB (.int _)
   ·rename_i h hl;simp only[dN]at e;cases e
    refine .inl ⟨_,_,rfl,.inl (sB.seq h),?_⟩;rw[hl.length];exact q.one sB (.int _)
theorem pq {n:String}(hm:X.mg x=none)(hv:bootBuiltins x=some (.type n))(hg:Gl X x:=by rfl)(hn:x ≠ "__name__":=by decide)(hd:(x == ("__debug__" : Str))=false:=by decide):JE X (.Name x pos) (fC (.ty n)) :=
 PE.to (AM hg hm hv (v:=.ty n) rfl hn hd) λ_ _ _ h=>xQ (λ_=>.ty n) h
end
theorem xT {A:Around}{k:Nat}(hr:Room k A):A.units+40<cLine:=by have:=hr.un;omega
section
variable {X:Cx}{a b e:Expr}{pos:Pos}{x:Str}{p:Pos}
theorem zo {d:D}(h:∃u v,X.mg x=some u/\aL v u/\∀B,Is X.K B v d)(hg:Gl X x:=by rfl)(hd:(x == ("__debug__" : Str))=false:=by decide):JE X (.Name x pos) (fC d):=by
 obtain⟨u,v,hm,r,i⟩:=h;exact Bu hg hm r i hd
@[simp] noncomputable def wm:D->D->Option (D×Bool)
 |.int i,.int j=>some (.int (i+j),false)
 |.str i,.str j=>if i.length+j.length<=sizeLine then some (.str (i++j),false)else none
 |_,_=>none
theorem B1:OpR X (binaryOp .Add) (rD X.K wm):=by
 refine gW (r:=rD X.K (orD DK zm)) (mI F4 DN) λx y H Q q=>?_;obtain⟨B,dx,dy,d,b,sB,ix,iy,e,q⟩:=q;refine⟨B,dx,dy,d,b,sB,ix,iy,?_,q⟩;cases dx<;>cases dy<;>simp[wm]at e<;>simp[orD,DK,zm,iop,sop,e]
@[simp] noncomputable def jy:D->D->Option (D×Bool):=F3
theorem gX:OpR X (binaryOp .Mult) (rD X.K jy):=F6
@[simp] noncomputable def dLt:D->D->Option (D×Bool):=iLt
theorem lF:OpR X (compareOp .Lt) (rD X.K dLt):=G8
@[simp] noncomputable def dLe:D->D->Option (D×Bool)
 |.int i,.int j=>some (.bl (decide (i<=j)),false)
 |.str i,.str j=>some (.bl (!decide (j.cps.toList<i.cps.toList)),false)
 |_,_=>none
theorem i7:OpR X (compareOp .LtE) (rD X.K dLe):=by
 refine gW (r:=rD X.K (orD iLe sLe)) (mI G9 F7) λx y H Q q=>?_;obtain⟨B,dx,dy,d,b,sB,ix,iy,e,q⟩:=q;refine⟨B,dx,dy,d,b,sB,ix,iy,?_,q⟩;cases dx<;>cases dy<;>simp[dLe]at e<;>simp[orD,iLe,sLe,iop,sop,e]
@[simp] noncomputable def xU:D->Option (D×Bool)
 |.int i=>some (.int (-i),false)
 |_=>none
theorem CN:UnR X (unaryOp .USub) (rDU X.K xU):=by
 intro pins s σ H x v Q I rx q;obtain⟨B,dx,d,b,sB,ix,e,q⟩:=q;cases ix<;>try (simp[xU]at e;done)
 simp only[xU]at e;cases e
 exact D1 pins s σ H _ v Q I rx ⟨_,rfl,q.one sB (.int _)⟩
@[simp] noncomputable def sA:D->D->Option Bool
 |.non,.non=>some true
 |_,.non=>some false
 |.bl a,.bl b=>some (a == b)
 |_,.bl _=>some false
 |_,_=>none
@[simp] noncomputable def dIs:D->D->Option (D×Bool):=λx y=>(sA x y).map λb=>(.bl b,false)
@[simp] noncomputable def gY:D->D->Option (D×Bool):=λx y=>(sA x y).map λb=>(.bl (!b),false)
theorem wn {K:PySem.W.Frag}{B:Hp}{x y:V}{v u:Value}{dx dy:D}{k:Bool}(ix:Is K B x dx)(iy:Is K B y dy)(rx:aL x v)(ry:aL y u)(e:sA dx dy=some k):plainIs v u=true/\(v == u)=k:=by
 cases iy<;>(first|(cases dx<;>simp[sA]at e;done)|skip)
 all_goals (cases ix)
 all_goals (first|(obtain⟨t,rfl⟩:=rx)|cases rx)
 all_goals (cases ry)
 all_goals (simp only[sA,Option.some.injEq]at e;subst e)
 all_goals (first|exact⟨rfl,rfl⟩|skip)
 all_goals (rename_i c d;cases c<;>cases d<;>exact⟨rfl,rfl⟩)
theorem uS:OpR X (compareOp .Is) (rD X.K dIs):=by
 intro pins s σ H x y v u Q I rx ry q;obtain⟨B,dx,dy,d,b,sB,ix,iy,e,q⟩:=q;obtain⟨k,ek,e⟩:=oY e;cases e
 obtain⟨h1,h2⟩:=wn ix iy rx ry ek;refine wpAny_is_plain h1 ⟨.bl k,H,I,by rw[h2];rfl,q.one sB (.bl _)⟩
theorem qK:OpR X (compareOp .IsNot) (rD X.K gY):=by
 intro pins s σ H x y v u Q I rx ry q;obtain⟨B,dx,dy,d,b,sB,ix,iy,e,q⟩:=q;obtain⟨k,ek,e⟩:=oY e;cases e
 obtain⟨h1,h2⟩:=wn ix iy rx ry ek;refine wpAny_isNot_plain h1 ⟨.bl (!k),H,I,by rw[h2];rfl,q.one sB (.bl _)⟩
@[simp] noncomputable def fD:D->Bool
 |.non=>true|.bl _=>true|.int _=>true|.str _=>true
 |_=>false
noncomputable def inD (x:D)(ds:List D):Bool:=ds.any λy=>eqD y x
@[simp] noncomputable def gg:D->Option (List D)
 |.lst ds=>some ds
 |.tup ds=>some ds
 |_=>none
@[simp] noncomputable def dIn:D->D->Option (D×Bool):=λx y=>(gg y).bind λds=>if fD x=true/\ds.all fD=true then some (.bl (inD x ds),false)else none
@[simp] noncomputable def eI:D->D->Option (D×Bool):=λx y=>(gg y).bind λds=>if fD x=true/\ds.all fD=true then some (.bl (!inD x ds),false)else none
theorem mJ {K:PySem.W.Frag}{B:Hp}{v:V}{d:D}(i:Is K B v d)(h:fD d=true):jl v=true:=by
 cases i<;>first|rfl|(simp[fD]at h)
theorem GB {K:PySem.W.Frag}{B:Hp}{v w:V}{d e:D}(i:Is K B v d)(j:Is K B w e)(h:fD d=true)(h':fD e=true):eqV v w=eqD d e:=by
 cases i<;>(first|(simp[fD]at h;done)|skip)
 all_goals (cases j<;>(first|(simp[fD]at h';done)|skip))
 all_goals (simp only[eqV,eqD,Bool.beq_eq_decide_eq])
theorem sC {K:PySem.W.Frag}{B:Hp}:∀ {vs:List V}{ds:List D},IsL K B vs ds->ds.all fD=true->vs.all jl=true
 |_,_,.nil,_=>rfl
 |_,_,.cons i t,h=>by
  rw[List.all_cons,Bool.and_eq_true]at h;rw[List.all_cons,mJ i h.1,sC t h.2];rfl
theorem zp {K:PySem.W.Frag}{B:Hp}{v:V}{d:D}(j:Is K B v d)(hd:fD d=true):∀ {vs:List V}{ds:List D},IsL K B vs ds->ds.all fD=true->inV v vs=inD d ds
 |_,_,.nil,_=>rfl
 |_,_,.cons i t,h=>by
  rw[List.all_cons,Bool.and_eq_true]at h;have e:=zp j hd t h.2;unfold inV inD at *;rw[List.any_cons,List.any_cons,e,GB i j h.1 hd]
theorem wo:OpR X (compareOp .In) (rD X.K dIn):=by
 refine gW xJ λx y H Q q=>?_;obtain⟨B,dx,dy,d,b,sB,ix,iy,e,q⟩:=q;obtain⟨ds,es,e⟩:=oX e;split at e
 ·rename_i hf;cases e
  cases iy<;>simp only[gg]at es<;>try (cases es;done)
  ·rename_i h hl;cases es
   exact⟨_,_,rfl,.inr (bd sB h),mJ ix hf.1,sC hl hf.2,by rw[if_neg (by decide),zp ix hf.1 hl hf.2];exact q.one sB (.bl _)⟩
  ·rename_i h hl;cases es
   exact⟨_,_,rfl,.inl (sB.seq h),mJ ix hf.1,sC hl hf.2,by rw[if_neg (by decide),zp ix hf.1 hl hf.2];exact q.one sB (.bl _)⟩
 ·cases e
theorem jT:OpR X (compareOp .NotIn) (rD X.K eI):=by
 refine gW qz λx y H Q q=>?_;obtain⟨B,dx,dy,d,b,sB,ix,iy,e,q⟩:=q;obtain⟨ds,es,e⟩:=oX e;split at e
 ·rename_i hf;cases e
  cases iy<;>simp only[gg]at es<;>try (cases es;done)
  ·rename_i h hl;cases es
   exact⟨_,_,rfl,.inr (bd sB h),mJ ix hf.1,sC hl hf.2,by rw[if_pos rfl,zp ix hf.1 hl hf.2];exact q.one sB (.bl _)⟩
  ·rename_i h hl;cases es
   exact⟨_,_,rfl,.inl (sB.seq h),mJ ix hf.1,sC hl hf.2,by rw[if_pos rfl,zp ix hf.1 hl hf.2];exact q.one sB (.bl _)⟩
 ·cases e
theorem fW:bootBuiltins "len" = some (.builtin "len"):=PySem.boot_len
theorem dr:bootBuiltins "isinstance" = some (.builtin "isinstance"):=by decide +kernel
theorem FB:bootBuiltins "min" = some (.builtin "min"):=by decide +kernel
theorem FC:bootBuiltins "all" = some (.builtin "all"):=by decide +kernel
theorem wq:bootBuiltins "int" = some (.type "int"):=by decide +kernel
theorem DY:bootBuiltins "bool" = some (.type "bool"):=by decide +kernel
theorem CO:bootBuiltins "str" = some (.type "str"):=by decide +kernel
theorem zq:bootBuiltins "list" = some (.type "list"):=by decide +kernel
theorem qL:bootBuiltins "tuple" = some (.type "tuple"):=by decide +kernel
@[simp] noncomputable def He:List D->Option (D×Bool)
 |[.int i,.int j]=>some (.int (if j > i then j else i),false)
 |_=>none
@[simp] noncomputable def DZ:List D->Option (D×Bool)
 |[.int i,.int j]=>some (.int (if j<i then j else i),false)
 |_=>none
theorem zr {K:PySem.W.Frag}{B:Hp}{xs:List V}{i j:Int}(h:IsL K B xs [.int i,.int j]):xs=[.int i,.int j]:=by
 cases h with
 |cons h1 h2=>cases h1;cases h2 with|cons h3 h4=>cases h3;cases h4;rfl
theorem FD (hc:X.calm=true:=by rfl):bO X (.builtin "min") (rDA X.K DZ):=by
 refine bO.to (xF hc) λxs H Q q=>?_;obtain⟨B,ds,d,b,sB,i,e,q⟩:=q;match ds,e with
 |[.int i',.int j'],e=>simp only[DZ]at e;cases e;exact⟨i',j',zr i,q.one sB (.int _)⟩
@[simp] noncomputable def iK:D->String
 |.non=>"NoneType" | .bl _=>"bool" | .int _=>"int" | .str _=>"str" | .ty _=>"type" | .tup _=>"tuple" | .lst _=>"list" | .dk _ _=>"dict" | .dt _ _=>"dict"
@[simp] noncomputable def FF:D->Bool
 |.ty _=>true
 |_=>false
@[simp] noncomputable def wt (t n:String):Option (D×Bool) :=
 if n = "int" then some (.bl (t == "int" || t == "bool"),false)else if n = "bool" then some (.bl (t == "bool"),false)else if n = "str" then some (.bl (t == "str"),false)
 else if n = "list" then some (.bl (t == "list"),false)else if n = "tuple" then some (.bl (t == "tuple"),false)else none
@[simp] noncomputable def bL:List D->Option (D×Bool)
 |[d,.ty n]=>if FF d=true then none else wt (iK d) n
 |_=>none
theorem B3 {pins:List (Addr×Obj)}{σ:St}{H:Hp}{s:Shared}{A:Around}{E:Value->Shared->Prop}{Q:Value->Shared->Prop}{c:Value}{b:Bool}{v:V}{d:D}{u:Value}(I:Inv X pins σ H s)(i:Is X.K H v d)(hd:∀n,d≠.ty n)(rx:aL v u)(e:PySem.W.kitOne X.K (.type (iK d)) c=some b)(h:∀tk,Q (.bool b) { s with toks:=tk }):
  wpAny (model X.prog X.w) A (call (.builtin "isinstance") [u,c]) Q E s:=by
 cases i with
 |non=>exact fN I rx .non e h
 |bl y=>exact fN I rx (.bl y) e h
 |int y=>exact fN I rx (.int y) e h
 |str y=>exact fN I rx (.str y) e h
 |ty n=>exact absurd rfl (hd n)
 |dk h1 _ _=>exact fN I rx (.dK h1) e h
 |dt h1 _ _=>exact fN I rx (.dT h1) e h
 |tup ht _=>
  cases rx
  obtain⟨its,_,⟨o,h1,h2,_⟩,_⟩:=I.tuple ht;exact PySem.W.kia_one PySem.W.kitx_tuple I.kIn ⟨o,h1,h2⟩ e (λz=>nomatch z) h
 |lst hl _=>
  cases rx
  obtain⟨its,_,⟨o,n,h1,h2,_⟩,_⟩:=I.list hl;exact PySem.W.kia_one PySem.W.kitx_list I.kIn ⟨o,h1,h2⟩ e (λz=>nomatch z) h
theorem Ea (K:PySem.W.Frag)(d:D)(hd:∀n,d≠.ty n):
  PySem.W.kitOne K (.type (iK d)) (.type "int")=some (iK d == "int" || iK d == "bool")/\PySem.W.kitOne K (.type (iK d)) (.type "bool")=some (iK d == "bool")/\PySem.W.kitOne K (.type (iK d)) (.type "str")=some (iK d == "str") /\
   PySem.W.kitOne K (.type (iK d)) (.type "list")=some (iK d == "list")/\PySem.W.kitOne K (.type (iK d)) (.type "tuple")=some (iK d == "tuple"):=by
 cases d<;>(first|exact absurd rfl (hd _)|skip)
 all_goals (simp only[iK];refine⟨?_,?_,?_,?_,?_⟩<;>kernel_rfl)
theorem du:bO X (.builtin "isinstance") (rDA X.K bL):=by
 intro pins s σ H xs us Q I rs q;obtain⟨B,ds,d,b,sB,i,e,q⟩:=q;match ds,i,e with
 |[dx,.ty n],.cons i1 (.cons i2 .nil),e=>
  obtain⟨u1,u2,rfl,r1,r2⟩:=Cs rs;cases i2
  cases r2
  simp only[bL]at e;split at e
  ·cases e
  ·rename_i ht;have hd:∀n,dx≠.ty n:=λn z=>by subst z;exact ht rfl
   obtain⟨k1,k2,k3,k4,k5⟩:=Ea X.K dx hd;have fin:∀ {k:Bool},PySem.W.kitOne X.K (.type (iK dx)) (.type n)=some k->Fin X.K B H (.bl k) false Q->wpAny (model X.prog X.w) X.A (call (.builtin "isinstance") [u1,.type n]) (EP X pins σ Q) X.xe s:=λ{k} hk q=>
    B3 I (i1.mono sB) hd r1 hk λtk=>⟨.bl k,H,I.tok tk,rfl,q.one sB (.bl k)⟩
   unfold wt at e;split at e
   ·rename_i z;subst z;cases e;exact fin k1 q
   split at e
   ·rename_i z;subst z;cases e;exact fin k2 q
   split at e
   ·rename_i z;subst z;cases e;exact fin k3 q
   split at e
   ·rename_i z;subst z;cases e;exact fin k4 q
   split at e
   ·rename_i z;subst z;cases e;exact fin k5 q
   ·cases e
@[simp] noncomputable def GT:D->Option (D×Bool)
 |.int i=>some (.int (Builtin.Int.intBits i),false)
 |_=>none
@[simp] noncomputable def zu (f:FE):FA:=λρ=>(f ρ).bind λx=>gg x.1
theorem wu {tg:Expr}{f:FE}(h:JE X e f):JI X tg e (zu f):=by
 intro pins s σ H R I q;obtain⟨B,ρ,ds,sB,r,e',q⟩:=q;obtain⟨x,ex,es⟩:=oX e';obtain⟨xd,xb⟩:=x;cases xd<;>simp only[gg]at es<;>try (cases es;done)
 ·cases es
  refine Dt h pins s σ H R I ⟨B,ρ,_,_,sB,r,ex,λv H1 N1 x1 i1 _=>?_⟩;cases i1 with
  |@tup a vs _ ht hl=>
   refine⟨a,rfl,⟨vs,bd x1.nh ht⟩,q _ H1 N1 x1 λi H2 s2=>⟨λd ed=>?_,λhlen=>⟨vs,bd s2 ht,by rw[hl.length];exact hlen⟩⟩⟩;obtain⟨v,ev,iv⟩:=hl.get ed;refine⟨⟨vs,v,bd s2 ht,ev⟩,λy H3 hy=>?_⟩;obtain⟨rfl,hy⟩:=hy;have:=hy vs (bd s2 ht);rw[ev]at this;cases this;exact⟨N1,.refl s2,iv⟩
 ·cases es
  refine AS h pins s σ H R I ⟨B,ρ,_,_,sB,r,ex,λv H1 N1 x1 i1 _=>?_⟩;cases i1 with
  |@lst a vs _ ht hl=>
   refine⟨a,rfl,⟨vs,x1.nh.seq ht⟩,q _ H1 N1 x1 λi H2 s2=>⟨λd ed=>?_,λhlen=>⟨vs,s2.seq ht,by rw[hl.length];exact hlen⟩⟩⟩;obtain⟨v,ev,iv⟩:=hl.get ed;refine⟨⟨vs,v,s2.seq ht,ev⟩,λy H3 hy=>?_⟩;obtain⟨rfl,hy⟩:=hy;have:=hy vs (s2.seq ht);rw[ev]at this;cases this;exact⟨N1,.refl s2,iv⟩
noncomputable def dS (lo:Int)(n:Nat):List D:=(List.range n).map λ(k:Nat)=>.int (lo+(k:Int))
theorem zv {K:PySem.W.Frag}{B:Hp}(lo:Int)(n:Nat):oD K (Itr lo n) B (dS lo n):=by
 intro i H s;unfold dS;refine⟨λd ed=>?_,λhl=>by rw[List.length_map,List.length_range]at hl;exact hl⟩;rw[List.getElem?_map]at ed;obtain⟨k,ek,ed⟩:=oY ed;have hk:=List.getElem?_eq_some_iff.mp ek;obtain⟨hlt,hk⟩:=hk;rw[List.length_range]at hlt;rw[List.getElem_range]at hk;subst hk;subst ed;refine⟨hlt,λx H' hy=>?_⟩;obtain⟨rfl,rfl⟩:=hy;exact⟨B,.refl s,.int _⟩
@[simp] noncomputable def f9 (f:FE):FA:=λρ=>match f ρ with
 |some (.int j,_)=>if -1000<=j/\j<=1000 then some (dS 0 j.toNat)else none
 |_=>none
theorem jU {tg:Expr}{f:FE}(hm:X.mg "range" = none)(h:JE X a f)(hg:Gl X "range":=by rfl)(hs:starEach [a] X.env=[(false,eval a X.env)]:=by rfl):PI X tg (.Call (.Name "range" p) [a] [] pos) (tDR X.K (f9 f)):=by
 refine PI.to (xC hg hm (ae h ag hs) hs) λσ H R q=>?_;obtain⟨B,ρ,ds,sB,r,e',q⟩:=q;unfold f9 at e';split at e'
 ·rename_i j b' ef;split at e'
  ·rename_i hj;cases e'
   refine⟨B,ρ,[.int j],sB,r,by simp[ab,ak,ef],λvs H1 N1 x1 i1=>?_⟩;cases i1 with
   |cons i1 i2=>
    cases i1;cases i2
    exact⟨j,rfl,by omega,by omega,q _ H1 N1 x1 λ_=>zv 0 j.toNat⟩
  ·cases e'
 ·cases e'
theorem sD {tg:Expr}{f:FE}(hm:X.mg "range" = none)(h:JE X a f)(hg:Gl X "range":=by rfl)(hs:starEach [a] X.env=[(false,eval a X.env)]:=by rfl):JI X tg (.Call (.Name "range" p) [a] [] pos) (f9 f) :=
 PI.to (jU hm h hg hs) λσ H R ⟨B,ρ,ds,sB,r,e',q⟩=>⟨B,ρ,ds,sB,r,e',λJ H' N x h=>q J H' N x (h _)⟩
end
noncomputable def Def (K:PySem.W.Frag)(x:Str)(st:Stmt):Prop:=∃(f:Addr)(fd:FuncData),Fun K x x st f fd/\PySem.W.nsIn K mainGlobals x=some (some (.ref f))
theorem def_mk {K:PySem.W.Frag}{x:Str}{st:Stmt}{f:Addr}{oc:Value}{od an:Option Addr}{osl:Array (Option Value)}{kV doc pm cdv ct:Value}(a:PySem.W.nsIn K mainGlobals x=some (some (.ref f)))
  (l:K.lookup f=some ⟨oc,od,.func (PySem.W.fnOf x x (eW st) (cm st) (aJ st) .none kV doc pm an cdv ct),osl⟩) (c:PySem.W.codeIn K cdv x=true) (k:PySem.W.keepIn K (.ref f)=true):Def K x st:=⟨f,_,D9 l c k,a⟩
section
variable {P:Program}{w:World}{K:PySem.W.Frag}{mg:Str->Option Value}{base:Heap}
theorem Def.fn {x:Str}{st:Stmt}{N ps:List Str}{k:Nat}{g:FS}{h:Heap}(F:Def K x st)(X:K.In h)(G:h.Ns mainGlobals mg)(S:FnScope N ps (aJ st))
  (hbd:∀(kV doc pm:Value)(an:Option Addr)(cdv ct:Value)(us:List Value),us.length=ps.length->bindArgs (PySem.W.fnOf x x (eW st) (cm st) (aJ st) .none kV doc pm an cdv ct) ⟨us,[]⟩=pure (ps.zip us))
  (hb:∀(f:Addr)(cdv:Value)(A:Around)(outer:List PySem.Env)(s:Shared)(H:Hp)(E:XK),Room k (A.deeper (envOfC x (aJ st) s.heap.objs.size f cdv))->JSs (lW CX0 P w K mg base N x (aJ st) f cdv A outer s H E).nox (cm st) g):
  Fn P w K mg base (k+1) x (aU g ps.length (N.length - ps.length)):=by
 obtain⟨f,fd,F1,a⟩:=F;exact⟨f,fd,ps,F8 F1 S (hb f),PySem.W.mg_of X G a,F1.kp,F1.binds hbd⟩
end
noncomputable def FH (H:Hp):Prop:=∀b,H b=none∨(∃o xs,H b=some (.frz o (.lst xs)))∨∃q,H b=some (.tbl q)
noncomputable def mK (tabs:List (Addr×Str))(G:Hp):Hp:=λb=>match tabs.lookup b with|some q=>some (.tbl q)|none=>G b
theorem fj {tabs:List (Addr×Str)}{G:Hp}{b:Addr}{q:Str}(e:tabs.lookup b=some q):mK tabs G b=some (.tbl q):=by unfold mK;rw[e]
theorem g9 {tabs:List (Addr×Str)}{G:Hp}{b:Addr}(e:tabs.lookup b=none):mK tabs G b=G b:=by unfold mK;rw[e]
theorem xV {P:Program}{w:World}{K:PySem.W.Frag}{mg mb:Str->Option Value}{k:Nat}{fa a:Addr}{fd:FuncData}{x:Str}{sp:Sp}{s₁:Shared}{vs:List Value}{ns:List Int}(tabs:List (Addr×Str))
  (ht:∀b q,tabs.lookup b=some q->s₁.heap.get? b=some (PySem.W.tabObj #[])/\isCodeTable s₁.heap b) (hnt:PySem.W.noTabs K=true)
  (KX:K.In s₁.heap) (hns:s₁.heap.Ns mainGlobals mg) (hb:s₁.heap.Ns builtinsNs mb) (hbb:∀x:Str,x ≠ "__name__"->mb x=bootBuiltins x) (hlim:s₁.heap.NoLimit)
  (hbm:∃bm ob,mg "__builtins__" = some (.ref bm)/\bm≠builtinsNs/\s₁.heap.get? bm=some ob/\ob.cls=.type "module"/\ob.dict=some builtinsNs/\ob.data=.plain) (hg:s₁.gens=#[])
  (ha:s₁.heap.get? a=some { cls:=.type "list",data:=.seq vs.toArray }) (hi:IntsAre vs ns) (hl:ns.length<=sizeLine) (hr:Room k callerA)
  (F:∀base:Heap,K.In base->base.Ns mainGlobals mg->FnOk P w K mg base CX0 k fa fd [x] sp) (hbind:∀(s:Shared)(u:Value),BindsTo s fd ⟨[u],[]⟩ [(x,u)])
  (hsp:∀H:Hp,(∀b q,tabs.lookup b=some q->H b=some (.tbl q))->SqL K H a (ns.map V.int)->sp [.ref a] H (λv _=>v=.bl true) λ_ _ _=>False):
  codeAny (model P w) callerA (.call (.ref fa) ⟨[.ref a],[]⟩) (λr s'=>r=.ok (.ret (.bool true))/\OldK s₁.heap s'.heap/\s'.os=s₁.os/\AllBare s'.gens) s₁:=by
 have rv:=L2.gz hi;have lenV:=hi.length;have core:∀H:Hp,FH H->(∀b q,tabs.lookup b=some q->H b=some (.tbl q))->SqL K H a (ns.map V.int)->HOk P w H s₁.heap->(∀b q,H b=some (.tbl q)->s₁.heap.get? b=some (PySem.W.tabObj #[])/\isCodeTable s₁.heap b) ->
   (∀b o u,H b=some (.frz o u)->b=a)->(∀b o u,H b=some (.frz o u)->K.lookup b=none) ->
   codeAny (model P w) callerA (.call (.ref fa) ⟨[.ref a],[]⟩) (λr s'=>r=.ok (.ret (.bool true))/\OldK s₁.heap s'.heap/\s'.os=s₁.os/\AllBare s'.gens) s₁:=by
  intro H hO hT hS hok hA hB hK;have noA:∀ {b:Addr}{o:Obj},s₁.heap.get? b=some o->(o.cls≠.none)->(o.cls≠.type "list")->H b=none:=λ{b o} e d d'=>by
   rcases hO b with q|⟨ob,xs,q⟩|⟨u,q⟩
   ·exact q
   ·have e':b=a:=hB b _ _ q;subst e';rw[ha]at e;cases e;exact absurd rfl d'
   ·rw[(hA b u q).1]at e;cases e;exact absurd rfl d
  have noD:∀ {b:Addr}{o:Obj}{es:Array DictEntry}{ep:Nat},s₁.heap.get? b=some o->o.data=.dict es ep->H b=none:=λ{b o es ep} e d=>by
   rcases hO b with q|⟨ob,xs,q⟩|⟨u,q⟩
   ·exact q
   ·have e':b=a:=hB b _ _ q;subst e';rw[ha]at e;cases e;cases d
   ·rw[(hA b u q).1]at e;cases e;cases d
  have nsK:∀ {b:Addr}{m:Str->Option Value},s₁.heap.Ns b m->(rM s₁.heap H).Ns b m:=λ{b m} ⟨o,es,ep,e,d,r⟩=>⟨o,es,ep,m4 e (noD e d),d,r⟩;have hKb:K.In (rM s₁.heap H):=λb o e=>m4 (KX b o e) (by
   rcases hO b with q|⟨ob,xs,q⟩|⟨u,q⟩
   ·exact q
   ·rw[hK b _ _ q]at e;cases e
   ·have z:=(hA b u q).1;rw[KX b o e]at z;cases z
    have:=List.all_eq_true.mp hnt _ (PySem.W.mem_of_lookupK e);simp at this)
  have hM:Mod K mg (rM s₁.heap H):=⟨hKb,nsK hns,⟨mb,nsK hb,hbb⟩,let ⟨mc,h1,h2⟩:=hlim;⟨mc,nsK h1,h2⟩,by
   obtain⟨bm,ob,b1,b2,b3,b4,b5⟩:=hbm;exact⟨bm,ob,b1,b2,m4 b3 (noA b3 (by rw[b4];exact λz=>nomatch z) (by rw[b4];intro z;injection z with z;exact absurd z (by decide))),b4,b5⟩⟩
  have e0:Env0 P w K mg (rM s₁.heap H) callerA [] s₁ H:=⟨rfl,hM,λb o e=>AJ e,Nat.le_of_eq (x0 _ _),trivial,λb hb=>absurd (show b∈([]:List Addr)from hb) (by simp),hok,.of_eq hg⟩;refine codeAny_mono ((F _ hKb (nsK hns)).run callerA [] s₁ H ⟨[.ref a],[]⟩ [.ref a] [.ref a] _ _ hr e0 (hbind s₁ (.ref a)) (.cons rfl .nil) (hsp H hT hS)) λr s' h=>?_;cases r with
  |error e=>exact False.elim h
  |ok fl=>
   cases fl with
   |next=>exact False.elim h
   |brk=>exact False.elim h
   |cont=>exact False.elim h
   |ret u=>
    obtain⟨v,H',os,bare,un,hok',r',q⟩:=h;have q':v=.bl true:=q;subst q';obtain rfl:u=Value.bool true:=r';have kp:∀b o,H b=none->s₁.heap.get? b=some o->s'.heap.get? b=some o:=λb o n e=>un.keep b o e n (by intro z;exact absurd (show b∈([]:List Addr)from z) (by simp)) (by simp);refine⟨rfl,⟨λb o e=>?_,λb o e=>un.there b o e (by simp)⟩,os,bare⟩;rcases hO b with z|⟨ob,xs,z⟩|⟨u,z⟩
    ·exact .inl (kp b o z e)
    ·have z2:=un.frzs b ob _ z;obtain⟨e1,_⟩:=hok b _ z;obtain⟨e2,_⟩:=hok' b _ z2;rw[e]at e1;cases e1;exact .inl e2
    ·obtain⟨e1,e2⟩:=hA b u z;rw[e]at e1;cases e1;obtain⟨ps,e3,_⟩:=hok' b _ (un.tbls b u z);exact .inr (.inl ⟨e2,rfl,#[],ps,rfl,by simpa using e3⟩)
 have tabNot:∀q,tabs.lookup a≠some q:=λq z=>by
  have:=(ht a q z).1;rw[ha]at this;cases this
 have ta:tabs.lookup a=none:=by
  cases z:tabs.lookup a with
  |none=>rfl
  |some q=>exact absurd z (tabNot q)
 have tabOk:∀(G:Hp) b q,tabs.lookup b=some q->bA P w (mK tabs G) s₁.heap b (.tbl q):=λG b q z=>⟨#[],(ht b q z).1,trivial,λpos cv c=>by cases c⟩;cases hk:K.lookup a with
 |some o=>
  have e:=KX a o hk;rw[ha]at e;cases e
  refine core (mK tabs λ_=>none) (λb=>?_) (λb q z=>fj z) (.inr ⟨_,vs.toArray,_,hk,rfl,rfl,rfl,by rw[List.size_toArray,lenV];exact hl,by simpa using rv⟩) (λb u z=>?_) (λb q z=>?_) (λb o u z=>?_) λb o u z=>?_
  all_goals cases zt:tabs.lookup b with
   |none=>first|exact .inl (g9 zt)|(rw[g9 zt]at z;cases z)
   |some q'=>first|exact .inr (.inr ⟨q',fj zt⟩)|(rw[fj zt]at z;cases z;done)|(rw[fj zt]at z;cases z;first|exact tabOk _ b _ zt|exact ht b _ zt)
 |none=>
  refine core (mK tabs λb=>if b=a then some (.frz { cls:=.type "list",data:=.seq vs.toArray } (.lst (ns.map V.int)))else none) (λb=>?_) (λb q z=>fj z) (.inl (.inr ⟨{ cls:=.type "list",data:=.seq vs.toArray },by rw[g9 ta,if_pos rfl]⟩)) (λb u z=>?_) (λb q z=>?_) (λb o u z=>?_) λb o u z=>?_
  all_goals cases zt:tabs.lookup b with
   |some q'=>first|exact .inr (.inr ⟨q',fj zt⟩)|(rw[fj zt]at z;cases z;done)|(rw[fj zt]at z;cases z;first|exact tabOk _ b _ zt|exact ht b _ zt)
   |none=>
    first
    |rw[g9 zt]at z
    |rw[g9 zt]
    by_cases hb:b=a
    ·first
     |rw[if_pos hb]at z
     |rw[if_pos hb]
     first
     |exact .inr (.inl ⟨_,_,rfl⟩)
     | (cases z;subst hb;exact⟨ha,by rw[List.length_map];exact hl,vs,_,rv,ha⟩)
     |exact hb
     | (rw[hb];exact hk)
     |cases z
    ·first
     | (rw[if_neg hb]at z;cases z)
     |exact .inl (if_neg hb)
noncomputable def qM (L:List (Str×Option (Addr×Addr))):List (Addr×Str):=L.filterMap λp=>p.2.map λq=>(q.2,mE p.1)
structure TabsFit (K:PySem.W.Frag)(L:List (Str×Option (Addr×Addr))):Prop where
 names:L=jP.map λx=>(x,PySem.W.tabIn K x)
 apart:((qM L).map (·.1)).Nodup
 none:PySem.W.noTabs K=true
theorem jo {α β:Type}[BEq α][LawfulBEq α]:∀ {l:List (α×β)}{a:α}{b:β},(l.map (·.1)).Nodup->(a,b)∈l->l.lookup a=some b
 | (c,d)::l,a,b,nd,h=>by
  rw[List.lookup_cons];rcases List.mem_cons.mp h with e|h
  ·cases e;simp
  ·have ne:a≠c:=λz=>(List.nodup_cons.mp nd).1 (by rw[←z];exact List.mem_map.mpr ⟨(a,b),h,rfl⟩);rw[show(a == c)=false by simpa using ne];exact jo (List.nodup_cons.mp nd).2 h
theorem iL {α β:Type}[BEq α][LawfulBEq α]:∀ {l:List (α×β)}{a:α}{b:β},l.lookup a=some b->(a,b)∈l
 | (c,d)::l,a,b,h=>by
  rw[List.lookup_cons]at h;cases e:a == c with
  |true=>rw[e]at h;cases h;rw[eq_of_beq e];exact mX
  |false=>rw[e]at h;exact mZ _ (iL h)
theorem TabsFit.tb {K:PySem.W.Frag}{L:List (Str×Option (Addr×Addr))}(F:TabsFit K L){H:Hp}(h:∀b q,(qM L).lookup b=some q->H b=some (.tbl q)):Tb K H:=λx hx c P e=>by
 refine h P (mE x) (jo F.apart ?_);rw[F.names];exact List.mem_filterMap.mpr ⟨(x,PySem.W.tabIn K x),List.mem_map.mpr ⟨x,hx,rfl⟩,by rw[e];rfl⟩
theorem tab_no {K:PySem.W.Frag}{x:Str}(e:PySem.W.nsIn K mainGlobals x=some none):PySem.W.tabIn K x=none:=by unfold PySem.W.tabIn;rw[e]
theorem tab_yes {K:PySem.W.Frag}{x:Str}{f c P:Addr}{oc oc':Value}{od od':Option Addr}{osl osl':Array (Option Value)}{fd:FuncData}{vs:Array Value}(e1:PySem.W.nsIn K mainGlobals x=some (some (.ref f)))(e2:K.lookup f=some ⟨oc,od,.func fd,osl⟩)(e3:fd.code=.ref c)
  (e4:K.lookup c=some ⟨oc',od',.fields vs,osl'⟩) (e5:vs[11]? = some (.ref P)):PySem.W.tabIn K x=some (c,P):=by unfold PySem.W.tabIn;simp only[e1,e2,e3,e4,e5]
theorem tabs_fit {K:PySem.W.Frag}{t0 t1 t2 t3:Option (Addr×Addr)}(h0:PySem.W.tabIn K "in_order" = t0)(h1:PySem.W.tabIn K "has_seal" = t1)(h2:PySem.W.tabIn K "is_first_death" = t2)(h3:PySem.W.tabIn K "bases_by" = t3)
  (ap:((qM [("in_order",t0),("has_seal",t1),("is_first_death",t2),("bases_by",t3)]).map (·.1)).Nodup) (nt:PySem.W.noTabs K=true):TabsFit K [("in_order",t0),("has_seal",t1),("is_first_death",t2),("bases_by",t3)] :=
 ⟨by subst h0;subst h1;subst h2;subst h3;rfl,ap,nt⟩
theorem walkD {l:PySem.W.OpenLaw}{q:Program}{loose:List Str}{XP:(Str->Option Value)->Heap->Prop}{YP:World->Heap->Prop}{d:DefRec}{K:Params->PySem.W.Frag}{k:Nat}{x:Str}{f:List D->Option (D×Bool)}{L:List (Str×Option (Addr×Addr))}(hn:l.most=some 63)(hdf:d.params.defaults=[])(hr:Room k callerA)
  (hY:∀(w:World)(h:Heap),YP w h->(K w.params).In h) (hT:∀w:World,TabsFit (K w.params) L) (hD:(L.all λp=>p.2.isNone || ((recsOf q).find? λe=>e.name == p.1).isSome)=true)
  (F:∀(w:World)(mg:Str->Option Value)(fa:Addr)(h:Heap),(K w.params).In h->h.Ns mainGlobals mg->mg d.name=some (.ref fa) ->
   ∃fd:FuncData,(∀(s:Shared)(u:Value),BindsTo s fd ⟨[u],[]⟩ [(x,u)])/\∀base:Heap,(K w.params).In base->base.Ns mainGlobals mg->FnOk l.prog w (K w.params) mg base CX0 k fa fd [x] (spD (K w.params) f))
  (ht:∀ns:List Int,ns.length<=63->∃b,f [.lst (ns.map .int)]=some (.bl true,b)):PySem.W.WalkO q loose XP YP l.row.toRowW d [] (λf vs=>PySem.call f vs):=by
 refine Att.rT hn hdf λw s₀ s₁ mg mb fa o pm cd doc a vs ns G Y ho hd hcd hmg hobj hints hlen hg=>?_;have KX:=hY w _ Y;obtain⟨fd,hb,hF⟩:=F w mg fa _ KX G.T.g hmg;refine xV (qM L) (λb u e=>?_) (hT w).none KX G.T.g G.T.b G.T.builtins G.T.nolimit G.T.bmain hg hobj hints (Nat.le_trans hlen (by decide)) hr hF hb λH hH hS=>?_
 ·obtain⟨p,hp,e2⟩:=List.mem_filterMap.mp (iL e);obtain⟨⟨c,P⟩,e3,e4⟩:=oY e2;cases e4
  have hp':=List.all_eq_true.mp hD p hp;rw[e3]at hp';rw[Option.isNone_some,Bool.false_or]at hp';obtain⟨r,hr'⟩:=Option.isSome_iff_exists.mp hp';have ht':PySem.W.tabIn (K w.params) p.1=some (c,P):=by
   rw[(hT w).names]at hp;obtain⟨y,_,rfl⟩:=List.mem_map.mp hp;exact e3
  obtain⟨h1,h2⟩:=PySem.W.tab_of G.T KX hr' ht';exact⟨h2,(h1.tab h2).isCodeTable⟩
 ·obtain⟨b,e⟩:=ht ns hlen;exact⟨H,_,_,b,⟨.refl H,(hT w).tb hH⟩,.cons (.lst hS (.flat rfl)) .nil,e,λv H' N x' i' _=>by cases i';rfl⟩
theorem Def.law {P:Program}{w:World}{K:PySem.W.Frag}{mg:Str->Option Value}{x y:Str}{st:Stmt}{N:List Str}{k:Nat}{g:FS}{h:Heap}{fa:Addr}(F:Def K x st)(X:K.In h)(G:h.Ns mainGlobals mg)(hfa:mg x=some (.ref fa))(S:FnScope N [y] (aJ st))
  (hbd:∀(kV doc pm:Value)(an:Option Addr)(cdv ct:Value)(u:Value),bindArgs (PySem.W.fnOf x x (eW st) (cm st) (aJ st) .none kV doc pm an cdv ct) ⟨[u],[]⟩=pure [(y,u)])
  (hb:∀(base:Heap),K.In base->base.Ns mainGlobals mg->∀(f:Addr)(cdv:Value)(A:Around)(outer:List PySem.Env)(s:Shared)(H:Hp)(E:XK),Room k (A.deeper (envOfC x (aJ st) s.heap.objs.size f cdv))->JSs (lW CX0 P w K mg base N x (aJ st) f cdv A outer s H E).nox (cm st) g):
  ∃fd:FuncData,(∀(s:Shared)(u:Value),BindsTo s fd ⟨[u],[]⟩ [(y,u)])/\∀base:Heap,K.In base->base.Ns mainGlobals mg->FnOk P w K mg base CX0 (k+1) fa fd [y] (spD K (aU g 1 (N.length - 1))):=by
 obtain⟨f,fd,F1,a⟩:=F;have e:=hfa.symm.trans (PySem.W.mg_of X G a);cases e
 refine⟨fd,λs u=>?_,λbase kb nb=>F8 F1 S (hb base kb nb _)⟩;obtain⟨oc,od,kV,doc,pm,an,cdv,ct,osl,rfl,lk,hcd⟩:=F1.ex;exact .of_eq (hbd kV doc pm an cdv ct u)
section
variable {X:Cx}{a b e:Expr}{pos:Pos}{x:Str}{p:Pos}
@[simp] noncomputable def zw:D->D->Option (D×Bool)
 |.lst xs,.lst ys=>if xs.length+ys.length<=sizeLine then some (.lst (xs++ys),true)else none
 |_,_=>none
theorem Eb:OpR X (binaryOp .Add) (rD X.K zw):=by
 intro pins s σ H x y v u Q I rx ry q;obtain⟨B,dx,dy,d,bb,sB,ix,iy,ee,q⟩:=q;cases ix<;>cases iy<;>try (simp[zw]at ee;done)
 rename_i l vs ds h hl l' ws es h' hl';simp only[zw]at ee;split at ee
 ·rename_i hz;cases ee
  cases rx
  cases ry
  obtain⟨its,r1,p1,z1⟩:=I.list (sB.seq h);obtain⟨jts,r2,p2,z2⟩:=I.list (sB.seq h');obtain⟨⟨c1,d1,t1,s1⟩,o1,e1,n1,k1⟩:=p1.isList;obtain⟨⟨c2,d2,t2,s2⟩,o2,e2,n2,k2⟩:=p2.isList;dsimp only at e1 k1 e2 k2;subst e1;subst k1;subst e2;subst k2;have hsz:its.toArray.size+jts.toArray.size<=sizeLine:=by
   rw[List.size_toArray,List.size_toArray,←r1.length,←r2.length,hl.length,hl'.length];exact hz
  have ea:its.toArray++jts.toArray=(its++jts).toArray:=by simp
  refine concat_meets ⟨_,o1,rfl⟩ ⟨_,o2,rfl⟩ noFill_list_add seq_list_add PySem.F.slot_list_add PySem.F.entry_list_add (PySem.F.args_list_add_2 _ _) (list_addW l l' its.toArray jts.toArray n1 n2 d1 d2 s1 s2 hsz) ⟨o1,o2,?_⟩;rw[ea];have xt:=Ext.laid (o:=.lst (vs++ws)) sB I.fresh;have il:=(hl.append hl').mono xt.bn;exact⟨.ref s.heap.objs.size,_,I.lnew (t':=s.toks) (r1.append r2) (by rw[List.length_append,hl.length,hl'.length];exact hz),rfl,q _ _ _ xt (.lst (SqL.of a0) il) λ_=>⟨_,_,_,rfl,rfl,I.fresh,a0,il⟩⟩
 ·cases ee
@[simp] noncomputable def zx:D->D->Option (D×Bool)
 |.tup xs,.tup ys=>if xs.length+ys.length<=sizeLine/\xs.isEmpty=false then some (.tup (xs++ys),false)else none
 |_,_=>none
theorem Ec:OpR X (binaryOp .Add) (rD X.K zx):=by
 refine gW Bc λx y H Q q=>?_;obtain⟨B,dx,dy,d,bb,sB,ix,iy,ee,q⟩:=q;cases ix<;>cases iy<;>try (simp[zx]at ee;done)
 rename_i l vs ds h hl l' ws es h' hl';simp only[zx]at ee;split at ee
 ·rename_i hz;cases ee
  have l1:=hl.length;have l2:=hl'.length;refine⟨l,l',vs,ws,rfl,rfl,bd sB h,bd sB h',λz=>?_,by omega,λz=>?_,λ_ pp hp=>?_⟩
  ·subst z;cases hl
   simp at hz
  ·subst z;cases hl'
   rw[List.append_nil]at q;exact q.one sB (.tup h hl)
  ·have xt:=Ext.laid (o:=.tup (vs++ws)) sB hp;exact q _ _ _ xt (.tup (SqT.of a0) ((hl.append hl').mono xt.bn)) (by simp)
 ·cases ee
@[simp] noncomputable def xW:D->D->Option (D×Bool)
 |.bl i,.int j=>some (.int ((if i=true then 1 else 0)+j),false)
 |.int i,.bl j=>some (.int (i+b2i j),false)
 |_,_=>none
theorem Ed:OpR X (binaryOp .Add) (rD X.K xW):=by
 intro pins s σ H x y v u Q I rx ry q;obtain⟨B,dx,dy,d,bb,sB,ix,iy,ee,q⟩:=q;cases ix<;>cases iy<;>try (simp[xW]at ee;done)
 ·simp only[xW]at ee;cases ee
  cases rx
  obtain⟨t,rfl⟩:=ry;exact IntBool.add_bool_int ⟨.int _,H,I.tok _,⟨_,rfl⟩,q.one sB (.int _)⟩
 ·simp only[xW]at ee;cases ee
  exact xE pins s σ H _ _ v u Q I rx ry ⟨_,_,rfl,rfl,q.one sB (.int _)⟩
@[simp] noncomputable def cG:D->D->Option (D×Bool)
 |.int i,.int j=>some (.int (i+j),false)
 |.str i,.str j=>if i.length+j.length<=sizeLine then some (.str (i++j),false)else none
 |.lst xs,.lst ys=>if xs.length+ys.length<=sizeLine then some (.lst (xs++ys),true)else none
 |.tup xs,.tup ys=>if xs.length+ys.length<=sizeLine/\xs.isEmpty=false then some (.tup (xs++ys),false)else none
 |.bl i,.int j=>some (.int ((if i=true then 1 else 0)+j),false)
 |.int i,.bl j=>some (.int (i+b2i j),false)
 |_,_=>none
theorem bQ:OpR X (binaryOp .Add) (rD X.K cG):=by
 refine gW (r:=rD X.K (orD wm (orD zw (orD zx xW)))) (mI B1 (mI Eb (mI Ec Ed))) λx y H Q q=>?_;obtain⟨B,dx,dy,d,bb,sB,ix,iy,ee,q⟩:=q;refine⟨B,dx,dy,d,bb,sB,ix,iy,?_,q⟩;cases dx<;>cases dy<;>simp[cG]at ee<;>simp[orD,wm,zw,zx,xW,ee]
@[simp] noncomputable def blD:D->Option Bool
 |.bl b=>some b
 |_=>none
noncomputable def qN:List D->Option (List Bool)
 |[]=>some []
 |d::ds=>(blD d).bind λb=>(qN ds).map (b :: ·)
@[simp] theorem FI:qN []=some []:=rfl
@[simp] theorem xX (d:D)(ds:List D):qN (d::ds)=(blD d).bind λb=>(qN ds).map (b :: ·):=rfl
theorem wv {K:PySem.W.Frag}{B:Hp}:∀ {vs:List V}{ds:List D}{bs:List Bool}{its:List Value},L2.aQ vs its->IsL K B vs ds->qN ds=some bs->its=bs.map Value.bool
 |_,_,_,_,.nil,.nil,e=>by cases e;rfl
 |_,_,_,_,.cons r rr,.cons i ii,e=>by
  rw[xX]at e;obtain⟨b,e1,e⟩:=oX e;obtain⟨bs,e2,e⟩:=oY e;subst e;cases i<;>simp only[blD]at e1<;>try (cases e1;done)
  cases e1
  cases r
  rw[wv rr ii e2];rfl
@[simp] noncomputable def FJ:List D->Option (D×Bool)
 |[.lst ds]=>(qN ds).map λbs=>(.bl (bs.all id),false)
 |_=>none
@[simp] noncomputable def Hf:List D->Option (D×Bool)
 |[.lst ds]=>(qN ds).map λbs=>(.bl (bs.any id),false)
 |_=>none
theorem FK (hc:X.calm=true:=by rfl):bO X (.builtin "all") (rDA X.K FJ):=by
 intro pins s σ H xs us Q I rs q;obtain⟨B,ds,d,bb,sB,i,ee,q⟩:=q;match ds,i,ee with
 |[.lst es],.cons i1 .nil,ee=>
  obtain⟨bs,eb,ee⟩:=oY ee;cases ee
  obtain⟨u1,rfl,r1⟩:=gv rs;cases i1 with
  |@lst l vs _ h hl=>
   cases r1
   obtain⟨its,rv,p1,z1⟩:=I.list (sB.seq h);have ei:=wv rv hl eb;have hlt:l<s.heap.objs.size:=by obtain⟨_,e0,_⟩:=p1.isList;exact Heap.lt_size e0
   refine call_all_walk (wpAny_pyIter_list p1.isList ⟨_,_,_,_,_,_,λj=>(bs[j]?).getD true,rfl,Walks.list (A:=X.A.in1) (I.ok.hd hc) s.heap.objs.size l (Nat.ne_of_lt hlt) its.toArray,⟨⟨_,Heap.get?_push_size _ rfl,rfl,rfl⟩,p1.isList.push _⟩,λj v s' Q' E' hP hQ=>?_,λh' tk hk=>?_⟩)
   ·have hP':its[j]? = some v:=by simpa using hP
    rw[ei,List.getElem?_map]at hP';obtain⟨c,e1,e2⟩:=oY hP';subst e2;dsimp only at hQ;rw[e1]at hQ;exact wpAny_truthy_bool hQ
   ·have ea:((List.range its.toArray.size).all λj=>(bs[j]?).getD true)=bs.all id:=by
     rw[List.size_toArray,ei,List.length_map];exact LSm.range_all bs
    rw[ea];refine⟨.bl _,H,I.kept λc o e0=>?_,rfl,q.one sB (.bl _)⟩;exact hk c o (λhm=>by rw[List.mem_singleton.mp hm]at e0;exact Nat.lt_irrefl _ (Heap.lt_size e0)) (Heap.get?_push_of_some _ e0)
end
noncomputable def Its (z:Str):It:=⟨λi _=>i<z.cps.size,λi H v H'=>H'=H/\∃c,z.cps[i]? = some c/\v=.str ⟨#[c]⟩,λi _=>z.cps.size<=i⟩
theorem sE {P:Program}{w:World}{K:PySem.W.Frag}{tg:Expr}(z:Str)(t:Tok)(it:Addr):Turn P w K tg (Its z) [it] it (λi h=>h.IsStrIter it "str_ascii_iterator" z t i) where
 mem:=List.mem_singleton.mpr rfl
 obj:=λi h st b hb=>by
  have eb:=List.mem_singleton.mp hb;subst eb;obtain⟨o,e1,_,d1⟩:=st;exact⟨o,e1,λv zz=>by rw[d1]at zz;cases zz⟩
 keep:=λi h h' st k=>let ⟨o,e1,r⟩:=st;⟨o,k it (List.mem_singleton.mpr rfl) o e1,r⟩
 item:=by
  intro X hP hw hK hc i pins s σ H E I hf st hg;subst hP hw hK;have hg':i<z.cps.size:=hg;obtain⟨f0,f1,f2,f3,f4,f5⟩:=hf it (List.mem_singleton.mpr rfl);refine wpAny_pyNext_ascii_item st (c:=z.cps[i]) (by simp[hg']) λh' st' sb=>?_;obtain⟨o,e1,c1,d1⟩:=id st';exact⟨_,rfl,m7 (s:={ s with heap:=h',toks:=s.toks+1 }) e1 c1 d1 (by decide) ⟨.str ⟨#[z.cps[i]]⟩,H,I.turned (λb o hb e2=>(sb.2 b hb).trans e2) f0 f1 f3 f4 f5,⟨_,rfl⟩,⟨rfl,_,by simp[hg'],rfl⟩,st',λb hb=>(hf b hb).1⟩⟩
 done:=by
  intro X hP hw hK hc i pins s σ H E I hf st hg;subst hP hw hK;have hg':z.cps.size<=i:=hg;obtain⟨f0,f1,f2,f3,f4,f5⟩:=hf it (List.mem_singleton.mpr rfl);exact wpAny_pyNext_ascii_end (I.ok.hd hc) st (by simp;omega) λh' eb=>⟨rfl,I.turned (t':=s.toks) (λb o hb e2=>eb b o hb e2) f0 f1 f3 f4 f5⟩
 self:=λ_ _ _ _ _ st h=>wpAny_pyIter_striter_ascii st h
theorem sF {P:Program}{w:World}{K:PySem.W.Frag}{tg:Expr}(z:Str)(t:Tok)(it:Addr):Turn P w K tg (Its z) [it] it (λi h=>h.IsStrIter it "str_iterator" z t i) where
 mem:=List.mem_singleton.mpr rfl
 obj:=λi h st b hb=>by
  have eb:=List.mem_singleton.mp hb;subst eb;obtain⟨o,e1,_,d1⟩:=st;exact⟨o,e1,λv zz=>by rw[d1]at zz;cases zz⟩
 keep:=λi h h' st k=>let ⟨o,e1,r⟩:=st;⟨o,k it (List.mem_singleton.mpr rfl) o e1,r⟩
 item:=by
  intro X hP hw hK hc i pins s σ H E I hf st hg;subst hP hw hK;have hg':i<z.cps.size:=hg;obtain⟨f0,f1,f2,f3,f4,f5⟩:=hf it (List.mem_singleton.mpr rfl);refine wpAny_pyNext_wide_item st (c:=z.cps[i]) (by simp[hg']) λh' st' sb=>?_;obtain⟨o,e1,c1,d1⟩:=id st';exact⟨_,rfl,m7 (s:={ s with heap:=h',toks:=s.toks+1 }) e1 c1 d1 (by decide) ⟨.str ⟨#[z.cps[i]]⟩,H,I.turned (λb o hb e2=>(sb.2 b hb).trans e2) f0 f1 f3 f4 f5,⟨_,rfl⟩,⟨rfl,_,by simp[hg'],rfl⟩,st',λb hb=>(hf b hb).1⟩⟩
 done:=by
  intro X hP hw hK hc i pins s σ H E I hf st hg;subst hP hw hK;have hg':z.cps.size<=i:=hg;obtain⟨f0,f1,f2,f3,f4,f5⟩:=hf it (List.mem_singleton.mpr rfl);exact wpAny_pyNext_wide_end (I.ok.hd hc) st (by simp;omega) λh' eb=>⟨rfl,I.turned (t':=s.toks) (λb o hb e2=>eb b o hb e2) f0 f1 f3 f4 f5⟩
 self:=λ_ _ _ _ _ st h=>wpAny_pyIter_striter_wide st h
section
variable {X:Cx}{a b e:Expr}{pos:Pos}{x:Str}{p:Pos}{tg:Expr}
theorem zy {l:Expr}{tl:TE}(hl:PE X l tl):PI X tg l (λσ H R=>tl σ H λx H1=>∃z,x=.str z/\R (Its z) H1):=by
 intro pins s σ H R I h;refine thn (hl pins s σ H _ I h) λv s1 ⟨x,H1,I1,r1,q1⟩=>?_;obtain⟨z,rfl,q⟩:=q1;obtain⟨t,rfl⟩:=r1;have fp:∀b∈[s1.heap.objs.size],kO X pins H1 b:=λb hb=>by
  rw[List.mem_singleton.mp hb];exact I1.fpOk (Nat.le_refl _) (I1.hok.fresh (Nat.le_refl _))
 cases ha:z.cps.all (· < 128) with
 |true=>exact wpAny_pyIter_ascii ha ⟨_,[s1.heap.objs.size],_,_,H1,rfl,I1.kept (t':=s1.toks) λb o e=>Heap.get?_push_of_some _ e,sE z t _,⟨_,Heap.get?_push_size _ rfl,rfl,rfl⟩,fp,q⟩
 |false=>exact wpAny_pyIter_wide ha ⟨_,[s1.heap.objs.size],_,_,H1,rfl,I1.kept (t':=s1.toks) λb o e=>Heap.get?_push_of_some _ e,sF z t _,⟨_,Heap.get?_push_size _ rfl,rfl,rfl⟩,fp,q⟩
noncomputable def ww (z:Str):List D:=z.cps.toList.map λc=>.str ⟨#[c]⟩
theorem z4 {K:PySem.W.Frag}{B:Hp}(z:Str):oD K (Its z) B (ww z):=by
 intro i H s;refine⟨λd ed=>?_,λhl=>by unfold ww at hl;show z.cps.size<=i;simpa using hl⟩;unfold ww at ed;rw[List.getElem?_map]at ed;obtain⟨c,ec,rfl⟩:=oY ed;have ec':z.cps[i]? = some c:=by simpa using ec
 refine⟨(Array.getElem?_eq_some_iff.mp ec').1,λv H' hy=>?_⟩;obtain⟨rfl,c',e1,rfl⟩:=hy;rw[ec']at e1;cases e1;exact⟨B,.refl s,.str _⟩
@[simp] noncomputable def Ee:D->Option (List D)
 |.lst ds=>some ds
 |.tup ds=>some ds
 |.str z=>some (ww z)
 |_=>none
@[simp] noncomputable def bV (f:FE):FA:=λρ=>(f ρ).bind λx=>Ee x.1
theorem bF {f:FE}(h:JE X e f):JI X tg e (bV f):=by
 intro pins s σ H R I q;obtain⟨B,ρ,ds,sB,r,e',q⟩:=q;obtain⟨xx,ex,es⟩:=oX e';obtain⟨xd,xb⟩:=xx;cases xd with
 |lst l=>exact wu h pins s σ H R I ⟨B,ρ,ds,sB,r,by unfold zu;rw[ex];exact es,q⟩
 |tup l=>exact wu h pins s σ H R I ⟨B,ρ,ds,sB,r,by unfold zu;rw[ex];exact es,q⟩
 |str z=>
  cases es
  refine zy h pins s σ H R I ⟨B,ρ,_,_,sB,r,ex,λv H1 N1 x1 i1 _=>?_⟩;cases i1
  exact⟨z,rfl,q _ H1 N1 x1 (z4 z)⟩
 |_=>cases es
theorem B4:SlR X (λx lo hi H Q=>∃z,x=.str z/\z.length<=sizeLine/\Q (.str (Txt.slice z lo hi)) H):=by
 intro pins s σ H x v vl vu lo hi sl Q I rx hs pl pu h;obtain⟨z,rfl,hz,q⟩:=h;obtain⟨t,rfl⟩:=rx;have fin:∀lo hi,Q (.str (Txt.slice z lo hi)) H->(Txt.slice z lo hi).length<=sizeLine/\∀t' k,EP X pins σ Q (.str (Txt.slice z lo hi) t') { s with toks:=k }:=λlo hi q=>
  ⟨Nat.le_trans (Txt.slice_le z _ _) hz,λt' k=>⟨.str _,H,I.tok k,⟨t',rfl⟩,q⟩⟩
 refine⟨"str",_,PySem.F.slot_str_getitem.lookup,typeIs_str _ _ _,?_⟩;cases pl with
 |none=>
  cases pu with
  |none=>exact wpAny_getItem_str_slice (l:=none) (u:=none) (st:=none) hs rfl (post_val_or_str (fin _ _ q))
  |int j tj=>exact wpAny_getItem_str_slice (l:=none) (u:=some (j,tj)) (st:=none) hs rfl (post_val_or_str (fin _ _ q))
 |int i ti=>
  cases pu with
  |none=>exact wpAny_getItem_str_slice (l:=some (i,ti)) (u:=none) (st:=none) hs rfl (post_val_or_str (fin _ _ q))
  |int j tj=>exact wpAny_getItem_str_slice (l:=some (i,ti)) (u:=some (j,tj)) (st:=none) hs rfl (post_val_or_str (fin _ _ q))
theorem xY {A:Around}{E:Value->Shared->Prop}{s:Shared}{prog:Program}{w:World}{t sl:Addr}{items:Array Value}{vl vu:Value}{lo hi:Option Int}{Q:Value->Shared->Prop}(ht:IsTup s.heap t items)(hs:s.heap.IsSliceOf sl vl vu .none)(pl:IsPart vl lo)(pu:IsPart vu hi)
  (h0:HT.sIx items.size 0 lo=0) (h1:HT.sIx items.size items.size hi=items.size) (h:Q (.ref t) s):wpAny (model prog w) A (getItem (.ref t) (.ref sl)) Q E s:=by
 obtain⟨os,hos,hcs,hds⟩:=id hs
 have hT:s.TypeIs (.ref sl) "slice":=⟨os,hos,hcs⟩
 unfold getItem
 try with_reducible refine wpAny_holding ?_
 first|refine wX (wY ?_)|skip
 refine wX (wpAny_sequenceKey ht.typeIs (by decide) ?_)
 refine wX (wpAny_callSpecial?_slot (name:=Str.ofString "__getitem__") ht.typeIs PyProof.Rows.slot_tuple_getitem (wpAny_call_entry PyProof.Rows.slot_tuple_getitem ht.typeIs entry_tuple_getitem ?_ (args_tuple_getitem _ _)))
 show wpAny _ _ (Builtin.Tuple.tupleItemsOf (.ref t)>>=_) _ _ s
 refine wX (tupleItemsOf_ ht ?_)
 refine wX (wpAny_typeOf hT ?_)
 rw[if_pos (by decide)]
 refine wX (HT.gw hs pl pu ?_)
 have yes:(((HT.sIx items.size 0 lo:Nat):Int) == 0 && (1:Int) == 1 && (HT.sIx items.size items.size hi - HT.sIx items.size 0 lo) == items.size)=true:=by
  rw[h0,h1];simp
 show wpAny _ _ (if(((HT.sIx items.size 0 lo:Nat):Int) == 0 && (1:Int) == 1 && (HT.sIx items.size items.size hi - HT.sIx items.size 0 lo) == items.size)=true then _ else _) _ _ s
 rw[if_pos yes]
 refine wX ?_
 unfold Builtin.Tuple.tupleIsExact
 refine wX (wpAny_typeOf ht.typeIs (wY ?_))
 show wpAny _ _ (if((Value.type "tuple") == Value.type "tuple")=true then _ else _) _ _ s
 rw[if_pos (by decide)]
 refine wX (wpAny_rule ?_)
 exact wY ⟨_,rfl,wY h⟩
theorem B5:SlR X (λx lo hi H Q=>∃a xs,x=.ref a/\SqT X.K H a xs/\HT.sIx xs.length 0 lo=0/\HT.sIx xs.length xs.length hi=xs.length/\Q (.ref a) H):=by
 intro pins s σ H x v vl vu lo hi sl Q I rx hs pl pu h;obtain⟨a,xs,rfl,hx,h0,h1,q⟩:=h;cases rx
 obtain⟨its,r,ht,hz⟩:=I.tuple hx;have hlen:its.toArray.size=xs.length:=by rw[List.size_toArray];exact r.length.symm
 refine⟨"tuple",_,PyProof.Rows.slot_tuple_getitem.lookup,ht.typeIs,?_⟩;exact xY ht hs pl pu (by rw[hlen];exact h0) (by rw[hlen];exact h1) ⟨.ref a,H,I,rfl,q⟩
@[simp] noncomputable def fSl (fa:FE)(fl fh:FO):FE:=λρ=>(fa ρ).bind λx=>(fl ρ).bind λl=>(fh ρ).bind λh=>match x.1 with
 |.lst ds=>some (.lst (kX ds l h),true)
 |.tup ds=>some (.tup (kX ds l h),false)
 |.str z=>if z.length<=sizeLine then some (.str (Txt.slice z l h),false)else none
 |_=>none
theorem uT {ds:List D}{lo hi:Option Int}(h0:HT.sIx ds.length 0 lo=0)(h1:HT.sIx ds.length ds.length hi=ds.length):kX ds lo hi=ds:=by
 unfold kX;rw[h0,h1];simp
theorem fX {lo hi:Option Expr}{p2:Pos}{fa:FE}{fl fh:FO}(ha:JE X e fa)(hl:JO X lo fl)(hh:JO X hi fh):JE X (.Subscript e (.Slice lo hi none p2) pos) (fSl fa fl fh):=by
 refine PE.to (yU (SlR.or (SlR.or Bf D6) (SlR.or B4 B5)) ha hl hh) λσ H Q q=>?_;obtain⟨B,ρ,d,b,sB,r,e,q⟩:=q;obtain⟨x,ex,e⟩:=oX e;obtain⟨l,el,e⟩:=oX e;obtain⟨h,eh,e⟩:=oX e;refine⟨B,ρ,x.1,x.2,sB,r,ex,λv H1 N1 x1 i1 _=>⟨N1,ρ,l,x1.nh,r.mono x1.bn,el,λH2 h2=>⟨N1,ρ,h,x1.nh.trans h2,r.mono x1.bn,eh,λH3 h3=>?_⟩⟩⟩;have s3:aM N1 H3:=x1.nh.trans (h2.trans h3);have q3:=q.into (x1.trans (.grow x1.nh (h2.trans h3)));obtain⟨xd,xb⟩:=x;dsimp only at e i1;cases i1 with
 |@tup a' vs ds hs hv=>
  cases e
  by_cases hw:HT.sIx ds.length 0 l=0/\HT.sIx ds.length ds.length h=ds.length
  ·rw[uT hw.1 hw.2]at q3;exact .inr (.inr ⟨a',vs,rfl,bd s3 hs,by rw[hv.length];exact hw.1,by rw[hv.length];exact hw.2,q3.one s3 (.tup hs hv)⟩)
  ·refine .inl (.inr ⟨a',vs,rfl,bd s3 hs,by rw[hv.length];exact hw,λp hp=>?_⟩);have x4:=Ext.laid (o:=.tup (oA vs l h)) s3 hp;exact q3 _ _ _ x4 (.tup (SqT.of a0) ((qJ hv).mono x4.bn)) (by simp)
 |@lst a' vs ds hs hv=>
  cases e
  refine .inl (.inl ⟨a',vs,rfl,s3.seq hs,λp hp=>?_⟩);have x4:=Ext.laid (o:=.lst (oA vs l h)) s3 hp;exact q3 _ _ _ x4 (.lst (SqL.of a0) ((qJ hv).mono x4.bn)) λ_=>⟨p,_,_,rfl,rfl,hp,a0,(qJ hv).mono x4.bn⟩
 |str z=>
  dsimp only at e;split at e
  ·rename_i hz;cases e
   exact .inr (.inl ⟨z,rfl,hz,q3.one s3 (.str _)⟩)
  ·cases e
 |_=>cases e
noncomputable def qO:Value->D->Bool
 |.none,.non=>true
 |.bool a,.bl b=>a == b
 |.int i _,.int j=>decide (i=j)
 |.str i _,.str j=>decide (i=j)
 |_,_=>false
noncomputable def gZ:List Value->List D->Bool
 |[],[]=>true
 |u::us,d::ds=>qO u d && gZ us ds
 |_,_=>false
theorem ja {K:PySem.W.Frag}{B:Hp}:∀ {u:Value}{d:D},qO u d=true->∃v,aL v u/\Is K B v d
 |.none,.non,_=>⟨.non,rfl,.non⟩
 |.bool a,.bl b,h=>by
  have:a=b:=eq_of_beq h;subst this;exact⟨.bl a,rfl,.bl a⟩
 |.int i t,.int j,h=>by
  have:i=j:=of_decide_eq_true h;subst this;exact⟨.int i,⟨t,rfl⟩,.int i⟩
 |.str i t,.str j,h=>by
  have:i=j:=of_decide_eq_true h;subst this;exact⟨.str i,⟨t,rfl⟩,.str i⟩
theorem hU {K:PySem.W.Frag}:∀ {us:List Value}{ds:List D},gZ us ds=true->∃vs,L2.aQ vs us/\∀B,IsL K B vs ds
 |[],[],_=>⟨[],.nil,λ_=>.nil⟩
 |u::us,d::ds,h=>by
  rw[gZ,Bool.and_eq_true]at h;obtain⟨vs,r,i⟩:=hU (K:=K) h.2;obtain⟨v,r1,_⟩:=ja (K:=K) (B:=λ_=>none) h.1;refine⟨v::vs,.cons r1 r,λB=>?_⟩;obtain⟨v',r1',i'⟩:=ja (K:=K) (B:=B) h.1;have:v'=v:=by have z1:=r1.abs;rw[r1'.abs]at z1;exact Option.some.inj z1
  subst this;exact .cons i' (i B)
theorem const_tup {K:PySem.W.Frag}{y:Str}{a:Addr}{od:Option Addr}{its:Array Value}{n:Nat}{osl:Array (Option Value)}{ds:List D}(e:PySem.W.nsIn K mainGlobals y=some (some (.ref a)))
  (l:K.lookup a=some ⟨.type "tuple",od,.seq its n,osl⟩) (h:(decide (its.size<=1000) && gZ its.toList ds)=true):∃u v,PySem.W.nsIn K mainGlobals y=some (some u)/\aL v u/\∀B,Is K B v (.tup ds):=by
 rw[Bool.and_eq_true]at h;obtain⟨vs,r,i⟩:=hU (K:=K) h.2;exact⟨_,.ref a,e,rfl,λB=>.tup (.inr ⟨_,its,n,l,rfl,rfl,Nat.le_of_lt (Nat.lt_of_le_of_lt (of_decide_eq_true h.1) (by decide)),r⟩) (i B)⟩
end
section
variable {X:Cx}{a b o e:Expr}{pos:Pos}{x:Str}{p:Pos}{tg:Expr}
@[simp] noncomputable def Ef:D->Option Str
 |.str z=>some z
 |_=>none
noncomputable def fE:List D->Option (List Str)
 |[]=>some []
 |d::ds=>(Ef d).bind λz=>(fE ds).map (z :: ·)
@[simp] theorem EE:fE []=some []:=rfl
@[simp] theorem uU (d:D)(ds:List D):fE (d::ds)=(Ef d).bind λz=>(fE ds).map (z :: ·):=rfl
@[simp] theorem EF (zs:List Str):fE (zs.map D.str)=some zs:=by
 induction zs with
 |nil=>rfl
 |cons z zs ih=>simp[ih]
theorem jV {K:PySem.W.Frag}{B:Hp}:∀ {vs:List V}{ds:List D}{zs:List Str}{its:List Value},L2.aQ vs its->IsL K B vs ds->fE ds=some zs->StrsAre its zs
 |_,_,_,_,.nil,.nil,e=>by cases e;exact .nil
 |_,_,_,_,.cons r rr,.cons i ii,e=>by
  rw[uU]at e;obtain⟨z,e1,e⟩:=oX e;obtain⟨zs,e2,e⟩:=oY e;subst e;cases i<;>simp only[Ef]at e1<;>try (cases e1;done)
  cases e1
  obtain⟨t,rfl⟩:=r;exact .cons _ t (jV rr ii e2)
@[simp] noncomputable def GU:D->D->Option (D×Bool)
 |.str sep,.lst ds=>(fE ds).bind λzs=>if(zs.map (·.length)).sum+zs.length*sep.length<=16777216 then some (.str (Txt.join sep zs),false)else none
 |.str sep,.tup ds=>(fE ds).bind λzs=>if(zs.map (·.length)).sum+zs.length*sep.length<=16777216 then some (.str (Txt.join sep zs),false)else none
 |_,_=>none
noncomputable def dG:List Nat->List D->Env->Option Env
 |[],[],ρ=>some ρ
 |i::is,d::ds,ρ=>dG is ds (ρ.set i (some (d,false)))
 |_,_,_=>none
@[simp] theorem pr (ρ:Env):dG [] [] ρ=some ρ:=by rw[dG]
@[simp] theorem jz (i:Nat)(is:List Nat)(d:D)(ds:List D)(ρ:Env):dG (i::is) (d::ds) ρ=dG is ds (ρ.set i (some (d,false))):=by rw[dG]
@[simp] theorem FL (d:D)(ds:List D)(ρ:Env):dG [] (d::ds) ρ=none:=by simp only[dG]
@[simp] theorem FM (i:Nat)(is:List Nat)(ρ:Env):dG (i::is) [] ρ=none:=by simp only[dG]
@[simp] noncomputable def tgT (is:List Nat):FG:=λd ρ=>match d with|.tup ds=>dG is ds ρ|_=>none
noncomputable def mL:List Nat->TGs
 |[]=>EW
 |i::is=>Cr (iG i) (mL is)
theorem z5 {N:Hp}{σ:St}{ρ:Env}{i:Nat}{v:V}{d:D}:aM (cut N (own σ ρ)) (cut N (own (σ.set i (some v)) (ρ.set i (some (d,false))))):=dP λa u e q=>⟨e,λz=>q (by
 rcases qE z with⟨_,d',p⟩|⟨j,_,d',q1,q2⟩
 ·cases p
 ·exact⟨j,d',q1,q2⟩)⟩
theorem jb {K:PySem.W.Frag}:∀ {is:List Nat}{vs:List V}{ds:List D}{B0 H0 N H:Hp}{σ:St}{ρ ρ':Env}{Q:St->Hp->Prop},StN K B0 H0 N H σ ρ->IsL K (cut N (own σ ρ)) vs ds->dG is ds ρ=some ρ'->(∀σ',StN K B0 H0 N H σ' ρ'->Q σ' H)->mL is vs σ H Q
 |[],_,_,_,_,_,_,_,_,_,_,s,.nil,e,k=>by
  rw[pr]at e;cases e;exact⟨rfl,k _ s⟩
 |[],_,_,_,_,_,_,_,_,_,_,_,.cons _ _,e,_=>by simp at e
 |_::_,_,_,_,_,_,_,_,_,_,_,_,.nil,e,_=>by simp at e
 |i::is,_,_,_,_,_,_,_,_,_,_,s,.cons h hs,e,k=>by
  rw[jz]at e;exact⟨_,_,rfl,jb (s.bind h) (hs.mono z5) e k⟩
theorem kY:∀ {is:List Nat}{ds:List D}{ρ ρ':Env},dG is ds ρ=some ρ'->ds.length=is.length
 |[],[],_,_,_=>rfl
 |_::_,_::_,_,_,e=>by rw[jz]at e;simp[kY e]
 |[],_::_,_,_,e=>by simp at e
 |_::_,[],_,_,e=>by simp at e
theorem z6 {K:PySem.W.Frag}{is:List Nat}:tDG K (tgT is) (Dq K is.length (mL is)):=by
 intro B0 H0 N H σ ρ ρ' v d Q s h e k;cases h with
 |@tup a vs ds ht hl=>
  have e':dG is ds ρ=some ρ':=e;exact⟨a,vs,rfl,bd (bJ.trans s.ext.nh) ht,by rw[hl.length];exact kY e',jb s hl e' λσ' s'=>k σ' H ⟨N,s'⟩⟩
 |_=>cases e
theorem pv {K:PySem.W.Frag}{n:Nat}{B H:Hp}{ρ0:Env}{Q:St->Hp->Prop}(cl:∀i,i<n->ρ0[i]? = some none):∀ {is:List Nat}{vs:List V}{ds:List D}{σ:St}{ρ ρ1:Env},(∀i∈is,i<n)->RepE K B σ ρ->IsL K B vs ds->dG is ds ρ=some ρ1->ρ.length=σ.length->ρ.length=ρ0.length ->
  (∀σ1,RepE K B σ1 ρ1->(∀B',RepE K B' σ ρ0->RepE K B' σ1 ρ0)->ρ0.length=σ1.length->Q σ1 H)->mL is vs σ H Q
 |[],_,_,_,_,_,_,rp,.nil,e,l1,l2,k=>by
  rw[pr]at e;cases e;exact⟨rfl,k _ rp (λ_ z=>z) (by omega)⟩
 |[],_,_,_,_,_,_,_,.cons _ _,e,_,_,_=>by simp at e
 |_::_,_,_,_,_,_,_,_,.nil,e,_,_,_=>by simp at e
 |i::is,_,_,σ,ρ,_,hn,rp,.cons (v:=v) h hs,e,l1,l2,k=>by
  rw[jz]at e;have hi:=hn i mX;have hiσ:i<σ.length:=by
   have:=(List.getElem?_eq_some_iff.mp (cl i hi)).1;omega
  refine⟨_,_,rfl,pv cl (λj hj=>hn j (mZ _ hj)) ⟨rp.tb,λj d b q=>?_⟩ hs e (by simpa using l1) (by simpa using l2) λσ1 r1 r2 l=>k σ1 r1 (λB' z=>r2 B' ⟨z.tb,λj d b q=>?_⟩) l⟩
  ·rcases bI q with⟨rfl,pp⟩|⟨ne,pp⟩
   ·cases pp
    exact⟨v,by simp[hiσ],h⟩
   ·obtain⟨w,h1,h2⟩:=rp.at' j d b pp;exact⟨w,by rw[List.getElem?_set_ne ne];exact h1,h2⟩
  ·obtain⟨w,h1,h2⟩:=z.at' j d b q;have ne:i≠j:=λz=>by subst z;rw[cl i hi]at q;cases q
   exact⟨w,by rw[List.getElem?_set_ne ne];exact h1,h2⟩
theorem CP {K:PySem.W.Frag}{n:Nat}{is:List Nat}(hn:∀i∈is,i<n):TGE K n (tgT is) (Dq K is.length (mL is)):=by
 intro B H σ ρ ρ1 v d Q cl rep s h e hl k;cases h with
 |@tup a vs ds ht hv=>
  have e':dG is ds ρ=some ρ1:=e;exact⟨a,vs,rfl,bd s ht,by rw[hv.length];exact kY e',pv cl hn rep hv e' hl rfl k⟩
 |_=>cases e
end
section
variable {prog:Program}{w:World}{A:Around}{E:Value->Shared->Prop}{s:Shared}
theorem uV {it l:Addr}{i:Nat}{items:Array Value}{v:Value}{Q:Value->Shared->Prop}(st:s.heap.IsTupleIter it l i)(ht:s.heap.IsTuple l items)(hv:items[i]? = some v)
  (k:∀h',h'.IsTupleIter it l (i+1)->Heap.SameBut it s.heap h'->Q v { s with heap:=h' }):wpAny (model prog w) A (Builtin.SmallTypes.nextOf (.ref it)) Q E s:=by
 obtain⟨o1,g1,c1,d1⟩:=id st;obtain⟨o2,g2,_,n2,d2⟩:=ht;unfold Builtin.SmallTypes.nextOf;refine wX (wpAny_callSpecial?_slot (name:=Str.ofString "__next__") st.typeIs PySem.F.slot_tuple_iterator_next (wpAny_call_entry PySem.F.slot_tuple_iterator_next st.typeIs PySem.F.entry_tuple_iterator_next ?_ (PySem.F.args_tuple_iterator_next_1 _)));show wpAny _ _ (field (.ref it) 0>>=_) _ _ _;refine wX (wpAny_field g1 d1 (x:=.ref l) rfl ?_);show wpAny _ _ (if(Value.ref l == Value.none)=true then _ else _) _ _ _;rw[if_neg (λz=>Bool.false_ne_true z:¬((Value.ref l == Value.none)=true))];show wpAny _ _ (field (.ref it) 1>>=_) _ _ _;refine wX (wpAny_field g1 d1 (x:=.int i 0) rfl ?_);show wpAny _ _ (seqItems? (.ref l)>>=_) _ _ _;refine wX (wpAny_seqItems g2 d2 ?_);simp only[hv,Int.toNat_natCast];refine wX (wpAny_setField g1 d1 (by simp) (wY ⟨v,rfl,wY (k _ ?_ (Heap.SameBut.update ..))⟩));exact⟨_,Heap.get?_update_self _ g1 (Obj.isFreed_of_fields (Obj.data_mapFields d1 _)),(Obj.cls_mapFields ..).trans c1,by rw[Obj.data_mapFields d1];simp[rawInt]⟩
theorem xZ {it l:Addr}{i:Nat}{items:Array Value}{Q:Value->Shared->Prop}(hA:A.handled=none)(st:s.heap.IsTupleIter it l i)(ht:s.heap.IsTuple l items)(hv:items[i]? = none)
  (k:∀h' x,Heap.ExtBut it s.heap h'->(∃o,h'.get? x=some o/\o.cls=.type "StopIteration")->E (.ref x) { s with heap:=h' }):wpAny (model prog w) A (Builtin.SmallTypes.nextOf (.ref it)) Q E s:=by
 obtain⟨o1,g1,c1,d1⟩:=id st;obtain⟨o2,g2,_,n2,d2⟩:=ht;unfold Builtin.SmallTypes.nextOf;refine wX (wpAny_callSpecial?_slot (name:=Str.ofString "__next__") st.typeIs PySem.F.slot_tuple_iterator_next (wpAny_call_entry PySem.F.slot_tuple_iterator_next st.typeIs PySem.F.entry_tuple_iterator_next ?_ (PySem.F.args_tuple_iterator_next_1 _)));show wpAny _ _ (field (.ref it) 0>>=_) _ _ _;refine wX (wpAny_field g1 d1 (x:=.ref l) rfl ?_);show wpAny _ _ (if(Value.ref l == Value.none)=true then _ else _) _ _ _;rw[if_neg (λz=>Bool.false_ne_true z:¬((Value.ref l == Value.none)=true))];show wpAny _ _ (field (.ref it) 1>>=_) _ _ _;refine wX (wpAny_field g1 d1 (x:=.int i 0) rfl ?_);show wpAny _ _ (seqItems? (.ref l)>>=_) _ _ _;refine wX (wpAny_seqItems g2 d2 ?_);simp only[hv,Int.toNat_natCast];refine wX (wpAny_rule (wX (wpAny_setField g1 d1 (by simp) ?_)));show wpAny _ _ (newExc (.type "StopIteration") []>>=_) _ _ _;refine wX ?_;simp only[newTuple,newExc];refine wX (wpAny_newObj_type ?_ (by size_fits));refine wX (m:=firstArgMember _ _) (wpAny_of_eq (a:=Value.none) (by first|(simp only[firstArgMember];rfl)|rfl) ?_);refine wpAny_newObj_type ?_ (by size_fits);simp only[raiseNew];refine wX (wpAny_handled ?_);first|rw[hA]|rw[show A.in1.handled=none from hA]
 exact wX (wY (wpAny_throw (k _ _ (((Heap.SameBut.update ..).extBut.push _).push _) ⟨_,Heap.get?_push_size _ rfl,rfl⟩)))
end
noncomputable def KIt:Bool->Heap->Addr->Addr->Nat->Prop
 |true,h,it,a,i=>h.IsListIter it a i
 |false,h,it,a,i=>h.IsTupleIter it a i
noncomputable def KSq:Bool->Heap->Addr->Array Value->Prop
 |true,h,a,items=>h.IsList a items
 |false,h,a,items=>h.IsTuple a items
noncomputable def SqK (k:Bool)(K:PySem.W.Frag)(H:Hp)(a:Addr)(xs:List V):Prop:=match k with|true=>SqL K H a xs|false=>SqT K H a xs
theorem KIt.ob {k:Bool}{h:Heap}{it a:Addr}{i:Nat}(st:KIt k h it a i):∃o,h.get? it=some o/\∀v,o.data≠.cell v:=by
 cases k<;>(obtain⟨o,g,_,d⟩:=st;exact⟨o,g,λv z=>by rw[d]at z;cases z⟩)
theorem KIt.upon {k:Bool}{h h':Heap}{it a:Addr}{i:Nat}(st:KIt k h it a i)(g:∀o,h.get? it=some o->h'.get? it=some o):KIt k h' it a i:=by
 cases k<;>(obtain⟨o,e,r⟩:=st;exact⟨o,g o e,r⟩)
theorem KSq.upon {k:Bool}{h h':Heap}{a:Addr}{items:Array Value}(st:KSq k h a items)(g:∀o,h.get? a=some o->h'.get? a=some o):KSq k h' a items:=by
 cases k<;>(obtain⟨o,e,r⟩:=st;exact⟨o,g o e,r⟩)
theorem KSq.lt {k:Bool}{h:Heap}{a:Addr}{items:Array Value}(st:KSq k h a items):a<h.objs.size:=by
 cases k<;>(obtain⟨o,e,r⟩:=st;exact Heap.lt_size e)
theorem SqK.same {k:Bool}{K:PySem.W.Frag}{H H':Hp}{a:Addr}{xs:List V}(h:SqK k K H a xs)(e:aM H H'):SqK k K H' a xs:=by
 cases k
 ·exact bd e h
 ·exact e.seq h
theorem SqK.vals {X:Cx}{pins:List (Addr×Obj)}{σ:St}{H:Hp}{s:Shared}{k:Bool}{a:Addr}{xs:List V}(I:Inv X pins σ H s)(h:SqK k X.K H a xs):∃its:List Value,aQ xs its/\KSq k s.heap a its.toArray/\xs.length<=sizeLine:=by
 cases k
 ·exact I.tuple h
 ·obtain⟨its,r,p,z⟩:=I.list h;exact⟨its,r,p.isList,z⟩
theorem SqK.inj {X:Cx}{pins:List (Addr×Obj)}{σ:St}{H:Hp}{s:Shared}{k:Bool}{a:Addr}{xs ys:List V}(I:Inv X pins σ H s)(h:SqK k X.K H a xs)(h':SqK k X.K H a ys):xs=ys:=by
 cases k
 ·exact I.tuple_inj h h'
 ·exact I.list_inj h h'
section
variable {prog:Program}{w:World}{A:Around}{E:Value->Shared->Prop}{s:Shared}
theorem ya {k:Bool}{it l:Addr}{i:Nat}{items:Array Value}{v:Value}{Q:Value->Shared->Prop}(st:KIt k s.heap it l i)(ht:KSq k s.heap l items)(hv:items[i]? = some v)
  (q:∀h',KIt k h' it l (i+1)->Heap.SameBut it s.heap h'->Q v { s with heap:=h' }):wpAny (model prog w) A (Builtin.SmallTypes.nextOf (.ref it)) Q E s:=by
 cases k
 ·exact uV st ht hv q
 ·exact wpAny_nextOf_list_item st ht hv q
theorem sG {k:Bool}{it l:Addr}{i:Nat}{items:Array Value}{Q:Value->Shared->Prop}(hA:A.handled=none)(st:KIt k s.heap it l i)(ht:KSq k s.heap l items)(hv:items[i]? = none)
  (q:∀h' x,Heap.ExtBut it s.heap h'->(∃o,h'.get? x=some o/\o.cls=.type "StopIteration")->E (.ref x) { s with heap:=h' }):wpAny (model prog w) A (Builtin.SmallTypes.nextOf (.ref it)) Q E s:=by
 cases k
 ·exact xZ hA st ht hv q
 ·exact wpAny_nextOf_list_end hA st ht hv q
end
noncomputable def itO (k:Bool)(l:Addr):Obj:={ cls:=.type (if k=true then "list_iterator" else "tuple_iterator"),data:=.fields #[.ref l,.int 0 0] }
theorem qP {prog:Program}{w:World}{A:Around}{E:Value->Shared->Prop}{s:Shared}{k:Bool}{l:Addr}{items:Array Value}{Q:Value->Shared->Prop}(ht:KSq k s.heap l items)
  (q:Q (.ref s.heap.objs.size) { s with heap:=s.heap.push (itO k l) }):wpAny (model prog w) A (pyIter (.ref l)) Q E s:=by
 cases k
 ·exact wpAny_pyIter_tuple ht q
 ·exact wpAny_pyIter_list ht q
theorem KSq.push {k:Bool}{h:Heap}{a:Addr}{items:Array Value}(st:KSq k h a items)(o:Obj):KSq k (h.push o) a items:=st.upon λ_ e=>Heap.get?_push_of_some _ e
theorem qQ {X:Cx}{pins:List (Addr×Obj)}{σ:St}{H:Hp}{s:Shared}{h':Heap}{t':Nat}{ch:List Addr}(I:Inv X pins σ H s)(f:∀b∈ch,kO X pins H b)(k:∀b o,b∉ch->s.heap.get? b=some o->h'.get? b=some o):Inv X pins σ H { s with heap:=h',toks:=t' }:=by
 have nit:∀b u,H b=some u->b∉ch:=λb u e z=>by rw[(f b z).1]at e;cases e
 refine I.step (g':=s.gens) (d':=s.drawn) (ch:=ch) (λb hb=>?_) (λb o _ _ hc e _=>k b o hc e) (λb o _ _ hc e _=>⟨o.slots,k b o hc e⟩) (λ_ _ _ _ n=>n)
  (λb o hc e=>⟨o,k b o hc e⟩) (λ_ _ e=>e) (λ_ _ _ e=>e) (λ_ _ e=>e) (λm hm=>?_) (λb u e=>?_) I.bare
 ·obtain⟨_,f1,_,f3,f4,f5⟩:=f b hb;exact⟨f3,f1,f4,f5⟩
 ·obtain⟨o,es,ep,ho,r⟩:=hm;exact⟨o,es,ep,k _ o (λz=>(f _ z).2.1 rfl) ho,r⟩
 ·refine(I.hok b u e).stay (λc v hc q=>k c v ?_ q) (λ_ q=>q) (λ_ _ q=>q) λ_ _ _ q=>q;rcases hc with z|z
  ·rw[z];exact nit b u e
  ·exact nit c _ z
theorem FN {X:Cx}{pins:List (Addr×Obj)}{σ:St}{H:Hp}{s:Shared}{h':Heap}{t':Nat}{ch:List Addr}{a:Addr}{ob:HO}(I:Inv X pins σ H s)(f:∀b∈ch,kO X pins H b)(k:∀b o,b∉ch->s.heap.get? b=some o->h'.get? b=some o)(ha:s.heap.objs.size<=a)
  (new:bA X.prog X.w (upd H a ob) h' a ob):Inv X pins σ (upd H a ob) { s with heap:=h',toks:=t' }:=by
 have hn:H a=none:=I.hok.fresh ha;have nit:∀b u,H b=some u->b∉ch:=λb u e z=>by rw[(f b z).1]at e;cases e
 have na:∀b o,s.heap.get? b=some o->b≠a:=λb o e=>Nat.ne_of_lt (Nat.lt_of_lt_of_le (Heap.lt_size e) ha);refine I.step (g':=s.gens) (d':=s.drawn) (ch:=ch) (λb hb=>?_) (λb o _ _ hc e _=>k b o hc e) (λb o _ _ hc e _=>⟨o.slots,k b o hc e⟩) (λb o _ e n=>by rw[aB (na b o e)];exact n)
  (λb o hc e=>⟨o,k b o hc e⟩) (λb xs e=>by rw[aB (aN e hn)];exact e) (λb o u e=>by rw[aB (aN e hn)];exact e) (λb ps e=>by rw[aB (aN e hn)];exact e) (λm hm=>?_) (λb u e=>?_) I.bare
 ·obtain⟨_,f1,_,f3,f4,f5⟩:=f b hb;exact⟨f3,f1,f4,f5⟩
 ·obtain⟨o,es,ep,ho,r⟩:=hm;exact⟨o,es,ep,k _ o (λz=>(f _ z).2.1 rfl) ho,r⟩
 ·by_cases hb:b=a
  ·subst hb;rw[a0]at e;cases e;exact new
  ·rw[aB hb]at e;refine(I.hok b u e).stay (λc v hc q=>k c v ?_ q) (λc q=>?_) (λc xs q=>?_) λc o xs q=>?_
   ·rcases hc with z|z
    ·rw[z];exact nit b u e
    ·exact nit c _ z
   ·rw[aB (aN q hn)];exact q
   ·rw[aB (aN q hn)];exact q
   ·rw[aB (aN q hn)];exact q
section
variable {X:Cx}{a b e:Expr}{pos:Pos}{p:Pos}
noncomputable def GC (xs ys:List D):List D:=List.zipWith (λx y=>.tup [x,y]) xs ys
@[simp] noncomputable def GD (fa fb:FE):FA:=λρ=>(fa ρ).bind λx=>(fb ρ).bind λy=>(gg x.1).bind λxs=>(gg y.1).map λys=>GC xs ys
theorem FP {K:PySem.W.Frag}{B:Hp}{v:V}{d:D}{ds:List D}(h:Is K B v d)(e:gg d=some ds):∃k a vs,v=.ref a/\SqK k K B a vs/\IsL K B vs ds:=by
 cases h with
 |tup ht hl=>cases e;exact⟨false,_,_,rfl,ht,hl⟩
 |lst ht hl=>cases e;exact⟨true,_,_,rfl,ht,hl⟩
 |_=>cases e
end
noncomputable def unown1 (ρ:Env)(i:Nat):Env:=match ρ[i]? with
 |some (some (d,true))=>ρ.set i (some (d,false))
 |_=>ρ
theorem StN.unown1 {K:PySem.W.Frag}{B0 H0 N H:Hp}{σ:St}{ρ:Env}(s:StN K B0 H0 N H σ ρ)(i:Nat):StN K B0 H0 N H σ (unown1 ρ i):=by
 unfold DL.unown1;split
 ·rename_i d hd;obtain⟨a,ob,h1,h2,h3,h4⟩:=s.ow i d hd;have get:∀ {j:Nat}{e:D}{b:Bool},(ρ.set i (some (d,false)))[j]? = some (some (e,b))->(i=j/\e=d/\b=false)∨(i≠j/\ρ[j]? = some (some (e,b))):=λq=>by
   rcases bI q with⟨z,p⟩|⟨z,p⟩
   ·cases p;exact .inl ⟨z,rfl,rfl⟩
   ·exact .inr ⟨z,p⟩
  have o:∀c,own σ (ρ.set i (some (d,false))) c->own σ ρ c/\c≠a:=λc ⟨j,e,q1,q2⟩=>by
   rcases get q1 with⟨_,_,z⟩|⟨ne,q⟩
   ·cases z
   ·exact⟨⟨j,e,q,q2⟩,λz=>by subst z;exact ne (s.inj i j _ _ _ hd q h1 q2)⟩
  have c:aM (cut N (own σ ρ)) (cut N (own σ (ρ.set i (some (d,false))))):=dP λb u e q=>⟨e,λz=>q (o b z).1⟩;have na:¬own σ (ρ.set i (some (d,false))) a:=λz=>(o a z).2 rfl;refine⟨s.bh,s.tb,s.ext,by rw[List.length_set];exact s.len,λj e q=>?_,λj e q=>?_,λj k b e f q q' z1 z2=>?_⟩
  ·rcases get q with⟨rfl,rfl,_⟩|⟨_,q⟩
   ·exact⟨_,h1,(h4.mono c).is (by rw[c6 na];exact h2)⟩
   ·obtain⟨v,k1,k2⟩:=s.sh j e q;exact⟨v,k1,k2.mono c⟩
  ·rcases get q with⟨_,_,z⟩|⟨_,q⟩
   ·cases z
   ·obtain⟨a',o',k1,k2,k3,k4⟩:=s.ow j e q;exact⟨a',o',k1,k2,k3,k4.mono c⟩
  ·rcases get q with⟨_,_,z⟩|⟨_,q⟩
   ·cases z
   ·rcases get q' with⟨_,_,z⟩|⟨_,q'⟩
    ·cases z
    ·exact s.inj j k b e f q q' z1 z2
 ·exact s
@[simp] noncomputable def gUn (is:List Nat)(g:FS):FS:=λρ=>g (is.foldl unown1 ρ)
theorem StN.unowns {K:PySem.W.Frag}{B0 H0 N H:Hp}{σ:St}:∀(is:List Nat){ρ:Env},StN K B0 H0 N H σ ρ->StN K B0 H0 N H σ (is.foldl DL.unown1 ρ)
 |[],_,s=>s
 |i::is,_,s=>StN.unowns is (s.unown1 i)
theorem Eg {K:PySem.W.Frag}{is:List Nat}{g:FS}{E:Ends}{σ:St}{H:Hp}(q:tDS K (gUn is g) E σ H):tDS K g E σ H:=by
 obtain⟨B0,H0,ρ,r,⟨N,s⟩,e,p⟩:=q;exact⟨B0,H0,_,r,⟨N,s.unowns is⟩,e,p⟩
theorem z7 {X:Cx}{st:Stmt}{g:FS}(is:List Nat)(h:JS X st g):JS X st (gUn is g):=PS.to h λ_ _ _ q=>Eg q
@[simp] noncomputable def CQ:FS:=λρ=>some (.ct ρ)
@[simp] noncomputable def GE:FS:=λρ=>some (.bk ρ)
@[simp] noncomputable def GF:FS:=λ_=>none
section
variable {X:Cx}{pos:Pos}
theorem B6:JS X (.Continue pos) CQ:=PS.to rP λE σ H q=>by
 obtain⟨B0,H0,ρ,r,s,e,p⟩:=q;cases e
 exact p σ H s
end
inductive CRows (K:PySem.W.Frag)(P:Params):List DictEntry->List (Str×D)->Prop where
 |nil:CRows K P [] []
 |tup {x:Str}{t:Tok}{h:Int}{a:Addr}{its:Array Value}{n:Nat}{osl:Array (Option Value)}{ds:List D}{r:List DictEntry}{kvs:List (Str×D)}(hh:h=PyData.keyHash P x)
   (l:K.lookup a=some ⟨.type "tuple",none,.seq its n,osl⟩) (f:(decide (its.size<=1000) && gZ its.toList ds)=true) (tl:CRows K P r kvs):CRows K P (⟨h,.str x t,.ref a⟩::r) ((x,.tup ds)::kvs)
 |flat {x:Str}{t:Tok}{h:Int}{u:Value}{d:D}{r:List DictEntry}{kvs:List (Str×D)}(hh:h=PyData.keyHash P x) (f:qO u d=true) (tl:CRows K P r kvs):CRows K P (⟨h,.str x t,u⟩::r) ((x,d)::kvs)
theorem CRows.lit {K:PySem.W.Frag}{P:Params}:∀ {es:List DictEntry}{kvs:List (Str×D)},CRows K P es kvs->PySem.W.KeysLit P es
 |_,_,.nil=>trivial
 |_,_,.tup hh _ _ tl=>⟨⟨_,_,rfl,hh⟩,tl.lit⟩
 |_,_,.flat hh _ tl=>⟨⟨_,_,rfl,hh⟩,tl.lit⟩
theorem CRows.find {K:PySem.W.Frag}{P:Params}(y:Str):∀ {es:List DictEntry}{kvs:List (Str×D)},CRows K P es kvs->match kvs.lookup y with
  |none=>es.find? (λe=>Value.isStrOf y e.key)=none
  |some d=>∃e v,es.find? (λe=>Value.isStrOf y e.key)=some e/\aL v e.val/\∀B,Is K B v d
 |_,_,.nil=>rfl
 |_,_,.tup (x:=x) (t:=t) (a:=a) (ds:=ds) hh l f tl=>by
  by_cases e:y=x
  ·subst e;rw[List.lookup_cons_self];rw[Bool.and_eq_true]at f;obtain⟨vs,r,i⟩:=hU (K:=K) f.2;exact⟨_,.ref a,List.find?_cons_of_pos (by simp[Value.isStrOf]),rfl,λB=>.tup (.inr ⟨_,_,_,l,rfl,rfl,Nat.le_of_lt (Nat.lt_of_le_of_lt (of_decide_eq_true f.1) (by decide)),r⟩) (i B)⟩
  ·have ih:=tl.find y;rw[List.lookup_cons,beq_eq_false_iff_ne.mpr e];have nf:Value.isStrOf y (Value.str x t)=false:=by
    rw[Bool.eq_false_iff];intro z;obtain⟨t',q⟩:=Value.isStrOf_shape z;injection q with q1;exact e q1.symm
   simp only[List.find?_cons,nf];exact ih
 |_,_,.flat (x:=x) (t:=t) (u:=u) (d:=d) hh f tl=>by
  by_cases e:y=x
  ·subst e;rw[List.lookup_cons_self];obtain⟨v,r1,_⟩:=ja (K:=K) (B:=λ_=>none) f;refine⟨_,v,List.find?_cons_of_pos (by simp[Value.isStrOf]),r1,λB=>?_⟩;obtain⟨v',r1',i'⟩:=ja (K:=K) (B:=B) f;have:v'=v:=by have z1:=r1.abs;rw[r1'.abs]at z1;exact Option.some.inj z1
   subst this;exact i'
  ·have ih:=tl.find y;rw[List.lookup_cons,beq_eq_false_iff_ne.mpr e];have nf:Value.isStrOf y (Value.str x t)=false:=by
    rw[Bool.eq_false_iff];intro z;obtain⟨t',q⟩:=Value.isStrOf_shape z;injection q with q1;exact e q1.symm
   simp only[List.find?_cons,nf];exact ih
noncomputable def pw (K:PySem.W.Frag)(P:Params)(a:Addr)(kvs:List (Str×D)):Prop:=∃es n,K.lookup a=some ⟨.type "dict",none,.dict es n,#[]⟩/\CRows K P es.toList kvs/\(a == sysModules)=false
theorem const_dict {K:PySem.W.Frag}{P:Params}{y:Str}{a:Addr}{es:Array DictEntry}{n:Nat}{kvs:List (Str×D)}(e:PySem.W.nsIn K mainGlobals y=some (some (.ref a)))(l:K.lookup a=some ⟨.type "dict",none,.dict es n,#[]⟩)(r:CRows K P es.toList kvs)(s:(a == sysModules)=false):
  ∃a,PySem.W.nsIn K mainGlobals y=some (some (.ref a))/\pw K P a kvs:=⟨a,e,es,n,l,r,s⟩
section
variable {X:Cx}{a b e:Expr}{pos:Pos}{x:Str}{p:Pos}
theorem pw.map {pins:List (Addr×Obj)}{σ:St}{H:Hp}{s:Shared}{d:Addr}{kvs:List (Str×D)}(I:Inv X pins σ H s)(h:pw X.K X.w.params d kvs):∃f:Str->Option Value,s.heap.MapOf (strKind X.prog X.w) d f/\(d == sysModules)=false /\
  ∀y,match kvs.lookup y with|none=>f y=none|some dd=>∃u v,f y=some u/\aL v u/\∀B,Is X.K B v dd:=by
 obtain⟨es,n,l,r,sm⟩:=h;refine⟨_,PySem.W.mapOf_K I.kIn l r.lit,sm,λy=>?_⟩;have:=r.find y;have ff:findBy Value.isStrOf es y=(es.toList.find? λe=>Value.isStrOf y e.key).map (·.val):=by
  unfold findBy;obtain⟨es⟩:=es;rw[List.find?_toArray]
 cases hl:kvs.lookup y with
 |none=>rw[hl]at this;dsimp only at this ⊢;rw[ff,this];rfl
 |some dd=>
  rw[hl]at this;obtain⟨en,v,e1,e2,e3⟩:=this;exact⟨en.val,v,by rw[ff,e1];rfl,e2,e3⟩
@[simp] noncomputable def Hg (kvs:List (Str×D)):D->Option (D×Bool)
 |.str y=>(kvs.lookup y).map λd=>(d,false)
 |_=>none
@[simp] noncomputable def cIn (kvs:List (Str×D)):D->Option (D×Bool)
 |.str y=>some (.bl (kvs.lookup y).isSome,false)
 |_=>none
@[simp] noncomputable def GG (kvs:List (Str×D)):D->Option (D×Bool)
 |.str y=>some (.bl (!(kvs.lookup y).isSome),false)
 |_=>none
@[simp] noncomputable def hV:List D->Option (D×Bool)
 |[.lst ds]=>some (.lst ds,true)
 |[.tup ds]=>some (.lst ds,true)
 |_=>none
@[simp] noncomputable def fm:List D->Option (D×Bool)
 |[.lst ds]=>some (.tup ds,false)
 |[.tup ds]=>some (.tup ds,false)
 |_=>none
theorem Eh:bO X (.type "list") (rDA X.K hV):=by
 refine bO.to qB λxs H Q q=>?_;obtain⟨B,ds,d,bb,sB,i,ee,q⟩:=q;cases i with
 |nil=>simp[hV]at ee
 |cons i1 i2=>
  cases i2 with
  |cons _ _=>cases i1<;>simp[hV]at ee
  |nil=>
   cases i1<;>try (simp[hV]at ee;done)
   ·rename_i l0 vs es h hl;simp only[hV]at ee;cases ee
    refine⟨_,_,rfl,.inr (bd sB h),λl hp=>?_⟩;have xt:=Ext.laid (o:=.lst vs) sB hp;exact q _ _ _ xt (.lst (SqL.of a0) (hl.mono xt.bn)) λ_=>⟨_,_,_,rfl,rfl,hp,a0,hl.mono xt.bn⟩
   ·rename_i l0 vs es h hl;simp only[hV]at ee;cases ee
    refine⟨_,_,rfl,.inl (sB.seq h),λl hp=>?_⟩;have xt:=Ext.laid (o:=.lst vs) sB hp;exact q _ _ _ xt (.lst (SqL.of a0) (hl.mono xt.bn)) λ_=>⟨_,_,_,rfl,rfl,hp,a0,hl.mono xt.bn⟩
theorem wx:bO X (.type "tuple") (rDA X.K fm):=by
 refine bO.to oC λxs H Q q=>?_;obtain⟨B,ds,d,bb,sB,i,ee,q⟩:=q;cases i with
 |nil=>simp[fm]at ee
 |cons i1 i2=>
  cases i2 with
  |cons _ _=>cases i1<;>simp[fm]at ee
  |nil=>
   cases i1<;>try (simp[fm]at ee;done)
   ·rename_i l0 vs es h hl;simp only[fm]at ee;cases ee
    exact⟨_,_,rfl,.inr ⟨bd sB h,q.one sB (.tup h hl)⟩⟩
   ·rename_i l0 vs es h hl;simp only[fm]at ee;cases ee
    refine⟨_,_,rfl,.inl ⟨sB.seq h,λl hp=>?_⟩⟩;have xt:=Ext.laid (o:=.tup vs) sB hp;exact q _ _ _ xt (.tup (SqT.of a0) (hl.mono xt.bn)) (by simp)
end
section
variable {X:Cx}{a b e:Expr}{pos:Pos}{x:Str}{p:Pos}
@[simp] noncomputable def GV (is:List Nat)(f:FE):FS:=λρ=>(f ρ).bind λx=>(gg x.1).bind λds=>(dG is ds (if b7 ds=true then ρ else unown ρ)).map .nx
@[simp] noncomputable def B7 (i:Nat)(fk fv:FE):FS:=λρ=>match ρ[i]? with
 |some (some (.lst ds,true))=>(fv ρ).bind λv=>(fk ρ).bind λk=>match k.1 with
  |.int j=>(ixN ds.length j).bind λn=>if bo v.1=true then some (.nx (ρ.set i (some (.lst (ds.set n v.1),true))))else none
  |_=>none
 |_=>none
theorem Ei {i:Nat}{y:Str}{py pt:Pos}{k:Expr}{fk fv:FE}(hv:JE X e fv)(hk:JE X k fk)(hN:X.N[i]? = some y:=by rfl)(hvis:Vis X.env.scope y:=by first|exact Or.inl rfl|exact Or.inr (Or.inl rfl)|exact Or.inr (Or.inr rfl))(hd:(y == ("__debug__" : Str))=false:=by decide)
  (hcd:(y == ("__classdict__" : Str))=false:=by decide)
  (ha:∀v,assign (.Subscript (.Name y py) k pt) X.env v=(do
   let ov ←holding [v] (eval (.Name y py) X.env)
   let iv ←holding [v,ov] (eval k X.env)
   standAt pt
   holding [v,ov,iv] (setItem ov iv v)
   release [v,ov,iv] []):=by intro _;rfl)
  (hs:swapsWithSole [.Subscript (.Name y py) k pt] e pos.line X.env=pure false:=by rfl) (hw:swappedStores [.Subscript (.Name y py) k pt] e X.env=pure none:=by rfl)
  (h1:(assignEach [.Subscript (.Name y py) k pt] X.env).map (·.2)=[assign (.Subscript (.Name y py) k pt) X.env]:=by rfl):JS X (.Assign [.Subscript (.Name y py) k pt] e pos) (B7 i fk fv):=by
 refine PS.to (Ds hv (Dr (kN hN hvis hd hcd) hk yW ha) hs hw h1) λE σ H q=>?_;obtain⟨B0,H0,ρ,r,⟨N,s⟩,ee,p⟩:=q;unfold B7 at ee;split at ee
 ·rename_i ds ei;obtain⟨v,ev,ee⟩:=oX ee;obtain⟨kk,ek,ee⟩:=oX ee;obtain⟨kd,kb⟩:=kk;cases kd with
  |int j=>
   dsimp only at ee;obtain⟨n,en,ee⟩:=oX ee;split at ee
   ·rename_i hn;cases ee
    refine⟨N,ρ,v.1,v.2,s.ext.nh,s.rep,ev,λv1 H1 N1 x1 i1 _=>?_⟩;have s1:=s.grow x1;obtain⟨l,vs,ds',z,h1,h2,h3,h4⟩:=s1.owL i _ ei;cases z
    refine⟨_,h1,N1,ρ,_,_,s1.ext.nh,s1.rep,ek,λkv H2 N2 x2 i2 _=>?_⟩;cases i2
    have s2:=s1.grow x2;obtain⟨l',vs',ds',z,k1,k2,k3,k4⟩:=s2.owL i _ ei;cases z
    rw[h1]at k1;cases k1;exact⟨l,vs',j,n,rfl,rfl,s2.ext.nh _ _ k2,by rw[k4.length];exact en,p σ _ ⟨_,s2.write ei h1 (IsL.set (s2.flat (i1.mono x2.bn) hn) n k4)⟩⟩
   ·cases ee
  |_=>cases ee
 ·cases ee
@[simp] noncomputable def Hh (i:Nat)(g:List D->Option (List D)):FS:=λρ=>match ρ[i]? with
 |some (some (.lst ds,true))=>(g ds).map λes=>.nx (ρ.set i (some (.lst es,true)))
 |_=>none
@[simp] noncomputable def Hi (i:Nat)(f:FE):FS:=λρ=>match ρ[i]? with
 |some (some (.lst ds,true))=>(f ρ).bind λx=>match x.1 with
  |.lst es=>if x.2=true/\b7 es=true/\ds.length+es.length<=sizeLine then some (.nx (ρ.set i (some (.lst (ds++es),true))))else none
  |_=>none
 |_=>none
@[simp] noncomputable def lZ:List D->Option (D×Bool)
 |[.int i]=>some (.int i,false)
 |[.bl b]=>some (.int (if b then 1 else 0),false)
 |_=>none
theorem z8:bO X (.type "int") (rDA X.K lZ):=by
 refine bO.to xG λxs H Q q=>?_;obtain⟨B,ds,d,bb,sB,i,ee,q⟩:=q;cases i with
 |nil=>simp[lZ]at ee
 |cons i1 i2=>
  cases i2 with
  |cons _ _=>cases i1<;>simp[lZ]at ee
  |nil=>
   cases i1<;>try (simp[lZ]at ee;done)
   ·simp only[lZ]at ee;cases ee
    exact .inr ⟨_,rfl,q.one sB (.int _)⟩
   ·simp only[lZ]at ee;cases ee
    exact .inl ⟨_,rfl,q.one sB (.int _)⟩
end
open AutoSeq1 (wpAny_loadPart')
set_option maxRecDepth 100000
noncomputable def sqT (k:Bool):String:=if k=true then "list" else "tuple"
theorem sI (k:Bool)(l:Addr)(items:Array Value)(n:Nat)(dct:Option Addr)(sl:Array (Option Value)):
  Meets (Builtin.«enumerate.__new__» ⟨[.type "enumerate",.ref l],[]⟩) (λ_ R s=>s.heap.get? l=some { cls:=.type (sqT k),dict:=dct,data:=.seq items n,slots:=sl } /\
   R (.ok (.ret (.ref (s.heap.push (itO k l)).objs.size))) { s with heap:=(s.heap.push (itO k l)).push { cls:=.type "enumerate",data:=.fields #[.none,.bool false,.ref s.heap.objs.size,rawInt 0,.none,.none] } }) :=
 .of_wp λprog w A R s hs=>by
  obtain⟨hp,g,d,tk,os⟩:=s;obtain⟨hl,hs⟩:=hs;have hsub:=sub_enumerate;have hL:KSq k (Shared.heap ⟨hp,g,d,tk,os⟩) l items:=by cases k<;>exact⟨_,hl,rfl,n,rfl⟩
  wp_walk using wpAny_loadPart' hl;refine wpAny_stack_any λst=>wY ?_;split
  ·rename_i c _ _ _ _ _;cases (c == Value.type "enumerate")
   ·wp_walk using wpAny_loadPart' hl,qP hL;exact⟨_,rfl,hs⟩
   ·wp_walk using wpAny_loadPart' hl,qP hL;exact⟨_,rfl,hs⟩
  ·wp_walk using wpAny_loadPart' hl,qP hL;exact⟨_,rfl,hs⟩
section
variable {prog:Program}{w:World}{A:Around}{E:Value->Shared->Prop}{s:Shared}
theorem zA {k:Bool}{l:Addr}{items:Array Value}{Q:Value->Shared->Prop}(hL:KSq k s.heap l items)
  (q:∀h',IsEnum h' (s.heap.objs.size+1) s.heap.objs.size 0 .none->KIt k h' s.heap.objs.size l 0->(∀b o,s.heap.get? b=some o->h'.get? b=some o)->Q (.ref (s.heap.objs.size+1)) { s with heap:=h' }):
  wpAny (model prog w) A (call (.type "enumerate") [.ref l]) Q E s:=by
 have hh:∃(dct:Option Addr)(sl:Array (Option Value))(n:Nat),s.heap.get? l=some { cls:=.type (sqT k),dict:=dct,data:=.seq items n,slots:=sl }:=by
  cases k<;>(obtain⟨⟨c,dct,dt,sl⟩,hl,hc,n,hd⟩:=hL;dsimp only at hc hd;subst hc;subst hd;exact⟨dct,sl,n,hl⟩)
 obtain⟨dct,sl,n,hl⟩:=hh;refine callType_new PySem.F.called_enumerate (by decide) (PySem.F.typeCall_enumerate_1 _) (PySem.F.newCall_enumerate_1 _) (λobj=>PySem.F.args_object_init_2 obj _) PySem.F.entry_enumerate_new (sI k l items n dct sl) ⟨hl,?_⟩;have n1:(s.heap.push (itO k l)).objs.size=s.heap.objs.size+1:=Heap.size_push ..;have g2:((s.heap.push (itO k l)).push { cls:=.type "enumerate",data:=.fields #[.none,.bool false,.ref s.heap.objs.size,rawInt 0,.none,.none] }).get? (s.heap.push (itO k l)).objs.size=some _:=Heap.get?_push_size _ rfl;have g1:((s.heap.push (itO k l)).push { cls:=.type "enumerate",data:=.fields #[.none,.bool false,.ref s.heap.objs.size,rawInt 0,.none,.none] }).get? s.heap.objs.size=some _:=Heap.get?_push_of_some _ (Heap.get?_push_size _ (by cases k<;>rfl))
 rw[n1]at g2;show _/\_;rw[n1];refine⟨⟨_,g2,rfl⟩,q _ g2 ?_ λb o e=>Heap.get?_push_of_some _ (Heap.get?_push_of_some _ e)⟩;cases k<;>exact⟨_,g1,rfl,rfl⟩
theorem Ej (hA:A.handled=none){k:Bool}(it l:Addr)(hne:l≠it)(items:Array Value):Draws prog w A it [it,l] items.size (λi v=>items[i]? = some v) (λi h=>KIt k h it l i/\KSq k h l items) where
 live:=λi h st=>let ⟨o,e,_⟩:=st.1.ob;⟨o,e⟩
 frame:=λi h h' st kk=>⟨st.1.upon λo e=>kk it (by simp) o e,st.2.upon λo e=>kk l (by simp) o e⟩
 item:=λi s Q E hi st q=>ya st.1 st.2 (v:=items[i]) (by simp[hi]) λh' st' sb=>q _ h' s.toks (by simp[hi]) ⟨st',st.2.upon λo e=>sb.extBut _ _ hne e⟩ sb
 done:=λs Q E st q=>sG hA st.1 st.2 (by simp) q
theorem Ek (hA:A.handled=none){k:Bool}(it l:Addr)(items:Array Value)(n:Nat)(hn:items[n]? = none):Draws prog w A it [it,l] n (λ_ _=>True) (λi h=>(KIt k h it l i/\KSq k h l items)/\i=n) where
 live:=λi h st=>let ⟨o,e,_⟩:=st.1.1.ob;⟨o,e⟩
 frame:=λi h h' st kk=>⟨⟨st.1.1.upon λo e=>kk it (by simp) o e,st.1.2.upon λo e=>kk l (by simp) o e⟩,st.2⟩
 item:=λi s Q E hi st q=>absurd st.2 (Nat.ne_of_lt hi)
 done:=λs Q E st q=>sG hA st.1.1 st.1.2 hn q
end
noncomputable def Ite (K:PySem.W.Frag)(k:Bool)(a:Addr):It :=
  ⟨λi H=>∃xs x,SqK k K H a xs/\xs[i]? = some x,
   λi H v H'=>∃T x,v=.ref T/\H T=none/\H'=upd H T (.tup [.int i,x])/\∀xs,SqK k K H a xs->xs[i]? = some x,
   λi H=>∃xs,SqK k K H a xs/\xs.length<=i⟩
theorem yc {P:Program}{w:World}{K:PySem.W.Frag}{es:List Expr}{kt:Nat}{pt:Pos}{k:Bool}{a e it:Addr}(hei:e≠it)(hae:a≠e)(hai:a≠it):
  Turn P w K (.Tuple es kt pt) (Ite K k a) [e,it] e (λi h=>(∃old,IsEnum h e it i old)/\KIt k h it a i) where
 mem:=by simp
 obj:=λi h st b hb=>by
  obtain⟨⟨old,he⟩,t1⟩:=st;simp at hb;rcases hb with rfl|rfl
  ·exact⟨_,he,λv z=>by cases z⟩
  ·exact t1.ob
 keep:=λi h h' st kk=>by
  obtain⟨⟨old,he⟩,t1⟩:=st;exact⟨⟨old,kk e (by simp) _ he⟩,t1.upon λo q=>kk it (by simp) o q⟩
 item:=by
  intro X hP hw hK hc i pins s σ H E I hf st hg;subst hP hw hK;obtain⟨⟨old,he⟩,t1⟩:=st;obtain⟨xs,x,q1,hx⟩:=hg;obtain⟨its,r1,p1,z1⟩:=q1.vals I;obtain⟨u,hu,ru⟩:=r1.get hx;have fresh:H s.heap.objs.size=none:=I.hok.fresh (Nat.le_refl _);have ilt:i<its.toArray.size:=by rw[List.size_toArray];exact(List.getElem?_eq_some_iff.mp hu).1
  have hel:e≠s.heap.objs.size:=Nat.ne_of_lt (Heap.lt_size he);have hil:it≠s.heap.objs.size:=by obtain⟨o,q,_⟩:=t1.ob;exact Nat.ne_of_lt (Heap.lt_size q)
  refine wpAny_pyNext_enum_itemD (Ej (A:=X.A.in1) (I.ok.hd hc) it a hai its.toArray) he ⟨t1,p1⟩ ilt hei (by simp[hei,hae.symm]) λv h' tk hv ho st' hT hsz hk=>?_;have ev:v=u:=by
   have hv':its[i]? = some v:=by simpa using hv
   rw[hu]at hv';exact(Option.some.inj hv').symm
  subst ev;refine⟨_,rfl,wpAny_letOwnedTupleGo_enum (s:={ s with heap:=h',toks:=tk+1 }) ho λh2 he2 s2=>?_⟩;have s2':Heap.SameBut e h' h2:=s2;have kk:∀b o,b∉[e,it]->s.heap.get? b=some o->h2.get? b=some o:=λb o hb q=>s2'.extBut _ _ (λz=>hb (by simp[z])) (hk b o (λz=>hb (by simp[z])) (λz=>hb (by simp[z])) q);have new:bA X.prog X.w (upd H s.heap.objs.size (.tup [.int i,x])) h2 s.heap.objs.size (.tup [.int i,x]):=⟨by show 2<=sizeLine;decide,[.int i tk,v],.cons ⟨tk,rfl⟩ (.cons ru .nil),⟨_,s2'.extBut _ _ hel.symm hT,rfl,_,rfl⟩⟩;refine⟨.ref s.heap.objs.size,upd H s.heap.objs.size (.tup [.int i,x]),FN (s:=s) (t':=tk+1) I hf kk (Nat.le_refl _) new,rfl,⟨_,x,rfl,fresh,rfl,λzs hq=>by rw[SqK.inj I hq q1];exact hx⟩,?_,λb hb=>?_⟩
  ·exact⟨⟨_,by have:=he2;rw[show((i:Int)+1)=((i+1:Nat):Int) by omega]at this;exact this⟩,st'.1.upon λo q=>s2'.extBut _ _ hei.symm q⟩
  ·have hne:b≠s.heap.objs.size:=by
    simp at hb;rcases hb with rfl|rfl
    ·exact hel
    ·exact hil
   rw[aB hne];exact(hf b hb).1
 done:=by
  intro X hP hw hK hc i pins s σ H E I hf st hg;subst hP hw hK;obtain⟨⟨old,he⟩,t1⟩:=st;obtain⟨xs,q1,hl⟩:=hg;obtain⟨its,r1,p1,z1⟩:=q1.vals I;have n1:=r1.length;refine wpAny_pyNext_enum_endD (Ek (A:=X.A.in1) (I.ok.hd hc) it a its.toArray i (by simp;omega)) he ⟨⟨t1,p1⟩,rfl⟩ λh' hk=>⟨rfl,?_⟩;exact qQ (t':=s.toks) I hf λb o hb q=>hk b o (λz=>hb (by simp[z])) q
 self:=λ_ _ _ _ _ st h=>let ⟨⟨_,he⟩,_⟩:=st;wpAny_pyIter_enum he h
section
variable {X:Cx}{a b e:Expr}{pos:Pos}{p:Pos}
theorem sJ:bootBuiltins "enumerate" = some (.type "enumerate"):=by decide +kernel
noncomputable def jW (ds:List D):List D:=ds.mapIdx λi d=>.tup [.int i,d]
@[simp] noncomputable def wy (fa:FE):FA:=λρ=>(fa ρ).bind λx=>(gg x.1).map jW
theorem B8 {K:PySem.W.Frag}{N:Hp}{k:Bool}{l:Addr}{vs:List V}{ds:List D}(h1:SqK k K N l vs)(i1:IsL K N vs ds):oD K (Ite K k l) N (jW ds):=by
 intro i H' sm;have n1:=i1.length;refine⟨λd ed=>?_,λhl=>⟨vs,h1.same sm,?_⟩⟩
 ·unfold jW at ed;rw[List.getElem?_mapIdx]at ed;obtain⟨x,e1,rfl⟩:=oY ed;obtain⟨v,ev,iv⟩:=i1.get e1;refine⟨⟨vs,v,h1.same sm,ev⟩,λr H2 hy=>?_⟩;obtain⟨T,v',rfl,hT,rfl,f1⟩:=hy;have e3:=f1 vs (h1.same sm);rw[ev]at e3;cases e3;have xt:=Ext.laid (o:=.tup [.int i,v]) sm hT;exact⟨_,xt,.tup (SqT.of a0) (.cons (.int _) (.cons (iv.mono xt.bn) .nil))⟩
 ·unfold jW at hl;rw[List.length_mapIdx]at hl;omega
theorem wz {es:List Expr}{kt:Nat}{pt:Pos}{fa:FE}(hm:X.mg "enumerate" = none)(ha:JE X a fa)(hg:Gl X "enumerate":=by rfl)(hs:starEach [a] X.env=[(false,eval a X.env)]:=by rfl):
  JI X (.Tuple es kt pt) (.Call (.Name "enumerate" p) [a] [] pos) (wy fa):=by
 intro pins s σ H R I q;refine Call_ (js I hg hm sJ (PyProof.Rows.callWith_type1 (thn (ae ha ag hs pos pins s σ H (λvs H1=>∃(k:Bool)(l:Addr)(us:List V),vs=[.ref l]/\SqK k X.K H1 l us/\R (Ite X.K k l) H1) I ?_) λus s1 ⟨vs,H1,I1,r1,q1⟩=>?_) hs rfl))
 ·obtain⟨B,ρ,ds,sB,r,ee,q⟩:=q;obtain⟨x1,ex,ee⟩:=oX ee;obtain⟨xs,exs,ee⟩:=oY ee;subst ee;refine⟨B,ρ,[x1.1],sB,r,by simp[ab,ak,ex],λvs H1 N1 xt i1=>?_⟩;cases i1 with
  |cons j1 j2=>
   cases j2
   obtain⟨k1,l1,us,rfl,s1,m1⟩:=FP j1 exs;exact⟨k1,l1,us,rfl,s1.same xt.nh,q _ H1 N1 xt (B8 s1 m1)⟩
 ·obtain⟨k,l,ws,rfl,h1,q⟩:=q1;obtain⟨u1,rfl,ru1⟩:=r1.one;cases ru1
  obtain⟨its,v1,p1,z1⟩:=h1.vals I1;have lt1:=p1.lt;refine zA p1 λh' c1 c2 ck=>?_;refine wpAny_pyIter_enum c1 ⟨s1.heap.objs.size+1,[s1.heap.objs.size+1,s1.heap.objs.size],_,_,H1,rfl,I1.kept (t':=s1.toks) ck,
   yc (Nat.succ_ne_self _) (Nat.ne_of_lt (Nat.lt_succ_of_lt lt1)) (Nat.ne_of_lt lt1),⟨⟨_,c1⟩,c2⟩,λb hb=>?_,q⟩
  have hle:s1.heap.objs.size<=b:=by
   simp at hb;rcases hb with rfl|rfl
   ·exact Nat.le_succ _
   ·exact Nat.le_refl _
  exact I1.fpOk hle (I1.hok.fresh hle)
end
end DL
namespace DL
open PySem PySem.Spec PyProof.Rows
theorem ye (t:SetTable)(es:Array (Int×Value))(n:Nat):(relayAll t es n).2.1.led=t.led:=by
 unfold relayAll;split
 ·rename_i t' order h;unfold SetTable.relaid SetTable.laid at h;obtain⟨ow,_,h⟩:=oX h;cases h
  dsimp only;split<;>rfl
 ·rfl
theorem sK (t:SetTable)(es:Array (Int×Value))(n:Nat)(hp:t.plain=false):(relayAll t es n).2.1.plain=false:=by
 unfold relayAll;split
 ·rename_i t' order h;unfold SetTable.relaid SetTable.laid at h;obtain⟨ow,_,h⟩:=oX h;cases h
  dsimp only;split
  ·exact hp
  ·rfl
 ·rfl
theorem B9 (t:SetTable)(es:Array (Int×Value))(h:Int)(x:Value):(layNew t es h x).2.1.led=t.led:=by
 unfold layNew;split
 ·dsimp only[SetTable.put,SetTable.orStandIn];repeat' (first|rfl|split)
 ·rfl
structure TabT (w:World)(es:Array (Int×Value))(t:SetTable):Prop where
 fits:t.fits es.size=true
 led:t.led = !w.params.followText "set-order"
 plain:es.size≠0->t.plain=false
noncomputable def gt (prog:Program)(w:World)(h:Heap)(a:Addr)(ts:List Str):Prop :=
 ∃o es ep t,h.get? a=some o/\o.ExactSet/\o.data=.set es ep t/\ElemsOf (PySem.strKind prog w) es.toList/\(es.toList.map (λe=>strOf e.2)).Perm ts/\ts.Nodup/\ts.length<scanBound/\TabT w es t
noncomputable def gA (ts:List Str)(x:Str):List Str:=if x∈ts then ts else ts++[x]
theorem zB (ts:List Str)(x:Str):(gA ts x).length<=ts.length+1:=by unfold gA;split<;>simp
theorem sL {k:Str}{v:Value}(h:Value.isStrOf k v=true):strOf v=k:=by obtain⟨t,rfl⟩:=Value.isStrOf_shape h;rfl
section
variable {prog:Program}{w:World}{A:Around}{E:Value->Shared->Prop}{s:Shared}
theorem px {es:Array (Int×Value)}{ts:List Str}(hel:ElemsOf (PySem.strKind prog w) es.toList)(hp:(es.toList.map (λe=>strOf e.2)).Perm ts)(k:Str):k∈ts ↔ ∃e∈es.toList,(PySem.strKind prog w).is k e.2=true:=by
 rw[←hp.mem_iff,List.mem_map];constructor
 ·rintro⟨e,he,rfl⟩;obtain⟨⟨k',hk,_⟩,_⟩:=hel e he;have hk':Value.isStrOf k' e.2=true:=hk;refine⟨e,he,?_⟩;show Value.isStrOf (strOf e.2) e.2=true;rw[sL hk'];exact hk'
 ·rintro⟨e,he,hk⟩;exact⟨e,he,sL hk⟩
theorem pz {h:Heap}{a:Addr}{o:Obj}{es:Array (Int×Value)}{ep:Nat}{t:SetTable}(ho:h.get? a=some o)(hd:o.data=.set es ep t)(es':Array (Int×Value))(t':SetTable):
  (h.update a (Obj.putSet es' t')).get? a=some { o with data:=.set es' (ep+1) t' }:=by
 have:=Heap.get?_update_self (Obj.putSet es' t') ho (by rw[putSet_of es' t' hd];rfl);rw[putSet_of es' t' hd]at this;exact this
theorem sM {g:Bool->Sem Unit}(hg:∀(b:Bool)(s₁:Shared)(Q':Unit->Shared->Prop),Q' () s₁->wpAny (model prog w) A (g b) Q' E s₁)
  {a:Addr}{o:Obj}{es:Array (Int×Value)}{ep:Nat}{t:SetTable}(ho:s.heap.get? a=some o) (hex:o.ExactSet) (hd:o.data=.set es ep t)
  {es1:Array (Int×Value)}{t2:SetTable}{ts:List Str}(hel1:ElemsOf (PySem.strKind prog w) es1.toList) (hp1:(es1.toList.map (λe=>strOf e.2)).Perm ts) (nd:ts.Nodup)
  (hb1:ts.length<scanBound) (hf2:t2.fits es1.size=true) (hl2:t2.led = !w.params.followText "set-order") (hpl:t2.plain=false) {wasDummy:Bool}{R:Option Bool->Shared->Prop}
  (h:∀h',Heap.SameBut a s.heap h'->gt prog w h' a ts->R (some true) { s with heap:=h' }):
  wpAny (model prog w) A (do
    storeSet a es1 t2
    if(!wasDummy && t2.tooFull)=true then do
      g (relayAll t2 es1 (SetTable.grown es1.size)).2.2
      storeSet a (relayAll t2 es1 (SetTable.grown es1.size)).1 (relayAll t2 es1 (SetTable.grown es1.size)).2.1
      pure (some true)
     else pure (some true)) R E s:=by
 have sz1:es1.size=ts.length:=by rw[←hp1.length_eq,List.length_map,Array.length_toList]
 refine wX (wpAny_storeSet_of ho hd ?_ (fits_of_scanBound (by rw[sz1];exact hb1)));have ho1:=pz ho hd es1 t2;have hsb1:=Heap.SameBut.update s.heap a (Obj.putSet es1 t2);split
 ·have hp:=relayAll_perm t2 es1 (SetTable.grown es1.size);have hfr:=relayAll_fits t2 es1 (SetTable.grown es1.size);have hle:=ye t2 es1 (SetTable.grown es1.size);have hpa:=sK t2 es1 (SetTable.grown es1.size) hpl;generalize hRl:relayAll t2 es1 (SetTable.grown es1.size)=Rl at hp hfr hle hpa ⊢;obtain⟨es2,t3,gave2⟩:=Rl;dsimp only at hp hfr hle hpa ⊢;have hel2:ElemsOf (PySem.strKind prog w) es2.toList:=hel1.perm hp;have hsz:es2.size=es1.size:=by rw[←Array.length_toList,hp.length_eq,Array.length_toList]
  refine wX (hg _ _ _ ?_);refine wX (wpAny_storeSet_of ho1 rfl ?_ (fits_of_scanBound (by rw[hsz,sz1];exact hb1)));have ho2:=pz ho1 rfl es2 t3;exact wY (h _ (hsb1.trans (Heap.SameBut.update _ a _)) ⟨_,es2,_,t3,ho2,hex,rfl,hel2,(hp.map _).trans hp1,nd,hb1,hfr,hle.trans hl2,λ_=>hpa⟩)
 ·exact wY (h _ hsb1 ⟨_,es1,_,t2,ho1,hex,rfl,hel1,hp1,nd,hb1,hf2,hl2,λ_=>hpl⟩)
theorem uW {a:Addr}{ts:List Str}{k:Str}{tk:Tok}{Q:Bool->Shared->Prop}(hS:gt prog w s.heap a ts)(hroom:ts.length+1<scanBound)
  (h:∀b h',Heap.SameBut a s.heap h'->gt prog w h' a (gA ts k)->Q b { s with heap:=h' }):
  wpAny (model prog w) A (setAddHashed a (.str k tk) ((PySem.strKind prog w).hash k)) Q E s:=by
 have hS0:=hS;obtain⟨o,es,ep,t,ho,hex,hd,hel,hperm0,nd,hb,hf,hled,hpl⟩:=hS;have hkey:(PySem.strKind prog w).is k (.str k tk)=true:=strKind_is prog w k tk;have sz:es.size=ts.length:=by rw[←hperm0.length_eq,List.length_map,Array.length_toList]
 unfold setAddHashed setAddHashedIn;refine wpAny_holding (wX (wpAny_setState_of ho hd hf ?_));dsimp only;rw[byScan_of (x:=.str k tk) rfl (by rw[sz];exact hb) hel];simp only[↓reduceIte];unfold setAddByScan;refine wX ?_;refine wX (wpAny_rule ?_);refine wX (wpAny_setScan_of hkey ho hd hf hel ?_);cases hr:List.findIdx? (λe=>(PySem.strKind prog w).is k e.2) es.toList with
 |some j=>
  dsimp only;obtain⟨hj,hpj,_⟩:=List.findIdx?_eq_some_iff_getElem.mp hr;have hm:k∈ts:=(px hel hperm0 k).mpr ⟨es.toList[j],List.getElem_mem hj,hpj⟩;refine wY (wY ?_);have e:gA ts k=ts:=by unfold gA;rw[if_pos hm]
  exact h false s.heap (Heap.SameBut.refl a s.heap) (by rw[e];exact hS0)
 |none=>
  dsimp only;have hm:k∉ts:=λz=>by
   obtain⟨e,he,hp⟩:=(px hel hperm0 k).mp z;have:=List.findIdx?_eq_none_iff.mp hr e he;rw[hp]at this;exact Bool.noConfusion this
  have ea:gA ts k=ts++[k]:=by unfold gA;rw[if_neg hm]
  have hgw:∀(b:Bool){s₁:Shared}{Q':Unit->Shared->Prop},Q' () s₁->wpAny (model prog w) A (match b with|true=>rule "set.scan.the-table-gave-way" | false=>pure ()) Q' E s₁ :=
   λb s₁ Q' hq=>by cases b<;>first|exact wY hq|exact wpAny_rule hq
  have hperm:=layNew_perm t es ((PySem.strKind prog w).hash k) (.str k tk);have hfits:=layNew_fits t es ((PySem.strKind prog w).hash k) (.str k tk);have hl1:=B9 t es ((PySem.strKind prog w).hash k) (.str k tk);generalize hL:layNew t es ((PySem.strKind prog w).hash k) (.str k tk)=L at hperm hfits hl1 ⊢;obtain⟨es1,t1,wasDummy,gave⟩:=L;dsimp only at hperm hfits hl1 ⊢;rw[Array.toList_push]at hperm;have hel1:ElemsOf (PySem.strKind prog w) es1.toList:=(hel.push hkey rfl).perm hperm;have hp1:(es1.toList.map (λe=>strOf e.2)).Perm (ts++[k]):=(hperm.map _).trans (by rw[List.map_append];exact hperm0.append_right _);have nd1:(ts++[k]).Nodup:=by
   rw[List.nodup_append];refine⟨nd,by simp,λx hx y hy=>?_⟩;rw[List.mem_singleton]at hy;subst hy;exact λz=>hm (z ▸ hx)
  have hb1:(ts++[k]).length<scanBound:=by rw[List.length_append];exact hroom
  refine wX (hgw _ ?_);have hend:∀h',Heap.SameBut a s.heap h'->gt prog w h' a (ts++[k])->Q true { s with heap:=h' }:=λh' hsb hS'=>h true h' hsb (by rw[ea];exact hS');split
  ·refine wX ?_;rw[hashByValue_scannable 8 (x:=.str k tk) rfl];refine wY ?_;refine sM ?_ ho hex hd hel1 hp1 nd1 hb1 ?_ ?_ ?_ ?_
   ·intro b s₁ Q' hq;cases b<;>first|exact wY hq|exact wpAny_rule hq
   ·exact SetTable.fits_plain_off hfits
   ·exact hl1.trans hled
   ·rfl
   ·intro h' hsb hS';dsimp only;exact wY (hend h' hsb hS')
  ·rename_i hnp;refine wX (wY ?_);simp only[↓reduceIte];refine sM ?_ ho hex hd hel1 hp1 nd1 hb1 hfits (hl1.trans hled) (by simpa using hnp) ?_
   ·intro b s₁ Q' hq;cases b<;>first|exact wY hq|exact wpAny_rule hq
   ·intro h' hsb hS';dsimp only;exact wY (hend h' hsb hS')
end
noncomputable def ge (ss:List Str):List Str:=ss.foldl gA []
theorem uX {ts:List Str}(h:ts.Nodup)(x:Str):(gA ts x).Nodup:=by
 unfold gA;split
 ·exact h
 ·rename_i hm;rw[List.nodup_append];refine⟨h,by simp,λy hy z hz=>?_⟩;rw[List.mem_singleton]at hz;subst hz;exact λe=>hm (e ▸ hy)
theorem iM {ts:List Str}{x y:Str}:y∈gA ts x↔y∈ts∨y=x:=by
 unfold gA;split
 ·rename_i hm;exact⟨.inl,λz=>z.elim id λe=>e ▸ hm⟩
 ·simp
theorem qR (ss:List Str):∀ts:List Str,(ss.foldl gA ts).length<=ts.length+ss.length:=by
 induction ss with
 |nil=>intro ts;simp
 |cons x r ih=>intro ts;rw[List.foldl_cons];have:=ih (gA ts x);have:=zB ts x;simp only[List.length_cons];omega
theorem mM (ss:List Str):(ge ss).length<=ss.length:=by have:=qR ss [];simpa [ge]using this
theorem yf (ss:List Str)(x:Str):ge (ss++[x])=gA (ge ss) x:=by unfold ge;rw[List.foldl_append];rfl
theorem StrsAre.at:∀ {vs:List Value}{ss:List Str},StrsAre vs ss->∀(i:Nat)(v:Value),vs[i]? = some v->∃x t,v=.str x t/\ss[i]? = some x
 |_,_,.nil,i,v,h=>by simp at h
 |_,_,.cons x t hr,0,v,h=>by simp at h;exact⟨x,t,h.symm,rfl⟩
 |_,_,.cons x t hr,i+1,v,h=>by
  simp only[List.getElem?_cons_succ]at h;exact StrsAre.at hr i v h
theorem gt.at {prog:Program}{w:World}{h h':Heap}{a:Addr}{ts:List Str}(x:gt prog w h a ts)(k:∀o,h.get? a=some o->h'.get? a=some o):gt prog w h' a ts:=by
 obtain⟨o,es,ep,t,ho,r⟩:=x;exact⟨o,es,ep,t,k o ho,r⟩
section
variable {prog:Program}{w:World}{A:Around}{R:Result->Shared->Prop}{I:Addr}{fp wr:List Addr}{G:Array GenState->Array GenState->Prop}{n:Nat}{P:Nat->Value->Prop}{St:Nat->Shared->Prop}
theorem qS (W:WalksS prog w A.in1 I fp wr G n P St)(S:Addr)(hSf:S∉fp)(ss:List Str)(hn:ss.length=n)
  (hval:∀i v,P i v->∃x t,v=.str x t/\ss[i]? = some x) (hb:n+1<scanBound):
  ∀(k i:Nat)(s:Shared),n - i=k->i<=n->St i s->gt prog w s.heap S (ge (ss.take i)) ->
   (∀s',Moved (S::wr) G s s'->gt prog w s'.heap S (ge ss)->R (.ok (.ret .none)) s') ->
   codeAny (model prog w) A (.builtin "set.update.loop" ⟨[.ref S,.ref I],[]⟩) R s:=by
 have hSw:S∉wr:=λh=>hSf (W.sub _ h);have hsub:∀b∈wr,b∈S::wr:=λb hb=>mZ _ hb;intro k;induction k with
 |zero=>
  intro i s hk hi hst hS hR;have hin:i=n:=by omega
  subst hin;refine codeAny_builtin PyProof.Rows.F.entry_set_update_loop ?_;rw[Around.under_plainId PyProof.Rows.F.plain_set_update_loop _];show wpAny _ A.in1 (pyNext (.ref I)>>=_) _ _ s;refine wX (W.done s _ _ hst λs' hm=>?_);show wpAny _ A.in1 (ret Value.none) _ _ s';refine wY (hR s' (hm.mono hsub) ?_);rw[List.take_of_length_le (by omega)]at hS;exact hS.at λo e=>hm.heap S _ hSw e
 |succ k ih=>
  intro i s hk hi hst hS hR;have hlt:i<n:=by omega
  refine codeAny_builtin PyProof.Rows.F.entry_set_update_loop ?_;rw[Around.under_plainId PyProof.Rows.F.plain_set_update_loop _];show wpAny _ A.in1 (pyNext (.ref I)>>=_) _ _ s;refine wX (W.item i s _ _ hlt hst λv s' hP hst' hm=>?_);obtain⟨x,t,rfl,hx⟩:=hval i v hP;have hS':gt prog w s'.heap S (ge (ss.take i)):=hS.at λo e=>hm.heap S _ hSw e;show wpAny _ A.in1 (holding [Value.str x t] (setAdd S (.str x t))>>=_) _ _ s';refine wX (wpAny_holding ?_);unfold setAdd;refine wpAny_holding ?_;refine wX ((PySem.strKind prog w).pyHash (k:=x) (strKind_is prog w x t) ?_);have hl:(ge (ss.take i)).length+1<scanBound:=by have:=mM (ss.take i);rw[List.length_take]at this;omega
  refine uW (s:={ s' with toks:=s'.toks+1 }) hS' hl λb h' hsb hS2=>?_;have hS3:gt prog w h' S (ge (ss.take (i+1))):=by
   rw[List.take_add_one,hx,Option.toList_some,yf];exact hS2
  refine wY ⟨plainId_quiet PyProof.Rows.F.plain_set_update_loop _,ih (i+1) _ (by omega) hlt (W.frame _ s' _ _ hst' (Nat.le_succ _) λb hb o e=>?_) hS3 λs'' hm'' hS''=>?_⟩
  ·rw[hsb.2 b (λh:b=S=>hSf (by rw[←h];exact hb))];exact e
  ·refine hR s'' (Moved.trans W.gtrans ((hm.mono hsub).then_heap (Nat.le_succ _) λb o hb e=>?_) hm'') hS'';rw[hsb.2 b (λh:b=S=>hb (by rw[h];exact mX))];exact e
end
section
variable {prog:Program}{w:World}{A:Around}{E:Value->Shared->Prop}{s:Shared}
noncomputable abbrev d8 (w:World):Obj:={ cls:=.type "set",dict:=none,data:=.set #[] 0 (.fresh 0 0 (!w.params.followText "set-order")) }
theorem sO (a:Value){Q₁:Value->Shared->Prop}
  (h:Q₁ (.ref s.heap.objs.size) { s with heap:=s.heap.push (d8 w) }):
  codeAny (model prog w) A (.call (.builtin "set.__new__") ⟨[.type "set",a],[]⟩) (wants Q₁ E) s:=by
 refine codeAny_of_tree ?_;show wpAny _ A.in1 (do checkBuiltinCall "set.__new__" ⟨[.type "set",a],[]⟩;again (.builtin "set.__new__" ⟨[.type "set",a],[]⟩)) _ _ s;refine wX (wpAny_of_eq (PySem.F.newCall_set_1 a) (wY ⟨plainId_quiet PySem.F.plain_set_new _,codeAny_builtin PySem.F.entry_set_new ?_⟩));rw[Around.under_plainId PySem.F.plain_set_new _];unfold Builtin.«set.__new__» Builtin.Frozenset.newClass;have hsub:=sub_set_self;obtain⟨hp,g,d,tk,os⟩:=s;dsimp only;wp_walk;refine wpAny_askSetting (wY ?_);dsimp only;simp only[newObj];refine wX (wpAny_alloc (wY ?_));exact wY h
set_option maxHeartbeats 3200000 in
theorem mN {l:Addr}{items:Array Value}{ss:List Str}{Q:Value->Shared->Prop}
  (hh:A.handled=none) (hl:s.heap.IsList l items) (hi:StrsAre items.toList ss) (hb:items.size+1<scanBound)
  (h:∀(h':Heap)(tk:Nat),gt prog w h' s.heap.objs.size (ge ss) ->
   (∀b o,b<s.heap.objs.size->s.heap.get? b=some o->h'.get? b=some o)->Q (.ref s.heap.objs.size) { s with heap:=h',toks:=tk }):
  wpAny (model prog w) A (call (.type "set") [.ref l]) Q E s:=by
 obtain⟨c,tl,hmro⟩:=PySem.F.called_set.mro;have hmade:=PySem.F.called_set.made;have hsub:=PySem.F.called_set.sub;refine wpAny_call (codeAny_of_tree ?_);show wpAny _ _ (callAny (.type "set") _) _ _ _;refine wY ⟨Code.quiet_builtin _ (by decide +kernel),codeAny_builtin PySem.F.entry_type_call ?_⟩;rw[Around.under_plain (weight_type_call_type "set" [.ref l] []) rfl];have h1:=PySem.F.called_set.notType;have h2:=PySem.F.called_set.canCreate;have hct:=PySem.F.typeCall_set_1 (.ref l);have hlen:ss.length=items.size:=by have:=hi.strs;rw[←this,List.length_map,Array.length_toList]
 repeat (any_goals (first|assumption|wp_step))
 refine codeAny_mono (sO (.ref l) (E:=E) (Q₁:=λobj s₁=>obj=.ref s.heap.objs.size/\s₁={ s with heap:=s.heap.push (d8 w) }) ⟨rfl,rfl⟩) λr s₁ hr=>?_;cases r with
 |error e=>exact hr
 |ok fl=>
  cases fl with
  |ret obj=>
   obtain⟨rfl,rfl⟩:=hr;have hS:(s.heap.push (d8 w)).get? s.heap.objs.size=some (d8 w):=Heap.get?_push_size _ rfl;have hT:Shared.TypeIs { s with heap:=s.heap.push (d8 w) } (.ref s.heap.objs.size) "set":=⟨_,hS,rfl⟩;have hli:=PySem.F.called_set.init.lookup;have hbi:=PySem.F.called_set.init.bind (.ref s.heap.objs.size);repeat (any_goals (first|assumption|wp_step))
   refine codeAny_mono (codeAny_call_builtin (R:=wants (λr s₂=>r=.none/\∃h' tk,s₂={ s with heap:=h',toks:=tk } /\
     gt prog w h' s.heap.objs.size (ge ss) /\
     (∀b o,b<s.heap.objs.size->s.heap.get? b=some o->h'.get? b=some o)) E) PySem.F.called_set.init.plain PySem.F.entry_set_init (check_set_init_1 hT ?_)) λr₂ s₂ hr₂=>?_
   ·obtain⟨ol,hol,hcl,nl,hdl⟩:=hl;obtain⟨ocls,odict,odata,oslots⟩:=ol;simp only at hcl hdl;subst hcl;subst hdl;have hol':(s.heap.push (d8 w)).get? l=some { cls:=.type "list",dict:=odict,data:=.seq items nl,slots:=oslots }:=Heap.get?_push_of_some _ hol;have hsls:=PySem.F.sub_list_set;have hslf:=PySem.F.sub_list_frozenset;have hne:(Value.type "list" == Value.type "dict")=false:=by decide
    have hl1:(s.heap.push (d8 w)).IsList l items:=⟨_,hol',rfl,nl,rfl⟩;unfold Builtin.«set.__init__» noKeywords Builtin.Frozenset.updateFrom;generalize hPI:pyIter=PI;wp_walk;subst hPI;refine wpAny_pyIter_list hl1 ?_;refine wX (wpAny_runValue ?_);have hlS:l<s.heap.objs.size:=Heap.lt_size hol;have hh3:A.in1.in1.in1.handled=none:=by simp[hh]
    have hneI:l≠(s.heap.push (d8 w)).objs.size:=by
     rw[Heap.size_push];exact Nat.ne_of_lt (Nat.lt_succ_of_lt hlS)
    have hSf:s.heap.objs.size∉[(s.heap.push (d8 w)).objs.size,l]:=by
     rw[Heap.size_push];simp only[List.mem_cons,List.mem_singleton,List.not_mem_nil,or_false,not_or];exact⟨Nat.ne_of_lt (Nat.lt_succ_self _),Nat.ne_of_gt hlS⟩
    have hval:∀(i:Nat)(v:Value),items[i]? = some v->∃x t,v=.str x t/\ss[i]? = some x:=λi v hv=>
     StrsAre.at hi i v (by rw[Array.getElem?_toList];exact hv)
    refine qS ((Walks.list hh3 _ l hneI items).toS) s.heap.objs.size
     hSf ss hlen hval hb (items.size - 0) 0 _ (by omega) (Nat.zero_le _)
     ⟨⟨_,Heap.get?_push_size _ rfl,rfl,rfl⟩,(hl1.push _)⟩ ?hS0 ?hR
    case hS0=>
     have hget:((s.heap.push (d8 w)).push { cls:=.type "list_iterator",data:=.fields #[.ref l,.int 0 0] }).get? s.heap.objs.size
       = some (d8 w):=Heap.get?_push_of_some _ hS
     exact⟨_,#[],0,_,hget,⟨rfl,rfl,rfl⟩,rfl,λe he=>by simp at he,List.Perm.refl _,List.nodup_nil,(by show(0:Nat)<scanBound;decide),rfl,rfl,λz=>absurd rfl z⟩
    case hR=>
     intro s' hm hS'
     obtain⟨h',g',d',tk',os'⟩:=s'
     have eg:g'=s.gens:=hm.gens
     have ed:d'=s.drawn:=hm.drawn
     have eo:os'=s.os:=hm.os
     subst eg;subst ed;subst eo
     show wpAny _ _ _ _ _ _
     refine wY ?_
     show wpAny _ _ (ret Value.none) _ _ _
     refine wY ⟨rfl,h',tk',rfl,hS',λb o hb e=>?_⟩
     have hb1:b≠s.heap.objs.size:=Nat.ne_of_lt hb
     have hb2:b≠(s.heap.push (d8 w)).objs.size:=by
      rw[Heap.size_push];exact Nat.ne_of_lt (Nat.lt_succ_of_lt hb)
     exact hm.heap b o (by simp only[List.mem_cons,List.mem_singleton,List.not_mem_nil,or_false,not_or];exact⟨hb1,hb2⟩) (Heap.get?_push_of_some _ (Heap.get?_push_of_some _ e))
   ·cases r₂ with
    |error e=>exact hr₂
    |ok fl₂=>
     cases fl₂ with
     |ret r=>
      obtain⟨rfl,h',tk,rfl,hS',hk'⟩:=hr₂;repeat (any_goals (first|assumption|wp_step))
      exact h _ _ hS' hk'
     |_=>exact hr₂.elim
  |_=>exact hr.elim
end
open Sem (wp)
section
variable {M:Model}{A:Around}{E:Value->Shared->Prop}{s:Shared}
theorem BA {src:Source}{n:Nat}{Q:Nat->Shared->Prop}(hn:n≠0)(h:∀k d,k<n->Q k { s with drawn:=d }):wpAny M A (choose src n) Q E s:=by
 intro Γ p hG;unfold choose;rw[Sem.wp_choose];refine⟨hn,?_⟩;have:=h _ (s.drawn.bump src) (Nat.mod_lt (M.w.draws src (s.drawn.get src)) (Nat.pos_of_ne_zero hn));simpa using this
end
theorem jX {α:Type}:∀(l:List α)(i:Nat),i<l.length->(l.eraseIdx i).length=l.length - 1:=λl i h=>by rw[List.length_eraseIdx,if_pos h]
theorem j0 {α:Type}:∀(l:List α)(i:Nat)(x:α),l[i]? = some x->(x::l.eraseIdx i).Perm l
 |[],i,x,h=>by simp at h
 |a::l,0,x,h=>by simp at h;subst h;exact List.Perm.refl _
 |a::l,i+1,x,h=>by
  rw[List.eraseIdx_cons_succ];simp only[List.getElem?_cons_succ]at h;exact(List.Perm.swap a x _).trans ((j0 l i x h).cons a)
theorem w4 {M:Model}{A:Around}{E:Value->Shared->Prop}{α:Type}:∀(n:Nat)(xs:List α)(s:Shared)(Q:List α->Shared->Prop),xs.length=n->(∀ys d,ys.Perm xs->Q ys { s with drawn:=d })->wpAny M A (drawOrder n xs) Q E s
 |0,xs,s,Q,hl,h=>by
  have:xs=[]:=List.eq_nil_of_length_eq_zero hl;subst this;exact wY (h [] s.drawn (List.Perm.refl _))
 |n+1,[],s,Q,hl,h=>by simp at hl
 |n+1,x::r,s,Q,hl,h=>by
  show wpAny M A (choose .order (x::r).length>>=λi=>match (x::r)[i]? with
   |some x'=>(do return x'::(←drawOrder n ((x::r).eraseIdx i)))
   |none=>unsupported "internal:drawOrder") Q E s
  refine wX (BA (by simp) λk d hk=>?_);obtain⟨y,hy⟩:∃y,(x::r)[k]? = some y:=⟨_,List.getElem?_eq_getElem hk⟩;rw[hy];refine wX (w4 n _ _ _ (by rw[jX _ _ hk,hl];rfl) λys d' hp=>wY (h _ _ ((hp.cons y).trans (j0 _ _ _ hy))))
theorem w6 {α:Type}(next:Nat->Nat):∀(fuel k:Nat)(left:List α)(out:Array α),left.length=fuel->(pickOrder.go next fuel k left out).toList.Perm (out.toList++left)
 |0,k,left,out,hl=>by
  have:left=[]:=List.eq_nil_of_length_eq_zero hl;subst this;unfold pickOrder.go;simp
 |fuel+1,k,left,out,hl=>by
  unfold pickOrder.go;have hk:next k % left.length<left.length:=Nat.mod_lt _ (by omega);obtain⟨y,hy⟩:∃y,left[next k % left.length]? = some y:=⟨_,List.getElem?_eq_getElem hk⟩;rw[hy];dsimp only;refine(w6 next fuel (k+1) _ _ (by rw[jX _ _ hk];omega)).trans ?_;rw[Array.toList_push,List.append_assoc];exact(j0 _ _ _ hy).append_left _
theorem yg {α:Type}(next:Nat->Nat)(xs:Array α):(pickOrder next xs).toList.Perm xs.toList:=by
 have:=w6 next xs.size 0 xs.toList #[] (by simp);simpa [pickOrder]using this
theorem bi:Slot "set_iterator" "__next__" "set_iterator.__next__" :=
 .of (owner:="set_iterator") (n:="__next__") (by rw[typeLookup_type,builtinLookup_eq_fast];kernel_rfl) (by decide +kernel) (by decide +kernel) (by decide +kernel)
  (by first|exact .inl (by decide +kernel)|exact .inr (by decide +kernel)) (by rw[isSubtype_type];kernel_rfl)
theorem dU:entryFor table "set_iterator.__next__" = some Builtin.«set_iterator.__next__»:=entryFor_of_tree (by kernel_rfl)
theorem eX (a:Value):argsOk "set_iterator.__next__" ⟨[a],[]⟩:=by unfold argsOk;kernel_rfl
theorem jp:Slot "set_iterator" "__iter__" "set_iterator.__iter__" :=
 .of (owner:="set_iterator") (n:="__iter__") (by rw[typeLookup_type,builtinLookup_eq_fast];kernel_rfl) (by decide +kernel) (by decide +kernel) (by decide +kernel)
  (by first|exact .inl (by decide +kernel)|exact .inr (by decide +kernel)) (by rw[isSubtype_type];kernel_rfl)
theorem mO:entryFor table "set_iterator.__iter__" = some Builtin.«dict_keyiterator.__iter__» :=
 entryFor_alias (id':="dict_keyiterator.__iter__") (by kernel_rfl) rfl (by decide +kernel) (by kernel_rfl)
theorem oF (a:Value):argsOk "set_iterator.__iter__" ⟨[a],[]⟩:=by unfold argsOk;kernel_rfl
theorem ma:entryFor table "set.__iter__" = some Builtin.«frozenset.__iter__» :=
 entryFor_alias (id':="frozenset.__iter__") (by kernel_rfl) rfl (by decide +kernel) (by kernel_rfl)
noncomputable abbrev j3 (fst:Value)(i:Nat)(S:Addr)(n ep:Nat):Obj:={ cls:=.type "set_iterator",data:=.fields #[fst,.int i 0,.ref S,.int n 0,.int ep 0] }
section
variable {prog:Program}{w:World}{A:Around}{E:Value->Shared->Prop}{s:Shared}{it S:Addr}{i ep:Nat}{o:Obj}{es:Array (Int×Value)}{t:SetTable}
theorem dc {fst:Value}{n:Nat}(ho:s.heap.get? it=some (j3 fst i S n ep)):s.TypeIs (.ref it) "set_iterator":=⟨_,ho,rfl⟩
theorem qT {k k':Nat}{x:Value}{Q:Option Value->Shared->Prop}(ho:s.heap.get? it=some (j3 (.int k 0) i S es.size ep))
  (hS:s.heap.get? S=some o) (hd:o.data=.set es ep t) (hf:t.fits es.size=true)
  (hN:∀(A':Around)(E':Value->Shared->Prop)(Q':Option (Value×Nat)->Shared->Prop),Q' (some (x,k')) s->wpAny (model prog w) A' (setNext S k i ep) Q' E' s)
  (hQ:∀h',h'.get? it=some (j3 (.int k' 0) (i+1) S es.size ep)->Heap.SameBut it s.heap h'->Q (some x) { s with heap:=h' }):
  wpAny (model prog w) A (pyNext (.ref it)) Q E s:=by
 unfold pyNext;refine wX (wpAny_attempt (wpAny_callSpecial?_slot (name:=Str.ofString "__next__") (dc ho) bi
  (wpAny_call_entry bi (dc ho) dU ?_ (eX _))))
 show wpAny _ _ (fieldsOf (.ref it)>>=_) _ _ s;refine wX (wpAny_fieldsOf ho rfl ?_);show wpAny _ _ (setEntries S>>=_) _ _ s;refine wX (wpAny_setEntries_of hS hd hf ?_);rw[if_neg (by simp)];show wpAny _ _ (setNext S _ _ _>>=_) _ _ s;simp only[Int.toNat_natCast];refine wX (hN _ _ _ ?_);dsimp only;refine wX (wpAny_setField_rec ho (by simp) λh1 e1 b1=>?_);refine wX (wpAny_setField_rec e1 (by simp) λh2 e2 b2=>?_);exact wY ⟨x,rfl,wY (hQ h2 (by simpa [rawInt,j3]using e2) (b1.trans b2))⟩
theorem qU {k:Nat}{Q:Option Value->Shared->Prop}(hh:A.handled=none)(ho:s.heap.get? it=some (j3 (.int k 0) i S es.size ep))
  (hS:s.heap.get? S=some o) (hd:o.data=.set es ep t) (hf:t.fits es.size=true)
  (hN:∀(A':Around)(E':Value->Shared->Prop)(Q':Option (Value×Nat)->Shared->Prop),Q' none s->wpAny (model prog w) A' (setNext S k i ep) Q' E' s)
  (hQ:∀h',Heap.ExtBut it s.heap h'->Q none { s with heap:=h' }):
  wpAny (model prog w) A (pyNext (.ref it)) Q E s:=by
 unfold pyNext;refine wX (wpAny_attempt (wpAny_callSpecial?_slot (name:=Str.ofString "__next__") (dc ho) bi
  (wpAny_call_entry bi (dc ho) dU ?_ (eX _))))
 show wpAny _ _ (fieldsOf (.ref it)>>=_) _ _ s;refine wX (wpAny_fieldsOf ho rfl ?_);show wpAny _ _ (setEntries S>>=_) _ _ s;refine wX (wpAny_setEntries_of hS hd hf ?_);rw[if_neg (by simp)];show wpAny _ _ (setNext S _ _ _>>=_) _ _ s;simp only[Int.toNat_natCast];refine wX (hN _ _ _ ?_);dsimp only;refine wX (wpAny_setField_rec ho (by simp) λh1 e1 b1=>?_);refine wX ?_;simp only[newExc,newTuple];refine wX (wpAny_newObj_type ?_ (by size_fits));refine wX (m:=firstArgMember _ _) (wpAny_of_eq (a:=Value.none) (by first|rfl|(simp only[firstArgMember];rfl)) ?_);refine wpAny_newObj_type ?_ (by size_fits);simp only[raiseNew];refine wX (wpAny_handled ?_);rw[show A.in1.handled=none from hh];refine wX (wY (wpAny_throw ?_));refine wX (wpAny_isInstance (T:="StopIteration") (b:=true) ⟨_,Heap.get?_push_size _ rfl,rfl⟩ isSubtype_stop ?_);exact wY (hQ _ ((b1.extBut.push _).push _))
theorem oG {T:Addr}{pl:List Nat}{p:Nat}{x:Int×Value}{nt:Nat}{Q:Option Value->Shared->Prop}(ho:s.heap.get? it=some (j3 (.ref T) i S es.size ep))
  (hT:s.heap.get? T=some (seqObj "tuple" (pl.map λ(p:Nat)=>Value.int p 0).toArray nt))
  (hS:s.heap.get? S=some o) (hd:o.data=.set es ep t) (hf:t.fits es.size=true) (hp:pl[i]? = some p) (hx:es[p]? = some x)
  (hQ:∀h',h'.get? it=some (j3 (.ref T) (i+1) S es.size ep)->Heap.SameBut it s.heap h'->Q (some x.2) { s with heap:=h' }):
  wpAny (model prog w) A (pyNext (.ref it)) Q E s:=by
 unfold pyNext;refine wX (wpAny_attempt (wpAny_callSpecial?_slot (name:=Str.ofString "__next__") (dc ho) bi
  (wpAny_call_entry bi (dc ho) dU ?_ (eX _))))
 show wpAny _ _ (fieldsOf (.ref it)>>=_) _ _ s;refine wX (wpAny_fieldsOf ho rfl ?_);show wpAny _ _ (setEntries S>>=_) _ _ s;refine wX (wpAny_setEntries_of hS hd hf ?_);rw[if_neg (by simp)];show wpAny _ _ (seqItems? (.ref T)>>=_) _ _ s;refine wX (wpAny_seqItems hT rfl ?_);have e1:(pl.map λ(p:Nat)=>Value.int p 0).toArray[(i:Int).toNat]? = some (.int p 0):=by simp[hp]
 dsimp only;rw[e1];dsimp only;have e2:wpAny (model prog w) A.in1 (setNextDrawn S (p:Int).toNat (ep:Int).toNat) (λy s'=>y=x.2/\s'=s) (λ_ _=>False) s:=by
  unfold setNextDrawn;refine wX (wpAny_setState_of hS hd hf ?_);dsimp only;rw[if_neg (by simp)];simp only[Int.toNat_natCast,hx];exact wY ⟨rfl,rfl⟩
 refine wX (wpAny_mono e2 (λy s' hy=>?_) λ_ _ z=>z.elim);obtain⟨rfl,rfl⟩:=hy;refine wX (wpAny_setField_rec ho (by simp) λh1 e1 b1=>?_);exact wY ⟨_,rfl,wY (hQ h1 (by simpa [rawInt,j3]using e1) b1)⟩
theorem oH {T:Addr}{pl:List Nat}{nt:Nat}{Q:Option Value->Shared->Prop}(hh:A.handled=none)(ho:s.heap.get? it=some (j3 (.ref T) i S es.size ep))
  (hT:s.heap.get? T=some (seqObj "tuple" (pl.map λ(p:Nat)=>Value.int p 0).toArray nt))
  (hS:s.heap.get? S=some o) (hd:o.data=.set es ep t) (hf:t.fits es.size=true) (hp:pl[i]? = none)
  (hQ:∀h',Heap.ExtBut it s.heap h'->Q none { s with heap:=h' }):
  wpAny (model prog w) A (pyNext (.ref it)) Q E s:=by
 unfold pyNext;refine wX (wpAny_attempt (wpAny_callSpecial?_slot (name:=Str.ofString "__next__") (dc ho) bi
  (wpAny_call_entry bi (dc ho) dU ?_ (eX _))))
 show wpAny _ _ (fieldsOf (.ref it)>>=_) _ _ s;refine wX (wpAny_fieldsOf ho rfl ?_);show wpAny _ _ (setEntries S>>=_) _ _ s;refine wX (wpAny_setEntries_of hS hd hf ?_);rw[if_neg (by simp)];show wpAny _ _ (seqItems? (.ref T)>>=_) _ _ s;refine wX (wpAny_seqItems hT rfl ?_);have e1:(pl.map λ(p:Nat)=>Value.int p 0).toArray[(i:Int).toNat]? = none:=by simpa using hp
 dsimp only;rw[e1];dsimp only;refine wX (wpAny_setField_rec ho (by simp) λh0 e0 b0=>?_);refine wX (wpAny_setField_rec e0 (by simp) λh1 e1 b1=>?_);refine wX ?_;simp only[newExc,newTuple];refine wX (wpAny_newObj_type ?_ (by size_fits));refine wX (m:=firstArgMember _ _) (wpAny_of_eq (a:=Value.none) (by first|rfl|(simp only[firstArgMember];rfl)) ?_);refine wpAny_newObj_type ?_ (by size_fits);simp only[raiseNew];refine wX (wpAny_handled ?_);rw[show A.in1.handled=none from hh];refine wX (wY (wpAny_throw ?_));refine wX (wpAny_isInstance (T:="StopIteration") (b:=true) ⟨_,Heap.get?_push_size _ rfl,rfl⟩ isSubtype_stop ?_);exact wY (hQ _ (((b0.trans b1).extBut.push _).push _))
theorem sP {fst:Value}{n:Nat}{Q:Value->Shared->Prop}(ho:s.heap.get? it=some (j3 fst i S n ep))(h:Q (.ref it) s):wpAny (model prog w) A (pyIter (.ref it)) Q E s:=by
 refine wpAny_pyIter_slot (dc ho) jp (wpAny_call_entry jp (dc ho) mO ?_ (oF _));show wpAny _ _ (ret (.ref it)) _ _ s;exact wY ⟨_,rfl,"set_iterator",_,dc ho,bi.lookup,h⟩
end
section
variable {prog:Program}{w:World}{A:Around}{E:Value->Shared->Prop}{s:Shared}{it S:Addr}{i k ep:Nat}{o:Obj}{es:Array (Int×Value)}{t:SetTable}
theorem p0 {Q:Option (Value×Nat)->Shared->Prop}(hS:s.heap.get? S=some o)(hd:o.data=.set es ep t)(hf:t.fits es.size=true)(hb:w.params.followText "set-order" = true)
  (h:Q (((pickOrder (w.params.setOrder S ep) es)[i]?).map λe=>(e.2,k)) s):wpAny (model prog w) A (setNext S k i ep) Q E s:=by
 unfold setNext;refine wX (wpAny_setState_of hS hd hf ?_);dsimp only;unfold setsByText;refine wX (wX (wpAny_askSetting (wY ?_)));show wpAny _ _ (if w.params.followText "set-order" = true then _ else _) _ _ _;rw[if_pos hb,if_neg (by simp)];unfold setWalk setsByText;refine wX (wX (wpAny_setState_of hS hd hf ?_));dsimp only;refine wX (wX (wpAny_askSetting (wY ?_)));show wpAny _ _ (if w.params.followText "set-order" = true then _ else _) _ _ _;rw[if_pos hb];refine wX (wpAny_askSetting (wY ?_));exact wY h
theorem mP {Q:Option (Value×Nat)->Shared->Prop}(hS:s.heap.get? S=some o)(hd:o.data=.set es ep t)(hf:t.fits es.size=true)(hb:w.params.followText "set-order" = false)(hl:t.led=true)(hz:es.size<=1)
  (h:Q (match es[SetTable.below t.place k]?,t.place[SetTable.below t.place k]? with
   |some (_,x),some j=>some (x,j+1)
   |_,_=>none) s):wpAny (model prog w) A (setNext S k i ep) Q E s:=by
 unfold setNext;refine wX (wpAny_setState_of hS hd hf ?_);dsimp only;unfold setsByText;refine wX (wX (wpAny_askSetting (wY ?_)));show wpAny _ _ (if w.params.followText "set-order" = true then _ else _) _ _ _;rw[if_neg (by rw[hb];simp)];show wpAny _ _ (if(!t.plain && decide (es.size > 1))=true then _ else _) _ _ _;rw[if_neg (by rw[decide_eq_false (by omega)];simp)];show wpAny _ _ ((if(!t.led && !es.isEmpty)=true then unsupported "set:maker-not-led" else pure ())>>=_) _ _ _;rw[hl,if_neg (by simp)];refine wX (wY ?_);exact wY h
theorem p4 (hh:A.handled=none)(hd:o.data=.set es ep t)(hf:t.fits es.size=true)(hne:S≠it)(vs:List Value)(hv:vs.length=es.size)(sl:Nat->Nat)
  (hN:∀i x,vs[i]? = some x->∀(A':Around)(E':Value->Shared->Prop)(s:Shared)(Q':Option (Value×Nat)->Shared->Prop),s.heap.get? S=some o->Q' (some (x,sl (i+1))) s->wpAny (model prog w) A' (setNext S (sl i) i ep) Q' E' s)
  (hE:∀(A':Around)(E':Value->Shared->Prop)(s:Shared)(Q':Option (Value×Nat)->Shared->Prop),s.heap.get? S=some o->Q' none s->wpAny (model prog w) A' (setNext S (sl es.size) es.size ep) Q' E' s):
  Walks prog w A it [it,S] [it] es.size (λi v=>vs[i]? = some v) (λi h=>h.get? it=some (j3 (.int (sl i) 0) i S es.size ep)/\h.get? S=some o) where
 sub:=λb hb=>by simp at hb;simp[hb]
 frame:=λ_ _ _ st hk=>⟨hk it (by simp) _ st.1,hk S (by simp) _ st.2⟩
 item:=λi s Q E hi st hQ=>by
  obtain⟨x,hx⟩:∃x,vs[i]? = some x:=⟨_,List.getElem?_eq_getElem (by omega)⟩;refine qT st.1 st.2 hd hf (λA' E' Q' q=>hN i x hx A' E' s Q' st.2 q) λh' h1 h2=>?_;exact hQ x h' s.toks hx ⟨h1,h2.extBut S _ hne st.2⟩ λb u hb e=>h2.extBut b u (λz=>hb (by simp[z])) e
 done:=λs Q E st hQ=>qU hh st.1 st.2 hd hf (λA' E' Q' q=>hE A' E' s Q' st.2 q) λh' h1=>hQ h' s.toks λb u hb e=>h1 b u (λz=>hb (by simp[z])) e
 self:=λ_ _ _ _ st hQ=>sP st.1 hQ
theorem uY {T:Addr}{pl:List Nat}{nt:Nat}(hh:A.handled=none)(hd:o.data=.set es ep t)(hf:t.fits es.size=true)(hne:S≠it)(hnT:T≠it)(hp:pl.Perm (List.range es.size)):
  Walks prog w A it [it,S,T] [it] es.size (λi v=>(pl.map λp=>(es.getD p (0,.none)).2)[i]? = some v)
   (λi h=>h.get? it=some (j3 (.ref T) i S es.size ep)/\h.get? S=some o/\h.get? T=some (seqObj "tuple" (pl.map λ(p:Nat)=>Value.int p 0).toArray nt)) where
 sub:=λb hb=>by simp at hb;simp[hb]
 frame:=λ_ _ _ st hk=>⟨hk it (by simp) _ st.1,hk S (by simp) _ st.2.1,hk T (by simp) _ st.2.2⟩
 item:=λi s Q E hi st hQ=>by
  have hlen:pl.length=es.size:=by rw[hp.length_eq,List.length_range]
  obtain⟨p,hx⟩:∃p,pl[i]? = some p:=⟨_,List.getElem?_eq_getElem (by omega)⟩;have hpm:p<es.size:=List.mem_range.mp (hp.mem_iff.mp (List.mem_of_getElem? hx));have he:es[p]? = some (es.getD p (0,.none)):=by rw[Array.getD_eq_getD_getElem?,Array.getElem?_eq_getElem hpm];rfl
  refine oG st.1 st.2.2 st.2.1 hd hf hx he λh' h1 h2=>?_;exact hQ _ h' s.toks (by simp[hx]) ⟨h1,h2.extBut S _ hne st.2.1,h2.extBut T _ hnT st.2.2⟩ λb u hb e=>h2.extBut b u (λz=>hb (by simp[z])) e
 done:=λs Q E st hQ=>by
  have hlen:pl.length=es.size:=by rw[hp.length_eq,List.length_range]
  exact oH hh st.1 st.2.2 st.2.1 hd hf (List.getElem?_eq_none (by omega)) λh' h1=>hQ h' s.toks λb u hb e=>h1 b u (λz=>hb (by simp[z])) e
 self:=λ_ _ _ _ st hQ=>sP st.1 hQ
end
theorem uZ {α:Type}(es:Array α)(d:α):(List.range es.size).map (λp=>es.getD p d)=es.toList:=by
 apply List.ext_getElem?;intro i;by_cases h:i<es.size
 ·simp[h,Array.getD_eq_getD_getElem?]
 ·simp[h]
section
variable {prog:Program}{w:World}{A:Around}{E:Value->Shared->Prop}{s:Shared}
theorem p5 {xs:Array Nat}{j k:Nat}(h:xs=#[j]):SetTable.below xs k=if j<k then 1 else 0:=by
 subst h;by_cases h:j<k
 ·simp[SetTable.below,SetTable.below.go,h]
 ·simp[SetTable.below,SetTable.below.go,h]
theorem zC {S:Addr}{ts:List Str}{Q:Value->Shared->Prop}(hS:gt prog w s.heap S ts)
  (hQ:∀(h':Heap)(d:Drawn)(it:Addr)(vs:List Value)(fp:List Addr)(St:Nat->Heap->Prop),(∀A',A'.handled=none->Walks prog w A' it fp [it] ts.length (λi v=>vs[i]? = some v) St)->St 0 h' ->
   (∀b u,s.heap.get? b=some u->h'.get? b=some u)->s.heap.objs.size<=it->(∀b∈fp,b=S∨s.heap.objs.size<=b)->vs.length=ts.length->(vs.map strOf).Perm ts->(∀v∈vs,∃x t,v=.str x t) ->
   Q (.ref it) { s with heap:=h',drawn:=d }):wpAny (model prog w) A (pyIter (.ref S)) Q E s:=by
 obtain⟨o,es,ep,t,ho,hex,hd,hel,hp,nd,hb,hf,hled,hpl⟩:=hS;have sz:es.size=ts.length:=by rw[←hp.length_eq,List.length_map,Array.length_toList]
 have hSlt:S<s.heap.objs.size:=Heap.lt_size ho;have hTy:s.TypeIs (.ref S) "set":=⟨_,ho,hex.1⟩;have hstrs:∀e∈es.toList,∃x t,e.2=.str x t:=λe he=>by
  obtain⟨⟨k,hk,_⟩,_⟩:=hel e he;obtain⟨t,q⟩:=Value.isStrOf_shape (show Value.isStrOf k e.2=true from hk);exact⟨k,t,q⟩
 refine wpAny_pyIter_slot hTy PySem.F.slot_set_iter (wpAny_call_entry PySem.F.slot_set_iter hTy ma ?_ (PySem.F.args_set_iter_1 _));show wpAny _ _ (Builtin.Frozenset.sizeOf S>>=_) _ _ s;unfold Builtin.Frozenset.sizeOf;refine wX (wX (wpAny_setEntries_of ho hd hf (wY ?_)));unfold setDrawn setsByText;refine wX (wX (wpAny_setState_of ho hd hf ?_));dsimp only;refine wX (wX (wpAny_askSetting (wY (wY ?_))));show wpAny _ _ (if(!w.params.followText "set-order" && (!t.plain && decide (es.size > 1)))=true then _ else _) _ _ _;have hmap:(es.toList.map (·.2)).map strOf=es.toList.map (λe=>strOf e.2):=by rw[List.map_map];rfl
 by_cases hbt:w.params.followText "set-order" = true
 ·rw[if_neg (by rw[hbt];simp)];refine wX (wY ?_);refine wX (wpAny_setEpoch_of ho hd hf ?_);have pp:=yg (w.params.setOrder S ep) es;have hlen:((pickOrder (w.params.setOrder S ep) es).toList.map (·.2)).length=es.size:=by rw[List.length_map,pp.length_eq,Array.length_toList]
  refine wX (wpAny_newObj_type (wY ⟨_,rfl,"set_iterator",_,⟨_,Heap.get?_push_size _ rfl,rfl⟩,bi.lookup,?_⟩));refine hQ _ s.drawn s.heap.objs.size ((pickOrder (w.params.setOrder S ep) es).toList.map (·.2)) [s.heap.objs.size,S] (λi h=>h.get? s.heap.objs.size=some (j3 (.int ((λ_=>0:Nat->Nat) i:Nat) 0) i S es.size ep)/\h.get? S=some o) (λA' hA=>?_) ?_ (λb u e=>Heap.get?_push_of_some _ e) (Nat.le_refl _) (λb hb=>?_) (hlen.trans sz) ?_ ?_
  ·rw[←sz];exact p4 hA hd hf (Nat.ne_of_lt hSlt) _ hlen (λ_=>0) (λi x hx A' E' s Q' h1 h2=>p0 h1 hd hf hbt (by
    rw[List.getElem?_map,Array.getElem?_toList]at hx;obtain⟨e,he,rfl⟩:=oY hx;rw[he];exact h2)) (λA' E' s Q' h1 h2=>p0 h1 hd hf hbt (by
    rw[Array.getElem?_eq_none (by rw[←Array.length_toList,pp.length_eq,Array.length_toList];exact Nat.le_refl _)];exact h2))
  ·exact⟨Heap.get?_push_size _ rfl,Heap.get?_push_of_some _ ho⟩
  ·simp only[List.mem_cons,List.not_mem_nil,or_false]at hb;rcases hb with rfl|rfl
   ·exact .inr (Nat.le_refl _)
   ·exact .inl rfl
  ·refine List.Perm.trans ?_ hp;rw[←hmap];exact(pp.map _).map _
  ·intro v hv;obtain⟨e,he,rfl⟩:=List.mem_map.mp hv;exact hstrs e (pp.mem_iff.mp he)
 ·rw[Bool.not_eq_true]at hbt;have hl:t.led=true:=by rw[hled,hbt];rfl
  by_cases h1:es.size<=1
  ·rw[if_neg (by rw[decide_eq_false (by omega)];simp)];refine wX (wY ?_);refine wX (wpAny_setEpoch_of ho hd hf ?_);refine wX (wpAny_newObj_type (wY ⟨_,rfl,"set_iterator",_,⟨_,Heap.get?_push_size _ rfl,rfl⟩,bi.lookup,?_⟩));have hpz:t.place.size=es.size:=by
    simp only[SetTable.fits,Bool.and_eq_true,beq_iff_eq,decide_eq_true_eq]at hf;exact hf.1
   refine hQ _ s.drawn s.heap.objs.size (es.toList.map (·.2)) [s.heap.objs.size,S] (λi h=>h.get? s.heap.objs.size=some (j3 (.int ((λi=>if i=0 then 0 else t.place.getD 0 0+1:Nat->Nat) i:Nat) 0) i S es.size ep)/\h.get? S=some o) (λA' hA=>?_) ?_ (λb u e=>Heap.get?_push_of_some _ e) (Nat.le_refl _) (λb hb=>?_) (by rw[List.length_map,Array.length_toList,sz]) (by rw[hmap];exact hp) ?_
   ·rw[←sz];refine p4 hA hd hf (Nat.ne_of_lt hSlt) _ (by simp) (λi=>if i=0 then 0 else t.place.getD 0 0+1) (λi x hx A' E' s Q' q1 q2=>mP q1 hd hf hbt hl h1 ?_) (λA' E' s Q' q1 q2=>mP q1 hd hf hbt hl h1 ?_)
    ·have hi:i<es.size:=by have:=(List.getElem?_eq_some_iff.mp hx).1;simpa using this
     have hi0:i=0:=by omega
     subst hi0;obtain⟨j,hj⟩:∃j,t.place=#[j]:=Array.size_eq_one_iff.mp (by omega);rw[if_pos rfl,p5 hj,if_neg (by omega)];rw[List.getElem?_map,Array.getElem?_toList]at hx;obtain⟨e,he,rfl⟩:=oY hx;rw[he];simp only[hj]at q2 ⊢;simpa using q2
    ·by_cases h0:es.size=0
     ·have hp0:t.place=#[]:=Array.eq_empty_of_size_eq_zero (by omega);have he0:es=#[]:=Array.eq_empty_of_size_eq_zero h0;rw[hp0,he0];simpa using q2
     ·obtain⟨j,hj⟩:∃j,t.place=#[j]:=Array.size_eq_one_iff.mp (by omega);rw[if_neg h0,p5 hj];have:t.place.getD 0 0=j:=by rw[hj];rfl
      rw[this,if_pos (by omega),Array.getElem?_eq_none (by omega)];exact q2
   ·exact⟨Heap.get?_push_size _ rfl,Heap.get?_push_of_some _ ho⟩
   ·simp only[List.mem_cons,List.not_mem_nil,or_false]at hb;rcases hb with rfl|rfl
    ·exact .inr (Nat.le_refl _)
    ·exact .inl rfl
   ·intro v hv;obtain⟨e,he,rfl⟩:=List.mem_map.mp hv;exact hstrs e he
  ·have hp0:t.plain=false:=hpl (by omega);rw[if_pos (by rw[hbt,hp0,decide_eq_true (by omega)];rfl)];refine wX (w4 es.size (List.range es.size) _ _ (by simp) λpl d pp=>?_);refine wX (wpAny_newTuple ?_ (by rw[List.length_map,pp.length_eq,List.length_range,sz];exact fits_of_scanBound hb));refine wX (wpAny_setEpoch_of (Heap.get?_push_of_some _ ho) hd hf ?_);refine wX (wpAny_newObj_type (wY ⟨_,rfl,"set_iterator",_,⟨_,Heap.get?_push_size _ rfl,rfl⟩,bi.lookup,?_⟩));have hsz:(s.heap.push (seqObj "tuple" (pl.map λ(p:Nat)=>Value.int p 0).toArray 0)).objs.size=s.heap.objs.size+1:=size_push' _ _;have hperm:((pl.map λp=>(es.getD p (0,.none)).2)).Perm (es.toList.map (·.2)):=by
    have:=(pp.map λp=>es.getD p (0,Value.none)).map (·.2);rw[uZ]at this;rw[List.map_map]at this;exact this
   refine hQ _ d _ (pl.map λp=>(es.getD p (0,.none)).2) [(s.heap.push (seqObj "tuple" (pl.map λ(p:Nat)=>Value.int p 0).toArray 0)).objs.size,S,s.heap.objs.size] (λi h=>h.get? (s.heap.push (seqObj "tuple" (pl.map λ(p:Nat)=>Value.int p 0).toArray 0)).objs.size=some (j3 (.ref s.heap.objs.size) i S es.size ep)/\h.get? S=some o/\h.get? s.heap.objs.size=some (seqObj "tuple" (pl.map λ(p:Nat)=>Value.int p 0).toArray 0)) (λA' hA=>?_) ?_ (λb u e=>Heap.get?_push_of_some _ (Heap.get?_push_of_some _ e)) ?_ (λb hb=>?_) ?_ ?_ ?_
   ·rw[←sz];exact uY (nt:=0) hA hd hf (by show S≠(s.heap.push _).objs.size;rw[size_push'];exact Nat.ne_of_lt (Nat.lt_succ_of_lt hSlt)) (by show s.heap.objs.size≠(s.heap.push _).objs.size;rw[size_push'];exact Nat.ne_of_lt (Nat.lt_succ_self _)) pp
   ·exact⟨Heap.get?_push_size _ rfl,Heap.get?_push_of_some _ (Heap.get?_push_of_some _ ho),Heap.get?_push_of_some _ (Heap.get?_push_size _ rfl)⟩
   ·show s.heap.objs.size<=(s.heap.push _).objs.size;rw[size_push'];omega
   ·simp only[List.mem_cons,List.not_mem_nil,or_false]at hb;rcases hb with rfl|rfl|rfl
    ·refine .inr ?_;show s.heap.objs.size<=(s.heap.push _).objs.size;rw[size_push'];omega
    ·exact .inl rfl
    ·exact .inr (Nat.le_refl _)
   ·rw[hperm.length_eq,List.length_map,Array.length_toList,sz]
   ·exact((hperm.map strOf).trans (by rw[hmap])).trans hp
   ·intro v hv;obtain⟨e,he,rfl⟩:=List.mem_map.mp (hperm.mem_iff.mp hv);exact hstrs e he
end
theorem yh {vs:List Value}{acc:Array Value}(h:ItemsOf (λi v=>vs[i]? = some v) acc vs.length):acc.toList=vs:=by
 apply List.ext_getElem?;intro i;by_cases hi:i<acc.size
 ·have e:acc[i]? = some acc[i]:=Array.getElem?_eq_getElem hi;rw[Array.getElem?_toList,e,h.2 i _ e]
 ·rw[List.getElem?_eq_none (by rw[Array.length_toList];omega),List.getElem?_eq_none (by rw[←h.1];omega)]
section
variable {prog:Program}{w:World}{A:Around}{E:Value->Shared->Prop}{s:Shared}
theorem sQ {S:Addr}{ts:List Str}{Q:List Value->Shared->Prop}(hh:A.handled=none)(hS:gt prog w s.heap S ts)
  (hQ:∀s' vs,(∀b u,s.heap.get? b=some u->s'.heap.get? b=some u)->s'.gens=s.gens->s'.os=s.os->vs.length=ts.length->(vs.map strOf).Perm ts->(∀v∈vs,∃x t,v=.str x t)->Q vs s'):
  wpAny (model prog w) A (collect (.ref S)) Q E s:=by
 have hty:∀(s1:Shared),gt prog w s1.heap S ts->s1.TypeIs (.ref S) "set":=λs1 h=>by
  obtain⟨o,_,_,_,ho,hex,_⟩:=h;exact⟨o,ho,hex.1⟩
 have hlt:S<s.heap.objs.size:=by obtain⟨o,_,_,_,ho,_⟩:=hS;exact Heap.lt_size ho
 have hscan:ts.length<scanBound:=by obtain⟨_,_,_,_,_,_,_,_,_,_,h,_⟩:=hS;exact h
 unfold collect;refine wX (wpAny_runValue (codeAny_builtin PySem.F.entry_proto_collect ?_));rw[Around.under_plainId PySem.F.plain_proto_collect _];show wpAny _ A.in1 (newList []>>=λl=>again (.builtin "list.__iadd__" ⟨[l,.ref S],[]⟩)) _ _ s;refine wX (wpAny_newObj_type ?_);refine wY ⟨plainId_quiet PySem.F.plain_list_iadd _,codeAny_builtin PySem.F.entry_list_iadd ?_⟩;rw[Around.under_plainId PySem.F.plain_list_iadd _];show wpAny _ A.in1 (Builtin.List.listExtendWith (.ref s.heap.objs.size) (.ref S) (.ref s.heap.objs.size)) _ _ _;unfold Builtin.List.listExtendWith;have hS1:gt prog w (s.heap.push { cls:=.type "list",data:=.seq ([]:List Value).toArray }) S ts:=hS.at λo e=>Heap.get?_push_of_some _ e;refine wX (wpAny_typeOf (hty _ hS1) ?_);have hSI:s.heap.objs.size≠S:=Nat.ne_of_gt hlt;have h1:Builtin.List.listSameRef (.ref s.heap.objs.size) (.ref S)=false:=by simp[Builtin.List.listSameRef,hSI]
 have h2:(Value.type "set" == Value.type "list")=false:=by decide
 have h3:(Value.type "set" == Value.type "tuple")=false:=by decide
 simp only[h1,h2,h3,Bool.or_false,Bool.false_eq_true,if_false];refine wX (zC (s:={ s with heap:=s.heap.push { cls:=.type "list",data:=.seq ([]:List Value).toArray } }) hS1 λh' d it vs fp St W hst hk hit hfp hvl hperm hstr=>?_);have hS2:gt prog w h' S ts:=hS1.at λo e=>hk _ _ e;refine wX (wpAny_holding ?_);unfold Builtin.List.listLengthHint;refine wX (wpAny_specialOf (hty _ hS2) PySem.F.slot_set_len.lookup ?_);wp_delta;refine wX (wpAny_isInstance (hty _ hS2) sub_set_self ?_);show wpAny _ A.in1 (typeOf (Value.ref S)>>=_) _ _ _;refine wX (wpAny_typeOf (hty _ hS2) ?_);refine wY ?_;rw[if_pos (by decide)];refine wX (wpAny_rule ?_);refine wX ?_;have hsz0:(s.heap.push { cls:=.type "list",data:=.seq ([]:List Value).toArray }).objs.size=s.heap.objs.size+1:=size_push' _ _;have hL1:h'.get? s.heap.objs.size=some { cls:=.type "list",data:=.seq ([]:List Value).toArray }:=hk _ _ (Heap.get?_push_size _ rfl);show wpAny _ A.in1 (updateSeq s.heap.objs.size (·.push .none)>>=λ_=>updateSeq s.heap.objs.size (·.pop)) _ _ _;refine wX (wpAny_updateSeq hL1 rfl ?_);have hL2:=Heap.get?_update_self (Obj.mapSeq (·.push Value.none)) hL1 rfl;refine wpAny_updateSeq hL2 rfl ?_;have hL3:=Heap.get?_update_self (Obj.mapSeq (·.pop)) hL2 rfl;have hSf:s.heap.objs.size∉fp:=λhm=>by
  rcases hfp _ hm with z|z
  ·exact hSI z
  ·rw[hsz0]at z;exact absurd z (Nat.not_succ_le_self _)
 have oth:∀b u,b≠s.heap.objs.size->h'.get? b=some u ->
   ((h'.update s.heap.objs.size (Obj.mapSeq (·.push Value.none))).update s.heap.objs.size (Obj.mapSeq (·.pop))).get? b=some u :=
  λb u hb e=>(Heap.get?_update_other _ _ (Ne.symm hb)).trans ((Heap.get?_update_other _ _ (Ne.symm hb)).trans e)
 have W0:=W A.in1 hh;refine wY ⟨plainId_quiet PySem.F.plain_extend_loop _,codeAny_extend_loopS W0.toS (fits_of_scanBound hscan) _ hSf _ ts.length 0 _ _ _ rfl (Nat.zero_le _)
  (W0.frame 0 _ _ hst λb hb u e=>oth b u (λz=>hSf (z ▸ hb)) e) hL3 (ItemsOf.nil _) λs' acc' c' hm hL' hacc=>?_⟩
 show wpAny _ A (load s.heap.objs.size>>=_) _ _ s';refine wX (wpAny_load hL' ?_);rw[←hvl]at hacc;refine wY ?_;show Q acc'.toList s';rw[yh hacc];refine hQ s' vs (λb u e=>hm.heap b u (λhb=>?_) (oth b u (Nat.ne_of_lt (Heap.lt_size e)) (hk _ _ (Heap.get?_push_of_some _ e)))) hm.gens hm.os hvl hperm hstr;have hl:=Heap.lt_size e;simp only[List.mem_cons,List.not_mem_nil,or_false]at hb;rcases hb with rfl|rfl
 ·exact absurd hl (Nat.lt_irrefl _)
 ·rw[hsz0]at hit;exact absurd (Nat.lt_of_lt_of_le hl (Nat.le_of_succ_le hit)) (Nat.lt_irrefl _)
theorem vc {S:Addr}{ts:List Str}{Q:Value->Shared->Prop}(hh:A.handled=none)(hS:gt prog w s.heap S ts)(h64:ts.length<64)
  (hQ:∀(s1:Shared)(h':Heap)(a:Addr)(out:Array Value)(n:Nat)(ss':List Str),(∀b u,s.heap.get? b=some u->s1.heap.get? b=some u)->s1.os=s.os->s1.gens=s.gens->(∀b u,s1.heap.get? b=some u->h'.get? b=some u)->s1.heap.objs.size<=a->h'.get? a=some (seqObj "list" out n) ->
   StrsAre out.toList ss'->ss'.Perm ts->sortedS ss'=true->Q (.ref a) { s1 with heap:=h' }):
  wpAny (model prog w) A (call (.builtin "sorted") [.ref S]) Q E s:=by
 refine Calls.call_function_entry kind_sorted plain_sorted entry_sorted (args_sorted1 _) ?_;unfold Builtin.«sorted»;refine wX (m:=checkCount "sorted" 1 1 _) (wY ?_);refine wX (sQ (A:=A.in1) (by exact hh) hS λs1 vs hk hg hos hvl hperm hstr=>?_);have hst:StrsAre vs (vs.map strOf):=strsAre_map vs hstr;refine wX (wpAny_newList ?_ (by rw[hvl,sizeLine_eq];omega));have hoL:(s1.heap.push (seqObj "list" vs.toArray 0)).get? s1.heap.objs.size=some (seqObj "list" vs.toArray 0):=Heap.get?_push_size _ rfl;show wpAny _ _ _ _ _ { s1 with heap:=s1.heap.push (seqObj "list" vs.toArray 0) };refine wX (wpAny_holding (wpAny_call_entry slot_list_sort ⟨_,hoL,rfl⟩ entry_list_sort (list_sort_treeK strKind_oneLt hoL hst.keysOf (λv₁ v₂ aC e=>keyKind_strs (by rw[←e];exact hst)) (by rw[hvl];exact h64) λst' a1 a2=>⟨_,rfl,?_⟩) (args_list_sort _)));obtain⟨ss',b1,b2,b3⟩:=sorted_out_str hst a1 a2;obtain⟨e,he⟩:=sortedHeap_at (out:=(arrOf st').map (·.2)) hoL;refine wY ⟨_,rfl,hQ s1 _ _ _ e ss' hk hos hg (λb u q=>?_) (Nat.le_refl _) he b1 (b2.trans hperm) b3⟩;have hl:=Heap.lt_size q;rw[sortedHeap_old (Nat.ne_of_lt hl) (by rw[size_push'];exact Nat.lt_succ_of_lt hl)];exact Heap.get?_push_of_some _ q
end
end DL
namespace DL
open PySem PySem.Spec PyProof.Rows L2
noncomputable def leT (a b:Str):Prop:=¬b.cps.toList<a.cps.toList
theorem wA {a b:Str}:ltCps b.cps.toList a.cps.toList=false↔leT a b:=by rw[ltCps_eq,decide_eq_false_iff_not];rfl
theorem p6 {a b c:Str}(h:leT a b)(k:leT b c):leT a c:=by
 unfold leT at *;exact List.not_lt.mpr (List.le_trans (List.not_lt.mp h) (List.not_lt.mp k))
theorem zD {a b:Str}(h:leT a b)(k:leT b a):a=b:=by
 have e:a.cps.toList=b.cps.toList:=List.le_antisymm (List.not_lt.mp h) (List.not_lt.mp k);obtain⟨a⟩:=a;obtain⟨b⟩:=b;have:a=b:=Array.toList_inj.mp e;rw[this]
noncomputable def ve (x:Str):List Str->List Str
 |[]=>[x]
 |y::r=>if ltCps y.cps.toList x.cps.toList then y::ve x r else x::y::r
noncomputable def iN (l:List Str):List Str:=l.foldr ve []
theorem kZ (x:Str):∀l,(ve x l).Perm (x::l)
 |[]=>List.Perm.refl _
 |y::r=>by
  unfold ve;split
  ·exact((kZ x r).cons y).trans (List.Perm.swap x y r)
  ·exact List.Perm.refl _
theorem bX:∀l,(iN l).Perm l
 |[]=>List.Perm.refl _
 |x::l=>(kZ x (iN l)).trans ((bX l).cons x)
theorem p7 (x:Str):∀l,l.Pairwise leT->(ve x l).Pairwise leT
 |[],_=>by simp[ve]
 |y::r,h=>by
  obtain⟨h1,h2⟩:=List.pairwise_cons.mp h;unfold ve;split
  ·rename_i hl;refine List.pairwise_cons.mpr ⟨λz hz=>?_,p7 x r h2⟩;rcases List.mem_cons.mp ((kZ x r).mem_iff.mp hz)with rfl|hz
   ·rw[ltCps_eq,decide_eq_true_eq]at hl;exact λk=>List.lt_irrefl _ (List.lt_trans hl k)
   ·exact h1 z hz
  ·rename_i hl;rw[Bool.not_eq_true]at hl;have hxy:leT x y:=wA.mp hl;refine List.pairwise_cons.mpr ⟨λz hz=>?_,h⟩;rcases List.mem_cons.mp hz with rfl|hz
   ·exact hxy
   ·exact p6 hxy (h1 z hz)
theorem mQ:∀l,(iN l).Pairwise leT
 |[]=>List.Pairwise.nil
 |x::l=>p7 x _ (mQ l)
theorem lG:∀(l:List Str)(p:Str),risingS p l=true->(p::l).Pairwise leT
 |[],p,_=>List.pairwise_singleton _ _
 |x::r,p,h=>by
  have h':(!ltCps x.cps.toList p.cps.toList && risingS x r)=true:=h;rw[Bool.and_eq_true]at h';have hpx:leT p x:=wA.mp (by simpa using h'.1);have ih:=lG r x h'.2;refine List.pairwise_cons.mpr ⟨λz hz=>?_,ih⟩;rcases List.mem_cons.mp hz with rfl|hz
  ·exact hpx
  ·exact p6 hpx ((List.pairwise_cons.mp ih).1 z hz)
theorem sR:∀(l:List Str),sortedS l=true->l.Pairwise leT
 |[],_=>List.Pairwise.nil
 |x::r,h=>lG r x h
theorem sS (a:Str):leT a a:=List.lt_irrefl _
theorem mR:∀(l1 l2:List Str),l1.Perm l2->l1.Pairwise leT->l2.Pairwise leT->l1=l2
 |[],l2,p,_,_=>(List.nil_perm.mp p).symm
 |x::r1,[],p,_,_=>absurd p.length_eq (by simp)
 |x::r1,y::r2,p,h1,h2=>by
  have hxy:leT x y:=by
   rcases List.mem_cons.mp (p.mem_iff.mpr (mX ..))with z|z
   ·rw[z];exact sS _
   ·exact(List.pairwise_cons.mp h1).1 y z
  have hyx:leT y x:=by
   rcases List.mem_cons.mp (p.mem_iff.mp (mX ..))with z|z
   ·rw[z];exact sS _
   ·exact(List.pairwise_cons.mp h2).1 x z
  have e:=zD hxy hyx;subst e;rw[mR r1 r2 (List.Perm.cons_inv p) (List.pairwise_cons.mp h1).2 (List.pairwise_cons.mp h2).2]
theorem p8 {l l':List Str}(p:l'.Perm l)(h:sortedS l'=true):l'=iN l:=mR _ _ (p.trans (bX l).symm) (sR _ h) (mQ l)
section
variable {X:Cx}
noncomputable def zE (X:Cx)(S:Addr)(ts:List Str):HO:=.ext λh=>gt X.prog X.w h S ts
theorem yi {pins:List (Addr×Obj)}{σ:St}{H:Hp}{s s1:Shared}(I:Inv X pins σ H s)(k:∀b u,s.heap.get? b=some u->s1.heap.get? b=some u)(ho:s1.os=s.os)(hg:s1.gens=s.gens):Inv X pins σ H s1:=by
 have I1:=I.step (g':=s.gens) (d':=s1.drawn) (t':=s1.toks) (h':=s1.heap) (H':=H) (ch:=[]) (λ_ z=>nomatch z) (λb o _ _ _ e _=>k b o e) (λb o _ _ _ e _=>⟨o.slots,k b o e⟩) (λ_ _ _ _ n=>n)
  (λb o _ e=>⟨o,k b o e⟩) (λ_ _ e=>e) (λ_ _ _ e=>e) (λ_ _ e=>e) (λm hm=>?_) (I.hok.kept k) I.bare
 ·obtain⟨h1,g1,d1,t1,o1⟩:=s1;cases ho;cases hg
  exact I1
 ·obtain⟨o,es,ep,ho,r⟩:=hm;exact⟨o,es,ep,k _ o ho,r⟩
theorem sT (hc:X.calm=true):bO X (.type "set") (λxs H Q=>∃p ys ss,xs=[.ref p]/\SqL X.K H p ys/\(∀its,aQ ys its->StrsAre its ss)/\ss.length<4000/\∀S,H S=none->Q (.ref S) (upd H S (zE X S (ge ss)))):=by
 intro pins s σ H xs us Q I r h;obtain⟨p,ys,ss,rfl,hq,hs,h64,q⟩:=h;obtain⟨u,rfl,rx⟩:=gv r;cases rx
 obtain⟨its,r',pl,hz⟩:=I.list hq;have hst:=hs its r';have hlen:its.length=ss.length:=by rw[←hst.strs,List.length_map]
 refine mN (I.ok.hd hc) pl.isList (by simpa using hst) (by simp only[List.size_toArray];unfold scanBound;omega) λh' tk hS hk=>?_;refine⟨.ref s.heap.objs.size,_,I.laid (t':=tk) (λb u e=>hk b u (Heap.lt_size e) e) (Nat.le_refl _) ?_,rfl,q _ (I.hok.fresh (Nat.le_refl _))⟩;refine⟨hS,?_,λh1 h2 z k=>z.at k⟩;obtain⟨o,_,_,_,ho,_⟩:=hS;exact⟨o,ho⟩
theorem md (hc:X.calm=true):bO X (.builtin "sorted") (λxs H Q=>∃S ts,xs=[.ref S]/\H S=some (zE X S ts)/\ts.length<64/\∀l,H l=none->Q (.ref l) (upd H l (.lst ((iN ts).map .str)))):=by
 intro pins s σ H xs us Q I r h;obtain⟨S,ts,rfl,hS,h64,q⟩:=h;obtain⟨u,rfl,rx⟩:=gv r;cases rx
 have hT:gt X.prog X.w s.heap S ts:=(I.hok S _ hS).1;refine vc (I.ok.hd hc) hT h64 λs1 h' a out n ss' k1 ho hg k2 hp he hst hperm hso=>?_;have e:=p8 hperm hso;subst e;have I1:=yi I k1 ho hg;have hv:∀ {its:List Value}{zs:List Str},StrsAre its zs->aQ (zs.map V.str) its:=λz=>by
  induction z with
  |nil=>exact .nil
  |cons x t _ ih=>exact .cons ⟨t,rfl⟩ ih
 refine⟨.ref a,_,I1.laid (t':=s1.toks) k2 hp (show bA X.prog X.w _ h' _ (.lst _)from ⟨?_,out.toList,n,hv hst,he⟩),rfl,q _ (I1.hok.fresh hp)⟩;rw[List.length_map,(bX ts).length_eq,sizeLine_eq];omega
end
@[simp] noncomputable def ft:D->Option (D×Bool)
 |.lst ds=>(fE ds).bind λss=>if ss.length<64 then some (.lst ((iN (ge ss)).map .str),true)else none
 |_=>none
@[simp] noncomputable def Gk:D->Option (D×Bool)
 |.lst ds=>(fE ds).bind λss=>if ss.length<4000 then some (.int ((ge ss).length:Nat),false)else none
 |_=>none
theorem jY:bootBuiltins "sorted" = some (.builtin "sorted"):=by decide +kernel
theorem FQ:bootBuiltins "set" = some (.type "set"):=by decide +kernel
theorem jZ {K:PySem.W.Frag}{N:Hp}:∀(zs:List Str),IsL K N (zs.map V.str) (zs.map D.str)
 |[]=>.nil
 |z::zs=>.cons (.str z) (jZ zs)
section
variable {X:Cx}{e:Expr}{pos pos2 p p2:Pos}
theorem mS {f:FE}(hc:X.calm=true)(m1:X.mg "sorted" = none)(m2:X.mg "set" = none)(he:JE X e f)(g1:Gl X "sorted":=by rfl)(g2:Gl X "set":=by rfl)
  (h1:starEach [e] X.env=(false,eval e X.env)::starEach [] X.env:=by rfl):JE X (.Call (.Name "sorted" p) [.Call (.Name "set" p2) [e] [] pos2] [] pos) (f1 ft f):=by
 refine PE.to (rR (md hc) g1 m1 jY (gT (pb (sT hc) g2 m2 FQ (gT he jt h1) (he:=h1)) jt)) λσ H Q q=>?_;obtain⟨B,ρ,d',bb,sB,r,ee,q⟩:=q;obtain⟨x1,ex,ee⟩:=oX ee;refine⟨B,ρ,x1.1,x1.2,sB,r,ex,λv H1 N1 xt i1 fr=>?_⟩;obtain⟨xd,xb⟩:=x1;cases i1<;>try (simp[ft]at ee;done)
 rename_i l0 vs ds h hl;simp only[ft]at ee;obtain⟨ss,ez,ee⟩:=oX ee;split at ee
 ·rename_i h64;cases ee
  refine⟨_,_,ss,rfl,xt.nh.seq h,λits r'=>jV r' hl ez,by omega,λS hS=>⟨S,_,rfl,a0,Nat.lt_of_le_of_lt (mM ss) h64,λl hl'=>?_⟩⟩;have x2:=Ext.laid (o:=zE X S (ge ss)) xt.nh hS;have x3:=Ext.laid (o:=.lst ((iN (ge ss)).map V.str)) x2.nh hl';have hl0:H l=none:=((xt.trans x2).hh).free hl';exact q _ _ _ ((xt.trans x2).trans x3) (.lst (SqL.of a0) (jZ _)) λ_=>⟨_,_,_,rfl,rfl,hl0,a0,jZ _⟩
 ·cases ee
end
end DL
namespace DL
open PySem PySem.Spec PySem.W PyProof.Rows
inductive Run (n:Nat)(lt:Nat->Nat->Bool){α:Type}:KasT α->α->Prop where
 |ret (a:α):Run n lt (.ret a) a
 |ask {i j:Nat}{k:Bool->KasT α}{a:α}(hi:i<n) (hj:j<n) (h:Run n lt (k (lt i j)) a):Run n lt (.ask i j k) a
theorem Run.bind {n:Nat}{lt:Nat->Nat->Bool}{α β:Type}{t:KasT α}{f:α->KasT β}{a:α}{b:β}(h:Run n lt t a)(k:Run n lt (f a) b):Run n lt (t.bind f) b:=by
 induction h with
 |ret a=>exact k
 |ask hi hj _ ih=>exact .ask hi hj (ih k)
theorem Run.wp {n:Nat}{lt:Nat->Nat->Bool}{α:Type}{cmp:Nat->Nat->(Bool->Shared->Prop)->Shared->Prop}{Q:α->Shared->Prop}{t:KasT α}{a:α}(J:Shared->Prop)
  (hc:∀i j C s,i<n->j<n->J s->(∀s',J s'->C (lt i j) s')->cmp i j C s) (h:Run n lt t a):∀ {s:Shared},J s->(∀s',J s'->Q a s')->t.kasWp cmp Q s:=by
 induction h with
 |ret a=>intro s hJ hQ;exact hQ s hJ
 |ask hi hj _ ih=>intro s hJ hQ;exact hc _ _ _ _ hi hj hJ λs' hJ'=>ih hJ' hQ
section
variable {n:Nat}{rk:Nat->Int}
noncomputable abbrev ltR (rk:Nat->Int)(i j:Nat):Bool:=decide (rk i<rk j)
noncomputable def bR (rk:Nat->Int)(p:Array Nat)(k:Nat):Int:=rk (p.getD k 0)
structure Arr (n:Nat)(p:Array Nat):Prop where
 size:p.size=n
 perm:p.toList.Perm (List.range n)
theorem Arr.lt {p:Array Nat}(h:Arr n p){k:Nat}(hk:k<n):p.getD k 0<n:=by
 have hk':k<p.size:=by rw[h.size];exact hk
 have:p.getD k 0=p[k]:=by rw[Array.getD_eq_getD_getElem?,Array.getElem?_eq_getElem hk'];rfl
 rw[this];exact List.mem_range.mp (h.perm.mem_iff.mp (by simp))
theorem Arr.rev {p:Array Nat}(h:Arr n p)(i j:Nat):Arr n (kas_rev p i j) :=
 ⟨(mirror_size _ _ _ _).trans h.size,(Array.perm_iff_toList_perm.mp (mirror_perm p i j _)).trans h.perm⟩
theorem Arr.bub {p:Array Nat}(h:Arr n p)(k d:Nat):Arr n (bubble p k d) :=
 ⟨(bubble_size _ _ _).trans h.size,(Array.perm_iff_toList_perm.mp (bubble_perm p k d)).trans h.perm⟩
theorem qV {p:Array Nat}{i j:Nat}(hj:j<=p.size)(k:Nat):bR rk (kas_rev p i j) k=if i<=k/\k<j then bR rk p (i+j - 1 - k)else bR rk p k:=by
 unfold bR kas_rev;rw[Array.getD_eq_getD_getElem?,getElem?_mirror_all hj];split<;>rw[Array.getD_eq_getD_getElem?]
theorem zF {p:Array Nat}{src d:Nat}(hs:src<p.size)(hd:d<=src)(k:Nat):bR rk (bubble p src d) k=if k=src - d then bR rk p src else if src - d<k/\k<=src then bR rk p (k - 1)else bR rk p k:=by
 unfold bR;simp only[Array.getD_eq_getD_getElem?];rw[getElem?_bubble hs d hd];repeat' split
 all_goals rfl
noncomputable def Up (rk:Nat->Int)(p:Array Nat)(m:Nat):Prop:=∀i j,i<=j->j<m->bR rk p i<=bR rk p j
noncomputable def qW (rk:Nat->Int)(p:Array Nat)(m:Nat):Prop:=∀i j,i<=j->j<m->bR rk p j<=bR rk p i
theorem El (p:Array Nat):Up rk p 1:=λi j h1 h2=>by
 have:i=j:=by omega
 subst this;exact Int.le_refl _
theorem qX {p:Array Nat}(h:Arr n p){r:Nat}(hr:r<=n):∀(f m:Nat),r - m=f->1<=m->m<=r->Up rk p m->∃m',Run n (ltR rk) (kas_asc p f m) m'/\m<=m'/\m'<=r/\Up rk p m'/\(m'<r->bR rk p m'<bR rk p (m' - 1))
 |0,m,hf,h1,hm,hu=>⟨m,.ret m,Nat.le_refl _,hm,hu,λz=>by omega⟩
 |f+1,m,hf,h1,hm,hu=>by
  have a1:=h.lt (k:=m) (by omega);have a2:=h.lt (k:=m - 1) (by omega);by_cases hc:bR rk p m<bR rk p (m - 1)
  ·refine⟨m,.ask a1 a2 ?_,Nat.le_refl _,hm,hu,λ_=>hc⟩;have:ltR rk (p.getD m 0) (p.getD (m - 1) 0)=true:=decide_eq_true hc;rw[this,if_pos rfl];exact .ret m
  ·have hu':Up rk p (m+1):=λi j hij hj=>by
    by_cases e:j=m
    ·subst e;by_cases e2:i=j
     ·subst e2;exact Int.le_refl _
     ·have:=hu i (j - 1) (by omega) (by omega);omega
    ·exact hu i j hij (by omega)
   obtain⟨m',q1,q2,q3,q4,q5⟩:=qX h hr f (m+1) (by omega) (by omega) (by omega) hu';refine⟨m',.ask a1 a2 ?_,by omega,q3,q4,q5⟩;have:ltR rk (p.getD m 0) (p.getD (m - 1) 0)=false:=decide_eq_false hc;rw[this,if_neg Bool.false_ne_true];exact q1
noncomputable def BB (rk:Nat->Int)(p:Array Nat)(m q:Nat):Prop:=q+1<=m/\∀k,m - (q+1)<=k->k<m->bR rk p k=bR rk p (m - 1)
theorem sU {p:Array Nat}{m q:Nat}(hs:m<=p.size)(hf:BB rk p m q)(k:Nat):bR rk (kas_rev p (m - (q+1)) m) k=bR rk p k:=by
 rw[qV hs];split
 ·rename_i hk;have h0:=hf.1;rw[hf.2 k hk.1 hk.2,hf.2 _ (by omega) (by omega)]
 ·rfl
theorem wB {p p':Array Nat}{m:Nat}(e:∀k,bR rk p' k=bR rk p k)(h:qW rk p m):qW rk p' m:=λi j h1 h2=>by rw[e,e];exact h i j h1 h2
theorem mT (p:Array Nat){m:Nat}(h:1<=m):BB rk p m 0:=⟨h,λk h1 h2=>by
 have:k=m - 1:=by omega
 rw[this]⟩
theorem kc {r:Nat}(hr:r<=n):∀(f:Nat)(p:Array Nat)(m q:Nat),Arr n p->r - m=f->1<=m->m<=r->qW rk p m->BB rk p m q->∃p' m' q',Run n (ltR rk) (kas_desc f p m q) (p',m',q')/\Arr n p'/\m<=m'/\m'<=r/\qW rk p' m'/\BB rk p' m' q'
 |0,p,m,q,h,hf,h1,hm,hd,hq=>⟨p,m,q,.ret _,h,Nat.le_refl _,hm,hd,hq⟩
 |f+1,p,m,q,h,hf,h1,hm,hd,hq=>by
  have a1:=h.lt (k:=m) (by omega);have a2:=h.lt (k:=m - 1) (by omega);have step:∀p':Array Nat,(∀k,bR rk p' k=bR rk p k)->bR rk p m<=bR rk p (m - 1)->qW rk p' (m+1):=λp' e hle i j hij hj=>by
   rw[e,e];by_cases z:j=m
   ·subst z;by_cases z2:i=j
    ·subst z2;exact Int.le_refl _
    ·have:=hd i (j - 1) (by omega) (by omega);omega
   ·exact hd i j hij (by omega)
  by_cases hc:bR rk p m<bR rk p (m - 1)
  ·have hcl:ltR rk (p.getD m 0) (p.getD (m - 1) 0)=true:=decide_eq_true hc;by_cases hq0:q > 0
   ·have e:=sU (p:=p) (by rw[h.size];omega) hq;obtain⟨p',m',q',g1,g2,g3,g4,g5,g6⟩:=kc hr f (kas_rev p (m - (q+1)) m) (m+1) 0 (h.rev _ _) (by omega) (by omega) (by omega) (step _ e (by omega)) (mT _ (by omega));refine⟨p',m',q',.ask a1 a2 ?_,g2,by omega,g4,g5,g6⟩;rw[hcl,if_pos rfl,if_pos hq0];exact g1
   ·obtain⟨p',m',q',g1,g2,g3,g4,g5,g6⟩:=kc hr f p (m+1) 0 h (by omega) (by omega) (by omega) (step _ (λ_=>rfl) (by omega)) (mT _ (by omega));refine⟨p',m',q',.ask a1 a2 ?_,g2,by omega,g4,g5,g6⟩;rw[hcl,if_pos rfl,if_neg hq0];exact g1
  ·have hcl:ltR rk (p.getD m 0) (p.getD (m - 1) 0)=false:=decide_eq_false hc;by_cases hc2:bR rk p (m - 1)<bR rk p m
   ·have hcl2:ltR rk (p.getD (m - 1) 0) (p.getD m 0)=true:=decide_eq_true hc2;refine⟨p,m,q,.ask a1 a2 ?_,h,Nat.le_refl _,hm,hd,hq⟩;rw[hcl,if_neg Bool.false_ne_true];refine .ask a2 a1 ?_;rw[hcl2,if_pos rfl];exact .ret _
   ·have hcl2:ltR rk (p.getD (m - 1) 0) (p.getD m 0)=false:=decide_eq_false hc2;have he:bR rk p m=bR rk p (m - 1):=by omega
    obtain⟨p',m',q',g1,g2,g3,g4,g5,g6⟩:=kc hr f p (m+1) (q+1) h (by omega) (by omega) (by omega) (step _ (λ_=>rfl) (by omega)) ⟨by have:=hq.1;omega,λk k1 k2=>by
     rw[Nat.add_sub_cancel];by_cases z:k=m
     ·rw[z]
     ·rw[hq.2 k (by omega) (by omega),he]⟩
    refine⟨p',m',q',.ask a1 a2 ?_,g2,by omega,g4,g5,g6⟩;rw[hcl,if_neg Bool.false_ne_true];refine .ask a2 a1 ?_;rw[hcl2,if_neg Bool.false_ne_true];exact g1
theorem sV {r:Nat}(hr:r<=n){p:Array Nat}(h:Arr n p){m:Nat}(h1:1<=m)(hm:m<=r)(hd:qW rk p m):∃m' p',Run n (ltR rk) (kas_tail3 m r p) (m',p')/\Arr n p'/\1<=m'/\m'<=r/\Up rk p' m':=by
 have hu:Up rk (kas_rev p 0 m) m:=λi j hij hj=>by
  rw[qV (by rw[h.size];omega),qV (by rw[h.size];omega),if_pos (by omega),if_pos (by omega)];exact hd _ _ (by omega) (by omega)
 obtain⟨m',q1,q2,q3,q4,_⟩:=qX (h.rev 0 m) hr (r - m) m rfl h1 hm hu;exact⟨m',_,q1.bind (.ret _),h.rev 0 m,by omega,q3,q4⟩
theorem sW {r:Nat}(hr:r<=n){p:Array Nat}(h:Arr n p){m:Nat}(hm:m+1<=r)(hd:qW rk p (m+1)):∃m' p',Run n (ltR rk) (kas_descPart m r p) (m',p')/\Arr n p'/\1<=m'/\m'<=r/\Up rk p' m':=by
 obtain⟨p1,m1,q1,g1,g2,g3,g4,g5,g6⟩:=kc hr (r - (m+1)) p (m+1) 0 h rfl (by omega) hm hd (mT _ (by omega));by_cases hq:q1 > 0
 ·obtain⟨m',p',k1,k2,k3,k4,k5⟩:=sV hr (g2.rev (m1 - (q1+1)) m1) (m:=m1) (by omega) g4 (wB (sU (by rw[g2.size];omega) g6) g5);exact⟨m',p',g1.bind (by dsimp only;rw[if_pos hq];exact k1),k2,k3,k4,k5⟩
 ·obtain⟨m',p',k1,k2,k3,k4,k5⟩:=sV hr g2 (m:=m1) (by omega) g4 g5;exact⟨m',p',g1.bind (by dsimp only;rw[if_neg hq];exact k1),k2,k3,k4,k5⟩
theorem yj {p:Array Nat}(h:Arr n p)(hn:1<=n):∃m' p',Run n (ltR rk) (kas_count n p) (m',p')/\Arr n p'/\1<=m'/\m'<=n/\Up rk p' m':=by
 obtain⟨m,q1,q2,q3,q4,q5⟩:=qX h (Nat.le_refl n) (n - 1) 1 rfl (Nat.le_refl 1) hn (El (rk:=rk) p);by_cases e:m=n
 ·exact⟨m,p,q1.bind (by rw[if_pos (by simp[e])];exact .ret _),h,q2,q3,q4⟩
 ·have hlt:=q5 (by omega);have e1:¬(m == n)=true:=by simp[e]
  by_cases hm1:m > 1
  ·by_cases hc:bR rk p 0<bR rk p (m - 1)
   ·refine⟨m,p,q1.bind ?_,h,q2,q3,q4⟩;rw[if_neg e1,if_pos hm1];refine .ask (h.lt (by omega)) (h.lt (by omega)) ?_;have:ltR rk (p.getD 0 0) (p.getD (m - 1) 0)=true:=decide_eq_true hc;rw[this,if_pos rfl];exact .ret _
   ·have hall:∀k,k<m->bR rk p k=bR rk p 0:=λk hk=>by
     have z1:=q4 0 k (by omega) hk;have z2:=q4 k (m - 1) (by omega) (by omega);omega
    have er:∀k,bR rk (kas_rev p 0 m) k=bR rk p k:=λk=>by
     rw[qV (by rw[h.size];omega)];split
     ·rename_i z;rw[hall _ (by omega),hall k z.2]
     ·rfl
    have hd:qW rk p (m+1):=λi j hij hj=>by
     by_cases z:j=m
     ·subst z;by_cases z2:i=j
      ·subst z2;exact Int.le_refl _
      ·rw[hall i (by omega)];rw[hall (j - 1) (by omega)]at hlt;omega
     ·rw[hall i (by omega),hall j (by omega)];exact Int.le_refl _
    obtain⟨m',p',k1,k2,k3,k4,k5⟩:=sW (Nat.le_refl n) (h.rev 0 m) (m:=m) (by omega) (wB er hd);refine⟨m',p',q1.bind ?_,k2,k3,k4,k5⟩;rw[if_neg e1,if_pos hm1];refine .ask (h.lt (by omega)) (h.lt (by omega)) ?_;have:ltR rk (p.getD 0 0) (p.getD (m - 1) 0)=false:=decide_eq_false hc;rw[this,if_neg Bool.false_ne_true];exact k1
  ·have em:m=1:=by omega
   subst em;have hd:qW rk p 2:=λi j hij hj=>by
    by_cases z2:i=j
    ·subst z2;exact Int.le_refl _
    ·have:i=0:=by omega
     have:j=1:=by omega
     subst_vars;have:=hlt;simp at this;omega
   obtain⟨m',p',k1,k2,k3,k4,k5⟩:=sW (Nat.le_refl n) h (m:=1) (by omega) hd;refine⟨m',p',q1.bind ?_,k2,k3,k4,k5⟩;rw[if_neg e1,if_neg hm1];exact k1
theorem la {p:Array Nat}(h:Arr n p){k:Nat}(hk:k<n)(hu:Up rk p k):∀(f l r:Nat),r - l<=f->l<=r->r<=k->(∀i,i<l->bR rk p i<=bR rk p k)->(∀i,r<=i->i<k->bR rk p k<bR rk p i) ->
  ∃l',Run n (ltR rk) (kas_place p k f l r) l'/\l'<=k/\(∀i,i<l'->bR rk p i<=bR rk p k)/\(∀i,l'<=i->i<k->bR rk p k<bR rk p i)
 |0,l,r,hf,hl,hr,h1,h2=>⟨l,.ret l,by omega,h1,λi a b=>h2 i (by omega) b⟩
 |f+1,l,r,hf,hl,hr,h1,h2=>by
  by_cases hge:l ≥ r
  ·refine⟨l,?_,by omega,h1,λi a b=>h2 i (by omega) b⟩;unfold kas_place;rw[if_pos hge];exact .ret l
  ·by_cases hc:bR rk p k<bR rk p ((l+r) / 2)
   ·obtain⟨l',q1,q2,q3,q4⟩:=la h hk hu f l ((l+r) / 2) (by omega) (by omega) (by omega) h1 λi a b=>by
     have:=hu ((l+r) / 2) i a b;omega
    refine⟨l',?_,q2,q3,q4⟩;unfold kas_place;rw[if_neg hge];refine .ask (h.lt (by omega)) (h.lt (by omega)) ?_;have:ltR rk (p.getD k 0) (p.getD ((l+r) / 2) 0)=true:=decide_eq_true hc;rw[this,if_pos rfl];exact q1
   ·obtain⟨l',q1,q2,q3,q4⟩:=la h hk hu f ((l+r) / 2+1) r (by omega) (by omega) hr (λi a=>by
     have:=hu i ((l+r) / 2) (by omega) (by omega);omega) h2
    refine⟨l',?_,q2,q3,q4⟩;unfold kas_place;rw[if_neg hge];refine .ask (h.lt (by omega)) (h.lt (by omega)) ?_;have:ltR rk (p.getD k 0) (p.getD ((l+r) / 2) 0)=false:=decide_eq_false hc;rw[this,if_neg Bool.false_ne_true];exact q1
theorem wC:∀(f:Nat)(p:Array Nat)(k:Nat),Arr n p->n - k=f->k<=n->Up rk p k->∃p',Run n (ltR rk) (kas_bin f p k) p'/\Arr n p'/\Up rk p' n
 |0,p,k,h,hf,hk,hu=>⟨p,.ret p,h,(show k=n by omega) ▸ hu⟩
 |f+1,p,k,h,hf,hk,hu=>by
  have hk':k<n:=by omega
  obtain⟨l,q1,q2,q3,q4⟩:=la h hk' hu k 0 k (by omega) (by omega) (Nat.le_refl _) (λi z=>by omega) (λi a b=>by omega);have hsz:k<p.size:=by rw[h.size];exact hk'
  have hu':Up rk (bubble p k (k - l)) (k+1):=λi j hij hj=>by
   rw[zF hsz (by omega),zF hsz (by omega)];have e:k - (k - l)=l:=by omega
   rw[e];by_cases i1:i=l
   ·rw[if_pos i1];by_cases j1:j=l
    ·rw[if_pos j1];exact Int.le_refl _
    ·rw[if_neg j1,if_pos (by omega)];have:=q4 (j - 1) (by omega) (by omega);omega
   ·rw[if_neg i1];by_cases i2:l<i/\i<=k
    ·rw[if_pos i2,if_neg (by omega),if_pos (by omega)];exact hu _ _ (by omega) (by omega)
    ·rw[if_neg i2];by_cases j1:j=l
     ·rw[if_pos j1];exact q3 i (by omega)
     ·rw[if_neg j1];by_cases j2:l<j/\j<=k
      ·rw[if_pos j2];exact hu _ _ (by omega) (by omega)
      ·rw[if_neg j2];exact hu _ _ hij (by omega)
  obtain⟨p',k1,k2,k3⟩:=wC f (bubble p k (k - l)) (k+1) (h.bub _ _) (by omega) (by omega) hu';exact⟨p',q1.bind k1,k2,k3⟩
theorem sX (hn:1<=n):∃p,Run n (ltR rk) (kas_sort n) p/\Arr n p/\Up rk p n:=by
 have h0:Arr n (List.toArray (List.range n)):=⟨by simp,by simp⟩;obtain⟨m,p,q1,q2,q3,q4,q5⟩:=yj (rk:=rk) h0 hn;by_cases e:m<n
 ·have hmx:max m 1=m:=by omega
  obtain⟨p',k1,k2,k3⟩:=wC (n - max m 1) p (max m 1) q2 rfl (by omega) (by rw[hmx];exact q5);exact⟨p',q1.bind (by dsimp only;rw[if_pos e];exact k1),k2,k3⟩
 ·have:m=n:=by omega
  subst this;exact⟨p,q1.bind (by dsimp only;rw[if_neg e];exact .ret _),q2,q5⟩
end
theorem jc {a b c:List Int}(h:a<b)(k:b<c):a<c:=List.lt_trans h k
theorem yk {a b c:List Int}(h:¬b<a)(k:¬c<b):¬c<a:=List.not_lt.mpr (List.le_trans (List.not_lt.mp h) (List.not_lt.mp k))
theorem zG {a b:List Int}(h:¬b<a)(k:¬a<b):a=b:=List.le_antisymm (List.not_lt.mp h) (List.not_lt.mp k)
section
variable {α:Type}(f:α->List Int)
noncomputable def leF (a b:α):Prop:=¬f b<f a
noncomputable def vg (x:α):List α->List α
 |[]=>[x]
 |y::r=>if f y<f x then y::vg x r else x::y::r
noncomputable def cR (l:List α):List α:=l.foldr (vg f) []
theorem lb (x:α):∀l,(vg f x l).Perm (x::l)
 |[]=>List.Perm.refl _
 |y::r=>by
  unfold vg;split
  ·exact((lb x r).cons y).trans (List.Perm.swap x y r)
  ·exact List.Perm.refl _
theorem aH:∀l,(cR f l).Perm l
 |[]=>List.Perm.refl _
 |x::l=>(lb f x (cR f l)).trans ((aH l).cons x)
theorem p9 (x:α):∀l,l.Pairwise (leF f)->(vg f x l).Pairwise (leF f)
 |[],_=>by simp[vg]
 |y::r,h=>by
  obtain⟨h1,h2⟩:=List.pairwise_cons.mp h;unfold vg;split
  ·rename_i hl;refine List.pairwise_cons.mpr ⟨λz hz=>?_,p9 x r h2⟩;rcases List.mem_cons.mp ((lb f x r).mem_iff.mp hz)with rfl|hz
   ·exact λk=>List.lt_irrefl _ (jc hl k)
   ·exact h1 z hz
  ·rename_i hl;refine List.pairwise_cons.mpr ⟨λz hz=>?_,h⟩;rcases List.mem_cons.mp hz with rfl|hz
   ·exact hl
   ·exact yk hl (h1 z hz)
theorem cH:∀l,(cR f l).Pairwise (leF f)
 |[]=>List.Pairwise.nil
 |x::l=>p9 f x _ (cH l)
theorem pA:∀(l1 l2:List α),(∀x∈l1,∀y∈l1,f x=f y->x=y)->l1.Perm l2->l1.Pairwise (leF f)->l2.Pairwise (leF f)->l1=l2
 |[],l2,_,p,_,_=>(List.nil_perm.mp p).symm
 |x::r1,[],_,p,_,_=>absurd p.length_eq (by simp)
 |x::r1,y::r2,hi,p,h1,h2=>by
  have hy:y∈x::r1:=p.mem_iff.mpr (mX ..);have hxy:leF f x y:=by
   rcases List.mem_cons.mp hy with z|z
   ·rw[z];exact List.lt_irrefl _
   ·exact(List.pairwise_cons.mp h1).1 y z
  have hyx:leF f y x:=by
   rcases List.mem_cons.mp (p.mem_iff.mp (mX ..))with z|z
   ·rw[z];exact List.lt_irrefl _
   ·exact(List.pairwise_cons.mp h2).1 x z
  have e:x=y:=hi x (mX ..) y hy (zG hxy hyx);subst e;rw[pA r1 r2 (λa ha b hb=>hi a (mZ _ ha) b (mZ _ hb)) (List.Perm.cons_inv p) (List.pairwise_cons.mp h1).2 (List.pairwise_cons.mp h2).2]
theorem fu {l l':List α}(hi:∀x∈l,∀y∈l,f x=f y->x=y)(p:l'.Perm l)(h:l'.Pairwise (leF f)):l'=cR f l :=
 pA f _ _ (λx hx y hy=>hi x (p.mem_iff.mp hx) y (p.mem_iff.mp hy)) (p.trans (aH f l).symm) h (cH f l)
end
theorem j4 {α:Type}{p q:α->Bool}(h:∀x,p x=true->q x=true):∀l:List α,(l.filter p).length<=(l.filter q).length
 |[]=>Nat.le_refl _
 |x::l=>by
  have ih:=j4 h l;rw[List.filter_cons,List.filter_cons];by_cases z:p x=true
  ·rw[if_pos z,if_pos (h x z)];simp only[List.length_cons];omega
  ·rw[if_neg z];split
   ·simp only[List.length_cons];omega
   ·exact ih
noncomputable def kg (cs:List (List Int))(c:List Int):Int:=((cs.filter λx=>decide (x<c)).length:Nat)
theorem BC {cs:List (List Int)}{a b:List Int}(h:¬b<a):kg cs a<=kg cs b:=by
 unfold kg;refine Int.ofNat_le.mpr (j4 (λx hx=>?_) cs);rw[decide_eq_true_eq]at hx ⊢;rcases List.le_iff_lt_or_eq.mp (List.not_lt.mp h)with z|z
 ·exact jc hx z
 ·rw[←z];exact hx
theorem qY {cs:List (List Int)}{a b:List Int}(ha:a∈cs)(h:a<b):kg cs a<kg cs b:=by
 unfold kg;apply Int.ofNat_lt.mpr;induction cs with
 |nil=>simp at ha
 |cons c cs ih=>
  have key:∀l:List (List Int),(l.filter λx=>decide (x<a)).length<=(l.filter λx=>decide (x<b)).length:=λl=>
   j4 (λx hx=>by rw[decide_eq_true_eq]at hx ⊢;exact jc hx h) l
  rw[List.filter_cons,List.filter_cons];rcases List.mem_cons.mp ha with rfl|ha
  ·rw[if_neg (by simp[List.lt_irrefl]),if_pos (by simpa using h)];have:=key cs;simp only[List.length_cons];omega
  ·have:=ih ha;by_cases z:c<a
   ·rw[if_pos (by simpa using z),if_pos (by simpa using jc z h)];simp only[List.length_cons];omega
   ·rw[if_neg (by simpa using z)];split
    ·simp only[List.length_cons];omega
    ·exact this
theorem zH {cs:List (List Int)}{a b:List Int}(ha:a∈cs):decide (kg cs a<kg cs b)=decide (a<b):=by
 by_cases h:a<b
 ·rw[decide_eq_true h,decide_eq_true (qY ha h)]
 ·rw[decide_eq_false h,decide_eq_false];have:=BC (cs:=cs) h;omega
inductive At where
 |i (n:Int)
 |s (z:Str)
noncomputable def enc:At->List Int
 |.i n=>[n]
 |.s z=>z.cps.toList.map (λ(c:Nat)=>(c:Int)+1)++[0]
noncomputable def bp (xs:List At):List Int:=xs.flatMap enc
noncomputable def aO:List At->List At->Option Bool
 |[],ys=>some (!ys.isEmpty)
 |_::_,[]=>some false
 |.i a::xs,.i b::ys=>if a=b then aO xs ys else some (decide (a<b))
 |.s a::xs,.s b::ys=>if a=b then aO xs ys else some (decide (a.cps.toList<b.cps.toList))
 |_::_,_::_=>none
theorem qZ:∀(a b:List Nat)(r r':List Int),(a.map (λ(c:Nat)=>(c:Int)+1)++0::r)<(b.map (λ(c:Nat)=>(c:Int)+1)++0::r')↔a<b∨(a=b/\r<r')
 |[],[],r,r'=>by simp[List.cons_lt_cons_iff]
 |[],y::b,r,r'=>by simp[List.cons_lt_cons_iff]
 |x::a,[],r,r'=>by simp[List.cons_lt_cons_iff];omega
 |x::a,y::b,r,r'=>by
  rw[List.map_cons,List.map_cons,List.cons_append,List.cons_append,List.cons_lt_cons_iff,qZ a b r r',List.cons_lt_cons_iff];constructor
  ·rintro (h|⟨h,k|⟨k1,k2⟩⟩)
   ·exact .inl (.inl (by omega))
   ·exact .inl (.inr ⟨by omega,k⟩)
   ·exact .inr ⟨by rw[k1,show x=y by omega],k2⟩
  ·rintro ((h|⟨h,k⟩)|⟨h,k⟩)
   ·exact .inl (by omega)
   ·exact .inr ⟨by omega,.inl k⟩
   ·injection h with h1 h2;exact .inr ⟨by omega,.inr ⟨h2,k⟩⟩
theorem gB (x:At)(xs:List At):bp (x::xs)=enc x++bp xs:=by unfold bp;rw[List.flatMap_cons]
theorem Em (x:At):enc x≠[]:=by cases x<;>simp[enc]
theorem wD {a b:Str}:a.cps.toList=b.cps.toList↔a=b:=by
 constructor
 ·intro h;obtain⟨a⟩:=a;obtain⟨b⟩:=b;have:a=b:=Array.toList_inj.mp h;rw[this]
 ·rintro rfl;rfl
theorem hW:∀(xs ys:List At)(b:Bool),aO xs ys=some b->b=decide (bp xs<bp ys)
 |[],[],b,h=>by simp[aO]at h;subst h;simp[bp]
 |[],y::ys,b,h=>by
  simp[aO]at h;subst h;rw[gB];cases e:enc y with
  |nil=>exact absurd e (Em y)
  |cons c cs=>simp[bp]
 |x::xs,[],b,h=>by simp[aO]at h;subst h;simp[bp]
 |.i a::xs,.i c::ys,b,h=>by
  rw[aO]at h;rw[gB,gB];show b=decide (a::bp xs<c::bp ys);split at h
  ·rename_i e;subst e;rw[hW xs ys b h];exact decide_eq_decide.mpr (by rw[List.cons_lt_cons_iff];simp)
  ·rename_i e;cases h
   exact decide_eq_decide.mpr (by rw[List.cons_lt_cons_iff];simp[e])
 |.s a::xs,.s c::ys,b,h=>by
  rw[aO]at h;rw[gB,gB];have e0:∀(z:Str)(r:List Int),enc (.s z)++r=z.cps.toList.map (λ(c:Nat)=>(c:Int)+1)++0::r:=λz r=>by simp[enc]
  rw[e0,e0];split at h
  ·rename_i e;subst e;rw[hW xs ys b h];exact decide_eq_decide.mpr (by rw[qZ];exact⟨λz=>.inr ⟨rfl,z⟩,λz=>z.elim (λq=>absurd q (List.lt_irrefl _)) (·.2)⟩)
  ·rename_i e;cases h
   exact decide_eq_decide.mpr (by rw[qZ,wD];exact⟨.inl,λz=>z.elim id λq=>absurd q.1 e⟩)
 |.i _::_,.s _::_,b,h=>by simp[aO]at h
 |.s _::_,.i _::_,b,h=>by simp[aO]at h
theorem vh:∀(xs ys:List At),aO xs ys=some false->aO ys xs=some false->xs=ys
 |[],[],_,_=>rfl
 |[],y::ys,h,_=>by simp[aO]at h
 |x::xs,[],_,h=>by simp[aO]at h
 |.i a::xs,.i c::ys,h,k=>by
  rw[aO]at h k;by_cases e:a=c
  ·subst e;rw[if_pos rfl]at h k;rw[vh xs ys h k]
  ·rw[if_neg e]at h;rw[if_neg (Ne.symm e)]at k;simp at h k;omega
 |.s a::xs,.s c::ys,h,k=>by
  rw[aO]at h k;by_cases e:a=c
  ·subst e;rw[if_pos rfl]at h k;rw[vh xs ys h k]
  ·rw[if_neg e]at h;rw[if_neg (Ne.symm e)]at k;simp only[Option.some.injEq,decide_eq_false_iff_not]at h k;exact absurd (wD.mp (List.le_antisymm (List.not_lt.mp k) (List.not_lt.mp h))) e
 |.i _::_,.s _::_,h,_=>by simp[aO]at h
 |.s _::_,.i _::_,h,_=>by simp[aO]at h
noncomputable def c9 (ks:List (List At)):Bool:=ks.all λx=>ks.all λy=>(aO x y).isSome
theorem gC {ks:List (List At)}(h:c9 ks=true){x y:List At}(hx:x∈ks)(hy:y∈ks):aO x y=some (decide (bp x<bp y)):=by
 have:=List.all_eq_true.mp (List.all_eq_true.mp h x hx) y hy;obtain⟨b,e⟩:=Option.isSome_iff_exists.mp this;rw[e,hW _ _ _ e]
theorem gD {ks:List (List At)}(h:c9 ks=true){x y:List At}(hx:x∈ks)(hy:y∈ks)(e:bp x=bp y):x=y:=by
 refine vh _ _ ?_ ?_
 ·rw[gC h hx hy,e,decide_eq_false (List.lt_irrefl _)]
 ·rw[gC h hy hx,e,decide_eq_false (List.lt_irrefl _)]
noncomputable def atV:At->Value->Prop
 |.i n,v=>∃t,v=.int n t
 |.s z,v=>∃t,v=.str z t
noncomputable def eJ (h:Heap)(xs:List At)(v:Value):Prop:=∃a o its n,v=.ref a/\h.get? a=some o/\o.cls=.type "tuple"/\o.data=.seq its n/\Paired atV xs its.toList
theorem eJ.keep {h h':Heap}{xs:List At}{v:Value}(x:eJ h xs v)(k:∀a o,o.cls=.type "tuple"->h.get? a=some o->h'.get? a=some o):eJ h' xs v:=by
 obtain⟨a,o,its,n,e,ho,hc,r⟩:=x;exact⟨a,o,its,n,e,k a o hc ho,hc,r⟩
noncomputable def bT (ks:List (List At)):Bool:=ks.all (λx=>match x with|.i _::_=>true|_=>false) || ks.all (λx=>match x with|.s _::_=>true|_=>false)
section
variable {prog:Program}{w:World}{A:Around}{E:Value->Shared->Prop}{s:Shared}
theorem mU {Q:Bool->Shared->Prop}{b:Bool}{fin:Bool}:∀(xs ys:List At)(its jts:List Value)(i:Nat),Paired atV xs its->Paired atV ys jts->aO xs ys=some b->fin=decide (xs.length<ys.length)->Q b s->KatLex prog w A true fin Q (its.zip jts) i s
 |[],ys,_,jts,i,.nil,r2,h,hf,q=>by
  rw[List.zip_nil_left];refine kat_nil ?_;cases ys with
  |nil=>simp[aO]at h;subst h;rw[hf];exact q
  |cons y ys=>simp[aO]at h;subst h;rw[hf];simpa using q
 |x::xs,[],_,_,i,_,.nil,h,hf,q=>by
  rw[List.zip_nil_right];refine kat_nil ?_;simp[aO]at h;subst h;rw[hf];simpa using q
 |.i a::xs,.i c::ys,_,_,i,.cons r1 r1',.cons r2 r2',h,hf,q=>by
  obtain⟨t,rfl⟩:=r1;obtain⟨u,rfl⟩:=r2;rw[List.zip_cons_cons];refine kat_cons (wpAny_eqBool_int ?_);rw[aO]at h;by_cases e:a=c
  ·rw[if_pos e]at h;rw[show(a == c)=true by simp[e]];exact kat_yes (mU xs ys _ _ (i+1) r1' r2' h (by rw[hf];simp) q)
  ·rw[if_neg e]at h;cases h
   rw[show(a == c)=false by simp[e]];refine kat_no ?_;cases hb:(true && i == 0) with
   |true=>exact oneLt_int q
   |false=>exact kat_one _ _ (PyProof.Rows.lt_int q)
 |.s a::xs,.s c::ys,_,_,i,.cons r1 r1',.cons r2 r2',h,hf,q=>by
  obtain⟨t,rfl⟩:=r1;obtain⟨u,rfl⟩:=r2;rw[List.zip_cons_cons];refine kat_cons (wpAny_eqBool_str ?_);rw[aO]at h;by_cases e:a=c
  ·rw[if_pos e]at h;rw[decide_eq_true e];exact kat_yes (mU xs ys _ _ (i+1) r1' r2' h (by rw[hf];simp) q)
  ·rw[if_neg e]at h;cases h
   rw[decide_eq_false e];refine kat_no ?_;cases hb:(true && i == 0) with
   |true=>exact oneLt_str q
   |false=>exact kat_one _ _ (PySem.P.lt_str q)
 |.i _::_,.s _::_,_,_,_,_,_,h,_,_=>by simp[aO]at h
 |.s _::_,.i _::_,_,_,_,_,_,h,_,_=>by simp[aO]at h
theorem hX {α β:Type}{F:α->β->Prop}:∀ {l₁:List α}{l₂:List β},Paired F l₁ l₂->l₁.length=l₂.length
 |_,_,.nil=>rfl
 |_,_,.cons _ t=>by simp[hX t]
theorem En {Q:Bool->Shared->Prop}{xs ys:List At}{x y:Value}{b:Bool}(hx:eJ s.heap xs x)(hy:eJ s.heap ys y)(h:aO xs ys=some b)(q:Q b s):wpAny (model prog w) A (keyLt' (tuples' true) x y) Q E s:=by
 obtain⟨a,o,its,n,rfl,ho,_,hd,r⟩:=hx;obtain⟨a',o',its',n',rfl,ho',_,hd',r'⟩:=hy;refine kat_lt ho hd ho' hd' (mU xs ys _ _ 0 r r' h ?_ q);rw[←Array.length_toList,←Array.length_toList,hX r,hX r']
theorem lH {h:Heap}:∀ {ks:List (List At)}{vs:List Value},Paired (eJ h) ks vs->(∀k∈ks,k≠[])->∃fs,KatTups h vs fs/\fs.length=ks.length/\∀v∈fs,∃k r,(k::r)∈ks/\atV k v
 |_,_,.nil,_=>⟨[],trivial,rfl,by simp⟩
 |k::ks,_,.cons x t,hne=>by
  obtain⟨fs,h1,h2,h3⟩:=lH t λz hz=>hne z (mZ _ hz);obtain⟨a,o,its,n,rfl,ho,hc,hd,r⟩:=x;cases r':its.toList with
  |nil=>
   rw[r']at r;cases r
   exact absurd rfl (hne [] (mX ..))
  |cons v vs=>
   rw[r']at r;obtain⟨p,r1⟩:∃p,its[0]? = some v:=⟨(),by rw[←Array.getElem?_toList,r'];rfl⟩;cases r with
   |cons q qs=>
    rename_i k0 kr;refine⟨v::fs,KatTups.cons ho hc hd r1 h1,by simp[h2],λu hu=>?_⟩;rcases List.mem_cons.mp hu with rfl|hu
    ·exact⟨k0,kr,mX ..,q⟩
    ·obtain⟨k1,r1,m1,m2⟩:=h3 u hu;exact⟨k1,r1,mZ _ m1,m2⟩
theorem sY {ks:List (List At)}{vs:List Value}{Q:SortKind->Shared->Prop}(hp:Paired (eJ s.heap) ks vs)(hf:bT ks=true)(hn:0<ks.length)(q:Q (tuples' true) s):wpAny (model prog w) A (keyKind' vs.toArray) Q E s:=by
 have hne:∀k∈ks,k≠[]:=λk hk z=>by
  subst z;unfold bT at hf;rw[Bool.or_eq_true]at hf;rcases hf with hf|hf
  ·have:=List.all_eq_true.mp hf [] hk;simp at this
  ·have:=List.all_eq_true.mp hf [] hk;simp at this
 obtain⟨fs,h1,h2,h3⟩:=lH hp hne;unfold bT at hf;rw[Bool.or_eq_true]at hf;rcases hf with hf|hf
 ·refine kat_kind (T:=.type "int") h1 (by omega) (λv hv=>?_) (by decide) q;obtain⟨k,r,m,z⟩:=h3 v hv;have:=List.all_eq_true.mp hf _ m;cases k with
  |i n=>obtain⟨t,rfl⟩:=z;exact .now
  |s z'=>simp at this
 ·refine kat_kind (T:=.type "str") h1 (by omega) (λv hv=>?_) (by decide) q;obtain⟨k,r,m,z⟩:=h3 v hv;have:=List.all_eq_true.mp hf _ m;cases k with
  |s z'=>obtain⟨t,rfl⟩:=z;exact .now
  |i n=>simp at this
end
section
variable {prog:Program}{w:World}{A:Around}{E:Value->Shared->Prop}{s:Shared}
theorem j5 {α β:Type}{F:α->β->Prop}(d:α)(e:β):∀ {l₁:List α}{l₂:List β},Paired F l₁ l₂->∀ {i:Nat},i<l₁.length->F (l₁.getD i d) (l₂.getD i e)
 |_,_,.cons r t,0,_=>r
 |_,_,.cons r t,i+1,h=>by
  simp only[List.getD_cons_succ];exact j5 d e t (by simpa using h)
 |_,_,.nil,i,h=>by simp at h
noncomputable def rkK (ks:List (List At))(i:Nat):Int:=kg (ks.map bp) (bp (ks.getD i []))
theorem wE {ks:List (List At)}{vs:List Value}(hc:c9 ks=true)(hp:Paired (eJ s.heap) ks vs):∀(i j:Nat)(C:Bool->Shared->Prop)(s1:Shared),i<ks.length->j<ks.length->s1=s->(∀s',s'=s->C (ltR (rkK ks) i j) s')->kas_ask prog w A (tuples' true) vs i j C s1:=by
 intro i j C s1 hi hj e hC;subst e;unfold kas_ask;have mi:ks.getD i []∈ks:=by rw[List.getD_eq_getElem?_getD,List.getElem?_eq_getElem hi];exact List.getElem_mem hi
 have mj:ks.getD j []∈ks:=by rw[List.getD_eq_getElem?_getD,List.getElem?_eq_getElem hj];exact List.getElem_mem hj
 refine En (j5 [] Value.none hp hi) (j5 [] Value.none hp hj) (gC hc mi mj) ?_;have:=hC s1 rfl;unfold ltR rkK at this;rw[zH (List.mem_map.mpr ⟨_,mi,rfl⟩)]at this;exact this
theorem ym {a:Addr}{vs:List Value}{ks:List (List At)}{n:Nat}{P:PySem.Fin->Shared->Prop}(ho:s.heap.get? a=some (seqObj "list" vs.toArray n))(hk:Paired (eJ s.heap) ks vs)(hc:c9 ks=true)(hf:bT ks=true)(h64:vs.length<64)
  (h:∀p:Array Nat,Arr vs.length p->Up (rkK ks) p vs.length->P (.done (.ret .none)) { s with heap:=sortedHeap s.heap a vs (List.toArray (p.toList.map λi=>vs.getD i Value.none)) }):
  wpAny (model prog w) A (Builtin.«list.sort» ⟨[.ref a],[]⟩) P E s:=by
 have ha:=Heap.lt_size ho;have hlen:ks.length=vs.length:=hX hk;obtain⟨e1,ho1⟩:∃e1,(s.heap.update a (Obj.mapSeq λ_=>#[])).get? a=some (seqObj "list" #[] e1):=⟨_,get?_update_seq ho (λ_=>#[])⟩;let h6:Heap:=((s.heap.update a (Obj.mapSeq λ_=>#[])).push (seqObj "tuple" vs.toArray 0)).push (seqObj "list" #[] 0);have old:∀b u,b≠a->s.heap.get? b=some u->h6.get? b=some u:=λb u hb q=>
  Heap.get?_push_of_some _ (Heap.get?_push_of_some _ ((Heap.get?_update_ne _ _ _ _ hb).trans q))
 have ho6:h6.get? a=some (seqObj "list" #[] e1):=Heap.get?_push_of_some _ (Heap.get?_push_of_some _ ho1);have hk6:Paired (eJ h6) ks vs:=L2.Paired.mapP hk λk v x=>x.keep λb u hcl q=>old b u (λz=>by
  subst z;rw[ho]at q;cases q;injection hcl with z;exact absurd z (by decide)) q
 rw[list_sort_plain];refine wX (listItems_at ho rfl (wX (listUpdate_at ho rfl (wX (seqEpoch_at ho1 rfl (wX (wpAny_newTuple (wX (wpAny_newList (wpAny_holding ?_))) (by show vs.length<=sizeLine;rw[sizeLine_eq];omega))))))));show wpAny (model prog w) A _ P E { s with heap:=h6 };dsimp only;have ends:∀(st:SortSt)(p:Array Nat),arrOf st=p.map (kas_item (vs.toArray.zip vs.toArray))->failedOf st=none->Arr vs.length p->Up (rkK ks) p vs.length ->
   wpAny (model prog w) A (do
    let touched:=(←seqEpoch a) != e1
    Builtin.List.listUpdate (.ref a) λ_=>(arrOf st).map (·.2)
    if let some e:=failedOf st then rule "list.sort.comparison-raised";throw e
    if touched then rule "list.sort.modified";raiseError "ValueError" "list modified during sort"
    ret .none) P E { s with heap:=h6 }:=λst p ea ef ap up=>by
  have eo:(arrOf st).map (·.2)=List.toArray (p.toList.map λi=>vs.getD i Value.none):=kat_snds rfl ea;refine wX (seqEpoch_at ho6 rfl ?_);refine wX (listUpdate_at ho6 rfl ?_ (hsz2:=by rw[eo];simp only[List.size_toArray,List.length_map,Array.length_toList,ap.size,sizeLine_eq];omega));rw[ef];simp only[bne_self_eq_false,Bool.false_eq_true,if_false];rw[eo];exact wY (h p ap up)
 by_cases h2:vs.toArray.size<2
 ·rw[if_pos h2,if_pos h2];refine wX (wY ?_);rw[StateT.run_pure];refine wX (wY ?_);have hsm:vs.length<2:=by simpa using h2
  refine ends _ (List.toArray (List.range vs.length)) ?_ rfl ⟨by simp,by simp⟩ ?_
  ·show vs.toArray.zip vs.toArray=_;have:=kas_range (vs.toArray.zip vs.toArray);rw[show(vs.toArray.zip vs.toArray).size=vs.length by simp]at this;exact this.symm
  ·intro i j hij hj;have:i=j:=by omega
   subst this;exact Int.le_refl _
 ·rw[if_neg h2,if_neg h2];have h2':2<=vs.length:=by simp at h2;omega
  refine wX (sY (s:={ s with heap:=h6 }) hk6 hf (by omega) ?_);obtain⟨p,r1,r2,r3⟩:=sX (n:=vs.length) (rk:=rkK ks) (by omega);refine wX (wpAny_mono (kat_run (E:=E) (ks:=vs) (vs:=vs) (κ:=tuples' true) (s:={ s with heap:=h6 }) (Q:=λst' s'=>s'={ s with heap:=h6 }/\arrOf st'=p.map (kas_item (vs.toArray.zip vs.toArray))/\failedOf st'=none)
   (G:=λp' s'=>p'=p/\s'={ s with heap:=h6 }) rfl h2' h64 (λp' st' s' _ e2 e3 e4=>by
    obtain⟨rfl,rfl⟩:=e4;exact⟨rfl,e2,e3⟩) (Run.wp (λs'=>s'={ s with heap:=h6 }) (λi j C s1 hi hj e hC=>wE (s:={ s with heap:=h6 }) hc hk6 i j C s1 (by omega) (by omega) e hC) r1 rfl λs' e=>⟨rfl,e⟩)) (λr s' hr=>?_) λ_ _ z=>z)
  obtain⟨⟨⟩,st'⟩:=r;obtain⟨rfl,e2,e3⟩:=hr;exact ends st' p e2 e3 r2 r3
theorem sZ {l:Addr}{vs:List Value}{ks:List (List At)}{Q:Value->Shared->Prop}(hl:s.heap.IsList l vs.toArray)(hk:Paired (eJ s.heap) ks vs)(hc:c9 ks=true)(hf:bT ks=true)(h64:vs.length<64)
  (h:∀p:Array Nat,Arr vs.length p->Up (rkK ks) p vs.length->Q (.ref (s.heap.objs.size+1)) { s with heap:=sortedAll s.heap vs (List.toArray (p.toList.map λi=>vs.getD i Value.none)) }):
  wpAny (model prog w) A (call (.builtin "sorted") [.ref l]) Q E s:=by
 let h1:Heap:=(s.heap.push (seqObj "list" #[] 0)).update s.heap.objs.size (Obj.mapSeq (· ++ vs.toArray));have hsz:h1.objs.size=s.heap.objs.size+1:=by show(Heap.update _ _ _).objs.size=_;rw[Heap.size_update,size_push']
 let h2:Heap:=h1.push (seqObj "list" vs.toArray 0);have hoL:h2.get? (s.heap.objs.size+1)=some (seqObj "list" vs.toArray 0):=by rw[←hsz];exact Heap.get?_push_size _ rfl
 have hk2:Paired (eJ h2) ks vs:=L2.Paired.mapP hk λk v x=>x.keep λb u _ q=>
  Heap.get?_push_of_some _ ((Heap.get?_update_ne _ _ _ _ (Nat.ne_of_lt (Heap.lt_size q))).trans (Heap.get?_push_of_some _ q))
 refine Calls.call_function_entry kind_sorted plain_sorted entry_sorted (args_sorted1 _) ?_;unfold Builtin.«sorted»;refine wX (m:=checkCount "sorted" 1 1 _) (wY (wX (collect_list hl (wX (wpAny_newList ?_)))));show wpAny _ _ _ _ _ { s with heap:=h2 };rw[show((s.heap.push (seqObj "list" #[] 0)).update s.heap.objs.size (Obj.mapSeq (· ++ vs.toArray))).objs.size=s.heap.objs.size+1 from hsz];exact wX (wpAny_holding (wpAny_call_entry slot_list_sort ⟨_,hoL,rfl⟩ entry_list_sort (ym hoL hk2 hc hf h64 λp ap up=>⟨_,rfl,wY ⟨_,rfl,h p ap up⟩⟩) (args_list_sort _)))
end
end DL
namespace DL
open PySem PySem.Spec PySem.W PyProof.Rows L2
noncomputable def pB:D->Option At
 |.int n=>some (.i n)
 |.str z=>some (.s z)
 |_=>none
noncomputable def cI:List D->Option (List At)
 |[]=>some []
 |d::ds=>(pB d).bind λa=>(cI ds).map (a :: ·)
noncomputable def j6:D->Option (List At)
 |.tup es=>cI es
 |_=>none
noncomputable def cP:List D->Option (List (List At))
 |[]=>some []
 |d::ds=>(j6 d).bind λa=>(cP ds).map (a :: ·)
noncomputable def oJ (d:D):List Int:=bp ((j6 d).getD [])
noncomputable def mV:List D->Option (List Int)
 |[]=>some []
 |.int n::ds=>(mV ds).map (n :: ·)
 |_::_=>none
noncomputable def zI (ns:List Int):List Int:=cR (λn=>[n]) ns
noncomputable def dw:List D->Option (D×Bool)
 |[.lst ds]=>match fE ds with
  |some ss=>if ss.length<64 then some (.lst ((iN ss).map .str),true)else none
  |none=>match mV ds with
   |some ns=>if ns.length<64 then some (.lst ((zI ns).map .int),true)else none
   |none=>match cP ds with
    |some ks=>if ks.length<64/\c9 ks=true/\bT ks=true then some (.lst (cR oJ ds),true)else none
    |none=>none
 |_=>none
theorem yn {d e:D}{a:At}(h:pB d=some a)(k:pB e=some a):d=e:=by
 cases d<;>simp only[pB]at h<;>cases h<;>cases e<;>simp only[pB]at k<;>cases k<;>rfl
theorem mW:∀ {ds es:List D}{as:List At},cI ds=some as->cI es=some as->ds=es
 |[],[],_,_,_=>rfl
 |[],e::es,as,h,k=>by
  simp only[cI]at h k;cases h
  obtain⟨a,_,k⟩:=oX k;obtain⟨r,_,k⟩:=oY k;cases k
 |d::ds,[],as,h,k=>by
  simp only[cI]at h k;cases k
  obtain⟨a,_,h⟩:=oX h;obtain⟨r,_,h⟩:=oY h;cases h
 |d::ds,e::es,as,h,k=>by
  simp only[cI]at h k;obtain⟨a,h1,h⟩:=oX h;obtain⟨r,h2,h⟩:=oY h;obtain⟨a',k1,k⟩:=oX k;obtain⟨r',k2,k⟩:=oY k;subst h;injection k with z1 z2;subst z1;subst z2;rw[yn h1 k1,mW h2 k2]
theorem tm {d e:D}{k:List At}(h:j6 d=some k)(h':j6 e=some k):d=e:=by
 cases d<;>simp only[j6]at h<;>try (cases h;done)
 cases e<;>simp only[j6]at h'<;>try (cases h';done)
 rw[mW h h']
theorem dz:∀ {ds:List D}{ks:List (List At)},cP ds=some ks->ks.length=ds.length
 |[],_,h=>by simp only[cP]at h;cases h;rfl
 |d::ds,_,h=>by
  simp only[cP]at h;obtain⟨a,h1,h⟩:=oX h;obtain⟨r,h2,h⟩:=oY h;subst h;simp[dz h2]
theorem fO:∀ {ds:List D}{ks:List (List At)},cP ds=some ks->∀ {i:Nat},i<ds.length->j6 (ds.getD i .non)=some (ks.getD i [])
 |[],_,h,i,hi=>by simp at hi
 |d::ds,_,h,0,hi=>by
  simp only[cP]at h;obtain⟨a,h1,h⟩:=oX h;obtain⟨r,h2,h⟩:=oY h;subst h;exact h1
 |d::ds,_,h,i+1,hi=>by
  simp only[cP]at h;obtain⟨a,h1,h⟩:=oX h;obtain⟨r,h2,h⟩:=oY h;subst h;simp only[List.getD_cons_succ];exact fO h2 (by simpa using hi)
theorem ng {α:Type}(l:List α)(d:α):(List.range l.length).map (λi=>l.getD i d)=l:=by
 apply List.ext_getElem?;intro i;by_cases h:i<l.length
 ·simp[h]
 ·simp[h]
theorem vi {ds:List D}{ks:List (List At)}{p:Array Nat}(hk:cP ds=some ks)(hc:c9 ks=true)(ap:Arr ds.length p)(up:Up (rkK ks) p ds.length):p.toList.map (λi=>ds.getD i .non)=cR oJ ds:=by
 have mem:∀x∈ds,∃k∈ks,j6 x=some k:=λx hx=>by
  obtain⟨i,hi,rfl⟩:=List.mem_iff_getElem.mp hx;have:=fO hk hi;rw[List.getD_eq_getElem?_getD,List.getElem?_eq_getElem hi]at this;refine⟨_,?_,this⟩;have hi':i<ks.length:=by rw[dz hk];exact hi
  rw[List.getD_eq_getElem?_getD,List.getElem?_eq_getElem hi'];exact List.getElem_mem hi'
 apply fu oJ
 ·intro x hx y hy e;obtain⟨k,mk,ek⟩:=mem x hx;obtain⟨k',mk',ek'⟩:=mem y hy;unfold oJ at e;rw[ek,ek']at e;have:=gD hc mk mk' e;subst this;exact tm ek ek'
 ·have:=ap.perm.map (λi=>ds.getD i .non);rw[ng]at this;exact this
 ·rw[List.pairwise_iff_getElem];intro i j hi hj hij;have hsz:=ap.size;have hi':i<p.size:=by simpa using hi
  have hj':j<p.size:=by simpa using hj
  have:=up i j (Nat.le_of_lt hij) (by omega);unfold bR rkK at this;have gi:p.getD i 0=p[i]:=by rw[Array.getD_eq_getD_getElem?,Array.getElem?_eq_getElem hi'];rfl
  have gj:p.getD j 0=p[j]:=by rw[Array.getD_eq_getD_getElem?,Array.getElem?_eq_getElem hj'];rfl
  have li:=ap.lt (k:=i) (by omega);have lj:=ap.lt (k:=j) (by omega);have mj:ks.getD (p.getD j 0) []∈ks:=by
   have h':p.getD j 0<ks.length:=by rw[dz hk];exact lj
   rw[List.getD_eq_getElem?_getD,List.getElem?_eq_getElem h'];exact List.getElem_mem h'
  have nl:¬bp (ks.getD (p.getD j 0) [])<bp (ks.getD (p.getD i 0) []):=λz=>by
   have:=qY (cs:=ks.map bp) (List.mem_map.mpr ⟨_,mj,rfl⟩) z;omega
  simp only[List.getElem_map,Array.getElem_toList];unfold leF oJ;rw[←gi,←gj,fO hk li,fO hk lj];exact nl
section
variable {X:Cx}
theorem tp {K:PySem.W.Frag}{B:Hp}:∀ {vs:List V}{es:List D}{k:List At}{its:List Value},aQ vs its->IsL K B vs es->cI es=some k->Paired atV k its
 |_,_,_,_,.nil,.nil,h=>by simp only[cI]at h;cases h;exact .nil
 |_,_,_,_,.cons r rr,.cons i ii,h=>by
  simp only[cI]at h;obtain⟨a,h1,h⟩:=oX h;obtain⟨t,h2,h⟩:=oY h;subst h;refine .cons ?_ (tp rr ii h2);cases i<;>simp only[pB]at h1<;>cases h1
  ·exact r
  ·exact r
theorem mo {pins:List (Addr×Obj)}{σ:St}{H:Hp}{s:Shared}(I:Inv X pins σ H s):∀ {ys:List V}{ds:List D}{ks:List (List At)}{its:List Value},aQ ys its->IsL X.K H ys ds->cP ds=some ks->Paired (eJ s.heap) ks its
 |_,_,_,_,.nil,.nil,h=>by simp only[cP]at h;cases h;exact .nil
 |_,_,_,_,.cons r rr,.cons i ii,h=>by
  simp only[cP]at h;obtain⟨a,h1,h⟩:=oX h;obtain⟨t,h2,h⟩:=oY h;subst h;refine .cons ?_ (mo I rr ii h2);cases i<;>simp only[j6]at h1<;>try (cases h1;done)
  rename_i hq hl;cases r
  obtain⟨its',r',⟨o,ho,hc,n,hd⟩,_⟩:=I.tuple hq;exact⟨_,o,_,n,rfl,ho,hc,hd,by simpa using tp r' hl h1⟩
theorem wF {K:PySem.W.Frag}{B:Hp}:∀ {vs:List V}{ds:List D},IsL K B vs ds->∀ {i:Nat},i<ds.length->Is K B (vs.getD i .non) (ds.getD i .non)
 |_,_,.cons h _,0,_=>h
 |_,_,.cons _ t,i+1,hi=>by
  simp only[List.getD_cons_succ];exact wF t (by simpa using hi)
 |_,_,.nil,i,hi=>by simp at hi
theorem tq:∀ {vs:List V}{us:List Value},aQ vs us->∀ {i:Nat},i<vs.length->aL (vs.getD i .non) (us.getD i Value.none)
 |_,_,.cons h _,0,_=>h
 |_,_,.cons _ t,i+1,hi=>by
  simp only[List.getD_cons_succ];exact tq t (by simpa using hi)
 |_,_,.nil,i,hi=>by simp at hi
theorem ni {K:PySem.W.Frag}{B:Hp}{vs:List V}{ds:List D}(h:IsL K B vs ds):∀(l:List Nat),(∀i∈l,i<ds.length)->IsL K B (l.map λi=>vs.getD i .non) (l.map λi=>ds.getD i .non)
 |[],_=>.nil
 |i::l,hl=>.cons (wF h (hl i (mX ..))) (ni h l λj hj=>hl j (mZ _ hj))
theorem lf {vs:List V}{us:List Value}(h:aQ vs us):∀(l:List Nat),(∀i∈l,i<vs.length)->aQ (l.map λi=>vs.getD i .non) (l.map λi=>us.getD i Value.none)
 |[],_=>.nil
 |i::l,hl=>.cons (tq h (hl i (mX ..))) (lf h l λj hj=>hl j (mZ _ hj))
end
section
variable {X:Cx}
theorem wG {K:PySem.W.Frag}{B:Hp}:∀ {vs:List V}{ds:List D}{ns:List Int}{its:List Value},aQ vs its->IsL K B vs ds->mV ds=some ns->IntsAre its ns
 |_,_,_,_,.nil,.nil,h=>by simp only[mV]at h;cases h;exact .nil
 |_,_,_,_,.cons r rr,.cons i ii,h=>by
  cases i<;>simp only[mV]at h<;>try (cases h;done)
  obtain⟨t,h2,h⟩:=oY h;subst h;obtain⟨u,rfl⟩:=r;exact .cons _ u (wG rr ii h2)
theorem pC:∀ {its:List Value}{zs:List Str},StrsAre its zs->aQ (zs.map V.str) its
 |_,_,.nil=>.nil
 |_,_,.cons x t r=>.cons ⟨t,rfl⟩ (pC r)
theorem gz:∀ {its:List Value}{zs:List Int},IntsAre its zs->aQ (zs.map V.int) its
 |_,_,.nil=>.nil
 |_,_,.cons x t r=>.cons ⟨t,rfl⟩ (gz r)
theorem tu {K:PySem.W.Frag}{N:Hp}:∀(zs:List Int),IsL K N (zs.map V.int) (zs.map D.int)
 |[]=>.nil
 |z::zs=>.cons (.int z) (tu zs)
theorem zJ {l l':List Int}(p:l'.Perm l)(h:l'.Pairwise (·<=·)):l'=zI l:=by
 refine fu _ (λx _ y _ e=>by injection e) p (h.imp λ{a b} hab=>?_);unfold leF;intro z;rw[List.cons_lt_cons_iff]at z;rcases z with z|⟨_,z⟩
 ·omega
 ·exact List.lt_irrefl _ z
theorem j7 {pins:List (Addr×Obj)}{σ:St}{H B:Hp}{s:Shared}{Q:VK}{its:List Value}{out:Array Value}{ys:List V}{ds:List D}(I:Inv X pins σ H s)(sB:aM B H)(q:Fin X.K B H (.lst ds) true Q)(hv:aQ ys out.toList)(hl:IsL X.K B ys ds)(hz:ys.length<=sizeLine):
  EP X pins σ Q (.ref (s.heap.objs.size+1)) { s with heap:=sortedAll s.heap its out }:=by
 obtain⟨e,he⟩:=sortedAll_at s.heap its out;have hp:H (s.heap.objs.size+1)=none:=I.hok.fresh (Nat.le_succ _);have xt:=Ext.laid (o:=.lst ys) sB hp;exact⟨.ref _,_,I.laid (t':=s.toks) (λb o=>sortedAll_old) (Nat.le_succ _) (show bA X.prog X.w _ _ _ (.lst ys)from ⟨hz,out.toList,e,hv,he⟩),rfl,
  q _ _ _ xt (.lst (SqL.of a0) (hl.mono xt.bn)) λ_=>⟨_,_,_,rfl,rfl,hp,a0,hl.mono xt.bn⟩⟩
theorem nj:bO X (.builtin "sorted") (rDA X.K dw):=by
 intro pins s σ H xs us Q I r h;obtain⟨B,dl,d,bb,sB,i,ee,q⟩:=h;cases i with
 |nil=>simp[dw]at ee
 |cons i1 i2=>
  cases i2 with
  |cons _ _=>cases i1<;>simp[dw]at ee
  |nil=>
   cases i1<;>try (simp[dw]at ee;done)
   rename_i l0 vs ds h hl;obtain⟨u,rfl,rx⟩:=gv r;cases rx
   obtain⟨its,r',pl,hz⟩:=I.list (sB.seq h);have hvl:vs.length=its.length:=r'.length;have hdl:ds.length=vs.length:=hl.length.symm;simp only[dw]at ee;split at ee
   ·rename_i ss es;split at ee
    ·rename_i h64;cases ee
     have hst:=jV r' hl es;have hsl:its.length=ss.length:=by rw[←hst.strs,List.length_map]
     refine sorted_strs pl.isList (by simpa using hst) (by omega) λout ss' a1 a2 a3=>?_;have e:=p8 a2 a3;subst e;exact j7 I sB q (pC a1) (jZ _) (by rw[List.length_map,(bX ss).length_eq,sizeLine_eq];omega)
    ·cases ee
   ·split at ee
    ·rename_i ns es;split at ee
     ·rename_i h64;cases ee
      have hst:=wG r' hl es;have hsl:its.length=ns.length:=IntsAre.length hst;refine sorted_ints pl.isList (by simpa using hst) (by omega) λout ss' a1 a2 a3=>?_;have e:=zJ a2 a3;subst e;exact j7 I sB q (gz a1) (tu _) (by rw[List.length_map];unfold zI;rw[(aH _ ns).length_eq,sizeLine_eq];omega)
     ·cases ee
    ·split at ee
     ·rename_i ks es;split at ee
      ·rename_i hh;obtain⟨h64,hc,hf⟩:=hh;cases ee
       have hkl:=dz es;have hst:=mo I r' (hl.mono sB) es;refine sZ pl.isList (by simpa using hst) hc hf (by omega) λp ap up=>?_;have hpl:its.length=ds.length:=by omega
       rw[hpl]at ap up;have e:=vi es hc ap up;have hin:∀i∈p.toList,i<ds.length:=λi hi=>List.mem_range.mp (ap.perm.mem_iff.mp hi);have il:=ni hl p.toList hin;rw[e]at il;refine j7 I sB q (ys:=p.toList.map λi=>vs.getD i .non) ?_ il ?_
       ·simpa using lf r' p.toList λi hi=>by rw[←hdl];exact hin i hi
       ·rw[List.length_map,Array.length_toList,ap.size,sizeLine_eq];omega
      ·cases ee
     ·cases ee
end
end DL
namespace DL
open PySem PySem.Spec PyProof.Rows L2
section
variable {X:Cx}{pos:Pos}
@[simp] noncomputable def Hj (i:Nat)(f:FE):FS:=λρ=>match ρ[i]? with
 |some (some (.lst ds,true))=>(f ρ).bind λx=>(mV ds).bind λns=>match x.1 with
  |.int n=>if ns.findIdx (· == n)<ns.length then some (.nx (ρ.set i (some (.lst ((ns.eraseIdx (ns.findIdx (· == n))).map .int),true))))else none
  |_=>none
 |_=>none
end
section
variable {prog:Program}{w:World}{A:Around}{E:Value->Shared->Prop}{s:Shared}
theorem vj {a:Addr}{o:Obj}{its:Array Value}{n:Nat}{x:Value}{e:Value->Bool}{j:Nat}{P:PySem.Fin->Shared->Prop}(ho:s.heap.get? a=some o)(hd:o.data=.seq its n)
  (he:∀y∈its,MeetsSeq.EqGives y x (e y)) (hj:j<its.size) (hit:e its[j]=true) (hno:∀m (hm:m<its.size),m<j->e its[m]=false)
  (h:P (.done (.ret (.int j s.toks))) { s with toks:=s.toks+1 }):wpAny (model prog w) A (Builtin.«tuple.index» ⟨[.ref a,x],[]⟩) P E s:=by
 show wpAny _ _ (Builtin.Tuple.tupleItemsOf (.ref a)>>=_) _ _ s;refine wX (wpAny_tupleItemsOf ho hd ?_);dsimp only;refine wX (wY (wX (wY (wX ?_))));rw[Std.Legacy.Range.forIn_eq_forIn_range'];refine wpAny_forIn_list _
  (λaC r s'=>r.1=none/\s'=s/\∃i,i<=j/\aC=List.range' i (its.size - i))
  _ ?_ ?_ _ _ ⟨rfl,rfl,0,Nat.zero_le _,?_⟩
 ·rintro k aC r s' ⟨hr,rfl,i,hi,hz⟩;have hlt:i<its.size:=by omega
  obtain⟨m,hm⟩:∃m,its.size - i=m+1:=⟨its.size - i - 1,by omega⟩;rw[hm,List.range'_succ]at hz;injection hz with z1 z2;have z1:=z1.symm;subst z1;subst z2;have hg:its[i]? = some its[i]:=by simp[hlt]
  simp only[hg];refine wX (he _ (Array.getElem_mem hlt) prog w _ _ _ _ ?_);by_cases hij:i=j
  ·subst hij;rw[hit];simp only[if_true];refine wX ?_;show wpAny _ _ (mkInt (i:Int)>>=λv=>ret v) _ _ _;exact wX (wpAny_mkInt (wY (wY (wY h))))
  ·rw[hno i hlt (by omega)];simp only[Bool.false_eq_true,if_false];exact wY ⟨rfl,rfl,i+1,by omega,by rw[show its.size - (i+1)=m by omega]⟩
 ·rintro⟨r1,r2⟩ s' ⟨hr,rfl,i,hi,hz⟩;exfalso;have:(List.range' i (its.size - i)).length=0:=by rw[←hz];rfl
  rw[List.length_range']at this;omega
 ·simp
end
theorem CRows.findT {K:PySem.W.Frag}{P:Params}(y:Str){ds:List D}:∀ {es:List DictEntry}{kvs:List (Str×D)},CRows K P es kvs->kvs.lookup y=some (.tup ds) ->
  ∃e a its n osl,es.find? (λe=>Value.isStrOf y e.key)=some e/\e.val=.ref a/\K.lookup a=some ⟨.type "tuple",none,.seq its n,osl⟩/\gZ its.toList ds=true
 |_,_,.nil,h=>by simp at h
 |_,_,.tup (x:=x) (t:=t) (a:=a) (ds:=ds') hh l f tl,h=>by
  by_cases e:y=x
  ·subst e;rw[List.lookup_cons_self]at h;cases h
   rw[Bool.and_eq_true]at f;exact⟨_,a,_,_,_,List.find?_cons_of_pos (by simp[Value.isStrOf]),rfl,l,f.2⟩
  ·rw[List.lookup_cons,beq_eq_false_iff_ne.mpr e]at h;have nf:Value.isStrOf y (Value.str x t)=false:=by
    rw[Bool.eq_false_iff];intro z;obtain⟨t',q⟩:=Value.isStrOf_shape z;injection q with q1;exact e q1.symm
   simp only[List.find?_cons,nf];exact tl.findT y h
 |_,_,.flat (x:=x) (t:=t) (u:=u) (d:=d) hh f tl,h=>by
  by_cases e:y=x
  ·subst e;rw[List.lookup_cons_self]at h;cases h
   cases u<;>simp[qO]at f
  ·rw[List.lookup_cons,beq_eq_false_iff_ne.mpr e]at h;have nf:Value.isStrOf y (Value.str x t)=false:=by
    rw[Bool.eq_false_iff];intro z;obtain⟨t',q⟩:=Value.isStrOf_shape z;injection q with q1;exact e q1.symm
   simp only[List.find?_cons,nf];exact tl.findT y h
section
variable {X:Cx}{b e:Expr}{pos:Pos}{x:Str}{p:Pos}
noncomputable def GH (K:PySem.W.Frag):V->List V->Hp->VK->Prop:=λx xs H Q=>∃(a:Addr)(o:Obj)(its:Array Value)(n:Nat)(zs:List Str)(y:Str),x=.ref a/\xs=[.str y]/\K.lookup a=some o/\o.cls=.type "tuple"/\o.data=.seq its n/\StrsAre its.toList zs/\zs.findIdx (· == y)<zs.length/\Q (.int (zs.findIdx (· == y):Nat)) H
noncomputable def CS (y:Str):Value->Bool
 |.str z _=>z == y
 |_=>false
theorem wH:∀ {its:List Value}{zs:List Str},StrsAre its zs->∀(i:Nat)(hi:i<its.length),∃(h:i<zs.length)(t:Tok),its[i]=.str zs[i] t
 |_,_,.cons z t h,0,_=>⟨by simp,t,rfl⟩
 |_,_,.cons z t h,i+1,hi=>by
  obtain⟨h',t',e⟩:=wH h i (by simpa using hi);exact⟨by simpa using h',t',by simpa using e⟩
 |_,_,.nil,i,hi=>by simp at hi
theorem tw:∀ {its:List Value}{zs:List Str},StrsAre its zs->its.length=zs.length
 |_,_,.nil=>rfl
 |_,_,.cons _ _ h=>by rw[List.length_cons,List.length_cons,tw h]
theorem zK:MtR X "tuple.index" (GH X.K):=by
 intro pins s σ H x xs v us Q I rx rv h;obtain⟨a,o,its,n,zs,y,rfl,rfl,lk,hc,hd,hz,hk,q⟩:=h;cases rx
 obtain⟨u,rfl,⟨t,rfl⟩⟩:=rv.one;have ho:=I.kIn a o lk;have hl:=tw hz;rw[Array.length_toList]at hl;have at':∀(i:Nat)(hi:i<its.size),∃(h:i<zs.length)(t:Tok),its[i]=.str zs[i] t:=λi hi=>by
  obtain⟨h',t',e⟩:=wH hz i (by simpa using hi);exact⟨h',t',by simpa using e⟩
 refine wpAny_call_entry PySem.F.slot_tuple_index ⟨o,ho,hc⟩ PySem.F.entry_tuple_index (vj (e:=CS y) (j:=zs.findIdx (· == y)) ho hd (λz hm=>?_) (by omega) ?_ (λm hm hlt=>?_) ⟨_,rfl,.int (zs.findIdx (· == y):Nat),H,I.tok _,⟨_,rfl⟩,q⟩) (PySem.F.args_tuple_index_2 _ _)
 ·obtain⟨i,hi,rfl⟩:=Array.mem_iff_getElem.mp hm;obtain⟨_,t',e'⟩:=at' i hi;rw[e'];exact eqGives_str _ _ _ _
 ·obtain⟨_,t',e'⟩:=at' (zs.findIdx (· == y)) (by omega);rw[e'];exact List.findIdx_getElem (p:=(· == y)) (w:=hk)
 ·obtain⟨_,t',e'⟩:=at' m hm;rw[e'];have:=List.not_of_lt_findIdx (p:=(· == y)) (xs:=zs) hlt;simpa [CS]using this
@[simp] noncomputable def oK (kvs:List (Str×D)):D->D->Option (D×Bool)
 |.str y,.str z=>match kvs.lookup y with
  |some (.tup ds)=>(fE ds).bind λzs=>if zs.findIdx (· == z)<zs.length then some (.int (zs.findIdx (· == z):Nat),false)else none
  |_=>none
 |_,_=>none
theorem BD {kvs:List (Str×D)}{f g:FE}{apos cpos:Pos}(h:∃d,X.mg x=some (.ref d)/\pw X.K X.w.params d kvs)(hb:JE X b f)(he:JE X e g)(hg:Gl X x:=by rfl)(hdb:(x == ("__debug__" : Str))=false:=by decide)(hs:mm b:=by intro _ _;rfl)
  (hbase:attributeBase (.Subscript (.Name x p) b pos) "index" X.env (eval (.Subscript (.Name x p) b pos) X.env)=eval (.Subscript (.Name x p) b pos) X.env:=by rfl)
  (hfew:((backTo cpos (starEach [e] X.env)).all (λx=>!x.1) && (backToKw cpos (keywordEach [] X.env)).all (λx=>x.1.isSome)
   && decide ([e].length+([]:List Keyword).length+(if([]:List Keyword).isEmpty then 0 else 1)<30))=true:=by rfl)
  (hline:(apos.endLine == cpos.line)=true:=by rfl) (hst:starEach [e] X.env=[(false,eval e X.env)]:=by rfl):
  JE X (.Call (.Attribute (.Subscript (.Name x p) b pos) "index" apos) [e] [] cpos) (f2 (oK kvs) f g):=by
 obtain⟨d,hm,cd⟩:=h;have ix:IxR X (λx y H Q=>∃z ds,x=.ref d/\y=.str z/\kvs.lookup z=some (.tup ds)/\∀a its n osl,X.K.lookup a=some ⟨.type "tuple",none,.seq its n,osl⟩->gZ its.toList ds=true->Q (.ref a) H):=by
  intro value slice pins s σ H x y v u Q I rx ry q hs;obtain⟨z,ds,rfl,rfl,el,q⟩:=q;cases rx
  obtain⟨t,rfl⟩:=ry;obtain⟨es,n,l,r,sm⟩:=cd;have hM:=PySem.W.mapOf_K (prog:=X.prog) (w:=X.w) I.kIn l r.lit;obtain⟨en,a,its,n',osl,e1,e2,e3,e4⟩:=r.findT z el;have ff:findBy Value.isStrOf es z=some (.ref a):=by
   unfold findBy;obtain⟨es⟩:=es;rw[List.find?_toArray,e1,←e2];rfl
  exact tail_any hM.typeIs slot_dict_getitem.lookup (wpAny_getItem_of (strKind_is X.prog X.w z t) hM ff ⟨.ref a,H,I.tok _,rfl,q a _ _ _ e3 e4⟩) hs
 refine PE.to (Cy (T:="tuple") PySem.F.plainAttrs_tuple PySem.F.slot_tuple_index PySem.F.type_tuple_index zK (Cw ix (vV (v:=.ref d) hg hm rfl hdb) hb hs) (gT he jt hst) hbase hfew hline hst rfl) λσ H Q q=>?_;obtain⟨B,ρ,d',bb,sB,r,ee,q⟩:=q;obtain⟨x1,ex,ee⟩:=oX ee;obtain⟨y1,ey,ee⟩:=oX ee;obtain⟨xd,xb⟩:=x1;obtain⟨yd,yb⟩:=y1;cases xd with
 |str z=>
  cases yd with
  |str y=>
   refine⟨B,ρ,_,xb,sB,r,ex,λv H1 N1 xt i1 _=>?_⟩;cases i1
   simp only[oK]at ee;split at ee
   ·rename_i ds el;obtain⟨zs,ez,ee⟩:=oX ee;split at ee
    ·rename_i hk;cases ee
     refine⟨z,ds,rfl,rfl,el,λa its n osl l fl=>⟨.inr (.inl ⟨rfl,_,l,rfl,rfl⟩),N1,ρ,_,yb,xt.nh,r.mono xt.bn,ey,λv2 H2 N2 xt2 i2 _=>?_⟩⟩;cases i2
     obtain⟨vs,rv,iv⟩:=hU (K:=X.K) fl;exact⟨a,_,its,n,zs,y,rfl,rfl,l,rfl,rfl,jV rv (iv N2) ez,hk,(q.into (xt.trans xt2)).one xt2.nh (.int _)⟩
    ·cases ee
   ·cases ee
  |_=>simp[oK]at ee
 |_=>simp[oK]at ee
end
open PySem.W (tabIn tabObj CodeHd kla_fn kla_obj kla_eval kla_makeFunction kla_makeFunctionHit kla_callFunE kla_codeExpr envX)
noncomputable def FR (K:PySem.W.Frag)(c P:Addr):Prop:=∃o vs file tf flags tg inF text tt,K.lookup c=some o/\o.cls=.type "code"/\o.data=.fields vs/\vs[11]? = some (.ref P)/\vs.getD 11 .none=.ref P/\vs.getD 18 .none=.str file tf /\
 vs.getD 7 .none=.int flags tg/\vs.getD 9 .none=.bool inF/\vs.getD 10 .none=.int text tt/\c≠P
noncomputable def re (K:PySem.W.Frag)(x:Str):Prop:=∃c P,tabIn K x=some (c,P)/\FR K c P
noncomputable def zL (H:Hp)(f:Addr)(q:Str)(params:Arguments)(body:Expr)(scope:Scope)(cl:List (Str×Addr)):Prop :=
 ∃pm c ctv u oc u' vs t,H f=some (.frz (kla_obj "<lambda>" q params body scope cl pm c ctv) u)/\H c=some (.frz oc u')/\oc.data=.fields vs/\vs[1]? = some (.str q t)
theorem zL.mono {H H':Hp}{f:Addr}{q:Str}{params:Arguments}{body:Expr}{scope:Scope}{cl:List (Str×Addr)}(h:zL H f q params body scope cl)(e:aM H H'):zL H' f q params body scope cl :=
 let ⟨pm,c,ctv,u,oc,u',vs,t,h1,h2,h3,h4⟩:=h;⟨pm,c,ctv,u,oc,u',vs,t,e _ _ h1,e _ _ h2,h3,h4⟩
theorem lam_mk {K:PySem.W.Frag}{x:Str}{f c P:Addr}{oc:Value}{od od':Option Addr}{osl osl':Array (Option Value)}{fd:FuncData}{vs:Array Value}{file:Str}{tf tg tt:Tok}{flags text:Int}{inF:Bool}(e1:PySem.W.nsIn K mainGlobals x=some (some (.ref f)))(e2:K.lookup f=some ⟨oc,od,.func fd,osl⟩)
  (e3:fd.code=.ref c) (e4:K.lookup c=some ⟨.type "code",od',.fields vs,osl'⟩) (e5:vs[11]? = some (.ref P)) (e6:vs.getD 11 .none=.ref P) (e7:vs.getD 18 .none=.str file tf) (e8:vs.getD 7 .none=.int flags tg) (e9:vs.getD 9 .none=.bool inF) (e10:vs.getD 10 .none=.int text tt) (e11:(c == P)=false):re K x :=
 ⟨c,P,tab_yes e1 e2 e3 e4 e5,_,vs,file,tf,flags,tg,inF,text,tt,e4,rfl,rfl,e5,e6,e7,e8,e9,e10,λz=>by rw[z]at e11;simp at e11⟩
theorem vk {pos:Pos}{a b:Int}{c cv:Value}(l:List Value)(h:TriplesOk l)(e:codeAmong pos (l++[rawInt a,rawInt b,c])=some cv):codeAmong pos l=some cv∨cv=c:=by
 fun_induction TriplesOk l with
 |case1=>
  simp only[List.nil_append,rawInt,codeAmong]at e;split at e
  ·cases e;exact .inr rfl
  ·cases e
 |case2 a' t b' u x aC ih=>
  simp only[List.cons_append,codeAmong]at e ⊢;split at e
  ·rename_i hc;rw[if_pos hc];exact .inl e
  ·rename_i hc;rw[if_neg hc];exact ih h e
 |case3 l h1 h2=>exact h.elim
section
variable {X:Cx}{pins:List (Addr×Obj)}{σ:St}{H:Hp}{s:Shared}
theorem zM {x:Str}{params:Arguments}{body:Expr}{scope:Scope}{pos:Pos}{cl:List (Str×Addr)}{Q:Value->Shared->Prop}{E:Value->Shared->Prop}
  (hx:x∈jP) (L:re X.K x) (hc:∀c P,tabIn X.K x=some (c,P)->X.env.code=.ref c) (hq:X.env.qual ++ "<lambda>" = mE x) (hdef:defaultsOf params X.env=([],[])) (hcl:closureFor scope X.env=pure cl)
  (I:Inv X pins σ H s) (tb:Tb X.K H) (k:∀f H' s',Inv X pins σ H' s'->aM H H'->zL H' f (mE x) params body scope cl->Q (.ref f) s'):
  wpAny (model X.prog X.w) X.A (eval (.Lambda params body scope pos) X.env) Q E s:=by
 refine kla_eval hdef ?_;rw[hq];obtain⟨c,P,ht,o,vs,file,tf,flags,tg,inF,text,tt,lk,ck⟩:=L;have hcode:=hc c P ht;have hP:=tb x hx c P ht;obtain⟨ps,e,tr,co⟩:=I.hok P _ hP;have C:CodeHd s.heap c P:=⟨o,vs,file,tf,flags,tg,inF,text,tt,I.kIn c o lk,ck⟩;have hg:s.heap.Ns mainGlobals X.mg:=I.mod.glob.keeps I.bk;have nP:∀b,H b=none->b≠P:=λb n z=>by rw[z,hP]at n;cases n
 have hgP:mainGlobals≠P:=by
  obtain⟨og,_,_,eg,_⟩:=I.mod.glob;exact nP _ (I.bs _ _ eg).2
 have hb:s.heap.BuiltinsAt X.mg P:=by
  obtain⟨bm,ob,b1,b2,b3,b4,b5,b6⟩:=I.mod.bmain;refine⟨bm,ob,b1,b2,λz=>?_,nP _ (I.bs _ _ b3).2,I.bk _ _ b3,b4,b5,b6⟩;obtain⟨og,es,ep,eg,dg,_⟩:=I.mod.glob;rw[z,eg]at b3;cases b3;rw[dg]at b6;cases b6
 cases hf:codeAmong pos ps.toList with
 |some cv=>
  obtain⟨c',oc,u,ws,t,rfl,hH,hd,hv⟩:=co pos cv hf;refine kla_makeFunctionHit (mg:=X.mg) hcl I.ok.glob hg hcode C e tr hf hb λctv h' tk hk hsz=>?_;have hn:H h'.objs.size=none:=I.hok.fresh hsz;have sm:aM H (upd H h'.objs.size (.frz (kla_obj "<lambda>" (mE x) params body scope cl ((X.mg "__name__").getD .none) c' ctv) (.own h'.objs.size))):=λb u q=>by rw[aB (aN q hn)];exact q
  refine k _ _ _ (I.laid (t':=tk) (λb u q=>Heap.get?_push_of_some _ (hk b u q)) hsz (show bA X.prog X.w _ _ _ (.frz _ (.own h'.objs.size))from ⟨Heap.get?_push_size _ rfl,_,Heap.get?_push_size _ rfl⟩)) sm ?_;exact⟨_,c',ctv,_,oc,u,ws,t,a0,sm _ _ hH,hd,hv⟩
 |none=>
  refine kla_makeFunction (mg:=X.mg) hcl I.ok.glob hg hcode C e tr hf hgP hb λc' ctv h' tk hx' hge hlt hrec htb=>?_;obtain⟨c2,oc,ws,t,e2,hoc,hd,hv⟩:=hrec;cases e2
  have hnc:H c'=none:=I.hok.fresh hge;have hsz:s.heap.objs.size<=h'.objs.size:=Nat.le_trans hge (Nat.le_of_lt hlt);have hnf:H h'.objs.size=none:=I.hok.fresh hsz;have ncf:c'≠h'.objs.size:=Nat.ne_of_lt hlt;let fo:Obj:=kla_obj "<lambda>" (mE x) params body scope cl ((X.mg "__name__").getD .none) c' ctv;let H1:Hp:=upd (upd H c' (.frz oc (.own c'))) h'.objs.size (.frz fo (.own h'.objs.size));have sm:aM H H1:=λb u q=>by
   show upd _ _ _ b=_;rw[aB (aN q hnf),aB (aN q hnc)];exact q
  have H1c:H1 c'=some (.frz oc (.own c')):=by show upd _ _ _ c'=_;rw[aB ncf,a0]
  have keep:∀b u,b≠P->s.heap.get? b=some u->(h'.push fo).get? b=some u:=λb u n q=>Heap.get?_push_of_some _ (hx' b u n q);have lt:∀b u,s.heap.get? b=some u->b≠c'/\b≠h'.objs.size:=λb u q=>⟨Nat.ne_of_lt (Nat.lt_of_lt_of_le (Heap.lt_size q) hge),Nat.ne_of_lt (Nat.lt_of_lt_of_le (Heap.lt_size q) hsz)⟩;have htb':(h'.push fo).get? P=some (tabObj (ps++#[rawInt pos.line,rawInt pos.col,.ref c'])):=Heap.get?_push_of_some _ htb;refine k _ H1 _ (I.un (t':=tk) (h':=h'.push fo) ⟨λb u q n _ _=>keep b u (nP b n) q,λb u q n _ _=>⟨u.slots,keep b u (nP b n) q⟩,λb u q n _=>?_,λb u q _=>?_,λb xs q=>sm _ _ q,λb ob u q=>sm _ _ q,λb u q=>sm _ _ q⟩ λb u q=>?_) sm ⟨_,c',ctv,_,oc,_,ws,t,a0,H1c,hd,hv⟩
  ·show upd _ _ _ b=_;rw[aB (lt b u q).2,aB (lt b u q).1];exact n
  ·by_cases z:b=P
   ·subst z;exact⟨_,htb'⟩
   ·exact⟨u,keep b u z q⟩
  ·by_cases z1:b=h'.objs.size
   ·subst z1;have q':some (HO.frz fo (.own h'.objs.size))=some u:=by rw[←q];exact a0.symm
    cases q'
    exact⟨Heap.get?_push_size _ rfl,_,Heap.get?_push_size _ rfl⟩
   ·by_cases z2:b=c'
    ·subst z2;rw[H1c]at q;cases q;exact⟨Heap.get?_push_of_some _ hoc,_,Heap.get?_push_of_some _ hoc⟩
    ·have q':H b=some u:=by
      have:H1 b=H b:=by show upd _ _ _ b=_;rw[aB z1,aB z2]
      rw[←this];exact q
     by_cases z3:b=P
     ·subst z3;rw[hP]at q';cases q';refine⟨_,htb',?_,λpos' cv' ea=>?_⟩
      ·rw[Array.toList_append];exact TriplesOk_snoc _ _ _ _ tr
      ·rw[Array.toList_append]at ea;rcases vk _ tr ea with ea|rfl
       ·obtain⟨c3,oc3,u3,vs3,t3,y1,y2,y3⟩:=co pos' cv' ea;exact⟨c3,oc3,u3,vs3,t3,y1,sm _ _ y2,y3⟩
       ·exact⟨c',oc,_,ws,t,rfl,H1c,hd,hv⟩
     ·refine(I.hok b u q').stay (λd v hd' r=>keep d v ?_ r) (λd r=>sm _ _ r) (λd xs r=>sm _ _ r) λd ob v r=>sm _ _ r;rcases hd' with rfl|r
      ·exact z3
      ·intro z;rw[z,hP]at r;cases r
end
section
variable {P:Program}{w:World}{K:PySem.W.Frag}{mg:Str->Option Value}{base:Heap}
theorem Def.fnL {x:Str}{st:Stmt}{N ps:List Str}{k:Nat}{g:FS}{h:Heap}(F:Def K x st)(X:K.In h)(G:h.Ns mainGlobals mg)(S:FnScope N ps (aJ st))
  (hbd:∀(kV doc pm:Value)(an:Option Addr)(cdv ct:Value)(us:List Value),us.length=ps.length->bindArgs (PySem.W.fnOf x x (eW st) (cm st) (aJ st) .none kV doc pm an cdv ct) ⟨us,[]⟩=pure (ps.zip us))
  (hb:∀(f:Addr)(cdv:Value)(A:Around)(outer:List PySem.Env)(s:Shared)(H:Hp)(E:XK),(∀c P,tabIn K x=some (c,P)->cdv=.ref c)->Room k (A.deeper (envOfC x (aJ st) s.heap.objs.size f cdv))->JSs (lW CX0 P w K mg base N x (aJ st) f cdv A outer s H E).nox (cm st) g):
  Fn P w K mg base (k+1) x (aU g ps.length (N.length - ps.length)):=by
 obtain⟨f,fd,F1,a⟩:=F;have F2:=F1;obtain⟨oc,od,kV,doc,pm,an,cdv,ct,osl,rfl,lk,hcd⟩:=F2.ex;have hc:∀c P,tabIn K x=some (c,P)->cdv=.ref c:=λc P e=>by
  unfold tabIn at e;simp only[a,lk]at e;split at e
  ·rename_i c' _;split at e
   ·split at e
    ·cases e;rfl
    ·cases e
   ·cases e
  ·cases e
 have len:∀vs H Q E,spD K (aU g ps.length (N.length - ps.length)) vs H Q E->vs.length=ps.length:=λvs H Q E h=>by
  obtain⟨B,ds,d,b,sB,i,e,q⟩:=h;unfold aU at e;split at e
  ·rename_i hl;rw[i.length];exact hl
  ·cases e
 refine⟨f,_,ps,Cv lk hcd S len λA outer s H vs Q E hr h=>⟨_,PSs.nox (hb f cdv A outer s H E hc hr),?_⟩,PySem.W.mg_of X G a,F1.kp,F1.binds hbd⟩;have hlen:=len vs H Q E h;obtain⟨B,ds,d,b,sB,i,e,q⟩:=h;unfold aU at e;rw[if_pos (by rw[←i.length];exact hlen)]at e;have s0:=sf (N:=N) sB.1 sB.2 i;rw[hlen]at s0;split at e
 ·rename_i d' b' eg;cases e
  exact⟨B,H,_,_,⟨B,s0⟩,eg,λv H' N' x' i' f'=>q v H' N' x' i' f'⟩
 ·rename_i ρ' eg;cases e
  exact⟨B,H,_,_,⟨B,s0⟩,eg,λσ' H' ⟨N',s'⟩=>q .non H' N' s'.ext .non (by simp)⟩
 ·cases e
end
inductive LCaps (X:Cx)(N':List Str)(scope:Scope)(cl:List (Str×Addr)):Nat->List Nat->Prop where
 |nil {j:Nat}(h:N'.length=j):LCaps X N' scope cl j []
 |cons {j i:Nat}{r:List Nat}{x:Str}(h1:N'[j]? = some x) (h2:X.N[i]? = some x) (h3:X.env.kindOf x=some .cell∨X.env.kindOf x=some .free)
   (h4:scope.names.lookup x=some .free) (h5:cl.lookup x=X.env.cells.lookup x) (t:LCaps X N' scope cl (j+1) r):LCaps X N' scope cl j (i::r)
theorem LCaps.len {X:Cx}{N':List Str}{scope:Scope}{cl:List (Str×Addr)}:∀ {j:Nat}{cap:List Nat},LCaps X N' scope cl j cap->N'.length=j+cap.length
 |_,_,.nil h=>by rw[h];rfl
 |j,i::r,.cons _ _ _ _ _ t=>by rw[t.len,List.length_cons];omega
theorem LCaps.get {X:Cx}{N':List Str}{scope:Scope}{cl:List (Str×Addr)}:∀ {j:Nat}{cap:List Nat}{k i:Nat},LCaps X N' scope cl j cap->cap[k]? = some i->∃x,N'[j+k]? = some x/\X.N[i]? = some x/\(X.env.kindOf x=some .cell∨X.env.kindOf x=some .free) /\
  scope.names.lookup x=some .free/\cl.lookup x=X.env.cells.lookup x
 |_,_,_,_,.nil _,e=>by simp at e
 |j,_,0,_,.cons h1 h2 h3 h4 h5 _,e=>by simp at e;subst e;exact⟨_,h1,h2,h3,h4,h5⟩
 |j,_,k+1,i,.cons _ _ _ _ _ t,e=>by
  obtain⟨x,q,r⟩:=t.get (k:=k) (i:=i) (by simpa using e);exact⟨x,by rw[show j+(k+1)=j+1+k by omega];exact q,r⟩
noncomputable abbrev tz (X:Cx)(N':List Str)(scope:Scope)(cl:List (Str×Addr))(q:Str)(A:Around)(f c:Addr)(s:Shared)(H:Hp):Cx :=
 { X with A:=A.deeper (envX q scope s.heap.objs.size f (.ref c) cl),N:=N',s₀:=s,H₀:=H,env:=envX q scope s.heap.objs.size f (.ref c) cl,outer:=X.stack,stack:=envX q scope s.heap.objs.size f (.ref c) cl::X.stack,ex:=[],fn:=λ_=>false,calm:=true,pn:=[],xe:=λ_ _=>False }
structure LamSc (X:Cx)(scope:Scope)(cl:List (Str×Addr))(y:Str):Prop where
 clos:closureFor scope X.env=pure cl
 nocell:∀z∈scope.names,z.2≠.cell
 kind:scope.kind=.function
 co:scope.isCoroutine=false
 gen:scope.isGenerator=false
 par:scope.names.lookup y=some .local
 sub:∀x c,cl.lookup x=some c->X.env.cells.lookup x=some c
 has:∀x,scope.names.lookup x=some .free->∃c,cl.lookup x=some c
theorem zN {X:Cx}{scope:Scope}{y:Str}(h1:∀z∈scope.names,z.2≠.cell)(h2:scope.kind=.function)(h3:scope.isCoroutine=false)(h3':scope.isGenerator=false)(hp:scope.names.lookup y=some .local)
  (h4':(scope.names.all λz=>!(z.2 == NameKind.free) || (X.env.cells.lookup z.1).isSome)=true):LamSc X scope (cW scope.names X.env.cells []) y:=by
 have h4:∀z∈scope.names,z.2=.free->(X.env.cells.lookup z.1).isSome=true:=λz hz e=>by
  have:=List.all_eq_true.mp h4' z hz;rw[e]at this;simpa using this
 exact⟨pi scope.names [] h4,h1,h2,h3,h3',hp,λx c e=>jQ scope.names [] (λy d q=>by cases q) e,λx h=>by
  have:=jR (x:=x) scope.names [] (eF h) (h4 _ (eF h) rfl);exact Option.isSome_iff_exists.mp this⟩
section
variable {X:Cx}{pins:List (Addr×Obj)}{σ:St}{H:Hp}{s:Shared}{A:Around}{N':List Str}{scope:Scope}{cl:List (Str×Addr)}{q y:Str}{cap:List Nat}
theorem BE {f c:Addr}{v:V}{u:Value}{h₁:Heap}{tk:Nat}(S:LamSc X scope cl y)(N0:N'[0]? = some y)(cp:LCaps X N' scope cl 1 cap)(I:Inv X pins σ H s)(hA:A.frames=some X.stack)(hh:A.handled=none)(r:aL v u)
  (hns:h₁.Ns s.heap.objs.size (λx=>[(y,u)].reverse.lookup x)) (hk:∀b o,s.heap.get? b=some o->h₁.get? b=some o):
  Inv (tz X N' scope cl q A f c s H) [] (some v::oE 0 cap σ) H { s with heap:=h₁,toks:=tk }:=by
 have noA:∀b:Addr,b∉(tz X N' scope cl q A f c s H).ex:=λb z=>absurd (show b∈([]:List Addr)from z) (by simp);refine⟨⟨I.ok.mod,S.kind,rfl,rfl,Nat.le_refl _,λx z d e1 e2=>I.ok.inj x z d (S.sub _ _ e1) (S.sub _ _ e2),λx hx=>?_,(λx d e=>by cases e),λ_=>hh,Around.frames_deeper hA,.inr ⟨rfl,rfl⟩,λb z=>absurd z (noA b),I.bs,Nat.le_trans I.ok.bsz I.sz,λb _ _=>noA b,λb z=>absurd z (noA b),I.stack,I.stkFree⟩,
  rfl,I.bare,Un.kept hk,⟨_,hns,λi x v' e1 e2 e3=>?_⟩,λx d e=>?_,I.hok.fresh (Nat.le_refl _),λx d e=>I.freeC x d (S.sub _ _ e),λp hp=>absurd (show p∈([]:List (Addr×Obj))from hp) (by simp),I.hok.kept hk,?_⟩
 ·have hx':scope.names.lookup x=some .cell∨scope.names.lookup x=some .free:=hx;rcases hx' with hx'|hx'
  ·exact absurd rfl (S.nocell _ (eF hx'))
  ·exact S.has x hx'
 ·cases i with
  |zero=>
   have e1':N'[0]? = some x:=e1;rw[N0]at e1';cases e1';have e2':some v=some v':=by simpa using e2
   cases e2'
   exact⟨u,r,.inl ⟨S.par,by simp⟩⟩
  |succ k=>
   have e2':(oE 0 cap σ)[k]? = some (some v'):=by simpa using e2
   obtain⟨k',i',hk',g1,g2⟩:=qG e2';have:k=k':=by omega
   subst this;obtain⟨x',n1,n2,n3,n4,n5⟩:=cp.get g1;have:x'=x:=by
    have e1':N'[k+1]? = some x:=e1;rw[show 1+k=k+1 by omega]at n1;rw[n1]at e1';exact Option.some.inj e1'
   subst this;have g2':σ[i']? = some (some v'):=by
    cases z:σ[i']? with
    |none=>rw[z]at g2;cases g2
    |some w=>rw[z]at g2;cases w with
     |none=>cases g2
     |some w=>cases g2;rfl
   obtain⟨m,_,hl⟩:=I.loc;obtain⟨u',ru,lk⟩:=hl i' x' v' n2 g2' (by
    rcases n3 with n3|n3
    ·exact .inr (.inl n3)
    ·exact .inr (.inr n3))
   refine⟨u',ru,.inr ⟨.inr n4,?_⟩⟩;rcases lk with⟨l1,_⟩|⟨_,d,l2,l3⟩
   ·rcases n3 with n3|n3<;>(rw[l1]at n3;cases n3)
   ·obtain⟨ob,ho,hd⟩:=l3;exact⟨d,by show cl.lookup x'=_;rw[n5];exact l2,ob,hk _ _ ho,hd⟩
 ·obtain⟨w,ob,ho,hd⟩:=I.cell x d (S.sub _ _ e);exact⟨w,ob,hk _ _ ho,hd⟩
 ·have:=cp.len;show(some v::oE 0 cap σ).length=N'.length;unfold oE;rw[this];simp;omega
theorem BF {f:Addr}{params:Arguments}{body:Expr}{fb:FE}{B:Hp}{ρ:Env}{v:V}{u:Value}{d d':D}{b':Bool}{Q:VK}(S:LamSc X scope cl y)(N0:N'[0]? = some y)(cp:LCaps X N' scope cl 1 cap)(I:Inv X pins σ H s)
  (hA:A.frames=some X.stack) (hh:A.handled=none) (hroom:A.depth<recursionLimit) (lv:zL H f q params body scope cl)
  (hbind:∀pm c ctv u,bindArgs (kla_fn "<lambda>" q params body scope cl pm (.ref c) ctv) ⟨[u],[]⟩=pure [(y,u)])
  (hb:∀(f c:Addr)(s:Shared)(H:Hp),JE (tz X N' scope cl q A f c s H) body fb)
  (rep:RepE X.K B σ ρ) (sB:aM B H) (r:aL v u) (i:Is X.K B v d) (e:fb (some (d,false)::bW 0 cap ρ)=some (d',b')) (qf:Fin X.K B H d' b' Q):
  wpAny (model X.prog X.w) A (call (.ref f) [u]) (EP X pins σ Q) (λ_ _=>False) s:=by
 obtain⟨pm,c,ctv,uf,oc,u',ws,t,hf,hc,hd,hv⟩:=lv;have ho:=(I.hok f _ hf).1;have hoc:=(I.hok c _ hc).1;refine wpAny_call (codeAny_mono (R:=λr s'=>CR CX0 X.stack X.prog X.w H s Q (λ_ _ _=>False) r s') ?_ λr s' hq=>?_)
 ·refine kla_callFunE hroom ho rfl S.co S.gen rfl ⟨c,oc,ws,t,rfl,hoc,hd,hv⟩ ?_;rw[hbind];refine wY (wpAny_newFunctionEnv S.nocell (λz hz=>by rw[List.mem_singleton.mp hz];exact S.par) (λh₁ hns hsb=>⟨I.nolimit.fresh _ hsb,?_⟩) S.kind);have hk₁:∀b o,s.heap.get? b=some o->h₁.get? b=some o:=λb o e=>hsb.extBut b o (Nat.ne_of_lt (Heap.lt_size e)) (Heap.get?_push_of_some _ e);have J:=BE (f:=f) (c:=c) (q:=q) (tk:=s.toks+1) S N0 cp I hA hh r hns hk₁;refine kla_codeExpr (wpAny_mono (hb f c s H [] _ _ H Q J ⟨B,_,d',b',sB,⟨rep.tb,λj e0 b0 z=>?_⟩,e,qf⟩) (λw s' hw=>?_) λ_ _ z=>z.elim)
  ·cases j with
   |zero=>
    have z':some (d,false)=some (e0,b0):=by simpa using z
    cases z'
    exact⟨v,rfl,i⟩
   |succ j=>
    obtain⟨w,h1,h2⟩:=(rep.caps (nT:=0) (cap:=cap)).at' j e0 b0 (by simpa using z);exact⟨w,by simpa using h1,h2⟩
  ·obtain⟨v',H',J',rv,qv⟩:=hw;exact⟨v',H',J'.os,J'.bare,J'.base,J'.hok,rv,qv⟩
 ·cases r with
  |error e=>exact False.elim hq
  |ok fl=>
   cases fl with
   |ret w=>exact I.after hq
   |next=>exact False.elim hq
   |brk=>exact False.elim hq
   |cont=>exact False.elim hq
end
end DL
namespace DL
open PySem PySem.Spec PySem.W PyProof.Rows L2
section
variable {X:Cx}{pins:List (Addr×Obj)}{σ:St}{H:Hp}{s:Shared}{h':Heap}{t':Nat}
theorem lg {p:Addr}{o:Obj}(I:Inv X ((p,o)::pins) σ H s):∀x c,X.env.cells.lookup x=some c->c≠p:=λx c e z=>by
 have pf:=I.pin (p,o) (mY _ mX);obtain⟨v,ob,ho,hd⟩:=I.cell x c e;rw[z,pf.1]at ho;cases ho;exact pf.2.2.2.2 v hd
theorem iO {p:Addr×Obj}(I:Inv X (p::pins) σ H s):Inv X pins σ H s:=I.pins_of λq hq=>I.pin q (mY _ (mZ _ hq))
theorem fw {p:Addr}{o o':Obj}(I:Inv X ((p,o)::pins) σ H s)(h0:X.s₀.heap.objs.size<=p)(hp:∀q∈X.pn++pins,q.1≠p)(k:∀b u,b≠p->s.heap.get? b=some u->h'.get? b=some u)(e':h'.get? p=some o')(nc:∀v,o'.data≠.cell v):
  Inv X ((p,o')::pins) σ H { s with heap:=h',toks:=t' }:=by
 have pf:=I.pin (p,o) (mY _ mX);have J:=(iO I).turned (t':=t') k pf.2.1 pf.2.2.1 (.inr h0) (lg I) hp;refine J.pins_of λq hq=>?_;rcases List.mem_cons.mp hq with rfl|hq
 ·exact⟨e',pf.2.1,pf.2.2.1,pf.2.2.2.1,nc⟩
 ·exact J.pin q (mY _ hq)
theorem mq {p:Addr}{o:Obj}(I:Inv X pins σ H s)(k:∀b u,s.heap.get? b=some u->h'.get? b=some u)(hs:s.heap.objs.size<=p)(e':h'.get? p=some o)(nc:∀v,o.data≠.cell v):Inv X ((p,o)::pins) σ H { s with heap:=h',toks:=t' }:=by
 have J:=I.kept (t':=t') k;refine J.pins_of λq hq=>?_;rcases List.mem_cons.mp hq with rfl|hq
 ·exact⟨e',I.hok.fresh hs,Nat.ne_of_gt (Nat.lt_of_lt_of_le I.lt hs),I.nofs hs,nc⟩
 ·exact J.pin q (mY _ hq)
theorem BG {p:Addr}{o:Obj}{ob:HO}(I:Inv X ((p,o)::pins) σ H s)(h0:X.s₀.heap.objs.size<=p)(hp:∀q∈X.pn++pins,q.1≠p)(k:∀b u,b≠p->s.heap.get? b=some u->h'.get? b=some u)(eo:∃u,h'.get? p=some u)
  (new:bA X.prog X.w (upd H p ob) h' p ob):Inv X pins σ (upd H p ob) { s with heap:=h',toks:=t' }:=by
 have pf:=I.pin (p,o) (mY _ mX);have hn:=pf.2.1;have hn:H p=none:=hn;have cs:=lg I;refine(iO I).step (g':=s.gens) (d':=s.drawn) (ch:=[p]) (λb hb=>?_) (λb u _ _ hc e _=>k b u (λz=>hc (by simp[z])) e) (λb u _ _ hc e _=>⟨u.slots,k b u (λz=>hc (by simp[z])) e⟩) (λb u hc _ n=>by rw[aB (λz=>hc (by simp[z]))];exact n)
  (λb u hc e=>⟨u,k b u (λz=>hc (by simp[z])) e⟩) (λb xs e=>by rw[aB (aN e hn)];exact e) (λb u w e=>by rw[aB (aN e hn)];exact e) (λb q e=>by rw[aB (aN e hn)];exact e) (λm hm=>?_) (λb u e=>?_) I.bare
 ·have z:b=p:=by simpa using hb
  subst z;exact⟨.inr h0,pf.2.2.1,cs,hp⟩
 ·obtain⟨ol,es,ep,ho,r⟩:=hm;exact⟨ol,es,ep,k _ ol (λz=>pf.2.2.1 z.symm) ho,r⟩
 ·by_cases z:b=p
  ·subst z;rw[a0]at e;cases e;exact new
  ·rw[aB z]at e;refine(I.hok b u e).stay (λc v hc q=>k c v ?_ q) (λc q=>?_) (λc xs q=>?_) λc w xs q=>?_
   ·rcases hc with rfl|hc
    ·exact z
    ·exact aN hc hn
   ·rw[aB (aN q hn)];exact q
   ·rw[aB (aN q hn)];exact q
   ·rw[aB (aN q hn)];exact q
end
noncomputable def zO (X:Cx)(A:Around)(σ:St)(qv:Value)(B H1:Hp)(kf:D->Option D):Prop :=
 ∀(pins:List (Addr×Obj))(s:Shared)(H N:Hp)(v:V)(u:Value)(d d':D),Inv X pins σ H s->aM H1 H->aM B N->aM N H->Is X.K N v d->aL v u->kf d=some d' ->
  wpAny (model X.prog X.w) A (call qv [u]) (EP X pins σ λv' H'=>∃N',Ext N N' H H'/\Is X.K N' v' d') (λ_ _=>False) s
noncomputable def JK (X:Cx)(A:Around)(e:Expr)(kf:Env->D->Option D):Prop:=∀(pins:List (Addr×Obj))(s:Shared)(σ:St)(H B:Hp)(ρ:Env)(Q:Value->Shared->Prop)(E:Value->Shared->Prop),Inv X pins σ H s->aM B H->RepE X.K B σ ρ ->
 (∀qa H1 s1,Inv X pins σ H1 s1->aM H H1->zO X A σ (.ref qa) B H1 (kf ρ)->Q (.ref qa) s1)->wpAny (model X.prog X.w) X.A (eval e X.env) Q E s
section
variable {X:Cx}{A:Around}
@[simp] noncomputable def t4 (cap:List Nat)(fb:FE):Env->D->Option D:=λρ d=>(fb (some (d,false)::bW 0 cap ρ)).map (·.1)
theorem vn {x y:Str}{params:Arguments}{body:Expr}{scope:Scope}{pos:Pos}{N':List Str}{cap:List Nat}{fb:FE}(hx:x∈jP)(L:re X.K x)(hc:∀c P,tabIn X.K x=some (c,P)->X.env.code=.ref c)(hq:X.env.qual ++ "<lambda>" = mE x)
  (hdef:defaultsOf params X.env=([],[])) (S:LamSc X scope (cW scope.names X.env.cells []) y) (N0:N'[0]? = some y) (cp:LCaps X N' scope (cW scope.names X.env.cells []) 1 cap) {k:Nat}(hA:A.frames=X.A.frames) (hr:Room (k+1) A)
  (hbind:∀pm c ctv u,bindArgs (kla_fn "<lambda>" (mE x) params body scope (cW scope.names X.env.cells []) pm (.ref c) ctv) ⟨[u],[]⟩=pure [(y,u)])
  (hb:∀(f c:Addr)(s:Shared)(H:Hp),Room k (tz X N' scope (cW scope.names X.env.cells []) (mE x) A f c s H).A->JE (tz X N' scope (cW scope.names X.env.cells []) (mE x) A f c s H) body fb):JK X A (.Lambda params body scope pos) (t4 cap fb):=by
 intro pins s σ H B ρ Q E I sB rep kk;refine zM hx L hc hq hdef S.clos I (rep.tb.mono sB) λf H1 s1 I1 sm lv=>kk f H1 s1 I1 sm ?_;intro pins' s' H' N v u d d' I' m1 m2 m3 iv r e;simp only[t4]at e;obtain⟨⟨d2,b2⟩,e1,e2⟩:=oY e;cases e2
 exact BF S N0 cp I' (hA.trans I'.ok.frames) hr.hd hr.depth (lv.mono m1) hbind (λf c s H=>hb f c s H (hr.deeper _)) (rep.mono m2) m3 r iv e1 λv' H2 N2 x2 i2 _=>⟨N2,x2,i2⟩
@[simp] noncomputable def oM (g:List D->Option (D×Bool)):Env->D->Option D:=λ_ d=>(g [d]).map (·.1)
theorem wI {k:Nat}{x:Str}{g:List D->Option (D×Bool)}{p:Pos}(F:Fn X.prog X.w X.K X.mg X.base k x g)(hr:Room k A)(hA:A.frames=X.A.frames)(hg:Gl X x:=by rfl)(hdb:(x == ("__debug__" : Str))=false:=by decide):JK X A (.Name x p) (oM g):=by
 intro pins s σ H B ρ Q E I sB rep kk;obtain⟨ad,fd,ps,F1,hm,hk,hb⟩:=F.ex;refine qw I hg hm ?_ hdb;refine kk ad H s I (.refl H) ?_;intro pins' s' H' N v u d d' I' m1 m2 m3 iv r e;simp only[oM]at e;obtain⟨⟨d2,b2⟩,e1,e2⟩:=oY e;cases e2
 have sp:spD X.K g [v] H' (λv' H2=>∃N',Ext N N' H' H2/\Is X.K N' v' d2) (λ_ _ _=>False):=⟨N,[d],d2,b2,⟨m3,rep.tb.mono m2⟩,.cons iv .nil,e1,λv' H2 N2 x2 i2 _=>⟨N2,x2,i2⟩⟩;have hl:[u].length=ps.length:=by have:=F1.len _ _ _ _ sp;simpa using this
 have e0:=I'.env0;have bb:=hb s' [u] I'.kIn (by simpa using hl);rw[List.append_nil]at bb;refine wpAny_call (codeAny_mono (F1.run A X.stack s' H' ⟨[u],[]⟩ [u] [v] _ (λ_ _ _=>False) hr ⟨hA.trans e0.frames,e0.mod,e0.bs,e0.bsz,e0.funs,e0.frf,e0.hok,e0.bare⟩ bb (.cons r .nil) sp) λr s' hq=>?_);cases r with
 |error e=>exact False.elim hq
 |ok fl=>
  cases fl with
  |ret w=>exact I'.after hq
  |next=>exact False.elim hq
  |brk=>exact False.elim hq
  |cont=>exact False.elim hq
end
noncomputable def hZ (f:D->Option D):List D->Option (List D)
 |[]=>some []
 |d::ds=>(f d).bind λx=>(hZ f ds).map (x :: ·)
theorem fY {f:D->Option D}:∀ {ds ks:List D},hZ f ds=some ks->ks.length=ds.length
 |[],_,h=>by simp only[hZ]at h;cases h;rfl
 |d::ds,_,h=>by
  simp only[hZ]at h;obtain⟨a,h1,h⟩:=oX h;obtain⟨r,h2,h⟩:=oY h;subst h;simp[fY h2]
theorem kh {f:D->Option D}:∀ {ds ks:List D},hZ f ds=some ks->∀ {i:Nat}{d:D},ds[i]? = some d->∃k,ks[i]? = some k/\f d=some k
 |[],_,h,i,d,e=>by simp at e
 |d::ds,_,h,0,e,q=>by
  simp only[hZ]at h;obtain⟨a,h1,h⟩:=oX h;obtain⟨r,h2,h⟩:=oY h;subst h;simp at q;subst q;exact⟨a,by simp,h1⟩
 |d::ds,_,h,i+1,e,q=>by
  simp only[hZ]at h;obtain⟨a,h1,h⟩:=oX h;obtain⟨r,h2,h⟩:=oY h;subst h;obtain⟨k,z1,z2⟩:=kh h2 (i:=i) (d:=e) (by simpa using q);exact⟨k,by simpa using z1,z2⟩
section
variable {X:Cx}{pins:List (Addr×Obj)}{σ:St}{s:Shared}
theorem pD {x:V}{u:Value}(r:aL x u):∀ {vs:List V}{us:List Value},aQ vs us->aQ (vs++[x]) (us++[u])
 |_,_,.nil=>.cons r .nil
 |_,_,.cons h t=>.cons h (pD r t)
theorem cJ {c:Value}{od:Option Addr}{its:Array Value}{n:Nat}{sl:Array (Option Value)}:∀v,(Obj.mk c od (.seq its n) sl).data≠.cell v:=λv z=>by cases z
theorem vp {A:Around}{E:Value->Shared->Prop}{a:Addr}{n:Nat}{qv:Value}{its:List Value}{vs:List V}{ds kds:List D}{ks:List (List At)}{B H:Hp}{kf:D->Option D}{P:PySem.Fin->Shared->Prop}
  (I:Inv X ((a,seqObj "list" its.toArray n)::pins) σ H s) (h0:X.s₀.heap.objs.size<=a) (hp:∀q∈X.pn++pins,q.1≠a) (kfn:zO X A σ qv B H kf) (rv:aQ vs its) (iv:IsL X.K B vs ds) (sB:aM B H)
  (em:hZ kf ds=some kds) (ek:cP kds=some ks) (hc:c9 ks=true) (hf:bT ks=true) (h64:its.length<64)
  (h:∀(p:Array Nat)(s':Shared)(H' N:Hp),Arr its.length p->Up (rkK ks) p its.length->Inv X pins σ (upd H' a (.lst (p.toList.map λi=>vs.getD i .non))) s'->Ext B N H H'->H' a=none->P (.done (.ret .none)) s'):
  wpAny (model X.prog X.w) A (ksk_tree a qv false) P E s:=by
 have pa:=I.pin (a,seqObj "list" its.toArray n) (mY _ mX)
 have hvl:vs.length=its.length:=rv.length
 have hdl:ds.length=vs.length:=iv.length.symm
 have hkd:kds.length=ds.length:=fY em
 have hks:ks.length=kds.length:=dz ek
 have hz:its.length<=sizeLine:=by rw[sizeLine_eq];omega
 have hna:H a=none:=pa.2.1
 obtain⟨e1,ho1⟩:∃e1,(s.heap.update a (Obj.mapSeq λ_=>(#[]:Array Value))).get? a=some (seqObj "list" #[] e1):=⟨_,get?_update_seq pa.1 λ_=>#[]⟩
 have u1:=Heap.SameBut.update s.heap a (Obj.mapSeq λ_=>(#[]:Array Value))
 have I1:Inv X ((a,seqObj "list" #[] e1)::pins) σ H { s with heap:=s.heap.update a (Obj.mapSeq λ_=>(#[]:Array Value)) }:=fw (t':=s.toks) I h0 hp (λb u n q=>(u1.2 b n).trans q) ho1 cJ
 let h2:Heap:=(s.heap.update a (Obj.mapSeq λ_=>(#[]:Array Value))).push (seqObj "tuple" its.toArray 0)
 have I2:Inv X ((a,seqObj "list" #[] e1)::pins) σ H { s with heap:=h2 }:=I1.kept (t':=s.toks) λb u q=>Heap.get?_push_of_some _ q
 let kS:Addr:=h2.objs.size
 have I3:Inv X ((kS,seqObj "list" #[] 0)::(a,seqObj "list" #[] e1)::pins) σ H { s with heap:=h2.push (seqObj "list" #[] 0) }:=mq (s:={ s with heap:=h2 }) (t':=s.toks) I2 (λb u q=>Heap.get?_push_of_some _ q) (Nat.le_refl _) (Heap.get?_push_size _ rfl) cJ
 have k0:X.s₀.heap.objs.size<=kS:=I2.sz
 have kp:∀q∈X.pn++((a,seqObj "list" #[] e1)::pins),q.1≠kS:=λq hq=>Nat.ne_of_lt (Heap.lt_size (I2.pin q hq).1)
 have kna:kS≠a:=λz=>kp (a,seqObj "list" #[] e1) (mY _ mX) z.symm
 unfold ksk_tree
 refine wX (listItems_at pa.1 rfl ?_)
 refine wX (listUpdate_at pa.1 rfl ?_ (by simpa using hz) (Nat.zero_le _))
 refine wX (seqEpoch_at ho1 rfl ?_)
 refine wX (wpAny_newTuple ?_ (by show its.length<=sizeLine;exact hz))
 refine wX (wpAny_newList ?_ (Nat.zero_le _))
 refine wpAny_holding ?_
 show wpAny (model X.prog X.w) A (ksk_rest a qv false its.toArray e1 (.ref kS)) P E { s with heap:=h2.push (seqObj "list" #[] 0) }
 unfold ksk_rest
 refine wX (wpAny_rule ?_)
 rw[List.forIn_toArray]
 refine wX (ksk_fold (λi s'=>∃(H' N:Hp)(kA:Array Value)(e:Nat)(kvs:List V),Inv X ((kS,seqObj "list" kA e)::(a,seqObj "list" #[] e1)::pins) σ H' s'/\Ext B N H H'/\aQ kvs kA.toList/\IsL X.K N kvs (kds.take i)) its 0 _
  ⟨H,B,#[],0,[],I3,.refl sB,.nil,by simpa using IsL.nil⟩ ?step ?done)
 case step=>
  rintro j u s' hu ⟨H',N,kA,e,kvs,J,x1,rk,ik⟩
  simp only[Nat.zero_add]at ik ⊢
  have hj:j<its.length:=(List.getElem?_eq_some_iff.mp hu).1
  obtain⟨d,hd⟩:∃d,ds[j]? = some d:=⟨_,List.getElem?_eq_getElem (by omega)⟩
  obtain⟨v,hv,iv'⟩:=iv.get hd
  obtain⟨kd,hkj,hkf⟩:=kh em hd
  obtain⟨u',hu',ru⟩:=rv.get hv
  rw[hu]at hu';cases hu'
  have kl:kA.size=j:=by
   have z1:=rk.length
   have z2:=ik.length
   rw[List.length_take]at z2
   rw[Array.length_toList]at z1
   exact z1.symm.trans (z2.trans (Nat.min_eq_left (by omega)))
  refine wX (wpAny_attempt (wpAny_mono (kfn _ s' H' N v u d kd J x1.hh x1.bn x1.nh (iv'.mono x1.bn) ru hkf) (λw s'' hw=>?_) λ_ _ hF=>hF.elim))
  obtain⟨v',H'',J',rv',N',x2,i2⟩:=hw
  have pk:=J'.pin (kS,seqObj "list" kA e) (mY _ mX)
  obtain⟨c2,hc2⟩:∃c2,(s''.heap.update kS (Obj.mapSeq (·.push w))).get? kS=some (seqObj "list" (kA.push w) c2):=⟨_,get?_update_seq pk.1 (·.push w)⟩
  have u2:=Heap.SameBut.update s''.heap kS (Obj.mapSeq (·.push w))
  refine wX (listUpdate_at pk.1 rfl ?_ (by rw[sizeLine_eq];omega) (Nat.le_trans (Nat.le_of_eq (Array.size_push ..)) (by rw[sizeLine_eq];omega)))
  refine wY ⟨rfl,H'',N',kA.push w,c2,kvs++[v'],fw (t':=s''.toks) J' k0 kp (λb q n z=>(u2.2 b n).trans z) hc2 cJ,x1.trans x2,?_,?_⟩
  ·rw[Array.toList_push];exact pD rv' rk
  ·rw[List.take_add_one,hkj];exact(ik.mono x2.bn).append (.cons i2 .nil)
 case done=>
  rintro s' ⟨H',N,kA,e,kvs,J,x1,rk,ik⟩
  have ik':IsL X.K N kvs kds:=by
   have z:kds.take (0+its.length)=kds:=List.take_of_length_le (by omega)
   rw[z]at ik;exact ik
  have pk:=J.pin (kS,seqObj "list" kA e) (mY _ mX)
  have pa':=J.pin (a,seqObj "list" #[] e1) (mY _ (mZ _ mX))
  have hn':H' a=none:=pa'.2.1
  have kz:kA.toList.length=its.length:=by rw[←rk.length,ik'.length];omega
  have kz':kA.size=its.length:=by rw[←Array.length_toList];exact kz
  refine wX (listItems_at pk.1 rfl ?_)
  have hkp:Paired (eJ s'.heap) ks kA.toList:=mo J rk (ik'.mono x1.nh) ek
  -- the end of the sort,for a permutation p
  have ends:∀(st:SortSt)(p:Array Nat),arrOf st=p.map (kas_item (kA.toList.toArray.zip its.toArray))->failedOf st=none->Arr its.length p->Up (rkK ks) p its.length ->
    wpAny (model X.prog X.w) A (ksk_tail a false e1 (.ref kS) st) P E s':=λst p ea ef ap up=>by
   have eo:(arrOf st).map (·.2)=List.toArray (p.toList.map λi=>its.getD i Value.none):=kat_snds kz ea
   have hin:∀i∈p.toList,i<vs.length:=λi hi=>by
    have:=List.mem_range.mp (ap.perm.mem_iff.mp hi)
    omega
   obtain⟨c3,hc3⟩:∃c3,(s'.heap.update kS (Obj.mapSeq λ_=>(#[]:Array Value))).get? kS=some (seqObj "list" #[] c3):=⟨_,get?_update_seq pk.1 λ_=>#[]⟩
   have u3:=Heap.SameBut.update s'.heap kS (Obj.mapSeq λ_=>(#[]:Array Value))
   have J3:=iO (fw (t':=s'.toks) J k0 kp (λb q n z=>(u3.2 b n).trans z) hc3 cJ)
   have pa3:=J3.pin (a,seqObj "list" #[] e1) (mY _ mX)
   obtain⟨c4,hc4⟩:∃c4,((s'.heap.update kS (Obj.mapSeq λ_=>(#[]:Array Value))).update a (Obj.mapSeq λ_=>(arrOf st).map (·.2))).get? a=some (seqObj "list" ((arrOf st).map (·.2)) c4):=⟨_,get?_update_seq pa3.1 λ_=>(arrOf st).map (·.2)⟩
   have u4:=Heap.SameBut.update (s'.heap.update kS (Obj.mapSeq λ_=>(#[]:Array Value))) a (Obj.mapSeq λ_=>(arrOf st).map (·.2))
   have so:((arrOf st).map (·.2)).size=its.length:=by rw[eo];simp only[List.size_toArray,List.length_map,Array.length_toList,ap.size]
   unfold ksk_tail
   try dsimp only
   refine wX (listUpdate_at pk.1 rfl ?_ (by rw[kz',sizeLine_eq];omega) (Nat.zero_le _))
   refine wX (wpAny_letGo ?_)
   refine wX (seqEpoch_at pa3.1 rfl ?_)
   refine wX (listUpdate_at pa3.1 rfl ?_ (Nat.zero_le _) (by simp only[Bool.false_eq_true,if_false];rw[so,sizeLine_eq];omega))
   rw[ef]
   simp only[bne_self_eq_false,Bool.false_eq_true,if_false]
   refine wY (h p _ H' N ap up (BG (s:={ s' with heap:=s'.heap.update kS (Obj.mapSeq λ_=>(#[]:Array Value)) }) (t':=s'.toks) J3 h0 hp (λb q n z=>(u4.2 b n).trans z) ⟨_,hc4⟩ ?_) x1 hn')
   refine⟨by rw[List.length_map,Array.length_toList,ap.size];exact hz,p.toList.map λi=>its.getD i Value.none,c4,lf rv p.toList hin,?_⟩
   rw[←eo];exact hc4
  unfold ksk_end
  try dsimp only
  simp only[Bool.false_eq_true,if_false]
  have ekA:kA=kA.toList.toArray:=by simp
  by_cases h2':its.toArray.size<2
  ·rw[if_pos h2',if_pos h2']
   refine wX (wY ?_)
   rw[StateT.run_pure]
   refine wX (wY ?_)
   have hsm:its.length<2:=by simpa using h2'
   refine ends _ (List.toArray (List.range its.length)) ?_ rfl ⟨by simp,by simp⟩ ?_
   ·show kA.zip its.toArray=_
    have:=kas_range (kA.toList.toArray.zip its.toArray)
    rw[show(kA.toList.toArray.zip its.toArray).size=its.length by simp[kz']]at this
    rw[this]
   ·intro i j hij hj
    have:i=j:=by omega
    subst this;exact Int.le_refl _
  ·rw[if_neg h2',if_neg h2']
   have h2'':2<=its.length:=by simp at h2';omega
   rw[ekA]
   refine wX (sY hkp hf (by omega) ?_)
   obtain⟨p,r1,r2,r3⟩:=sX (n:=its.length) (rk:=rkK ks) (by omega)
   refine wX (wpAny_mono (kat_run (E:=E) (ks:=kA.toList) (vs:=its) (κ:=tuples' true) (s:=s') (Q:=λst' s2=>s2=s'/\arrOf st'=p.map (kas_item (kA.toList.toArray.zip its.toArray))/\failedOf st'=none)
    (G:=λp' s2=>p'=p/\s2=s') kz h2'' h64 (λp' st' s2 _ e2 e3 e4=>by
     obtain⟨rfl,rfl⟩:=e4
     exact⟨rfl,e2,e3⟩) (Run.wp (λs2=>s2=s') (λi j C s2 hi hj e hC=>wE (s:=s') hc hkp i j C s2 (by omega) (by omega) e hC) r1 rfl λs2 e=>⟨rfl,e⟩)) (λr s2 hr=>?_) λ_ _ z=>z)
   obtain⟨⟨⟩,st'⟩:=r
   obtain⟨rfl,e2,e3⟩:=hr
   exact ends st' p e2 e3 r2 r3
end
theorem t6 {α β:Type}{f:α->β}:∀ {l:List α},(l.map f).Nodup->l.Nodup
 |[],_=>List.nodup_nil
 |a::l,h=>by
  rw[List.map_cons,List.nodup_cons]at h;exact List.nodup_cons.mpr ⟨λz=>h.1 (List.mem_map.mpr ⟨a,z,rfl⟩),t6 h.2⟩
noncomputable def gE (ks:List (List At))(ds:List D):List D:=(cR (λp:List At×D=>bp p.1) (ks.zip ds)).map (·.2)
theorem zP {α β:Type}(d:α)(e:β):∀ {l₁:List α}{l₂:List β},l₁.length=l₂.length->(List.range l₂.length).map (λi=>(l₁.getD i d,l₂.getD i e))=l₁.zip l₂:=λ{l₁ l₂} h=>by
 apply List.ext_getElem?;intro i;by_cases hi:i<l₂.length
 ·have hi':i<l₁.length:=by omega
  have:=(List.getElem?_zip_eq_some (z:=(l₁[i],l₂[i]))).mpr ⟨List.getElem?_eq_getElem hi',List.getElem?_eq_getElem hi⟩;rw[this];simp[hi,hi']
 ·simp[hi,h]
theorem BH {α β:Type}{l₁:List α}{l₂:List β}(nd:l₁.Nodup){a:α}{b c:β}(h1:(a,b)∈l₁.zip l₂)(h2:(a,c)∈l₁.zip l₂):b=c:=by
 obtain⟨i,hi⟩:=List.mem_iff_getElem?.mp h1;obtain⟨j,hj⟩:=List.mem_iff_getElem?.mp h2;obtain⟨i1,i2⟩:=List.getElem?_zip_eq_some.mp hi;obtain⟨j1,j2⟩:=List.getElem?_zip_eq_some.mp hj;obtain⟨li,ei⟩:=List.getElem?_eq_some_iff.mp i1;obtain⟨lj,ej⟩:=List.getElem?_eq_some_iff.mp j1;have:i=j:=(List.getElem_inj nd).mp (ei.trans ej.symm);subst this;rw[i2]at j2;exact Option.some.inj j2
theorem vq {ds:List D}{ks:List (List At)}{p:Array Nat}(hl:ks.length=ds.length)(hc:c9 ks=true)(nd:ks.Nodup)(ap:Arr ds.length p)(up:Up (rkK ks) p ds.length):p.toList.map (λi=>ds.getD i .non)=gE ks ds:=by
 unfold gE;have e:p.toList.map (λi=>(ks.getD i [],ds.getD i .non))=cR (λp:List At×D=>bp p.1) (ks.zip ds):=by
  apply fu
  ·intro x hx y hy e;have mx:=(List.of_mem_zip hx).1;have my:=(List.of_mem_zip hy).1;have:=gD hc mx my e;obtain⟨k1,d1⟩:=x;obtain⟨k2,d2⟩:=y;have z:k1=k2:=this;subst z;rw[BH nd hx hy]
  ·have:=ap.perm.map (λi=>(ks.getD i [],ds.getD i D.non));rw[zP [] D.non hl]at this;exact this
  ·rw[List.pairwise_iff_getElem];intro i j hi hj hij;have hsz:=ap.size;have hi':i<p.size:=by simpa using hi
   have hj':j<p.size:=by simpa using hj
   have:=up i j (Nat.le_of_lt hij) (by omega);unfold bR rkK at this;have gi:p.getD i 0=p[i]:=by rw[Array.getD_eq_getD_getElem?,Array.getElem?_eq_getElem hi'];rfl
   have gj:p.getD j 0=p[j]:=by rw[Array.getD_eq_getD_getElem?,Array.getElem?_eq_getElem hj'];rfl
   have lj:=ap.lt (k:=j) (by omega);have mj:ks.getD (p.getD j 0) []∈ks:=by
    have h':p.getD j 0<ks.length:=by omega
    rw[List.getD_eq_getElem?_getD,List.getElem?_eq_getElem h'];exact List.getElem_mem h'
   have nl:¬bp (ks.getD (p.getD j 0) [])<bp (ks.getD (p.getD i 0) []):=λz=>by
    have:=qY (cs:=ks.map bp) (List.mem_map.mpr ⟨_,mj,rfl⟩) z;omega
   simp only[List.getElem_map,Array.getElem_toList];unfold leF;rw[←gi,←gj];exact nl
 rw[←e,List.map_map];rfl
@[simp] noncomputable def lh (f:FE)(kf:Env->D->Option D):FE:=λρ=>(f ρ).bind λx=>match x.1 with
 |.lst ds=>(hZ (kf ρ) ds).bind λkds=>(cP kds).bind λks=>if ks.length<64/\c9 ks=true/\bT ks=true/\(ks.map bp).Nodup then some (.lst (gE ks ds),true)else none
 |_=>none
section
variable {X:Cx}{e ke:Expr}{p pos kp:Pos}
theorem t7 {f:FE}{kf:Env->D->Option D}(hm:X.mg "sorted" = none)(he:JE X e f)(hk:JK X X.A.in1.in1 ke kf)(hg:Gl X "sorted":=by rfl)
  (hes:starEach [e] X.env=[(false,eval e X.env)]:=by rfl) (heb:backTo pos (starEach [e] X.env)=(false,eval e X.env)::backTo pos (starEach [] X.env):=by rfl) (hpl:(backTo pos (starEach [e] X.env)).any (·.1)=false:=by rfl)
  (hall:(backToKw pos (keywordEach [⟨some "key",ke,kp⟩] X.env)).all (·.1.isSome)=true:=by rfl) (hkw:(backToKw pos (keywordEach [⟨some "key",ke,kp⟩] X.env)).any (·.1.isNone)=false:=by rfl)
  (hnm:(backToKw pos (keywordEach [⟨some "key",ke,kp⟩] X.env)).filterMap (·.1)=[("key" : Str)]:=by rfl):
  JE X (.Call (.Name "sorted" p) [e] [⟨some "key",ke,kp⟩] pos) (lh f kf):=by
 intro pins s σ H Q I h;obtain⟨B,ρ,d,b,sB,rep,ee,q⟩:=h;obtain⟨⟨xd,xb⟩,ex,ee⟩:=oX ee;cases xd<;>try (cases ee;done)
 rename_i ds;obtain⟨kds,em,ee⟩:=oX ee;obtain⟨ks,ek,ee⟩:=oX ee;split at ee
 ·rename_i hh;obtain⟨h64,hc,hf,nd⟩:=hh;cases ee
  refine wpAny_Call_Name_kw (js I hg hm (u:=.builtin "sorted") rfl ?_);refine callWith_kw (thn ((gT he jt hes) pos pins s σ H (λvs H1=>∃v N,vs=[v]/\Ext B N H H1/\Is X.K N v (.lst ds)) I ⟨B,ρ,_,_,sB,rep,ex,λv H1 N x1 i1 _=>⟨v,N,rfl,x1,i1⟩⟩) λus s1 hA=>?_) heb hpl hall hkw;obtain⟨vs1,H1,I1,r1,v,N,rfl,x1,i1⟩:=hA;obtain⟨u,rfl,ru⟩:=gv r1;refine kws_cons (hk pins s1 σ H1 N ρ _ _ I1 x1.nh (rep.mono x1.bn) λqa H2 s2 I2 m2 kfn=>kws_nil ?_);rw[hnm];show wpAny _ _ (call (.builtin "sorted") [u] [(("key" : Str),.ref qa)]) _ _ _;cases i1
  rename_i l vs hq il;cases ru
  have sN:aM N H2:=x1.nh.trans m2;obtain⟨its,rv,pl,hz⟩:=I2.list (sN.seq hq);have hvl:vs.length=its.length:=rv.length;have hdl:ds.length=vs.length:=il.length.symm;have hkd:kds.length=ds.length:=fY em;have hks:ks.length=kds.length:=dz ek;have h64':its.length<64:=by omega
  refine call_function_entry_kw kind_sorted plain_sorted entry_sorted (ksk_s1 _ _) ?_;unfold Builtin.«sorted»;refine wX (m:=checkCount "sorted" 1 1 _) (wY (wX (collect_list pl.isList (wX (wpAny_newList ?_ (by rw[sizeLine_eq];omega))) (by rw[sizeLine_eq];omega))));let h1:Heap:=(s2.heap.push (seqObj "list" #[] 0)).update s2.heap.objs.size (Obj.mapSeq (· ++ its.toArray));have hsz:h1.objs.size=s2.heap.objs.size+1:=by show(Heap.update _ _ _).objs.size=_;rw[Heap.size_update,size_push']
  have keep1:∀b o,s2.heap.get? b=some o->h1.get? b=some o:=λb o q=>(Heap.get?_update_ne _ _ _ _ (Nat.ne_of_lt (Heap.lt_size q))).trans (Heap.get?_push_of_some _ q);have I3:Inv X ((h1.objs.size,seqObj "list" its.toArray 0)::pins) σ H2 { s2 with heap:=h1.push (seqObj "list" its.toArray 0) } :=
   mq (t':=s2.toks) I2 (λb u q=>Heap.get?_push_of_some _ (keep1 b u q)) (by rw[hsz];exact Nat.le_succ _) (Heap.get?_push_size _ rfl) cJ
  have p3:=I3.pin (h1.objs.size,seqObj "list" its.toArray 0) (mY _ mX);show wpAny (model X.prog X.w) X.A.in1 (holding [.ref h1.objs.size] (call (.builtin "list.sort") [.ref h1.objs.size] [(("key" : Str),.ref qa)])>>=_) _ _ { s2 with heap:=h1.push (seqObj "list" its.toArray 0) };refine wX (wpAny_holding (wpAny_call_entry_kw slot_list_sort ⟨_,p3.1,rfl⟩ entry_list_sort ?_ (ksk_l1 _ _)));show wpAny (model X.prog X.w) X.A.in1.in1 (Builtin.«list.sort» ⟨[.ref h1.objs.size],[(Str.ofString "key",.ref qa)]⟩) _ _ _;rw[ksk_t1];refine vp I3 (Nat.le_trans I2.sz (by rw[hsz];exact Nat.le_succ _)) (λq hq=>by rw[hsz];exact Nat.ne_of_lt (Nat.lt_succ_of_lt (Heap.lt_size (I2.pin q hq).1))) kfn rv il sN em ek hc hf h64' λpm s' H' N' ap up J x3 hn=>⟨_,rfl,wY ⟨_,rfl,?_⟩⟩;have hpl:its.length=ds.length:=by omega
  rw[hpl]at ap up;have er:=vq (by omega) hc (t6 nd) ap up;have hin:∀i∈pm.toList,i<ds.length:=λi hi=>List.mem_range.mp (ap.perm.mem_iff.mp hi);have ip:=ni (il.mono x3.bn) pm.toList hin;rw[er]at ip;have x4:Ext B N' H H':=(x1.trans (.grow x1.nh m2)).trans x3;have hN:N' h1.objs.size=none:=x3.nh.free hn;have x5:=x4.trans (Ext.laid (o:=.lst (pm.toList.map λi=>vs.getD i .non)) x3.nh hn);exact⟨.ref h1.objs.size,_,J,rfl,q _ _ _ x5 (.lst (SqL.of a0) (ip.mono (Ext.laid (o:=.lst (pm.toList.map λi=>vs.getD i .non)) x3.nh hn).bn)) λ_=>⟨_,_,_,rfl,rfl,x4.hh.free hn,a0,ip.mono (Ext.laid (o:=.lst (pm.toList.map λi=>vs.getD i .non)) x3.nh hn).bn⟩⟩
 ·cases ee
end
section
variable {prog:Program}{w:World}{A:Around}{E:Value->Shared->Prop}{s:Shared}
theorem eJ.type {xs:List At}{v:Value}(h:eJ s.heap xs v):s.TypeIs v "tuple":=by
 obtain⟨a,o,its,n,rfl,ho,hc,_⟩:=h;exact⟨o,ho,hc⟩
theorem zQ {xs ys:List At}{a b:Addr}{r:Bool}{P:PySem.Fin->Shared->Prop}(hx:eJ s.heap xs (.ref a))(hy:eJ s.heap ys (.ref b))(h:aO xs ys=some r)(q:P (.done (.ret (.bool r))) s):wpAny (model prog w) A (Builtin.«tuple.__lt__» ⟨[.ref a,.ref b],[]⟩) P E s:=by
 have hTb:=hy.type;obtain⟨a',oa,its,na,ea,hoa,_,hda,ra⟩:=hx;obtain⟨b',ob,jts,nb,eb,hob,_,hdb,rb⟩:=hy;cases ea
 cases eb
 show wpAny _ _ (isInstance (.ref _) (.type "tuple")>>=_) _ _ s;refine wX (wpAny_isInstance hTb isSubtype_tuple_tuple ?_);simp only[Bool.not_true,Bool.false_eq_true,if_false];refine wX (wpAny_tupleItemsOf hoa hda ?_);refine wX (wpAny_tupleItemsOf hob hdb ?_);refine wX ?_;refine wpAny_forIn_list _
  (λaC z s'=>z.1=none/\s'=s/\∃xs' ys' its' jts' n,aC=List.zip its' jts'/\Paired atV xs' its'/\Paired atV ys' jts'/\aO xs' ys'=some r/\its'.length+n=its.size/\jts'.length+n=jts.size)
  _ ?_ ?_ _ _ ⟨rfl,rfl,xs,ys,its.toList,jts.toList,0,rfl,ra,rb,h,by simp,by simp⟩
 ·rintro⟨u,v⟩ aC z s' ⟨hz,rfl,xs',ys',its',jts',n,e,p1,p2,hl,n1,n2⟩;cases p1 with
  |nil=>simp at e
  |@cons x u' xs'' its'' r1 p1'=>
   cases p2 with
   |nil=>simp at e
   |@cons y v' ys'' jts'' r2 p2'=>
    simp only[List.zip_cons_cons,List.cons.injEq,Prod.mk.injEq]at e;obtain⟨⟨rfl,rfl⟩,rfl⟩:=e;cases x with
    |i i=>
     cases y with
     |s j=>simp[aO]at hl
     |i j=>
      obtain⟨t,rfl⟩:=r1;obtain⟨t',rfl⟩:=r2;rw[aO]at hl;refine wX (wpAny_eqBool_int ?_);by_cases hk:i=j
      ·rw[if_pos hk]at hl;rw[show(i == j)=true by simp[hk]];simp only[Bool.not_true,Bool.false_eq_true,if_false];exact wY ⟨rfl,rfl,xs'',ys'',its'',jts'',n+1,rfl,p1',p2',hl,by rw[←n1,List.length_cons];omega,by rw[←n2,List.length_cons];omega⟩
      ·rw[if_neg hk]at hl;cases hl
       rw[show(i == j)=false by simp[hk]];simp only[Bool.not_false,if_true];refine wX (wpAny_rule (wX (m:=richCompare .Lt (.int i t) (.int j t')) (wpAny_mono (show wpAny _ _ (richCompare .Lt (.int i t) (.int j t')) (λv s''=>v=.bool (decide (i<j))/\s''=s') E s' from PyProof.Rows.lt_int ⟨rfl,rfl⟩) (λv s'' hv=>?_) λ_ _ z=>z)));obtain⟨rfl,rfl⟩:=hv;exact wX (wY (wY (wY q)))
    |s i=>
     cases y with
     |i j=>simp[aO]at hl
     |s j=>
      obtain⟨t,rfl⟩:=r1;obtain⟨t',rfl⟩:=r2;rw[aO]at hl;refine wX (wpAny_eqBool_str ?_);by_cases hk:i=j
      ·rw[if_pos hk]at hl;rw[decide_eq_true hk];simp only[Bool.not_true,Bool.false_eq_true,if_false];exact wY ⟨rfl,rfl,xs'',ys'',its'',jts'',n+1,rfl,p1',p2',hl,by rw[←n1,List.length_cons];omega,by rw[←n2,List.length_cons];omega⟩
      ·rw[if_neg hk]at hl;cases hl
       rw[decide_eq_false hk];simp only[Bool.not_false,if_true];refine wX (wpAny_rule (wX (m:=richCompare .Lt (.str i t) (.str j t')) (wpAny_mono (show wpAny _ _ (richCompare .Lt (.str i t) (.str j t')) (λv s''=>v=.bool (decide (i.cps.toList<j.cps.toList))/\s''=s') E s' from PySem.P.lt_str ⟨rfl,rfl⟩) (λv s'' hv=>?_) λ_ _ z=>z)));obtain⟨rfl,rfl⟩:=hv;exact wX (wY (wY (wY q)))
 ·rintro⟨z1,z2⟩ s' ⟨hz,rfl,xs',ys',its',jts',n,e,p1,p2,hl,n1,n2⟩;simp only at hz;subst hz;refine wY ?_;have:decide (its.size<jts.size)=r:=by
   cases p1 with
   |nil=>
    cases p2 with
    |nil=>simp[aO]at hl;subst hl;simp at n1 n2;simp;omega
    |cons _ _=>simp[aO]at hl;subst hl;simp at n1 n2;simp;omega
   |cons _ _=>
    cases p2 with
    |nil=>simp[aO]at hl;subst hl;simp at n1 n2;simp;omega
    |cons _ _=>simp at e
  show P (.done (.ret (.bool (decide (its.size<jts.size))))) s';rw[this];exact q
theorem zR {xs ys:List At}{a b:Addr}{r:Bool}{P:PySem.Fin->Shared->Prop}(hx:eJ s.heap xs (.ref a))(hy:eJ s.heap ys (.ref b))(h:aO ys xs=some r)(q:P (.done (.ret (.bool r))) s):wpAny (model prog w) A (Builtin.«tuple.__gt__» ⟨[.ref a,.ref b],[]⟩) P E s:=by
 have hTb:=hy.type;obtain⟨a',oa,its,na,ea,hoa,_,hda,ra⟩:=hx;obtain⟨b',ob,jts,nb,eb,hob,_,hdb,rb⟩:=hy;cases ea
 cases eb
 show wpAny _ _ (isInstance (.ref _) (.type "tuple")>>=_) _ _ s;refine wX (wpAny_isInstance hTb isSubtype_tuple_tuple ?_);simp only[Bool.not_true,Bool.false_eq_true,if_false];refine wX (wpAny_tupleItemsOf hoa hda ?_);refine wX (wpAny_tupleItemsOf hob hdb ?_);refine wX ?_;refine wpAny_forIn_list _
  (λaC z s'=>z.1=none/\s'=s/\∃xs' ys' its' jts' n,aC=List.zip its' jts'/\Paired atV xs' its'/\Paired atV ys' jts'/\aO ys' xs'=some r/\its'.length+n=its.size/\jts'.length+n=jts.size)
  _ ?_ ?_ _ _ ⟨rfl,rfl,xs,ys,its.toList,jts.toList,0,rfl,ra,rb,h,by simp,by simp⟩
 ·rintro⟨u,v⟩ aC z s' ⟨hz,rfl,xs',ys',its',jts',n,e,p1,p2,hl,n1,n2⟩;cases p1 with
  |nil=>simp at e
  |@cons x u' xs'' its'' r1 p1'=>
   cases p2 with
   |nil=>simp at e
   |@cons y v' ys'' jts'' r2 p2'=>
    simp only[List.zip_cons_cons,List.cons.injEq,Prod.mk.injEq]at e;obtain⟨⟨rfl,rfl⟩,rfl⟩:=e;cases x with
    |i i=>
     cases y with
     |s j=>simp[aO]at hl
     |i j=>
      obtain⟨t,rfl⟩:=r1;obtain⟨t',rfl⟩:=r2;rw[aO]at hl;refine wX (wpAny_eqBool_int ?_);by_cases hk:j=i
      ·rw[if_pos hk]at hl;rw[show(i == j)=true by simp[hk]];simp only[Bool.not_true,Bool.false_eq_true,if_false];exact wY ⟨rfl,rfl,xs'',ys'',its'',jts'',n+1,rfl,p1',p2',hl,by rw[←n1,List.length_cons];omega,by rw[←n2,List.length_cons];omega⟩
      ·rw[if_neg hk]at hl;cases hl
       rw[show(i == j)=false by simp;exact λz=>hk z.symm];simp only[Bool.not_false,if_true];refine wX (wpAny_rule (wX (m:=richCompare .Gt (.int i t) (.int j t')) (wpAny_mono (show wpAny _ _ (richCompare .Gt (.int i t) (.int j t')) (λv s''=>v=.bool (decide (j<i))/\s''=s') E s' from PyProof.Rows.gt_int ⟨rfl,rfl⟩) (λv s'' hv=>?_) λ_ _ z=>z)));obtain⟨rfl,rfl⟩:=hv;exact wX (wY (wY (wY q)))
    |s i=>
     cases y with
     |i j=>simp[aO]at hl
     |s j=>
      obtain⟨t,rfl⟩:=r1;obtain⟨t',rfl⟩:=r2;rw[aO]at hl;refine wX (wpAny_eqBool_str ?_);by_cases hk:j=i
      ·rw[if_pos hk]at hl;rw[decide_eq_true hk.symm];simp only[Bool.not_true,Bool.false_eq_true,if_false];exact wY ⟨rfl,rfl,xs'',ys'',its'',jts'',n+1,rfl,p1',p2',hl,by rw[←n1,List.length_cons];omega,by rw[←n2,List.length_cons];omega⟩
      ·rw[if_neg hk]at hl;cases hl
       rw[decide_eq_false λz=>hk z.symm];simp only[Bool.not_false,if_true];refine wX (wpAny_rule (wX (m:=richCompare .Gt (.str i t) (.str j t')) (wpAny_mono (show wpAny _ _ (richCompare .Gt (.str i t) (.str j t')) (λv s''=>v=.bool (decide (j.cps.toList<i.cps.toList))/\s''=s') E s' from PySem.P.gt_str ⟨rfl,rfl⟩) (λv s'' hv=>?_) λ_ _ z=>z)));obtain⟨rfl,rfl⟩:=hv;exact wX (wY (wY (wY q)))
 ·rintro⟨z1,z2⟩ s' ⟨hz,rfl,xs',ys',its',jts',n,e,p1,p2,hl,n1,n2⟩;simp only at hz;subst hz;refine wY ?_;have:decide (jts.size<its.size)=r:=by
   cases p1 with
   |nil=>
    cases p2 with
    |nil=>simp[aO]at hl;subst hl;simp at n1 n2;simp;omega
    |cons _ _=>simp[aO]at hl;subst hl;simp at n1 n2;simp;omega
   |cons _ _=>
    cases p2 with
    |nil=>simp[aO]at hl;subst hl;simp at n1 n2;simp;omega
    |cons _ _=>simp at e
  show P (.done (.ret (.bool (decide (jts.size<its.size))))) s';rw[this];exact q
theorem FU {xs ys:List At}{x y:Value}{r:Bool}{Q:Value->Shared->Prop}(hx:eJ s.heap xs x)(hy:eJ s.heap ys y)(h:aO xs ys=some r)(hu:A.units<cLine)(q:Q (.bool r) s):wpAny (model prog w) A (richCompare .Lt x y) Q E s:=by
 have tx:=hx.type;have ty:=hy.type;obtain⟨a,_,_,_,rfl,_⟩:=id hx;obtain⟨b,_,_,_,rfl,_⟩:=id hy;exact wpAny_richCompare_same_room (op:=.Lt) tx ty PySem.F.slot_tuple_lt (wpAny_call_entry PySem.F.slot_tuple_lt tx PySem.F.entry_tuple_lt (zQ hx hy h ⟨_,rfl,(λe=>nomatch e),q⟩) (PySem.F.args_tuple_lt_2 _ _)) hu
theorem FV {xs ys:List At}{x y:Value}{r:Bool}{Q:Value->Shared->Prop}(hx:eJ s.heap xs x)(hy:eJ s.heap ys y)(h:aO ys xs=some r)(hu:A.units<cLine)(q:Q (.bool r) s):wpAny (model prog w) A (richCompare .Gt x y) Q E s:=by
 have tx:=hx.type;have ty:=hy.type;obtain⟨a,_,_,_,rfl,_⟩:=id hx;obtain⟨b,_,_,_,rfl,_⟩:=id hy;exact wpAny_richCompare_same_room (op:=.Gt) tx ty PySem.F.slot_tuple_gt (wpAny_call_entry PySem.F.slot_tuple_gt tx PySem.F.entry_tuple_gt (zR hx hy h ⟨_,rfl,(λe=>nomatch e),q⟩) (PySem.F.args_tuple_gt_2 _ _)) hu
end
noncomputable def ki:List At×D->List (List At×D)->D
 |b,[]=>b.2
 |b,x::r=>if aO b.1 x.1=some true then ki x r else ki b r
noncomputable def jq:List At×D->List (List At×D)->D
 |b,[]=>b.2
 |b,x::r=>if aO x.1 b.1=some true then jq x r else jq b r
noncomputable def mmP {f:String->CmpOp->Builtin}(_:f "max" .Gt=Builtin.«max.loop»):=f
noncomputable def mmL:String->CmpOp->Builtin:=mmP rfl
noncomputable def mmQ {f:String->Builtin}(_:f "max" = Builtin.«max»):=f
noncomputable def mmF:String->Builtin:=mmQ rfl
structure MM (nm lp:String)(ns:Str)(op:CmpOp)(lt:List At->List At->Option Bool)(go:List At×D->List (List At×D)->D):Prop where
 hn:(toString nm++toString ".loop" : String)=lp
 en:entryFor table lp=some (mmL nm op)
 pl:plainId lp=true
 k2:builtinKind nm=none
 p2:plainId nm=true
 e2:entryFor table nm=some (mmF nm)
 ka:∀a v:Value,argsOk nm ⟨[a],[(Str.ofString "key",v)]⟩
 bt:bootBuiltins ns=some (.builtin nm)
 n1:ns ≠ "__name__"
 n2:(ns == ("__debug__" : Str))=false
 g0:∀b,go b []=b.2
 g1:∀b x r,go b (x::r)=if lt b.1 x.1=some true then go x r else go b r
 cg:∀ {ks:List (List At)},c9 ks=true->∀ {a b},a∈ks->b∈ks->∃r,lt a b=some r
 rc:∀ {prog:Program}{w:World}{A:Around}{E:Value->Shared->Prop}{s:Shared}{xs ys:List At}{x y:Value}{r:Bool}{Q:Value->Shared->Prop},eJ s.heap xs x->eJ s.heap ys y->lt ys xs=some r->A.units<cLine->Q (.bool r) s->wpAny (model prog w) A (richCompare op x y) Q E s
theorem mmx:MM "max" "max.loop" "max" .Gt aO ki :=
 ⟨by decide,PySem.F.entry_max_loop,PySem.F.plain_max_loop,PySem.F.kind_max,PySem.F.plain_max,PySem.F.entry_max,λ_ _=>by unfold argsOk;kernel_rfl,rfl,by decide,by decide,λ_=>rfl,λ_ _ _=>rfl,λh _ _ a b=>⟨_,gC h a b⟩,FV⟩
theorem mmn:MM "min" "min.loop" "min" .Lt (λa b=>aO b a) jq :=
 ⟨by decide,PySem.F.entry_min_loop,PySem.F.plain_min_loop,PySem.F.kind_min,PySem.F.plain_min,PySem.F.entry_min,λ_ _=>by unfold argsOk;kernel_rfl,rfl,by decide,by decide,λ_=>rfl,λ_ _ _=>rfl,λh _ _ a b=>⟨_,gC h b a⟩,FU⟩
section
variable {X:Cx}{pins:List (Addr×Obj)}{σ:St}
theorem nn {o1 o2:Obj}{H':Hp}{s':Shared}{a1 a2:Addr}(J:Inv X ((a1,o1)::(a2,o2)::pins) σ H' s'):Inv X ((a2,o2)::(a1,o1)::pins) σ H' s' :=
 J.pins_of λq hq=>J.pin q (by
  rcases List.mem_cons.mp hq with rfl|hq
  ·exact mY _ (mZ _ mX)
  ·rcases List.mem_cons.mp hq with rfl|hq
   ·exact mY _ mX
   ·exact mY _ (mZ _ (mZ _ hq)))
theorem np {S a:Addr}{o:Obj}(hp:∀q∈X.pn++pins,q.1≠a)(h:S≠a):∀q∈X.pn++((S,o)::pins),q.1≠a:=λq hq=>by
 rcases List.mem_append.mp hq with hq|hq
 ·exact hp q (List.mem_append_left _ hq)
 ·rcases List.mem_cons.mp hq with rfl|hq
  ·exact h
  ·exact hp q (mY _ hq)
theorem wJ {pins:List (Addr×Obj)}{H:Hp}{s:Shared}{v:V}{u:Value}{d:D}{k:List At}(I:Inv X pins σ H s)(r:aL v u)(i:Is X.K H v d)(e:j6 d=some k):eJ s.heap k u:=by
 have:=mo I (ys:=[v]) (ds:=[d]) (ks:=[k]) (its:=[u]) (.cons r .nil) (.cons i .nil) (by simp only[cP,e];rfl);cases this;assumption
theorem BI {nm lp:String}{ns:Str}{op:CmpOp}{lt:List At->List At->Option Bool}{go:List At×D->List (List At×D)->D}(M:MM nm lp ns op lt go){qv:Value}{l S It:Addr}{vs:List V}{ds kds:List D}{ks:List (List At)}{B H1:Hp}{kf:D->Option D}{d0:D}{R:Result->Shared->Prop}(hh:X.A.handled=none)(hu:X.A.in1.units<cLine)(kfn:zO X X.A.in1 σ qv B H1 kf)(hqv:∃a,qv=.ref a)(hq:SqL X.K B l vs)(iv:IsL X.K B vs ds)
  (em:hZ kf ds=some kds) (ek:cP kds=some ks) (hc:c9 ks=true) (S0:X.s₀.heap.objs.size<=S) (I0:X.s₀.heap.objs.size<=It) (hSp:∀q∈X.pn++pins,q.1≠S) (hIp:∀q∈X.pn++pins,q.1≠It) (hSI:S≠It) (hSl:S≠l) (hIl:l≠It)
  (hR:∀(s':Shared)(H' N:Hp)(v:V)(u:Value),Inv X pins σ H' s'->Ext B N H1 H'->aL v u->Is X.K N v d0->R (.ok (.ret u)) s'):
  ∀(r j:Nat)(s:Shared)(H N:Hp)(ub kub:Value)(vb kvb:V)(db kdb:D)(kb:List At)(c:Nat)(oI:Obj),vs.length - j=r->j<=vs.length->Inv X ((S,seqObj "list" #[ub,kub] c)::(It,oI)::pins) σ H s->s.heap.IsListIter It l j->Ext B N H1 H ->
   aL vb ub->Is X.K N vb db->aL kvb kub->Is X.K N kvb kdb->j6 kdb=some kb->kb∈ks->go (kb,db) ((ks.zip ds).drop j)=d0 ->
   codeAny (model X.prog X.w) X.A (.builtin lp ⟨[.ref It,qv,.ref S],[]⟩) R s:=by
 obtain⟨qa,rfl⟩:=hqv;intro r;induction r with
 |zero=>
  intro j s H N ub kub vb kvb db kdb kb c oI hr hj I hit x1 r1 i1 r2 i2 ekb mk hd;have pS:=I.pin (S,seqObj "list" #[ub,kub] c) (mY _ mX);have sB:aM B H:=x1.bn.trans x1.nh;obtain⟨its,rv,pl,_⟩:=I.list (sB.seq hq);have hl:=pl.isList;have W:=Walks.list (prog:=X.prog) (w:=X.w) (A:=X.A.in1) hh It l hIl its.toArray;have hsz:its.toArray.size=its.length:=List.size_toArray ..;have hvl:vs.length=its.length:=rv.length;have hdl:ds.length=its.length:=by rw[←iv.length];exact rv.length
  have hkl:ks.length=ds.length:=by rw[dz ek,fY em]
  have hd':db=d0:=by
   rw[List.drop_of_length_le (by rw[List.length_zip];omega)]at hd;rw[M.g0]at hd;exact hd
  subst hd';refine codeAny_builtin M.en ?_;rw[Around.under_plainId M.pl _];show wpAny _ X.A.in1 (seqItems? (.ref S)>>=_) _ _ _;refine wX (wpAny_seqItems pS.1 rfl ?_);show wpAny _ X.A.in1 (tryCatch (pyNext (.ref It)) _>>=_) _ _ _;refine wX (wpAny_tryCatch (W.done _ _ _ ⟨by rw[hsz,show its.length=j by omega];exact hit,hl⟩ λh' tk' hk'=>?_));have J1:Inv X ((It,oI)::(S,seqObj "list" #[ub,kub] c)::pins) σ H s:=nn I;have hIp':∀q∈X.pn++((S,seqObj "list" #[ub,kub] c)::pins),q.1≠It:=np hIp hSI;have J2:Inv X ((S,seqObj "list" #[ub,kub] c)::pins) σ H { s with heap:=h',toks:=tk' } :=
   (iO J1).turned (t':=tk') (λb o n e=>hk' b o (by simpa using n) e) (J1.pin (It,oI) (mY _ mX)).2.1 (J1.pin (It,oI) (mY _ mX)).2.2.1 (.inr I0) (lg J1) hIp'
  have pS2:=J2.pin (S,seqObj "list" #[ub,kub] c) (mY _ mX);obtain⟨c2,hc2⟩:∃c2,(h'.update S (Obj.mapSeq λ_=>(#[]:Array Value))).get? S=some (seqObj "list" #[] c2):=⟨_,get?_update_seq pS2.1 λ_=>#[]⟩;have u2:=Heap.SameBut.update h' S (Obj.mapSeq λ_=>(#[]:Array Value));show wpAny _ X.A.in1 (updateSeq S (λ_=>#[])>>=_) _ _ _;refine wX ?_;refine wpAny_updateSeq pS2.1 rfl (wX (wpAny_letGo (wY ?_)));exact hR _ H N vb ub (iO (fw (t':=tk') J2 S0 hSp (λb o n e=>(u2.2 b n).trans e) hc2 cJ)) x1 r1 i1
 |succ r ih=>
  intro j s H N ub kub vb kvb db kdb kb c oI hr hj I hit x1 r1 i1 r2 i2 ekb mk hd;have hlt:j<vs.length:=by omega
  have pS:=I.pin (S,seqObj "list" #[ub,kub] c) (mY _ mX);have sB:aM B H:=x1.bn.trans x1.nh;obtain⟨its,rv,pl,_⟩:=I.list (sB.seq hq);have hl:=pl.isList;have W:=Walks.list (prog:=X.prog) (w:=X.w) (A:=X.A.in1) hh It l hIl its.toArray;have hsz:its.toArray.size=its.length:=List.size_toArray ..;have hvl:vs.length=its.length:=rv.length;have hdl:ds.length=its.length:=by rw[←iv.length];exact rv.length
  have hkl:ks.length=ds.length:=by rw[dz ek,fY em]
  refine codeAny_builtin M.en ?_;rw[Around.under_plainId M.pl _];show wpAny _ X.A.in1 (seqItems? (.ref S)>>=_) _ _ _;refine wX (wpAny_seqItems pS.1 rfl ?_);show wpAny _ X.A.in1 (tryCatch (pyNext (.ref It)) _>>=_) _ _ _;refine wX (wpAny_tryCatch (W.item j _ _ _ (by rw[hsz];omega) ⟨hit,hl⟩ λu h' tk' hP hst' hk'=>?_));have hu':its[j]? = some u:=by simpa using hP
  obtain⟨d,hdj⟩:∃d,ds[j]? = some d:=⟨_,List.getElem?_eq_getElem (by omega)⟩;obtain⟨v,hv,iv'⟩:=iv.get hdj;obtain⟨kd,hkj,hkf⟩:=kh em hdj;obtain⟨u2,hu2,ru⟩:=rv.get hv;rw[hu']at hu2;cases hu2;obtain⟨k,hk1⟩:∃k,ks[j]? = some k:=⟨_,List.getElem?_eq_getElem (by omega)⟩;have ekd:j6 kd=some k:=by
   have:=fO ek (i:=j) (by rw[fY em];omega);rw[List.getD_eq_getElem?_getD,hkj,List.getD_eq_getElem?_getD,hk1]at this;exact this
  have hm:k∈ks:=List.mem_of_getElem? hk1;obtain⟨oI',hoI',hoc,hod⟩:=id hst'.1;have J1:Inv X ((It,oI)::(S,seqObj "list" #[ub,kub] c)::pins) σ H s:=nn I;have hIp':∀q∈X.pn++((S,seqObj "list" #[ub,kub] c)::pins),q.1≠It:=np hIp hSI;have hSp':∀q∈X.pn++((It,oI')::pins),q.1≠S:=np hSp hSI.symm;have J2:Inv X ((It,oI')::(S,seqObj "list" #[ub,kub] c)::pins) σ H { s with heap:=h',toks:=tk' } :=
   fw (t':=tk') J1 I0 hIp' (λb o n e=>hk' b o (by simpa using n) e) hoI' (λv z=>by rw[hod]at z;cases z)
  have J3:Inv X ((S,seqObj "list" #[ub,kub] c)::(It,oI')::pins) σ H { s with heap:=h',toks:=tk' }:=nn J2;show wpAny _ X.A.in1 (tryCatch (holding [u] (call (.ref qa) [u])) _>>=_) _ _ _;refine wX (wpAny_tryCatch (wpAny_holding (wpAny_mono (kfn _ _ H N v u d kd J3 x1.hh x1.bn x1.nh (iv'.mono x1.bn) ru hkf) (λku s2 he=>?_) λ_ _ hF=>hF.elim)));obtain⟨kv,H2,J4,rk,N2,x2,ik⟩:=he;have pI4:=J4.pin (It,oI') (mY _ (mZ _ mX));have pS4:=J4.pin (S,seqObj "list" #[ub,kub] c) (mY _ mX);have hit2:s2.heap.IsListIter It l (j+1):=⟨oI',pI4.1,hoc,hod⟩;have t1:=wJ J4 rk (ik.mono x2.nh) ekd;have t2:=wJ J4 r2 (i2.mono (x2.bn.trans x2.nh)) ekb;have hz:(ks.zip ds).drop j=(k,d)::(ks.zip ds).drop (j+1):=by
   have hj':j<(ks.zip ds).length:=by rw[List.length_zip];omega
   rw[List.drop_eq_getElem_cons hj'];have:(ks.zip ds)[j]? = some (k,d):=List.getElem?_zip_eq_some.mpr ⟨hk1,hdj⟩;rw[List.getElem?_eq_getElem hj']at this;rw[Option.some.inj this]
  rw[hz,M.g1]at hd;obtain⟨r,hlx⟩:=M.cg hc mk hm;show wpAny _ X.A.in1 (tryCatch (holding [u,ku] (richCompare op ku kub>>=_)) _>>=_) _ _ _;refine wX (wpAny_tryCatch (wpAny_holding (wX (M.rc t1 t2 hlx hu ?_))));refine wX (wpAny_holding (wpAny_truthy_bool ?_));refine wX (wpAny_letGo (wY ?_));cases r with
  |true=>
   rw[if_pos hlx]at hd;obtain⟨c2,hc2⟩:∃c2,(s2.heap.update S (Obj.mapSeq λ_=>#[u,ku])).get? S=some (seqObj "list" #[u,ku] c2):=⟨_,get?_update_seq pS4.1 λ_=>#[u,ku]⟩;have u2:=Heap.SameBut.update s2.heap S (Obj.mapSeq λ_=>#[u,ku]);simp only[if_true];refine wX ?_;refine wpAny_updateSeq pS4.1 rfl (wX (wpAny_letGo ?_));rw[M.hn];exact wY ⟨plainId_quiet M.pl _,ih (j+1) _ H2 N2 u ku v kv d kd k c2 oI' (by omega) hlt (fw (t':=s2.toks) J4 S0 hSp' (λb o n e=>(u2.2 b n).trans e) hc2 cJ) ⟨oI',(u2.2 It hSI.symm).trans pI4.1,hoc,hod⟩ (x1.trans x2) ru (iv'.mono (x1.bn.trans x2.bn)) rk ik ekd hm hd⟩
  |false=>
   rw[if_neg (by rw[hlx];simp)]at hd;simp only[Bool.false_eq_true,if_false];refine wX (wpAny_letGo ?_);rw[M.hn];exact wY ⟨plainId_quiet M.pl _,ih (j+1) _ H2 N2 ub kub vb kvb db kdb kb c oI' (by omega) hlt J4 hit2 (x1.trans x2) r1 (i1.mono x2.bn) r2 (i2.mono x2.bn) ekb mk hd⟩
end
@[simp] noncomputable def fKK (go:List At×D->List (List At×D)->D)(f:FE)(kf:Env->D->Option D):FE:=λρ=>(f ρ).bind λx=>match x.1 with
 |.lst ds=>(hZ (kf ρ) ds).bind λkds=>(cP kds).bind λks=>if c9 ks=true then match ks.zip ds with
  |[]=>none
  |y::r=>some (go y r,false)
  else none
 |_=>none
@[simp] noncomputable def pE:=fKK ki
@[simp] noncomputable def pF:=fKK jq
section
variable {X:Cx}{e ke:Expr}{p pos kp:Pos}
theorem t8 {nm lp:String}{ns:Str}{op:CmpOp}{lt:List At->List At->Option Bool}{go:List At×D->List (List At×D)->D}(M:MM nm lp ns op lt go){f:FE}{kf:Env->D->Option D}{k:Nat}(hm:X.mg ns=none)(he:JE X e f)(hk:JK X X.A.in1 ke kf)(hr:Room k X.A)(hg:Gl X ns:=by rfl)
  (hes:starEach [e] X.env=[(false,eval e X.env)]:=by rfl) (heb:backTo pos (starEach [e] X.env)=(false,eval e X.env)::backTo pos (starEach [] X.env):=by rfl) (hpl:(backTo pos (starEach [e] X.env)).any (·.1)=false:=by rfl)
  (hall:(backToKw pos (keywordEach [⟨some "key",ke,kp⟩] X.env)).all (·.1.isSome)=true:=by rfl) (hkw:(backToKw pos (keywordEach [⟨some "key",ke,kp⟩] X.env)).any (·.1.isNone)=false:=by rfl)
  (hnm:(backToKw pos (keywordEach [⟨some "key",ke,kp⟩] X.env)).filterMap (·.1)=[("key" : Str)]:=by rfl):
  JE X (.Call (.Name ns p) [e] [⟨some "key",ke,kp⟩] pos) (fKK go f kf):=by
 intro pins s σ H Q I h;obtain⟨B,ρ,d,b,sB,rep,ee,q⟩:=h;obtain⟨⟨xd,xb⟩,ex,ee⟩:=oX ee;cases xd<;>try (cases ee;done)
 rename_i ds;obtain⟨kds,em,ee⟩:=oX ee;obtain⟨ks,ek,ee⟩:=oX ee;split at ee
 ·rename_i hc;split at ee
  ·cases ee
  ·rename_i y aC ez;cases ee
   refine wpAny_Call_Name_kw (js I hg hm M.bt ?_ M.n1 M.n2);refine callWith_kw (thn ((gT he jt hes) pos pins s σ H (λvs H1=>∃v N,vs=[v]/\Ext B N H H1/\Is X.K N v (.lst ds)) I ⟨B,ρ,_,_,sB,rep,ex,λv H1 N x1 i1 _=>⟨v,N,rfl,x1,i1⟩⟩) λus s1 hA=>?_) heb hpl hall hkw;obtain⟨vs1,H1,I1,r1,v,N,rfl,x1,i1⟩:=hA;obtain⟨u,rfl,ru⟩:=gv r1;refine kws_cons (hk pins s1 σ H1 N ρ _ _ I1 x1.nh (rep.mono x1.bn) λqa H2 s2 I2 m2 kfn=>kws_nil ?_);rw[hnm];show wpAny _ _ (call (.builtin nm) [u] [(("key" : Str),.ref qa)]) _ _ _;cases i1
   rename_i l vs hq il;cases ru
   have sN:aM N H2:=x1.nh.trans m2;obtain⟨its,rv,pl,hz⟩:=I2.list (sN.seq hq);have hvl:vs.length=its.length:=rv.length;have hdl:ds.length=vs.length:=il.length.symm;have hkd:kds.length=ds.length:=fY em;have hks:ks.length=kds.length:=dz ek;have hll:l<s2.heap.objs.size:=by
    obtain⟨ol,hol,_⟩:=pl.isList;exact Heap.lt_size hol
   -- the first item
   obtain⟨k0,d0⟩:=y;have hne:0<its.length:=by
    have:=congrArg List.length ez;rw[List.length_zip,List.length_cons]at this;omega
   have z0:(ks.zip ds)[0]? = some (k0,d0):=by rw[ez];rfl
   obtain⟨hk0,hd0⟩:=List.getElem?_zip_eq_some.mp z0;have hrest:(ks.zip ds).drop 1=aC:=by rw[ez];rfl
   refine kmk_tree M.k2 M.p2 M.e2 (M.ka _ _) ?_;show wpAny _ X.A.in1 (Builtin.Builtins.bindParams nm ["key","default"] 0 ⟨[],[(Str.ofString "key",.ref qa)]⟩>>=_) _ _ s2;refine wX (wpAny_of_eq (show Builtin.Builtins.bindParams nm ["key","default"] 0 ⟨[],[(Str.ofString "key",.ref qa)]⟩=pure [some (.ref qa),none]from rfl) ?_);refine wX (wY ?_);refine wX (wpAny_pyIter_list pl.isList ?_);refine wX (wpAny_newList ?_ (Nat.zero_le _));rw[M.hn];let It:Addr:=s2.heap.objs.size;let oI:Obj:={ cls:=.type "list_iterator",data:=.fields #[.ref l,.int 0 0] };let S:Addr:=(s2.heap.push oI).objs.size;have hS:S=s2.heap.objs.size+1:=size_push' ..;have hSI:S≠It:=by rw[hS];exact Nat.ne_of_gt (Nat.lt_succ_self _)
   have J1:Inv X ((It,oI)::pins) σ H2 { s2 with heap:=s2.heap.push oI }:=mq (t':=s2.toks) I2 (λb u q=>Heap.get?_push_of_some _ q) (Nat.le_refl _) (Heap.get?_push_size _ rfl) (λv z=>by cases z);have J2:Inv X ((S,seqObj "list" #[] 0)::(It,oI)::pins) σ H2 { s2 with heap:=(s2.heap.push oI).push (seqObj "list" #[] 0) }:=mq (s:={ s2 with heap:=s2.heap.push oI }) (t':=s2.toks) J1 (λb u q=>Heap.get?_push_of_some _ q) (Nat.le_refl _) (Heap.get?_push_size _ rfl) cJ;have I0:X.s₀.heap.objs.size<=It:=I2.sz;have S0:X.s₀.heap.objs.size<=S:=by rw[hS];exact Nat.le_succ_of_le I2.sz
   have hIp:∀q∈X.pn++pins,q.1≠It:=λq hq=>Nat.ne_of_lt (Heap.lt_size (I2.pin q hq).1);have hSp:∀q∈X.pn++pins,q.1≠S:=λq hq=>by rw[hS];exact Nat.ne_of_lt (Nat.lt_succ_of_lt (Heap.lt_size (I2.pin q hq).1))
   have hIl:l≠It:=Nat.ne_of_lt hll;have hSl:S≠l:=by rw[hS];exact Nat.ne_of_gt (Nat.lt_succ_of_lt hll)
   have hh:X.A.handled=none:=hr.hd;have hu:X.A.in1.units<cLine:=by have:=hr.un;show X.A.units+1<cLine;omega
   have pS:=J2.pin (S,seqObj "list" #[] 0) (mY _ mX);have pI:=J2.pin (It,oI) (mY _ (mZ _ mX));obtain⟨its2,rv2,pl2,_⟩:=J2.list (sN.seq hq);have hv2:vs.length=its2.length:=rv2.length;have W:=Walks.list (prog:=X.prog) (w:=X.w) (A:=X.A.in1) hh It l hIl its2.toArray;have hsz:its2.toArray.size=its2.length:=List.size_toArray ..;refine wY ⟨plainId_quiet M.pl _,?_⟩;refine codeAny_builtin M.en ?_;rw[Around.under_plainId M.pl _];show wpAny _ X.A.in1 (seqItems? (.ref S)>>=_) _ _ { s2 with heap:=(s2.heap.push oI).push (seqObj "list" #[] 0) };refine wX (wpAny_seqItems pS.1 rfl ?_);show wpAny _ X.A.in1 (tryCatch (pyNext (.ref It)) _>>=_) _ _ _;refine wX (wpAny_tryCatch (W.item 0 _ _ _ (by rw[hsz];omega) ⟨⟨oI,pI.1,rfl,rfl⟩,pl2.isList⟩ λu h' tk' hP hst' hk'=>?_));have hu':its2[0]? = some u:=by simpa using hP
   obtain⟨v,hv,iv'⟩:=il.get hd0;obtain⟨kd,hkj,hkf⟩:=kh em hd0;obtain⟨u2,hu2,ru⟩:=rv2.get hv;rw[hu']at hu2;cases hu2;have ekd:j6 kd=some k0:=by
    have:=fO ek (i:=0) (by omega);rw[List.getD_eq_getElem?_getD,hkj,List.getD_eq_getElem?_getD,hk0]at this;exact this
   obtain⟨oI',hoI',hoc,hod⟩:=id hst'.1;have hIp':∀q∈X.pn++((S,seqObj "list" #[] 0)::pins),q.1≠It:=np hIp hSI;have hSp':∀q∈X.pn++((It,oI')::pins),q.1≠S:=np hSp hSI.symm;have J3:=nn (fw (t':=tk') (nn J2) I0 hIp' (λb o n e=>hk' b o (by simpa using n) e) hoI' (λv z=>by rw[hod]at z;cases z));show wpAny _ X.A.in1 (tryCatch (holding [u] (call (.ref qa) [u])) _>>=_) _ _ _;refine wX (wpAny_tryCatch (wpAny_holding (wpAny_mono (kfn _ _ H2 N v u d0 kd J3 (.refl _) (.refl _) sN iv' ru hkf) (λku s3 he=>?_) λ_ _ hF=>hF.elim)));obtain⟨kv,H3,J4,rk,N3,x3,ik⟩:=he;have pI4:=J4.pin (It,oI') (mY _ (mZ _ mX));have pS4:=J4.pin (S,seqObj "list" #[] 0) (mY _ mX);obtain⟨c2,hc2⟩:∃c2,(s3.heap.update S (Obj.mapSeq λ_=>#[u,ku])).get? S=some (seqObj "list" #[u,ku] c2):=⟨_,get?_update_seq pS4.1 λ_=>#[u,ku]⟩;have u2:=Heap.SameBut.update s3.heap S (Obj.mapSeq λ_=>#[u,ku]);show wpAny _ X.A.in1 (updateSeq S (λ_=>#[u,ku])>>=_) _ _ _;refine wX ?_;refine wpAny_updateSeq pS4.1 rfl ?_;rw[M.hn];have xx:Ext B N H H2:=x1.trans (.grow x1.nh m2);refine wY ⟨plainId_quiet M.pl _,BI M (S:=S) (It:=It) hh hu kfn ⟨qa,rfl⟩ hq il em ek hc S0 I0 hSp hIp hSI hSl hIl (λs' H' N' v' u' J' x' r' i'=>⟨v',H',J',r',q _ _ _ (xx.trans x') i' (by simp)⟩) _ 1 _ H3 N3 u ku v kv d0 kd k0 c2 oI' rfl (by omega)
    (fw (t':=s3.toks) J4 S0 hSp' (λb o n e=>(u2.2 b n).trans e) hc2 cJ) ⟨oI',(u2.2 It hSI.symm).trans pI4.1,hoc,hod⟩ x3 ru (iv'.mono x3.bn) rk ik ekd (List.mem_of_getElem? hk0) (by rw[hrest])⟩
 ·cases ee
end
section
variable {X:Cx}
@[simp] noncomputable def tLt:D->D->Option (D×Bool)
 |.tup xs,.tup ys=>(cI xs).bind λas=>(cI ys).bind λbs=>(aO as bs).map λr=>(.bl r,false)
 |_,_=>none
@[simp] noncomputable def tGt:D->D->Option (D×Bool)
 |.tup xs,.tup ys=>(cI xs).bind λas=>(cI ys).bind λbs=>(aO bs as).map λr=>(.bl r,false)
 |_,_=>none
end
section
variable {X:Cx}{a b:Expr}{p pos:Pos}
@[simp] noncomputable def Gm (f g:FE):FA:=λρ=>(f ρ).bind λx=>(g ρ).bind λy=>match x.1,y.1 with
 |.int i,.int j=>if -1000<=i/\i<=1000/\-1000<=j/\j<=1000 then some (dS i (j - i).toNat)else none
 |_,_=>none
end
@[simp] noncomputable def GW:List D->Option (D×Bool)
 |[.tup xs,.tup ys]=>(cI xs).bind λas=>(cI ys).bind λbs=>(aO as bs).map λr=>(if r=true then .tup ys else .tup xs,false)
 |_=>none
end DL
namespace DL
open PySem PySem.Spec PyProof.Rows L2
section
variable {X:Cx}
@[simp] noncomputable def GX:D->D->Option (D×Bool)
 |.tup xs,.tup ys=>if xs.length+ys.length<=sizeLine then some (.tup (xs++ys),false)else none
 |_,_=>none
end
section
variable {X:Cx}
@[simp] noncomputable def Gn:List D->Option (D×Bool)
 |[d,.tup [.ty n,.ty m]]=>if FF d=true then none else if n = "list"/\m = "tuple" then some (.bl (iK d == "list" || iK d == "tuple"),false)else none
 |_=>none
end
@[simp] noncomputable def gF:D->Option Key
 |.int i=>some (.inl i)
 |.str x=>some (.inr x)
 |_=>none
theorem nq {K:PySem.W.Frag}{B:Hp}{v:V}{d:D}{k:Key}(i:Is K B v d)(e:gF d=some k):v=kV k:=by
 cases i<;>simp only[gF]at e<;>cases e<;>rfl
noncomputable def bv {κ:Type}[DecidableEq κ]:List κ->List D->κ->Option D
 |k'::ks,d::ds,k=>if k'=k then some d else bv ks ds k
 |_,_,_=>none
theorem nr {κ:Type}[DecidableEq κ]{K:PySem.W.Frag}{B:Hp}(k:κ):∀ {ks:List κ}{vs:List V}{ds:List D},ks.length=vs.length->IsL K B vs ds ->
  (∃v d,iD (ks.zip vs) k=some v/\bv ks ds k=some d/\Is K B v d)∨(iD (ks.zip vs) k=none/\bv ks ds k=none)
 |[],vs,ds,_,_=>.inr ⟨by cases vs<;>rfl,by cases ds<;>rfl⟩
 |k'::ks,[],_,h,_=>by simp at h
 |k'::ks,v::vs,_,h,.cons i is=>by
  rw[List.zip_cons_cons];unfold bv;by_cases e:k'=k
  ·rw[if_pos e];exact .inl ⟨v,_,jN (p:=(k',v)) e,rfl,i⟩
  ·rw[if_neg e,jO (p:=(k',v)) e];exact nr k (by simpa using h) is
section
variable {X:Cx}{o e i:Expr}{pos:Pos}
@[simp] noncomputable def zS:D->D->Option (D×Bool)
 |.dk ks vs,y=>(gF y).map λk=>((bv ks vs k).getD .non,false)
 |_,_=>none
theorem zT {apos cpos:Pos}{fo fe:FE}(hu:X.A.units+1<cLine)(ho:JE X o fo)(he:JE X e fe)(m:M1 X o "get" apos e cpos):JE X (.Call (.Attribute o "get" apos) [e] [] cpos) (f2 zS fo fe):=by
 refine PE.to (rZ hu ho he m) λσ H Q q=>?_;obtain⟨B,ρ,d,bb,sB,r,ee,q⟩:=q;obtain⟨x,ex,ee⟩:=oX ee;obtain⟨y,ey,ee⟩:=oX ee;refine⟨B,ρ,x.1,x.2,sB,r,ex,λv H1 N1 x1 i1 ff=>?_⟩;obtain⟨xd,xb⟩:=x;cases i1 with
 |@dk a ks vs ds ob h hl hs=>
  simp only[zS]at ee;obtain⟨k,hk,ee⟩:=oY ee;cases ee
  refine⟨a,rfl,.inl ⟨_,_,.inl (x1.nh _ _ h)⟩,N1,ρ,y.1,y.2,x1.nh,r.mono x1.bn,ey,λv2 H2 N2 x2 i2 _=>?_⟩;have hv:=nq i2 hk;subst hv;refine⟨iD (ks.zip vs) k,.inl ⟨_,k,_,.inl (x2.nh _ _ (x2.bn _ _ h)),rfl,rfl⟩,?_⟩;have hs2:=hs.mono x2.bn;rcases nr k hl hs2 with⟨v,d',e1,e2,i3⟩|⟨e1,e2⟩
  ·rw[e1];rw[e2]at q;exact(q.into (x1.trans x2)).one x2.nh i3
  ·rw[e1];rw[e2]at q;exact(q.into (x1.trans x2)).one x2.nh .non
 |_=>simp[zS]at ee
@[simp] noncomputable def ixK:D->D->Option (D×Bool)
 |.dk ks vs,y=>(gF y).bind λk=>(bv ks vs k).map λd=>(d,false)
 |_,_=>none
theorem zU {fo fi:FE}(hu:X.A.units+1<cLine)(ho:JE X o fo)(hi:JE X i fi)(hs:DA i):JE X (.Subscript o i pos) (f2 ixK fo fi):=by
 refine PE.to (Bj hu ho hi hs) λσ H Q q=>?_;obtain⟨B,ρ,d,bb,sB,r,ee,q⟩:=q;obtain⟨x,ex,ee⟩:=oX ee;obtain⟨y,ey,ee⟩:=oX ee;refine⟨B,ρ,x.1,x.2,sB,r,ex,λv H1 N1 x1 i1 ff=>?_⟩;obtain⟨xd,xb⟩:=x;cases i1 with
 |@dk a ks vs ds ob h hl hs'=>
  simp only[ixK]at ee;obtain⟨k,hk,ee⟩:=oX ee;obtain⟨d0,hd,ee⟩:=oY ee;cases ee
  refine⟨N1,ρ,y.1,y.2,x1.nh,r.mono x1.bn,ey,λv2 H2 N2 x2 i2 _=>?_⟩;have hv:=nq i2 hk;subst hv;rcases nr k hl (hs'.mono x2.bn)with⟨v,d',e1,e2,i3⟩|⟨_,e2⟩
  ·rw[hd]at e2;cases e2
   exact⟨a,v,rfl,.inl ⟨_,k,_,.inl (x2.nh _ _ (x2.bn _ _ h)),rfl,e1.symm⟩,(q.into (x1.trans x2)).one x2.nh i3⟩
  ·rw[hd]at e2;cases e2
 |_=>simp[ixK]at ee
@[simp] noncomputable def inK:D->D->Option (D×Bool)
 |y,.dk ks vs=>(gF y).map λk=>(.bl (bv ks vs k).isSome,false)
 |_,_=>none
@[simp] noncomputable def lm:D->D->Option (D×Bool)
 |y,.dk ks vs=>(gF y).map λk=>(.bl (!(bv ks vs k).isSome),false)
 |_,_=>none
theorem pG {κ:Type}[DecidableEq κ]{K:PySem.W.Frag}{B:Hp}{k:κ}{ks:List κ}{vs:List V}{ds:List D}(hl:ks.length=vs.length)(hs:IsL K B vs ds):(iD (ks.zip vs) k).isSome=(bv ks ds k).isSome:=by
 rcases nr k hl hs with⟨v,d,e1,e2,_⟩|⟨e1,e2⟩
 ·rw[e1,e2];rfl
 ·rw[e1,e2];rfl
theorem Eo {fi fo:FE}(hu:X.A.units+1<cLine)(hi:JE X i fi)(ho:JE X o fo)(hm:behindInMarks .In o=false:=by first|exact iF _ (by decide) (by decide)|rfl):JT X (.Compare i [.In] [o] pos) (tOf (f2 inK fi fo)):=by
 refine PT.to (yJ (DB hu hi ho) hm) λσ H Q q=>?_;obtain⟨B,ρ,d,bb,sB,r,ee,q⟩:=qH q;obtain⟨y,ey,ee⟩:=oX ee;obtain⟨x,ex,ee⟩:=oX ee;refine⟨B,ρ,y.1,y.2,sB,r,ey,λv2 H1 N1 x1 i2 _=>⟨N1,ρ,x.1,x.2,x1.nh,r.mono x1.bn,ex,λv H2 N2 x2 i1 ff=>?_⟩⟩;obtain⟨xd,xb⟩:=x;cases i1 with
 |@dk a ks vs ds ob h hl hs=>
  simp only[inK]at ee;obtain⟨k,hk,ee⟩:=oY ee;cases ee
  have hv:=nq i2 hk;subst hv;refine⟨a,iD (ks.zip vs) k,rfl,.inl ⟨_,k,_,.inl (x2.nh _ _ h),rfl,rfl⟩,?_⟩;rw[pG hl hs];exact(q.into (x1.trans x2)).one x2.nh (.bl _)
 |_=>simp[inK]at ee
theorem yo {fi fo:FE}(hu:X.A.units+1<cLine)(hi:JE X i fi)(ho:JE X o fo)(hm:behindInMarks .NotIn o=false:=by first|exact iF _ (by decide) (by decide)|rfl):JT X (.Compare i [.NotIn] [o] pos) (tOf (f2 lm fi fo)):=by
 refine PT.to (yJ (xO hu hi ho) hm) λσ H Q q=>?_;obtain⟨B,ρ,d,bb,sB,r,ee,q⟩:=qH q;obtain⟨y,ey,ee⟩:=oX ee;obtain⟨x,ex,ee⟩:=oX ee;refine⟨B,ρ,y.1,y.2,sB,r,ey,λv2 H1 N1 x1 i2 _=>⟨N1,ρ,x.1,x.2,x1.nh,r.mono x1.bn,ex,λv H2 N2 x2 i1 ff=>?_⟩⟩;obtain⟨xd,xb⟩:=x;cases i1 with
 |@dk a ks vs ds ob h hl hs=>
  simp only[lm]at ee;obtain⟨k,hk,ee⟩:=oY ee;cases ee
  have hv:=nq i2 hk;subst hv;refine⟨a,iD (ks.zip vs) k,rfl,.inl ⟨_,k,_,.inl (x2.nh _ _ h),rfl,rfl⟩,?_⟩;rw[pG hl hs];exact(q.into (x1.trans x2)).one x2.nh (.bl _)
 |_=>simp[lm]at ee
end
noncomputable def cA {κ:Type}[DecidableEq κ](ks:List κ)(k:κ):List κ:=if k∈ks then ks else ks++[k]
noncomputable def cw {κ α:Type}[DecidableEq κ](ks:List κ)(xs:List α)(k:κ)(x:α):List α:=if k∈ks then List.zipWith (λk' x'=>if k'=k then x else x') ks xs else xs++[x]
theorem wK {κ:Type}[DecidableEq κ](k:κ):∀ {ks:List κ}{vs:List V},ks.length=vs.length->((ks.zip vs).any λkv=>decide (kv.1=k))=decide (k∈ks)
 |[],_,_=>by simp
 |k'::ks,[],h=>by simp at h
 |k'::ks,v::vs,h=>by
  have ih:=wK k (ks:=ks) (vs:=vs) (by simpa using h);rw[List.zip_cons_cons,List.any_cons,ih];by_cases e:k'=k
  ·simp[e]
  ·have e':¬k=k':=λz=>e z.symm;simp[e,e']
theorem wL {κ:Type}[DecidableEq κ](k:κ)(v:V):∀(ks:List κ)(vs:List V),(ks.zip vs).map (λkv=>if kv.1=k then (kv.1,v)else kv)=ks.zip (List.zipWith (λk' x'=>if k'=k then v else x') ks vs)
 |[],_=>by simp
 |_::_,[]=>by simp
 |k'::ks,w::vs=>by
  rw[List.zip_cons_cons,List.map_cons,wL k v ks vs,List.zipWith_cons_cons,List.zip_cons_cons];by_cases e:k'=k
  ·simp[e]
  ·simp[e]
theorem rf {κ:Type}[DecidableEq κ]{ks:List κ}{vs:List V}(hl:ks.length=vs.length)(k:κ)(v:V):jM (ks.zip vs) k v=(cA ks k).zip (cw ks vs k v):=by
 unfold jM cA cw;rw[wK k hl];by_cases h:k∈ks
 ·rw[if_pos (decide_eq_true h),if_pos h,if_pos h,wL]
 ·rw[if_neg (by simpa using h),if_neg h,if_neg h,List.zip_append hl];rfl
theorem mr {κ α:Type}[DecidableEq κ]{ks:List κ}{xs:List α}(hl:ks.length=xs.length)(k:κ)(x:α):(cA ks k).length=(cw ks xs k x).length:=by
 unfold cA cw;split<;>simp[hl]
theorem IsL.zipWith {κ:Type}[DecidableEq κ]{K:PySem.W.Frag}{B:Hp}{k:κ}{v:V}{d:D}(i:Is K B v d):∀ {ks:List κ}{vs:List V}{ds:List D},IsL K B vs ds->IsL K B (List.zipWith (λk' x'=>if k'=k then v else x') ks vs) (List.zipWith (λk' x'=>if k'=k then d else x') ks ds)
 |[],_,_,_=>by simpa using IsL.nil
 |_::_,_,_,.nil=>by simpa using IsL.nil
 |k'::ks,_,_,.cons h t=>by
  rw[List.zipWith_cons_cons,List.zipWith_cons_cons];refine .cons ?_ (IsL.zipWith i t);by_cases e:k'=k
  ·rw[if_pos e,if_pos e];exact i
  ·rw[if_neg e,if_neg e];exact h
theorem IsL.put {κ:Type}[DecidableEq κ]{K:PySem.W.Frag}{B:Hp}{k:κ}{v:V}{d:D}(i:Is K B v d){ks:List κ}{vs:List V}{ds:List D}(h:IsL K B vs ds):IsL K B (cw ks vs k v) (cw ks ds k d):=by
 unfold cw;split
 ·exact h.zipWith i
 ·exact h.append (.cons i .nil)
section
variable {K:PySem.W.Frag}{E:Ends}{σ:St}{H:Hp}
noncomputable def zV (i:Nat):FS:=λρ=>some (.nx (ρ.set i (some (.dk [] [],true))))
noncomputable def wM (i:Nat):FS:=λρ=>some (.nx (ρ.set i (some (.dt [] [],true))))
theorem StN.newBox {B0 H0 N:Hp}{ρ:Env}(s:StN K B0 H0 N H σ ρ){p:Addr}{ob:HO}{dd:D}(i:Nat)(hp:H p=none)(hb:∀C,Bx K C ob dd):StN K B0 H0 (upd N p ob) (upd H p ob) (σ.set i (some (.ref p))) (ρ.set i (some (dd,true))):=by
 have x:=Ext.laid (o:=ob) s.ext.nh hp;have s1:=s.grow x;have hNp:N p=none:=s.ext.nh.free hp;have hop:¬own σ ρ p:=λz=>by obtain⟨ws,⟨q,_⟩,_⟩:=s.owned z;rw[hNp]at q;cases q
 have c:aM (cut N (own σ ρ)) (cut (upd N p ob) (λb=>own σ ρ b∨b=p)):=dP λb u e q=>⟨x.bn _ _ e,λz=>z.elim q λz=>by subst z;rw[hNp]at e;cases e⟩;refine s1.bindOwn a0 (s.ext.hh.free hp) (λj e q z=>hop ⟨j,e,q,z⟩) (λj e _ q=>?_) (λj e _ q=>?_) (hb _)
 ·obtain⟨w,h1,h2⟩:=s.sh j e q;exact⟨w,h1,h2.mono c⟩
 ·obtain⟨a',o',h1,h2,_,h4⟩:=s.ow j e q;exact⟨a',o',h1,x.bn _ _ h2,h4.mono c⟩
theorem zW {i:Nat}(q:tDS K (zV i) E σ H):xA zb (iG i) E σ H:=by
 obtain⟨B0,H0,ρ,r,⟨N,s⟩,e,p⟩:=q;cases e
 exact λa ob ha=>p _ _ ⟨_,s.newBox i ha λ_=>.dk (ks:=[]) (vs:=[]) rfl .nil⟩
theorem zX {i:Nat}(q:tDS K (wM i) E σ H):xA zc (iG i) E σ H:=by
 obtain⟨B0,H0,ρ,r,⟨N,s⟩,e,p⟩:=q;cases e
 exact λa ha=>p _ _ ⟨_,s.newBox i ha λ_=>.dt (ks:=[]) (vs:=[]) rfl .nil⟩
noncomputable def pH (i:Nat)(fk fv:FE):FS:=λρ=>match ρ[i]? with
 |some (some (.dk ks vs,true))=>(fv ρ).bind λv=>(fk ρ).bind λk=>(gF k.1).bind λkk=>if bo v.1=true/\ks.length<sizeLine then some (.nx (ρ.set i (some (.dk (cA ks kk) (cw ks vs kk v.1),true))))else none
 |_=>none
theorem zY {i:Nat}{fk fv:FE}(q:tDS K (pH i fk fv) E σ H):yZ (AL i) (tD K fk) (tD K fv) E σ H:=by
 obtain⟨B0,H0,ρ,r,⟨N,s⟩,e,p⟩:=q;unfold pH at e;split at e
 ·rename_i ks ds ei;obtain⟨v,ev,e⟩:=oX e;obtain⟨k,ek,e⟩:=oX e;obtain⟨kk,hk,e⟩:=oX e;split at e
  ·rename_i hx;cases e
   refine⟨N,ρ,v.1,v.2,s.ext.nh,s.rep,ev,λv1 H1 N1 x1 i1 _=>?_⟩;have s1:=s.grow x1;obtain⟨a,o,h1,h2,h3,h4⟩:=s1.ow i _ ei;refine⟨.ref a,h1,N1,ρ,k.1,k.2,s1.ext.nh,s1.rep,ek,λv2 H2 N2 x2 i2 _=>?_⟩;have s2:=s1.grow x2;have hv:=nq i2 hk;subst hv;obtain⟨a',o',k1,k2,k3,k4⟩:=s2.ow i _ ei;rw[h1]at k1;cases k1
   cases k4 with
   |@dk ks vs ds hl h5 ob=>
    refine⟨a,rfl,.inl ⟨_,kk,_,s2.ext.nh _ _ k2,rfl,?_,λob'=>?_⟩⟩
    ·rw[List.length_zip];omega
    ·rw[rf hl];exact p σ _ ⟨_,s2.writeB ei h1 (.dk (mr hl _ _) (h5.put (s2.flat (i1.mono x2.bn) hx.1)))⟩
  ·cases e
 ·cases e
end
section
variable {X:Cx}{pos:Pos}{e k:Expr}
theorem BJ {i:Nat}{x:Str}{p dp:Pos}(hN:X.N.Nodup)(hi:X.N[i]? = some x:=by rfl)(hx:Loc X.env.scope x:=by first|exact Or.inl rfl|exact Or.inr rfl)(hs:swapsWith (.Dict [] [] dp) (some (.Name x p)) pos.line X.env=pure false:=by rfl)
  (hf:X.fn x=true∨X.env.scope.names.lookup x=some .local:=by first|exact .inl rfl|exact .inr rfl):JS X (.Assign [.Name x p] (.Dict [] [] dp) pos) (zV i):=PS.to (u5 hN hi hx zd hs hf) λ_ _ _ q=>zW q
theorem wN {i:Nat}{x:Str}{p dp:Pos}(hN:X.N.Nodup)(hi:X.N[i]? = some x:=by rfl)(hx:Loc X.env.scope x:=by first|exact Or.inl rfl|exact Or.inr rfl)(hs:swapsWith (.Dict [] [] dp) (some (.Name x p)) pos.line X.env=pure false:=by rfl)
  (hf:X.fn x=true∨X.env.scope.names.lookup x=some .local:=by first|exact .inl rfl|exact .inr rfl):JS X (.Assign [.Name x p] (.Dict [] [] dp) pos) (wM i):=PS.to (u5 hN hi hx ze hs hf) λ_ _ _ q=>zX q
theorem BK {i:Nat}{y:Str}{py pt:Pos}{fk fv:FE}(hu:X.A.units+1<cLine)(hv:JE X e fv)(hk:JE X k fk)(hN:X.N[i]? = some y:=by rfl)(hvis:Vis X.env.scope y:=by first|exact Or.inl rfl|exact Or.inr (Or.inl rfl)|exact Or.inr (Or.inr rfl))(hd:(y == ("__debug__" : Str))=false:=by decide)
  (hcd:(y == ("__classdict__" : Str))=false:=by decide) (hs:swapsWith e (some (.Subscript (.Name y py) k pt)) pos.line X.env=pure false:=by rfl):JS X (.Assign [.Subscript (.Name y py) k pt] e pos) (pH i fk fv) :=
 PS.to (wb hu (kN hN hvis hd hcd) hk hv hs) λ_ _ _ q=>zY q
end
section
variable {prog:Program}{w:World}{A:Around}{E:Value->Shared->Prop}{s:Shared}
noncomputable abbrev Ep (h:Heap)(z TI TO T0:Addr)(f:Bool):Prop:=h.get? z=some { cls:=.type "zip",dict:=none,data:=.fields #[rawInt T0,.bool f,.bool false,.ref TI,.ref TO],slots:=#[] }
end
noncomputable def ZSt (k1 k2:Bool)(z TI TO i1 i2 l1 l2 S:Addr)(i:Nat)(h:Heap):Prop :=
 IsPair h TI (.ref i1) (.ref i2)/\KIt k1 h i1 l1 i/\KIt k2 h i2 l2 i/\((IsZip h z TI TO .none/\∃a b,IsPair h TO a b)∨∃T0 f oT oO,Ep h z TI TO T0 f/\h.get? T0=some oT/\T0∉[z,TI,TO,i1,i2]/\T0≠S/\h.get? TO=some oO)
section
variable {prog:Program}{w:World}{A:Around}{E:Value->Shared->Prop}{s:Shared}{k1 k2:Bool}{z TI TO i1 i2 l1 l2 S:Addr}{j:Nat}{xs ys:Array Value}
theorem ZSt.ty {h:Heap}(st:ZSt k1 k2 z TI TO i1 i2 l1 l2 S j h):∃o,h.get? z=some o/\o.cls=.type "zip":=by
 obtain⟨_,_,_,a4⟩:=st;rcases a4 with⟨b1,_⟩|⟨T0,f,oT,oO,b1,_⟩
 ·exact⟨_,b1,rfl⟩
 ·exact⟨_,b1,rfl⟩
end
theorem nu {H:Hp}{a:Addr}{o:HO}(h:H a=none):aM H (upd H a o):=λb u e=>by rw[aB (aN e h)];exact e
@[simp] noncomputable def fLZ (fa fb:FE):FE:=λρ=>(GD fa fb ρ).map λds=>(.lst ds,true)
end DL
namespace DL
open PySem PySem.Spec PyProof.Rows
theorem rg:typeLookup (.type "list") "keys" = pure none:=by rw[typeLookup_type,builtinLookup_eq_fast];kernel_rfl
theorem yp {prog:Program}{w:World}{A:Around}{E:Value->Shared->Prop}{s:Shared}{a:Addr}{xs:Array Value}{k:Nat}{sl:Array (Option Value)}{Q:Option Value->Shared->Prop}
  (hx:s.heap.get? a=some { cls:=.type "list",dict:=none,data:=.seq xs k,slots:=sl }) (hA:A.handled=none)
  (h:∀h' tk,(∀b o,s.heap.get? b=some o->h'.get? b=some o)->Q none { s with heap:=h',toks:=tk }):
  wpAny (model prog w) A (getAttr? (.ref a) "keys") Q E s:=by
 obtain⟨hp,g,d,tk,os⟩:=s;have hT:∀tk',(⟨hp,g,d,tk',os⟩:Shared).TypeIs (.ref a) "list":=λ_=>⟨_,hx,rfl⟩;have f1:=sub_AttributeError;have f3:=PySem.F.slot_list_getattribute.lookup;have f4:=PySem.F.slot_list_getattribute.bind (.ref a);have f5:=am_list_getattr_none;unfold getAttr? getAttrBy? getAttrBy;repeat (any_goals (first|assumption|exact hT _|((with_reducible show wpAny _ _ (call (Value.builtin "list.__getattribute__") _ _) _ _ _);refine call_meets PySem.F.slot_list_getattribute (hT _) am_entry_list_getattribute (PySem.F.args_list_getattribute_2 _ _) (meets_getattribute_miss_list a xs k sl "keys" _ rg (by decide) (by decide)) ⟨hx,hA,λh' tk' e hx'=>?_⟩)|wp_step))
 obtain⟨t',u',he⟩:=hx'.there;show wpAny _ _ (getattributeRaised _ _ _ _ _ _ _) _ _ _;unfold getattributeRaised;repeat (any_goals (first|assumption|wp_step))
 exact h _ _ hx'.of.keeps
end DL
namespace DL
open PySem PySem.Spec PyProof.Rows L2
noncomputable def gu:List D->Option (List (Key×D))
 |[]=>some []
 |.tup [k,v]::r=>(gF k).bind λkk=>(gu r).map λl=>(kk,v)::l
 |_=>none
noncomputable def kj (a:List Key×List D)(p:Key×D):List Key×List D:=(cA a.1 p.1,cw a.1 a.2 p.1 p.2)
noncomputable def bw (l:List (Key×D)):List Key×List D:=l.foldl kj ([],[])
theorem j8 (l:List (Key×D))(p:Key×D):bw (l++[p])=kj (bw l) p:=by unfold bw;rw[List.foldl_append];rfl
theorem nv:∀ {ds:List D}{l:List (Key×D)},gu ds=some l->l.length=ds.length
 |[],l,h=>by simp[gu]at h;subst h;rfl
 |d::r,l,h=>by
  unfold gu at h;split at h
  ·rename_i h0;cases h0
  ·rename_i k v r' h0;cases h0
   obtain⟨kk,_,h⟩:=oX h;obtain⟨l',h1,rfl⟩:=oY h;simp[nv h1]
  ·cases h
theorem nw:∀ {ds:List D}{l:List (Key×D)}{i:Nat}{d:D},gu ds=some l->ds[i]? = some d->∃k v kk,d=.tup [k,v]/\gF k=some kk/\l[i]? = some (kk,v)
 |[],l,i,d,_,h=>by simp at h
 |d0::r,l,i,d,h,hi=>by
  unfold gu at h;split at h
  ·rename_i h0;cases h0
  ·rename_i k v r' h0;cases h0
   obtain⟨kk,h2,h⟩:=oX h;obtain⟨l',h1,rfl⟩:=oY h;cases i with
   |zero=>simp at hi;subst hi;exact⟨k,v,kk,rfl,h2,rfl⟩
   |succ i=>simp only[List.getElem?_cons_succ]at hi ⊢;exact nw h1 hi
  ·cases h
theorem km (l:List (Key×D)):∀a:List Key×List D,a.1.length=a.2.length->(l.foldl kj a).1.length=(l.foldl kj a).2.length/\(l.foldl kj a).1.length<=a.1.length+l.length:=by
 induction l with
 |nil=>intro a h;exact⟨h,Nat.le_refl _⟩
 |cons p l ih=>
  intro a h;have h1:(kj a p).1.length<=a.1.length+1:=by
   show(cA _ _).length<=_;unfold cA;split<;>simp
  have:=ih (kj a p) (mr h _ _);rw[List.foldl_cons,List.length_cons];exact⟨this.1,by omega⟩
theorem yq (l:List (Key×D)):(bw l).1.length=(bw l).2.length/\(bw l).1.length<=l.length:=by
 have:=km l ([],[]) rfl;exact⟨this.1,Nat.le_trans this.2 (by simp)⟩
theorem pJ:entryFor table "dict.update.loop" = some Builtin.«dict.update.loop»:=entryFor_of_tree (by kernel_rfl)
theorem jd:plainId "dict.update.loop" = true:=by decide +kernel
section
variable {X:Cx}{pins:List (Addr×Obj)}{σ:St}{B H0:Hp}{A:Around}{R:Result->Shared->Prop}{it l d:Addr}{us:List V}{ds:List D}{kds:List (Key×D)}
theorem vt (hA:A.handled=none)(nl:l≠it)(nd:d≠it)(hl:SqL X.K B l us)(il:IsL X.K B us ds)(hp:gu ds=some kds)
  (hR:∀Hc N vs ob s',Inv X pins σ (upd Hc d (.dK ((bw kds).1.zip vs) ob)) s'->Hc d=none->Ext B N H0 Hc->(bw kds).1.length=vs.length->IsL X.K N vs (bw kds).2->R (.ok (.ret .none)) s'):
  ∀(k i:Nat)(tk:Nat)(s:Shared)(Hc N:Hp)(vs:List V)(ob:Obj),ds.length - i=k->i<=ds.length->Inv X pins σ (upd Hc d (.dK ((bw (kds.take i)).1.zip vs) ob)) s->Hc d=none->Ext B N H0 Hc->kO X pins (upd Hc d (.dK ((bw (kds.take i)).1.zip vs) ob)) it ->
   s.heap.IsListIter it l i->(bw (kds.take i)).1.length=vs.length->IsL X.K N vs (bw (kds.take i)).2 ->
   codeAny (model X.prog X.w) A (.builtin "dict.update.loop" ⟨[.ref d,.ref it,.int i tk,.none],[]⟩) R s:=by
 have n1:=il.length;have n2:=nv hp;intro k;induction k with
 |zero=>
  intro i tk s Hc N vs ob hk hi I hc xt fp st hz hv;have hin:i=ds.length:=by omega
  have sm:aM B (upd Hc d (.dK ((bw (kds.take i)).1.zip vs) ob)):=(xt.bn.trans xt.nh).trans (nu hc);obtain⟨its,r1,p1,z1⟩:=I.list (sm.seq hl);have e1:=r1.length;refine codeAny_builtin pJ ?_;rw[Around.under_plainId jd _];show wpAny _ A.in1 (pyNext (.ref it)>>=_) _ _ s;refine wX (wpAny_pyNext_list_end (A:=A.in1) hA st p1.isList (by simp;omega) λh' hk'=>?_);show wpAny _ _ (Builtin.Dict.addKeywords d []>>=_) _ _ _;refine wX (wY (wY ?_));have I1:=qQ (t':=s.toks) (h':=h') (ch:=[it]) I (λb hb=>by rw[List.mem_singleton.mp hb];exact fp) λb o hb e=>hk' b o (λq=>hb (by simp[q])) e;rw[hin,←n2,List.take_length]at I1 hz hv;exact hR Hc N vs ob _ I1 hc xt hz hv
 |succ k ih=>
  intro i tk s Hc N vs ob hk hi I hc xt fp st hz hv;have hlt:i<ds.length:=by omega
  have sm:aM B (upd Hc d (.dK ((bw (kds.take i)).1.zip vs) ob)):=(xt.bn.trans xt.nh).trans (nu hc);obtain⟨its,r1,p1,z1⟩:=I.list (sm.seq hl);obtain⟨kd,vd,kk,ed,ek,el⟩:=nw hp (List.getElem?_eq_getElem hlt);obtain⟨x,hx,ix⟩:=il.get (List.getElem?_eq_getElem hlt);rw[ed]at ix;cases ix with
  |@tup T xs _ hT hxs=>
   cases hxs with
   |cons ik r=>
    cases r with
    |cons iv r=>
     cases r
     rename_i xk xv;have exk:=nq ik ek;subst exk;obtain⟨u,hu,ru⟩:=r1.get hx;cases (show u=Value.ref T from ru)
     refine codeAny_builtin pJ ?_;rw[Around.under_plainId jd _];show wpAny _ A.in1 (pyNext (.ref it)>>=_) _ _ s;refine wX (wpAny_pyNext_list_item (A:=A.in1) st p1.isList (x:=.ref T) (by simpa using hu) λh' st' hs=>?_);have I1:=qQ (t':=s.toks) (h':=h') (ch:=[it]) I (λb hb=>by rw[List.mem_singleton.mp hb];exact fp) λb o hb e=>hs.extBut b o (λq=>hb (by simp[q])) e;obtain⟨ps,r2,p2,z2⟩:=I1.tuple (bd sm hT);obtain⟨uk,uv,rfl,rk,rv⟩:=r2.two;have hpr:Shared.TypeIs { s with heap:=h' } (.ref T) "tuple":=by obtain⟨o,e,c,_⟩:=p2;exact⟨o,e,c⟩
     dsimp only;refine wX (wpAny_holding (wX (wpAny_tryCatch ?_)));unfold Builtin.Dict.pairItems;refine wX (wpAny_typeOf hpr ?_);obtain⟨oT,eT,cT,nT,dT⟩:=p2;rw[if_pos (by decide)];refine wX (wpAny_seqItems eT dT (wY ?_));show wpAny _ _ (holding [uk,uv] (dictSet d uk uv)) _ _ _;obtain⟨zz,hsm,vs0,rel,dd⟩:=rW I1.hok (a:=d) a0;have hz0:vs0.length<=sizeLine:=by rw[←rel.length];exact zz
     have nk:((bw (kds.take i)).1.zip vs).length<sizeLine:=by
      have a1:=(yq (kds.take i)).2;have a2:=z1;rw[List.length_take]at a1;rw[List.length_zip];omega
     refine wpAny_holding (wpAny_dictSet_pairs (hsz:=hz0) (m9 rk) dd λh2 dd2 hs2=>?_);have hl2:(jM ((bw (kds.take i)).1.zip vs) kk xv).length<=sizeLine:=by have:=iI ((bw (kds.take i)).1.zip vs) kk xv;omega
     obtain⟨ob2,he2⟩:∃q,h2.get? d=some q:=let ⟨q,_,_,hq,_⟩:=dd2;⟨q,hq⟩;have I2:=qC (t':=s.toks+1) I1 (a:=d) (ob:=.dK (jM ((bw (kds.take i)).1.zip vs) kk xv) ob2) (by rw[a0];exact True.intro) hs2 ⟨_,he2⟩ (yY hl2 hsm (rel.put kk rv) dd2 he2);rw[AI,rf hz]at I2;have et:kds.take (i+1)=kds.take i++[(kk,vd)]:=by rw[List.take_add_one,el];rfl
     have ed1:(bw (kds.take (i+1))).1=cA (bw (kds.take i)).1 kk:=by rw[et,j8];rfl
     have ed2:(bw (kds.take (i+1))).2=cw (bw (kds.take i)).1 (bw (kds.take i)).2 kk vd:=by rw[et,j8];rfl
     refine wY ⟨plainId_quiet jd _,?_⟩;refine ih (i+1) 0 _ Hc N (cw (bw (kds.take i)).1 vs kk xv) ob2 (by omega) hlt (by rw[ed1];exact I2) hc xt ?_ ?_ ?_ ?_
     ·obtain⟨f0,f1⟩:=fp;refine⟨?_,f1⟩;rw[aB nd.symm]at f0 ⊢;exact f0
     ·exact st'.at λo e=>(hs2.2 it nd.symm).trans e
     ·rw[ed1];exact mr hz _ _
     ·rw[ed2];exact hv.put (iv.mono xt.bn)
end
@[simp] noncomputable def ia:List D->Option (D×Bool)
 |[.lst ds]=>(gu ds).map λkds=>(.dk (bw kds).1 (bw kds).2,false)
 |_=>none
theorem Er:bootBuiltins "dict" = some (.type "dict"):=by decide +kernel
section
variable {X:Cx}
theorem Es (hcal:X.calm=true):bO X (.type "dict") (rDA X.K ia):=by
 intro pins s σ H xs us Q I r h;obtain⟨B,dds,d0,bb,sB,i0,ee,q⟩:=h;cases i0 with
 |nil=>simp[ia]at ee
 |cons i1 i2=>
  cases i2 with
  |cons _ _=>cases i1<;>simp[ia]at ee
  |nil=>
   cases i1<;>try (simp[ia]at ee;done)
   rename_i l ws ds hl il;simp only[ia]at ee;obtain⟨kds,hp,ee⟩:=oY ee;cases ee
   obtain⟨u,rfl,rx⟩:=gv r;cases rx
   have hA:X.A.handled=none:=I.ok.hd hcal;refine callType_codes (Q₁:=λobj s₁=>obj=.ref s.heap.objs.size/\s₁={ s with heap:=s.heap.push { cls:=.type "dict",data:=.dict #[] } }) PySem.F.kt_called_dict (PySem.F.kt_typeCall_dict_1 _) PySem.F.entry_dict_init (kt_code_dict_new _ ⟨rfl,rfl⟩) ?_;rintro obj s₁ ⟨rfl,rfl⟩;have I1:Inv X pins σ (upd H s.heap.objs.size (.dK [] { cls:=.type "dict",data:=.dict #[] })) { s with heap:=s.heap.push { cls:=.type "dict",data:=.dict #[] } }:=I.laid (t':=s.toks) (λb o e=>Heap.get?_push_of_some _ e) (Nat.le_refl _) (rY s.heap I.big);have hc0:H s.heap.objs.size=none:=I.fresh;have hT:Shared.TypeIs { s with heap:=s.heap.push { cls:=.type "dict",data:=.dict #[] } } (.ref s.heap.objs.size) "dict":=⟨_,Heap.get?_push_size _ rfl,rfl⟩;refine⟨hT,PySem.F.args_dict_init_2 _ _,?_⟩;unfold Builtin.«dict.__init__»;refine wX ?_;unfold Builtin.Dict.selfAndRest;refine wX (wpAny_notOrdered_dict hT ?_);show wpAny _ _ (pure (s.heap.objs.size,[Value.ref l])) _ _ _;refine wY ?_;show wpAny _ _ (Builtin.Dict.updateFrom "dict.__init__" s.heap.objs.size (.ref l) [] .none) _ _ _;unfold Builtin.Dict.updateFrom;have sm:aM B (upd H s.heap.objs.size (.dK [] { cls:=.type "dict",data:=.dict #[] })):=sB.trans (nu hc0);obtain⟨its,r1,p1,z1⟩:=I1.list (sm.seq hl);have pl:=p1.isList;obtain⟨ol,nl,eol,cl,ddl,dl⟩:=p1;have hTl:Shared.TypeIs { s with heap:=s.heap.push { cls:=.type "dict",data:=.dict #[] } } (.ref l) "list":=⟨ol,eol,cl⟩;refine wX (wpAny_typeOf hTl ?_);rw[if_pos (by decide)];obtain⟨oc,od,oo,os⟩:=ol;simp only at cl ddl dl;subst cl ddl dl;refine wX (yp eol (by exact hA) λh' tk hk=>?_);dsimp only[Option.isNone_none];rw[if_pos rfl];have I2:Inv X pins σ (upd H s.heap.objs.size (.dK [] { cls:=.type "dict",data:=.dict #[] })) { s with heap:=h',toks:=tk }:=I1.kept (t':=tk) hk;refine wX (wpAny_rule ?_);refine wX (wpAny_pyIter_list (items:=its.toArray) ⟨_,hk _ _ eol,rfl,nl,rfl⟩ ?_);have I3:Inv X pins σ (upd H s.heap.objs.size (.dK [] { cls:=.type "dict",data:=.dict #[] })) { s with heap:=h'.push { cls:=.type "list_iterator",data:=.fields #[.ref l,.int 0 0] },toks:=tk }:=I2.kept (t':=tk) λb o e=>Heap.get?_push_of_some _ e;have ld:s.heap.objs.size<h'.objs.size:=Heap.lt_size (hk _ _ (Heap.get?_push_size _ rfl));have ll:l<h'.objs.size:=Heap.lt_size (hk _ _ eol);refine wY ⟨plainId_quiet jd _,vt (A:=X.A.in1) (B:=B) (H0:=H) (l:=l) (d:=s.heap.objs.size) (it:=h'.objs.size) hA (Nat.ne_of_lt ll) (Nat.ne_of_lt ld) hl il hp (λHc N vs ob s' I' hc' xt hz hv=>?_) _ 0 0 _ H B [] _ rfl (Nat.zero_le _) I3 hc0 (Ext.refl sB) (I2.fpOk (Nat.le_refl _) (I2.hok.fresh (Nat.le_refl _))) ⟨_,Heap.get?_push_size _ rfl,rfl,rfl⟩ rfl .nil⟩;refine⟨rfl,.ref s.heap.objs.size,_,I',rfl,?_⟩;have x3:=xt.trans (Ext.laid (o:=.dK ((bw kds).1.zip vs) ob) xt.nh hc');exact q _ _ _ x3 (.dk a0 hz (hv.mono (Ext.laid (o:=.dK ((bw kds).1.zip vs) ob) xt.nh hc').bn)) (by simp)
end
@[simp] noncomputable def GY:FE:=λ_=>none
@[simp] noncomputable def GZ:FA:=λ_=>none
theorem hu1 {n:Nat}(h:n+40<cLine):n+1<cLine:=by omega
@[simp] noncomputable def GI:D->D->Option (D×Bool)
 |.lst ds,.int k=>if 0<=k/\ds.length*k.toNat<=1000/\k<=1000 then some (.lst (List.replicate k.toNat ds).flatten,true)else none
 |_,_=>none
@[simp] noncomputable def Hk (fa fb:FE):FE:=λρ=>(fa ρ).bind λx=>if x.2=true then (fb ρ).bind λy=>GI x.1 y.1 else none
noncomputable def gh:List D->Option (List Key)
 |[]=>some []
 |d::ds=>(gF d).bind λk=>(gh ds).map (k :: ·)
theorem vv {K:PySem.W.Frag}{B:Hp}:∀ {vs:List V}{ds:List D}{ks:List Key},IsL K B vs ds->gh ds=some ks->vs=ks.map kV
 |_,_,ks,.nil,e=>by simp[gh]at e;subst e;rfl
 |_,_,ks,.cons i is,e=>by
  simp only[gh]at e;obtain⟨k,h1,e⟩:=oX e;obtain⟨r,h2,rfl⟩:=oY e;rw[nq i h1,vv is h2];rfl
@[simp] noncomputable def wO (fo:FE)(fa:FA):FE:=λρ=>(fo ρ).bind λx=>(fa ρ).bind λds=>match x.1 with
 |.dt kss vs=>if ds.length<=sizeLine then (gh ds).map λk=>((bv kss vs k).getD .non,false)else none
 |_=>none
section
variable {X:Cx}{o:Expr}{es:List Expr}{pos:Pos}
theorem t9 {apos cpos tpos:Pos}{x1:Nat}{fo:FE}{fa:FA}(hu:X.A.units+1<cLine)(ho:JE X o fo)(ha:JA X es fa)(m:M1 X o "get" apos (.Tuple es x1 tpos) cpos):JE X (.Call (.Attribute o "get" apos) [.Tuple es x1 tpos] [] cpos) (wO fo fa):=by
 refine PE.to (rZ hu ho (uC ha) m) λσ H Q q=>?_;obtain⟨B,ρ,d,bb,sB,r,ee,q⟩:=q;obtain⟨x,ex,ee⟩:=oX ee;obtain⟨ds,ey,ee⟩:=oX ee;refine⟨B,ρ,x.1,x.2,sB,r,ex,λv H1 N1 x1 i1 ff=>?_⟩;obtain⟨xd,xb⟩:=x;cases i1 with
 |@dt a ks vs dvs h hl hs=>
  simp only at ee;split at ee
  ·rename_i hz;obtain⟨k,hk,ee⟩:=oY ee;cases ee
   refine⟨a,rfl,.inr ⟨_,.inl (x1.nh _ _ h)⟩,N1,ρ,ds,x1.nh,r.mono x1.bn,ey,λus H2 N2 x2 i2=>?_⟩;have hv:=vv i2 hk;have hul:us.length<=sizeLine:=by rw[i2.length];exact hz
   refine⟨hul,λp hp=>?_⟩;have x3:=Ext.laid (o:=.tup us) x2.nh hp;have ha2:N2 a=some (.dT (ks.zip vs)):=x2.bn _ _ h;refine⟨iD (ks.zip vs) k,.inr ⟨_,k,p,.inl (x3.nh _ _ (x3.bn _ _ ha2)),rfl,by rw[a0,hv],rfl⟩,?_⟩;have hs2:=(hs.mono x2.bn).mono x3.bn;rcases nr k hl hs2 with⟨v,d',e1,e2,i3⟩|⟨e1,e2⟩
   ·rw[e1];rw[e2]at q;exact(q.into ((x1.trans x2).trans x3)).one x3.nh i3
   ·rw[e1];rw[e2]at q;exact(q.into ((x1.trans x2).trans x3)).one x3.nh .non
  ·cases ee
 |_=>simp at ee
end
section
variable {K:PySem.W.Frag}{E:Ends}{σ:St}{H:Hp}
noncomputable def ny (i:Nat)(fk:FA)(fv:FE):FS:=λρ=>match ρ[i]? with
 |some (some (.dt ks vs,true))=>(fv ρ).bind λv=>(fk ρ).bind λkd=>(gh kd).bind λkk=>if bo v.1=true/\ks.length<sizeLine/\kd.length<=sizeLine then some (.nx (ρ.set i (some (.dt (cA ks kk) (cw ks vs kk v.1),true))))else none
 |_=>none
theorem zZ {i:Nat}{fk:FA}{fv:FE}(q:tDS K (ny i fk fv) E σ H):yZ (AL i) (Fj (tDA K fk)) (tD K fv) E σ H:=by
 obtain⟨B0,H0,ρ,r,⟨N,s⟩,e,p⟩:=q;unfold ny at e;split at e
 ·rename_i ks ds ei;obtain⟨v,ev,e⟩:=oX e;obtain⟨kd,ek,e⟩:=oX e;obtain⟨kk,hk,e⟩:=oX e;split at e
  ·rename_i hx;cases e
   refine⟨N,ρ,v.1,v.2,s.ext.nh,s.rep,ev,λv1 H1 N1 x1 i1 _=>?_⟩;have s1:=s.grow x1;obtain⟨a,o,h1,h2,h3,h4⟩:=s1.ow i _ ei;refine⟨.ref a,h1,N1,ρ,kd,s1.ext.nh,s1.rep,ek,λus H2 N2 x2 i2=>?_⟩;have s2:=s1.grow x2;have hv:=vv i2 hk;refine⟨by rw[i2.length];exact hx.2.2,λpp hp=>?_⟩;have x3:=Ext.laid (o:=.tup us) s2.ext.nh hp;have s3:=s2.grow x3;obtain⟨a',o',k1,k2,k3,k4⟩:=s3.ow i _ ei;rw[h1]at k1;cases k1
   cases k4 with
   |@dt ks vs ds hl h5=>
    refine⟨a,rfl,.inr ⟨_,kk,pp,s3.ext.nh _ _ k2,rfl,by rw[a0,hv],?_,?_⟩⟩
    ·rw[List.length_zip];omega
    ·rw[rf hl];exact p σ _ ⟨_,s3.writeB ei h1 (.dt (mr hl _ _) (h5.put (s3.flat ((i1.mono x2.bn).mono x3.bn) hx.1)))⟩
  ·cases e
 ·cases e
end
section
variable {X:Cx}{pos:Pos}{e:Expr}{es:List Expr}
theorem wP {i:Nat}{y:Str}{py pt tpos:Pos}{x1:Nat}{fk:FA}{fv:FE}(hu:X.A.units+1<cLine)(hv:JE X e fv)(hk:JA X es fk)(hN:X.N[i]? = some y:=by rfl)(hvis:Vis X.env.scope y:=by first|exact Or.inl rfl|exact Or.inr (Or.inl rfl)|exact Or.inr (Or.inr rfl))(hd:(y == ("__debug__" : Str))=false:=by decide)
  (hcd:(y == ("__classdict__" : Str))=false:=by decide) (hs:swapsWith e (some (.Subscript (.Name y py) (.Tuple es x1 tpos) pt)) pos.line X.env=pure false:=by rfl):JS X (.Assign [.Subscript (.Name y py) (.Tuple es x1 tpos) pt] e pos) (ny i fk fv) :=
 PS.to (wb hu (kN hN hvis hd hcd) (uC hk) hv hs) λ_ _ _ q=>zZ q
end
end DL
namespace DL
open PySem PySem.Spec PySem.W PyProof.Rows L2
section
variable {X:Cx}{a b c:Expr}{p pos:Pos}
noncomputable def Et (lo c:Int)(n:Nat):List D:=(List.range n).map λ(k:Nat)=>.int (lo+(k:Int)*c)
@[simp] noncomputable def Go (f g h:FE):FA:=λρ=>(f ρ).bind λx=>(g ρ).bind λy=>(h ρ).bind λz=>match x.1,y.1,z.1 with
 |.int i,.int j,.int c=>if(-1000<=i/\i<=1000/\-1000<=j/\j<=1000)/\(c=1∨c=2∨c=3)then some (Et i c (Builtin.Range.rangeSize i j c).toNat)else none
 |_,_,_=>none
end
end DL
namespace L2
open PySem PySem.Spec PyProof.Rows
noncomputable def ItK (a:Addr)(kvs:List (Key×V))(ob:Obj):It:=⟨λi H=>H a=some (.dK kvs ob)/\i<kvs.length,λi H x H'=>H'=H/\∃k v,kvs[i]? = some (k,v)/\x=kV k,λi H=>H a=some (.dK kvs ob)/\kvs.length<=i⟩
noncomputable def ItV (a:Addr)(kvs:List (Key×V))(ob:Obj):It:=⟨λi H=>H a=some (.dK kvs ob)/\i<kvs.length,λi H x H'=>H'=H/\∃k,kvs[i]? = some (k,x),λi H=>H a=some (.dK kvs ob)/\kvs.length<=i⟩
theorem KV.get {kvs:List (Key×V)}{vs:List (Key×Value)}(r:KV kvs vs){i:Nat}{k:Key}{x:V}(h:kvs[i]? = some (k,x)):∃u,vs[i]? = some (k,u)/\aL x u:=by
 unfold KV at r;induction r generalizing i with
 |nil=>simp at h
 |@cons p q ps qs hq t ih=>
  cases i with
  |zero=>
   cases (show p=(k,x)from Option.some.inj h)
   obtain⟨q1,q2⟩:=q;exact⟨q2,by rw[show k=q1 from hq.1];rfl,hq.2⟩
  |succ i=>exact ih h
theorem FW {P:Program}{w:World}{k:Key}{u:Value}(h:(cj P w).is k u=true):aL (kV k) u:=by
 cases k with
 |inl i=>exact Value.isInt_shape h
 |inr z=>exact Value.isStrOf_shape h
section
variable {P:Program}{w:World}{H:Hp}{h:Heap}{a:Addr}
theorem tE {kvs:List (Key×V)}{ob:Obj}{es:Array DictEntry}{ep:Nat}(ok:HOk P w H h)(e:H a=some (.dK kvs ob))(hd:ob.data=.dict es ep):∃vs,KV kvs vs/\h.DictAt (cj P w) a vs ep:=by
 obtain⟨_,_,vs,r,o,es',ep',h1,h2,h3,h4⟩:=rW ok e;rw[uJ ok e]at h1;cases h1
 rw[hd]at h3;cases h3
 exact⟨vs,r,ob,es,uJ ok e,h2,hd,h4⟩
theorem BL {kvs:List (Key×V)}{ob:Obj}(ok:HOk P w H h)(e:H a=some (.dK kvs ob)):∃es ep,ob.data=.dict es ep:=by
 obtain⟨_,_,vs,r,o,es',ep',h1,h2,h3,h4⟩:=rW ok e;rw[uJ ok e]at h1;cases h1
 exact⟨es',ep',h3⟩
end
theorem EG {P:Program}{w:World}{K:PySem.W.Frag}{tg:Expr}(a it:Addr)(kvs:List (Key×V))(ob:Obj){es:Array DictEntry}{ep:Nat}(hd:ob.data=.dict es ep):Turn P w K tg (ItV a kvs ob) [it] it (λi h=>h.IsValIter it a i kvs.length ep) where
 mem:=by simp
 obj:=λi h st b hb=>by
  have e:b=it:=by simpa using hb
  subst e;obtain⟨o,e,c,d⟩:=st;exact⟨o,e,λv z=>by rw[d]at z;cases z⟩
 keep:=λi h h' st k=>st.at λo e=>k it (by simp) o e
 item:=by
  intro X hP hw hK hc i pins s σ H E I hf st hg;subst hP hw hK;obtain⟨hH,hlt⟩:=hg;obtain⟨vs,r,m⟩:=tE I.hok hH hd;obtain⟨f0,f1,f2,f3,f4,f5⟩:=hf it (by simp);have hl:vs.length=kvs.length:=(Paired.length r).symm;obtain⟨u,hu,ru⟩:=r.get (k:=kvs[i].1) (x:=kvs[i].2) (List.getElem?_eq_getElem hlt);refine wpAny_pyNext_values_item (by rw[hl];exact st) m hu λh' st' sb=>?_;rw[hl]at st';have I1:Inv X pins σ H { s with heap:=h' }:=I.turned (t':=s.toks) (λb o hb e=>(sb.2 b hb).trans e) f0 f1 f3 f4 f5;obtain⟨o,e,c,d⟩:=id st';exact⟨u,rfl,m7 (s:={ s with heap:=h' }) e c d (by decide) ⟨kvs[i].2,H,I1,ru,⟨rfl,kvs[i].1,List.getElem?_eq_getElem hlt⟩,st',λb hb=>(hf b hb).1⟩⟩
 done:=by
  intro X hP hw hK hc i pins s σ H E I hf st hg;subst hP hw hK;obtain⟨hH,hle⟩:=hg;obtain⟨vs,r,m⟩:=tE I.hok hH hd;obtain⟨f0,f1,f2,f3,f4,f5⟩:=hf it (by simp);have hl:vs.length=kvs.length:=(Paired.length r).symm;exact wpAny_pyNext_values_end (I.ok.hd hc) (by rw[hl];exact st) m (List.getElem?_eq_none (by omega)) λh' eb=>⟨rfl,I.turned (t':=s.toks) (λb o hb e=>eb b o hb e) f0 f1 f3 f4 f5⟩
 self:=λ_ _ _ _ _ st h=>wpAny_pyIter_valiter st h
theorem yr {P:Program}{w:World}{K:PySem.W.Frag}{tg:Expr}(a it:Addr)(kvs:List (Key×V))(ob:Obj){es:Array DictEntry}{ep:Nat}(hd:ob.data=.dict es ep):Turn P w K tg (ItK a kvs ob) [it] it (λi h=>h.IsKeyIter it a i kvs.length ep) where
 mem:=by simp
 obj:=λi h st b hb=>by
  have e:b=it:=by simpa using hb
  subst e;obtain⟨o,e,c,d⟩:=st;exact⟨o,e,λv z=>by rw[d]at z;cases z⟩
 keep:=λi h h' st k=>st.at λo e=>k it (by simp) o e
 item:=by
  intro X hP hw hK hc i pins s σ H E I hf st hg;subst hP hw hK;obtain⟨hH,hlt⟩:=hg;obtain⟨vs,r,m⟩:=tE I.hok hH hd;obtain⟨f0,f1,f2,f3,f4,f5⟩:=hf it (by simp);have hl:vs.length=kvs.length:=(Paired.length r).symm;obtain⟨u,hu,ru⟩:=r.get (k:=kvs[i].1) (x:=kvs[i].2) (List.getElem?_eq_getElem hlt);refine wpAny_pyNext_dict_item (by rw[hl];exact st) m hu λkey h' hkey st' sb=>?_;rw[hl]at st';have I1:Inv X pins σ H { s with heap:=h' }:=I.turned (t':=s.toks) (λb o hb e=>(sb.2 b hb).trans e) f0 f1 f3 f4 f5;obtain⟨o,e,c,d⟩:=id st';exact⟨key,rfl,m7 (s:={ s with heap:=h' }) e c d (by decide) ⟨kV kvs[i].1,H,I1,FW hkey,⟨rfl,kvs[i].1,kvs[i].2,List.getElem?_eq_getElem hlt,rfl⟩,st',λb hb=>(hf b hb).1⟩⟩
 done:=by
  intro X hP hw hK hc i pins s σ H E I hf st hg;subst hP hw hK;obtain⟨hH,hle⟩:=hg;obtain⟨vs,r,m⟩:=tE I.hok hH hd;obtain⟨f0,f1,f2,f3,f4,f5⟩:=hf it (by simp);have hl:vs.length=kvs.length:=(Paired.length r).symm;exact wpAny_pyNext_dict_end (I.ok.hd hc) (by rw[hl];exact st) m (List.getElem?_eq_none (by omega)) λh' eb=>⟨rfl,I.turned (t':=s.toks) (λb o hb e=>eb b o hb e) f0 f1 f3 f4 f5⟩
 self:=λ_ _ _ _ _ st h=>wpAny_pyIter_keyiter st h
section
variable {X:Cx}{tg:Expr}
noncomputable def FX (td:TE):TI:=λσ H R=>td σ H λx H1=>∃a kvs ob,x=.ref a/\H1 a=some (.dK kvs ob)/\R (ItK a kvs ob) H1
theorem BM {o:Expr}{td:TE}(ho:PE X o td):PI X tg o (FX td):=by
 intro pins s σ H R I h;refine thn (ho pins s σ H _ I h) λv s1 ⟨x,H1,I1,r1,a,kvs,ob,ex,hH,q⟩=>?_;subst ex;cases r1
 obtain⟨es,ep,hd⟩:=BL I1.hok hH;obtain⟨vs,r,m⟩:=tE I1.hok hH hd;have hl:vs.length=kvs.length:=(Paired.length r).symm;refine wpAny_pyIter_dict (rW I1.hok hH).2.1 m ?_;rw[hl];refine⟨s1.heap.objs.size,[s1.heap.objs.size],_,_,H1,rfl,I1.kept (t':=s1.toks) λb o e=>Heap.get?_push_of_some _ e,yr a _ kvs ob hd,⟨_,Heap.get?_push_size _ rfl,rfl,rfl⟩,λb hb=>?_,q⟩;have e:b=s1.heap.objs.size:=by simpa using hb
 subst e;exact I1.fpOk (Nat.le_refl _) (I1.hok.fresh (Nat.le_refl _))
end
end L2
namespace DL
open PySem PySem.Spec PySem.W PyProof.Rows L2
noncomputable def kD:Key->D
 |.inl i=>.int i
 |.inr z=>.str z
theorem FY {K:PySem.W.Frag}{B:Hp}(k:Key):Is K B (kV k) (kD k):=by
 cases k with
 |inl i=>exact .int i
 |inr z=>exact .str z
section
variable {K:PySem.W.Frag}{B:Hp}
theorem BN {a:Addr}{ks:List Key}{vs:List V}{ob:Obj}(h:B a=some (.dK (ks.zip vs) ob))(hl:ks.length=vs.length):oD K (ItK a (ks.zip vs) ob) B (ks.map kD):=by
 intro i H s;have hz:(ks.zip vs).length=ks.length:=by rw[List.length_zip];omega
 refine⟨λd ed=>?_,λhlen=>⟨s _ _ h,by rw[hz];rw[List.length_map]at hlen;exact hlen⟩⟩;rw[List.getElem?_map]at ed;obtain⟨k0,ek,rfl⟩:=oY ed;have hlt:i<ks.length:=(List.getElem?_eq_some_iff.mp ek).1;refine⟨⟨s _ _ h,by rw[hz];exact hlt⟩,λy H3 hy=>?_⟩;obtain⟨rfl,k,v,e,rfl⟩:=hy;have:=(List.getElem?_zip_eq_some.mp e).1;rw[ek]at this;cases this
 exact⟨B,.refl s,FY _⟩
end
section
variable {X:Cx}{e:Expr}{tg:Expr}
@[simp] noncomputable def GJ (f:FE):FA:=λρ=>(f ρ).bind λx=>match x.1 with|.dk _ ds=>some ds|_=>none
@[simp] noncomputable def nz (f:FE):FA:=λρ=>(f ρ).bind λx=>match x.1 with|.dk ks _=>some (ks.map kD)|_=>none
theorem BO {f:FE}(h:JE X e f):JI X tg e (nz f):=by
 intro pins s σ H R I q;obtain⟨B,ρ,ds,sB,r,e',q⟩:=q;obtain⟨⟨xd,xb⟩,ex,es⟩:=oX e';cases xd<;>try (cases es;done)
 cases es
 refine BM h pins s σ H R I ⟨B,ρ,_,_,sB,r,ex,λv H1 N1 x1 i1 _=>?_⟩;cases i1 with
 |@dk a ks vs ds ob hd hl hs=>exact⟨a,_,ob,rfl,x1.nh _ _ hd,q _ H1 N1 x1 (BN hd hl)⟩
end
end DL
namespace DL
open PySem PySem.Spec PyProof.Rows L2
@[simp] noncomputable abbrev ixV (i:Nat)(j:Int):FE:=f2 ixD (af i) (fC (.int j))
theorem ay {X:Cx}{k j:Nat}{x:Str}{f:List D->Option (D×Bool)}{fa:FA}{e:Expr}{es:List Expr}{p pos:Pos}(F:Fn X.prog X.w X.K X.mg X.base k x f)(hr:Room j X.A)(ha:JA X (e::es) fa)(hj:k<=j:=by decide)(hg:Gl X x:=by rfl)(hdb:(x == ("__debug__" : Str))=false:=by decide)(he:starEach (e::es) X.env=(false,eval e X.env)::starEach es X.env:=by rfl)(hpl:(backTo pos (starEach es X.env)).any (·.1)=false:=by rfl):JE X (.Call (.Name x p) (e::es) [] pos) (fA f fa):=Bz F (hr.mono hj) ha hg hdb he hpl
theorem FZ {X:Cx}{scope:Scope}(h1:∀y∈scope.names,y.2≠.cell:=by decide +kernel)(h2:scope.kind=.function:=by rfl)(h3:∀y∈scope.names,y.2=.local->scope.names.lookup y.1=some .local:=by decide +kernel)(h4':(scope.names.all λy=>!(y.2 == NameKind.free) || (X.env.cells.lookup y.1).isSome)=true:=by rfl):CompSc X scope (cW scope.names X.env.cells []):=DI h1 h2 h3 h4'
theorem cpC {X:Cx}{N':List Str}{scope:Scope}{j i:Nat}{r:List Nat}{x:Str}(h1:N'[j]? = some x)(h2:X.N[i]? = some x)(t:Caps X N' scope (cW scope.names X.env.cells []) (j+1) r)(h3:X.env.kindOf x=some .cell∨X.env.kindOf x=some .free:=by exact Or.inl rfl)(h4:(relabel scope X.env).names.lookup x=some .cell∨(relabel scope X.env).names.lookup x=some .free:=by exact Or.inl rfl)(hf:(x,NameKind.free)∈scope.names:=by decide +kernel)(hc:(X.env.cells.lookup x).isSome=true:=by rfl):Caps X N' scope (cW scope.names X.env.cells []) j (i::r):=.cons h1 h2 h3 h4 (mn hf hc) t
end DL
namespace DL
open PySem PySem.Spec PySem.W PyProof.Rows L2
noncomputable def GK:D->Option (List At)
 |.tup [.int n,.tup es]=>(cI es).map (.i n :: ·)
 |_=>none
noncomputable def CT:List D->Option (List (List At))
 |[]=>some []
 |d::ds=>(GK d).bind λa=>(CT ds).map (a :: ·)
@[simp] noncomputable def GL (f:FE)(kf:Env->D->Option D):FE:=λρ=>(f ρ).bind λx=>match x.1 with
 |.lst ds=>(hZ (kf ρ) ds).bind λkds=>(CT kds).bind λks=>if ks.length<64/\c9 ks=true/\(ks.map bp).Nodup then some (.lst (gE ks ds),true)else none
 |_=>none
end DL
namespace DL
open PySem PySem.Spec PyProof.Rows L2
section
variable {P:Program}{w:World}{K:PySem.W.Frag}{mg:Str->Option Value}{base:Heap}
theorem Def.fq {x:Str}{st:Stmt}{k:Nat}{g:FS}{h:Heap}(F:Def K x st)(X:K.In h)(G:h.Ns mainGlobals mg)(N:List Str)(n:Nat)
  (hb:N.Nodup->∀(f:Addr)(cdv:Value)(A:Around)(outer:List PySem.Env)(s:Shared)(H:Hp)(E:XK),Room k (A.deeper (envOfC x (aJ st) s.heap.objs.size f cdv))->(A.deeper (envOfC x (aJ st) s.heap.objs.size f cdv)).units+40<cLine->JSs (lW CX0 P w K mg base N x (aJ st) f cdv A outer s H E).nox (cm st) g)
  (S:FnScope N (N.take n) (aJ st):=by refine⟨rfl,rfl,rfl,?_,rfl,?_,?_⟩<;>decide +kernel)
  (hbd:∀(kV doc pm:Value)(an:Option Addr)(cdv ct:Value)(us:List Value),us.length=(N.take n).length->bindArgs (PySem.W.fnOf x x (eW st) (cm st) (aJ st) .none kV doc pm an cdv ct) ⟨us,[]⟩=pure ((N.take n).zip us):=by
   intro _ _ _ _ _ _ us hl;first
    | (have hl:us.length=1:=hl;exact match us,hl with|[_],_=>rfl)
    | (have hl:us.length=2:=hl;exact match us,hl with|[_,_],_=>rfl)
    | (have hl:us.length=3:=hl;exact match us,hl with|[_,_,_],_=>rfl)
    | (have hl:us.length=4:=hl;exact match us,hl with|[_,_,_,_],_=>rfl)
    | (have hl:us.length=5:=hl;exact match us,hl with|[_,_,_,_,_],_=>rfl)
    | (have hl:us.length=6:=hl;exact match us,hl with|[_,_,_,_,_,_],_=>rfl)
    | (have hl:us.length=7:=hl;exact match us,hl with|[_,_,_,_,_,_,_],_=>rfl)):
  Fn P w K mg base (k+1) x (aU g (N.take n).length (N.length - (N.take n).length)):=F.fn X G S hbd λf cdv A outer s H E hr=>hb S.nd f cdv A outer s H E hr (xT hr)
theorem Def.fqL {x:Str}{st:Stmt}{k:Nat}{g:FS}{h:Heap}(F:Def K x st)(X:K.In h)(G:h.Ns mainGlobals mg)(N:List Str)(n:Nat)
  (hb:N.Nodup->∀(f:Addr)(cdv:Value)(A:Around)(outer:List PySem.Env)(s:Shared)(H:Hp)(E:XK),(∀c P,PySem.W.tabIn K x=some (c,P)->cdv=.ref c)->Room k (A.deeper (envOfC x (aJ st) s.heap.objs.size f cdv))->(A.deeper (envOfC x (aJ st) s.heap.objs.size f cdv)).units+40<cLine->JSs (lW CX0 P w K mg base N x (aJ st) f cdv A outer s H E).nox (cm st) g)
  (S:FnScope N (N.take n) (aJ st):=by refine⟨rfl,rfl,rfl,?_,rfl,?_,?_⟩<;>decide +kernel)
  (hbd:∀(kV doc pm:Value)(an:Option Addr)(cdv ct:Value)(us:List Value),us.length=(N.take n).length->bindArgs (PySem.W.fnOf x x (eW st) (cm st) (aJ st) .none kV doc pm an cdv ct) ⟨us,[]⟩=pure ((N.take n).zip us):=by
   intro _ _ _ _ _ _ us hl;first
    | (have hl:us.length=2:=hl;exact match us,hl with|[_,_],_=>rfl)
    | (have hl:us.length=3:=hl;exact match us,hl with|[_,_,_],_=>rfl)
    | (have hl:us.length=4:=hl;exact match us,hl with|[_,_,_,_],_=>rfl)):
  Fn P w K mg base (k+1) x (aU g (N.take n).length (N.length - (N.take n).length)):=F.fnL X G S hbd λf cdv A outer s H E hc hr=>hb S.nd f cdv A outer s H E hc hr (xT hr)
end
section
variable {X:Cx}{x:Str}{pos:Pos}
theorem pgV (i:Nat)(hN:X.N.Nodup)(hi:X.N[i]? = some x:=by rfl)(hx:Loc X.env.scope x:=by first|exact Or.inl rfl|exact Or.inr rfl)(hf:X.fn x=true∨X.env.scope.names.lookup x=some .local:=by first|exact .inl rfl|exact .inr rfl):PG X (.Name x pos) (iG i):=vW hN hi hx hf
theorem pgC {N':List Str}{scope:Scope}{cl:List (Str×Addr)}{C:Addr}{s:Shared}{H:Hp}{fp}(i:Nat)(hN:N'.Nodup:=by decide +kernel)(hi:(dQ X N' scope cl C s H fp).N[i]? = some x:=by rfl)(hx:Loc (dQ X N' scope cl C s H fp).env.scope x:=by exact Or.inl rfl)(hf:(dQ X N' scope cl C s H fp).fn x=true∨(dQ X N' scope cl C s H fp).env.scope.names.lookup x=some .local:=by first|exact .inl rfl|exact .inr rfl):PG (dQ X N' scope cl C s H fp) (.Name x pos) (iG i):=vW hN hi hx hf
theorem iA {tg iter elt:Expr}{ifs:List Expr}{scope:Scope}(N':List Str){nT:Nat}{cap:List Nat}{fi:FA}{tgF:FG}{g:TG}{fc:FT}{fe:FE}
  (cp:Caps X N' scope (cW scope.names X.env.cells []) nT cap) (hi:JI X tg iter fi)
  (hg:∀C s H fp,PG (dQ X N' scope (cW scope.names X.env.cells []) C s H fp) tg g) (htg:TGE X.K nT tgF g) (hc:∀C s H fp,JC (dQ X N' scope (cW scope.names X.env.cells []) C s H fp) ifs fc) (he:∀C s H fp,JE (dQ X N' scope (cW scope.names X.env.cells []) C s H fp) elt fe)
  (S:CompSc X scope (cW scope.names X.env.cells []):=by exact FZ) (hcalm:X.calm=true:=by rfl)
  (hs:∀x,foldedSetIterable iter X.env x=pure x:=by intro _;rfl):
  JE X (.ListComp elt [⟨tg,iter,ifs,0⟩] scope pos) (bS fi nT cap tgF fc fe):=Bs hcalm S cp hi hg htg hc he hs
theorem lI {tg iter elt:Expr}{ifs:List Expr}{scope:Scope}{spos py:Pos}(N':List Str){nT:Nat}{cap:List Nat}{fi:FA}{tgF:FG}{g:TG}{fc:FT}{fe:FE}{y:Str}{i:Nat}(hN:X.N.Nodup)
  (cp:Caps X N' scope (cW scope.names X.env.cells []) nT cap) (hi:JI X tg iter fi)
  (hg:∀C s H fp,PG (dQ X N' scope (cW scope.names X.env.cells []) C s H fp) tg g) (htg:TGE X.K nT tgF g) (hc:∀C s H fp,JC (dQ X N' scope (cW scope.names X.env.cells []) C s H fp) ifs fc) (he:∀C s H fp,JE (dQ X N' scope (cW scope.names X.env.cells []) C s H fp) elt fe)
  (hi':X.N[i]? = some y:=by rfl) (hy:X.env.kindOf y=some .local:=by rfl)
  (hsw:swapsWith (.ListComp elt [⟨tg,iter,ifs,0⟩] scope pos) (some (.Name y py)) spos.line X.env=pure true:=by rfl)
  (S:CompSc X scope (cW scope.names X.env.cells []):=by exact FZ) (hcalm:X.calm=true:=by rfl)
  (hs:∀x,foldedSetIterable iter X.env x=pure x:=by intro _;rfl):
  JS X (.Assign [.Name y py] (.ListComp elt [⟨tg,iter,ifs,0⟩] scope pos) spos) (aS i (bS fi nT cap tgF fc fe)):=Bt hcalm hN hi' hy hsw S cp hi hg htg hc he hs
theorem iB {tg iter:Expr}{body:List Stmt}{fi:FA}{tgF:FG}{t:TG}{g:FS}(hi:JI X tg iter fi)(hg:PG X tg t)(ht:tDG X.K tgF t)(hb:JSs X body g)(hp:PassesOwn (model X.prog X.w) X.A X.env X.xe:=by exact PassesOwn.never)(hc:X.calm=true:=by rfl)
  (hs:∀x,foldedSetIterable iter X.env x=pure x:=by intro _;rfl):JS X (.For tg iter body [] pos) (gd fi tgF g):=DO hp hc hi hg ht hb hs
theorem Aa {tg iter:Expr}{body:List Stmt}{fi:FA}{tgF:FG}{t:TG}{g:FS}(hi:PI X tg iter (tDR X.K fi))(hg:PG X tg t)(ht:tDG X.K tgF t)(hb:JSs X body g)(hp:PassesOwn (model X.prog X.w) X.A X.env X.xe:=by exact PassesOwn.never)(hc:X.calm=true:=by rfl)
  (hs:∀x,foldedSetIterable iter X.env x=pure x:=by intro _;rfl):JS X (.For tg iter body [] pos) (lD fi tgF g):=By hp hc hi hg ht hb hs
end
end DL
namespace DL
open PySem PySem.Spec PySem.W PyProof.Rows L2
section
variable {X:Cx}
@[simp] noncomputable def nGe:D->D->Option (D×Bool)
 |.tup [.int n,.tup xs],.tup [.int m,.tup ys]=>(cI xs).bind λas=>(cI ys).bind λbs=>(aO (.i n::as) (.i m::bs)).map λr=>(.bl (!r),false)
 |_,_=>none
end
end DL
namespace DL
open PySem L2
theorem cQ {tg:FG}{g:FS}(I:Nat->Env->Prop)(ds:List D)(ρ0:Env)(h0:I 0 ρ0)
  (step:∀i d ρ,ds[i]? = some d->I i ρ->∃ρ1 ρ',tg d ρ=some ρ1/\(g ρ1=some (.nx ρ')∨g ρ1=some (.ct ρ'))/\I (i+1) ρ'):
  ∃ρ',eZ tg g ds ρ0=some (.nx ρ')/\I ds.length ρ':=by
 have key:∀(es:List D)(i:Nat)(ρ:Env),ds.drop i=es->i+es.length=ds.length->I i ρ->∃ρ',eZ tg g es ρ=some (.nx ρ')/\I ds.length ρ':=by
  intro es;induction es with
  |nil=>intro i ρ e hl h;refine⟨ρ,by rw[sd],?_⟩;rw[←hl];exact h
  |cons d es ih=>
   intro i ρ e hl h;have hd:ds[i]? = some d:=by
    have:(ds.drop i)[0]? = some d:=by rw[e];rfl
    rwa [List.getElem?_drop,Nat.add_zero]at this
   obtain⟨ρ1,ρ',h1,h2,h3⟩:=step i d ρ hd h;have he:ds.drop (i+1)=es:=by rw[←List.drop_drop,e];rfl
   obtain⟨ρ2,k1,k2⟩:=ih (i+1) ρ' he (by simp at hl;omega) h3;refine⟨ρ2,?_,k2⟩;rw[iY,h1];rcases h2 with h2|h2<;>simp only[Option.bind_some,h2]<;>exact k1
 exact key ds 0 ρ0 (by simp) (by simp) h0
theorem n0 {tg:FG}{g:FS}(n:Nat)(I:Nat->Env->Prop)(ρ0:Env)(h0:I 0 ρ0)
  (step:∀(i:Nat) ρ,i<n->I i ρ->∃ρ1 ρ',tg (.int (i:Int)) ρ=some ρ1/\(g ρ1=some (.nx ρ')∨g ρ1=some (.ct ρ'))/\I (i+1) ρ'):
  ∃ρ',eZ tg g (dS 0 n) ρ0=some (.nx ρ')/\I n ρ':=by
 have hl:(dS 0 n).length=n:=by simp[dS]
 obtain⟨ρ',h1,h2⟩:=cQ (tg:=tg) (g:=g) I (dS 0 n) ρ0 h0 λi d ρ hd h=>by
  unfold dS at hd;rw[List.getElem?_map]at hd;obtain⟨k,hk,hd⟩:=oY hd;obtain⟨hlt,hk⟩:=List.getElem?_eq_some_iff.mp hk;rw[List.length_range]at hlt;rw[List.getElem_range]at hk;subst hk;rw[Int.zero_add]at hd;subst hd;exact step i ρ hlt h
 rw[hl]at h2;exact⟨ρ',h1,h2⟩
theorem ib {α:Type}{xs:List α}{j:Nat}(h:j<xs.length):atI xs (j:Int)=some xs[j]:=Bd (by simp[h])
theorem rh {α:Type}{xs:List α}{i:Int}(h0:0<=i)(h:i.toNat<xs.length):atI xs i=some xs[i.toNat]:=by
 have:=ib h;rwa [Int.toNat_of_nonneg h0]at this
@[simp] theorem CU (xs:List Int):b7 (xs.map D.int)=true:=by
 induction xs with
 |nil=>simp
 |cons x xs ih=>simp[ih]
@[simp] theorem AH (n:Nat)(xs:List Int):(xs.map D.int).all (am n)=true:=by
 induction xs with
 |nil=>simp
 |cons x xs ih=>simpa using ih
@[simp] theorem BP (xs:List Int):(xs.map D.int).all fD=true:=by
 induction xs with
 |nil=>simp
 |cons x xs ih=>simpa using ih
theorem pK (n:Nat):dS 0 n=((List.range n).map λ(k:Nat)=>(k:Int)).map D.int:=by
 unfold dS;rw[List.map_map];apply List.map_congr_left;intro k _;simp
mutual
noncomputable def kn:D->D->Bool
 |.non,.non=>true
 |.bl a,.bl b=>a == b
 |.int a,.int b=>decide (a=b)
 |.str a,.str b=>decide (a=b)
 |.ty a,.ty b=>decide (a=b)
 |.tup xs,.tup ys=>n6 xs ys
 |.lst xs,.lst ys=>n6 xs ys
 |_,_=>false
noncomputable def n6:List D->List D->Bool
 |[],[]=>true
 |x::xs,y::ys=>kn x y && n6 xs ys
 |_,_=>false
end
mutual
theorem wQ:∀ {x y:D},kn x y=true->x=y
 |.non,.non,_=>rfl
 |.bl a,.bl b,h=>by simp[kn]at h;rw[h]
 |.int a,.int b,h=>by simp[kn]at h;rw[h]
 |.str a,.str b,h=>by simp[kn]at h;rw[h]
 |.ty a,.ty b,h=>by simp[kn]at h;rw[h]
 |.tup xs,.tup ys,h=>by rw[kn]at h;rw[n8 h]
 |.lst xs,.lst ys,h=>by rw[kn]at h;rw[n8 h]
theorem n8:∀ {xs ys:List D},n6 xs ys=true->xs=ys
 |[],[],_=>rfl
 |x::xs,y::ys,h=>by
  rw[n6,Bool.and_eq_true]at h;rw[wQ h.1,n8 h.2]
end
noncomputable def isR (r:Option (D×Bool))(d:D)(b:Bool):Bool:=match r with
 |some (e,c)=>kn e d && c == b
 |none=>false
theorem bc {r:Option (D×Bool)}{d:D}{b:Bool}(h:isR r d b=true):r=some (d,b):=by
 unfold isR at h;split at h
 ·rw[Bool.and_eq_true]at h;rw[wQ h.1,eq_of_beq h.2]
 ·cases h
section
variable {f:FE}{c:FT}{g g' h:FS}{ρ ρ':Env}{i:Nat}{d:D}{b:Bool}{r:Option Res}{ds:List D}
theorem a8 {n k:Nat}(hl:ds.length=n)(e:g (ds.map (λd=>some (d,false))++List.replicate k none)=some (.rt d b)):aU g n k ds=some (d,b):=by
 unfold aU;rw[if_pos hl,e]
theorem pL (n:bo d=true):setE ρ i d b=ρ.set i (some (d,false)):=by unfold setE;rw[if_pos n]
theorem tF (n:b7 ds=true):setE ρ i (.lst ds) true=ρ.set i (some (.lst ds,true)):=by
 unfold setE;rw[if_neg (by simp),if_pos ⟨rfl,by simpa using n⟩]
theorem CV (e:f ρ=some (d,b))(k:h (setE ρ i d b)=r):aA (aS i f) h ρ=r:=by simp[e];exact k
theorem Eu (e:f ρ=some (d,b))(n:bo d=true)(k:h (ρ.set i (some (d,false)))=r):aA (aS i f) h ρ=r:=CV e (by rw[pL n];exact k)
theorem bP (e:f ρ=some (.lst ds,true))(n:b7 ds=true)(k:h (ρ.set i (some (.lst ds,true)))=r):aA (aS i f) h ρ=r:=CV e (by rw[tF n];exact k)
theorem bz (e:g ρ=some (.nx ρ'))(k:h ρ'=r):aA g h ρ=r:=by unfold aA;rw[e];exact k
theorem Ga (e:g ρ=some (.rt d b)):aA g h ρ=some (.rt d b):=by unfold aA;rw[e]
theorem GM (e:g ρ=some (.ct ρ')):aA g h ρ=some (.ct ρ'):=by unfold aA;rw[e]
theorem fz (e:c ρ=some true)(k:g ρ=r):gIf c g g' ρ=r:=by unfold gIf;rw[e];exact k
theorem ca (e:c ρ=some false)(k:g' ρ=r):gIf c g g' ρ=r:=by unfold gIf;rw[e];exact k
theorem dW (e:c ρ=some true)(k:g ρ=some (.rt d b)):aA (gIf c g g') h ρ=some (.rt d b):=Ga (fz e k)
theorem ce (e:c ρ=some false)(k:h ρ=r):aA (gIf c g bH) h ρ=r:=bz (ca e rfl) k
theorem aK (e:f ρ=some (d,b)):bC f ρ=some (.rt d b):=by simp[e]
theorem ko (e:ρ[i]? = some (some (d,b)))(hb:C1 d=false:=by rfl):jm i ρ=some (.rt d b):=by simp only[jm,e,hb];simp
theorem tG (e:f ρ=some (d,b))(n:bo d=true):aS i f ρ=some (.nx (ρ.set i (some (d,false)))):=by
 show(f ρ).map _=_;rw[e,Option.map_some,pL n]
theorem kq (e:f ρ=some (.lst ds,true))(n:b7 ds=true):aS i f ρ=some (.nx (ρ.set i (some (.lst ds,true)))):=by
 show(f ρ).map _=_;rw[e,Option.map_some,tF n]
theorem dX (e:ρ[i]? = some (some (.lst ds,true)))(ef:f ρ=some (d,b))(n:bo d=true)(l:ds.length<sizeLine):g7 i f ρ=some (.nx (ρ.set i (some (.lst (ds++[d]),true)))):=by
 simp[e,ef,n,l]
theorem nA {fi:FA}{tg:FG}{ds:List D}(e:fi ρ=some ds)(k:eZ tg g ds ρ=some (.nx ρ')):lD fi tg g ρ=some (.nx ρ'):=by unfold lD;rw[e];exact k
theorem d9 {fi:FA}{tg:FG}{ds:List D}(e:fi (mG ρ)=some ds)(k:eZ tg g ds ρ=some (.nx ρ')):gd fi tg g ρ=some (.nx ρ'):=by unfold gd;rw[e];exact k
theorem gG {f:FE}{j:Nat}(e:f ρ=some (.int j,b))(hj:j<=1000):f9 f ρ=some (dS 0 j):=by
 unfold f9;rw[e];simp only[];rw[if_pos (by omega)];simp
theorem Ev {x:Bool}(e:f ρ=some (.bl x,b)):tOf f ρ=some x:=by unfold tOf;rw[e]
theorem kx {F:List D->Option (D×Bool)}{fa:FA}{x:Option (D×Bool)}(e:fa ρ=some ds)(k:F ds=x):fA F fa ρ=x:=by unfold fA;rw[e,Option.bind_some];exact k
theorem Ab {f1 g1:D->D->Option (D×Bool)}{fa fb fc:FE}{x y z:D}{b1 b2 b3 b4 p q:Bool}(ea:fa ρ=some (x,b1))(eb:fb ρ=some (y,b2))(ec:fc ρ=some (z,b3))(e1:f1 x y=some (.bl p,b4))(e2:p=true->g1 y z=some (.bl q,false)):kW f1 g1 fa fb fc ρ=some (.bl (p && q),false):=by
 unfold kW;rw[ea,eb,ec];simp only[Option.bind_some,e1];cases p
 ·rfl
 ·exact e2 rfl
theorem j9 {f1 f2:FE}{p q b1:Bool}(e1:f1 ρ=some (.bl p,b1))(e2:p=true->f2 ρ=some (.bl q,false)):lY f1 f2 ρ=some (.bl (p && q),false):=by
 unfold lY;rw[e1];cases p
 ·rfl
 ·exact e2 rfl
theorem CW {f1 f2:FE}{p q b1:Bool}(e1:f1 ρ=some (.bl p,b1))(e2:p=false->f2 ρ=some (.bl q,false)):fOr f1 f2 ρ=some (.bl (p || q),false):=by
 unfold fOr;rw[e1];cases p
 ·exact e2 rfl
 ·rfl
theorem aw {fr:FA}{xs:List D}(e1:f ρ=some (d,b))(e2:fr ρ=some xs):ab f fr ρ=some (d::xs):=by
 unfold ab;rw[e1,Option.bind_some,e2,Option.bind_some]
theorem fZ {op:D->D->Option (D×Bool)}{fa fb:FE}{x y:D}{b1 b2:Bool}{z:Option (D×Bool)}(e1:fa ρ=some (x,b1))(e2:fb ρ=some (y,b2))(e3:op x y=z):f2 op fa fb ρ=z:=by
 unfold f2;rw[e1,Option.bind_some,e2,Option.bind_some];exact e3
theorem bj {c1 c2:FT}{p q:Bool}(e1:c1 ρ=some p)(e2:p=true->c2 ρ=some q):aY c1 c2 ρ=some (p && q):=by
 unfold aY;rw[e1];cases p
 ·rfl
 ·exact e2 rfl
theorem cB {c1 c2:FT}{p q:Bool}(e1:c1 ρ=some p)(e2:p=false->c2 ρ=some q):dj c1 c2 ρ=some (p || q):=by
 unfold dj;rw[e1];cases p
 ·exact e2 rfl
 ·rfl
theorem fG {c1:FT}{p:Bool}(e1:c1 ρ=some p):dO c1 ρ=some (!p):=by
 unfold dO;rw[e1];rfl
end
theorem lt1 (a c:Nat):decide ([a]<[c])=decide (a<c):=by
 congr 1;rw[List.cons_lt_cons_iff];simp
@[simp] theorem Gp (a c:Nat):dLe (.str ⟨#[a]⟩) (.str ⟨#[c]⟩)=some (.bl (decide (a<=c)),false):=by
 unfold dLe;show some (D.bl (!decide ([c]<[a])),false)=_;rw[lt1];congr 3;by_cases h:c<a
 ·rw[decide_eq_true h,decide_eq_false (by omega)];rfl
 ·rw[decide_eq_false h,decide_eq_true (by omega)];rfl
theorem bg {n:Nat}(h:n<=100000):n<sizeLine:=Nat.lt_of_le_of_lt h (by decide)
theorem bM {n:Nat}(h:n<=100000):n<=sizeLine:=Nat.le_of_lt (bg h)
theorem iC {α:Type}{fi:FA}{nT:Nat}{cap:List Nat}{tg:FG}{c:FT}{fe:FE}{ρ:DL.Env}(l:List α)(g:α->D)(p:α->Bool)(h:α->D)(e:fi ρ=some (l.map g))(hl:l.length<=100000)
  (k:∀x∈l,∃ρ1,tg (g x) (bW nT cap ρ)=some ρ1/\c ρ1=some (p x)/\(p x=true->∃b,fe ρ1=some (h x,b))):bS fi nT cap tg c fe ρ=some (.lst ((l.filter p).map h),true):=by
 have key:∀l':List α,(∀x∈l',x∈l)->fR tg c fe (bW nT cap ρ) (l'.map g)=some ((l'.filter p).map h):=by
  intro l';induction l' with
  |nil=>intro _;simp
  |cons x l' ih=>
   intro hm;obtain⟨ρ1,h1,h2,h3⟩:=k x (hm x mX);have ih:=ih λy hy=>hm y (mZ _ hy);rw[List.map_cons,uL,h1,Option.bind_some,h2,Option.bind_some];cases hp:p x with
   |false=>simp[hp,ih]
   |true=>
    obtain⟨b,h4⟩:=h3 hp;simp[hp,ih,h4]
 unfold bS;rw[e,Option.bind_some,if_pos (bM (by simpa using hl)),key l λ_ h=>h,Option.map_some]
theorem ky {α:Type}{fi:FA}{nT:Nat}{cap:List Nat}{tg:FG}{fe:FE}{ρ:DL.Env}(l:List α)(g:α->D)(h:α->D)(e:fi ρ=some (l.map g))(hl:l.length<=100000)
  (k:∀x∈l,∃ρ1,tg (g x) (bW nT cap ρ)=some ρ1/\∃b,fe ρ1=some (h x,b)):bS fi nT cap tg g8 fe ρ=some (.lst (l.map h),true):=by
 have:=iC (c:=g8) (fe:=fe) l g (λ_=>true) h e hl λx hx=>by
  obtain⟨ρ1,h1,h2⟩:=k x hx;exact⟨ρ1,h1,rfl,λ_=>h2⟩
 rw[List.filter_eq_self.mpr λ_ _=>rfl]at this;exact this
@[simp] theorem Ac {α:Type}(f:α->Bool)(l:List α):qN (l.map λx=>.bl (f x))=some (l.map f):=by
 induction l with
 |nil=>rfl
 |cons x l ih=>simp[ih]
theorem uH {z:Str}{i:Int}(h0:0<=i)(h:i.toNat<z.cps.size)(hz:z.length<=100000):ixD (.str z) (.int i)=some (.str ⟨#[z.cps.toList.getD i.toNat 0]⟩,false):=by
 have hh:i.toNat<z.cps.toList.length:=by simpa using h
 simp only[ixD];rw[if_pos (bM hz),rh h0 hh];simp[List.getD,h]
theorem Ad {ds:List D}{i:Int}(h0:0<=i)(h:i.toNat<ds.length):ixD (.lst ds) (.int i)=some (ds.getD i.toNat .non,false):=by
 simp only[ixD];rw[rh h0 h];simp[List.getD,h]
theorem yV {ds:List D}{i:Int}(h0:0<=i)(h:i.toNat<ds.length):ixD (.tup ds) (.int i)=some (ds.getD i.toNat .non,false):=by
 simp only[ixD];rw[rh h0 h];simp[List.getD,h]
theorem wR {xs:List Int}{i:Int}(h0:0<=i)(h:i.toNat<xs.length):ixD (.lst (xs.map .int)) (.int i)=some (.int (xs.getD i.toNat 0),false):=by
 rw[Ad h0 (by simpa using h)];simp[List.getD,h]
theorem mod_lt {x m:Int}(hm:0<m):0<=x % m/\x % m<m:=⟨Int.emod_nonneg _ (by omega),Int.emod_lt_of_pos _ hm⟩
theorem BQ {ds:List D}:dN [.lst ds]=some (.int ds.length,false):=rfl
theorem wS {i j:Int}:dEq (.int i) (.int j)=some (.bl (decide (i=j)),false):=by simp
theorem tH {n d:Nat}{v:Int}(h:0<=v):HT.sIx n d (some v)=min v.toNat n:=by
 show(if v<0 then (v+(n:Int)).toNat else min v.toNat n)=_;rw[if_neg (by omega)]
noncomputable def Ae {α:Type}(xs:List α)(lo hi:Option Int):List α:=(xs.drop (HT.sIx xs.length 0 lo)).take (HT.sIx xs.length xs.length hi - HT.sIx xs.length 0 lo)
theorem Af {α:Type}(f:α->D)(xs:List α)(lo hi:Option Int):kX (xs.map f) lo hi=(Ae xs lo hi).map f:=by
 unfold kX Ae;rw[List.length_map,List.map_take,List.map_drop]
theorem eoF {ρ:Env}{op:D->D->Option (D×Bool)}{fa fb:FE}(x y:D){z:Option (D×Bool)}(e1:fa ρ=some (x,false))(e2:fb ρ=some (y,false))(e3:op x y=z):f2 op fa fb ρ=z:=fZ e1 e2 e3
theorem tkF {ρ:Env}{f:FE}{x:Bool}(e:f ρ=some (.bl x,false)):tOf f ρ=some x:=Ev e
theorem acF {ρ:Env}{f:FE}{d:D}{fr:FA}{xs:List D}(e1:f ρ=some (d,false))(e2:fr ρ=some xs):ab f fr ρ=some (d::xs):=aw e1 e2
theorem cdD {ρ:Env}{F:List D->Option (D×Bool)}{fa:FA}{x:Option (D×Bool)}(ds:List D)(e:fa ρ=some ds)(k:F ds=x):fA F fa ρ=x:=kx e k
theorem rfF {ρ:Env}{f:FE}{h:FS}{i:Nat}{r:Option Res}(d:D)(e:f ρ=some (d,false))(n:bo d=true)(k:h (ρ.set i (some (d,false)))=r):aA (aS i f) h ρ=r:=Eu e n k
@[simp] noncomputable abbrev rkE (rows:List D)(known:Int)(t:Env):Env:=some (.tup rows,false)::some (.int known,false)::t
@[simp] noncomputable abbrev eR (ns:List Int)(zs:List Str)(ms:Int)(offs:List Str)(R:List D)(a b:Option (D×Bool))(t:Env):Env:=some (.lst (ns.map .int),false)::some (.lst (zs.map .str),false)::some (.int ms,false)::a::some (.lst (offs.map .str),true)::some (.lst R,true)::b::t
end DL
namespace Lw
open PySem DL
noncomputable def gk:List (PySem.Str×D):=[(("root" : Str),(.tup [(.str "office"),(.str "matters"),(.str "further"),(.str "rule")])),(("named" : Str),(.tup [(.str "day"),(.str "office"),(.str "person")])),(("chosen" : Str),(.tup [(.str "day"),(.str "by"),(.str "office"),(.str "person"),(.str "since")])),(("heir" : Str),(.tup [(.str "day"),(.str "by"),(.str "office"),(.str "person")])),(("death" : Str),(.tup [(.str "day"),(.str "person")])),(("lost" : Str),(.tup [(.str "day"),(.str "person")])),(("found" : Str),(.tup [(.str "day"),(.str "person")])),(("leave" : Str),(.tup [(.str "day"),(.str "by"),(.str "person"),(.str "matters"),(.str "stretch"),(.str "further")])),(("paper" : Str),(.tup [(.str "day"),(.str "by"),(.str "matters"),(.str "stretch"),(.str "whom"),(.str "pieces")])),(("like" : Str),(.tup [(.str "day"),(.str "by"),(.str "matters"),(.str "stretch"),(.str "whom"),(.str "of"),(.str "changes")])),(("copy" : Str),(.tup [(.str "day"),(.str "by"),(.str "of")])),(("call" : Str),(.tup [(.str "day"),(.str "by"),(.str "of")]))]
noncomputable def eK:D:=(.tup [(.str "chosen"),(.str "heir"),(.str "leave"),(.str "paper"),(.str "like"),(.str "copy"),(.str "call")])
noncomputable def pM:FS :=
  (bC (f2 ixD (ixV 0 1) (fC (.int 0))))
noncomputable def aG:=aU pM 1 0
noncomputable def pN:FS :=
  (bC (f2 ixD (ixV 0 1) (f2 cG (fC (.int 1)) (f2 (oK gk) (fA aG (ab (af 0) ak)) (af 1)))))
noncomputable def ar:=aU pN 2 0
noncomputable def tI:FS :=
  (aA (gIf (tOf (f2 dEq (fA aG (ab (af 0) ak)) (fC (.str "root")))) (bC (fC .non)) bH)
  (bC (fA ar (ab (af 0) (ab (fC (.str "day")) ak)))))
noncomputable def aP:=aU tI 1 0
noncomputable def wT:FS :=
  (bC (bS (wy (af 0)) 2 [1] (tgT [0,1]) (tOf (f2 dLe (ixV 1 0) (af 2))) (af 0)))
noncomputable def cK:=aU wT 2 0
noncomputable def Ag:FS :=
  (bC (fA aI (ab (fA aP (ab (f2 ixD (af 0) (af 1)) ak)) (ab (af 1) ak))))
noncomputable def dB:=aU Ag 2 0
noncomputable def nB:FS :=
  (aA (aS 2 (bS (bV (fA cK (ab (af 0) (ab (af 1) ak)))) 1 [0] (tgN 0) (tOf (f2 gY (fA aP (ab (f2 ixD (af 1) (af 0)) ak)) (fC .non))) (af 0)))
  (bC (lh (af 2) (t4 [0] (fA dB (ab (af 1) (ab (af 0) ak)))))))
noncomputable def eM:=aU nB 2 1
noncomputable def lJ:FS :=
  (bC (fA aI (ab (ixV 0 0) (ab (ixV 0 2) (ab (ixV 0 4) ak)))))
noncomputable def dH:=aU lJ 1 0
noncomputable def wU:FS :=
  (aA (aS 2 (bS (bV (fA cK (ab (af 0) (ab (af 1) ak)))) 1 [0] (tgN 0) g8 (f2 ixD (af 1) (af 0))))
  (bC (fA ia (ab (bS (bV (af 2)) 1 [] (tgN 0) (tOf (f2 dEq (fA aG (ab (af 0) ak)) (fC (.str "root")))) (fA aI (ab (fA ar (ab (af 0) (ab (fC (.str "office")) ak))) (ab (af 0) ak)))) ak))))
noncomputable def k6:=aU wU 2 1
noncomputable def nD:FS :=
  (bC (lY (kW dLe dLt (fC (.int 0)) (af 2) (fA dN (ab (af 0) ak))) (f2 dLe (f2 ixD (f2 ixD (af 0) (af 2)) (fC (.int 0))) (af 1))))
noncomputable def ga:=aU nD 3 0
noncomputable def wV:FS :=
  (bC (lY (f2 dIn (fA aG (ab (af 0) ak)) (af 1)) (lY (f2 dEq (fA ar (ab (af 0) (ab (fC (.str "person")) ak))) (af 2)) (f2 dLe (fA aP (ab (af 0) ak)) (af 3)))))
noncomputable def k7:=aU wV 4 0
noncomputable def pO:FS :=
  (bC (bS (bV (fA cK (ab (af 0) (ab (af 1) ak)))) 1 [2,3,4,0] (tgN 0) (tOf (fA k7 (ab (f2 ixD (af 4) (af 0)) (ab (af 1) (ab (af 2) (ab (af 3) ak)))))) (af 0)))
noncomputable def d4:=aU pO 5 0
noncomputable def wW:FS :=
  (bC (f2 dEq (fA dN (ab (fA d4 (ab (af 0) (ab (af 1) (ab (fA aI (ab (fC (.str "death")) ak)) (ab (af 2) (ab (af 3) ak)))))) ak)) (fC (.int 0))))
noncomputable def ie:=aU wW 4 0
noncomputable def nE:FS :=
  (aA (aS 4 (fA d4 (ab (af 0) (ab (af 1) (ab (fA aI (ab (fC (.str "lost")) (ab (fC (.str "found")) ak))) (ab (af 2) (ab (af 3) ak)))))))
  (aA (gIf (tOf (f2 dEq (fA dN (ab (af 4) ak)) (fC (.int 0)))) (bC (fC (.bl true))) bH)
  (bC (f2 dEq (fA aG (ab (f2 ixD (af 0) (pE (af 4) (t4 [0] (fA dB (ab (af 1) (ab (af 0) ak)))))) ak)) (fC (.str "found"))))))
noncomputable def ig:=aU nE 4 1
noncomputable def nF:FS :=
  (aA (gIf (dj (dO (tOf (fA ga (ab (af 0) (ab (af 1) (ab (af 2) ak)))))) (tOf (f2 eI (fA aG (ab (f2 ixD (af 0) (af 2)) ak)) (fC eK)))) (bC (fC (.bl false))) bH)
  (aA (aS 3 (fA ar (ab (f2 ixD (af 0) (af 2)) (ab (fC (.str "by")) ak))))
  (aA (aS 4 (fA aP (ab (f2 ixD (af 0) (af 2)) ak)))
  (bC (lY (fA ie (ab (af 0) (ab (af 1) (ab (af 3) (ab (af 4) ak))))) (fA ig (ab (af 0) (ab (af 1) (ab (af 3) (ab (af 4) ak))))))))))
noncomputable def ij:=aU nF 3 2
noncomputable def pP:FS :=
  (bC (lY (f2 dLe (ixV 1 0) (af 0)) (fOr (f2 dIs (ixV 1 1) (fC .non)) (f2 dLt (af 0) (ixV 1 1)))))
noncomputable def je:=aU pP 2 0
noncomputable def nG:FS :=
  (bC (fA je (ab (af 1) (ab (fA aI (ab (ixV 0 2) (ab (ixV 0 3) ak))) ak))))
noncomputable def bG:=aU nG 2 0
noncomputable def nH:FS :=
  (bC (fA aI (ab (ixV 0 2) (ab (ixV 0 4) ak))))
noncomputable def bY:=aU nH 1 0
noncomputable def nI:FS :=
  (aA (gIf (tOf (f2 dEq (af 1) (fC (.str "last")))) (bC (f2 ixD (pE (af 0) (oM bY)) (fC (.int 1)))) bH)
  (bC (f2 ixD (pF (af 0) (oM bY)) (fC (.int 1)))))
noncomputable def im:=aU nI 2 0
noncomputable def lK:FS :=
  (aA (aS 3 (bS (bV (af 0)) 1 [2,1] (tgN 0) (aY (tOf (f2 dEq (ixV 0 0) (fA ar (ab (af 2) (ab (fC (.str "office")) ak))))) (tOf (fA bG (ab (af 0) (ab (af 1) ak))))) (af 0)))
  (aA (aS 4 (f1 ft (bS (bV (af 3)) 1 [] (tgN 0) g8 (ixV 0 1))))
  (aA (gIf (tOf (f2 dEq (fA dN (ab (af 4) ak)) (fC (.int 0)))) (bC (fA aI (ab (fC (.str "none")) ak))) bH)
  (aA (gIf (aY (tOf (f2 iGt (fA dN (ab (af 4) ak)) (fC (.int 1)))) (tOf (f2 dEq (fA ar (ab (af 1) (ab (fC (.str "rule")) ak))) (fC (.str "open"))))) (bC (fA aI (ab (fC (.str "parted")) (ab (af 4) ak)))) bH)
  (aA (aS 5 (fA im (ab (af 3) (ab (fA ar (ab (af 1) (ab (fC (.str "rule")) ak))) ak))))
  (aA (aS 6 (pF (bS (bV (af 3)) 1 [5] (tgN 0) (tOf (f2 dEq (ixV 0 1) (af 1))) (af 0)) (oM bY)))
  (bC (fA aI (ab (fC (.str "one")) (ab (af 5) (ab (ixV 6 4) ak)))))))))))
noncomputable def dI:=aU lK 3 4
noncomputable def k8:FS :=
  (bC (f2 dEq (fSl (fA dI (ab (af 0) (ab (af 1) (ab (af 3) ak)))) jn (fU (fC (.int 2)))) (fA aI (ab (fC (.str "one")) (ab (af 2) ak)))))
noncomputable def dY:=aU k8 4 0
noncomputable def gH:FS :=
  (aA (aS 3 (f2 ixD (af 0) (af 2)))
  (aA (aS 4 (fA d4 (ab (af 0) (ab (af 1) (ab (fA aI (ab (fC (.str "death")) ak)) (ab (fA ar (ab (af 3) (ab (fC (.str "person")) ak))) (ab (fA aP (ab (af 3) ak)) ak)))))))
  (bC (f2 dEq (pF (af 4) (t4 [0] (fA dB (ab (af 1) (ab (af 0) ak))))) (af 2)))))
noncomputable def d5:=aU gH 3 2
noncomputable def tJ:FS :=
  (aA (aS 4 (f2 ixD (af 0) (af 3)))
  (aA (gIf (tOf (f2 dEq (fA aG (ab (af 4) ak)) (fC (.str "death")))) (bC (fA d5 (ab (af 0) (ab (af 1) (ab (af 3) ak))))) bH)
  (aA (gIf (tOf (f2 eI (fA aG (ab (af 4) ak)) (fA aI (ab (fC (.str "named")) (ab (fC (.str "chosen")) (ab (fC (.str "heir")) ak)))))) (bC (fC (.bl false))) bH)
  (aA (aS 5 (f2 zS (fA k6 (ab (af 0) (ab (af 1) ak))) (fA ar (ab (af 4) (ab (fC (.str "office")) ak)))))
  (aA (gIf (tOf (f2 dIs (af 5) (fC .non))) (bC (fC (.bl false))) bH)
  (aA (gIf (tOf (f2 dEq (fA aG (ab (af 4) ak)) (fC (.str "named")))) (bC (fC (.bl true))) bH)
  (bC (lY (fA ij (ab (af 0) (ab (af 1) (ab (af 3) ak)))) (fA dY (ab (af 2) (ab (af 5) (ab (fA ar (ab (af 4) (ab (fC (.str "by")) ak))) (ab (fA aP (ab (af 4) ak)) ak)))))))))))))
noncomputable def iP:=aU tJ 4 2
noncomputable def lL:FS :=
  (bC (fA aI (ab (fA ar (ab (af 0) (ab (fC (.str "office")) ak))) (ab (fA ar (ab (af 0) (ab (fC (.str "person")) ak))) (ab (af 1) (ab (fC .non) (ab (af 2) ak)))))))
noncomputable def de:=aU lL 3 0
noncomputable def nJ:FS :=
  (gIf (dj (tOf (f2 eI (ixV 5 0) (af 1))) (dj (tOf (f2 dNe (ixV 5 1) (af 2))) (dO (dj (tOf (fA bG (ab (af 5) (ab (af 3) ak)))) (tOf (f2 iGt (ixV 5 2) (af 3))))))) (g7 4 (af 5)) (gIf (tOf (f2 dLt (ixV 5 2) (af 3))) (g7 4 (fA aI (ab (ixV 5 0) (ab (af 2) (ab (ixV 5 2) (ab (af 3) (ab (ixV 5 4) ak))))))) bH))
noncomputable def wZ:FS :=
  (aA (aS 4 (fA bq ak))
  (aA (gd (bV (af 0)) (tgN 5) nJ)
  (jm 4)))
noncomputable def jf:=aU wZ 4 2
noncomputable def iQ:FS :=
  (aA (aS 3 (fA ar (ab (af 1) (ab (fC (.str "since")) ak))))
  (aA (aS 4 (fA jf (ab (af 0) (ab (fA bq (ab (fA ar (ab (af 1) (ab (fC (.str "office")) ak))) ak)) (ab (fA ar (ab (af 1) (ab (fC (.str "by")) ak))) (ab (af 3) ak))))))
  (bC (f2 cG (af 4) (fA bq (ab (fA de (ab (af 1) (ab (af 3) (ab (af 2) ak)))) ak))))))
noncomputable def dZ:=aU iQ 3 2
noncomputable def fH:FS :=
  (aA (aS 9 (wO (af 3) (ab (af 8) (ab (af 5) ak))))
  (gIf (aY (tOf (f2 gY (af 9) (fC .non))) (tOf (fA ie (ab (af 0) (ab (af 1) (ab (af 9) (ab (af 6) ak))))))) (g7 7 (fA aI (ab (af 8) (ab (af 9) (ab (af 6) (ab (fC .non) (ab (af 4) ak))))))) bH))
noncomputable def lM:FS :=
  (aA (aS 5 (fA ar (ab (f2 ixD (af 0) (af 4)) (ab (fC (.str "person")) ak))))
  (aA (aS 6 (fA aP (ab (f2 ixD (af 0) (af 4)) ak)))
  (aA (aS 7 (fA bq ak))
  (aA (gUn [5,6] (gd (bV (f1 ft (bS (bV (af 2)) 1 [5,6] (tgN 0) (aY (tOf (f2 dEq (ixV 0 1) (af 1))) (tOf (fA bG (ab (af 0) (ab (af 2) ak))))) (ixV 0 0)))) (tgN 8) fH))
  (jm 7)))))
noncomputable def gl:=aU lM 5 5
noncomputable def jr:FS :=
  (aA (aS 5 (bS (bV (af 2)) 1 [] (tgN 0) g8 (ixV 0 0)))
  (aA (aS 6 (fA jf (ab (af 2) (ab (af 5) (ab (fA ar (ab (f2 ixD (af 0) (af 4)) (ab (fC (.str "person")) ak))) (ab (fA aP (ab (f2 ixD (af 0) (af 4)) ak)) ak))))))
  (bC (f2 cG (af 6) (fA gl (ab (af 0) (ab (af 1) (ab (af 2) (ab (af 3) (ab (af 4) ak))))))))))
noncomputable def eY:=aU jr 5 2
noncomputable def jg:FS :=
  (aA (aS 5 (f2 ixD (af 0) (af 4)))
  (aA (gIf (dO (tOf (fA iP (ab (af 0) (ab (af 1) (ab (af 2) (ab (af 4) ak))))))) CQ bH)
  (gIf (tOf (f2 dEq (fA aG (ab (af 5) ak)) (fC (.str "named")))) (aS 2 (f2 cG (af 2) (fA bq (ab (fA de (ab (af 5) (ab (fA aP (ab (af 5) ak)) (ab (af 4) ak)))) ak)))) (gIf (tOf (f2 dEq (fA aG (ab (af 5) ak)) (fC (.str "chosen")))) (aS 2 (fA dZ (ab (af 2) (ab (af 5) (ab (af 4) ak))))) (gIf (tOf (f2 dEq (fA aG (ab (af 5) ak)) (fC (.str "heir")))) (ny 3 (ab (fA ar (ab (af 5) (ab (fC (.str "office")) ak))) (ab (fA ar (ab (af 5) (ab (fC (.str "by")) ak))) ak)) (fA ar (ab (af 5) (ab (fC (.str "person")) ak)))) (aS 2 (fA eY (ab (af 0) (ab (af 1) (ab (af 2) (ab (af 3) (ab (af 4) ak))))))))))))
noncomputable def tK:FS :=
  (aA (aS 2 (fA bq ak))
  (aA (wM 3)
  (aA (gd (bV (fA eM (ab (af 0) (ab (af 1) ak)))) (tgN 4) jg)
  (bC (lh (af 2) (oM dH))))))
noncomputable def nK:=aU tK 2 4
noncomputable def lN:FS :=
  (aA (gIf (tOf (f2 dLt (af 1) (fA dN (ab (af 0) ak)))) (bC (f2 ixD (af 0) (af 1))) bH)
  (bC (fC (.int 0))))
noncomputable def aX:=aU lN 2 0
noncomputable def nL:FS :=
  (aA (aS 7 (f2 ixD (fC (.str "bqcxdlenhusv")) (f2 dn (f2 cG (f2 fg (af 0) (fC (.int 64))) (f2 jy (fC (.int 5)) (af 6))) (fC (.int 12)))))
  (g7 5 (f2 cG (f2 cG (fSl (af 3) jn (fU (af 4))) (af 7)) (fSl (af 3) (fU (f2 cG (af 4) (fC (.int 1)))) jn))))
noncomputable def pQ:FS :=
  (aA (aS 2 (f2 cG (fC (.int 1)) (f2 dn (af 0) (fC (.int 8)))))
  (aA (aS 3 (fSl (fC (.str "gmtazkfw")) jn (fU (af 2))))
  (aA (aS 4 (f2 dn (f2 fg (af 0) (fC (.int 8))) (af 2)))
  (aA (aS 5 (fA bq ak))
  (aA (lD (f9 (af 1)) (tgN 6) nL)
  (jm 5))))))
noncomputable def lq:=aU pQ 2 6
noncomputable def nM:FS :=
  (aA (aS 4 (f2 dn (f2 cG (f2 cG (f2 jy (af 4) (fC (.int 48271))) (fA dN (ab (af 3) ak))) (fC (.int 1))) (fC (.int 2147483647))))
  (g7 3 (af 4)))
noncomputable def pR:FS :=
  (aA (aS 3 (fSl (af 0) (fU (af 1)) (fU (f2 cG (af 1) (af 2)))))
  (aA (aS 4 (f2 dn (fA aX (ab (af 0) (ab (fC (.int 1)) ak))) (fC (.int 2147483647))))
  (aA (gs (aY (tOf (f2 dEq (f2 dn (f2 fg (fA aX (ab (af 0) (ab (fC (.int 0)) ak))) (fC (.int 21))) (fC (.int 8))) (fC (.int 5)))) (tOf (f2 dLt (fA dN (ab (af 3) ak)) (af 2)))) nM 1000)
  (jm 3))))
noncomputable def gI:=aU pR 3 2
noncomputable def tM:FS :=
  (aA (aS 6 (fA bq (ab (fA aI (ab (fC (.str "chosen")) (ab (af 1) (ab (af 2) (ab (af 3) (ab (af 4) (ab (f2 cG (af 1) (f2 jy (f2 dn (f2 fg (af 0) (fC (.int 16))) (fC (.int 5))) (af 5))) ak))))))) (ab (fA aI (ab (fC (.str "heir")) (ab (af 1) (ab (af 2) (ab (af 3) (ab (af 4) ak)))))) ak))))
  (aA (aS 6 (f2 cG (af 6) (fA bq (ab (fA aI (ab (fC (.str "death")) (ab (af 1) (ab (af 2) ak)))) (ab (fA aI (ab (fC (.str "named")) (ab (af 1) (ab (af 3) (ab (af 4) ak))))) (ab (fA aI (ab (fC (.str "lost")) (ab (af 1) (ab (af 2) ak)))) (ab (fA aI (ab (fC (.str "found")) (ab (af 1) (ab (af 2) ak)))) ak)))))))
  (aA (aS 6 (f2 cG (af 6) (fA bq (ab (fA aI (ab (fC (.str "death")) (ab (af 1) (ab (af 4) ak)))) (ab (fA aI (ab (fC (.str "paper")) (ab (af 1) (ab (af 2) (ab (fC (.int 1)) (ab (fA aI (ab (af 1) (ab (fC .non) ak))) (ab (fC .non) (ab (fA aI (ab (af 4) ak)) ak)))))))) ak)))))
  (bC (f2 ixD (af 6) (f2 ixD (fA bq (ab (fC (.int 0)) (ab (fC (.int 0)) (ab (fC (.int 0)) (ab (fC (.int 0)) (ab (fC (.int 0)) (ab (fC (.int 1)) (ab (fC (.int 1)) (ab (fC (.int 1)) (ab (fC (.int 1)) (ab (fC (.int 2)) (ab (fC (.int 2)) (ab (fC (.int 3)) (ab (fC (.int 3)) (ab (fC (.int 4)) (ab (fC (.int 5)) (ab (f2 cG (fC (.int 6)) (f2 dn (f2 fg (af 0) (fC (.int 80))) (fC (.int 2)))) ak))))))))))))))))) (f2 dn (af 0) (fC (.int 16)))))))))
noncomputable def iR:=aU tM 6 1
noncomputable def lr:FS :=
  (aA (aS 7 (f2 ixD (fA bq (ab (fC (.str "open")) (ab (fC (.str "first")) (ab (fC (.str "last")) ak)))) (f2 dn (f2 fg (af 3) (f2 cG (fC (.int 2)) (af 6))) (fC (.int 3)))))
  (g7 5 (fA aI (ab (f2 jy (f2 jy (fA lZ (ab (f2 dEq (f2 dn (f2 fg (af 3) (fC (.int 8))) (fC (.int 8))) (fC (.int 1))) ak)) (fC (.int 5))) (af 2)) (ab (fA aI (ab (fC (.str "root")) (ab (f2 ixD (af 4) (af 6)) (ab (fC (.int 7)) (ab (fC (.int 1)) (ab (af 7) ak)))))) ak)))))
noncomputable def ls:FS :=
  (aA (aS 9 (f2 jy (f2 cG (f2 fg (af 6) (fC (.int 3))) (f2 dn (f2 fg (af 3) (fC (.int 400))) (fC (.int 3)))) (af 2)))
  (aA (aS 10 (f2 ixD (f2 cG (af 4) (fA bq (ab (fC (.str "mill")) ak))) (f2 fg (f2 dn (f2 fg (af 3) (fC (.int 1200))) (f2 cG (f2 jy (fC (.int 4)) (fA dN (ab (af 4) ak))) (fC (.int 1)))) (fC (.int 4)))))
  (aA (aS 11 (f2 ixD (af 8) (f2 F0 (f1 xU (fC (.int 1))) (f2 dn (f2 fg (af 3) (fC (.int 10000))) (fA DZ (ab (fC (.int 3)) (ab (fA dN (ab (af 8) ak)) ak)))))))
  (aA (aS 12 (f2 ixD (af 1) (f2 dn (f2 fg (af 3) (fC (.int 30000))) (fA dN (ab (af 1) ak)))))
  (aA (aS 13 (fA iR (ab (af 3) (ab (af 9) (ab (af 11) (ab (af 10) (ab (af 12) (ab (af 2) ak))))))))
  (aA (gIf (dj (tOf (f2 dEq (af 6) (fC (.int 0)))) (tOf (f2 dEq (f2 dn (f2 fg (af 3) (fC (.int 200000))) (fC (.int 9))) (fC (.int 1))))) (aS 13 (fA aI (ab (fC (.str "named")) (ab (af 9) (ab (af 10) (ab (af 12) ak)))))) bH)
  (aA (gIf (tOf (f2 dIn (ixV 13 0) (fA aI (ab (fC (.str "named")) (ab (fC (.str "chosen")) ak))))) (g7 8 (af 12)) bH)
  (g7 5 (fA aI (ab (f2 cG (af 9) (f2 jy (f2 ixD (fA bq (ab (fC (.int 0)) (ab (fC (.int 0)) (ab (fC (.int 0)) (ab (fC (.int 0)) (ab (fC (.int 1)) (ab (fC (.int 6)) ak))))))) (f2 dn (f2 fg (af 3) (fC (.int 7))) (fC (.int 6)))) (af 2))) (ab (af 13) ak)))))))))))
noncomputable def tN:FS :=
  (aA (aS 3 (fA aX (ab (af 0) (ab (fC (.int 1)) ak))))
  (aA (aS 4 (fSl (fA bq (ab (fC (.str "crown")) (ab (fC (.str "abbey")) (ab (fC (.str "guild")) ak)))) jn (fU (f2 cG (fC (.int 1)) (f2 dn (af 3) (fC (.int 3)))))))
  (aA (aS 5 (fA bq ak))
  (aA (lD (f9 (fA dN (ab (af 4) ak))) (tgN 6) lr)
  (aA (aS 8 (fA bq (ab (ixV 1 0) ak)))
  (aA (gd (wy (fA gI (ab (af 0) (ab (fC (.int 5)) (ab (fC (.int 30)) ak))))) (tgT [6,3]) ls)
  (bC (fA fm (ab (af 5) ak)))))))))
noncomputable def nN:=aU tN 3 11
noncomputable def pT:FS :=
  (aA (aS 2 (bS (f9 (fA dN (ab (af 0) ak))) 1 [1,0] (tgN 0) (aY (tOf (f2 dLe (f2 ixD (f2 ixD (af 2) (af 0)) (fC (.int 0))) (af 1))) (tOf (f2 dNe (f2 ixD (f2 ixD (f2 ixD (af 2) (af 0)) (fC (.int 1))) (fC (.int 0))) (fC (.str "root"))))) (af 0)))
  (bC (bS (bV (fA dw (ab (bS (bV (af 2)) 1 [0] (tgN 0) g8 (fA aI (ab (f2 ixD (f2 ixD (f2 ixD (af 1) (af 0)) (fC (.int 1))) (fC (.int 1))) (ab (af 0) ak)))) ak))) 2 [] (tgT [0,1]) g8 (af 1))))
noncomputable def dJ:=aU pT 2 1
noncomputable def nO:FS :=
  (gIf (aY (tOf (f2 dLe (af 4) (af 1))) (aY (tOf (f2 dEq (ixV 5 0) (fC (.str "death")))) (aY (tOf (f2 dEq (ixV 5 2) (af 2))) (tOf (f2 dLe (ixV 5 1) (af 3)))))) (bC (fC (.bl false))) bH)
noncomputable def pU:FS :=
  (aA (gd (bV (af 0)) (tgT [4,5]) nO)
  (bC (fC (.bl true))))
noncomputable def dL:=aU pU 4 2
noncomputable def nQ:FS :=
  (aA (aS 6 (f2 ixD (f2 ixD (af 0) (af 5)) (fC (.int 1))))
  (gIf (aY (tOf (f2 dIn (ixV 6 0) (fA aI (ab (fC (.str "lost")) (ab (fC (.str "found")) ak))))) (aY (tOf (f2 dEq (ixV 6 2) (ixV 3 2))) (tOf (f2 dLe (ixV 6 1) (ixV 3 1))))) (aS 4 (f2 dEq (ixV 6 0) (fC (.str "found")))) bH))
noncomputable def pV:FS :=
  (aA (aS 3 (f2 ixD (f2 ixD (af 0) (af 2)) (fC (.int 1))))
  (aA (aS 4 (fC (.bl true)))
  (aA (gd (bV (fA dJ (ab (af 0) (ab (af 1) ak)))) (tgN 5) nQ)
  (bC (lY (af 4) (fA dL (ab (af 0) (ab (af 1) (ab (ixV 3 2) (ab (ixV 3 1) ak))))))))))
noncomputable def gJ:=aU pV 3 4
noncomputable def pW:FS :=
  (aA (aS 5 (bS (bV (af 0)) 1 [2,4] (tgN 0) (aY (tOf (f2 dEq (ixV 0 0) (af 1))) (aY (tOf (f2 dLe (ixV 0 2) (af 2))) (dj (tOf (f2 dIs (ixV 0 3) (fC .non))) (tOf (f2 dLt (af 2) (ixV 0 3)))))) (af 0)))
  (aA (aS 5 (fA dw (ab (bS (bV (af 5)) 1 [] (tgN 0) g8 (fA aI (ab (ixV 0 2) (ab (ixV 0 4) (ab (ixV 0 1) ak))))) ak)))
  (aA (gIf (dj (tOf (f2 dEq (af 5) (fA bq ak))) (tOf (f2 lm (af 2) (af 1)))) (bC (fC (.bl false))) bH)
  (aA (gIf (tOf (f2 dEq (f2 ixK (af 1) (af 2)) (fC (.str "open")))) (bC (fA FJ (ab (bS (bV (af 5)) 1 [3] (tgN 0) g8 (f2 dEq (ixV 0 2) (af 1))) ak))) bH)
  (bC (f2 dEq (f2 ixD (f2 ixD (af 5) (f2 ixD (fA bq (ab (fC (.int 0)) (ab (f1 xU (fC (.int 1))) ak))) (fA lZ (ab (f2 dEq (f2 ixK (af 1) (af 2)) (fC (.str "last"))) ak)))) (fC (.int 2))) (af 3)))))))
noncomputable def gK:=aU pW 5 1
noncomputable def tO:FS :=
  (gIf (aY (dj (tOf (f2 dIs (af 1) (fC .non))) (tOf (f2 dEq (ixV 5 0) (af 1)))) (aY (tOf (f2 dEq (ixV 5 1) (af 2))) (dj (tOf (f2 dIs (ixV 5 3) (fC .non))) (tOf (f2 iGt (ixV 5 3) (af 3)))))) (gIf (tOf (f2 dLt (ixV 5 2) (af 3))) (g7 4 (fA aI (ab (ixV 5 0) (ab (ixV 5 1) (ab (ixV 5 2) (ab (af 3) (ab (ixV 5 4) ak))))))) bH) (g7 4 (af 5)))
noncomputable def xa:FS :=
  (aA (aS 4 (fA bq ak))
  (aA (gd (bV (af 0)) (tgN 5) tO)
  (jm 4)))
noncomputable def io:=aU xa 4 2
noncomputable def nR:FS :=
  (gIf (aY (tOf (f2 dLe (af 3) (af 1))) (tOf (f2 dEq (ixV 4 0) (fC (.str "root"))))) (pH 2 (ixV 4 1) (ixV 4 4)) bH)
noncomputable def gL:FS :=
  (aA (aS 11 (bS (bV (af 5)) 1 [10,4] (tgN 0) (aY (tOf (f2 dEq (fSl (af 0) jn (fU (fC (.int 2)))) (fA aI (ab (af 1) (ab (ixV 2 2) ak))))) (tOf (f2 dLe (ixV 0 2) (ixV 2 1)))) (af 0)))
  (aA (aS 11 (bS (bV (af 11)) 1 [4] (tgN 0) (dj (tOf (f2 dIs (ixV 0 3) (fC .non))) (tOf (f2 dLt (ixV 1 1) (ixV 0 3)))) (af 0)))
  (aA (aS 12 (wO (af 6) (ab (af 10) (ab (ixV 4 2) ak))))
  (gIf (aY (tOf (f2 dNe (af 11) (fA bq ak))) (aY (tOf (f2 gY (af 12) (fC .non))) (tOf (fA dL (ab (af 0) (ab (af 1) (ab (af 12) (ab (ixV 4 1) ak)))))))) (g7 9 (fA aI (ab (af 10) (ab (af 12) (ab (ixV 4 1) (ab (fC .non) (ab (af 8) ak))))))) bH))))
noncomputable def nS:FS :=
  (aA (aS 4 (f2 ixD (f2 ixD (af 0) (af 8)) (fC (.int 1))))
  (aA (gIf (aY (tOf (f2 dEq (ixV 4 0) (fC (.str "named")))) (tOf (f2 inK (ixV 4 2) (af 2)))) (g7 5 (fA aI (ab (ixV 4 2) (ab (ixV 4 3) (ab (ixV 4 1) (ab (fC .non) (ab (af 8) ak))))))) bH)
  (aA (gIf (aY (tOf (f2 dIn (ixV 4 0) (fA aI (ab (fC (.str "chosen")) (ab (fC (.str "heir")) ak))))) (tOf (fA gJ (ab (af 0) (ab (af 1) (ab (af 8) ak)))))) (gIf (tOf (fA gK (ab (af 5) (ab (af 2) (ab (ixV 4 3) (ab (ixV 4 2) (ab (ixV 4 1) ak))))))) (gIf (tOf (f2 dEq (ixV 4 0) (fC (.str "heir")))) (ny 6 (ab (ixV 4 3) (ab (ixV 4 2) ak)) (ixV 4 4)) (aS 5 (f2 cG (fA io (ab (af 5) (ab (ixV 4 3) (ab (ixV 4 2) (ab (ixV 4 5) ak))))) (fA bq (ab (fA aI (ab (ixV 4 3) (ab (ixV 4 4) (ab (ixV 4 5) (ab (fC .non) (ab (af 8) ak)))))) ak))))) bH) bH)
  (gIf (aY (tOf (f2 dEq (ixV 4 0) (fC (.str "death")))) (tOf (f2 eI (ixV 4 2) (af 7)))) (aA (g7 7 (ixV 4 2))
  (aA (aS 9 (fA bq ak))
  (aA (gUn [2] (gd (nz (af 2)) (tgN 10) gL))
  (aS 5 (f2 cG (fA io (ab (af 5) (ab (fC .non) (ab (ixV 4 2) (ab (ixV 4 1) ak))))) (af 9)))))) bH))))
noncomputable def xc:FS :=
  (aA (zV 2)
  (aA (gd (bV (af 0)) (tgT [3,4]) nR)
  (aA (aS 5 (fA bq ak))
  (aA (wM 6)
  (aA (aS 7 (fA bq ak))
  (aA (gd (bV (fA dJ (ab (af 0) (ab (af 1) ak)))) (tgN 8) nS)
  (aA (aS 13 (fA dw (ab (bS (f9 (fA dN (ab (af 5) ak))) 1 [5] (tgN 0) g8 (fA aI (ab (f2 ixD (f2 ixD (af 1) (af 0)) (fC (.int 0))) (ab (f2 ixD (f2 ixD (af 1) (af 0)) (fC (.int 2))) (ab (f2 ixD (f2 ixD (af 1) (af 0)) (fC (.int 4))) (ab (af 0) ak)))))) ak)))
  (bC (bS (bV (af 13)) 1 [5] (tgN 0) g8 (f2 ixD (af 1) (ixV 0 3)))))))))))
noncomputable def rj:=aU xc 2 12
noncomputable def lO:FS :=
  (gIf (dj (dO (tOf (fA bL (ab (af 2) (ab (fC (.ty "int")) ak))))) (tOf (fA bL (ab (af 2) (ab (fC (.ty "bool")) ak))))) (bC (fC (.bl false))) bH)
noncomputable def lP:FS :=
  (aA (gIf (dj (dO (tOf (fA bL (ab (af 1) (ab (fC (.ty "tuple")) ak))))) (dj (tOf (f2 dNe (fA dN (ab (af 1) ak)) (fC (.int 5)))) (dj (dO (tOf (fA bL (ab (ixV 1 0) (ab (fC (.ty "str")) ak))))) (dO (tOf (fA bL (ab (ixV 1 1) (ab (fC (.ty "str")) ak)))))))) (bC (fC (.bl false))) bH)
  (gUn [1] (gd (bV (fA bq (ab (ixV 1 2) (ab (ixV 1 4) (ab (f2 ixD (fA bq (ab (ixV 1 3) (ab (fC (.int 0)) ak))) (fA lZ (ab (f2 dIs (ixV 1 3) (fC .non)) ak))) ak))))) (tgN 2) lO)))
noncomputable def nU:FS :=
  (aA (gIf (dO (tOf (fA bL (ab (af 0) (ab (fC (.ty "list")) ak))))) (bC (fC (.bl false))) bH)
  (aA (gd (bV (af 0)) (tgN 1) lP)
  (bC (fC (.bl true)))))
noncomputable def jA:=aU nU 1 2
noncomputable def Ah:FS :=
  (aA (aS 8 (fA nK (ab (af 5) (ab (af 4) ak))))
  (aA (gIf (dj (dO (tOf (fA jA (ab (af 8) ak)))) (dj (tOf (f2 dNe (af 8) (af 6))) (tOf (f2 dNe (af 5) (af 3))))) (bC (fC (.bl false))) bH)
  (g7 8 (fA aI (ab (fC (.str "zz")) (ab (fC (.str "zz")) (ab (fC (.int 0)) (ab (fC .non) (ab (fC (.int 0)) ak)))))))))
noncomputable def CY:FS :=
  (aA (aS 1 (fA lq (ab (fA aX (ab (af 0) (ab (fC (.int 2)) ak))) (ab (f2 cG (fC (.int 2)) (f2 dn (fA aX (ab (af 0) (ab (fC (.int 0)) ak))) (fC (.int 5)))) ak))))
  (aA (aS 2 (f2 ixD (fA bq (ab (fC (.int 1)) (ab (fC (.int 1)) (ab (fC (.int 500)) ak)))) (f2 dn (f2 fg (fA aX (ab (af 0) (ab (fC (.int 0)) ak))) (fC (.int 5))) (fC (.int 3)))))
  (aA (gIf (tOf (f2 dEq (f2 dn (f2 fg (fA aX (ab (af 0) (ab (fC (.int 2)) ak))) (fC (.int 768))) (fC (.int 8))) (fC (.int 3)))) (B7 1 (fC (.int 0)) (fC (.str "crown"))) bH)
  (aA (aS 3 (fA nN (ab (af 0) (ab (af 1) (ab (af 2) ak)))))
  (aA (aS 4 (f2 ixD (fA bq (ab (fC (.int 9999)) (ab (f2 jy (f2 dn (fA aX (ab (af 0) (ab (fC (.int 3)) ak))) (fC (.int 15))) (af 2)) ak))) (f2 dn (fA aX (ab (af 0) (ab (fC (.int 4)) ak))) (fC (.int 2)))))
  (aA (aS 5 (fA fm (ab (fA hV (ab (af 3) ak)) ak)))
  (aA (aS 6 (fA rj (ab (af 3) (ab (af 4) ak))))
  (aA (lD (f9 (fC (.int 2))) (tgN 7) Ah)
  (bC (fC (.bl true)))))))))))
noncomputable def F_law:=aU CY 1 8
end Lw
namespace DL
open PySem L2
theorem iq:∀(n m:Nat)(d:D),n<=m->am n d=true->am m d=true
 |n,m,.non,_,_=>by simp
 |n,m,.bl _,_,_=>by simp
 |n,m,.int _,_,_=>by simp
 |n,m,.str _,_,_=>by simp
 |n,m,.ty _,_,h=>by cases n<;>simp[am]at h
 |n,m,.dk _ _,_,h=>by simp at h
 |n,m,.dt _ _,_,h=>by simp at h
 |0,m,.tup _,_,h=>by simp[am]at h
 |0,m,.lst _,_,h=>by simp[am]at h
 |n+1,0,_,h,_=>by omega
 |n+1,m+1,.tup ds,hl,h=>by
  simp only[am,List.all_eq_true]at h ⊢;exact λd hd=>iq n m d (by omega) (h d hd)
 |n+1,m+1,.lst ds,hl,h=>by
  simp only[am,List.all_eq_true]at h ⊢;exact λd hd=>iq n m d (by omega) (h d hd)
theorem lu:∀(ds:List D),(∀d∈ds,eqD d d=true)->dq ds ds=true
 |[],_=>by simp only[dq]
 |d::ds,h=>by
  simp only[dq,h d mX,Bool.true_and];exact lu ds λe he=>h e (mZ _ he)
theorem k9:∀(n:Nat)(d:D),am n d=true->eqD d d=true
 |n,.non,_=>by simp
 |n,.bl _,_=>by simp
 |n,.int _,_=>by simp
 |n,.str _,_=>by simp
 |n,.ty _,h=>by cases n<;>simp[am]at h
 |n,.dk _ _,h=>by simp at h
 |n,.dt _ _,h=>by simp at h
 |0,.tup _,h=>by simp[am]at h
 |0,.lst _,h=>by simp[am]at h
 |n+1,.tup ds,h=>by
  simp only[am,List.all_eq_true]at h;simp only[eqD];exact lu ds λd hd=>k9 n d (h d hd)
 |n+1,.lst ds,h=>by
  simp only[am,List.all_eq_true]at h;simp only[eqD];exact lu ds λd hd=>k9 n d (h d hd)
theorem Ai {d:D}(h:am 40 d=true):dEq d d=some (.bl true,false):=by unfold dEq;rw[if_pos ⟨h,h⟩,k9 40 d h]
theorem Aj {tg:FG}{g:FS}{d:D}{b:Bool}(I:Nat->Env->Prop)(ok:Nat->Bool)(ds:List D)(ρ0:Env)(h0:I 0 ρ0)
  (step:∀i x ρ,ds[i]? = some x->I i ρ->∃ρ1,tg x ρ=some ρ1/\((ok i=true/\∃ρ',g ρ1=some (.nx ρ')/\I (i+1) ρ')∨(ok i=false/\g ρ1=some (.rt d b)))):
  ((∀i,i<ds.length->ok i=true)/\∃ρ',eZ tg g ds ρ0=some (.nx ρ')/\I ds.length ρ')∨((∃i,i<ds.length/\ok i=false)/\eZ tg g ds ρ0=some (.rt d b)):=by
 have key:∀(es:List D)(i:Nat)(ρ:Env),ds.drop i=es->i+es.length=ds.length->I i ρ ->
   ((∀j,i<=j->j<ds.length->ok j=true)/\∃ρ',eZ tg g es ρ=some (.nx ρ')/\I ds.length ρ')∨((∃j,j<ds.length/\ok j=false)/\eZ tg g es ρ=some (.rt d b)):=by
  intro es;induction es with
  |nil=>
   intro i ρ e hl h;refine .inl ⟨λj h1 h2=>?_,ρ,by rw[sd],by rw[←hl];exact h⟩;simp at hl;omega
  |cons x es ih=>
   intro i ρ e hl h;have hd:ds[i]? = some x:=by
    have:(ds.drop i)[0]? = some x:=by rw[e];rfl
    rwa [List.getElem?_drop,Nat.add_zero]at this
   have he:ds.drop (i+1)=es:=by rw[←List.drop_drop,e];rfl
   have hi:i<ds.length:=(List.getElem?_eq_some_iff.mp hd).1;obtain⟨ρ1,h1,⟨h2,ρ',h3,h4⟩|⟨h2,h3⟩⟩:=step i x ρ hd h
   ·rcases ih (i+1) ρ' he (by simp at hl;omega) h4 with⟨a1,ρ2,a2,a3⟩|⟨a1,a2⟩
    ·refine .inl ⟨λj k1 k2=>?_,ρ2,?_,a3⟩
     ·by_cases q:j=i
      ·rw[q];exact h2
      ·exact a1 j (by omega) k2
     ·rw[iY,h1];simp only[Option.bind_some,h3];exact a2
    ·exact .inr ⟨a1,by rw[iY,h1];simp only[Option.bind_some,h3];exact a2⟩
   ·exact .inr ⟨⟨i,hi,h2⟩,by rw[iY,h1];simp only[Option.bind_some,h3]⟩
 rcases key ds 0 ρ0 (by simp) (by simp) h0 with⟨a1,a2⟩|a
 ·exact .inl ⟨λi hi=>a1 i (Nat.zero_le _) hi,a2⟩
 ·exact .inr a
end DL
namespace Lw
open PySem DL L2
theorem mt (ns:List Int)(k:Nat):aX [.lst (ns.map .int),.int k]=some (.int (ns.getD k 0),false):=by
 by_cases h:k<ns.length
 ·refine a8 rfl (dW (tkF (by simp;omega)) (aK ?_));exact eoF (.lst (ns.map .int)) (.int k) rfl rfl (by have:=wR (xs:=ns) (i:=k) (by omega) (by simpa using h);simpa using this)
 ·have z:ns.getD k 0=0:=by simp[List.getD_eq_getElem?_getD,List.getElem?_eq_none (Nat.not_lt.mp h)]
  rw[z];exact a8 rfl (ce (tkF (by simp;omega)) (aK rfl))
theorem pX {c:FT}{g:FS}(I:Nat->DL.Env->Prop)(step:∀m ρ,I m ρ->c ρ=some false∨(c ρ=some true/\∃m' ρ',m=m'+1/\g ρ=some (.nx ρ')/\I m' ρ')):∀(n m:Nat)(ρ:DL.Env),m<n->I m ρ->∃m' ρ',gs c g n ρ=some (.nx ρ')/\I m' ρ'
 |0,m,ρ,h,_=>by omega
 |n+1,m,ρ,h,i=>by
  rw[gs];rcases step m ρ i with e|⟨e,m',ρ',rfl,e2,i'⟩
  ·exact⟨m,ρ,by rw[e],i⟩
  ·obtain⟨m2,ρ2,h1,h2⟩:=pX I step n m' ρ' (by omega) i';exact⟨m2,ρ2,by rw[e];dsimp only;rw[e2];exact h1,h2⟩
theorem yt (ns:List Int)(most:Nat)(hm:most<=900):∃cs:List Int,gI [.lst (ns.map .int),.int 5,.int most]=some (.lst (cs.map .int),true)/\cs.length<=most:=by
 have c1:=mt ns 1;have c0:=mt ns 0;let cs0:List Int:=Ae ns (some 5) (some (5+most));have hl0:cs0.length<=most:=by
  show(Ae ns (some 5) (some (5+most))).length<=most;unfold Ae;rw[List.length_take,tH (by omega),tH (by omega)];omega
 have e0:fSl (af 0) (fU (af 1)) (fU (f2 cG (af 1) (af 2))) [some (.lst (ns.map .int),false),some (.int 5,false),some (.int most,false),none,none]=some (.lst (cs0.map .int),true):=by
  simp[cs0,Af]
 obtain⟨m',ρ',hw,cs,num,rfl,hl,_⟩:=pX (c:=aY (tOf (f2 dEq (f2 dn (f2 fg (fA aX (ab (af 0) (ab (fC (.int 0)) ak))) (fC (.int 21))) (fC (.int 8))) (fC (.int 5)))) (tOf (f2 dLt (fA dN (ab (af 3) ak)) (af 2)))) (g:=nM)
  (λm ρ=>∃(cs:List Int)(num:Int),ρ=[some (.lst (ns.map .int),false),some (.int 5,false),some (.int most,false),some (.lst (cs.map .int),true),some (.int num,false)]/\cs.length+m=most/\m<=most) (λm ρ hI=>by
   obtain⟨cs,num,rfl,hl,hm'⟩:=hI;have t1:tOf (f2 dEq (f2 dn (f2 fg (fA aX (ab (af 0) (ab (fC (.int 0)) ak))) (fC (.int 21))) (fC (.int 8))) (fC (.int 5))) [some (.lst (ns.map .int),false),some (.int 5,false),some (.int most,false),some (.lst (cs.map .int),true),some (.int num,false)]=some (decide (ns.getD 0 0 / 21 % 8=5)):=by
    refine tkF (eoF (.int (ns.getD 0 0 / 21 % 8)) (.int 5) (eoF (.int (ns.getD 0 0 / 21)) (.int 8) (eoF (.int (ns.getD 0 0)) (.int 21) (cdD [.lst (ns.map .int),.int 0] rfl (by simpa using c0)) rfl (by simp[])) rfl (by simp)) rfl (by simp))
   have t2:tOf (f2 dLt (fA dN (ab (af 3) ak)) (af 2)) [some (.lst (ns.map .int),false),some (.int 5,false),some (.int most,false),some (.lst (cs.map .int),true),some (.int num,false)]=some (decide (cs.length<most)):=by simp
   by_cases h1:ns.getD 0 0 / 21 % 8=5
   ·by_cases h2:cs.length<most
    ·refine .inr ⟨by rw[bj (p:=true) (q:=true) (by rw[t1,decide_eq_true h1]) λ_=>by rw[t2,decide_eq_true h2]];rfl,m - 1,[some (.lst (ns.map .int),false),some (.int 5,false),some (.int most,false),some (.lst ((cs++[(num*48271+cs.length+1) % 2147483647]).map .int),true),some (.int ((num*48271+cs.length+1) % 2147483647),false)],by omega,?_,cs++[(num*48271+cs.length+1) % 2147483647],_,rfl,by simp;omega,by omega⟩;refine rfF (.int ((num*48271+cs.length+1) % 2147483647)) (by simp) rfl ?_;rw[dX (ds:=cs.map .int) (d:=.int ((num*48271+cs.length+1) % 2147483647)) (b:=false) rfl rfl rfl (bg (by simp;omega))];simp
    ·exact .inl (by rw[bj (p:=true) (q:=false) (by rw[t1,decide_eq_true h1]) λ_=>by rw[t2,decide_eq_false h2]];rfl)
   ·exact .inl (by rw[bj (p:=false) (q:=false) (by rw[t1,decide_eq_false h1]) (by simp)];rfl)) 1000 (most - cs0.length) [some (.lst (ns.map .int),false),some (.int 5,false),some (.int most,false),some (.lst (cs0.map .int),true),some (.int (ns.getD 1 0 % 2147483647),false)] (by omega) ⟨cs0,_,rfl,by omega,by omega⟩
 refine⟨cs,a8 rfl (bP (ds:=cs0.map .int) e0 (by simp) (rfF (.int (ns.getD 1 0 % 2147483647)) ?_ rfl (bz hw (ko rfl)))),by omega⟩;exact eoF (.int (ns.getD 1 0)) (.int 2147483647) (cdD [.lst (ns.map .int),.int 1] rfl (by simpa using c1)) rfl (by simp)
theorem rm (a b:Str):(a++b).length=a.length+b.length:=by
 show(a.cps++b.cps).size=_;exact Array.size_append
theorem jb (c:Int)(n:Nat)(hn:n<=100):∃zs:List Str,lq [.int c,.int n]=some (.lst (zs.map .str),true)/\zs.length=n/\∀z∈zs,z.length<=20:=by
 have h8:=mod_lt (x:=c) (m:=8) (by decide);obtain⟨sz,hsz⟩:∃sz:Int,1+c % 8=sz:=⟨_,rfl⟩;have hs0:0<sz:=by omega
 have hs1:sz<1073741824:=by omega
 obtain⟨base,hbase⟩:∃base:Str,Txt.slice ("gmtazkfw" : Str) none (some sz)=base:=⟨_,rfl⟩;have hb8:base.length<=8:=by rw[←hbase];exact Nat.le_trans (Txt.slice_le _ _ _) (by decide +kernel)
 obtain⟨aa,haa⟩:∃aa:Int,c / 8 % sz=aa:=⟨_,rfl⟩;obtain⟨b1,hb1⟩:∃b1:Str,Txt.slice base none (some aa)=b1:=⟨_,rfl⟩;obtain⟨b2,hb2⟩:∃b2:Str,Txt.slice base (some (aa+1)) none=b2:=⟨_,rfl⟩;have l1:b1.length<=8:=by rw[←hb1];exact Nat.le_trans (Txt.slice_le _ _ _) hb8
 have l2:b2.length<=8:=by rw[←hb2];exact Nat.le_trans (Txt.slice_le _ _ _) hb8
 let ltr:Nat->Str:=λk=>⟨#[("bqcxdlenhusv" : Str).cps.toList.getD ((c / 64+5*k) % 12).toNat 0]⟩;let nm:Nat->Str:=λk=>b1++ltr k++b2;have ln:∀k,(nm k).length<=20:=λk=>by
  show(b1++ltr k++b2).length<=20;rw[rm,rm];have:(ltr k).length=1:=rfl;omega
 obtain⟨ρ',e,v6,v7,rfl⟩:=n0 (tg:=tgN 6) (g:=nL) n (λi ρ=>∃v6 v7:Option (D×Bool),ρ=[some (.int c,false),some (.int n,false),some (.int sz,false),some (.str base,false),some (.int aa,false),some (.lst (((List.range i).map nm).map .str),true),v6,v7])
  [some (.int c,false),some (.int n,false),some (.int sz,false),some (.str base,false),some (.int aa,false),some (.lst [],true),none,none] ⟨none,none,rfl⟩ (by
   rintro i ρ hi ⟨v6,v7,rfl⟩;have h12:=mod_lt (x:=c / 64+5*(i:Int)) (m:=12) (by decide);have hi2 : -18446744073709551616<(i:Int)/\(i:Int)<18446744073709551616:=by omega
   refine⟨_,_,rfl,.inl (rfF (.str (ltr i)) ?_ rfl (dX (ds:=((List.range i).map nm).map .str) (d:=.str (nm i)) (b:=false) rfl ?_ rfl (bg (by simp;omega)))),some (.int i,false),some (.str (ltr i),false),?_⟩
   ·refine eoF (.str "bqcxdlenhusv") (.int ((c / 64+5*i) % 12)) rfl (by simp) ?_;exact DL.uH h12.1 (by rw[show("bqcxdlenhusv" : Str).cps.size=12 by decide +kernel];omega) (by decide +kernel)
   ·refine eoF (.str (b1++ltr i)) (.str b2) (eoF (.str b1) (.str (ltr i)) ?_ rfl ?_) ?_ ?_
    ·simp[hb1];exact bM (by omega)
    ·simp;exact bM (by have:(ltr i).length=1:=rfl;omega)
    ·simp[hb2];exact bM (by omega)
    ·have hh:(b1++ltr i).length+b2.length<=sizeLine:=bM (by rw[rm];have:(ltr i).length=1:=rfl;omega);show cG (.str (b1++ltr i)) (.str b2)=some (.str (b1++ltr i++b2),false);simp only[cG,if_pos hh]
   ·simp[List.range_succ])
 refine⟨(List.range n).map nm,a8 rfl (rfF (.int sz) (by simp[hsz]) rfl (rfF (.str base) ?_ rfl (rfF (.int aa) (by simp[hs0,hs1,haa]) rfl (bP (ds:=[]) (by simp[sizeLine]) (by simp) (bz (nA (gG (j:=n) (b:=false) (by simp) (by omega)) e) (ko rfl)))))),by simp,?_⟩
 ·simp[hbase];decide +kernel
 ·intro z hz;obtain⟨k,_,rfl⟩:=List.mem_map.mp hz;exact ln k
theorem at0 (d:D)(r:List D):atI (d::r) 0=some d:=by have:=ib (xs:=d::r) (j:=0) (by simp);simpa using this
theorem at1 (d e:D)(r:List D):atI (d::e::r) 1=some e:=by have:=ib (xs:=d::e::r) (j:=1) (by simp);simpa using this
theorem at2 (d e f:D)(r:List D):atI (d::e::f::r) 2=some f:=by have:=ib (xs:=d::e::f::r) (j:=2) (by simp);simpa using this
noncomputable def bZ (k:Str):Bool:=decide (k=("death" : Str)) || decide (k=("lost" : Str)) || decide (k=("found" : Str))
noncomputable def dC (k:Str):Bool:=decide (k=("chosen" : Str)) || decide (k=("heir" : Str)) || decide (k=("leave" : Str)) || decide (k=("paper" : Str)) || decide (k=("like" : Str)) || decide (k=("copy" : Str)) || decide (k=("call" : Str))
structure DeedP (kind:Str)(aC:List D):Prop where
 flat:b7 aC=true
 plain:aC.all (am 5)=true
 three:bZ kind=true->∃(day:Int)(p:Str),aC=[.int day,.str p]
 slg:dC kind=true->∃(day:Int)(p:Str)(r:List D),aC=.int day::.str p::r
noncomputable def row (h:Int)(kind:Str)(aC:List D):D:=.tup [.int h,.tup (.str kind::aC)]
noncomputable def kB (r:D):Prop:=∃h kind aC,r=row h kind aC/\DeedP kind aC
theorem kB.flat {r:D}(h:kB r):bo r=true:=by obtain⟨a,k,aC,rfl,dp⟩:=h;simp[row,dp.flat]
theorem kB.plain {r:D}(h:kB r):am 39 r=true:=by
 obtain⟨a,k,aC,rfl,dp⟩:=h;refine iq 7 39 _ (by decide) ?_;have:=dp.plain;simp only[row,am,List.all_cons,List.all_nil,Bool.and_true,Bool.true_and];exact this
theorem cL {ds:List D}(h:∀d∈ds,bo d=true):b7 ds=true:=by
 induction ds with
 |nil=>rfl
 |cons d r ih=>simp[h d (by simp),ih λe he=>h e (by simp[he])]
theorem gn (zs:List Str):b7 (zs.map D.str)=true:=by
 induction zs with
 |nil=>rfl
 |cons a l ih=>simp[ih]
theorem BR {rows:List D}(h:∀r∈rows,kB r):dEq (.tup rows) (.tup rows)=some (.bl true,false):=by
 refine Ai ?_;simp only[am,List.all_eq_true];exact λr hr=>(h r hr).plain
noncomputable def aZ:D->Int
 |.tup (.int h::_)=>h
 |_=>0
noncomputable def kindOf:D->Str
 |.tup [_,.tup (.str k::_)]=>k
 |_=>("" : Str)
noncomputable def av:D->Int
 |.tup [_,.tup (_::.int d::_)]=>d
 |_=>0
noncomputable def nV (p:Str)(day:Int):List D->Bool
 |[.int d,.str q]=>decide (q=p) && decide (d<=day)
 |_=>false
noncomputable def told (ws:List Str)(p:Str)(day:Int):D->Bool
 |.tup [_,.tup (.str kind::aC)]=>decide (kind∈ws) && nV p day aC
 |_=>false
theorem gp (h:Int)(kind:Str)(aC:List D):aG [row h kind aC]=some (.str kind,false):=a8 rfl (aK (by simp[row,at1,at0]))
theorem iS {k:Str}(h:bZ k=true):k=("death" : Str)∨k=("lost" : Str)∨k=("found" : Str):=by
 unfold bZ at h;simp only[Bool.or_eq_true,decide_eq_true_eq]at h;rcases h with (h|h)|h
 ·exact .inl h
 ·exact .inr (.inl h)
 ·exact .inr (.inr h)
theorem jB {k:Str}(h:dC k=true):k=("chosen" : Str)∨k=("heir" : Str)∨k=("leave" : Str)∨k=("paper" : Str)∨k=("like" : Str)∨k=("copy" : Str)∨k=("call" : Str):=by
 unfold dC at h;simp only[Bool.or_eq_true,decide_eq_true_eq]at h;rcases h with (((((h|h)|h)|h)|h)|h)|h
 ·exact .inl h
 ·exact .inr (.inl h)
 ·exact .inr (.inr (.inl h))
 ·exact .inr (.inr (.inr (.inl h)))
 ·exact .inr (.inr (.inr (.inr (.inl h))))
 ·exact .inr (.inr (.inr (.inr (.inr (.inl h)))))
 ·exact .inr (.inr (.inr (.inr (.inr (.inr h)))))
theorem BS {k:Str}(h:bZ k=true∨dC k=true):oK gk (.str k) (.str "day")=some (.int 0,false):=by
 rcases h with h|h
 ·rcases iS h with rfl|rfl|rfl<;>exact bc (by decide +kernel)
 ·rcases jB h with rfl|rfl|rfl|rfl|rfl|rfl|rfl<;>exact bc (by decide +kernel)
theorem vw {k:Str}(h:bZ k=true):oK gk (.str k) (.str "person")=some (.int 1,false):=by
 rcases iS h with rfl|rfl|rfl<;>exact bc (by decide +kernel)
theorem Ak {k:Str}(h:bZ k=true∨dC k=true):dEq (.str k) (.str "root")=some (.bl false,false):=by
 rcases h with h|h
 ·rcases iS h with rfl|rfl|rfl<;>exact bc (by decide +kernel)
 ·rcases jB h with rfl|rfl|rfl|rfl|rfl|rfl|rfl<;>exact bc (by decide +kernel)
theorem b9 {h:Int}{k:Str}{aC:List D}{part:Str}{i:Nat}{d:D}(hi:oK gk (.str k) (.str part)=some (.int i,false))(hd:aC[i]? = some d):ar [row h k aC,.str part]=some (d,false):=by
 refine a8 rfl (aK ?_);refine eoF (.tup (.str k::aC)) (.int (1+i)) (by simp[row,at1]) (eoF (.int 1) (.int i) rfl (eoF (.str k) (.str part) (cdD [row h k aC] rfl (gp _ _ _)) rfl hi) (by simp)) ?_;have hlt:i<aC.length:=(List.getElem?_eq_some_iff.mp hd).1;have:atI (.str k::aC) (1+(i:Int))=some d:=by
  have:=ib (xs:=(.str k:D)::aC) (j:=i+1) (by simp;omega);rw[show(1+(i:Int))=((i+1:Nat):Int) by omega,this];simp only[List.getElem_cons_succ];rw[List.getElem?_eq_getElem hlt]at hd;exact hd
 simp[this]
theorem gM {h:Int}{k:Str}{aC:List D}{d:Int}{r:List D}(hk:bZ k=true∨dC k=true)(hr:aC=.int d::r):aP [row h k aC]=some (.int d,false):=by
 subst hr;refine a8 rfl (ce (tkF (eoF (.str k) (.str "root") (cdD [row h k (.int d::r)] rfl (gp _ _ _)) rfl (Ak hk))) (aK (cdD [row h k (.int d::r),.str "day"] rfl (b9 (i:=0) (BS hk) rfl))))
theorem nW (k:Str)(ws:List Str):inD (.str k) (ws.map .str)=decide (k∈ws):=by
 induction ws with
 |nil=>simp[inD]
 |cons w ws ih=>
  have:inD (.str k) ((w::ws).map .str)=(eqD (.str w) (.str k) || inD (.str k) (ws.map .str)):=rfl;rw[this,ih,lE];by_cases e:w=k
  ·simp[e]
  ·have e':¬k=w:=λz=>e z.symm;simp[e,e']
theorem lw (ws:List Str):(ws.map D.str).all fD=true:=by
 induction ws with
 |nil=>rfl
 |cons w ws ih=>simp[fD]
theorem kE (k:Str)(ws:List Str):dIn (.str k) (.tup (ws.map .str))=some (.bl (decide (k∈ws)),false):=by
 simp only[dIn,gg,Option.bind_some,nW];rw[if_pos ⟨rfl,lw ws⟩]
theorem Al {r:D}(hr:kB r)(ws:List Str)(hw:∀w∈ws,bZ w=true)(p:Str)(day:Int):k7 [r,.tup (ws.map .str),.str p,.int day]=some (.bl (told ws p day r),false):=by
 obtain⟨h,kind,aC,rfl,dp⟩:=hr;have hin:f2 dIn (fA aG (ab (af 0) ak)) (af 1) [some (row h kind aC,false),some (.tup (ws.map .str),false),some (.str p,false),some (.int day,false)]=some (.bl (decide (kind∈ws)),false) :=
  eoF (.str kind) (.tup (ws.map .str)) (cdD [row h kind aC] rfl (gp _ _ _)) rfl (kE kind ws)
 have ht:told ws p day (row h kind aC)=(decide (kind∈ws) && nV p day aC):=rfl;rw[ht];refine a8 rfl (aK (j9 (b1:=false) hin λhk=>?_));have h3:=hw kind (of_decide_eq_true hk);obtain⟨d,q,rfl⟩:=dp.three h3;show lY _ _ _=some (.bl (decide (q=p) && decide (d<=day)),false);refine j9 (b1:=false) ?_ λ_=>?_
 ·exact eoF (.str q) (.str p) (cdD [row h kind [.int d,.str q],.str "person"] rfl (b9 (i:=1) (vw h3) rfl)) rfl (by simp)
 ·exact eoF (.int d) (.int day) (cdD [row h kind [.int d,.str q]] rfl (gM (.inl h3) rfl)) rfl (by simp)
theorem nX (ds:List D):jW ds=ds.zipIdx.map λx=>.tup [.int x.2,x.1]:=by
 unfold jW;apply List.ext_getElem?;intro i;simp[List.getElem?_mapIdx,List.getElem?_zipIdx];cases ds[i]?<;>simp
noncomputable def aj (rows:List D)(known:Int):List (D×Nat):=rows.zipIdx.filter λx=>decide (aZ x.1<=known)
theorem nY (rows:List D)(hr:∀r∈rows,kB r)(hl:rows.length<=1000)(known:Int):cK [.tup rows,.int known]=some (.lst ((aj rows known).map λx=>.int x.2),true):=by
 have hc:=iC (fi:=wy (af 0)) (nT:=2) (cap:=[1]) (tg:=tgT [0,1]) (c:=tOf (f2 dLe (ixV 1 0) (af 2))) (fe:=af 0) (ρ:=[some (.tup rows,false),some (.int known,false)]) rows.zipIdx (λx=>.tup [.int x.2,x.1]) (λx=>decide (aZ x.1<=known)) (λx=>.int x.2)
  (by simp[nX]) (by simp;omega) λx hx=>by
   obtain⟨h,kind,aC,e,_⟩:=hr x.1 (List.fst_mem_of_mem_zipIdx hx);refine⟨_,rfl,tkF ?_,λ_=>⟨false,by simp[bW]⟩⟩;simp[bW,e,row,at0,aZ]
 exact a8 rfl (aK hc)
noncomputable def mf (rows:List D)(known:Int)(ws:List Str)(p:Str)(day:Int):List (D×Nat):=(aj rows known).filter λx=>told ws p day x.1
theorem xf {rows:List D}{known:Int}{ws:List Str}{p:Str}{day:Int}{x:D×Nat}(h:x∈mf rows known ws p day):rows[x.2]? = some x.1/\told ws p day x.1=true:=by
 obtain⟨h1,h2⟩:=List.mem_filter.mp h;exact⟨(List.mk_mem_zipIdx_iff_getElem? (x:=x.1) (i:=x.2)).mp (List.mem_filter.mp h1).1,h2⟩
theorem ir {rows:List D}{i:Nat}{r:D}(h:rows[i]? = some r):atI rows (i:Int)=some r:=by
 obtain⟨hlt,e⟩:=List.getElem?_eq_some_iff.mp h;rw[ib hlt,e]
theorem BT (rows:List D)(known:Int)(ws:List Str)(p:Str)(day:Int):(mf rows known ws p day).length<=rows.length:=by
 have h1:=List.length_filter_le (λx:D×Nat=>told ws p day x.1) (aj rows known);have h2:=List.length_filter_le (λx:D×Nat=>decide (aZ x.1<=known)) rows.zipIdx;rw[List.length_zipIdx]at h2;exact Nat.le_trans h1 h2
theorem rq (rows:List D)(hr:∀r∈rows,kB r)(hl:rows.length<=1000)(known:Int)(ws:List Str)(hw:∀w∈ws,bZ w=true)(p:Str)(day:Int):
  d4 [.tup rows,.int known,.tup (ws.map .str),.str p,.int day]=some (.lst ((mf rows known ws p day).map λx=>.int x.2),true):=by
 have hc:=iC (fi:=bV (fA cK (ab (af 0) (ab (af 1) ak)))) (nT:=1) (cap:=[2,3,4,0]) (tg:=tgN 0) (c:=tOf (fA k7 (ab (f2 ixD (af 4) (af 0)) (ab (af 1) (ab (af 2) (ab (af 3) ak)))))) (fe:=af 0)
  (ρ:=(rkE rows known [some (.tup (ws.map .str),false),some (.str p,false),some (.int day,false)])) (aj rows known) (λx=>.int x.2) (λx=>told ws p day x.1) (λx=>.int x.2)
  (by
   show(fA cK (ab (af 0) (ab (af 1) ak)) _).bind _=_;rw[cdD [.tup rows,.int known] rfl (nY rows hr hl known)];rfl) (by have:=List.length_filter_le (λx:D×Nat=>decide (aZ x.1<=known)) rows.zipIdx;rw[List.length_zipIdx]at this;exact Nat.le_trans this (by omega)) λx hx=>by
   have hg:rows[x.2]? = some x.1:=(List.mk_mem_zipIdx_iff_getElem? (x:=x.1) (i:=x.2)).mp (List.mem_filter.mp hx).1;refine⟨_,rfl,tkF (cdD [x.1,.tup (ws.map .str),.str p,.int day] ?_ (Al (hr _ (List.mem_of_getElem? hg)) ws hw p day)),λ_=>⟨false,by simp[bW]⟩⟩;have ha:=ir hg;simp[bW,ha]
 exact a8 rfl (aK hc)
noncomputable def kA (x:D×Nat):List At:=[.i (av x.1),.i x.2]
noncomputable def cF (a b:D×Nat):Bool:=decide (av a.1<av b.1∨(av a.1=av b.1/\(a.2:Int)<b.2))
noncomputable def cC:D×Nat->List (D×Nat)->D×Nat
 |b,[]=>b
 |b,x::r=>if cF b x=true then cC x r else cC b r
noncomputable def Am:List (D×Nat)->Option (D×Nat)
 |[]=>none
 |x::r=>some (cC x r)
theorem Ew (a b c d:Int):aO [.i a,.i b] [.i c,.i d]=some (decide (a<c∨(a=c/\b<d))):=by
 rw[aO];by_cases h:a=c
 ·rw[if_pos h,aO];by_cases h2:b=d
  ·rw[if_pos h2,aO];simp[h,h2]
  ·rw[if_neg h2];simp[h]
 ·rw[if_neg h];simp[h]
theorem rz (a b:D×Nat):aO (kA a) (kA b)=some (cF a b):=Ew _ _ _ _
theorem mv (l:List (D×Nat)):c9 (l.map kA)=true:=by
 unfold c9;simp[List.all_eq_true,rz]
theorem lx:∀(r:List (D×Nat))(b:D×Nat),ki (kA b,.int b.2) (r.map λx=>(kA x,D.int x.2))=.int (cC b r).2
 |[],b=>rfl
 |x::r,b=>by
  rw[List.map_cons,ki,cC];show(if aO (kA b) (kA x)=some true then _ else _)=_;rw[rz];by_cases h:cF b x=true
  ·rw[if_pos h,if_pos (by rw[h])];exact lx r x
  ·rw[if_neg h,if_neg (by simpa using h)];exact lx r b
theorem kF:∀(r:List (D×Nat))(b:D×Nat),cC b r∈b::r
 |[],b=>by simp[cC]
 |x::r,b=>by
  rw[cC];split
  ·exact mZ _ (kF r x)
  ·rcases List.mem_cons.mp (kF r b)with h|h
   ·rw[h];exact mX
   ·exact mZ _ (mZ _ h)
theorem gN {α:Type}{f:D->Option D}{g h:α->D}:∀(l:List α),(∀x∈l,f (g x)=some (h x))->hZ f (l.map g)=some (l.map h)
 |[],_=>rfl
 |x::l,hx=>by
  rw[List.map_cons,hZ,hx x mX,Option.bind_some,gN l λy hy=>hx y (mZ _ hy)];rfl
theorem eN {α:Type}{g:α->D}{h:α->List At}:∀(l:List α),(∀x∈l,j6 (g x)=some (h x))->cP (l.map g)=some (l.map h)
 |[],_=>rfl
 |x::l,hx=>by
  rw[List.map_cons,cP,hx x mX,Option.bind_some,eN l λy hy=>hx y (mZ _ hy)];rfl
noncomputable def fF:List Str:=[("lost" : Str),("found" : Str)]
theorem gq:∀w∈fF,bZ w=true:=by
 intro w hw;rcases List.mem_cons.mp hw with rfl|hw
 ·decide +kernel
 ·rcases List.mem_cons.mp hw with rfl|hw
  ·decide +kernel
  ·cases hw
noncomputable def tP (rows:List D)(known:Int)(p:Str)(day:Int):Bool:=match Am (mf rows known fF p day) with
 |none=>true
 |some b=>decide (kindOf b.1=("found" : Str))
theorem nZ {ws:List Str}(hw:∀w∈ws,bZ w=true){p:Str}{day:Int}{r:D}(hr:kB r)(ht:told ws p day r=true):∃h k d,r=row h k [.int d,.str p]/\bZ k=true/\k∈ws/\d<=day:=by
 obtain⟨h,kind,aC,rfl,dp⟩:=hr;have ht':(decide (kind∈ws) && nV p day aC)=true:=ht;rw[Bool.and_eq_true]at ht';have hm:=of_decide_eq_true ht'.1;obtain⟨d,q,rfl⟩:=dp.three (hw _ hm);have hq:(decide (q=p) && decide (d<=day))=true:=ht'.2;rw[Bool.and_eq_true]at hq;have:=of_decide_eq_true hq.1;subst this;exact⟨h,kind,d,rfl,hw _ hm,hm,of_decide_eq_true hq.2⟩
theorem xg {rows:List D}{i:Nat}{h d:Int}{k p:Str}(hg:rows[i]? = some (row h k [.int d,.str p]))(h3:bZ k=true):dB [.tup rows,.int i]=some (.tup [.int d,.int i],false):=by
 have ha:=ir hg;refine a8 rfl (aK (cdD [.int d,.int i] (aw (d:=.int d) (b:=false) (cdD [row h k [.int d,.str p]] (by simp[ha]) (gM (.inl h3) rfl)) rfl) (by simp[sizeLine])))
theorem BU (rows:List D)(hr:∀r∈rows,kB r)(hl:rows.length<=1000)(known:Int)(p:Str)(day:Int):ig [.tup rows,.int known,.str p,.int day]=some (.bl (tP rows known p day),false):=by
 have ht:=rq rows hr hl known fF gq p day;have hsl:=BT rows known fF p day;have key:∀x∈mf rows known fF p day,∃h k d,rows[x.2]? = some (row h k [.int d,.str p])/\x.1=row h k [.int d,.str p]/\bZ k=true:=λx hx=>by
  obtain⟨hg,htl⟩:=xf hx;obtain⟨h,k,d,e,h3,_⟩:=nZ gq (hr _ (List.mem_of_getElem? hg)) htl;exact⟨h,k,d,by rw[hg,e],e,h3⟩
 unfold tP;generalize hsel:mf rows known fF p day=sel at ht key hsl ⊢;have hset:fA d4 (ab (af 0) (ab (af 1) (ab (fA aI (ab (fC (.str "lost")) (ab (fC (.str "found")) ak))) (ab (af 2) (ab (af 3) ak))))) (rkE rows known [some (.str p,false),some (.int day,false),none])=some (.lst (sel.map λx=>.int x.2),true) :=
  cdD [.tup rows,.int known,.tup (fF.map .str),.str p,.int day] (by simp[fF,sizeLine]) ht
 have hnl:b7 (sel.map λx=>D.int x.2)=true:=cL λd hd=>by obtain⟨x,_,rfl⟩:=List.mem_map.mp hd;rfl
 cases sel with
 |nil=>exact a8 rfl (bP hset hnl (dW (tkF (by simp)) (aK rfl)))
 |cons x r=>
  refine a8 rfl (bP hset hnl (ce (tkF (by simp;omega)) (aK ?_)));obtain⟨h,k,d,hg,e,h3⟩:=key (cC x r) (kF r x);have hb:kindOf (cC x r).1=k:=by rw[e];rfl
  show _=some (D.bl (decide (kindOf (cC x r).1=("found" : Str))),false);rw[hb];refine eoF (.str k) (.str "found") (cdD [row h k [.int d,.str p]] (aw (d:=row h k [.int d,.str p]) (b:=false) (eoF (.tup rows) (.int (cC x r).2) rfl ?_ (by simp[ir hg])) rfl) (gp _ _ _)) rfl (by simp);have hm:∀ρ:DL.Env,ρ[0]? = some (some (.tup rows,false))->hZ (t4 [0] (fA dB (ab (af 1) (ab (af 0) ak))) ρ) ((x::r).map λx=>D.int x.2)=some ((x::r).map λx=>.tup [.int (av x.1),.int x.2]):=λρ h0=>
   gN (x::r) λy hy=>by
    obtain⟨h,k,d,hg,e,h3⟩:=key y hy;have hd:av y.1=d:=by rw[e];rfl
    rw[hd];show(fA dB _ _).map _=_;rw[cdD [.tup rows,.int y.2] (by simp[bW,h0]) (xg hg h3)];rfl
  have hk:cP ((x::r).map λx=>D.tup [.int (av x.1),.int x.2])=some ((x::r).map kA):=eN (x::r) λy _=>rfl;have hz:((x::r).map kA).zip ((x::r).map λx=>D.int x.2)=(kA x,.int x.2)::r.map λx=>(kA x,D.int x.2):=by
   rw[List.zip_map'];rfl
  show(pE (af 4) _ _)=_;unfold pE fKK;show((some (D.lst ((x::r).map λx=>D.int x.2),false)).bind _)=_;simp only[Option.bind_some];rw[hm _ rfl];simp only[Option.bind_some];rw[hk];simp only[Option.bind_some];rw[if_pos (mv _),hz];simp only[lx]
noncomputable def bN:List Str:=[("death" : Str)]
theorem d6:∀w∈bN,bZ w=true:=by
 intro w hw;rcases List.mem_cons.mp hw with rfl|hw
 ·decide +kernel
 ·cases hw
noncomputable def ly (rows:List D)(known:Int)(p:Str)(day:Int):Bool:=(mf rows known bN p day).isEmpty
theorem tQ (rows:List D)(hr:∀r∈rows,kB r)(hl:rows.length<=1000)(known:Int)(p:Str)(day:Int):ie [.tup rows,.int known,.str p,.int day]=some (.bl (ly rows known p day),false):=by
 have ht:=rq rows hr hl known bN d6 p day;unfold ly;generalize mf rows known bN p day=sel at ht ⊢;refine a8 rfl (aK (eoF (.int ((sel.map λx=>D.int x.2).length:Nat)) (.int 0) ?_ rfl ?_))
 ·exact cdD [.lst (sel.map λx=>.int x.2)] (aw (d:=.lst (sel.map λx=>.int x.2)) (b:=true) (cdD [.tup rows,.int known,.tup (bN.map .str),.str p,.int day] (by simp[sizeLine,bN]) ht) rfl) BQ
 ·rw[wS];cases sel<;>simp
  omega
noncomputable def tR:D->Str
 |.tup [_,.tup (_::_::.str p::_)]=>p
 |_=>("" : Str)
noncomputable def xh:List Str:=[("chosen" : Str),("heir" : Str),("leave" : Str),("paper" : Str),("like" : Str),("copy" : Str),("call" : Str)]
theorem vx (k:Str):dC k=decide (k∈xh):=by
 unfold dC xh;simp[List.mem_cons,Bool.or_assoc]
theorem vy:eK=.tup (xh.map .str):=rfl
theorem lQ (k:Str)(ws:List Str):eI (.str k) (.tup (ws.map .str))=some (.bl (!decide (k∈ws)),false):=by
 simp only[eI,gg,Option.bind_some,nW];rw[if_pos ⟨rfl,lw ws⟩]
theorem Ex {k:Str}(h:dC k=true):oK gk (.str k) (.str "by")=some (.int 1,false):=by
 rcases jB h with rfl|rfl|rfl|rfl|rfl|rfl|rfl<;>exact bc (by decide +kernel)
noncomputable def r0 (rows:List D)(known:Int)(r:D):Bool:=(decide (aZ r<=known) && dC (kindOf r)) && (ly rows known (tR r) (av r) && tP rows known (tR r) (av r))
theorem An {rows:List D}{i:Nat}{h:Int}{kind:Str}{aC:List D}(hg:rows[i]? = some (row h kind aC))(known:Int):ga [.tup rows,.int known,.int i]=some (.bl (decide (h<=known)),false):=by
 have hlt:i<rows.length:=(List.getElem?_eq_some_iff.mp hg).1;have ha:=ir hg;refine a8 rfl (aK ?_);have:=j9 (f1:=kW dLe dLt (fC (.int 0)) (af 2) (fA dN (ab (af 0) ak))) (f2:=f2 dLe (f2 ixD (f2 ixD (af 0) (af 2)) (fC (.int 0))) (af 1)) (ρ:=(rkE rows known [some (.int i,false)])) (p:=true) (q:=decide (h<=known)) (b1:=false)
  (by
   refine(Ab (x:=.int 0) (y:=.int i) (z:=.int rows.length) (b1:=false) (b2:=false) (b3:=false) (b4:=false) (p:=true) (q:=true) rfl rfl (by simp) (by simp) λ_=>?_).trans rfl;simp;omega) λ_=>by simp[ha,row,at0]
 exact this
theorem Ao (rows:List D)(hr:∀r∈rows,kB r)(hl:rows.length<=1000)(known:Int){i:Nat}{r:D}(hg:rows[i]? = some r):ij [.tup rows,.int known,.int i]=some (.bl (r0 rows known r),false):=by
 obtain⟨h,kind,aC,rfl,dp⟩:=hr r (List.mem_of_getElem? hg);have hk:=An hg known;have ha:=ir hg;have hword:∀(ρ:DL.Env),f2 ixD (af 0) (af 2) ρ=some (row h kind aC,false)->fA aG (ab (f2 ixD (af 0) (af 2)) ak) ρ=some (.str kind,false):=λρ e=>cdD [row h kind aC] (aw e rfl) (gp _ _ _);have hrow:f2 ixD (af 0) (af 2) (rkE rows known [some (.int i,false),none,none])=some (row h kind aC,false):=by simp[ha]
 have hc:(dj (dO (tOf (fA ga (ab (af 0) (ab (af 1) (ab (af 2) ak)))))) (tOf (f2 eI (fA aG (ab (f2 ixD (af 0) (af 2)) ak)) (fC eK)))) (rkE rows known [some (.int i,false),none,none])=some (!decide (h<=known) || !dC kind):=by
  refine cB (fG (tkF (cdD [.tup rows,.int known,.int i] rfl hk))) λ_=>tkF (eoF (.str kind) eK (hword _ hrow) rfl ?_);rw[vy,vx];exact lQ kind xh
 have hs:r0 rows known (row h kind aC)=((decide (h<=known) && dC kind) && (ly rows known (tR (row h kind aC)) (av (row h kind aC)) && tP rows known (tR (row h kind aC)) (av (row h kind aC)))):=rfl;cases hb:(decide (h<=known) && dC kind) with
 |false=>
  rw[hs,hb];refine a8 rfl (dW (hc.trans ?_) (aK rfl));rw[←Bool.not_and,hb];rfl
 |true=>
  rw[hs,hb];rw[Bool.and_eq_true]at hb;obtain⟨day,p,r',rfl⟩:=dp.slg hb.2;show _=some (D.bl (true && (ly rows known p day && tP rows known p day)),false);rw[Bool.true_and];refine a8 rfl (ce (hc.trans (by rw[hb.1,hb.2];rfl)) (rfF (.str p) (cdD [row h kind (.int day::.str p::r'),.str "by"] (aw hrow rfl) (b9 (i:=1) (Ex hb.2) rfl)) rfl (rfF (.int day) (cdD [row h kind (.int day::.str p::r')] (aw (d:=row h kind (.int day::.str p::r')) (b:=false) (by simp[ha]) rfl) (gM (.inr hb.2) rfl)) rfl (aK ?_))));exact j9 (b1:=false) (cdD [.tup rows,.int known,.str p,.int day] (by simp) (tQ rows hr hl known p day)) λ_=>cdD [.tup rows,.int known,.str p,.int day] (by simp) (BU rows hr hl known p day)
inductive Cd:Str->List D->Prop
 |root (o r:Str) (m f:Int):Cd ("root" : Str) [.str o,.int m,.int f,.str r]
 |named (d:Int) (o p:Str):Cd ("named" : Str) [.int d,.str o,.str p]
 |chosen (d:Int) (b o p:Str) (s:Int):Cd ("chosen" : Str) [.int d,.str b,.str o,.str p,.int s]
 |heir (d:Int) (b o p:Str):Cd ("heir" : Str) [.int d,.str b,.str o,.str p]
 |three (k:Str) (hk:k=("death" : Str)∨k=("lost" : Str)∨k=("found" : Str)) (d:Int) (p:Str):Cd k [.int d,.str p]
 |other (k:Str) (hk:k=("leave" : Str)∨k=("paper" : Str)∨k=("like" : Str)∨k=("copy" : Str)∨k=("call" : Str)) (d:Int) (b:Str) (r:List D) (hf:b7 r=true) (hp:r.all (am 5)=true):Cd k (.int d::.str b::r)
theorem Cd.deed {k:Str}{r:List D}(h:Cd k r):DeedP k r:=by
 cases h with
 |root o rl m f=>exact⟨rfl,by simp,λh=>absurd h (by decide +kernel),λh=>absurd h (by decide +kernel)⟩
 |named d o p=>exact⟨rfl,by simp,λh=>absurd h (by decide +kernel),λh=>absurd h (by decide +kernel)⟩
 |chosen d b o p s=>exact⟨rfl,by simp,λh=>absurd h (by decide +kernel),λ_=>⟨d,b,_,rfl⟩⟩
 |heir d b o p=>exact⟨rfl,by simp,λh=>absurd h (by decide +kernel),λ_=>⟨d,b,_,rfl⟩⟩
 |three k hk d p=>exact⟨rfl,by simp,λ_=>⟨d,p,rfl⟩,λh=>by rcases hk with rfl|rfl|rfl<;>exact absurd h (by decide +kernel)⟩
 |other k hk d b r hf hp=>exact⟨by simp[hf],by simp only[List.all_cons,hp,am,Bool.and_true],λh=>by rcases hk with rfl|rfl|rfl|rfl|rfl<;>exact absurd h (by decide +kernel),λ_=>⟨d,b,r,rfl⟩⟩
noncomputable def eB (r:D):Prop:=∃h k aC,r=row h k aC/\Cd k aC
theorem eB.rp {r:D}(h:eB r):kB r:=by obtain⟨a,k,aC,rfl,d⟩:=h;exact⟨a,k,aC,rfl,d.deed⟩
noncomputable def aV (r:D):Bool:=decide (kindOf r=("root" : Str))
theorem Cd.day {k:Str}{r:List D}(h:Cd k r)(hk:k≠("root" : Str)):∃d q,r=.int d::q:=by
 cases h with
 |root=>exact absurd rfl hk
 |named d=>exact⟨d,_,rfl⟩
 |chosen d=>exact⟨d,_,rfl⟩
 |heir d=>exact⟨d,_,rfl⟩
 |three _ _ d=>exact⟨d,_,rfl⟩
 |other _ _ d=>exact⟨d,_,rfl⟩
theorem Cd.day_idx {k:Str}{r:List D}(h:Cd k r)(hk:k≠("root" : Str)):oK gk (.str k) (.str "day")=some (.int 0,false):=by
 cases h with
 |root=>exact absurd rfl hk
 |named=>exact bc (by decide +kernel)
 |chosen=>exact bc (by decide +kernel)
 |heir=>exact bc (by decide +kernel)
 |three _ hh=>rcases hh with rfl|rfl|rfl<;>exact bc (by decide +kernel)
 |other _ hh=>rcases hh with rfl|rfl|rfl|rfl|rfl<;>exact bc (by decide +kernel)
theorem bD {f:FE}{ρ:DL.Env}{a b:Str}{x:Bool}{bb:Bool}(e:f ρ=some (.str a,bb))(h:decide (a=b)=x):tOf (f2 dEq f (fC (.str b))) ρ=some x:=tkF (fZ (x:=.str a) (y:=.str b) (b1:=bb) (b2:=false) e rfl (by rw[←h];simp))
noncomputable def vz (r:D):D:=if aV r=true then .non else .int (av r)
theorem v0 {r:D}(g:eB r):aG [r]=some (.str (kindOf r),false):=by
 obtain⟨h,k,aC,rfl,_⟩:=g;exact gp h k aC
theorem xi {r:D}(g:eB r):aP [r]=some (vz r,false):=by
 obtain⟨h,k,aC,rfl,d⟩:=g;unfold vz;by_cases hk:k=("root" : Str)
 ·have:aV (row h k aC)=true:=decide_eq_true hk;rw[if_pos this];exact a8 rfl (dW (bD (a:=k) (bb:=false) (cdD [row h k aC] rfl (gp _ _ _)) (decide_eq_true hk)) (aK rfl))
 ·have:aV (row h k aC)=false:=decide_eq_false hk;rw[if_neg (by rw[this];decide)];obtain⟨dd,q,rfl⟩:=d.day hk;exact a8 rfl (ce (bD (a:=k) (bb:=false) (cdD [row h k (.int dd::q)] rfl (gp _ _ _)) (decide_eq_false hk)) (aK (cdD [row h k (.int dd::q),.str "day"] rfl (b9 (i:=0) (d.day_idx hk) rfl))))
noncomputable def cU (rows:List D):Prop:=rows.length<=60/\∀r∈rows,eB r
theorem cU.rp {rows:List D}(g:cU rows):∀r∈rows,kB r:=λr hr=>(g.2 r hr).rp
theorem cU.le {rows:List D}(g:cU rows):rows.length<=1000:=Nat.le_trans g.1 (by decide)
theorem dD {rows:List D}{known:Int}{x:D×Nat}(h:x∈aj rows known):rows[x.2]? = some x.1:=by
 obtain⟨h1,_⟩:=List.mem_filter.mp h;exact List.mem_zipIdx_iff_getElem?.mp h1
theorem eO (rows:List D)(known:Int):(aj rows known).length<=rows.length:=by
 have:=List.length_filter_le (λx:D×Nat=>decide (aZ x.1<=known)) rows.zipIdx;rw[List.length_zipIdx]at this;exact this
theorem fJ (rows:List D)(known:Int):((aj rows known).map (·.2)).Nodup:=by
 have h1:(rows.zipIdx.map (·.2)).Nodup:=by rw[List.zipIdx_map_snd];exact List.nodup_range'
 exact List.Nodup.sublist (List.Sublist.map _ (List.filter_sublist)) h1
noncomputable def bx (rows:List D)(known:Int):List (D×Nat):=(aj rows known).filter λx=>!aV x.1
noncomputable def Gb (rows:List D)(known:Int):List (D×Nat):=cR (λx=>bp (kA x)) (bx rows known)
theorem Ap {a b:D×Nat}(h:bp (kA a)=bp (kA b)):a.2=b.2:=by
 have h:[av a.1,(a.2:Int)]=[av b.1,(b.2:Int)]:=h;injection h with _ h;injection h with h;omega
theorem BV {rows:List D}{known:Int}{a b:D×Nat}(ha:a∈aj rows known)(hb:b∈aj rows known)(h:a.2=b.2):a=b:=by
 have h1:=dD ha;have h2:=dD hb;rw[h,h2]at h1;exact Prod.ext (Option.some.inj h1).symm h
theorem tS {rows:List D}(g:cU rows)(known:Int):eM [.tup rows,.int known]=some (.lst ((Gb rows known).map λx=>.int x.2),true):=by
 have hl:=g.1;have hll:=eO rows known;have hrow:∀x∈aj rows known,atI rows (x.2:Int)=some x.1/\eB x.1:=λx hx=>⟨ir (dD hx),g.2 _ (List.mem_of_getElem? (dD hx))⟩;have hc:=iC (fi:=bV (fA cK (ab (af 0) (ab (af 1) ak)))) (nT:=1) (cap:=[0]) (tg:=tgN 0) (c:=tOf (f2 gY (fA aP (ab (f2 ixD (af 1) (af 0)) ak)) (fC .non))) (fe:=af 0) (ρ:=(rkE rows known [none])) (aj rows known) (λx=>.int x.2) (λx=>!aV x.1) (λx=>.int x.2)
  (by
   show(fA cK (ab (af 0) (ab (af 1) ak)) _).bind _=_;rw[cdD [.tup rows,.int known] rfl (nY rows g.rp g.le known)];rfl) (by omega) λx hx=>by
   obtain⟨ha,gx⟩:=hrow x hx;refine⟨_,rfl,tkF (eoF (vz x.1) .non (cdD [x.1] (by simp[bW,ha]) (xi gx)) rfl ?_),λ_=>⟨false,by simp[bW]⟩⟩;unfold vz;cases aV x.1<;>simp[sA]
 have hc':bS (bV (fA cK (ab (af 0) (ab (af 1) ak)))) 1 [0] (tgN 0) (tOf (f2 gY (fA aP (ab (f2 ixD (af 1) (af 0)) ak)) (fC .non))) (af 0) (rkE rows known [none])=some (.lst ((bx rows known).map λx=>.int x.2),true):=hc;have hfl:b7 ((bx rows known).map λx=>D.int x.2)=true:=cL λd hd=>by obtain⟨x,_,rfl⟩:=List.mem_map.mp hd;rfl
 have hdl:(bx rows known).length<=60:=Nat.le_trans (List.length_filter_le _ _) (by omega);have hmem:∀x∈bx rows known,x∈aj rows known/\aV x.1=false:=λx hx=>by
  obtain⟨h1,h2⟩:=List.mem_filter.mp hx;exact⟨h1,by simpa using h2⟩
 have hm:∀ρ:DL.Env,ρ[0]? = some (some (.tup rows,false))->hZ (t4 [0] (fA dB (ab (af 1) (ab (af 0) ak))) ρ) ((bx rows known).map λx=>.int x.2)=some ((bx rows known).map λx=>.tup [.int (av x.1),.int x.2]):=λρ h0=>
  gN (bx rows known) λx hx=>by
   obtain⟨h1,h2⟩:=hmem x hx;obtain⟨ha,gx⟩:=hrow x h1;have hd:=xi gx;unfold vz at hd;rw[h2,if_neg (by decide)]at hd;have hr:dB [.tup rows,.int x.2]=some (.tup [.int (av x.1),.int x.2],false):=a8 rfl (aK (cdD [.int (av x.1),.int x.2] (aw (d:=.int (av x.1)) (b:=false) (cdD [x.1] (by simp[ha]) hd) rfl) (by simp[sizeLine])));show(fA dB _ _).map _=_;rw[cdD [.tup rows,.int x.2] (by simp[bW,h0]) hr];rfl
 have hk:cP ((bx rows known).map λx=>D.tup [.int (av x.1),.int x.2])=some ((bx rows known).map kA):=eN _ λx _=>rfl;have hz:((bx rows known).map kA).zip ((bx rows known).map λx=>D.int x.2)=(bx rows known).map λx=>(kA x,D.int x.2):=by rw[List.zip_map']
 have hnd:((bx rows known).map (·.2)).Nodup:=List.Nodup.sublist (List.Sublist.map _ (List.filter_sublist)) (fJ rows known);have hcond:((bx rows known).map kA).length<64/\c9 ((bx rows known).map kA)=true/\bT ((bx rows known).map kA)=true/\(((bx rows known).map kA).map bp).Nodup:=by
  refine⟨by rw[List.length_map];omega,mv _,?_,?_⟩
  ·unfold bT;rw[Bool.or_eq_true];left;simp[List.all_eq_true,kA]
  ·rw[List.map_map];exact List.Pairwise.map _ (λa b h e=>h (Ap e)) (List.pairwise_map.mp hnd)
 refine a8 rfl (bP hc' hfl (aK ?_));show(lh (af 2) _ _)=_;unfold lh;show((some (D.lst ((bx rows known).map λx=>D.int x.2),false)).bind _)=_;simp only[Option.bind_some];rw[hm _ rfl];simp only[Option.bind_some];rw[hk];simp only[Option.bind_some];rw[if_pos hcond];unfold gE;rw[hz];have key:((Gb rows known).map λx=>(kA x,D.int x.2))=cR (λp:List At×D=>bp p.1) ((bx rows known).map λx=>(kA x,D.int x.2)):=by
  refine fu _ (λx hx y hy e=>?_) ((aH _ _).map _) ?_
  ·obtain⟨a,ha,rfl⟩:=List.mem_map.mp hx;obtain⟨b,hb,rfl⟩:=List.mem_map.mp hy;rw[BV (hmem a ha).1 (hmem b hb).1 (Ap e)]
  ·exact List.pairwise_map.mpr (cH _ _)
 rw[←key,List.map_map];rfl
structure Cl where
 o:Str
 p:Str
 s:Int
 u:Option Int
 n:Nat
noncomputable def uD:Option Int->D
 |none=>.non
 |some x=>.int x
noncomputable def clD (c:Cl):D:=.tup [.str c.o,.str c.p,.int c.s,uD c.u,.int c.n]
theorem BW (u:Option Int):bo (uD u)=true:=by cases u<;>rfl
theorem f6 (c:Cl):bo (clD c)=true:=by simp[clD,BW]
theorem cE (cs:List Cl):b7 (cs.map clD)=true:=cL λd hd=>by obtain⟨c,_,rfl⟩:=List.mem_map.mp hd;exact f6 c
noncomputable def bU (c:Cl)(day:Int):Bool:=decide (c.s<=day) && (match c.u with|none=>true|some x=>decide (day<x))
theorem at3 (d e f g:D)(r:List D):atI (d::e::f::g::r) 3=some g:=by have:=ib (xs:=d::e::f::g::r) (j:=3) (by simp);simpa using this
theorem at4 (d e f g h:D)(r:List D):atI (d::e::f::g::h::r) 4=some h:=by have:=ib (xs:=d::e::f::g::h::r) (j:=4) (by simp);simpa using this
theorem cl0 (c:Cl):ixD (clD c) (.int 0)=some (.str c.o,false):=by simp[clD,at0]
theorem cl1 (c:Cl):ixD (clD c) (.int 1)=some (.str c.p,false):=by simp[clD,at1]
theorem cl2 (c:Cl):ixD (clD c) (.int 2)=some (.int c.s,false):=by simp[clD,at2]
theorem cl3 (c:Cl):ixD (clD c) (.int 3)=some (uD c.u,false):=by simp[clD,at3]
theorem cl4 (c:Cl):ixD (clD c) (.int 4)=some (.int c.n,false):=by simp[clD,at4]
theorem cx (ds:List D)(h:ds.length<=100):aI ds=some (.tup ds,false):=if_pos (bM (by omega))
theorem eQ (ds:List D)(h:ds.length<=100):bq ds=some (.lst ds,true):=if_pos (bM (by omega))
theorem BX (s day:Int)(u:Option Int):je [.int day,.tup [.int s,uD u]]=some (.bl (decide (s<=day) && (match u with|none=>true|some x=>decide (day<x))),false):=by
 refine a8 rfl (aK (j9 (b1:=false) (by simp[at0]) λ_=>?_));cases u with
 |none=>exact CW (p:=true) (q:=true) (b1:=false) (by simp[at1,uD]) (by simp)
 |some x=>exact CW (p:=false) (q:=decide (day<x)) (b1:=false) (by simp[at1,uD]) λ_=>by simp[at1,uD]
theorem oe (c:Cl)(day:Int):bG [clD c,.int day]=some (.bl (bU c day),false) :=
 a8 rfl (aK (cdD [.int day,.tup [.int c.s,uD c.u]] (acF rfl (acF (cdD [.int c.s,uD c.u] (aw (eoF (clD c) (.int 2) rfl rfl (cl2 c)) (aw (eoF (clD c) (.int 3) rfl rfl (cl3 c)) rfl)) (cx _ (by simp))) rfl)) (BX c.s day c.u)))
theorem tT (c:Cl):bY [clD c]=some (.tup [.int c.s,.int c.n],false) :=
 a8 rfl (aK (cdD [.int c.s,.int c.n] (aw (eoF (clD c) (.int 2) rfl rfl (cl2 c)) (aw (eoF (clD c) (.int 4) rfl rfl (cl4 c)) rfl)) (cx _ (by simp))))
theorem r6 (c:Cl):dH [clD c]=some (.tup [.str c.o,.int c.s,.int c.n],false) :=
 a8 rfl (aK (cdD [.str c.o,.int c.s,.int c.n] (aw (eoF (clD c) (.int 0) rfl rfl (cl0 c)) (aw (eoF (clD c) (.int 2) rfl rfl (cl2 c)) (aw (eoF (clD c) (.int 4) rfl rfl (cl4 c)) rfl))) (cx _ (by simp))))
noncomputable def kS (c:Cl):List At:=[.i c.s,.i c.n]
noncomputable def iu:Cl->List Cl->Cl
 |b,[]=>b
 |b,x::r=>if aO (kS x) (kS b)=some true then iu x r else iu b r
noncomputable def jk:Cl->List Cl->Cl
 |b,[]=>b
 |b,x::r=>if aO (kS b) (kS x)=some true then jk x r else jk b r
theorem oh:∀(r:List Cl)(b:Cl),jq (kS b,clD b) (r.map λx=>(kS x,clD x))=clD (iu b r)
 |[],b=>rfl
 |x::r,b=>by
  rw[List.map_cons,jq,iu];split
  ·exact oh r x
  ·exact oh r b
theorem oi:∀(r:List Cl)(b:Cl),ki (kS b,clD b) (r.map λx=>(kS x,clD x))=clD (jk b r)
 |[],b=>rfl
 |x::r,b=>by
  rw[List.map_cons,ki,jk];split
  ·exact oi r x
  ·exact oi r b
theorem xj (cs:List Cl):c9 (cs.map kS)=true:=by
 unfold c9;simp[List.all_eq_true,kS,Ew]
theorem oj (ρ:DL.Env)(cs:List Cl):hZ (oM bY ρ) (cs.map clD)=some (cs.map λc=>.tup [.int c.s,.int c.n]):=gN cs λc _=>by
 show(bY [clD c]).map _=_;rw[tT];rfl
theorem lR (cs:List Cl):cP (cs.map λc=>D.tup [.int c.s,.int c.n])=some (cs.map kS):=eN cs λc _=>rfl
theorem Aq {f:FE}{ρ:DL.Env}{b:Cl}{r:List Cl}{bb:Bool}(e:f ρ=some (.lst ((b::r).map clD),bb)):pF f (oM bY) ρ=some (clD (iu b r),false):=by
 unfold pF fKK;rw[e,Option.bind_some];dsimp only;rw[oj,Option.bind_some,lR,Option.bind_some,if_pos (xj _)];have:((b::r).map kS).zip ((b::r).map clD)=(kS b,clD b)::r.map λx=>(kS x,clD x):=by rw[List.zip_map'];rfl
 rw[this];show some (jq _ _,false)=_;rw[oh]
theorem Ey {f:FE}{ρ:DL.Env}{b:Cl}{r:List Cl}{bb:Bool}(e:f ρ=some (.lst ((b::r).map clD),bb)):pE f (oM bY) ρ=some (clD (jk b r),false):=by
 unfold pE fKK;rw[e,Option.bind_some];dsimp only;rw[oj,Option.bind_some,lR,Option.bind_some,if_pos (xj _)];have:((b::r).map kS).zip ((b::r).map clD)=(kS b,clD b)::r.map λx=>(kS x,clD x):=by rw[List.zip_map'];rfl
 rw[this];show some (ki _ _,false)=_;rw[oi]
noncomputable def gb (rl:Str)(b:Cl)(r:List Cl):Cl:=if rl=("last" : Str)then jk b r else iu b r
theorem Ar (rl:Str)(b:Cl)(r:List Cl):im [.lst ((b::r).map clD),.str rl]=some (.str (gb rl b r).p,false):=by
 unfold gb;by_cases h:rl=("last" : Str)
 ·rw[if_pos h];exact a8 rfl (dW (bD (a:=rl) (bb:=false) rfl (decide_eq_true h)) (aK (eoF (clD (jk b r)) (.int 1) (Ey (bb:=false) rfl) rfl (cl1 _))))
 ·rw[if_neg h];exact a8 rfl (ce (bD (a:=rl) (bb:=false) rfl (decide_eq_false h)) (aK (eoF (clD (iu b r)) (.int 1) (Aq (bb:=false) rfl) rfl (cl1 _))))
theorem kG:∀(r:List Cl)(b:Cl),iu b r∈b::r
 |[],b=>by simp[iu]
 |x::r,b=>by
  rw[iu];split
  ·exact mZ _ (kG r x)
  ·rcases List.mem_cons.mp (kG r b)with h|h
   ·rw[h];exact mX
   ·exact mZ _ (mZ _ h)
theorem kH:∀(r:List Cl)(b:Cl),jk b r∈b::r
 |[],b=>by simp[jk]
 |x::r,b=>by
  rw[jk];split
  ·exact mZ _ (kH r x)
  ·rcases List.mem_cons.mp (kH r b)with h|h
   ·rw[h];exact mX
   ·exact mZ _ (mZ _ h)
theorem pY (rl:Str)(b:Cl)(r:List Cl):gb rl b r∈b::r:=by
 unfold gb;split
 ·exact kH r b
 ·exact kG r b
noncomputable def alL (cs:List Cl)(o:Str)(day:Int):List Cl:=cs.filter λc=>decide (c.o=o) && bU c day
noncomputable def gO (cs:List Cl):List Str:=iN (ge (cs.map (·.p)))
noncomputable def Gc:List Cl->Nat
 |[]=>0
 |b::r=>(iu b r).n
noncomputable def iT (rl:Str):List Cl->D
 |[]=>.tup [.str "none"]
 |b::r=>if 1<(gO (b::r)).length/\rl=("open" : Str)then .tup [.str "parted",.lst ((gO (b::r)).map .str)]
  else .tup [.str "one",.str (gb rl b r).p,.int (Gc ((b::r).filter λc=>decide (c.p=(gb rl b r).p)))]
noncomputable def tU (cs:List Cl)(o rl:Str)(day:Int):D:=iT rl (alL cs o day)
theorem BY {z:Str}{zs:List Str}:ge (z::zs)≠[]:=by
 have:∀(ss:List Str)(ts:List Str),z∈ts->z∈ss.foldl gA ts:=λss=>by
  induction ss with
  |nil=>intro ts h;exact h
  |cons a l ih=>intro ts h;exact ih _ (iM.mpr (.inl h))
 have h:=this zs (gA [] z) (iM.mpr (.inr rfl));intro e;unfold ge at e;rw[List.foldl_cons]at e;rw[e]at h;cases h
theorem lS {h:Int}{o rl:Str}{m f:Int}:ar [row h ("root" : Str) [.str o,.int m,.int f,.str rl],.str "office"]=some (.str o,false):=b9 (i:=0) (bc (by decide +kernel)) rfl
theorem yu {h:Int}{o rl:Str}{m f:Int}:ar [row h ("root" : Str) [.str o,.int m,.int f,.str rl],.str "rule"]=some (.str rl,false):=b9 (i:=3) (bc (by decide +kernel)) rfl
theorem tV (zs:List Str):fE (zs.map .str)=some zs:=by
 induction zs with
 |nil=>rfl
 |cons z zs ih=>simp[ih]
theorem r9 (cs:List Cl)(hl:cs.length<=60){h:Int}{o rl:Str}{m f:Int}(day:Int):dI [.lst (cs.map clD),row h ("root" : Str) [.str o,.int m,.int f,.str rl],.int day]=some (tU cs o rl day,false):=by
 let rt:D:=row h ("root" : Str) [.str o,.int m,.int f,.str rl];have h1:=iC (fi:=bV (af 0)) (nT:=1) (cap:=[2,1]) (tg:=tgN 0) (c:=aY (tOf (f2 dEq (ixV 0 0) (fA ar (ab (af 2) (ab (fC (.str "office")) ak))))) (tOf (fA bG (ab (af 0) (ab (af 1) ak))))) (fe:=af 0)
  (ρ:=[some (.lst (cs.map clD),false),some (rt,false),some (.int day,false),none,none,none,none]) cs clD (λc=>decide (c.o=o) && bU c day) clD (by simp) (by omega) λc hc=>by
   refine⟨_,rfl,bj (tkF (eoF (.str c.o) (.str o) (eoF (clD c) (.int 0) (by simp[bW]) rfl (cl0 c)) (cdD [rt,.str "office"] (by simp[bW]) lS) (by simp))) λ_=>tkF (cdD [clD c,.int day] (by simp[bW]) (oe c day)),λ_=>⟨false,by simp[bW]⟩⟩
 have h1':bS (bV (af 0)) 1 [2,1] (tgN 0) (aY (tOf (f2 dEq (ixV 0 0) (fA ar (ab (af 2) (ab (fC (.str "office")) ak))))) (tOf (fA bG (ab (af 0) (ab (af 1) ak))))) (af 0) [some (.lst (cs.map clD),false),some (rt,false),some (.int day,false),none,none,none,none]=some (.lst ((alL cs o day).map clD),true):=h1;have hal:(alL cs o day).length<=60:=Nat.le_trans (List.length_filter_le _ _) hl;unfold tU;generalize alL cs o day=al at h1' hal;have h2:∀ρ:DL.Env,ρ[3]? = some (some (.lst (al.map clD),true))->f1 ft (bS (bV (af 3)) 1 [] (tgN 0) g8 (ixV 0 1)) ρ=some (.lst ((gO al).map .str),true):=λρ h3=>by
  have hc:=ky (fi:=bV (af 3)) (nT:=1) (cap:=[]) (tg:=tgN 0) (fe:=ixV 0 1) (ρ:=ρ) al clD (λc=>.str c.p) (by simp[h3]) (by omega) λc hc=>⟨_,rfl,false,eoF (clD c) (.int 1) (by simp[bW]) rfl (cl1 c)⟩;have e2:al.map (λc=>D.str c.p)=(al.map (·.p)).map .str:=by rw[List.map_map];rfl
  rw[e2]at hc;unfold f1;rw[hc,Option.bind_some];show(fE ((al.map (·.p)).map .str)).bind _=_;rw[tV,Option.bind_some,if_pos (by rw[List.length_map];omega)];rfl
 have hpl:b7 ((gO al).map D.str)=true:=gn _;refine a8 rfl (bP (ds:=al.map clD) h1' (cE al) (bP (ds:=(gO al).map .str) (h2 _ rfl) hpl ?_));cases al with
 |nil=>exact dW (tkF (by simp[gO,ge,iN])) (aK (cdD [.str "none"] rfl (cx _ (by simp))))
 |cons b r=>
  have hne:(gO (b::r)).length≠0:=by
   unfold gO;rw[(bX _).length_eq];intro e;exact BY (List.length_eq_zero_iff.mp e)
  refine ce (tkF (by simp[hne])) ?_;have hrule:∀ρ:DL.Env,ρ[1]? = some (some (rt,false))->fA ar (ab (af 1) (ab (fC (.str "rule")) ak)) ρ=some (.str rl,false):=λρ q1=>cdD [rt,.str "rule"] (by simp[q1]) yu;by_cases hp:1<(gO (b::r)).length/\rl=("open" : Str)
  ·have:iT rl (b::r)=.tup [.str "parted",.lst ((gO (b::r)).map .str)]:=by rw[iT,if_pos hp]
   rw[this];exact dW (bj (p:=true) (q:=true) (tkF (by simp;omega)) λ_=>bD (bb:=false) (hrule _ rfl) (decide_eq_true hp.2)) (aK (cdD [.str "parted",.lst ((gO (b::r)).map .str)] (by simp) (cx _ (by simp))))
  ·have:iT rl (b::r)=.tup [.str "one",.str (gb rl b r).p,.int (Gc ((b::r).filter λc=>decide (c.p=(gb rl b r).p)))]:=by rw[iT,if_neg hp]
   rw[this];have hcond:aY (tOf (f2 iGt (fA dN (ab (af 4) ak)) (fC (.int 1)))) (tOf (f2 dEq (fA ar (ab (af 1) (ab (fC (.str "rule")) ak))) (fC (.str "open")))) [some (.lst (cs.map clD),false),some (rt,false),some (.int day,false),some (.lst ((b::r).map clD),true),some (.lst ((gO (b::r)).map .str),true),none,none]=some false:=by
    by_cases h5:1<(gO (b::r)).length
    ·exact bj (p:=true) (q:=false) (tkF (by simp;omega)) λ_=>bD (bb:=false) (hrule _ rfl) (decide_eq_false λe=>hp ⟨h5,e⟩)
    ·exact bj (p:=false) (q:=false) (tkF (by simp;omega)) (by simp)
   have hmem:=pY rl b r;let ch:=gb rl b r;have h6:=iC (fi:=bV (af 3)) (nT:=1) (cap:=[5]) (tg:=tgN 0) (c:=tOf (f2 dEq (ixV 0 1) (af 1))) (fe:=af 0) (ρ:=[some (.lst (cs.map clD),false),some (rt,false),some (.int day,false),some (.lst ((b::r).map clD),true),some (.lst ((gO (b::r)).map .str),true),some (.str ch.p,false),none]) (b::r) clD (λc=>decide (c.p=ch.p)) clD (by simp) (by omega) λc hc=>⟨_,rfl,tkF (eoF (.str c.p) (.str ch.p) (eoF (clD c) (.int 1) (by simp[bW]) rfl (cl1 c)) (by simp[bW]) (by simp)),λ_=>⟨false,by simp[bW]⟩⟩;obtain⟨b2,r2,hf⟩:∃b2 r2,(b::r).filter (λc=>decide (c.p=ch.p))=b2::r2:=by
    cases hq:(b::r).filter (λc=>decide (c.p=ch.p)) with
    |nil=>
     have:=List.filter_eq_nil_iff.mp hq _ hmem;simp[ch]at this
    |cons b2 r2=>exact⟨b2,r2,rfl⟩
   rw[hf]at h6 ⊢;refine ce hcond (rfF (.str ch.p) (cdD [.lst ((b::r).map clD),.str rl] (acF (by simp) (aw (hrule _ rfl) rfl)) (Ar rl b r)) rfl (rfF (clD (iu b2 r2)) (Aq (bb:=true) h6) (f6 _) (aK (cdD [.str "one",.str ch.p,.int (iu b2 r2).n] (acF rfl (acF rfl (aw (eoF (clD (iu b2 r2)) (.int 4) rfl rfl (cl4 _)) rfl))) (cx _ (by simp))))))
noncomputable def pZ:D->D
 |.tup ds=>.tup (kX ds none (some 2))
 |d=>d
noncomputable def gP (cs:List Cl)(o rl p:Str)(day:Int):Bool:=eqD (pZ (tU cs o rl day)) (.tup [.str "one",.str p])
theorem vA (n:Nat)(zs:List Str):(zs.map D.str).all (am n)=true:=by
 induction zs with
 |nil=>rfl
 |cons a l ih=>simp
theorem yv (rl:Str)(al:List Cl):∃ds,iT rl al=.tup ds/\ds.all (am 5)=true:=by
 cases al with
 |nil=>exact⟨_,rfl,by simp⟩
 |cons b r=>
  rw[iT];split
  ·exact⟨_,rfl,by simp only[List.all_cons,List.all_nil,am,Bool.and_true,Bool.true_and];exact vA _ _⟩
  ·exact⟨_,rfl,by simp⟩
theorem As {ds:List D}{lo hi:Option Int}(h:ds.all (am 5)=true):(kX ds lo hi).all (am 5)=true:=by
 rw[List.all_eq_true]at h ⊢;exact λd hd=>h d (List.mem_of_mem_drop (List.mem_of_mem_take hd))
theorem qc {ds:List D}(h:ds.all (am 5)=true):am 40 (.tup ds)=true:=iq 6 40 _ (by decide) (by simpa only[am]using h)
theorem BZ (cs:List Cl)(hl:cs.length<=60){h:Int}{o rl:Str}{m f:Int}(p:Str)(day:Int):dY [.lst (cs.map clD),row h ("root" : Str) [.str o,.int m,.int f,.str rl],.str p,.int day]=some (.bl (gP cs o rl p day),false):=by
 have hb:=r9 cs hl (h:=h) (o:=o) (rl:=rl) (m:=m) (f:=f) day;obtain⟨ds,e,hd⟩:=yv rl (alL cs o day);have e':tU cs o rl day=.tup ds:=e;refine a8 rfl (aK (eoF (pZ (tU cs o rl day)) (.tup [.str "one",.str p]) ?_ (by simp[sizeLine]) ?_))
 ·have hc:=kx (F:=dI) (fa:=ab (af 0) (ab (af 1) (ab (af 3) ak))) (ρ:=[some (.lst (cs.map clD),false),some (row h ("root" : Str) [.str o,.int m,.int f,.str rl],false),some (.str p,false),some (.int day,false)]) (ds:=[.lst (cs.map clD),row h ("root" : Str) [.str o,.int m,.int f,.str rl],.int day]) rfl hb;rw[e']at hc ⊢;show fSl (fA dI (ab (af 0) (ab (af 1) (ab (af 3) ak)))) jn (fU (fC (.int 2))) _=_;unfold fSl;rw[show(List.map (λd=>some (d,false)) [D.lst (cs.map clD),row h ("root" : Str) [.str o,.int m,.int f,.str rl],.str p,.int day]++List.replicate 0 none:DL.Env)=[some (.lst (cs.map clD),false),some (row h ("root" : Str) [.str o,.int m,.int f,.str rl],false),some (.str p,false),some (.int day,false)]from rfl,hc];rfl
 ·unfold gP dEq;rw[if_pos];rw[e'];exact⟨qc (As hd),qc (by simp)⟩
noncomputable def ai (j:Nat):D->Str
 |.tup [_,.tup (_::aC)]=>match aC[j]? with
  |some (.str s)=>s
  |_=>("" : Str)
 |_=>("" : Str)
noncomputable def eE (j:Nat):D->Int
 |.tup [_,.tup (_::aC)]=>match aC[j]? with
  |some (.int s)=>s
  |_=>0
 |_=>0
theorem Cd.root_of {r:List D}(h:Cd ("root" : Str) r):∃o rl,∃m f:Int,r=[.str o,.int m,.int f,.str rl]:=by
 generalize hk:("root" : Str)=k at h;cases h with
 |root o rl m f=>exact⟨o,rl,m,f,rfl⟩
 |named=>exact absurd hk (by decide +kernel)
 |chosen=>exact absurd hk (by decide +kernel)
 |heir=>exact absurd hk (by decide +kernel)
 |three _ hh=>rcases hh with rfl|rfl|rfl<;>exact absurd hk (by decide +kernel)
 |other _ hh=>rcases hh with rfl|rfl|rfl|rfl|rfl<;>exact absurd hk (by decide +kernel)
theorem qd {κ α:Type}[DecidableEq κ]{ks:List κ}{k:κ}{x y:α}:∀ {xs:List α},y∈cw ks xs k x->y=x∨y∈xs:=by
 intro xs h;unfold cw at h;split at h
 ·rename_i hk0;clear hk0;induction ks generalizing xs with
  |nil=>simp at h
  |cons a ks ih=>
   cases xs with
   |nil=>simp at h
   |cons b xs=>
    rw[List.zipWith_cons_cons,List.mem_cons]at h;rcases h with h|h
    ·split at h
     ·exact .inl h
     ·exact .inr (by rw[h];exact mX)
    ·rcases ih h with h|h
     ·exact .inl h
     ·exact .inr (mZ _ h)
 ·rcases List.mem_append.mp h with h|h
  ·exact .inr h
  ·exact .inl (List.mem_singleton.mp h)
theorem qe:∀(l:List (Key×D))(a:List Key×List D)(y:D),y∈(l.foldl kj a).2->y∈a.2∨∃p∈l,p.2=y
 |[],a,y,h=>.inl h
 |p::l,a,y,h=>by
  rw[List.foldl_cons]at h;rcases qe l _ y h with h|⟨q,hq,e⟩
  ·rcases qd (show y∈cw a.1 a.2 p.1 p.2 from h)with h|h
   ·exact .inr ⟨p,mX,h.symm⟩
   ·exact .inl h
  ·exact .inr ⟨q,mZ _ hq,e⟩
theorem qg {α:Type}(f:α->Str)(g:α->D):∀(l:List α),gu (l.map λx=>D.tup [.str (f x),g x])=some (l.map λx=>(.inr (f x),g x))
 |[]=>rfl
 |x::l=>by
  rw[List.map_cons,gu,qg f g l];rfl
theorem iU {κ:Type}[DecidableEq κ]:∀ {ks:List κ}{vs:List D}{k:κ}{v:D},bv ks vs k=some v->v∈vs
 |k'::ks,d::ds,k,v,h=>by
  unfold bv at h;split at h
  ·cases h;exact mX
  ·exact mZ _ (iU h)
 |[],_,_,_,h=>by simp[bv]at h
 |_::_,[],_,_,h=>by simp[bv]at h
noncomputable def cV (KL:List (D×Nat)):List (Key×D):=(KL.filter λx=>aV x.1).map λx=>(.inr (ai 0 x.1),x.1)
noncomputable def df (KL:List (D×Nat))(o:Str):Option D:=bv (bw (cV KL)).1 (bw (cV KL)).2 (.inr o)
theorem jC {r:D}(g:eB r)(h:aV r=true):∃a o rl,∃m f:Int,r=row a ("root" : Str) [.str o,.int m,.int f,.str rl]:=by
 obtain⟨a,k,aC,rfl,d⟩:=g;have hk:k=("root" : Str):=of_decide_eq_true h;subst hk;obtain⟨o,rl,m,f,rfl⟩:=d.root_of;exact⟨a,o,rl,m,f,rfl⟩
theorem bf {rows:List D}(g:cU rows){known:Int}{x:D×Nat}(hx:x∈aj rows known):atI rows (x.2:Int)=some x.1/\eB x.1:=⟨ir (dD hx),g.2 _ (List.mem_of_getElem? (dD hx))⟩
theorem tW {rows:List D}(g:cU rows){known:Int}{o:Str}{v:D}(h:df (aj rows known) o=some v):∃a o2 rl,∃m f:Int,v=row a ("root" : Str) [.str o2,.int m,.int f,.str rl]:=by
 have hv:=iU h;rcases qe _ ([],[]) v hv with h|⟨p,hp,e⟩
 ·cases h
 ·obtain⟨x,hx,rfl⟩:=List.mem_map.mp hp;obtain⟨h1,h2⟩:=List.mem_filter.mp hx;rw[←e];exact jC (bf g h1).2 h2
theorem Au {rows:List D}(g:cU rows)(known:Int):k6 [.tup rows,.int known]=some (.dk (bw (cV (aj rows known))).1 (bw (cV (aj rows known))).2,false):=by
 have hl:=eO rows known;have hl2:=g.1;have h1:=ky (fi:=bV (fA cK (ab (af 0) (ab (af 1) ak)))) (nT:=1) (cap:=[0]) (tg:=tgN 0) (fe:=f2 ixD (af 1) (af 0)) (ρ:=(rkE rows known [none])) (aj rows known) (λx=>.int x.2) Prod.fst
  (by
   show(fA cK (ab (af 0) (ab (af 1) ak)) _).bind _=_;rw[cdD [.tup rows,.int known] rfl (nY rows g.rp g.le known)];rfl) (by omega) λx hx=>by
   have ha:=(bf g hx).1;exact⟨_,rfl,false,by simp[bW,ha]⟩
 have hn:b7 ((aj rows known).map Prod.fst)=true:=cL λd hd=>by
  obtain⟨x,hx,rfl⟩:=List.mem_map.mp hd;exact(bf g hx).2.rp.flat
 have h2:=iC (fi:=bV (af 2)) (nT:=1) (cap:=[]) (tg:=tgN 0) (c:=tOf (f2 dEq (fA aG (ab (af 0) ak)) (fC (.str "root")))) (fe:=fA aI (ab (fA ar (ab (af 0) (ab (fC (.str "office")) ak))) (ab (af 0) ak)))
  (ρ:=(rkE rows known [some (.lst ((aj rows known).map Prod.fst),true)])) (aj rows known) Prod.fst (λx=>aV x.1) (λx=>.tup [.str (ai 0 x.1),x.1]) (by simp) (by omega) λx hx=>by
   have gr:=(bf g hx).2;refine⟨_,rfl,bD (a:=kindOf x.1) (bb:=false) (cdD [x.1] rfl (v0 gr)) rfl,λhp=>⟨false,?_⟩⟩;obtain⟨a,o,rl,m,f,e⟩:=jC gr hp;refine cdD [.str (ai 0 x.1),x.1] (acF (cdD [x.1,.str "office"] rfl ?_) rfl) (cx _ (by simp));rw[e];exact lS
 refine a8 rfl (bP (ds:=(aj rows known).map Prod.fst) h1 hn (aK (cdD [.lst (((aj rows known).filter λx:D×Nat=>aV x.1).map λx:D×Nat=>D.tup [.str (ai 0 x.1),x.1])] (aw h2 rfl) ?_)));rw[ia,qg (λx:D×Nat=>ai 0 x.1) Prod.fst];rfl
noncomputable def kI:D×Nat->List (D×Nat)->D×Nat
 |b,[]=>b
 |b,x::r=>if aO (kA x) (kA b)=some true then kI x r else kI b r
theorem rA:∀(r:List (D×Nat))(b:D×Nat),jq (kA b,.int b.2) (r.map λx=>(kA x,D.int x.2))=.int (kI b r).2
 |[],b=>rfl
 |x::r,b=>by
  rw[List.map_cons,jq,kI];split
  ·exact rA r x
  ·exact rA r b
noncomputable def eC (KL:List (D×Nat))(p:Str)(day:Int)(i:Nat):Bool:=match KL.filter (λx=>told bN p day x.1) with
 |[]=>false
 |b::r=>decide ((kI b r).2=i)
theorem Av {rows:List D}(g:cU rows)(known:Int){x:D×Nat}(hx:x∈aj rows known){a d:Int}{p:Str}(e:x.1=row a ("death" : Str) [.int d,.str p]):d5 [.tup rows,.int known,.int x.2]=some (.bl (eC (aj rows known) p d x.2),false):=by
 have ha:=(bf g hx).1;have gx:=(bf g hx).2;have ht:=rq rows g.rp g.le known bN d6 p d;have hpart:ar [x.1,.str "person"]=some (.str p,false):=by rw[e];exact b9 (i:=1) (bc (by decide +kernel)) rfl
 have hday:aP [x.1]=some (.int d,false):=by rw[e];exact gM (.inl (by decide +kernel)) rfl
 have hmem:x∈mf rows known bN p d:=List.mem_filter.mpr ⟨hx,by rw[e];simp[told,row,bN,nV]⟩;have hfv:eC (aj rows known) p d x.2=match mf rows known bN p d with|[]=>false|b::r=>decide ((kI b r).2=x.2):=rfl
 have key:∀y∈mf rows known bN p d,∃h k dd,rows[y.2]? = some (row h k [.int dd,.str p])/\y.1=row h k [.int dd,.str p]/\bZ k=true:=λy hy=>by
  obtain⟨hg,htl⟩:=xf hy;obtain⟨h,k,dd,e2,h3,_⟩:=nZ d6 (g.rp _ (List.mem_of_getElem? hg)) htl;exact⟨h,k,dd,by rw[hg,e2],e2,h3⟩
 rw[hfv];cases hs:mf rows known bN p d with
 |nil=>rw[hs]at hmem;cases hmem
 |cons b r=>
  rw[hs]at ht key;have hm:∀ρ:DL.Env,ρ[0]? = some (some (.tup rows,false))->hZ (t4 [0] (fA dB (ab (af 1) (ab (af 0) ak))) ρ) ((b::r).map λy=>.int y.2)=some ((b::r).map λy=>.tup [.int (av y.1),.int y.2]):=λρ h0=>
   gN (b::r) λy hy=>by
    obtain⟨h,k,dd,hg,e2,h3⟩:=key y hy;show(fA dB _ _).map _=_;rw[cdD [.tup rows,.int y.2] (by simp[bW,h0]) (xg hg h3),e2];rfl
  have hk:cP ((b::r).map λy=>D.tup [.int (av y.1),.int y.2])=some ((b::r).map kA):=eN _ λy _=>rfl;have hz:((b::r).map kA).zip ((b::r).map λy=>D.int y.2)=(kA b,D.int b.2)::r.map λy=>(kA y,D.int y.2):=by rw[List.zip_map'];rfl
  have hfl:b7 ((b::r).map λy=>D.int y.2)=true:=cL λd hd=>by obtain⟨y,_,rfl⟩:=List.mem_map.mp hd;rfl
  refine a8 rfl (rfF x.1 (by simp[ha]) gx.rp.flat (bP (ds:=(b::r).map λy=>.int y.2) (cdD [.tup rows,.int known,.tup (bN.map .str),.str p,.int d] (acF rfl (acF rfl (acF (cdD [.str "death"] rfl (cx _ (by simp))) (aw (cdD [x.1,.str "person"] rfl hpart) (aw (cdD [x.1] rfl hday) rfl))))) ht) hfl (aK (eoF (.int (kI b r).2) (.int x.2) ?_ rfl ?_))))
  ·unfold pF fKK;show((some (D.lst ((b::r).map λy=>D.int y.2),false)).bind _)=_;rw[Option.bind_some];dsimp only;rw[hm _ rfl,Option.bind_some,hk,Option.bind_some,if_pos (mv _),hz];show some (jq _ _,false)=_;rw[rA]
  ·rw[wS];congr 3;apply decide_eq_decide.mpr;omega
noncomputable abbrev KL:=List (D×Nat)
noncomputable def dh (K:KL)(p:Str)(day:Int):Bool:=(K.filter λx=>told bN p day x.1).isEmpty
noncomputable def om (K:KL)(p:Str)(day:Int):Bool:=match Am (K.filter λx=>told fF p day x.1) with
 |none=>true
 |some x=>decide (kindOf x.1=("found" : Str))
noncomputable def oq (K:KL)(r:D):Bool:=dC (kindOf r) && (dh K (tR r) (av r) && om K (tR r) (av r))
noncomputable def oN (r:D):Str:=if kindOf r=("named" : Str)then ai 1 r else ai 2 r
noncomputable def mh:List Str:=[("named" : Str),("chosen" : Str),("heir" : Str)]
noncomputable def ba (K:KL)(so:List Cl)(x:D×Nat):Bool :=
 if kindOf x.1=("death" : Str)then eC K (ai 1 x.1) (av x.1) x.2
 else if kindOf x.1∈mh then match df K (oN x.1) with
  |none=>false
  |some v=>if kindOf x.1=("named" : Str)then true else oq K x.1 && gP so (ai 0 v) (ai 3 v) (ai 1 x.1) (av x.1)
 else false
theorem Ca (rows:List D)(known:Int)(p:Str)(day:Int):ly rows known p day=dh (aj rows known) p day:=rfl
theorem Cb {rows:List D}{known:Int}{r:D}(h:aZ r<=known):r0 rows known r=oq (aj rows known) r:=by
 unfold r0 oq;rw[decide_eq_true h,Bool.true_and];rfl
theorem yw {rows:List D}(g:cU rows)(known:Int)(so:List Cl)(hso:so.length<=60){x:D×Nat}(hx:x∈aj rows known)(hnr:aV x.1=false):iP [.tup rows,.int known,.lst (so.map clD),.int x.2]=some (.bl (ba (aj rows known) so x),false):=by
 obtain⟨ha,gx⟩:=bf g hx;have hh:aZ x.1<=known:=of_decide_eq_true (List.mem_filter.mp hx).2;have hf:bo x.1=true:=gx.rp.flat;have hw:∀ρ:DL.Env,ρ[4]? = some (some (x.1,false))->fA aG (ab (af 4) ak) ρ=some (.str (kindOf x.1),false):=λρ h4=>cdD [x.1] (by simp[h4]) (v0 gx);have hni:∀ρ:DL.Env,ρ[4]? = some (some (x.1,false))->tOf (f2 eI (fA aG (ab (af 4) ak)) (fA aI (ab (fC (.str "named")) (ab (fC (.str "chosen")) (ab (fC (.str "heir")) ak))))) ρ=some (!decide (kindOf x.1∈mh)):=λρ h4=>
  tkF (eoF (.str (kindOf x.1)) (.tup (mh.map .str)) (hw ρ h4) (by simp[sizeLine,mh]) (lQ _ _))
 by_cases hd:kindOf x.1=("death" : Str)
 ·obtain⟨a,k,aC,e,d⟩:=gx;have hk:k=("death" : Str):=by rw[e]at hd;exact hd
  subst hk;obtain⟨dd,p,rfl⟩:=d.deed.three (by decide +kernel);have hc:ba (aj rows known) so x=eC (aj rows known) p dd x.2:=by
   unfold ba;rw[if_pos hd,e];rfl
  rw[hc];exact a8 rfl (rfF x.1 (by simp[ha]) hf (dW (bD (bb:=false) (hw _ rfl) (decide_eq_true hd)) (aK (cdD [.tup rows,.int known,.int x.2] rfl (Av g known hx e)))))
 ·by_cases h3:kindOf x.1∈mh
  ·have hoff:ar [x.1,.str "office"]=some (.str (oN x.1),false):=by
    obtain⟨a,k,aC,e,d⟩:=gx;rw[e]at h3 hd hnr ⊢;replace h3:k∈mh:=h3;clear hd hnr;cases d with
    |root=>exact absurd h3 (by decide +kernel)
    |named d o p=>exact b9 (i:=1) (bc (by decide +kernel)) rfl
    |chosen d b o p s=>exact b9 (i:=2) (bc (by decide +kernel)) rfl
    |heir d b o p=>exact b9 (i:=2) (bc (by decide +kernel)) rfl
    |three _ hk=>rcases hk with rfl|rfl|rfl<;>exact absurd h3 (by decide +kernel)
    |other _ hk=>rcases hk with rfl|rfl|rfl|rfl|rfl<;>exact absurd h3 (by decide +kernel)
   have e5:∀ρ:DL.Env,ρ[0]? = some (some (.tup rows,false))->ρ[1]? = some (some (.int known,false))->ρ[4]? = some (some (x.1,false))->f2 zS (fA k6 (ab (af 0) (ab (af 1) ak))) (fA ar (ab (af 4) (ab (fC (.str "office")) ak))) ρ=some ((df (aj rows known) (oN x.1)).getD .non,false):=λρ q0 q1 q4=>
    eoF (.dk (bw (cV (aj rows known))).1 (bw (cV (aj rows known))).2) (.str (oN x.1)) (cdD [.tup rows,.int known] (by simp[q0,q1]) (Au g known)) (cdD [x.1,.str "office"] (by simp[q4]) hoff) rfl
   cases hr:df (aj rows known) (oN x.1) with
   |none=>
    rw[hr]at e5;have hc:ba (aj rows known) so x=false:=by unfold ba;rw[if_neg hd,if_pos h3,hr]
    rw[hc];exact a8 rfl (rfF x.1 (by simp[ha]) hf (ce (bD (bb:=false) (hw _ rfl) (decide_eq_false hd)) (ce (by rw[hni _ rfl,decide_eq_true h3];rfl) (rfF .non (e5 _ rfl rfl rfl) rfl (dW (tkF (eoF .non .non rfl rfl (by simp))) (aK rfl))))))
   |some v=>
    rw[hr]at e5;obtain⟨va,vo,vrl,vm,vf,ev⟩:=tW g hr;have hvf:bo v=true:=by rw[ev];rfl
    have hvn:dIs v .non=some (.bl false,false):=by rw[ev];simp[row]
    by_cases hn:kindOf x.1=("named" : Str)
    ·have hc:ba (aj rows known) so x=true:=by unfold ba;rw[if_neg hd,if_pos h3,hr];dsimp only;rw[if_pos hn]
     rw[hc];exact a8 rfl (rfF x.1 (by simp[ha]) hf (ce (bD (bb:=false) (hw _ rfl) (decide_eq_false hd)) (ce (by rw[hni _ rfl,decide_eq_true h3];rfl) (rfF v (e5 _ rfl rfl rfl) hvf (ce (tkF (eoF v .non rfl rfl hvn)) (dW (bD (bb:=false) (hw _ rfl) (decide_eq_true hn)) (aK rfl)))))))
    ·have hc:ba (aj rows known) so x=(oq (aj rows known) x.1 && gP so (ai 0 v) (ai 3 v) (ai 1 x.1) (av x.1)):=by unfold ba;rw[if_neg hd,if_pos h3,hr];dsimp only;rw[if_neg hn]
     have hby:ar [x.1,.str "by"]=some (.str (ai 1 x.1),false)/\aP [x.1]=some (.int (av x.1),false):=by
      refine⟨?_,by rw[xi gx];unfold vz;rw[hnr];rfl⟩;obtain⟨a,k,aC,e,d⟩:=gx;rw[e]at h3 hn ⊢;replace h3:k∈mh:=h3;cases d with
      |root=>exact absurd h3 (by decide +kernel)
      |named=>exact absurd rfl hn
      |chosen d b o p s=>exact b9 (i:=1) (bc (by decide +kernel)) rfl
      |heir d b o p=>exact b9 (i:=1) (bc (by decide +kernel)) rfl
      |three _ hk=>rcases hk with rfl|rfl|rfl<;>exact absurd h3 (by decide +kernel)
      |other _ hk=>rcases hk with rfl|rfl|rfl|rfl|rfl<;>exact absurd h3 (by decide +kernel)
     have hs:=Ao rows g.rp g.le known (dD hx);rw[Cb hh]at hs;have hheld:dY [.lst (so.map clD),v,.str (ai 1 x.1),.int (av x.1)]=some (.bl (gP so (ai 0 v) (ai 3 v) (ai 1 x.1) (av x.1)),false):=by
      rw[ev];exact BZ so hso _ _
     rw[hc];refine a8 rfl (rfF x.1 (by simp[ha]) hf (ce (bD (bb:=false) (hw _ rfl) (decide_eq_false hd)) (ce (by rw[hni _ rfl,decide_eq_true h3];rfl) (rfF v (e5 _ rfl rfl rfl) hvf (ce (tkF (eoF v .non rfl rfl hvn)) (ce (bD (bb:=false) (hw _ rfl) (decide_eq_false hn)) (aK ?_)))))));exact j9 (b1:=false) (cdD [.tup rows,.int known,.int x.2] rfl hs) λ_=>cdD [.lst (so.map clD),v,.str (ai 1 x.1),.int (av x.1)] (acF rfl (acF rfl (aw (cdD [x.1,.str "by"] rfl hby.1) (aw (cdD [x.1] rfl hby.2) rfl)))) hheld
  ·have hc:ba (aj rows known) so x=false:=by unfold ba;rw[if_neg hd,if_neg h3]
   rw[hc];exact a8 rfl (rfF x.1 (by simp[ha]) hf (ce (bD (bb:=false) (hw _ rfl) (decide_eq_false hd)) (dW (by rw[hni _ rfl,decide_eq_false h3];rfl) (aK rfl))))
noncomputable def cr (offs:List Str)(p:Str)(day:Int)(c:Cl):List Cl :=
 if(!decide (c.o∈offs) || (!decide (c.p=p) || !(bU c day || decide (day<c.s))))=true then [c]else if c.s<day then [⟨c.o,p,c.s,some day,c.n⟩]else []
noncomputable def aR (so:List Cl)(offs:List Str)(p:Str)(day:Int):List Cl:=so.flatMap (cr offs p day)
theorem cM (offs:List Str)(p:Str)(day:Int):∀so:List Cl,(aR so offs p day).length<=so.length
 |[]=>Nat.le_refl _
 |c::so=>by
  unfold aR;rw[List.flatMap_cons,List.length_append,List.length_cons];have h1:=cM offs p day so;have h2:(cr offs p day c).length<=1:=by
   unfold cr;split
   ·simp
   ·split<;>simp
  unfold aR at h1;omega
theorem ot (k:Str)(ws:List Str):eI (.str k) (.lst (ws.map .str))=some (.bl (!decide (k∈ws)),false):=by
 simp only[eI,gg,Option.bind_some,nW];rw[if_pos ⟨rfl,lw ws⟩]
theorem tX (so:List Cl)(hso:so.length<=60)(offs:List Str)(p:Str)(day:Int):jf [.lst (so.map clD),.lst (offs.map .str),.str p,.int day]=some (.lst ((aR so offs p day).map clD),true):=by
 obtain⟨ρ',e,v5,rfl⟩:=cQ (tg:=tgN 5) (g:=nJ) (λj ρ=>∃v5:Option (D×Bool),ρ=[some (.lst (so.map clD),false),some (.lst (offs.map .str),false),some (.str p,false),some (.int day,false),some (.lst ((aR (so.take j) offs p day).map clD),true),v5]) (so.map clD)
  [some (.lst (so.map clD),false),some (.lst (offs.map .str),false),some (.str p,false),some (.int day,false),some (.lst [],true),none] ⟨none,rfl⟩ (by
   rintro j d ρ hd ⟨v5,rfl⟩;rw[List.getElem?_map]at hd;obtain⟨c,hc,rfl⟩:=oY hd;have hj:j<so.length:=(List.getElem?_eq_some_iff.mp hc).1;have et:aR (so.take (j+1)) offs p day=aR (so.take j) offs p day++cr offs p day c:=by
    unfold aR;rw[List.take_add_one,hc,Option.toList_some,List.flatMap_append,List.flatMap_cons,List.flatMap_nil,List.append_nil]
   have hlen:(aR (so.take j) offs p day).length<=60:=Nat.le_trans (cM offs p day _) (by rw[List.length_take];omega);let ρ1:DL.Env:=[some (.lst (so.map clD),false),some (.lst (offs.map .str),false),some (.str p,false),some (.int day,false),some (.lst ((aR (so.take j) offs p day).map clD),true),some (clD c,false)];have q0:ixV 5 0 ρ1=some (.str c.o,false):=eoF (clD c) (.int 0) rfl rfl (cl0 c);have q1:ixV 5 1 ρ1=some (.str c.p,false):=eoF (clD c) (.int 1) rfl rfl (cl1 c);have q2:ixV 5 2 ρ1=some (.int c.s,false):=eoF (clD c) (.int 2) rfl rfl (cl2 c);have q4:ixV 5 4 ρ1=some (.int c.n,false):=eoF (clD c) (.int 4) rfl rfl (cl4 c);have hcond:dj (tOf (f2 eI (ixV 5 0) (af 1))) (dj (tOf (f2 dNe (ixV 5 1) (af 2))) (dO (dj (tOf (fA bG (ab (af 5) (ab (af 3) ak)))) (tOf (f2 iGt (ixV 5 2) (af 3)))))) ρ1=some (!decide (c.o∈offs) || (!decide (c.p=p) || !(bU c day || decide (day<c.s)))) :=
    cB (tkF (eoF (.str c.o) (.lst (offs.map .str)) q0 rfl (ot _ _))) λ_=>cB (tkF (eoF (.str c.p) (.str p) q1 rfl (by simp))) λ_=>fG (cB (tkF (cdD [clD c,.int day] rfl (oe c day))) λ_=>tkF (eoF (.int c.s) (.int day) q2 rfl (by simp)))
   by_cases h1:(!decide (c.o∈offs) || (!decide (c.p=p) || !(bU c day || decide (day<c.s))))=true
   ·have eo:cr offs p day c=[c]:=by unfold cr;rw[if_pos h1]
    rw[h1]at hcond;refine⟨_,_,rfl,.inl (fz hcond (dX (ds:=(aR (so.take j) offs p day).map clD) (d:=clD c) (b:=false) rfl rfl (f6 c) (bg (by simp;omega)))),some (clD c,false),?_⟩;rw[et,eo,List.map_append];rfl
   ·rw[Bool.not_eq_true]at h1;rw[h1]at hcond;by_cases h2:c.s<day
    ·have eo:cr offs p day c=[⟨c.o,p,c.s,some day,c.n⟩]:=by unfold cr;rw[if_neg (by rw[h1];decide),if_pos h2]
     refine⟨_,_,rfl,.inl (ca hcond (fz (tkF (eoF (.int c.s) (.int day) q2 rfl (by simp[h2]))) (dX (ds:=(aR (so.take j) offs p day).map clD) (d:=clD ⟨c.o,p,c.s,some day,c.n⟩) (b:=false) rfl (cdD [.str c.o,.str p,.int c.s,.int day,.int c.n] (aw q0 (acF rfl (aw q2 (acF rfl (aw q4 rfl))))) (cx _ (by simp))) (f6 _) (bg (by simp;omega))))),some (clD c,false),?_⟩;rw[et,eo,List.map_append];rfl
    ·have eo:cr offs p day c=[]:=by unfold cr;rw[if_neg (by rw[h1];decide),if_neg h2]
     refine⟨_,_,rfl,.inl (ca hcond (ca (tkF (eoF (.int c.s) (.int day) q2 rfl (by simp;omega))) rfl)),some (clD c,false),?_⟩;rw[et,eo,List.append_nil];rfl)
 have e':eZ (tgN 5) nJ (so.map clD) [some (.lst (so.map clD),false),some (.lst (offs.map .str),false),some (.str p,false),some (.int day,false),some (.lst [],true),none]=some (.nx [some (.lst (so.map clD),false),some (.lst (offs.map .str),false),some (.str p,false),some (.int day,false),some (.lst ((aR so offs p day).map clD),true),v5]):=by
  rw[e];have:so.take (so.map clD).length=so:=by rw[List.length_map,List.take_length]
  rw[this]
 exact a8 rfl (bP (ds:=[]) (by simp[sizeLine]) rfl (bz (d9 (ds:=so.map clD) (by simp[mG]) e') (ko rfl)))
theorem CZ {r:D}{o p:Str}(ho:ar [r,.str "office"]=some (.str o,false))(hp:ar [r,.str "person"]=some (.str p,false))(s:Int)(n:Nat):de [r,.int s,.int n]=some (clD ⟨o,p,s,none,n⟩,false) :=
 a8 rfl (aK (cdD [.str o,.str p,.int s,.non,.int n] (aw (cdD [r,.str "office"] rfl ho) (aw (cdD [r,.str "person"] rfl hp) rfl)) (cx _ (by simp))))
theorem yx (so:List Cl)(hso:so.length<=60){a d s:Int}{b o p:Str}(n:Nat):dZ [.lst (so.map clD),row a ("chosen" : Str) [.int d,.str b,.str o,.str p,.int s],.int n]=some (.lst ((aR so [o] b s++[(⟨o,p,s,none,n⟩:Cl)]).map clD),true):=by
 let r:D:=row a ("chosen" : Str) [.int d,.str b,.str o,.str p,.int s];have ho:ar [r,.str "office"]=some (.str o,false):=b9 (i:=2) (bc (by decide +kernel)) rfl;have hp:ar [r,.str "person"]=some (.str p,false):=b9 (i:=3) (bc (by decide +kernel)) rfl;have hb:ar [r,.str "by"]=some (.str b,false):=b9 (i:=1) (bc (by decide +kernel)) rfl;have hs:ar [r,.str "since"]=some (.int s,false):=b9 (i:=4) (bc (by decide +kernel)) rfl;have hl:=cM [o] b s so;refine a8 rfl (rfF (.int s) (cdD [r,.str "since"] rfl hs) rfl (bP (ds:=(aR so [o] b s).map clD) (cdD [.lst (so.map clD),.lst ([o].map .str),.str b,.int s] (acF rfl (aw (b:=true) (cdD [.str o] (aw (cdD [r,.str "office"] rfl ho) rfl) (eQ _ (by simp))) (aw (cdD [r,.str "by"] rfl hb) rfl))) (tX so hso [o] b s)) (cE _) (aK ?_)));refine fZ (x:=.lst ((aR so [o] b s).map clD)) (y:=.lst [clD ⟨o,p,s,none,n⟩]) (b1:=false) (b2:=true) rfl (cdD [clD ⟨o,p,s,none,n⟩] (aw (cdD [r,.int s,.int n] rfl (CZ ho hp s n)) rfl) (eQ _ (by simp))) ?_;rw[List.map_append];exact if_pos (bM (by rw[List.length_map,List.length_singleton];omega))
noncomputable def lT (hk:List (List Key))(hv:List D)(o p:Str):Option Str:=match bv hk hv [.inr o,.inr p] with
 |some (.str h)=>some h
 |_=>none
noncomputable def cu (K:KL)(hk:List (List Key))(hv:List D)(p:Str)(day:Int)(n:Nat)(o:Str):List Cl:=match lT hk hv o p with
 |some h=>if dh K h day=true then [⟨o,h,day,none,n⟩]else []
 |none=>[]
noncomputable def cn (so:List Cl)(p:Str)(day:Int):List Str:=iN (ge ((so.filter λc=>decide (c.p=p) && bU c day).map (·.o)))
noncomputable def jD (K:KL)(so:List Cl)(hk:List (List Key))(hv:List D)(p:Str)(day:Int)(n:Nat):List Cl:=(cn so p day).flatMap (cu K hk hv p day n)
theorem iw (K:KL)(hk:List (List Key))(hv:List D)(p:Str)(day:Int)(n:Nat)(o:Str):(cu K hk hv p day n o).length<=1:=by
 unfold cu;split
 ·split<;>simp
 ·simp
theorem iV {α β:Type}(f:α->List β)(h:∀a,(f a).length<=1):∀l:List α,(l.flatMap f).length<=l.length
 |[]=>Nat.le_refl _
 |a::l=>by
  rw[List.flatMap_cons,List.length_append,List.length_cons];have:=h a;have:=iV f h l;omega
theorem tY (so:List Cl)(p:Str)(day:Int):(cn so p day).length<=so.length:=by
 unfold cn;rw[(bX _).length_eq];refine Nat.le_trans (mM _) ?_;rw[List.length_map];exact List.length_filter_le _ _
theorem rB {rows:List D}(g:cU rows)(known:Int)(so:List Cl)(hso:so.length<=60)(hk:List (List Key))(hv:List D)(hhv:∀v∈hv,∃s,v=.str s){x:D×Nat}(hx:x∈aj rows known){a d:Int}{p:Str}(e:x.1=row a ("death" : Str) [.int d,.str p]):
  gl [.tup rows,.int known,.lst (so.map clD),.dt hk hv,.int x.2]=some (.lst ((jD (aj rows known) so hk hv p d x.2).map clD),true):=by
 have ha:=(bf g hx).1;have hpart:ar [x.1,.str "person"]=some (.str p,false):=by rw[e];exact b9 (i:=1) (bc (by decide +kernel)) rfl
 have hday:aP [x.1]=some (.int d,false):=by rw[e];exact gM (.inl (by decide +kernel)) rfl
 have holen:=tY so p d;have hstep:∀(o:Str)(l:List Cl)(v9:Option (D×Bool)),l.length<=60->fH (rkE rows known [some (.lst (so.map clD),false),some (.dt hk hv,false),some (.int x.2,false),some (.str p,false),some (.int d,false),some (.lst (l.map clD),true),some (.str o,false),v9])=some (.nx (rkE rows known [some (.lst (so.map clD),false),some (.dt hk hv,false),some (.int x.2,false),some (.str p,false),some (.int d,false),some (.lst ((l++cu (aj rows known) hk hv p d x.2 o).map clD),true),some (.str o,false),some ((bv hk hv [.inr o,.inr p]).getD .non,false)])):=λo l v9 hl=>by
  have eg:wO (af 3) (ab (af 8) (ab (af 5) ak)) (rkE rows known [some (.lst (so.map clD),false),some (.dt hk hv,false),some (.int x.2,false),some (.str p,false),some (.int d,false),some (.lst (l.map clD),true),some (.str o,false),v9])=some ((bv hk hv [.inr o,.inr p]).getD .non,false):=by
   simp[gh,sizeLine]
  cases hlk:bv hk hv [.inr o,.inr p] with
  |none=>
   rw[hlk]at eg;have ei:cu (aj rows known) hk hv p d x.2 o=[]:=by unfold cu lT;rw[hlk]
   rw[ei,List.append_nil];exact rfF .non eg rfl (ca (bj (p:=false) (q:=false) (tkF (by simp)) (by simp)) rfl)
  |some v=>
   obtain⟨h,rfl⟩:=hhv v (iU hlk);rw[hlk]at eg;have hlv:=tQ rows g.rp g.le known h d;rw[Ca]at hlv;have hand:∀ρ:DL.Env,ρ[0]? = some (some (.tup rows,false))->ρ[1]? = some (some (.int known,false))->ρ[6]? = some (some (.int d,false))->ρ[9]? = some (some (.str h,false))->aY (tOf (f2 gY (af 9) (fC .non))) (tOf (fA ie (ab (af 0) (ab (af 1) (ab (af 9) (ab (af 6) ak)))))) ρ=some (true && dh (aj rows known) h d):=λρ q0 q1 q6 q9=>
    bj (tkF (by simp[q9])) λ_=>tkF (cdD [.tup rows,.int known,.str h,.int d] (by simp[q0,q1,q6,q9]) hlv)
   cases hl2:dh (aj rows known) h d with
   |false=>
    have ei:cu (aj rows known) hk hv p d x.2 o=[]:=by unfold cu lT;rw[hlk];dsimp only;rw[hl2];rfl
    rw[ei,List.append_nil];exact rfF (.str h) eg rfl (ca (by rw[hand _ rfl rfl rfl rfl,hl2];rfl) rfl)
   |true=>
    have ei:cu (aj rows known) hk hv p d x.2 o=[⟨o,h,d,none,x.2⟩]:=by unfold cu lT;rw[hlk];dsimp only;rw[hl2];rfl
    rw[ei,List.map_append];exact rfF (.str h) eg rfl (fz (by rw[hand _ rfl rfl rfl rfl,hl2];rfl) (dX (ds:=l.map clD) (d:=clD ⟨o,h,d,none,x.2⟩) (b:=false) rfl (cdD [.str o,.str h,.int d,.non,.int x.2] rfl (cx _ (by simp))) rfl (bg (by simp;omega))))
 obtain⟨ρ',el,v8,v9,rfl⟩:=cQ (tg:=tgN 8) (g:=fH) (λj ρ=>∃v8 v9:Option (D×Bool),ρ=(rkE rows known [some (.lst (so.map clD),false),some (.dt hk hv,false),some (.int x.2,false),some (.str p,false),some (.int d,false),some (.lst ((((cn so p d).take j).flatMap (cu (aj rows known) hk hv p d x.2)).map clD),true),v8,v9])) ((cn so p d).map .str)
  (rkE rows known [some (.lst (so.map clD),false),some (.dt hk hv,false),some (.int x.2,false),some (.str p,false),some (.int d,false),some (.lst [],true),none,none]) ⟨none,none,rfl⟩ (by
   rintro j dd ρ hd ⟨v8,v9,rfl⟩;rw[List.getElem?_map]at hd;obtain⟨o,ho,rfl⟩:=oY hd;have hl:(((cn so p d).take j).flatMap (cu (aj rows known) hk hv p d x.2)).length<=60:=Nat.le_trans (iV _ (iw _ _ _ _ _ _) _) (by rw[List.length_take];omega);refine⟨_,_,rfl,.inl (hstep o _ v9 hl),some (.str o,false),some ((bv hk hv [.inr o,.inr p]).getD .non,false),?_⟩;rw[List.take_add_one,ho,Option.toList_some,List.flatMap_append,List.flatMap_cons,List.flatMap_nil,List.append_nil])
 have e':eZ (tgN 8) fH ((cn so p d).map .str) (rkE rows known [some (.lst (so.map clD),false),some (.dt hk hv,false),some (.int x.2,false),some (.str p,false),some (.int d,false),some (.lst [],true),none,none])=some (.nx (rkE rows known [some (.lst (so.map clD),false),some (.dt hk hv,false),some (.int x.2,false),some (.str p,false),some (.int d,false),some (.lst ((jD (aj rows known) so hk hv p d x.2).map clD),true),v8,v9])):=by
  rw[el];have:(cn so p d).take ((cn so p d).map D.str).length=cn so p d:=by rw[List.length_map,List.take_length]
  rw[this];rfl
 have hset:∀ρ:DL.Env,ρ[2]? = some (some (.lst (so.map clD),false))->ρ[5]? = some (some (.str p,false))->ρ[6]? = some (some (.int d,false))->bV (f1 ft (bS (bV (af 2)) 1 [5,6] (tgN 0) (aY (tOf (f2 dEq (ixV 0 1) (af 1))) (tOf (fA bG (ab (af 0) (ab (af 2) ak))))) (ixV 0 0))) ρ=some ((cn so p d).map .str):=λρ q2 q5 q6=>by
  have hc:=iC (fi:=bV (af 2)) (nT:=1) (cap:=[5,6]) (tg:=tgN 0) (c:=aY (tOf (f2 dEq (ixV 0 1) (af 1))) (tOf (fA bG (ab (af 0) (ab (af 2) ak))))) (fe:=ixV 0 0) (ρ:=ρ) so clD (λc=>decide (c.p=p) && bU c d) (λc=>.str c.o) (by simp[q2]) (by omega) λc hc=>
   ⟨_,rfl,bj (tkF (eoF (.str c.p) (.str p) (eoF (clD c) (.int 1) (by simp[bW]) rfl (cl1 c)) (by simp[bW,q5]) (by simp))) λ_=>tkF (cdD [clD c,.int d] (by simp[bW,q6]) (oe c d)),λ_=>⟨false,eoF (clD c) (.int 0) (by simp[bW]) rfl (cl0 c)⟩⟩
  have e2:(so.filter λc=>decide (c.p=p) && bU c d).map (λc=>D.str c.o)=((so.filter λc=>decide (c.p=p) && bU c d).map (·.o)).map .str:=by rw[List.map_map];rfl
  rw[e2]at hc;show(f1 ft _ ρ).bind _=_;unfold f1;rw[hc,Option.bind_some];have hln:((so.filter λc=>decide (c.p=p) && bU c d).map (·.o)).length<64:=by rw[List.length_map];exact Nat.lt_of_le_of_lt (List.length_filter_le _ _) (by omega)
  show((fE _).bind _).bind _=_;rw[tV,Option.bind_some,if_pos hln];rfl
 refine a8 rfl (rfF (.str p) (cdD [x.1,.str "person"] (by simp[ha]) hpart) rfl (rfF (.int d) (cdD [x.1] (by simp[ha]) hday) rfl (bP (ds:=[]) (by simp[sizeLine]) rfl (bz (ρ':=(rkE rows known [some (.lst (so.map clD),false),some (.dt hk hv,false),some (.int x.2,false),some (.str p,false),some (.int d,false),some (.lst ((jD (aj rows known) so hk hv p d x.2).map clD),true),v8,v9])) ?_ (ko rfl)))));exact d9 (ρ:=(rkE rows known [some (.lst (so.map clD),false),some (.dt hk hv,false),some (.int x.2,false),some (.str p,false),some (.int d,false),some (.lst [],true),none,none])) (hset _ rfl rfl rfl) e'
theorem Aw {rows:List D}(g:cU rows)(known:Int)(so:List Cl)(hso:so.length<=60)(hk:List (List Key))(hv:List D)(hhv:∀v∈hv,∃s,v=.str s){x:D×Nat}(hx:x∈aj rows known){a d:Int}{p:Str}(e:x.1=row a ("death" : Str) [.int d,.str p]):
  eY [.tup rows,.int known,.lst (so.map clD),.dt hk hv,.int x.2]=some (.lst ((aR so (so.map Cl.o) p d++jD (aj rows known) so hk hv p d x.2).map clD),true):=by
 have ha:=(bf g hx).1;have hpart:ar [x.1,.str "person"]=some (.str p,false):=by rw[e];exact b9 (i:=1) (bc (by decide +kernel)) rfl
 have hday:aP [x.1]=some (.int d,false):=by rw[e];exact gM (.inl (by decide +kernel)) rfl
 have h1:=ky (fi:=bV (af 2)) (nT:=1) (cap:=[]) (tg:=tgN 0) (fe:=ixV 0 0) (ρ:=(rkE rows known [some (.lst (so.map clD),false),some (.dt hk hv,false),some (.int x.2,false),none,none])) so clD (λc=>.str c.o) (by simp) (by omega) λc hc=>⟨_,rfl,false,eoF (clD c) (.int 0) (by simp[bW]) rfl (cl0 c)⟩;have e2:so.map (λc=>D.str c.o)=(so.map Cl.o).map .str:=by rw[List.map_map];rfl
 rw[e2]at h1;have hl1:=cM (so.map Cl.o) p d so;have hl2:(jD (aj rows known) so hk hv p d x.2).length<=60:=Nat.le_trans (iV _ (iw _ _ _ _ _ _) _) (Nat.le_trans (tY so p d) hso);refine a8 rfl (bP (ds:=(so.map Cl.o).map .str) h1 (gn _) (bP (ds:=(aR so (so.map Cl.o) p d).map clD) (cdD [.lst (so.map clD),.lst ((so.map Cl.o).map .str),.str p,.int d] (acF rfl (acF rfl (acF (cdD [x.1,.str "person"] (by simp[ha]) hpart) (acF (cdD [x.1] (by simp[ha]) hday) rfl)))) (tX so hso _ p d)) (cE _) (aK ?_)));refine fZ (x:=.lst ((aR so (so.map Cl.o) p d).map clD)) (y:=.lst ((jD (aj rows known) so hk hv p d x.2).map clD)) (b1:=false) (b2:=true) rfl (cdD [.tup rows,.int known,.lst (so.map clD),.dt hk hv,.int x.2] rfl (rB g known so hso hk hv hhv hx e)) ?_;rw[List.map_append];exact if_pos (bM (by rw[List.length_map,List.length_map];omega))
noncomputable abbrev St3:=List Cl×List (List Key)×List D
noncomputable def br (K:KL)(st:St3)(x:D×Nat):St3 :=
 if ba K st.1 x=true then
  if kindOf x.1=("named" : Str)then (st.1++[⟨ai 1 x.1,ai 2 x.1,av x.1,none,x.2⟩],st.2)
  else if kindOf x.1=("chosen" : Str)then (aR st.1 [ai 2 x.1] (ai 1 x.1) (eE 4 x.1)++[⟨ai 2 x.1,ai 3 x.1,eE 4 x.1,none,x.2⟩],st.2)
  else if kindOf x.1=("heir" : Str)then (st.1,cA st.2.1 [.inr (ai 2 x.1),.inr (ai 1 x.1)],cw st.2.1 st.2.2 [.inr (ai 2 x.1),.inr (ai 1 x.1)] (.str (ai 3 x.1)))
  else (aR st.1 (st.1.map Cl.o) (ai 1 x.1) (av x.1)++jD K st.1 st.2.1 st.2.2 (ai 1 x.1) (av x.1) x.2,st.2)
 else st
noncomputable def cy (K:KL):KL:=cR (λx=>bp (kA x)) (K.filter λx=>!aV x.1)
noncomputable def f7 (K:KL)(l:KL):St3:=l.foldl (br K) ([],[],[])
noncomputable def kC (c:Cl):List At:=[.s c.o,.i c.s,.i c.n]
noncomputable def fK (K:KL):List Cl:=cR (λc=>bp (kC c)) (f7 K (cy K)).1
noncomputable def vB:List Key->Str
 |[_,.inr p]=>p
 |_=>("" : Str)
noncomputable def lvK (dd:List Str)(ks:List (List Key)):Nat:=(ks.filter λk=>decide (vB k∉dd)).length
structure SoOk (K l:KL)(dd:List Str)(st:St3):Prop where
 len:st.1.length+lvK dd st.2.1<=l.length
 ded:∀q∈dd,∃y∈l,eC K q (av y.1) y.2=true
 nod:(st.1.map λc=>(c.o,c.n)).Nodup
 num:∀c∈st.1,c.n∈l.map (·.2)
 hs:∀v∈st.2.2,∃s,v=D.str s
 hk:st.2.1.length<=l.length
theorem xl {ws:List Str}{p:Str}{d:Int}{r:D}(h:told ws p d r=true):av r<=d/\∀d',av r<=d'->told ws p d' r=true:=by
 unfold told at h;split at h
 ·rename_i k aC;rw[Bool.and_eq_true]at h;obtain⟨h1,h2⟩:=h;unfold nV at h2;split at h2
  ·rename_i dd q;rw[Bool.and_eq_true]at h2;refine⟨of_decide_eq_true h2.2,λd' hd=>?_⟩;unfold told;rw[Bool.and_eq_true];refine⟨h1,?_⟩;unfold nV;rw[Bool.and_eq_true];exact⟨h2.1,decide_eq_true hd⟩
  ·cases h2
 ·cases h
theorem kJ:∀(r:KL)(b:D×Nat),kI b r∈b::r/\∀y∈b::r,cF y (kI b r)=false
 |[],b=>⟨by simp[kI],λy hy=>by rw[List.mem_singleton.mp hy];simp[kI,cF]⟩
 |x::r,b=>by
  rw[kI,rz];by_cases h:cF x b=true
  ·rw[if_pos (by rw[h])];obtain⟨h1,h2⟩:=kJ r x;refine⟨mZ _ h1,λy hy=>?_⟩;rcases List.mem_cons.mp hy with rfl|hy
   ·have:=h2 x mX;unfold cF at *;simp at *;omega
   ·exact h2 y hy
  ·rw[if_neg (by simpa using h)];obtain⟨h1,h2⟩:=kJ r b;refine⟨?_,λy hy=>?_⟩
   ·rcases List.mem_cons.mp h1 with e|e
    ·rw[e];exact mX
    ·exact mZ _ (mZ _ e)
   ·rcases List.mem_cons.mp hy with rfl|hy
    ·exact h2 _ mX
    ·rcases List.mem_cons.mp hy with rfl|hy
     ·have:=h2 b mX;unfold cF at *;simp at *;omega
     ·exact h2 y (mZ _ hy)
theorem jE {K:KL}{p:Str}{d:Int}{i:Nat}(h:eC K p d i=true):∃m∈K,told bN p d m.1=true/\m.2=i/\∀y∈K,told bN p d y.1=true->cF y m=false:=by
 unfold eC at h;split at h
 ·cases h
 ·rename_i b r e;obtain⟨h1,h2⟩:=kJ r b;rw[←e]at h1 h2;obtain⟨h3,h4⟩:=List.mem_filter.mp h1;exact⟨_,h3,h4,of_decide_eq_true h,λy hy ht=>h2 y (List.mem_filter.mpr ⟨hy,ht⟩)⟩
theorem vC {K:KL}{p:Str}{d1 d2:Int}{i1 i2:Nat}(h1:eC K p d1 i1=true)(h2:eC K p d2 i2=true):i1=i2:=by
 obtain⟨m1,k1,t1,e1,q1⟩:=jE h1;obtain⟨m2,k2,t2,e2,q2⟩:=jE h2;have a1:=xl t1;have a2:=xl t2;by_cases hd:d1<=d2
 ·have z1:=q2 m1 k1 (a1.2 d2 (by omega));have hm:av m2.1<=av m1.1:=by unfold cF at z1;simp at z1;omega
  have z2:=q1 m2 k2 (a2.2 d1 (by omega));unfold cF at z1 z2;simp at z1 z2;omega
 ·have z1:=q1 m2 k2 (a2.2 d1 (by omega));have hm:av m1.1<=av m2.1:=by unfold cF at z1;simp at z1;omega
  have z2:=q2 m1 k1 (a1.2 d2 (by omega));unfold cF at z1 z2;simp at z1 z2;omega
theorem tZ {κ:Type}[DecidableEq κ]:∀ {ks:List κ}{vs:List D}{k:κ}{v:D},bv ks vs k=some v->k∈ks
 |k'::ks,d::ds,k,v,h=>by
  unfold bv at h;split at h
  ·rename_i e;rw[←e];exact mX
  ·exact mZ _ (tZ h)
 |[],_,_,_,h=>by simp[bv]at h
 |_::_,[],_,_,h=>by simp[bv]at h
theorem ou (p:Str)(dd:List Str)(hp:p∉dd):∀ks:List (List Key),lvK dd ks=lvK (p::dd) ks+(ks.filter λk=>decide (vB k=p)).length
 |[]=>rfl
 |k::ks=>by
  have ih:=ou p dd hp ks;unfold lvK at ih ⊢;by_cases e:vB k=p
  ·rw[List.filter_cons_of_pos (by simpa [e]using hp),List.filter_cons_of_neg (by simp[e]),List.filter_cons_of_pos (by simp[e]),List.length_cons,List.length_cons];omega
  ·by_cases h:vB k∈dd
   ·rw[List.filter_cons_of_neg (by simp[h]),List.filter_cons_of_neg (by simp[h]),List.filter_cons_of_neg (by simp[e])];exact ih
   ·rw[List.filter_cons_of_pos (by simp[h]),List.filter_cons_of_pos (by simp[h,e]),List.filter_cons_of_neg (by simp[e]),List.length_cons,List.length_cons];omega
theorem jh (offs:List Str)(p:Str)(day:Int):∀so:List Cl,((aR so offs p day).map λc=>(c.o,c.n)).Sublist (so.map λc=>(c.o,c.n))
 |[]=>List.Sublist.slnil
 |c::so=>by
  have ih:=jh offs p day so;unfold aR at ih ⊢;rw[List.flatMap_cons,List.map_append,List.map_cons];have:((cr offs p day c).map λc=>(c.o,c.n))=[(c.o,c.n)]∨((cr offs p day c).map λc=>(c.o,c.n))=[]:=by
   unfold cr;split
   ·exact .inl rfl
   ·split
    ·exact .inl rfl
    ·exact .inr rfl
  rcases this with h|h
  ·rw[h];exact ih.cons₂ _
  ·rw[h];exact ih.cons _
theorem ji {offs:List Str}{p:Str}{day:Int}{so:List Cl}{c:Cl}(h:c∈aR so offs p day):∃c'∈so,c'.o=c.o/\c'.n=c.n:=by
 have:=(jh offs p day so).subset (List.mem_map.mpr ⟨c,h,rfl⟩);obtain⟨c',h1,h2⟩:=List.mem_map.mp this;injection h2 with h3 h4;exact⟨c',h1,h3,h4⟩
theorem eU:∀(ss ts:List Str),ts.Nodup->(ss.foldl gA ts).Nodup
 |[],_,h=>h
 |s::ss,ts,h=>eU ss _ (uX h s)
theorem gc:∀(ss ts:List Str)(x:Str),x∈ss.foldl gA ts->x∈ts∨x∈ss
 |[],_,_,h=>.inl h
 |s::ss,ts,x,h=>by
  rcases gc ss _ x h with h|h
  ·rcases iM.mp h with h|h
   ·exact .inl h
   ·exact .inr (by rw[h];exact mX)
  ·exact .inr (mZ _ h)
theorem jF (so:List Cl)(p:Str)(day:Int):(cn so p day).Nodup:=(bX _).nodup_iff.mpr (eU _ [] List.nodup_nil)
theorem ua (K:KL)(hk:List (List Key))(hv:List D)(p:Str)(day:Int)(n:Nat):∀os:List Str,((os.flatMap (cu K hk hv p day n)).map λc=>(c.o,c.n)).Sublist (os.map λo=>(o,n))
 |[]=>List.Sublist.slnil
 |o::os=>by
  have ih:=ua K hk hv p day n os;rw[List.flatMap_cons,List.map_append,List.map_cons];have:((cu K hk hv p day n o).map λc=>(c.o,c.n))=[(o,n)]∨((cu K hk hv p day n o).map λc=>(c.o,c.n))=[]:=by
   unfold cu;split
   ·split
    ·exact .inl rfl
    ·exact .inr rfl
   ·exact .inr rfl
  rcases this with h|h
  ·rw[h];exact ih.cons₂ _
  ·rw[h];exact ih.cons _
theorem lz {α:Type}[DecidableEq α]:∀(l m:List α),l.Nodup->(∀x∈l,x∈m)->l.length<=m.length
 |[],_,_,_=>Nat.zero_le _
 |x::l,m,h,s=>by
  rw[List.nodup_cons]at h;have hx:=s x mX;have:=lz l (m.erase x) h.2 λy hy=>(List.mem_erase_of_ne (a:=y) (b:=x) (λe=>h.1 (by rw[←e];exact hy))).mpr (s y (mZ _ hy));rw[List.length_erase_of_mem hx]at this;have:0<m.length:=List.length_pos_of_mem hx;rw[List.length_cons];omega
theorem qh {α β:Type}(f:α->List β)(q:α->Bool)(h:∀a,(f a).length<=1/\(q a=false->f a=[])):∀l:List α,(l.flatMap f).length<=(l.filter q).length
 |[]=>Nat.le_refl _
 |a::l=>by
  have ih:=qh f q h l;rw[List.flatMap_cons,List.length_append];cases hq:q a with
  |true=>rw[List.filter_cons_of_pos hq,List.length_cons];have:=(h a).1;omega
  |false=>rw[List.filter_cons_of_neg (by rw[hq];decide),(h a).2 hq];simpa using ih
theorem Cc (K:KL)(so:List Cl)(hk:List (List Key))(hv:List D)(p:Str)(day:Int)(n:Nat):(jD K so hk hv p day n).length<=(hk.filter λk=>decide (vB k=p)).length:=by
 refine Nat.le_trans (qh _ (λo=>(bv hk hv [.inr o,.inr p]).isSome) (λo=>⟨iw _ _ _ _ _ _ _,λh=>?_⟩) _) ?_
 ·have hl:bv hk hv [.inr o,.inr p]=none:=by simpa using h
  unfold cu lT;rw[hl]
 ·have hnd:(((cn so p day).filter λo=>(bv hk hv [.inr o,.inr p]).isSome).map λo=>([.inr o,.inr p]:List Key)).Nodup:=List.Pairwise.map _ (λa b hab e=>hab (by injection e with e _;injection e)) ((jF so p day).filter _);have:=lz _ (hk.filter λk=>decide (vB k=p)) hnd λk hm=>by
   obtain⟨o,ho,rfl⟩:=List.mem_map.mp hm;obtain⟨v,hv⟩:=Option.isSome_iff_exists.mp (List.mem_filter.mp ho).2;exact List.mem_filter.mpr ⟨tZ hv,decide_eq_true rfl⟩
  rwa [List.length_map]at this
theorem SoOk.step {K l:KL}{dd:List Str}{st:St3}(h:SoOk K l dd st){x:D×Nat}(hx:x.2∉l.map (·.2)):∃dd',SoOk K (l++[x]) dd' (br K st x):=by
 have up:∀ {n:Nat},n∈l.map (·.2)->n∈(l++[x]).map (·.2):=λh=>by rw[List.map_append];exact List.mem_append_left _ h
 have me:x.2∈(l++[x]).map (·.2):=by simp
 have ll:(l++[x]).length=l.length+1:=by simp
 have dup:∀q∈dd,∃y∈l++[x],eC K q (av y.1) y.2=true:=λq hq=>by
  obtain⟨y,h1,h2⟩:=h.ded q hq;exact⟨y,List.mem_append_left _ h1,h2⟩
 have wk:SoOk K (l++[x]) dd st:=⟨by have:=h.len;omega,dup,h.nod,λc hc=>up (h.num c hc),h.hs,by have:=h.hk;omega⟩;have hlen:=h.len;unfold br;split
 ·rename_i hcount;split
  ·refine⟨dd,by simp;omega,dup,?_,λc hc=>?_,h.hs,by rw[ll];exact Nat.le_succ_of_le h.hk⟩
   ·rw[List.map_append,List.nodup_append];refine⟨h.nod,by simp,λa ha b hb e=>?_⟩;obtain⟨c,hc,rfl⟩:=List.mem_map.mp ha;simp at hb;subst hb;injection e with _ e2;exact hx (e2 ▸ h.num c hc)
   ·rcases List.mem_append.mp hc with hc|hc
    ·exact up (h.num c hc)
    ·rw[List.mem_singleton.mp hc];exact me
  ·split
   ·have hl:=cM [ai 2 x.1] (ai 1 x.1) (eE 4 x.1) st.1;refine⟨dd,by simp;omega,dup,?_,λc hc=>?_,h.hs,by rw[ll];exact Nat.le_succ_of_le h.hk⟩
    ·rw[List.map_append,List.nodup_append];refine⟨h.nod.sublist (jh _ _ _ _),by simp,λa ha b hb e=>?_⟩;obtain⟨c,hc,rfl⟩:=List.mem_map.mp ha;simp at hb;subst hb;injection e with _ e2;obtain⟨c',h1,_,h3⟩:=ji hc;exact hx (e2 ▸ h3 ▸ h.num c' h1)
    ·rcases List.mem_append.mp hc with hc|hc
     ·obtain⟨c',h1,_,h3⟩:=ji hc;rw[←h3];exact up (h.num c' h1)
     ·rw[List.mem_singleton.mp hc];exact me
   ·split
    ·have hp:∀k:List Key,lvK dd (cA st.2.1 k)<=lvK dd st.2.1+1/\(cA st.2.1 k).length<=st.2.1.length+1:=λk=>by
      unfold cA;split
      ·omega
      ·have:([k].filter λk=>decide (vB k∉dd)).length<=1:=List.length_filter_le _ _;unfold lvK;rw[List.filter_append,List.length_append,List.length_append,List.length_singleton];omega
     refine⟨dd,?_,dup,wk.nod,wk.num,λv hv=>?_,?_⟩
     ·have:=(hp [.inr (ai 2 x.1),.inr (ai 1 x.1)]).1;rw[ll];show st.1.length+lvK dd (cA st.2.1 [.inr (ai 2 x.1),.inr (ai 1 x.1)])<=_;omega
     ·rcases qd hv with hv|hv
      ·exact⟨_,hv⟩
      ·exact h.hs v hv
     ·have:=(hp [.inr (ai 2 x.1),.inr (ai 1 x.1)]).2;have:=h.hk;rw[ll];show(cA _ _).length<=_;omega
    ·rename_i n1 n2 n3;have hd:kindOf x.1=("death" : Str):=by
      unfold ba at hcount;by_cases hd:kindOf x.1=("death" : Str)
      ·exact hd
      ·rw[if_neg hd,if_neg (by simp[mh,n1,n2,n3])]at hcount;cases hcount
     have hf:eC K (ai 1 x.1) (av x.1) x.2=true:=by unfold ba at hcount;rwa [if_pos hd]at hcount
     have hnp:ai 1 x.1∉dd:=λhm=>by
      obtain⟨y,h1,h2⟩:=h.ded _ hm;exact hx (by rw[←vC h2 hf];exact List.mem_map.mpr ⟨y,h1,rfl⟩)
     have hl:=cM (st.1.map Cl.o) (ai 1 x.1) (av x.1) st.1;have hio:=Cc K st.1 st.2.1 st.2.2 (ai 1 x.1) (av x.1) x.2;have hks:=ou (ai 1 x.1) dd hnp st.2.1;have hik:=ua K st.2.1 st.2.2 (ai 1 x.1) (av x.1) x.2 (cn st.1 (ai 1 x.1) (av x.1));have him:∀c∈jD K st.1 st.2.1 st.2.2 (ai 1 x.1) (av x.1) x.2,c.o∈cn st.1 (ai 1 x.1) (av x.1)/\c.n=x.2:=λc hc=>by
      have:=hik.subset (List.mem_map.mpr ⟨c,hc,rfl⟩);obtain⟨o,h1,h2⟩:=List.mem_map.mp this;injection h2 with h3 h4;exact⟨h3 ▸ h1,h4.symm⟩
     refine⟨ai 1 x.1::dd,?_,λq hq=>?_,?_,λc hc=>?_,h.hs,by rw[ll];exact Nat.le_succ_of_le h.hk⟩
     ·rw[ll];show(aR st.1 (st.1.map Cl.o) (ai 1 x.1) (av x.1)++jD K st.1 st.2.1 st.2.2 (ai 1 x.1) (av x.1) x.2).length+lvK _ st.2.1<=_;rw[List.length_append];omega
     ·rcases List.mem_cons.mp hq with rfl|hq
      ·exact⟨x,by simp,hf⟩
      ·exact dup q hq
     ·rw[List.map_append,List.nodup_append];refine⟨h.nod.sublist (jh _ _ _ _),List.Nodup.sublist hik (List.Pairwise.map _ (λa b hab e=>hab (by injection e)) (jF _ _ _)),λa ha b hb e=>?_⟩;obtain⟨c,hc,rfl⟩:=List.mem_map.mp ha;obtain⟨c2,hc2,rfl⟩:=List.mem_map.mp hb;injection e with _ e2;obtain⟨c',h1,_,h3⟩:=ji hc;exact hx ((him c2 hc2).2 ▸ e2 ▸ h3 ▸ h.num c' h1)
     ·rcases List.mem_append.mp hc with hc|hc
      ·obtain⟨c',h1,_,h3⟩:=ji hc;rw[←h3];exact up (h.num c' h1)
      ·rw[(him c hc).2];exact me
 ·exact⟨dd,wk⟩
theorem xm {ρ:DL.Env}{i:Nat}{ks:List (List Key)}{vs:List D}{fk:FA}{fv:FE}{d:D}{b:Bool}{kd:List D}{kk:List Key}(e:ρ[i]? = some (some (.dt ks vs,true)))(ev:fv ρ=some (d,b))(ek:fk ρ=some kd)(hk:gh kd=some kk)(hf:bo d=true)(h1:ks.length<=1000)(h2:kd.length<=1000):ny i fk fv ρ=some (.nx (ρ.set i (some (.dt (cA ks kk) (cw ks vs kk d),true)))):=by
 unfold ny;rw[e];dsimp only;rw[ev,Option.bind_some,ek,Option.bind_some,hk,Option.bind_some,if_pos ⟨hf,bg (by omega),bM (by omega)⟩]
theorem Gd (a b:Cl):(aO (kC a) (kC b)).isSome=true:=by
 unfold kC;rw[aO];split
 ·rw[aO];split
  ·rw[aO];split
   ·rw[aO];rfl
   ·rfl
  ·rfl
 ·rfl
theorem xn (cs:List Cl):c9 (cs.map kC)=true:=by
 unfold c9;simp[List.all_eq_true,Gd]
theorem fP {α β:Type}(f:α->β):∀ {l:List α},(l.map f).Nodup->∀ {a b:α},a∈l->b∈l->f a=f b->a=b
 |[],_,_,_,ha,_,_=>by cases ha
 |c::l,h,a,b,ha,hb,e=>by
  rw[List.map_cons,List.nodup_cons]at h;rcases List.mem_cons.mp ha with ea|ha1
  ·rcases List.mem_cons.mp hb with eb|hb1
   ·rw[ea,eb]
   ·exact absurd (List.mem_map.mpr ⟨b,hb1,by rw[←e,ea]⟩) h.1
  ·rcases List.mem_cons.mp hb with eb|hb1
   ·exact absurd (List.mem_map.mpr ⟨a,ha1,by rw[e,eb]⟩) h.1
   ·exact fP f h.2 ha1 hb1 e
theorem vD {cs:List Cl}{a b:Cl}(ha:a∈cs)(hb:b∈cs)(e:bp (kC a)=bp (kC b)):(a.o,a.n)=(b.o,b.n):=by
 have h:=gD (xn cs) (List.mem_map.mpr ⟨a,ha,rfl⟩) (List.mem_map.mpr ⟨b,hb,rfl⟩) e;unfold kC at h;injection h with h1 h2;injection h1 with h1;injection h2 with _ h3;injection h3 with h3 _;injection h3 with h3;rw[h1,show a.n=b.n by omega]
theorem Ce {rows:List D}(g:cU rows)(known:Int){l:KL}{dd:List Str}{st:St3}(h:SoOk (aj rows known) l dd st)(hj:l.length<=60){x:D×Nat}(hx:x∈aj rows known)(hnr:aV x.1=false)(v5:Option (D×Bool)):
  ∃w5,(jg (rkE rows known [some (.lst (st.1.map clD),true),some (.dt st.2.1 st.2.2,true),some (.int x.2,false),v5])=some (.nx (rkE rows known [some (.lst ((br (aj rows known) st x).1.map clD),true),some (.dt (br (aj rows known) st x).2.1 (br (aj rows known) st x).2.2,true),some (.int x.2,false),w5]))
   ∨ jg (rkE rows known [some (.lst (st.1.map clD),true),some (.dt st.2.1 st.2.2,true),some (.int x.2,false),v5])=some (.ct (rkE rows known [some (.lst ((br (aj rows known) st x).1.map clD),true),some (.dt (br (aj rows known) st x).2.1 (br (aj rows known) st x).2.2,true),some (.int x.2,false),w5]))):=by
 obtain⟨ha,gx⟩:=bf g hx;have hso:st.1.length<=60:=by have:=h.len;omega
 have hf:bo x.1=true:=gx.rp.flat;have ec:=yw g known st.1 hso hx hnr;have ecall:dO (tOf (fA iP (ab (af 0) (ab (af 1) (ab (af 2) (ab (af 4) ak)))))) (rkE rows known [some (.lst (st.1.map clD),true),some (.dt st.2.1 st.2.2,true),some (.int x.2,false),some (x.1,false)])=some (!ba (aj rows known) st.1 x) :=
  fG (tkF (cdD [.tup rows,.int known,.lst (st.1.map clD),.int x.2] (by simp) ec))
 have hw:fA aG (ab (af 5) ak) (rkE rows known [some (.lst (st.1.map clD),true),some (.dt st.2.1 st.2.2,true),some (.int x.2,false),some (x.1,false)])=some (.str (kindOf x.1),false):=cdD [x.1] rfl (v0 gx);refine⟨some (x.1,false),?_⟩;cases hc:ba (aj rows known) st.1 x with
 |false=>
  rw[hc]at ecall;have es:br (aj rows known) st x=st:=by unfold br;rw[hc];rfl
  rw[es];exact .inr (rfF x.1 (by simp[ha]) hf (GM (fz ecall rfl)))
 |true=>
  rw[hc]at ecall;left;refine rfF x.1 (by simp[ha]) hf (bz (ca ecall rfl) ?_);by_cases hn:kindOf x.1=("named" : Str)
  ·have es:br (aj rows known) st x=(st.1++[⟨ai 1 x.1,ai 2 x.1,av x.1,none,x.2⟩],st.2):=by unfold br;rw[hc,if_pos rfl,if_pos hn]
   rw[es];refine fz (bD (bb:=false) hw (decide_eq_true hn)) ?_;have hpo:ar [x.1,.str "office"]=some (.str (ai 1 x.1),false)/\ar [x.1,.str "person"]=some (.str (ai 2 x.1),false):=by
    obtain⟨a,k,aC,e,d⟩:=gx;rw[e]at hn ⊢;replace hn:k=("named" : Str):=hn;cases d with
    |named d o p=>exact⟨b9 (i:=1) (bc (by decide +kernel)) rfl,b9 (i:=2) (bc (by decide +kernel)) rfl⟩
    |root=>exact absurd hn (by decide +kernel)
    |chosen=>exact absurd hn (by decide +kernel)
    |heir=>exact absurd hn (by decide +kernel)
    |three _ hk=>rcases hk with rfl|rfl|rfl<;>exact absurd hn (by decide +kernel)
    |other _ hk=>rcases hk with rfl|rfl|rfl|rfl|rfl<;>exact absurd hn (by decide +kernel)
   have hday:aP [x.1]=some (.int (av x.1),false):=by rw[xi gx];unfold vz;rw[hnr];rfl
   have e2:f2 cG (af 2) (fA bq (ab (fA de (ab (af 5) (ab (fA aP (ab (af 5) ak)) (ab (af 4) ak)))) ak)) (rkE rows known [some (.lst (st.1.map clD),true),some (.dt st.2.1 st.2.2,true),some (.int x.2,false),some (x.1,false)])=some (.lst (st.1.map clD++[clD ⟨ai 1 x.1,ai 2 x.1,av x.1,none,x.2⟩]),true):=by
    refine fZ (x:=.lst (st.1.map clD)) (y:=.lst [clD ⟨ai 1 x.1,ai 2 x.1,av x.1,none,x.2⟩]) (b1:=false) (b2:=true) rfl ?_ (if_pos (bM (by rw[List.length_map,List.length_singleton];omega)));exact cdD [clD ⟨ai 1 x.1,ai 2 x.1,av x.1,none,x.2⟩] (aw (cdD [x.1,.int (av x.1),.int x.2] (acF rfl (acF (cdD [x.1] rfl hday) rfl)) (CZ hpo.1 hpo.2 _ _)) rfl) (eQ _ (by simp))
   have:=kq (i:=2) e2 (by have hq:=cE (st.1++[(⟨ai 1 x.1,ai 2 x.1,av x.1,none,x.2⟩:Cl)]);rwa [List.map_append]at hq);rw[List.map_append];exact this
  ·refine ca (bD (bb:=false) hw (decide_eq_false hn)) ?_;by_cases hch:kindOf x.1=("chosen" : Str)
   ·have es:br (aj rows known) st x=(aR st.1 [ai 2 x.1] (ai 1 x.1) (eE 4 x.1)++[⟨ai 2 x.1,ai 3 x.1,eE 4 x.1,none,x.2⟩],st.2):=by unfold br;rw[hc,if_pos rfl,if_neg hn,if_pos hch]
    rw[es];refine fz (bD (bb:=false) hw (decide_eq_true hch)) (kq (i:=2) (cdD [.lst (st.1.map clD),x.1,.int x.2] rfl ?_) (cE _));obtain⟨a,k,aC,e,d⟩:=gx;rw[e]at hch ⊢;replace hch:k=("chosen" : Str):=hch;cases d with
    |chosen d b o p s=>exact yx st.1 hso x.2
    |root=>exact absurd hch (by decide +kernel)
    |named=>exact absurd hch (by decide +kernel)
    |heir=>exact absurd hch (by decide +kernel)
    |three _ hk=>rcases hk with rfl|rfl|rfl<;>exact absurd hch (by decide +kernel)
    |other _ hk=>rcases hk with rfl|rfl|rfl|rfl|rfl<;>exact absurd hch (by decide +kernel)
   ·refine ca (bD (bb:=false) hw (decide_eq_false hch)) ?_;by_cases hh:kindOf x.1=("heir" : Str)
    ·have es:br (aj rows known) st x=(st.1,cA st.2.1 [.inr (ai 2 x.1),.inr (ai 1 x.1)],cw st.2.1 st.2.2 [.inr (ai 2 x.1),.inr (ai 1 x.1)] (.str (ai 3 x.1))):=by unfold br;rw[hc,if_pos rfl,if_neg hn,if_neg hch,if_pos hh]
     rw[es];have hpo:ar [x.1,.str "office"]=some (.str (ai 2 x.1),false)/\ar [x.1,.str "by"]=some (.str (ai 1 x.1),false)/\ar [x.1,.str "person"]=some (.str (ai 3 x.1),false):=by
      obtain⟨a,k,aC,e,d⟩:=gx;rw[e]at hh ⊢;replace hh:k=("heir" : Str):=hh;cases d with
      |heir d b o p=>exact⟨b9 (i:=2) (bc (by decide +kernel)) rfl,b9 (i:=1) (bc (by decide +kernel)) rfl,b9 (i:=3) (bc (by decide +kernel)) rfl⟩
      |root=>exact absurd hh (by decide +kernel)
      |named=>exact absurd hh (by decide +kernel)
      |chosen=>exact absurd hh (by decide +kernel)
      |three _ hk=>rcases hk with rfl|rfl|rfl<;>exact absurd hh (by decide +kernel)
      |other _ hk=>rcases hk with rfl|rfl|rfl|rfl|rfl<;>exact absurd hh (by decide +kernel)
     exact fz (bD (bb:=false) hw (decide_eq_true hh)) (xm (ks:=st.2.1) (vs:=st.2.2) (kd:=[.str (ai 2 x.1),.str (ai 1 x.1)]) (b:=false) rfl (cdD [x.1,.str "person"] rfl hpo.2.2) (aw (cdD [x.1,.str "office"] rfl hpo.1) (aw (cdD [x.1,.str "by"] rfl hpo.2.1) rfl)) rfl rfl (by have:=h.hk;omega) (by simp))
    ·refine ca (bD (bb:=false) hw (decide_eq_false hh)) ?_;have es:br (aj rows known) st x=(aR st.1 (st.1.map Cl.o) (ai 1 x.1) (av x.1)++jD (aj rows known) st.1 st.2.1 st.2.2 (ai 1 x.1) (av x.1) x.2,st.2):=by unfold br;rw[hc,if_pos rfl,if_neg hn,if_neg hch,if_neg hh]
     rw[es];have hd:kindOf x.1=("death" : Str):=by
      unfold ba at hc;by_cases hd:kindOf x.1=("death" : Str)
      ·exact hd
      ·rw[if_neg hd,if_neg (by simp[mh,hn,hch,hh])]at hc;cases hc
     refine kq (i:=2) (cdD [.tup rows,.int known,.lst (st.1.map clD),.dt st.2.1 st.2.2,.int x.2] (by simp) ?_) (cE _);obtain⟨a,k,aC,e,d⟩:=gx;have hk:k=("death" : Str):=by rw[e]at hd;exact hd
     subst hk;obtain⟨dd,p,rfl⟩:=d.deed.three (by decide +kernel);have:=Aw g known st.1 hso st.2.1 st.2.2 h.hs hx e;rw[this,e];rfl
theorem xo (K:KL):∀(l l0:KL)(st:St3)(dd:List Str),SoOk K l0 dd st->((l0++l).map (·.2)).Nodup->∃dd',SoOk K (l0++l) dd' (l.foldl (br K) st)
 |[],l0,st,dd,h,_=>⟨dd,by rw[List.append_nil];exact h⟩
 |x::l,l0,st,dd,h,hn=>by
  have hx:x.2∉l0.map (·.2):=λhm=>by
   rw[List.map_append,List.nodup_append]at hn;exact hn.2.2 _ hm x.2 (by simp) rfl
  obtain⟨dd',h'⟩:=h.step hx;have e:l0++x::l=(l0++[x])++l:=by simp
  rw[e]at hn ⊢;exact xo K l _ _ _ h' hn
theorem mw (K l:KL)(h:(l.map (·.2)).Nodup):∃dd,SoOk K l dd (f7 K l):=by
 have:=xo K l [] ([],[],[]) [] ⟨Nat.zero_le _,by simp,by simp,by simp,by simp,Nat.zero_le _⟩ h;exact this
theorem l5 {K:KL}(h:(K.map (·.2)).Nodup):((cy K).map (·.2)).Nodup:=((aH _ _).map _).nodup_iff.mpr (List.Nodup.sublist (List.Sublist.map _ List.filter_sublist) h)
theorem yy {rows:List D}(g:cU rows)(known:Int)(hlen:(cy (aj rows known)).length<=60):nK [.tup rows,.int known]=some (.lst ((fK (aj rows known)).map clD),true)/\(fK (aj rows known)).length<=60:=by
 have eL:eM [.tup rows,.int known]=some (.lst ((cy (aj rows known)).map λx=>.int x.2),true):=tS g known;generalize hK:aj rows known=K at hlen eL ⊢;have hmem:∀x∈cy K,x∈K/\aV x.1=false:=λx hx=>by
  obtain⟨h1,h2⟩:=List.mem_filter.mp ((aH _ _).mem_iff.mp hx);exact⟨h1,by simpa using h2⟩
 have hnd:((cy K).map (·.2)).Nodup:=l5 (by rw[←hK];exact fJ rows known);obtain⟨ρ',e,v4,v5,rfl⟩:=cQ (tg:=tgN 4) (g:=jg) (λj ρ=>∃v4 v5:Option (D×Bool),ρ=(rkE rows known [some (.lst ((f7 K ((cy K).take j)).1.map clD),true),some (.dt (f7 K ((cy K).take j)).2.1 (f7 K ((cy K).take j)).2.2,true),v4,v5])) ((cy K).map λx=>.int x.2)
  (rkE rows known [some (.lst [],true),some (.dt [] [],true),none,none]) ⟨none,none,rfl⟩ (by
   rintro j d ρ hd ⟨v4,v5,rfl⟩;rw[List.getElem?_map]at hd;obtain⟨x,hx,rfl⟩:=oY hd;have hjl:j<(cy K).length:=(List.getElem?_eq_some_iff.mp hx).1;have et:(cy K).take (j+1)=(cy K).take j++[x]:=by rw[List.take_add_one,hx];rfl
   have ef:f7 K ((cy K).take (j+1))=br K (f7 K ((cy K).take j)) x:=by rw[et];unfold f7;rw[List.foldl_append];rfl
   obtain⟨hxK,hxr⟩:=hmem x (List.mem_of_getElem? hx);obtain⟨dd,h⟩:=mw K ((cy K).take j) (List.Nodup.sublist (List.Sublist.map _ (List.take_sublist _ _)) hnd);rw[←hK]at h;have hst:=Ce g known h (by rw[hK,List.length_take];omega) (x:=x) (by rw[hK];exact hxK) hxr v5;rw[hK]at hst;obtain⟨w5,hst⟩:=hst;exact⟨_,_,rfl,hst,some (.int x.2,false),w5,by rw[ef]⟩)
 have hall:(cy K).take ((cy K).map λx=>D.int x.2).length=cy K:=by rw[List.length_map,List.take_length]
 rw[hall]at e;obtain⟨dd,hso⟩:=mw K (cy K) hnd;generalize hcs:(f7 K (cy K))=st at e hso;have hcl:st.1.length<=60:=by have:=hso.len;omega
 have hCk:fK K=cR (λc=>bp (kC c)) st.1:=by unfold fK;rw[hcs]
 have hm:∀ρ:DL.Env,hZ (oM dH ρ) (st.1.map clD)=some (st.1.map λc=>.tup [.str c.o,.int c.s,.int c.n]):=λρ=>gN st.1 λc _=>by
  show(dH [clD c]).map _=_;rw[r6];rfl
 have hk:cP (st.1.map λc=>D.tup [.str c.o,.int c.s,.int c.n])=some (st.1.map kC):=eN st.1 λc _=>rfl;have hcond:(st.1.map kC).length<64/\c9 (st.1.map kC)=true/\bT (st.1.map kC)=true/\((st.1.map kC).map bp).Nodup:=by
  refine⟨by rw[List.length_map];omega,xn _,?_,?_⟩
  ·unfold bT;rw[Bool.or_eq_true];right;simp[List.all_eq_true,kC]
  ·rw[List.map_map];have h1:st.1.Pairwise λa b=>(a.o,a.n)≠(b.o,b.n):=List.pairwise_map.mp hso.nod;have h2:st.1.Pairwise λa b=>bp (kC a)≠bp (kC b):=by
    refine List.Pairwise.imp_of_mem ?_ h1;intro a b ha hb hne e;exact hne (vD ha hb e)
   exact List.pairwise_map.mpr h2
 have hz:(st.1.map kC).zip (st.1.map clD)=st.1.map λc=>(kC c,clD c):=by rw[List.zip_map']
 have key:((fK K).map λc=>(kC c,clD c))=cR (λp:List At×D=>bp p.1) (st.1.map λc=>(kC c,clD c)):=by
  rw[hCk];refine fu _ (λx hx y hy e=>?_) ((aH _ _).map _) ?_
  ·obtain⟨a,ha,rfl⟩:=List.mem_map.mp hx;obtain⟨b,hb,rfl⟩:=List.mem_map.mp hy;rw[fP (λc:Cl=>(c.o,c.n)) hso.nod ha hb (vD ha hb e)]
  ·exact List.pairwise_map.mpr (cH _ _)
 refine⟨a8 rfl (bP (ds:=[]) (by simp[sizeLine]) rfl (bz (ρ':=(rkE rows known [some (.lst [],true),some (.dt [] [],true),none,none])) rfl (bz (d9 (ds:=(cy K).map λx=>.int x.2) ?_ e) (aK ?_)))),by rw[hCk,(aH _ _).length_eq];exact hcl⟩
 ·show(fA eM (ab (af 0) (ab (af 1) ak)) _).bind _=_;rw[cdD [.tup rows,.int known] rfl eL];rfl
 ·unfold lh;show((some (D.lst (st.1.map clD),false)).bind _)=_;simp only[Option.bind_some];rw[hm];simp only[Option.bind_some];rw[hk];simp only[Option.bind_some];rw[if_pos hcond];unfold gE;rw[hz,←key,List.map_map];rfl
theorem jG {α:Type}(xs:List α)(q:α->List D)(k:α->List At)(hk:∀x∈xs,j6 (.tup (q x))=some (k x))(hl:xs.length<=60)(hc:c9 (xs.map k)=true)(hf:bT (xs.map k)=true):dw [.lst (xs.map λx=>.tup (q x))]=some (.lst ((cR (λx=>bp (k x)) xs).map λx=>.tup (q x)),true):=by
 cases xs with
 |nil=>rfl
 |cons b r=>
  have hK:cP ((b::r).map λx=>D.tup (q x))=some ((b::r).map k):=eN _ hk;have hE:∀x∈b::r,oJ (.tup (q x))=bp (k x):=λx hx=>by unfold oJ;rw[hk x hx];rfl
  have hp:=aH (λx=>bp (k x)) (b::r);have hs:(cR (λx=>bp (k x)) (b::r)).map (λx=>D.tup (q x))=cR oJ ((b::r).map λx=>D.tup (q x)):=by
   refine fu _ (λx hx y hy e=>?_) (hp.map _) (List.pairwise_map.mpr (List.Pairwise.imp_of_mem ?_ (cH (λx=>bp (k x)) (b::r))))
   ·obtain⟨a,ha,rfl⟩:=List.mem_map.mp hx;obtain⟨c,hc',rfl⟩:=List.mem_map.mp hy;rw[hE a ha,hE c hc']at e;have z:k a=k c:=gD hc (List.mem_map.mpr ⟨a,ha,rfl⟩) (List.mem_map.mpr ⟨c,hc',rfl⟩) e;exact tm (hk a ha) (by rw[hk c hc',z])
   ·intro a c ha hc' h;show ¬oJ _<oJ _;rw[hE a (hp.mem_iff.mp ha),hE c (hp.mem_iff.mp hc')];exact h
  unfold dw;dsimp only;rw[show fE ((b::r).map λx=>D.tup (q x))=none from rfl];dsimp only;rw[show mV ((b::r).map λx=>D.tup (q x))=none from rfl];dsimp only;rw[hK];dsimp only;rw[if_pos ⟨by rw[List.length_map];omega,hc,hf⟩,hs]
noncomputable def aD:D->D
 |.tup [_,d]=>d
 |_=>.non
theorem Cf {r:D}(g:eB r):ixD r (.int 0)=some (.int (aZ r),false):=by
 obtain⟨h,k,aC,rfl,d⟩:=g;simp[row,at0,aZ]
theorem oy {r:D}(g:eB r):ixD r (.int 1)=some (aD r,false):=by
 obtain⟨h,k,aC,rfl,d⟩:=g;simp[row,at1,aD]
theorem oz {r:D}(g:eB r):ixD (aD r) (.int 0)=some (.str (kindOf r),false):=by
 obtain⟨h,k,aC,rfl,d⟩:=g;simp[row,at0,aD,kindOf]
theorem o0 {r:D}(g:eB r)(hr:aV r=false):ixD (aD r) (.int 1)=some (.int (av r),false):=by
 obtain⟨h,k,aC,rfl,d⟩:=g;obtain⟨d,q,rfl⟩:=d.day (of_decide_eq_false hr);simp[row,at1,aD,av]
theorem qi {r:D}(g:eB r)(hr:aV r=false):ixD (aD r) (.int 2)=some (.str (ai 1 r),false):=by
 obtain⟨h,k,aC,rfl,d⟩:=g;replace hr:k≠("root" : Str):=of_decide_eq_false hr;cases d with
 |root=>exact absurd rfl hr
 |_=>simp[row,at2,aD,ai]
theorem rC {r:D}(g:eB r):bo (aD r)=true:=by
 obtain⟨h,k,aC,rfl,d⟩:=g;simp[row,aD,d.deed.flat]
theorem mz {ws:List Str}(hw:∀w∈ws,bZ w=true){r:D}(g:eB r)(p:Str)(day:Int):told ws p day r=(decide (kindOf r∈ws) && (decide (ai 1 r=p) && decide (av r<=day))):=by
 obtain⟨h,k,aC,rfl,d⟩:=g;by_cases hk:k∈ws
 ·obtain⟨dd,q,rfl⟩:=d.deed.three (hw k hk);rfl
 ·show(decide (k∈ws) && nV p day aC)=(decide (k∈ws) && _);rw[decide_eq_false hk];rfl
theorem xp {ws:List Str}(hw:∀w∈ws,bZ w=true){r:D}(g:eB r){p:Str}{day:Int}(h:told ws p day r=true):aV r=false:=by
 rw[mz hw g]at h;simp only[Bool.and_eq_true,decide_eq_true_eq]at h;refine decide_eq_false λe=>?_;have:=hw _ h.1;rw[e]at this;exact absurd this (by decide +kernel)
theorem yz (rows:List D):dS 0 rows.length=rows.zipIdx.map λx=>D.int x.2:=by
 rw[pK,List.map_map];have:rows.zipIdx.map (λx=>D.int x.2)=(rows.zipIdx.map (·.2)).map λn:Nat=>D.int n:=by rw[List.map_map];rfl
 rw[this,List.zipIdx_map_snd,List.range_eq_range'];rfl
theorem uc {rows:List D}(g:cU rows)(known:Int):dJ [.tup rows,.int known]=some (.lst ((cy (aj rows known)).map λx=>.int x.2),true):=by
 have hl:=g.1;have hrow:∀x∈rows.zipIdx,atI rows (x.2:Int)=some x.1/\eB x.1:=λx hx=>by
  have h1:rows[x.2]? = some x.1:=List.mem_zipIdx_iff_getElem?.mp hx;exact⟨ir h1,g.2 _ (List.mem_of_getElem? h1)⟩
 have h1:=iC (fi:=f9 (fA dN (ab (af 0) ak))) (nT:=1) (cap:=[1,0]) (tg:=tgN 0) (c:=aY (tOf (f2 dLe (f2 ixD (f2 ixD (af 2) (af 0)) (fC (.int 0))) (af 1))) (tOf (f2 dNe (f2 ixD (f2 ixD (f2 ixD (af 2) (af 0)) (fC (.int 1))) (fC (.int 0))) (fC (.str "root"))))) (fe:=af 0) (ρ:=(rkE rows known [none])) rows.zipIdx (λx=>.int x.2) (λx=>decide (aZ x.1<=known) && !aV x.1) (λx=>.int x.2)
  (by rw[gG (j:=rows.length) (b:=false) rfl (by omega),yz]) (by rw[List.length_zipIdx];omega) λx hx=>by
   obtain⟨ha,gx⟩:=hrow x hx;let ρ1:DL.Env:=[some (.int x.2,false),some (.int known,false),some (.tup rows,false)];have q0:f2 ixD (af 2) (af 0) ρ1=some (x.1,false):=eoF (.tup rows) (.int x.2) rfl rfl (by simp[ha]);refine⟨ρ1,rfl,bj (tkF (eoF (.int (aZ x.1)) (.int known) (eoF x.1 (.int 0) q0 rfl (Cf gx)) rfl (by simp))) (λ_=>tkF (eoF (.str (kindOf x.1)) (.str "root") (eoF (aD x.1) (.int 0) (eoF x.1 (.int 1) q0 rfl (oy gx)) rfl (oz gx)) rfl (by simp[aV]))),λ_=>⟨false,rfl⟩⟩
 have ef:rows.zipIdx.filter (λx=>decide (aZ x.1<=known) && !aV x.1)=bx rows known:=by
  unfold bx aj;rw[List.filter_filter];congr 1;funext x;exact Bool.and_comm _ _
 rw[ef]at h1;have hmem:∀x∈bx rows known,x∈aj rows known/\aV x.1=false:=λx hx=>by
  obtain⟨h1,h2⟩:=List.mem_filter.mp hx;exact⟨h1,by simpa using h2⟩
 have hdl:(bx rows known).length<=60:=Nat.le_trans (List.length_filter_le _ _) (Nat.le_trans (eO rows known) hl);have hfl:b7 ((bx rows known).map λx=>D.int x.2)=true:=cL λd hd=>by obtain⟨x,_,rfl⟩:=List.mem_map.mp hd;rfl
 have h2:=ky (fi:=bV (af 2)) (nT:=1) (cap:=[0]) (tg:=tgN 0) (fe:=fA aI (ab (f2 ixD (f2 ixD (f2 ixD (af 1) (af 0)) (fC (.int 1))) (fC (.int 1))) (ab (af 0) ak))) (ρ:=(rkE rows known [some (.lst ((bx rows known).map λx=>.int x.2),true)])) (bx rows known) (λx=>.int x.2) (λx=>.tup [.int (av x.1),.int x.2]) (by simp) (by omega) λx hx=>by
   obtain⟨hx1,hx2⟩:=hmem x hx;obtain⟨ha,gx⟩:=bf g hx1;let ρ1:DL.Env:=[some (.int x.2,false),some (.tup rows,false)];have q0:f2 ixD (af 1) (af 0) ρ1=some (x.1,false):=eoF (.tup rows) (.int x.2) rfl rfl (by simp[ha]);exact⟨ρ1,rfl,false,cdD [.int (av x.1),.int x.2] (acF (eoF (aD x.1) (.int 1) (eoF x.1 (.int 1) q0 rfl (oy gx)) rfl (o0 gx hx2)) rfl) (cx _ (by simp))⟩
 have h3:=jG (bx rows known) (λx=>[.int (av x.1),.int x.2]) kA (λx _=>rfl) hdl (mv _) (by
  unfold bT;rw[Bool.or_eq_true];left;simp[List.all_eq_true,kA])
 refine a8 rfl (bP h1 hfl (aK ?_));refine ky (cy (aj rows known)) (λx=>.tup [.int (av x.1),.int x.2]) (λx=>.int x.2) ?_ (by have:(cy (aj rows known)).length=(bx rows known).length:=(aH _ _).length_eq;omega) λx _=>⟨_,rfl,false,rfl⟩;show(fA dw _ (rkE rows known [some (.lst ((bx rows known).map λx=>.int x.2),true)])).bind _=_;rw[cdD [.lst ((bx rows known).map λx=>.tup [.int (av x.1),.int x.2])] (aw h2 rfl) h3];rfl
theorem qj {rows:List D}(g:cU rows)(known:Int)(p:Str)(day:Int):dL [.tup rows,.int known,.str p,.int day]=some (.bl (dh (aj rows known) p day),false):=by
 let bad:D->Bool:=λr=>decide (aZ r<=known) && told bN p day r;have hL:dh (aj rows known) p day=rows.all λr=>!bad r:=by
  unfold dh aj;rw[List.filter_filter,Bool.eq_iff_iff,List.isEmpty_iff,List.filter_eq_nil_iff,List.all_eq_true];constructor
  ·intro h r hr;obtain⟨i,hi,e⟩:=List.mem_iff_getElem.mp hr;have:=h (r,i) (List.mem_zipIdx_iff_getElem?.mpr (List.getElem?_eq_some_iff.mpr ⟨hi,e⟩));simp only[bad];revert this;cases told bN p day r<;>cases decide (aZ r<=known)<;>simp
  ·intro h x hx;have:=h x.1 (List.fst_mem_of_mem_zipIdx hx);simp only[bad]at this;revert this;cases told bN p day x.1<;>cases decide (aZ x.1<=known)<;>simp
 rw[hL];have step:=Aj (tg:=tgT [4,5]) (g:=nO) (d:=.bl false) (b:=false) (λ_ ρ=>∃v4 v5:Option (D×Bool),ρ=(rkE rows known [some (.str p,false),some (.int day,false),v4,v5])) (λi=>!bad (rows.getD i .non)) rows (rkE rows known [some (.str p,false),some (.int day,false),none,none]) ⟨none,none,rfl⟩ (by
  rintro i r ρ hr ⟨v4,v5,rfl⟩;have gr:=g.2 r (List.mem_of_getElem? hr);have er:rows.getD i .non=r:=by rw[List.getD_eq_getElem?_getD,hr];rfl
  rw[er];have f1:=rC gr;let ρ1:DL.Env:=(rkE rows known [some (.str p,false),some (.int day,false),some (.int (aZ r),false),some (aD r,false)]);have et:tgT [4,5] r (rkE rows known [some (.str p,false),some (.int day,false),v4,v5])=some ρ1:=by
   obtain⟨h,k,aC,rfl,d⟩:=gr;simp[row,dG,aZ,aD,ρ1]
  refine⟨ρ1,et,?_⟩;have ec:aY (tOf (f2 dLe (af 4) (af 1))) (aY (tOf (f2 dEq (ixV 5 0) (fC (.str "death")))) (aY (tOf (f2 dEq (ixV 5 2) (af 2))) (tOf (f2 dLe (ixV 5 1) (af 3))))) ρ1=some (bad r):=by
   have hb:bad r=(decide (aZ r<=known) && (decide (kindOf r=("death" : Str)) && (decide (ai 1 r=p) && decide (av r<=day)))):=by simp only[bad];rw[mz d6 gr];simp[bN]
   rw[hb];refine bj (tkF (eoF (.int (aZ r)) (.int known) rfl rfl (by simp))) λ_=>bj (bD (bb:=false) (eoF (aD r) (.int 0) rfl rfl (oz gr)) rfl) λhk=>?_;have hnr:aV r=false:=decide_eq_false (by rw[of_decide_eq_true hk];decide +kernel);exact bj (tkF (eoF (.str (ai 1 r)) (.str p) (eoF (aD r) (.int 2) rfl rfl (qi gr hnr)) rfl (by simp))) λ_=>tkF (eoF (.int (av r)) (.int day) (eoF (aD r) (.int 1) rfl rfl (o0 gr hnr)) rfl (by simp))
  cases hb:bad r with
  |true=>exact .inr ⟨rfl,fz (by rw[ec,hb]) rfl⟩
  |false=>exact .inl ⟨rfl,ρ1,ca (by rw[ec,hb]) rfl,_,_,rfl⟩)
 rcases step with⟨h1,ρ',h2,_⟩|⟨⟨i,hi,h1⟩,h2⟩
 ·have:rows.all (λr=>!bad r)=true:=List.all_eq_true.mpr λr hr=>by
   obtain⟨i,hi,e⟩:=List.mem_iff_getElem.mp hr;have:=h1 i hi;rw[List.getD_eq_getElem?_getD,List.getElem?_eq_getElem hi,e]at this;exact this
  rw[this];exact a8 rfl (bz (d9 (ds:=rows) rfl h2) (aK rfl))
 ·have:rows.all (λr=>!bad r)=false:=List.all_eq_false.mpr ⟨rows.getD i .non,by rw[List.getD_eq_getElem?_getD,List.getElem?_eq_getElem hi];exact List.getElem_mem hi,by simpa using h1⟩;rw[this];exact a8 rfl (Ga (by show gd _ _ _ _=_;unfold gd;exact h2))
theorem eV:∀(r:KL)(b:D×Nat),∀y∈b::r,cF (cC b r) y=false
 |[],b,y,hy=>by rw[List.mem_singleton.mp hy];simp[cC,cF]
 |x::r,b,y,hy=>by
  rw[cC];by_cases h:cF b x=true
  ·rw[if_pos h];rcases List.mem_cons.mp hy with rfl|hy
   ·have:=eV r x x mX;unfold cF at *;simp at *;omega
   ·exact eV r x y hy
  ·rw[if_neg h];rcases List.mem_cons.mp hy with rfl|hy
   ·exact eV r _ _ mX
   ·rcases List.mem_cons.mp hy with rfl|hy
    ·have:=eV r b b mX;unfold cF at *;simp at *;omega
    ·exact eV r b y (mZ _ hy)
theorem ud (K:KL):(cy K).Pairwise λa b=>cF b a=false:=(cH (λx=>bp (kA x)) (K.filter λx=>!aV x.1)).imp λ{a b} h=>by
 rw[hW _ _ _ (rz b a)];exact decide_eq_false h
theorem qk {α:Type}{R:α->α->Prop}{l:List α}{m:α}(h:l.Pairwise R)(e:l.getLast? = some m):∀y∈l,y=m∨R y m:=λy hy=>by
 obtain⟨l',rfl⟩:∃l',l=l'++[m]:=by
  cases l with
  |nil=>cases e
  |cons a r=>
   rw[List.getLast?_eq_some_getLast (by simp)]at e;exact⟨_,by rw[←Option.some.inj e];exact(List.dropLast_concat_getLast (by simp)).symm⟩
 rcases List.mem_append.mp hy with h1|h1
 ·exact .inr ((List.pairwise_append.mp h).2.2 y h1 m (by simp))
 ·exact .inl (List.mem_singleton.mp h1)
theorem y0 {K:KL}(hn:(K.map (·.2)).Nodup)(t:D×Nat->Bool)(ht:∀x∈K,t x=true->aV x.1=false):((cy K).filter t).getLast? = Am (K.filter t):=by
 have e1:(K.filter λx=>!aV x.1).filter t=K.filter t:=by
  rw[List.filter_filter];refine List.filter_congr λx hx=>?_;cases h:t x with
  |false=>rfl
  |true=>rw[ht x hx h];rfl
 have hp:((cy K).filter t).Perm (K.filter t):=by
  have:=(aH (λx=>bp (kA x)) (K.filter λx=>!aV x.1)).filter t;rw[e1]at this;exact this
 cases hK:K.filter t with
 |nil=>rw[hK]at hp;rw[List.perm_nil.mp hp];rfl
 |cons b r=>
  rw[hK]at hp;have hne:(cy K).filter t≠[]:=λh=>by rw[h]at hp;exact absurd hp.length_eq (by simp)
  have hl:=List.getLast?_eq_some_getLast hne;generalize ((cy K).filter t).getLast hne=m at hl;rw[hl];show some m=some (cC b r);have hm:m∈b::r:=hp.mem_iff.mp (List.mem_of_getLast? hl);have hb:=kF r b;have h1:=eV r b m hm;have h2:=qk ((ud K).filter t) hl (cC b r) (hp.mem_iff.mpr hb);rcases h2 with h2|h2
  ·rw[h2]
  ·have hmK:m∈K:=(List.mem_filter.mp (by rw[hK];exact hm:m∈K.filter t)).1;have hbK:cC b r∈K:=(List.mem_filter.mp (by rw[hK];exact hb:cC b r∈K.filter t)).1;congr 1;refine fP (·.2) hn hmK hbK ?_;unfold cF at h1 h2;have h1:=of_decide_eq_false h1;have h2:=of_decide_eq_false h2;show m.2=(cC b r).2;omega
noncomputable def kK (l:KL)(p:Str)(d:Int):Bool:=match (l.filter λx=>told fF p d x.1).getLast? with
 |none=>true
 |some x=>decide (kindOf x.1=("found" : Str))
theorem y4 {rows:List D}(g:cU rows)(known:Int)(p:Str)(d:Int):kK (cy (aj rows known)) p d=om (aj rows known) p d:=by
 unfold kK om;rw[y0 (fJ rows known) _ λx hx h=>xp gq (bf g hx).2 h]<;>rfl
theorem y6 {rows:List D}(g:cU rows)(known:Int){x:D×Nat}(hx:x∈aj rows known)(hxr:aV x.1=false):gJ [.tup rows,.int known,.int x.2]=some (.bl (om (aj rows known) (ai 1 x.1) (av x.1) && dh (aj rows known) (ai 1 x.1) (av x.1)),false):=by
 obtain⟨ha,gx⟩:=bf g hx;rw[←y4 g];have hmem:∀y∈cy (aj rows known),y∈aj rows known/\aV y.1=false:=λy hy=>by
  obtain⟨h1,h2⟩:=List.mem_filter.mp ((aH _ _).mem_iff.mp hy);exact⟨h1,by simpa using h2⟩
 generalize hL:cy (aj rows known)=L at hmem;have eo:=uc g known;rw[hL]at eo;obtain⟨ρ',e,v5,v6,rfl⟩:=cQ (tg:=tgN 5) (g:=nQ) (λj ρ=>∃v5 v6:Option (D×Bool),ρ=(rkE rows known [some (.int x.2,false),some (aD x.1,false),some (.bl (kK (L.take j) (ai 1 x.1) (av x.1)),false),v5,v6])) (L.map λx=>.int x.2)
  (rkE rows known [some (.int x.2,false),some (aD x.1,false),some (.bl true,false),none,none]) ⟨none,none,rfl⟩ (by
   rintro j d ρ hd ⟨v5,v6,rfl⟩;rw[List.getElem?_map]at hd;obtain⟨y,hy,rfl⟩:=oY hd;obtain⟨hy1,hy2⟩:=hmem y (List.mem_of_getElem? hy);obtain⟨hya,gy⟩:=bf g hy1;have et:L.take (j+1)=L.take j++[y]:=by rw[List.take_add_one,hy];rfl
   generalize hb:kK (L.take j) (ai 1 x.1) (av x.1)=b0;refine⟨_,(rkE rows known [some (.int x.2,false),some (aD x.1,false),some (.bl (kK (L.take (j+1)) (ai 1 x.1) (av x.1)),false),some (.int y.2,false),some (aD y.1,false)]),rfl,.inl ?_,_,_,rfl⟩;refine rfF (aD y.1) (eoF y.1 (.int 1) (eoF (.tup rows) (.int y.2) rfl rfl (by simp[hya])) rfl (oy gy)) (rC gy) ?_;let ρ1:DL.Env:=(rkE rows known [some (.int x.2,false),some (aD x.1,false),some (.bl b0,false),some (.int y.2,false),some (aD y.1,false)]);have ek:ixV 6 0 ρ1=some (.str (kindOf y.1),false):=eoF (aD y.1) (.int 0) rfl rfl (oz gy);have ec:aY (tOf (f2 dIn (ixV 6 0) (fA aI (ab (fC (.str "lost")) (ab (fC (.str "found")) ak))))) (aY (tOf (f2 dEq (ixV 6 2) (ixV 3 2))) (tOf (f2 dLe (ixV 6 1) (ixV 3 1)))) ρ1=some (told fF (ai 1 x.1) (av x.1) y.1):=by
    rw[mz gq gy];exact bj (tkF (eoF (.str (kindOf y.1)) (.tup (fF.map .str)) ek (cdD (fF.map .str) rfl (cx _ (by simp[fF]))) (kE _ _))) λ_=>bj (tkF (eoF (.str (ai 1 y.1)) (.str (ai 1 x.1)) (eoF (aD y.1) (.int 2) rfl rfl (qi gy hy2)) (eoF (aD x.1) (.int 2) rfl rfl (qi gx hxr)) (by simp))) λ_=>tkF (eoF (.int (av y.1)) (.int (av x.1)) (eoF (aD y.1) (.int 1) rfl rfl (o0 gy hy2)) (eoF (aD x.1) (.int 1) rfl rfl (o0 gx hxr)) (by simp))
   cases ht:told fF (ai 1 x.1) (av x.1) y.1 with
   |true=>
    have en:kK (L.take (j+1)) (ai 1 x.1) (av x.1)=decide (kindOf y.1=("found" : Str)):=by
     unfold kK;rw[et,List.filter_append,List.filter_cons_of_pos (p:=λz:D×Nat=>told fF (ai 1 x.1) (av x.1) z.1) ht,List.filter_nil,List.getLast?_append];rfl
    rw[en];exact fz (by rw[←ht];exact ec) (tG (d:=.bl (decide (kindOf y.1=("found" : Str)))) (b:=false) (eoF (.str (kindOf y.1)) (.str "found") ek rfl (by simp)) rfl)
   |false=>
    have en:kK (L.take (j+1)) (ai 1 x.1) (av x.1)=b0:=by
     rw[←hb];unfold kK;rw[et,List.filter_append,List.filter_cons_of_neg (by rw[ht];decide),List.filter_nil,List.append_nil]
    rw[en];exact ca (by rw[←ht];exact ec) rfl)
 have hall:L.take (L.map λx=>D.int x.2).length=L:=by rw[List.length_map,List.take_length]
 rw[hall]at e;refine a8 rfl (rfF (aD x.1) (eoF x.1 (.int 1) (eoF (.tup rows) (.int x.2) rfl rfl (by simp[ha])) rfl (oy gx)) (rC gx) (rfF (.bl true) rfl rfl (bz (d9 (ds:=L.map λx=>.int x.2) ?_ e) (aK (j9 (b1:=false) rfl λ_=>cdD [.tup rows,.int known,.str (ai 1 x.1),.int (av x.1)] (acF rfl (acF rfl (acF (eoF (aD x.1) (.int 2) rfl rfl (qi gx hxr)) (acF (eoF (aD x.1) (.int 1) rfl rfl (o0 gx hxr)) rfl)))) (qj g known _ _))))));show(fA dJ (ab (af 0) (ab (af 1) ak)) _).bind _=_;rw[cdD [.tup rows,.int known] rfl eo];rfl
noncomputable def dM (a b:Cl):Prop:=a.s<b.s∨(a.s=b.s/\a.n<b.n)
instance (a b:Cl):Decidable (dM a b):=by unfold dM;infer_instance
noncomputable def kT (c:Cl):List At:=[.i c.s,.i c.n,.s c.p]
noncomputable def tL (c:Cl):List D:=[.int c.s,.int c.n,.str c.p]
theorem Cg (a b:Cl):aO (kS a) (kS b)=some true↔dM a b:=by
 unfold kS dM;rw[Ew];simp only[Option.some.injEq,decide_eq_true_eq];omega
theorem gQ:∀(r:List Cl)(b:Cl),∀y∈b::r,¬dM y (iu b r)
 |[],b,y,hy=>by rw[List.mem_singleton.mp hy];unfold dM iu;omega
 |x::r,b,y,hy=>by
  rw[iu];by_cases h:dM x b
  ·rw[if_pos ((Cg x b).mpr h)];rcases List.mem_cons.mp hy with rfl|hy
   ·have:=gQ r x x mX;unfold dM at *;omega
   ·exact gQ r x y hy
  ·rw[if_neg λz=>h ((Cg x b).mp z)];rcases List.mem_cons.mp hy with rfl|hy
   ·exact gQ r _ _ mX
   ·rcases List.mem_cons.mp hy with rfl|hy
    ·have:=gQ r b b mX;unfold dM at *;omega
    ·exact gQ r b y (mZ _ hy)
theorem gR:∀(r:List Cl)(b:Cl),∀y∈b::r,¬dM (jk b r) y
 |[],b,y,hy=>by rw[List.mem_singleton.mp hy];unfold dM jk;omega
 |x::r,b,y,hy=>by
  rw[jk];by_cases h:dM b x
  ·rw[if_pos ((Cg b x).mpr h)];rcases List.mem_cons.mp hy with rfl|hy
   ·have:=gR r x x mX;unfold dM at *;omega
   ·exact gR r x y hy
  ·rw[if_neg λz=>h ((Cg b x).mp z)];rcases List.mem_cons.mp hy with rfl|hy
   ·exact gR r _ _ mX
   ·rcases List.mem_cons.mp hy with rfl|hy
    ·have:=gR r b b mX;unfold dM at *;omega
    ·exact gR r b y (mZ _ hy)
theorem Ez (a b:Cl)(hn:a.n≠b.n):aO (kT a) (kT b)=some (decide (dM a b)):=by
 unfold kT;by_cases e:a.s=b.s
 ·rw[aO,if_pos e,aO,if_neg (by omega)];congr 1;exact decide_eq_decide.mpr (by unfold dM;omega)
 ·rw[aO,if_neg e];congr 1;exact decide_eq_decide.mpr (by unfold dM;omega)
theorem xq (cs:List Cl):c9 (cs.map kT)=true:=by
 have h:∀a b:Cl,(aO (kT a) (kT b)).isSome=true:=λa b=>by
  unfold kT;rw[aO];split
  ·rw[aO];split
   ·rw[aO];split
    ·rw[aO];rfl
    ·rfl
   ·rfl
  ·rfl
 unfold c9;simp[List.all_eq_true,h]
noncomputable def srt (al:List Cl):List Cl:=cR (λc=>bp (kT c)) al
theorem ue {al:List Cl}(hn:al.Pairwise λa b=>a.n≠b.n):(srt al).Pairwise dM:=by
 have p:=aH (λc=>bp (kT c)) al;have hd:(srt al).Pairwise λa b=>a.n≠b.n:=(List.Perm.pairwise_iff (λh e=>h e.symm) p.symm).mp hn;refine List.Pairwise.imp_of_mem ?_ ((cH (λc=>bp (kT c)) al).and hd);rintro a b _ _ ⟨h3,h4⟩;have h3:¬bp (kT b)<bp (kT a):=h3;have e:=hW _ _ _ (Ez b a (Ne.symm h4));rw[decide_eq_false h3]at e;have e:¬dM b a:=of_decide_eq_false e;unfold dM at *;omega
theorem Ax {b:Cl}{r:List Cl}(hn:(b::r).Pairwise λa b=>a.n≠b.n):(srt (b::r)).head? = some (iu b r):=by
 have p:(srt (b::r)).Perm (b::r):=aH (λc=>bp (kT c)) (b::r);have hl:=ue hn;cases hs:srt (b::r) with
 |nil=>rw[hs]at p;exact absurd p.length_eq (by simp)
 |cons m l=>
  rw[hs]at p hl;have h1:=gQ r b m (p.mem_iff.mp mX);rcases List.mem_cons.mp (p.mem_iff.mpr (kG r b))with h|h
  ·rw[h];rfl
  ·exact absurd ((List.pairwise_cons.mp hl).1 _ h) h1
theorem Ay {b:Cl}{r:List Cl}(hn:(b::r).Pairwise λa b=>a.n≠b.n):(srt (b::r)).getLast? = some (jk b r):=by
 have p:(srt (b::r)).Perm (b::r):=aH (λc=>bp (kT c)) (b::r);have hl:=ue hn;have hne:srt (b::r)≠[]:=λh=>by rw[h]at p;exact absurd p.length_eq (by simp)
 have e:=List.getLast?_eq_some_getLast hne;generalize (srt (b::r)).getLast hne=m at e;rw[e];have h1:=gR r b m (p.mem_iff.mp (List.mem_of_getLast? e));rcases qk hl e (jk b r) (p.mem_iff.mpr (kH r b))with h|h
 ·rw[h]
 ·exact absurd h h1
theorem o3:∀(ss ts:List Str)(z:Str),z∈ts∨z∈ss->z∈ss.foldl gA ts
 |[],ts,z,h=>by rcases h with h|h;exact h;cases h
 |a::ss,ts,z,h=>by
  rw[List.foldl_cons];refine o3 ss _ z ?_;rcases h with h|h
  ·exact .inl (iM.mpr (.inl h))
  ·rcases List.mem_cons.mp h with h|h
   ·exact .inl (iM.mpr (.inr h))
   ·exact .inr h
theorem xr {cs:List Cl}{c:Cl}(h:c∈cs):c.p∈gO cs:=(bX _).mem_iff.mpr (o3 _ _ _ (.inr (List.mem_map.mpr ⟨c,h,rfl⟩)))
theorem Ch {cs:List Cl}{z:Str}(h:z∈gO cs):∃c∈cs,c.p=z:=by
 rcases gc _ _ _ ((bX _).mem_iff.mp h)with h|h
 ·cases h
 ·obtain⟨c,h1,h2⟩:=List.mem_map.mp h;exact⟨c,h1,h2⟩
theorem y7 (cs:List Cl):(gO cs).Nodup:=(bX _).nodup_iff.mpr (eU _ [] List.nodup_nil)
noncomputable def vE (rl p:Str)(S:List Cl):Bool:=match S with
 |[]=>false
 |b::r=>if rl=("open" : Str)then (b::r).all λc=>decide (c.p=p)else if rl=("last" : Str)then decide (((b::r).getLast (by simp)).p=p)else decide (b.p=p)
theorem Az (q p:Str)(n:Int):eqD (pZ (.tup [.str "one",.str q,.int n])) (.tup [.str "one",.str p])=decide (q=p):=by
 show eqD (.tup [.str "one",.str q]) (.tup [.str "one",.str p])=_;simp[eqD,dq]
theorem o4 {al:List Cl}(hn:al.Pairwise λa b=>a.n≠b.n)(rl p:Str):eqD (pZ (iT rl al)) (.tup [.str "one",.str p])=vE rl p (srt al):=by
 cases al with
 |nil=>rfl
 |cons b r=>
  have pm:(srt (b::r)).Perm (b::r):=aH (λc=>bp (kT c)) (b::r);have h1:=Ax hn;have h2:=Ay hn;generalize srt (b::r)=S at pm h1 h2;cases S with
  |nil=>cases h1
  |cons m l=>
   have hm:m=iu b r:=Option.some.inj h1;have hl:(m::l).getLast (by simp)=jk b r:=by
    rw[List.getLast?_eq_some_getLast (by simp)]at h2;exact Option.some.inj h2
   rw[iT];unfold vE;dsimp only;by_cases ho:rl=("open" : Str)
   ·rw[if_pos ho];by_cases h1:1<(gO (b::r)).length
    ·rw[if_pos ⟨h1,ho⟩];have:(m::l).all (λc=>decide (c.p=p))=false:=by
      rw[←Bool.not_eq_true,List.all_eq_true];intro h;have hs:∀z∈gO (b::r),z∈[p]:=λz hz=>by
       obtain⟨c,hc,rfl⟩:=Ch hz;exact List.mem_singleton.mpr (of_decide_eq_true (h c (pm.mem_iff.mpr hc)))
      have:=lz _ _ (y7 (b::r)) hs;simp at this;omega
     rw[this];show eqD (.tup [.str "parted",_]) (.tup [.str "one",.str p])=_;simp[eqD,dq]
    ·rw[if_neg λz=>h1 z.1,Az];have hall:∀c∈b::r,c.p=(gb rl b r).p:=λc hc=>by
      have k1:=xr hc;have k2:=xr (pY rl b r);cases hp:gO (b::r) with
      |nil=>rw[hp]at k1;cases k1
      |cons z t=>
       rw[hp]at h1 k1 k2;cases t with
       |nil=>rw[List.mem_singleton.mp k1,List.mem_singleton.mp k2]
       |cons=>simp at h1
     rw[Bool.eq_iff_iff,decide_eq_true_eq,List.all_eq_true];constructor
     ·intro h c hc;exact decide_eq_true (by rw[hall c (pm.mem_iff.mp hc),h])
     ·intro h;rw[←hall m (pm.mem_iff.mp mX)];exact of_decide_eq_true (h m mX)
   ·rw[if_neg λz=>ho z.2,if_neg ho,Az];unfold gb;by_cases hla:rl=("last" : Str)
    ·rw[if_pos hla,if_pos hla,hl]
    ·rw[if_neg hla,if_neg hla,hm]
theorem rS {α:Type}(xs:List α):atI xs (-1)=xs.getLast?:=by
 rw[List.getLast?_eq_getElem?];unfold atI ixN;cases xs with
 |nil=>rfl
 |cons a l=>
  rw[if_neg (by decide),if_pos (by simp;omega),Option.bind_some];congr 1;simp;omega
theorem Ge {so:List Cl}(hso:so.length<=60)(o:Str)(day:Int){ρ:DL.Env}(h0:af 0 ρ=some (.lst (so.map clD),false))(h2:ρ[2]? = some (some (.str o,false)))(h4:ρ[4]? = some (some (.int day,false))):
  bS (bV (af 0)) 1 [2,4] (tgN 0) (aY (tOf (f2 dEq (ixV 0 0) (af 1))) (aY (tOf (f2 dLe (ixV 0 2) (af 2))) (dj (tOf (f2 dIs (ixV 0 3) (fC .non))) (tOf (f2 dLt (af 2) (ixV 0 3)))))) (af 0) ρ=some (.lst ((alL so o day).map clD),true):=by
 refine iC so clD (λc=>decide (c.o=o) && bU c day) clD (by show(af 0 ρ).bind _=_;rw[h0];rfl) (by omega) λc _=>?_;let ρ1:DL.Env:=[some (clD c,false),some (.str o,false),some (.int day,false)];have q0:ixV 0 0 ρ1=some (.str c.o,false):=eoF (clD c) (.int 0) rfl rfl (cl0 c);have q2:ixV 0 2 ρ1=some (.int c.s,false):=eoF (clD c) (.int 2) rfl rfl (cl2 c);have q3:ixV 0 3 ρ1=some (uD c.u,false):=eoF (clD c) (.int 3) rfl rfl (cl3 c);refine⟨ρ1,by simp[bW,h2,h4,ρ1],bj (tkF (eoF (.str c.o) (.str o) q0 rfl (by simp))) λ_=>bj (tkF (eoF (.int c.s) (.int day) q2 rfl (by simp))) λ_=>?_,λ_=>⟨false,rfl⟩⟩;cases hu:c.u with
 |none=>
  rw[hu]at q3;exact cB (p:=true) (q:=true) (tkF (eoF .non .non q3 rfl (by simp))) (by simp)
 |some x=>
  rw[hu]at q3;exact cB (p:=false) (q:=decide (day<x)) (tkF (eoF (.int x) .non q3 rfl (by simp))) λ_=>tkF (eoF (.int day) (.int x) rfl q3 (by simp))
theorem y8 (so:List Cl)(hso:so.length<=60)(hnd:(so.map λc=>(c.o,c.n)).Nodup){rk:List Key}{rv:List D}(o p:Str)(day:Int){rl:Option Str}(hrl:bv rk rv (.inr o)=rl.map .str):
  gK [.lst (so.map clD),.dk rk rv,.str o,.str p,.int day]=some (.bl (rl.any λz=>gP so o z p day),false):=by
 have hn:(alL so o day).Pairwise λa b=>a.n≠b.n:=by
  have h1:(alL so o day).Pairwise λa b=>(a.o,a.n)≠(b.o,b.n):=(List.pairwise_map.mp hnd).filter _;refine List.Pairwise.imp_of_mem ?_ h1;intro a b ha hb h e;have h2:=(List.mem_filter.mp ha).2;have h3:=(List.mem_filter.mp hb).2;simp only[Bool.and_eq_true,decide_eq_true_eq]at h2 h3;exact h (by rw[h2.1,h3.1,e])
 have hR:∀z,gP so o z p day=vE z p (srt (alL so o day)):=λz=>o4 hn z p;have e1:=Ge hso o day (ρ:=[some (.lst (so.map clD),false),some (.dk rk rv,false),some (.str o,false),some (.str p,false),some (.int day,false),none]) rfl rfl rfl;have hal:(alL so o day).length<=60:=Nat.le_trans (List.length_filter_le _ _) hso;have hSl:(srt (alL so o day)).length<=60:=by rw[show(srt (alL so o day)).length=_ from(aH _ _).length_eq];exact hal
 have e2:=ky (fi:=bV (af 5)) (nT:=1) (cap:=[]) (tg:=tgN 0) (fe:=fA aI (ab (ixV 0 2) (ab (ixV 0 4) (ab (ixV 0 1) ak)))) (ρ:=[some (.lst (so.map clD),false),some (.dk rk rv,false),some (.str o,false),some (.str p,false),some (.int day,false),some (.lst ((alL so o day).map clD),true)]) (alL so o day) clD (λc=>.tup (tL c)) (by simp) (by omega) λc _=>
  ⟨[some (clD c,false)],rfl,false,cdD (tL c) (acF (eoF (clD c) (.int 2) rfl rfl (cl2 c)) (acF (eoF (clD c) (.int 4) rfl rfl (cl4 c)) (acF (eoF (clD c) (.int 1) rfl rfl (cl1 c)) rfl))) (cx _ (by simp[tL]))⟩
 have e3:=jG (alL so o day) tL kT (λ_ _=>rfl) hal (xq _) (by
  unfold bT;rw[Bool.or_eq_true];left;simp[List.all_eq_true,kT])
 generalize hS:cR (λc=>bp (kT c)) (alL so o day)=S at e3;have hS':srt (alL so o day)=S:=hS;rw[hS']at hR hSl;have e4:=kx (F:=dw) (aw e2 (show ak _=some []from rfl)) e3;have hfl:b7 (S.map λc=>D.tup (tL c))=true:=cL λd hd=>by obtain⟨c,_,rfl⟩:=List.mem_map.mp hd;rfl
 have hpl:am 40 (.lst (S.map λc=>D.tup (tL c)))=true:=by
  show(S.map λc=>D.tup (tL c)).all (am 39)=true;rw[List.all_map,List.all_eq_true];exact λc _=>rfl
 rw[show(rl.any λz=>gP so o z p day)=rl.any λz=>vE z p S from by congr 1;funext z;exact hR z];let ρ2:DL.Env:=[some (.lst (so.map clD),false),some (.dk rk rv,false),some (.str o,false),some (.str p,false),some (.int day,false),some (.lst (S.map λc=>.tup (tL c)),true)];have c1:tOf (f2 dEq (af 5) (fA bq ak)) ρ2=some S.isEmpty:=tkF (fZ (x:=.lst (S.map λc=>.tup (tL c))) (y:=.lst []) (b1:=false) (b2:=true) rfl rfl (by
  unfold dEq;rw[if_pos ⟨hpl,rfl⟩];cases S<;>simp[eqD,dq]))
 have c2:tOf (f2 lm (af 2) (af 1)) ρ2=some (!rl.isSome):=tkF (eoF (.str o) (.dk rk rv) rfl rfl (by
  simp only[lm,gF,Option.map_some];rw[hrl];cases rl<;>rfl))
 refine a8 rfl (bP e1 (cE _) (bP e4 hfl ?_));show aA _ _ ρ2=_;have c3:=cB c1 λ_=>c2;cases S with
 |nil=>
  have:(rl.any λz=>vE z p [])=false:=by cases rl<;>rfl
  rw[this];exact dW c3 rfl
 |cons m l=>
  cases rl with
  |none=>exact dW c3 rfl
  |some z=>
   refine ce c3 ?_;have ek:f2 ixK (af 1) (af 2) ρ2=some (.str z,false):=eoF (.dk rk rv) (.str o) rfl rfl (by
    simp only[ixK,gF,Option.bind_some];rw[hrl];rfl)
   show aA _ _ ρ2=some (.rt (.bl (vE z p (m::l))) false);unfold vE;dsimp only;by_cases ho:z=("open" : Str)
   ·rw[if_pos ho];refine dW (bD (bb:=false) ek (decide_eq_true ho)) (aK ?_);have e5:=ky (fi:=bV (af 5)) (nT:=1) (cap:=[3]) (tg:=tgN 0) (fe:=f2 dEq (ixV 0 2) (af 1)) (ρ:=ρ2) (m::l) (λc=>.tup (tL c)) (λc=>.bl (decide (c.p=p))) rfl (by omega) λc _=>⟨[some (.tup (tL c),false),some (.str p,false)],rfl,false,eoF (.str c.p) (.str p) (eoF (.tup (tL c)) (.int 2) rfl rfl (by simp[tL,at2])) rfl (by simp)⟩;refine kx (aw e5 (show ak _=some []from rfl)) ?_;show(qN _).map _=_;rw[Ac,Option.map_some,List.all_map];rfl
   ·rw[if_neg ho];refine ce (bD (bb:=false) ek (decide_eq_false ho)) (aK ?_);have ei:f2 ixD (fA bq (ab (fC (.int 0)) (ab (f1 xU (fC (.int 1))) ak))) (fA lZ (ab (f2 dEq (f2 ixK (af 1) (af 2)) (fC (.str "last"))) ak)) ρ2=some (.int (if z=("last" : Str)then -1 else 0),false):=by
     refine fZ (x:=.lst [.int 0,.int (-1)]) (y:=.int (if z=("last" : Str)then 1 else 0)) (b1:=true) (b2:=false) rfl (cdD [.bl (decide (z=("last" : Str)))] (acF (eoF (.str z) (.str "last") ek rfl (by simp)) rfl) (by simp)) ?_;split
     ·simp[at1]
     ·simp[at0]
    by_cases hla:z=("last" : Str)
    ·rw[if_pos hla];rw[if_pos hla]at ei;refine eoF (.str ((m::l).getLast (by simp)).p) (.str p) (eoF (.tup (tL ((m::l).getLast (by simp)))) (.int 2) (eoF (.lst ((m::l).map λc=>.tup (tL c))) (.int (-1)) rfl ei ?_) rfl (by simp[tL,at2])) rfl (by simp);show(atI _ _).map _=_;rw[rS,List.getLast?_map,List.getLast?_eq_some_getLast (by simp)];rfl
    ·rw[if_neg hla];rw[if_neg hla]at ei;exact eoF (.str m.p) (.str p) (eoF (.tup (tL m)) (.int 2) (eoF (.lst ((m::l).map λc=>.tup (tL c))) (.int 0) rfl ei (by simp[at0])) rfl (by simp[tL,at2])) rfl (by simp)
noncomputable def ofD:Option Str->D
 |none=>.non
 |some o=>.str o
noncomputable def ql (c:Cl)(day:Int):Bool:=match c.u with
 |none=>true
 |some x=>decide (day<x)
theorem Ci {c:Cl}(hw:∀x,c.u=some x->c.s<x)(day:Int):(bU c day || decide (day<c.s))=ql c day:=by
 unfold bU ql;cases hu:c.u with
 |none=>
  dsimp only;rw[Bool.and_true,Bool.or_eq_true,decide_eq_true_eq,decide_eq_true_eq];omega
 |some x=>
  have:=hw x hu;dsimp only;rw[Bool.eq_iff_iff];simp only[Bool.or_eq_true,Bool.and_eq_true,decide_eq_true_eq];omega
theorem xu (so:List Cl)(hso:so.length<=60)(hw:∀c∈so,∀x,c.u=some x->c.s<x)(of:Option Str)(offs:List Str)(hof:∀c∈so,(of.isNone || decide (of=some c.o))=decide (c.o∈offs))(p:Str)(day:Int):io [.lst (so.map clD),ofD of,.str p,.int day]=some (.lst ((aR so offs p day).map clD),true):=by
 obtain⟨ρ',e,v5,rfl⟩:=cQ (tg:=tgN 5) (g:=tO) (λj ρ=>∃v5:Option (D×Bool),ρ=[some (.lst (so.map clD),false),some (ofD of,false),some (.str p,false),some (.int day,false),some (.lst ((aR (so.take j) offs p day).map clD),true),v5]) (so.map clD)
  [some (.lst (so.map clD),false),some (ofD of,false),some (.str p,false),some (.int day,false),some (.lst [],true),none] ⟨none,rfl⟩ (by
   rintro j d ρ hd ⟨v5,rfl⟩;rw[List.getElem?_map]at hd;obtain⟨c,hc,rfl⟩:=oY hd;have hj:j<so.length:=(List.getElem?_eq_some_iff.mp hc).1;have hcm:=List.mem_of_getElem? hc;have et:aR (so.take (j+1)) offs p day=aR (so.take j) offs p day++cr offs p day c:=by
    unfold aR;rw[List.take_add_one,hc,Option.toList_some,List.flatMap_append,List.flatMap_cons,List.flatMap_nil,List.append_nil]
   have hlen:(aR (so.take j) offs p day).length<=60:=Nat.le_trans (cM offs p day _) (by rw[List.length_take];omega);let ρ1:DL.Env:=[some (.lst (so.map clD),false),some (ofD of,false),some (.str p,false),some (.int day,false),some (.lst ((aR (so.take j) offs p day).map clD),true),some (clD c,false)];have q0:ixV 5 0 ρ1=some (.str c.o,false):=eoF (clD c) (.int 0) rfl rfl (cl0 c);have q1:ixV 5 1 ρ1=some (.str c.p,false):=eoF (clD c) (.int 1) rfl rfl (cl1 c);have q2:ixV 5 2 ρ1=some (.int c.s,false):=eoF (clD c) (.int 2) rfl rfl (cl2 c);have q3:ixV 5 3 ρ1=some (uD c.u,false):=eoF (clD c) (.int 3) rfl rfl (cl3 c);have q4:ixV 5 4 ρ1=some (.int c.n,false):=eoF (clD c) (.int 4) rfl rfl (cl4 c);have hcond:aY (dj (tOf (f2 dIs (af 1) (fC .non))) (tOf (f2 dEq (ixV 5 0) (af 1)))) (aY (tOf (f2 dEq (ixV 5 1) (af 2))) (dj (tOf (f2 dIs (ixV 5 3) (fC .non))) (tOf (f2 iGt (ixV 5 3) (af 3))))) ρ1=some (decide (c.o∈offs) && (decide (c.p=p) && (bU c day || decide (day<c.s)))):=by
    rw[Ci (hw c hcm),←hof c hcm];refine bj ?_ λ_=>bj (tkF (eoF (.str c.p) (.str p) q1 rfl (by simp))) λ_=>?_
    ·cases of with
     |none=>exact cB (p:=true) (q:=true) (tkF (eoF .non .non rfl rfl (by simp))) (by simp)
     |some o=>exact cB (p:=false) (q:=decide (some o=some c.o)) (tkF (eoF (.str o) .non rfl rfl (by simp[sA]))) λ_=>tkF (eoF (.str c.o) (.str o) q0 rfl (by simp[eq_comm]))
    ·unfold ql;cases hu:c.u with
     |none=>
      rw[hu]at q3;exact cB (p:=true) (q:=true) (tkF (eoF .non .non q3 rfl (by simp))) (by simp)
     |some x=>
      rw[hu]at q3;exact cB (p:=false) (q:=decide (day<x)) (tkF (eoF (.int x) .non q3 rfl (by simp))) λ_=>tkF (eoF (.int x) (.int day) q3 rfl (by simp))
   have hneg:(!decide (c.o∈offs) || (!decide (c.p=p) || !(bU c day || decide (day<c.s)))) = !(decide (c.o∈offs) && (decide (c.p=p) && (bU c day || decide (day<c.s)))):=by
    rw[Bool.not_and,Bool.not_and]
   by_cases h1:(decide (c.o∈offs) && (decide (c.p=p) && (bU c day || decide (day<c.s))))=true
   ·rw[h1]at hcond hneg;have hcp:c.p=p:=by
     simp only[Bool.and_eq_true,decide_eq_true_eq]at h1;exact h1.2.1
    by_cases h2:c.s<day
    ·have eo:cr offs p day c=[⟨c.o,c.p,c.s,some day,c.n⟩]:=by unfold cr;rw[if_neg (by rw[hneg];decide),if_pos h2,hcp]
     refine⟨_,_,rfl,.inl (fz hcond (fz (tkF (eoF (.int c.s) (.int day) q2 rfl (by simp[h2]))) (dX (ds:=(aR (so.take j) offs p day).map clD) (d:=clD ⟨c.o,c.p,c.s,some day,c.n⟩) (b:=false) rfl (cdD [.str c.o,.str c.p,.int c.s,.int day,.int c.n] (aw q0 (aw q1 (aw q2 (acF rfl (aw q4 rfl))))) (cx _ (by simp))) (f6 _) (bg (by simp;omega))))),some (clD c,false),?_⟩;rw[et,eo,List.map_append];rfl
    ·have eo:cr offs p day c=[]:=by unfold cr;rw[if_neg (by rw[hneg];decide),if_neg h2]
     refine⟨_,_,rfl,.inl (fz hcond (ca (tkF (eoF (.int c.s) (.int day) q2 rfl (by simp;omega))) rfl)),some (clD c,false),?_⟩;rw[et,eo,List.append_nil];rfl
   ·rw[Bool.not_eq_true]at h1;rw[h1]at hcond hneg;have eo:cr offs p day c=[c]:=by unfold cr;rw[if_pos (by rw[hneg];rfl)]
    refine⟨_,_,rfl,.inl (ca hcond (dX (ds:=(aR (so.take j) offs p day).map clD) (d:=clD c) (b:=false) rfl rfl (f6 c) (bg (by simp;omega)))),some (clD c,false),?_⟩;rw[et,eo,List.map_append];rfl)
 have hall:so.take (so.map clD).length=so:=by rw[List.length_map,List.take_length]
 rw[hall]at e;exact a8 rfl (bP (ds:=[]) (by simp[sizeLine]) rfl (bz (d9 (ds:=so.map clD) (by simp[mG]) e) (ko rfl)))
theorem y9 {κ α β:Type}[DecidableEq κ](f:α->β)(ks:List κ)(k:κ)(x:α)(xs:List α):cw ks (xs.map f) k (f x)=(cw ks xs k x).map f:=by
 unfold cw;split
 ·rw[List.map_zipWith,List.zipWith_map_right];congr 1;funext a b;split<;>rfl
 ·rw[List.map_append];rfl
theorem ug (f:D->D)(k:Key):∀(ks:List Key)(vs:List D),bv ks (vs.map f) k=(bv ks vs k).map f
 |[],_=>by simp[bv]
 |a::ks,[]=>by simp[bv]
 |a::ks,v::vs=>by
  rw[List.map_cons,bv,bv];split
  ·rfl
  ·exact ug f k ks vs
noncomputable def dE (v:D):Key:=.inr (ai 0 v)
noncomputable def cf (K:KL):List D:=(bw (cV K)).2
theorem uh {vs:List D}{x:D}:cA (vs.map dE) (dE x)=(cw (vs.map dE) vs (dE x) x).map dE:=by
 unfold cA cw;split
 ·rw[List.zipWith_map_left,List.zipWith_self,List.map_map];refine List.map_congr_left λv _=>?_;show dE v=dE (if dE v=dE x then x else v);split
  ·assumption
  ·rfl
 ·rw[List.map_append];rfl
theorem yA {ks:List Key}{k:Key}(h:ks.Nodup):(cA ks k).Nodup:=by
 unfold cA;split
 ·exact h
 ·rename_i hk;exact List.nodup_append.mpr ⟨h,by simp,λa ha b hb e=>hk (by rw[←List.mem_singleton.mp hb,←e];exact ha)⟩
theorem qm:∀(l:List D)(a:List Key×List D),a.1=a.2.map dE->a.1.Nodup->((l.map λv=>(dE v,v)).foldl kj a).1=((l.map λv=>(dE v,v)).foldl kj a).2.map dE/\((l.map λv=>(dE v,v)).foldl kj a).1.Nodup
 |[],a,h,h'=>⟨h,h'⟩
 |x::l,a,h,h'=>by
  rw[List.map_cons,List.foldl_cons];refine qm l _ ?_ (yA h');show cA a.1 (dE x)=(cw a.1 a.2 (dE x) x).map dE;rw[h];exact uh
theorem iz (K:KL):(bw (cV K)).1=(cf K).map dE/\((cf K).map dE).Nodup:=by
 have e:cV K=((K.filter λx=>aV x.1).map (·.1)).map λv=>(dE v,v):=by unfold cV;rw[List.map_map];rfl
 have:=qm ((K.filter λx=>aV x.1).map (·.1)) ([],[]) rfl List.nodup_nil;unfold cf bw;rw[e];exact⟨this.1,by rw[←this.1];exact this.2⟩
theorem ui {k:Key}{v:D}:∀ {vs:List D},bv (vs.map dE) vs k=some v->dE v=k
 |[],h=>by simp[bv]at h
 |a::vs,h=>by
  rw[List.map_cons,bv]at h;split at h
  ·rename_i e;rw[←Option.some.inj h];exact e
  ·exact ui h
theorem o5 (K:KL)(o:Str):df K o=bv ((cf K).map dE) (cf K) (.inr o):=by unfold df;rw[(iz K).1];rfl
theorem qo {K:KL}{o:Str}{v:D}(h:df K o=some v):ai 0 v=o:=by
 rw[o5]at h;exact Sum.inr.inj (ui h)
noncomputable def A0 (v:D):D:=.str (ai 3 v)
theorem qp (K:KL)(o:Str):bv ((cf K).map dE) ((cf K).map A0) (.inr o)=((df K o).map (ai 3)).map .str:=by
 rw[ug,o5,Option.map_map];rfl
theorem km:∀(l:List (Key×D))(a:List Key×List D),(l.foldl kj a).1.length<=a.1.length+l.length
 |[],a=>Nat.le_refl _
 |x::l,a=>by
  rw[List.foldl_cons];have h1:=km l (kj a x);have h2:(kj a x).1.length<=a.1.length+1:=by
   show(cA a.1 x.1).length<=_;unfold cA;split
   ·omega
   ·simp
  rw[List.length_cons];omega
theorem qq (K:KL):(cf K).length<=K.length:=by
 have h1:=km (cV K) ([],[]);have h2:(bw (cV K)).1.length=(cf K).length:=by rw[(iz K).1,List.length_map]
 have h3:(cV K).length<=K.length:=by unfold cV;rw[List.length_map];exact List.length_filter_le _ _
 have h4:(bw (cV K)).1.length<=0+(cV K).length:=h1;omega
theorem vF (K:KL)(r:D)(n:Nat)(h:aV r=true):cf (K++[(r,n)])=cw ((cf K).map dE) (cf K) (dE r) r:=by
 have e:cV (K++[(r,n)])=cV K++[(dE r,r)]:=by
  unfold cV;rw[List.filter_append,List.filter_cons_of_pos (p:=λx:D×Nat=>aV x.1) h,List.map_append];rfl
 unfold cf;rw[e,j8];show cw (bw (cV K)).1 (bw (cV K)).2 (dE r) r=_;rw[(iz K).1];rfl
theorem vG (K:KL)(x:D×Nat)(h:aV x.1=false):cf (K++[x])=cf K:=by
 have e:cV (K++[x])=cV K:=by
  unfold cV;rw[List.filter_append,List.filter_cons_of_neg (p:=λx:D×Nat=>aV x.1) (by rw[h];decide),List.filter_nil,List.append_nil]
 unfold cf;rw[e]
noncomputable def dF (K:KL):D:=.dk ((cf K).map dE) ((cf K).map A0)
theorem A1 {rows:List D}(g:cU rows)(known:Int):∃v3 v4:Option (D×Bool),eZ (tgT [3,4]) nR rows (rkE rows known [some (.dk [] [],true),none,none,none,none,none,none,none,none,none,none,none])=some (.nx (rkE rows known [some (dF (aj rows known),true),v3,v4,none,none,none,none,none,none,none,none,none])):=by
 let Kj:Nat->KL:=λj=>(rows.zipIdx.take j).filter λx=>decide (aZ x.1<=known);obtain⟨ρ',e,v3,v4,rfl⟩:=cQ (tg:=tgT [3,4]) (g:=nR) (λj ρ=>∃v3 v4:Option (D×Bool),ρ=(rkE rows known [some (dF (Kj j),true),v3,v4,none,none,none,none,none,none,none,none,none])) rows
  (rkE rows known [some (.dk [] [],true),none,none,none,none,none,none,none,none,none,none,none]) ⟨none,none,rfl⟩ (by
   rintro j r ρ hr ⟨v3,v4,rfl⟩;have gr:=g.2 r (List.mem_of_getElem? hr);have hj:j<rows.length:=(List.getElem?_eq_some_iff.mp hr).1;have hl:=g.1;have ez:rows.zipIdx[j]? = some (r,j):=by rw[List.getElem?_zipIdx,hr];simp
   have et:Kj (j+1)=Kj j++[(r,j)].filter λx=>decide (aZ x.1<=known):=by
    show((rows.zipIdx.take (j+1)).filter _)=_;rw[List.take_add_one,ez,Option.toList_some,List.filter_append]
   have hKl:(cf (Kj j)).length<=60:=Nat.le_trans (qq _) (Nat.le_trans (List.length_filter_le _ _) (by rw[List.length_take];omega));let ρ1:DL.Env:=(rkE rows known [some (dF (Kj j),true),some (.int (aZ r),false),some (aD r,false),none,none,none,none,none,none,none,none,none]);have eg:tgT [3,4] r (rkE rows known [some (dF (Kj j),true),v3,v4,none,none,none,none,none,none,none,none,none])=some ρ1:=by
    obtain⟨h,k,aC,rfl,d⟩:=gr;simp[row,dG,aZ,aD,ρ1]
   have ec:aY (tOf (f2 dLe (af 3) (af 1))) (tOf (f2 dEq (ixV 4 0) (fC (.str "root")))) ρ1=some (decide (aZ r<=known) && aV r):=bj (tkF (eoF (.int (aZ r)) (.int known) rfl rfl (by simp))) λ_=>bD (bb:=false) (eoF (aD r) (.int 0) rfl rfl (oz gr)) rfl;refine⟨ρ1,(rkE rows known [some (dF (Kj (j+1)),true),some (.int (aZ r),false),some (aD r,false),none,none,none,none,none,none,none,none,none]),eg,.inl ?_,_,_,rfl⟩;cases hh:decide (aZ r<=known) with
   |false=>
    rw[hh]at ec;have e2:Kj (j+1)=Kj j:=by rw[et,List.filter_cons_of_neg (by rw[hh];decide),List.filter_nil,List.append_nil]
    rw[e2];exact ca ec rfl
   |true=>
    rw[hh]at ec;have e2:Kj (j+1)=Kj j++[(r,j)]:=by rw[et,List.filter_cons_of_pos (by rw[hh]),List.filter_nil]
    rw[e2];cases hi:aV r with
    |false=>
     rw[hi]at ec;unfold dF;rw[vG _ (r,j) hi];exact ca ec rfl
    |true=>
     rw[hi]at ec;unfold dF;rw[vF _ r j hi,←y9 A0,←uh];obtain⟨a,o,rl,m,f,er⟩:=jC gr hi;have k1:ixD (aD r) (.int 1)=some (.str (ai 0 r),false):=by rw[er];simp[row,aD,at1,ai]
     have k4:ixD (aD r) (.int 4)=some (.str (ai 3 r),false):=by rw[er];simp[row,aD,at4,ai]
     refine fz ec ?_;show pH 2 _ _ ρ1=_;unfold pH;show((ixV 4 4 ρ1).bind _)=_;rw[show ixV 4 4 ρ1=_ from eoF (aD r) (.int 4) rfl rfl k4,Option.bind_some,show ixV 4 1 ρ1=_ from eoF (aD r) (.int 1) rfl rfl k1,Option.bind_some];show(if _ then _ else _)=_;rw[if_pos ⟨rfl,bg (by rw[List.length_map];omega)⟩];rfl)
 refine⟨v3,v4,e.trans ?_⟩;have:Kj rows.length=aj rows known:=by
  show((rows.zipIdx.take rows.length).filter _)=_;rw[List.take_of_length_le (by rw[List.length_zipIdx];exact Nat.le_refl _)];rfl
 rw[this]
noncomputable def di (K:KL)(so:List Cl)(hk:List (List Key))(hv:List D)(p:Str)(day:Int)(n:Nat)(o:Str):List Cl:=if(so.any λc=>decide (c.o=o) && (decide (c.p=p) && bU c day))=true then cu K hk hv p day n o else []
theorem qr (K:KL)(so:List Cl)(hk:List (List Key))(hv:List D)(p:Str)(day:Int)(n:Nat)(o:Str):(di K so hk hv p day n o).length<=1:=by
 unfold di;split
 ·exact iw _ _ _ _ _ _ _
 ·simp
theorem A2 {hk:List (List Key)}{hv:List D}(hhv:∀v∈hv,∃s,v=.str s)(o p:Str):(bv hk hv [.inr o,.inr p]).getD .non=match lT hk hv o p with|some h=>D.str h|none=>D.non:=by
 unfold lT;cases h:bv hk hv [.inr o,.inr p] with
 |none=>rfl
 |some v=>
  obtain⟨s,rfl⟩:=hhv v (iU h);rfl
theorem A3 {rows:List D}(g:cU rows)(known:Int)(so:List Cl)(hso:so.length<=60)(hk:List (List Key))(hv:List D)(hhv:∀v∈hv,∃s,v=.str s){x:D×Nat}(hx:x∈aj rows known)(hnr:aV x.1=false)(os:List Str)(hos:os.length<=60)(a2 a3 a7 v10 v11 v12 a13:Option (D×Bool)):
  ∃w10 w11 w12:Option (D×Bool),eZ (tgN 10) gL (os.map .str) (rkE rows known [a2,a3,some (aD x.1,false),some (.lst (so.map clD),true),some (.dt hk hv,true),a7,some (.int x.2,false),some (.lst [],true),v10,v11,v12,a13])=some (.nx (rkE rows known [a2,a3,some (aD x.1,false),some (.lst (so.map clD),true),some (.dt hk hv,true),a7,some (.int x.2,false),some (.lst ((os.flatMap (di (aj rows known) so hk hv (ai 1 x.1) (av x.1) x.2)).map clD),true),w10,w11,w12,a13])):=by
 obtain⟨ha,gx⟩:=bf g hx;generalize hp:ai 1 x.1=p;generalize hd:av x.1=d;let fr:Nat->List Cl:=λj=>(os.take j).flatMap (di (aj rows known) so hk hv p d x.2);obtain⟨ρ',e,w10,w11,w12,rfl⟩:=cQ (tg:=tgN 10) (g:=gL) (λj ρ=>∃w10 w11 w12:Option (D×Bool),ρ=(rkE rows known [a2,a3,some (aD x.1,false),some (.lst (so.map clD),true),some (.dt hk hv,true),a7,some (.int x.2,false),some (.lst ((fr j).map clD),true),w10,w11,w12,a13])) (os.map .str)
  (rkE rows known [a2,a3,some (aD x.1,false),some (.lst (so.map clD),true),some (.dt hk hv,true),a7,some (.int x.2,false),some (.lst [],true),v10,v11,v12,a13]) ⟨v10,v11,v12,rfl⟩ (by
   rintro j z ρ hz ⟨w10,w11,w12,rfl⟩;rw[List.getElem?_map]at hz;obtain⟨o,ho,rfl⟩:=oY hz;have hj:j<os.length:=(List.getElem?_eq_some_iff.mp ho).1;have et:fr (j+1)=fr j++di (aj rows known) so hk hv p d x.2 o:=by
    show(os.take (j+1)).flatMap _=_;rw[List.take_add_one,ho,Option.toList_some,List.flatMap_append,List.flatMap_cons,List.flatMap_nil,List.append_nil]
   have hlen:(fr j).length<=60:=Nat.le_trans (iV _ (qr _ _ _ _ _ _ _) _) (by rw[List.length_take];omega);have k1:∀ {ρ:DL.Env}{i:Nat},af i ρ=some (aD x.1,false)->f2 ixD (af i) (fC (.int 1)) ρ=some (.int d,false):=λh=>eoF (aD x.1) (.int 1) h rfl (by rw[←hd];exact o0 gx hnr);have k2:∀ {ρ:DL.Env}{i:Nat},af i ρ=some (aD x.1,false)->f2 ixD (af i) (fC (.int 2)) ρ=some (.str p,false):=λh=>eoF (aD x.1) (.int 2) h rfl (by rw[←hp];exact qi gx hnr);have m1:=iC (fi:=bV (af 5)) (nT:=1) (cap:=[10,4]) (tg:=tgN 0) (c:=aY (tOf (f2 dEq (fSl (af 0) jn (fU (fC (.int 2)))) (fA aI (ab (af 1) (ab (ixV 2 2) ak))))) (tOf (f2 dLe (ixV 0 2) (ixV 2 1)))) (fe:=af 0) (ρ:=(rkE rows known [a2,a3,some (aD x.1,false),some (.lst (so.map clD),true),some (.dt hk hv,true),a7,some (.int x.2,false),some (.lst ((fr j).map clD),true),some (.str o,false),w11,w12,a13])) so clD (λc=>(decide (c.o=o) && decide (c.p=p)) && decide (c.s<=d)) clD rfl (by omega) λc _=>by
     let ρ1:DL.Env:=[some (clD c,false),some (.str o,false),some (aD x.1,false)];refine⟨ρ1,rfl,bj (tkF (eoF (.tup [.str c.o,.str c.p]) (.tup [.str o,.str p]) rfl (cdD [.str o,.str p] (acF rfl (aw (k2 rfl) rfl)) (cx _ (by simp))) ?_)) (λ_=>tkF (eoF (.int c.s) (.int d) (eoF (clD c) (.int 2) rfl rfl (cl2 c)) (k1 rfl) (by simp))),λ_=>⟨false,rfl⟩⟩;unfold dEq;rw[if_pos ⟨rfl,rfl⟩];simp[eqD,dq]
   have m2:=iC (fi:=bV (af 11)) (nT:=1) (cap:=[4]) (tg:=tgN 0) (c:=dj (tOf (f2 dIs (ixV 0 3) (fC .non))) (tOf (f2 dLt (ixV 1 1) (ixV 0 3)))) (fe:=af 0) (ρ:=(rkE rows known [a2,a3,some (aD x.1,false),some (.lst (so.map clD),true),some (.dt hk hv,true),a7,some (.int x.2,false),some (.lst ((fr j).map clD),true),some (.str o,false),some (.lst ((so.filter λc=>(decide (c.o=o) && decide (c.p=p)) && decide (c.s<=d)).map clD),true),w12,a13])) (so.filter λc=>(decide (c.o=o) && decide (c.p=p)) && decide (c.s<=d)) clD (λc=>ql c d) clD rfl (Nat.le_trans (List.length_filter_le _ _) (by omega)) λc _=>by
     let ρ1:DL.Env:=[some (clD c,false),some (aD x.1,false)];have q3:ixV 0 3 ρ1=some (uD c.u,false):=eoF (clD c) (.int 3) rfl rfl (cl3 c);refine⟨ρ1,rfl,?_,λ_=>⟨false,rfl⟩⟩;unfold ql;cases hu:c.u with
     |none=>
      rw[hu]at q3;exact cB (p:=true) (q:=true) (tkF (eoF .non .non q3 rfl (by simp))) (by simp)
     |some u=>
      rw[hu]at q3;exact cB (p:=false) (q:=decide (d<u)) (tkF (eoF (.int u) .non q3 rfl (by simp))) λ_=>tkF (eoF (.int d) (.int u) (k1 rfl) q3 (by simp))
   generalize hM:((so.filter λc=>(decide (c.o=o) && decide (c.p=p)) && decide (c.s<=d)).filter λc=>ql c d)=M at m2;have hMe:(so.any λc=>decide (c.o=o) && (decide (c.p=p) && bU c d)) = !M.isEmpty:=by
    rw[←hM,List.filter_filter,Bool.eq_iff_iff,List.any_eq_true];rw[Bool.not_eq_true',List.isEmpty_eq_false_iff];constructor
    ·rintro⟨c,hc,h⟩ z;refine List.filter_eq_nil_iff.mp z c hc ?_;simp only[Bool.and_eq_true]at h ⊢;have h2:=h.2.2;unfold bU at h2;simp only[Bool.and_eq_true]at h2;exact⟨h2.2,⟨h.1,h.2.1⟩,h2.1⟩
    ·intro h;obtain⟨c,hc⟩:=List.exists_mem_of_ne_nil _ h;obtain⟨h1,h2⟩:=List.mem_filter.mp hc;simp only[Bool.and_eq_true]at h2;refine⟨c,h1,?_⟩;simp only[Bool.and_eq_true];refine⟨h2.2.1.1,h2.2.1.2,?_⟩;unfold bU;simp only[Bool.and_eq_true];exact⟨h2.2.2,h2.1⟩
   have hMl:M.length<=60:=by rw[←hM];exact Nat.le_trans (List.length_filter_le _ _) (Nat.le_trans (List.length_filter_le _ _) hso)
   obtain⟨nx,hnx⟩:∃nx:Option Str,lT hk hv o p=nx:=⟨_,rfl⟩;have hg:=A2 hhv (hk:=hk) o p;rw[hnx]at hg;have hfo:di (aj rows known) so hk hv p d x.2 o=if(!M.isEmpty)=true then (match nx with|some h=>if dh (aj rows known) h d=true then [⟨o,h,d,none,x.2⟩]else []|none=>[])else []:=by
    unfold di cu;rw[hMe,hnx]<;>cases nx<;>rfl
   let nxD:D:=match nx with|some h=>D.str h|none=>D.non
   have hnf:bo nxD=true:=by simp only[nxD];cases nx<;>rfl
   let ρ2:DL.Env:=(rkE rows known [a2,a3,some (aD x.1,false),some (.lst (so.map clD),true),some (.dt hk hv,true),a7,some (.int x.2,false),some (.lst ((fr j).map clD),true),some (.str o,false),some (.lst (M.map clD),true),some (nxD,false),a13]);refine⟨_,(rkE rows known [a2,a3,some (aD x.1,false),some (.lst (so.map clD),true),some (.dt hk hv,true),a7,some (.int x.2,false),some (.lst ((fr (j+1)).map clD),true),some (.str o,false),some (.lst (M.map clD),true),some (nxD,false),a13]),rfl,.inl ?_,_,_,_,rfl⟩;refine bP m1 (cE _) (bP m2 (cE _) (rfF nxD ?_ hnf ?_))
   ·show(some (D.dt hk hv,false)).bind _=_;rw[Option.bind_some,show ab (af 10) (ab (ixV 4 2) ak) _=some [.str o,.str p]from acF rfl (aw (k2 rfl) rfl),Option.bind_some];show(if _ then _ else _)=_;rw[if_pos (bM (by simp))];show some ((bv hk hv [Sum.inr o,Sum.inr p]).getD D.non,false)=_;rw[hg]
   ·show gIf _ _ _ ρ2=_;have c1:tOf (f2 dNe (af 11) (fA bq ak)) ρ2=some (!M.isEmpty):=tkF (fZ (x:=.lst (M.map clD)) (y:=.lst []) (b1:=false) (b2:=true) rfl rfl (by
     have hpM:am 40 (.lst (M.map clD))=true:=by
      show(M.map clD).all (am 39)=true;rw[List.all_map,List.all_eq_true];intro c _;show am 39 (clD c)=true;unfold clD;cases c.u<;>rfl
     unfold dNe;rw[if_pos ⟨hpM,rfl⟩];cases M<;>simp[eqD,dq]))
    have c2:tOf (f2 gY (af 12) (fC .non)) ρ2=some nx.isSome:=tkF (eoF nxD .non rfl rfl (by simp only[nxD];cases nx<;>simp[sA]))
    have c3:∀h,nx=some h->tOf (fA dL (ab (af 0) (ab (af 1) (ab (af 12) (ab (ixV 4 1) ak))))) ρ2=some (dh (aj rows known) h d):=λh eh=>tkF (cdD [.tup rows,.int known,.str h,.int d] (acF rfl (acF rfl (acF (by simp only[ρ2,nxD,eh];rfl) (aw (k1 rfl) rfl)))) (qj g known h d));have cc:aY (tOf (f2 dNe (af 11) (fA bq ak))) (aY (tOf (f2 gY (af 12) (fC .non))) (tOf (fA dL (ab (af 0) (ab (af 1) (ab (af 12) (ab (ixV 4 1) ak))))))) ρ2=some (!M.isEmpty && (nx.isSome && (nx.any λh=>dh (aj rows known) h d))):=bj c1 λ_=>bj c2 λh=>by
     obtain⟨z,hz⟩:=Option.isSome_iff_exists.mp h;rw[c3 z hz,hz];rfl
    rw[et,hfo];by_cases hm:(!M.isEmpty)=true
    ·rw[if_pos hm];rw[hm]at cc;cases hnx2:nx with
     |none=>
      rw[hnx2]at cc;rw[List.append_nil];exact ca cc (by simp only[ρ2,nxD,hnx2];rfl)
     |some h=>
      rw[hnx2]at cc;dsimp only;by_cases hlv:dh (aj rows known) h d=true
      ·rw[if_pos hlv,List.map_append];refine fz (cc.trans (by simp[hlv])) ?_;have:=dX (ρ:=ρ2) (i:=9) (ds:=(fr j).map clD) (d:=clD ⟨o,h,d,none,x.2⟩) (b:=false) (f:=fA aI (ab (af 10) (ab (af 12) (ab (ixV 4 1) (ab (fC .non) (ab (af 8) ak)))))) rfl (cdD [.str o,.str h,.int d,.non,.int x.2] (acF rfl (acF (by simp only[ρ2,nxD,hnx2];rfl) (aw (k1 rfl) rfl))) (cx _ (by simp))) (f6 _) (bg (by rw[List.length_map];omega));rw[this];simp only[ρ2,nxD,hnx2];rfl
      ·rw[if_neg hlv,List.append_nil];exact ca (cc.trans (by simp[hlv])) (by simp only[ρ2,nxD,hnx2];rfl)
    ·rw[if_neg hm,List.append_nil];rw[Bool.not_eq_true]at hm;rw[hm]at cc;exact ca cc rfl)
 refine⟨w10,w11,w12,e.trans ?_⟩;have:fr (os.map D.str).length=os.flatMap (di (aj rows known) so hk hv p d x.2):=by
  show(os.take _).flatMap _=_;rw[List.length_map,List.take_length]
 rw[this]
theorem lU {α β:Type}(q:α->Bool)(f:α->List β):∀l:List α,(l.flatMap λa=>if q a=true then f a else [])=(l.filter q).flatMap f
 |[]=>rfl
 |a::l=>by
  rw[List.flatMap_cons,lU q f l];cases h:q a with
  |true=>rw[if_pos rfl,List.filter_cons_of_pos h,List.flatMap_cons]
  |false=>rw[if_neg (by decide),List.filter_cons_of_neg (by rw[h];decide),List.nil_append]
noncomputable def iW (K:KL):List Str:=(cf K).map (ai 0)
theorem uj (K:KL):(iW K).Nodup:=List.pairwise_map.mpr ((List.pairwise_map.mp (iz K).2).imp λh e=>h (by unfold dE;rw[e]))
theorem A4 {K:KL}{o:Str}(h:(df K o).isSome=true):o∈iW K:=by
 obtain⟨v,hv⟩:=Option.isSome_iff_exists.mp h;rw[←qo hv];rw[o5]at hv;exact List.mem_map.mpr ⟨v,iU hv,rfl⟩
theorem ul (so:List Cl)(p:Str)(day:Int)(o:Str):o∈cn so p day ↔ ∃c∈so,c.o=o/\c.p=p/\bU c day=true:=by
 unfold cn;rw[(bX _).mem_iff];constructor
 ·intro h;rcases gc _ _ _ h with h|h
  ·cases h
  ·obtain⟨c,hc,e⟩:=List.mem_map.mp h;obtain⟨h1,h2⟩:=List.mem_filter.mp hc;simp only[Bool.and_eq_true,decide_eq_true_eq]at h2;exact⟨c,h1,e,h2.1,h2.2⟩
 ·rintro⟨c,h1,e,h2,h3⟩;exact o3 _ _ _ (.inr (List.mem_map.mpr ⟨c,List.mem_filter.mpr ⟨h1,by simp[h2,h3]⟩,e⟩))
theorem vH {K:KL}{so so':List Cl}(hp:so'.Perm so)(ho:∀c∈so,(df K c.o).isSome=true)(hk:List (List Key))(hv:List D)(p:Str)(day:Int)(n:Nat):((iW K).flatMap (di K so' hk hv p day n)).Perm (jD K so hk hv p day n):=by
 have e:(iW K).flatMap (di K so' hk hv p day n)=((iW K).filter λo=>so'.any λc=>decide (c.o=o) && (decide (c.p=p) && bU c day)).flatMap (cu K hk hv p day n):=lU _ _ _;rw[e];refine List.Perm.flatMap_right _ ((List.perm_ext_iff_of_nodup ((uj K).filter _) (jF so p day)).mpr λo=>?_);rw[ul,List.mem_filter,List.any_eq_true];constructor
 ·rintro⟨_,c,hc,h⟩;simp only[Bool.and_eq_true,decide_eq_true_eq]at h;exact⟨c,hp.mem_iff.mp hc,h.1,h.2.1,h.2.2⟩
 ·rintro⟨c,hc,h1,h2,h3⟩;exact⟨A4 (by rw[←h1];exact ho c hc),c,hp.mem_iff.mpr hc,by simp[h1,h2,h3]⟩
theorem yB {so so':List Cl}(hp:so'.Perm so)(hnd:(so.map λc=>(c.o,c.n)).Nodup)(o rl p:Str)(day:Int):gP so' o rl p day=gP so o rl p day:=by
 have hn:∀ {s:List Cl},(s.map λc=>(c.o,c.n)).Nodup->(alL s o day).Pairwise λa b=>a.n≠b.n:=λ{s} hs=>by
  have h1:(alL s o day).Pairwise λa b=>(a.o,a.n)≠(b.o,b.n):=(List.pairwise_map.mp hs).filter _;refine List.Pairwise.imp_of_mem ?_ h1;intro a b ha hb h e;have h2:=(List.mem_filter.mp ha).2;have h3:=(List.mem_filter.mp hb).2;simp only[Bool.and_eq_true,decide_eq_true_eq]at h2 h3;exact h (by rw[h2.1,h3.1,e])
 have hnd':(so'.map λc=>(c.o,c.n)).Nodup:=(hp.map _).nodup_iff.mpr hnd;show eqD (pZ (iT rl (alL so' o day))) _=eqD (pZ (iT rl (alL so o day))) _;rw[o4 (hn hnd'),o4 (hn hnd)];congr 1;have hpa:(alL so' o day).Perm (alL so o day):=hp.filter _;refine fu _ (λa ha b hb e=>?_) ((aH _ _).trans hpa) (cH _ _);have z:kT a=kT b:=gD (xq (alL so o day)) (List.mem_map.mpr ⟨a,ha,rfl⟩) (List.mem_map.mpr ⟨b,hb,rfl⟩) e;unfold kT at z;injection z with _ z;injection z with z _;injection z with z;have hN:((alL so o day).map Cl.n).Nodup:=List.pairwise_map.mpr (hn hnd);exact fP Cl.n hN ha hb (by omega)
noncomputable def kL (K:KL)(so:List Cl):Prop:=∀c∈so,(∀x,c.u=some x->c.s<x)/\(df K c.o).isSome=true
theorem um {K:KL}{so:List Cl}(h:kL K so)(offs:List Str)(p:Str)(day:Int):kL K (aR so offs p day):=λc hc=>by
 obtain⟨c0,h0,h1⟩:=List.mem_flatMap.mp hc;obtain⟨k1,k2⟩:=h c0 h0;unfold cr at h1;split at h1
 ·rw[List.mem_singleton.mp h1];exact⟨k1,k2⟩
 ·split at h1
  ·rename_i hs;rw[List.mem_singleton.mp h1];exact⟨λx hx=>by cases hx;exact hs,k2⟩
  ·cases h1
theorem o6 {K:KL}{so so2:List Cl}(h:kL K so)(h2:kL K so2):kL K (so++so2):=λc hc=>by
 rcases List.mem_append.mp hc with hc|hc
 ·exact h c hc
 ·exact h2 c hc
theorem uo {K:KL}{o p:Str}{s:Int}{n:Nat}(h:(df K o).isSome=true):kL K [⟨o,p,s,none,n⟩]:=λc hc=>by
 rw[List.mem_singleton.mp hc];exact⟨λx hx=>(by cases hx),h⟩
theorem A5 {K:KL}{so:List Cl}(h:kL K so)(hk:List (List Key))(hv:List D)(p:Str)(day:Int)(n:Nat):kL K (jD K so hk hv p day n):=λc hc=>by
 obtain⟨o,ho,h1⟩:=List.mem_flatMap.mp hc;obtain⟨c0,h0,e,_⟩:=(ul so p day o).mp ho;unfold cu at h1;split at h1
 ·split at h1
  ·rw[List.mem_singleton.mp h1];exact⟨λx hx=>(by cases hx),by show(df K o).isSome=true;rw[←e];exact(h c0 h0).2⟩
  ·cases h1
 ·cases h1
theorem o7 {K:KL}{so:List Cl}{x:D×Nat}(h:ba K so x=true)(hd:kindOf x.1≠("death" : Str)):(df K (oN x.1)).isSome=true:=by
 unfold ba at h;rw[if_neg hd]at h;split at h
 ·split at h
  ·cases h
  ·rename_i v e;rw[e];rfl
 ·cases h
theorem yC {K:KL}{st:St3}(h:kL K st.1)(x:D×Nat):kL K (br K st x).1:=by
 unfold br;split
 ·rename_i hc;split
  ·rename_i hn;refine o6 h (uo ?_);have:=o7 hc (by rw[hn];decide +kernel);unfold oN at this;rw[if_pos hn]at this;exact this
  ·rename_i hn;split
   ·rename_i hch;refine o6 (um h _ _ _) (uo ?_);have:=o7 hc (by rw[hch];decide +kernel);unfold oN at this;rw[if_neg hn]at this;exact this
   ·split
    ·exact h
    ·exact o6 (um h _ _ _) (A5 h _ _ _ _ _)
 ·exact h
theorem qt {K:KL}:∀(l:KL)(st:St3),kL K st.1->kL K (l.foldl (br K) st).1
 |[],_,h=>h
 |x::l,st,h=>qt l _ (yC h x)
noncomputable def fL (p:Str)(y:D×Nat):Bool:=decide (kindOf y.1=("death" : Str)) && decide (ai 1 y.1=p)
theorem jH {r:D}(g:eB r)(p:Str)(d:Int):told bN p d r=(decide (kindOf r=("death" : Str)) && (decide (ai 1 r=p) && decide (av r<=d))):=by
 rw[mz d6 g];simp[bN]
theorem A6 {K:KL}(hn:(K.map (·.2)).Nodup)(hK:∀y∈K,eB y.1){l r:KL}{x:D×Nat}(hL:cy K=l++x::r)(hx:kindOf x.1=("death" : Str)):eC K (ai 1 x.1) (av x.1) x.2 = !(l.any (fL (ai 1 x.1))):=by
 have hmem:∀y,y∈l++x::r->y∈K:=λy hy=>by rw[←hL]at hy;exact(List.mem_filter.mp ((aH _ _).mem_iff.mp hy)).1
 have hxK:=hmem x (by simp);have hpair:=ud K;have hnod:=l5 hn;rw[hL]at hpair hnod;have hxt:told bN (ai 1 x.1) (av x.1) x.1=true:=by rw[jH (hK x hxK)];simp[hx]
 have hb:∀y∈l,cF x y=false:=λy hy=>(List.pairwise_append.mp hpair).2.2 y hy x mX;have same:∀y∈K,cF x y=false->cF y x=false->y.2=x.2:=λy _ h1 h2=>by
  unfold cF at h1 h2;have h1:=of_decide_eq_false h1;have h2:=of_decide_eq_false h2;omega
 rw[Bool.eq_iff_iff,Bool.not_eq_true',List.any_eq_false];constructor
 ·intro h y hy hyd;obtain⟨m,hm,hmt,hmx,hmin⟩:=jE h;have hyK:=hmem y (List.mem_append_left _ hy);have emx:m=x:=fP (·.2) hn hm hxK hmx;unfold fL at hyd;simp only[Bool.and_eq_true,decide_eq_true_eq]at hyd;have h1:=hb y hy;have hdy:av y.1<=av x.1:=by
   unfold cF at h1;have:=of_decide_eq_false h1;omega
  have hyt:told bN (ai 1 x.1) (av x.1) y.1=true:=by rw[jH (hK y hyK)];simp[hyd,hdy]
  have h2:=hmin y hyK hyt;rw[emx]at h2;have e:=same y hyK h1 h2;rw[List.map_append,List.nodup_append]at hnod;exact hnod.2.2 y.2 (List.mem_map.mpr ⟨y,hy,rfl⟩) x.2 (by simp) e
 ·intro h;unfold eC;split
  ·rename_i e;have:x∈K.filter λy=>told bN (ai 1 x.1) (av x.1) y.1:=List.mem_filter.mpr ⟨hxK,hxt⟩;rw[e]at this;cases this
  ·rename_i b q e;obtain⟨h1,h2⟩:=kJ q b;rw[←e]at h1 h2;obtain⟨hm,hmt⟩:=List.mem_filter.mp h1;have h3:=h2 x (List.mem_filter.mpr ⟨hxK,hxt⟩);refine decide_eq_true ?_;have gm:=hK _ hm;have hmL:kI b q∈l++x::r:=by
    rw[←hL];refine(aH _ _).mem_iff.mpr (List.mem_filter.mpr ⟨hm,?_⟩);rw[xp d6 gm hmt];rfl
   rcases List.mem_append.mp hmL with hml|hml
   ·exfalso;refine h _ hml ?_;rw[jH gm]at hmt;simp only[Bool.and_eq_true]at hmt;unfold fL;simp only[Bool.and_eq_true];exact⟨hmt.1,hmt.2.1⟩
   ·rcases List.mem_cons.mp hml with hml|hml
    ·rw[hml]
    ·have h4:cF (kI b q) x=false:=(List.pairwise_cons.mp (List.pairwise_append.mp hpair).2.1).1 _ hml;exact same _ hm h3 h4
theorem at5 (d e f g h i:D)(r:List D):atI (d::e::f::g::h::i::r) 5=some i:=by have:=ib (xs:=d::e::f::g::h::i::r) (j:=5) (by simp);simpa using this
theorem uq {r:D}(g:eB r)(h:kindOf r=("named" : Str)):∃a d o p,r=row a ("named" : Str) [.int d,.str o,.str p]:=by
 obtain⟨a,k,aC,rfl,d⟩:=g;replace h:k=("named" : Str):=h;cases d with
 |named d o p=>exact⟨a,d,o,p,rfl⟩
 |root=>exact absurd h (by decide +kernel)
 |chosen=>exact absurd h (by decide +kernel)
 |heir=>exact absurd h (by decide +kernel)
 |three _ hk=>rcases hk with rfl|rfl|rfl<;>exact absurd h (by decide +kernel)
 |other _ hk=>rcases hk with rfl|rfl|rfl|rfl|rfl<;>exact absurd h (by decide +kernel)
theorem jI {r:D}(g:eB r)(h:kindOf r=("heir" : Str)):∃a d b o p,r=row a ("heir" : Str) [.int d,.str b,.str o,.str p]:=by
 obtain⟨a,k,aC,rfl,d⟩:=g;replace h:k=("heir" : Str):=h;cases d with
 |heir d b o p=>exact⟨a,d,b,o,p,rfl⟩
 |root=>exact absurd h (by decide +kernel)
 |chosen=>exact absurd h (by decide +kernel)
 |named=>exact absurd h (by decide +kernel)
 |three _ hk=>rcases hk with rfl|rfl|rfl<;>exact absurd h (by decide +kernel)
 |other _ hk=>rcases hk with rfl|rfl|rfl|rfl|rfl<;>exact absurd h (by decide +kernel)
theorem fM {r:D}(g:eB r)(h:kindOf r=("chosen" : Str)):∃a d b o p s,r=row a ("chosen" : Str) [.int d,.str b,.str o,.str p,.int s]:=by
 obtain⟨a,k,aC,rfl,d⟩:=g;replace h:k=("chosen" : Str):=h;cases d with
 |chosen d b o p s=>exact⟨a,d,b,o,p,s,rfl⟩
 |root=>exact absurd h (by decide +kernel)
 |heir=>exact absurd h (by decide +kernel)
 |named=>exact absurd h (by decide +kernel)
 |three _ hk=>rcases hk with rfl|rfl|rfl<;>exact absurd h (by decide +kernel)
 |other _ hk=>rcases hk with rfl|rfl|rfl|rfl|rfl<;>exact absurd h (by decide +kernel)
noncomputable abbrev iE (rows:List D)(known:Int)(b2:Bool)(v3 v4:Option (D×Bool))(so:List Cl)(hk:List (List Key))(hv:List D)(bur:List Str)(v8 v9 v10 v11 v12:Option (D×Bool)):DL.Env :=
 (rkE rows known [some (dF (aj rows known),b2),v3,v4,some (.lst (so.map clD),true),some (.dt hk hv,true),some (.lst (bur.map .str),true),v8,v9,v10,v11,v12,none])
noncomputable def chW:List Str:=[("chosen" : Str),("heir" : Str)]
section
variable {rows:List D}(g:cU rows) {known:Int}{x:D×Nat}(hx:x∈aj rows known) (hnr:aV x.1=false) {ρ:DL.Env}(h4:af 4 ρ=some (aD x.1,false))
include g hx h4
theorem o8:ixV 4 0 ρ=some (.str (kindOf x.1),false):=eoF (aD x.1) (.int 0) h4 rfl (oz (bf g hx).2)
include hnr
theorem A7:ixV 4 1 ρ=some (.int (av x.1),false):=eoF (aD x.1) (.int 1) h4 rfl (o0 (bf g hx).2 hnr)
theorem qu:ixV 4 2 ρ=some (.str (ai 1 x.1),false):=eoF (aD x.1) (.int 2) h4 rfl (qi (bf g hx).2 hnr)
theorem GN (h2:af 2 ρ=some (dF (aj rows known),false)):aY (tOf (f2 dEq (ixV 4 0) (fC (.str "named")))) (tOf (f2 inK (ixV 4 2) (af 2))) ρ=some (decide (kindOf x.1=("named" : Str)) && (df (aj rows known) (ai 1 x.1)).isSome) :=
 bj (bD (bb:=false) (o8 g hx h4) rfl) λ_=>tkF (eoF (.str (ai 1 x.1)) (dF (aj rows known)) (qu g hx hnr h4) h2 (by
  unfold dF;simp only[inK,gF,Option.map_some];rw[qp];cases df (aj rows known) (ai 1 x.1)<;>rfl))
theorem Gf (h0:af 0 ρ=some (.tup rows,false))(h1:af 1 ρ=some (.int known,false))(h8:af 8 ρ=some (.int x.2,false)):aY (tOf (f2 dIn (ixV 4 0) (fA aI (ab (fC (.str "chosen")) (ab (fC (.str "heir")) ak))))) (tOf (fA gJ (ab (af 0) (ab (af 1) (ab (af 8) ak))))) ρ=some (decide (kindOf x.1∈chW) && (om (aj rows known) (ai 1 x.1) (av x.1) && dh (aj rows known) (ai 1 x.1) (av x.1))) :=
 bj (tkF (eoF (.str (kindOf x.1)) (.tup (chW.map .str)) (o8 g hx h4) (cdD (chW.map .str) rfl (cx _ (by simp[chW]))) (kE _ _))) λ_=>tkF (cdD [.tup rows,.int known,.int x.2] (aw h0 (aw h1 (aw h8 rfl))) (y6 g known hx hnr))
theorem Cj {bur:List Str}(h7:af 7 ρ=some (.lst (bur.map .str),false)):aY (tOf (f2 dEq (ixV 4 0) (fC (.str "death")))) (tOf (f2 eI (ixV 4 2) (af 7))) ρ=some (decide (kindOf x.1=("death" : Str)) && !decide (ai 1 x.1∈bur)) :=
 bj (bD (bb:=false) (o8 g hx h4) rfl) λ_=>tkF (eoF (.str (ai 1 x.1)) (.lst (bur.map .str)) (qu g hx hnr h4) h7 (ot _ _))
end
theorem lV {K:KL}{so:List Cl}{x:D×Nat}(h:kindOf x.1=("named" : Str)):ba K so x=(df K (ai 1 x.1)).isSome:=by
 unfold ba oN;rw[if_neg (by rw[h];decide +kernel),if_pos (by rw[h];simp[mh]),if_pos h];cases df K (ai 1 x.1) with
 |none=>rfl
 |some v=>dsimp only;rw[if_pos h];rfl
theorem vI {K:KL}{so:List Cl}{x:D×Nat}(h:kindOf x.1∈chW)(hb:tR x.1=ai 1 x.1):ba K so x=((om K (ai 1 x.1) (av x.1) && dh K (ai 1 x.1) (av x.1)) && (((df K (ai 2 x.1)).map (ai 3)).any λz=>gP so (ai 2 x.1) z (ai 1 x.1) (av x.1))):=by
 have hk:kindOf x.1=("chosen" : Str)∨kindOf x.1=("heir" : Str):=by simpa [chW]using h
 have n1:kindOf x.1≠("death" : Str):=by rcases hk with e|e<;>rw[e]<;>decide +kernel
 have n2:kindOf x.1≠("named" : Str):=by rcases hk with e|e<;>rw[e]<;>decide +kernel
 have n3:dC (kindOf x.1)=true:=by rcases hk with e|e<;>rw[e]<;>decide +kernel
 unfold ba oN;rw[if_neg n1,if_pos (by rcases hk with e|e<;>rw[e]<;>simp[mh]),if_neg n2]
 cases hr:df K (ai 2 x.1) with
 |none=>simp
 |some v=>
  dsimp only;rw[if_neg n2,qo hr];unfold oq;rw[n3,hb,Bool.true_and,Bool.and_comm (dh _ _ _)];rfl
theorem l7 {x:D×Nat}{p:Str}(h:fL p x=true):kindOf x.1=("death" : Str)/\ai 1 x.1=p:=by
 unfold fL at h;simpa using h
theorem fQ {x:D×Nat}(h:kindOf x.1≠("death" : Str))(bur:List Str):∀p,p∈bur↔p∈bur∨fL p x=true:=λp=>⟨.inl,λk=>by
 rcases k with k|k
 ·exact k
 ·exact absurd (l7 k).1 h⟩
theorem E1 {rows:List D}(g:cU rows){known:Int}{l:KL}{dd:List Str}{st:St3}(hS:SoOk (aj rows known) l dd st)(hl:l.length<=60)(hw:kL (aj rows known) st.1){so':List Cl}(hp:so'.Perm st.1){bur:List Str}(hbl:bur.length<=l.length){x:D×Nat}(hx:x∈aj rows known)(hnr:aV x.1=false)
  (hfirst:kindOf x.1=("death" : Str)->eC (aj rows known) (ai 1 x.1) (av x.1) x.2 = !decide (ai 1 x.1∈bur)) (b2:Bool) (v3 v4 v9 v10 v11 v12:Option (D×Bool)):
  ∃(so2:List Cl)(bur2:List Str)(c2:Bool)(w9 w10 w11 w12:Option (D×Bool)),nS (iE rows known b2 v3 v4 so' st.2.1 st.2.2 bur (some (.int x.2,false)) v9 v10 v11 v12)=some (.nx (iE rows known c2 v3 (some (aD x.1,false)) so2 (br (aj rows known) st x).2.1 (br (aj rows known) st x).2.2 bur2 (some (.int x.2,false)) w9 w10 w11 w12))
  /\so2.Perm (br (aj rows known) st x).1/\(∀p,p∈bur2↔p∈bur∨fL p x=true)/\bur2.length<=bur.length+1:=by
 obtain⟨ha,gx⟩:=bf g hx;have hsl:st.1.length<=60:=by have:=hS.len;omega
 have hsl':so'.length<=60:=by rw[hp.length_eq];exact hsl
 have hw':∀c∈so',∀y,c.u=some y->c.s<y:=λc hc=>(hw c (hp.mem_iff.mp hc)).1;have hnd':(so'.map λc=>(c.o,c.n)).Nodup:=(hp.map _).nodup_iff.mpr hS.nod;have hfx:=rC gx;let ρ1:DL.Env:=iE rows known b2 v3 (some (aD x.1,false)) so' st.2.1 st.2.2 bur (some (.int x.2,false)) v9 v10 v11 v12;have s1:∀ {h:FS}{r:Option Res},h ρ1=r->aA (aS 4 (f2 ixD (f2 ixD (af 0) (af 8)) (fC (.int 1)))) h (iE rows known b2 v3 v4 so' st.2.1 st.2.2 bur (some (.int x.2,false)) v9 v10 v11 v12)=r:=λk=>rfF (aD x.1) (eoF x.1 (.int 1) (eoF (.tup rows) (.int x.2) rfl rfl (by simp[ha])) rfl (oy gx)) hfx k;have cN:=GN g hx hnr (ρ:=ρ1) rfl rfl;have cS:=Gf g hx hnr (ρ:=ρ1) rfl rfl rfl rfl;have cD:=Cj g hx hnr (ρ:=ρ1) rfl (bur:=bur) rfl;by_cases hn:kindOf x.1=("named" : Str)
 ·have nd:kindOf x.1≠("death" : Str):=by rw[hn];decide +kernel
  have nc:kindOf x.1∉chW:=by rw[hn];decide +kernel
  rw[decide_eq_true hn,Bool.true_and]at cN;cases hr:(df (aj rows known) (ai 1 x.1)).isSome with
  |false=>
   have es:br (aj rows known) st x=st:=by unfold br;rw[lV hn,hr];rfl
   rw[hr]at cN;rw[decide_eq_false nc]at cS;rw[decide_eq_false nd]at cD;rw[es];exact⟨so',bur,b2,v9,v10,v11,v12,s1 (bz (ca cN rfl) (bz (ca cS rfl) (ca cD rfl))),hp,fQ nd bur,by omega⟩
  |true=>
   have es:br (aj rows known) st x=(st.1++[⟨ai 1 x.1,ai 2 x.1,av x.1,none,x.2⟩],st.2):=by unfold br;rw[lV hn,hr,if_pos rfl,if_pos hn]
   rw[hr]at cN;rw[es];have k3:ixV 4 3 ρ1=some (.str (ai 2 x.1),false):=eoF (aD x.1) (.int 3) rfl rfl (by obtain⟨a,d,o,p,e⟩:=uq gx hn;rw[e];simp[row,aD,at3,ai]);let ρ2:DL.Env:=iE rows known b2 v3 (some (aD x.1,false)) (so'++[⟨ai 1 x.1,ai 2 x.1,av x.1,none,x.2⟩]) st.2.1 st.2.2 bur (some (.int x.2,false)) v9 v10 v11 v12;have eA:g7 5 (fA aI (ab (ixV 4 2) (ab (ixV 4 3) (ab (ixV 4 1) (ab (fC .non) (ab (af 8) ak)))))) ρ1=some (.nx ρ2):=by
    have:=dX (ρ:=ρ1) (i:=5) (ds:=so'.map clD) (d:=clD ⟨ai 1 x.1,ai 2 x.1,av x.1,none,x.2⟩) (b:=false) (f:=fA aI (ab (ixV 4 2) (ab (ixV 4 3) (ab (ixV 4 1) (ab (fC .non) (ab (af 8) ak)))))) rfl (cdD [.str (ai 1 x.1),.str (ai 2 x.1),.int (av x.1),.non,.int x.2] (aw (qu g hx hnr rfl) (aw k3 (aw (A7 g hx hnr rfl) rfl))) (cx _ (by simp))) (f6 _) (bg (by rw[List.length_map];omega));rw[this];show _=some (Res.nx (iE _ _ _ _ _ _ _ _ _ _ _ _ _ _));unfold iE;rw[List.map_append];rfl
   have cS2:=Gf g hx hnr (ρ:=ρ2) rfl rfl rfl rfl;have cD2:=Cj g hx hnr (ρ:=ρ2) rfl (bur:=bur) rfl;rw[decide_eq_false nc]at cS2;rw[decide_eq_false nd]at cD2;exact⟨_,bur,b2,v9,v10,v11,v12,s1 (bz (fz cN eA) (bz (ca cS2 rfl) (ca cD2 rfl))),hp.append_right _,fQ nd bur,by omega⟩
 ·rw[decide_eq_false hn]at cN;by_cases hc:kindOf x.1∈chW
  ·have hk:kindOf x.1=("chosen" : Str)∨kindOf x.1=("heir" : Str):=by simpa [chW]using hc
   have nd:kindOf x.1≠("death" : Str):=by rcases hk with e|e<;>rw[e]<;>decide +kernel
   have hby:tR x.1=ai 1 x.1:=by
    rcases hk with e|e
    ·obtain⟨a,d,b,o,p,s,e⟩:=fM gx e;rw[e];rfl
    ·obtain⟨a,d,b,o,p,e⟩:=jI gx e;rw[e];rfl
   have k3:ixV 4 3 ρ1=some (.str (ai 2 x.1),false):=eoF (aD x.1) (.int 3) rfl rfl (by
    rcases hk with e|e
    ·obtain⟨a,d,b,o,p,s,e⟩:=fM gx e;rw[e];simp[row,aD,at3,ai]
    ·obtain⟨a,d,b,o,p,e⟩:=jI gx e;rw[e];simp[row,aD,at3,ai])
   have k4:ixV 4 4 ρ1=some (.str (ai 3 x.1),false):=eoF (aD x.1) (.int 4) rfl rfl (by
    rcases hk with e|e
    ·obtain⟨a,d,b,o,p,s,e⟩:=fM gx e;rw[e];simp[row,aD,at4,ai]
    ·obtain⟨a,d,b,o,p,e⟩:=jI gx e;rw[e];simp[row,aD,at4,ai])
   have k1:=A7 g hx hnr (ρ:=ρ1) rfl;have k2:=qu g hx hnr (ρ:=ρ1) rfl;have cc:=vI (K:=aj rows known) (so:=st.1) hc hby;have hld:tOf (fA gK (ab (af 5) (ab (af 2) (ab (ixV 4 3) (ab (ixV 4 2) (ab (ixV 4 1) ak)))))) ρ1=some (((df (aj rows known) (ai 2 x.1)).map (ai 3)).any λz=>gP st.1 (ai 2 x.1) z (ai 1 x.1) (av x.1)):=by
    refine tkF (cdD [.lst (so'.map clD),dF (aj rows known),.str (ai 2 x.1),.str (ai 1 x.1),.int (av x.1)] (acF rfl (acF rfl (aw k3 (aw k2 (aw k1 rfl))))) ?_);refine(y8 so' hsl' hnd' (ai 2 x.1) (ai 1 x.1) (av x.1) (qp (aj rows known) (ai 2 x.1))).trans ?_;congr 4;funext z;exact yB hp hS.nod _ _ _ _
   rw[decide_eq_true hc,Bool.true_and]at cS;rw[decide_eq_false nd]at cD;generalize (om (aj rows known) (ai 1 x.1) (av x.1) && dh (aj rows known) (ai 1 x.1) (av x.1))=snd at cS cc;generalize (((df (aj rows known) (ai 2 x.1)).map (ai 3)).any λz=>gP st.1 (ai 2 x.1) z (ai 1 x.1) (av x.1))=hd at hld cc;cases hcc:ba (aj rows known) st.1 x with
   |false=>
    have es:br (aj rows known) st x=st:=by unfold br;rw[hcc];rfl
    rw[es];refine⟨so',bur,b2,v9,v10,v11,v12,s1 (bz (ca cN rfl) (bz (ρ':=ρ1) ?_ (ca cD rfl))),hp,fQ nd bur,by omega⟩;rw[hcc]at cc;cases snd with
    |false=>exact ca cS rfl
    |true=>
     cases hd with
     |false=>exact fz cS (ca hld rfl)
     |true=>cases cc
   |true=>
    rw[hcc]at cc;obtain⟨e1,e2⟩:=Bool.and_eq_true_iff.mp cc.symm;rw[e1]at cS;rw[e2]at hld;rcases hk with hk|hk
    ·have nh:kindOf x.1≠("heir" : Str):=by rw[hk];decide +kernel
     have es:br (aj rows known) st x=(aR st.1 [ai 2 x.1] (ai 1 x.1) (eE 4 x.1)++[⟨ai 2 x.1,ai 3 x.1,eE 4 x.1,none,x.2⟩],st.2):=by unfold br;rw[hcc,if_pos rfl,if_neg hn,if_pos hk]
     rw[es];have k5:ixV 4 5 ρ1=some (.int (eE 4 x.1),false):=eoF (aD x.1) (.int 5) rfl rfl (by obtain⟨a,d,b,o,p,s,e⟩:=fM gx hk;rw[e];simp[row,aD,at5,eE]);have ect:=xu so' hsl' hw' (some (ai 2 x.1)) [ai 2 x.1] (λc _=>by simp[eq_comm]) (ai 1 x.1) (eE 4 x.1);have hel:=cM [ai 2 x.1] (ai 1 x.1) (eE 4 x.1) so';let so2:List Cl:=aR so' [ai 2 x.1] (ai 1 x.1) (eE 4 x.1)++[⟨ai 2 x.1,ai 3 x.1,eE 4 x.1,none,x.2⟩];have eA:f2 cG (fA io (ab (af 5) (ab (ixV 4 3) (ab (ixV 4 2) (ab (ixV 4 5) ak))))) (fA bq (ab (fA aI (ab (ixV 4 3) (ab (ixV 4 4) (ab (ixV 4 5) (ab (fC .non) (ab (af 8) ak)))))) ak)) ρ1=some (.lst (so2.map clD),true):=by
      rw[List.map_append];refine fZ (x:=.lst ((aR so' [ai 2 x.1] (ai 1 x.1) (eE 4 x.1)).map clD)) (y:=.lst [clD ⟨ai 2 x.1,ai 3 x.1,eE 4 x.1,none,x.2⟩]) (b1:=true) (b2:=true) (cdD [.lst (so'.map clD),.str (ai 2 x.1),.str (ai 1 x.1),.int (eE 4 x.1)] (acF rfl (aw k3 (aw k2 (aw k5 rfl)))) ect) (cdD [clD ⟨ai 2 x.1,ai 3 x.1,eE 4 x.1,none,x.2⟩] (acF (cdD [.str (ai 2 x.1),.str (ai 3 x.1),.int (eE 4 x.1),.non,.int x.2] (aw k3 (aw k4 (aw k5 rfl))) (cx _ (by simp))) rfl) (eQ _ (by simp))) (if_pos (bM (by rw[List.length_map,List.length_singleton];omega)))
     have eS:=kq (i:=5) eA (cE so2);let ρ2:DL.Env:=iE rows known b2 v3 (some (aD x.1,false)) so2 st.2.1 st.2.2 bur (some (.int x.2,false)) v9 v10 v11 v12;have cD2:=Cj g hx hnr (ρ:=ρ2) rfl (bur:=bur) rfl;rw[decide_eq_false nd]at cD2;exact⟨so2,bur,b2,v9,v10,v11,v12,s1 (bz (ca cN rfl) (bz (ρ':=ρ2) (fz cS (fz hld (ca (bD (bb:=false) (o8 g hx rfl) (decide_eq_false nh)) eS))) (ca cD2 rfl))),(List.Perm.flatMap_right _ hp).append_right _,fQ nd bur,by omega⟩
    ·have nch:kindOf x.1≠("chosen" : Str):=by rw[hk];decide +kernel
     have es:br (aj rows known) st x=(st.1,cA st.2.1 [.inr (ai 2 x.1),.inr (ai 1 x.1)],cw st.2.1 st.2.2 [.inr (ai 2 x.1),.inr (ai 1 x.1)] (.str (ai 3 x.1))):=by unfold br;rw[hcc,if_pos rfl,if_neg hn,if_neg nch,if_pos hk]
     rw[es];have eP:=xm (ρ:=ρ1) (i:=6) (ks:=st.2.1) (vs:=st.2.2) (kd:=[.str (ai 2 x.1),.str (ai 1 x.1)]) (b:=false) (fk:=ab (ixV 4 3) (ab (ixV 4 2) ak)) (fv:=ixV 4 4) rfl k4 (aw k3 (aw k2 rfl)) rfl rfl (by have:=hS.hk;omega) (by simp);let ρ2:DL.Env:=iE rows known b2 v3 (some (aD x.1,false)) so' (cA st.2.1 [.inr (ai 2 x.1),.inr (ai 1 x.1)]) (cw st.2.1 st.2.2 [.inr (ai 2 x.1),.inr (ai 1 x.1)] (.str (ai 3 x.1))) bur (some (.int x.2,false)) v9 v10 v11 v12;have cD2:=Cj g hx hnr (ρ:=ρ2) rfl (bur:=bur) rfl;rw[decide_eq_false nd]at cD2;exact⟨so',bur,b2,v9,v10,v11,v12,s1 (bz (ca cN rfl) (bz (ρ':=ρ2) (fz cS (fz hld (fz (bD (bb:=false) (o8 g hx rfl) (decide_eq_true hk)) eP))) (ca cD2 rfl))),hp,fQ nd bur,by omega⟩
  ·rw[decide_eq_false hc]at cS;by_cases hd:kindOf x.1=("death" : Str)
   ·rw[decide_eq_true hd,Bool.true_and]at cD;have nch:kindOf x.1≠("chosen" : Str):=by rw[hd];decide +kernel
    have nh:kindOf x.1≠("heir" : Str):=by rw[hd];decide +kernel
    have hcc:ba (aj rows known) st.1 x = !decide (ai 1 x.1∈bur):=by unfold ba;rw[if_pos hd];exact hfirst hd
    by_cases hb:ai 1 x.1∈bur
    ·rw[decide_eq_true hb]at hcc cD;have es:br (aj rows known) st x=st:=by unfold br;rw[hcc];rfl
     rw[es];refine⟨so',bur,b2,v9,v10,v11,v12,s1 (bz (ca cN rfl) (bz (ca cS rfl) (ca cD rfl))),hp,λp=>⟨.inl,λk=>?_⟩,by omega⟩;rcases k with k|k
     ·exact k
     ·rw[←(l7 k).2];exact hb
    ·rw[decide_eq_false hb]at cD;replace hcc:ba (aj rows known) st.1 x=true:=by rw[hcc,decide_eq_false hb];rfl
     have es:br (aj rows known) st x=(aR st.1 (st.1.map Cl.o) (ai 1 x.1) (av x.1)++jD (aj rows known) st.1 st.2.1 st.2.2 (ai 1 x.1) (av x.1) x.2,st.2):=by unfold br;rw[hcc,if_pos rfl,if_neg hn,if_neg nch,if_neg nh]
     rw[es];have hrl:(cf (aj rows known)).length<=60:=Nat.le_trans (qq _) (Nat.le_trans (eO rows known) g.1);let bur2:=bur++[ai 1 x.1];let ρ2:DL.Env:=iE rows known b2 v3 (some (aD x.1,false)) so' st.2.1 st.2.2 bur2 (some (.int x.2,false)) v9 v10 v11 v12;have e1:g7 7 (ixV 4 2) ρ1=some (.nx ρ2):=by
      have:=dX (ρ:=ρ1) (i:=7) (ds:=bur.map .str) (d:=.str (ai 1 x.1)) (b:=false) rfl (qu g hx hnr (ρ:=ρ1) rfl) rfl (bg (by rw[List.length_map];omega));rw[this];show _=some (Res.nx (iE _ _ _ _ _ _ _ _ _ _ _ _ _ _));unfold iE;rw[List.map_append];rfl
     obtain⟨w10,w11,w12,e2⟩:=A3 g known so' hsl' st.2.1 st.2.2 hS.hs hx hnr (iW (aj rows known)) (by unfold iW;rw[List.length_map];exact hrl) (some (dF (aj rows known),false)) v3 (some (.lst (bur2.map .str),true)) v10 v11 v12 none;generalize hfr:(iW (aj rows known)).flatMap (di (aj rows known) so' st.2.1 st.2.2 (ai 1 x.1) (av x.1) x.2)=fr at e2;have hfp:fr.Perm (jD (aj rows known) st.1 st.2.1 st.2.2 (ai 1 x.1) (av x.1) x.2):=by rw[←hfr];exact vH hp (λc hc=>(hw c hc).2) _ _ _ _ _
     have hfl:fr.length<=60:=by
      rw[←hfr];exact Nat.le_trans (iV _ (qr _ _ _ _ _ _ _) _) (by unfold iW;rw[List.length_map];exact hrl)
     have hel:=cM (st.1.map Cl.o) (ai 1 x.1) (av x.1) so';have ect:=xu so' hsl' hw' none (st.1.map Cl.o) (λc hc=>by rw[decide_eq_true (List.mem_map.mpr ⟨c,hp.mem_iff.mp hc,rfl⟩)];rfl) (ai 1 x.1) (av x.1);let so2:List Cl:=aR so' (st.1.map Cl.o) (ai 1 x.1) (av x.1)++fr;let ρ4:DL.Env:=(rkE rows known [some (dF (aj rows known),false),v3,some (aD x.1,false),some (.lst (so'.map clD),true),some (.dt st.2.1 st.2.2,true),some (.lst (bur2.map .str),true),some (.int x.2,false),some (.lst (fr.map clD),true),w10,w11,w12,none]);have e3:gUn [2] (gd (nz (af 2)) (tgN 10) gL) (iE rows known b2 v3 (some (aD x.1,false)) so' st.2.1 st.2.2 bur2 (some (.int x.2,false)) (some (.lst [],true)) v10 v11 v12)=some (.nx ρ4):=by
      have eu:gUn [2] (gd (nz (af 2)) (tgN 10) gL) (iE rows known b2 v3 (some (aD x.1,false)) so' st.2.1 st.2.2 bur2 (some (.int x.2,false)) (some (.lst [],true)) v10 v11 v12)=gd (nz (af 2)) (tgN 10) gL (iE rows known false v3 (some (aD x.1,false)) so' st.2.1 st.2.2 bur2 (some (.int x.2,false)) (some (.lst [],true)) v10 v11 v12):=by cases b2<;>rfl
      rw[eu];refine d9 (ds:=(iW (aj rows known)).map .str) ?_ e2;show some (((cf (aj rows known)).map dE).map kD)=_;unfold iW;rw[List.map_map,List.map_map];rfl
     have eA:f2 cG (fA io (ab (af 5) (ab (fC .non) (ab (ixV 4 2) (ab (ixV 4 1) ak))))) (af 9) ρ4=some (.lst (so2.map clD),true):=by
      rw[List.map_append];exact fZ (x:=.lst ((aR so' (st.1.map Cl.o) (ai 1 x.1) (av x.1)).map clD)) (y:=.lst (fr.map clD)) (b1:=true) (b2:=false) (cdD [.lst (so'.map clD),.non,.str (ai 1 x.1),.int (av x.1)] (acF rfl (acF rfl (aw (qu g hx hnr rfl) (aw (A7 g hx hnr rfl) rfl)))) ect) rfl (if_pos (bM (by rw[List.length_map,List.length_map];omega)))
     have eS:=kq (i:=5) eA (cE so2);refine⟨so2,bur2,false,some (.lst (fr.map clD),true),w10,w11,w12,s1 (bz (ca cN rfl) (bz (ca cS rfl) (fz cD (bz e1 (bP (ds:=[]) rfl rfl (bz e3 eS)))))),(List.Perm.flatMap_right _ hp).append hfp,λp=>?_,by simp[bur2]⟩;simp only[bur2,List.mem_append,List.mem_singleton];constructor
     ·rintro (k|k)
      ·exact .inl k
      ·exact .inr (by unfold fL;simp[hd,k])
     ·rintro (k|k)
      ·exact .inl k
      ·exact .inr (l7 k).2.symm
   ·rw[decide_eq_false hd]at cD;have hcc:ba (aj rows known) st.1 x=false:=by
     unfold ba;rw[if_neg hd,if_neg (λz=>by simp only[mh,List.mem_cons,List.not_mem_nil,or_false]at z;simp only[chW,List.mem_cons,List.not_mem_nil,or_false]at hc;rcases z with z|z|z;exact hn z;exact hc (.inl z);exact hc (.inr z))]
    have es:br (aj rows known) st x=st:=by unfold br;rw[hcc];rfl
    rw[es];exact⟨so',bur,b2,v9,v10,v11,v12,s1 (bz (ca cN rfl) (bz (ca cS rfl) (ca cD rfl))),hp,fQ hd bur,by omega⟩
theorem vJ {α:Type}(l:List α):dS 0 l.length=l.zipIdx.map λx=>D.int x.2:=by
 rw[pK,List.map_map];have:l.zipIdx.map (λx=>D.int x.2)=(l.zipIdx.map (·.2)).map λn:Nat=>D.int n:=by rw[List.map_map];rfl
 rw[this,List.zipIdx_map_snd,List.range_eq_range'];rfl
noncomputable def kQ (x:Cl×Nat):List At:=[.s x.1.o,.i x.1.s,.i x.1.n,.i x.2]
theorem Ck (cs:List (Cl×Nat)):c9 (cs.map kQ)=true:=by
 have h:∀a b:Cl×Nat,(aO (kQ a) (kQ b)).isSome=true:=λa b=>by
  unfold kQ;rw[aO];split
  ·rw[aO];split
   ·rw[aO];split
    ·rw[aO];split
     ·rw[aO];rfl
     ·rfl
    ·rfl
   ·rfl
  ·rfl
 unfold c9;simp[List.all_eq_true,h]
theorem Cm {a b:Cl×Nat}(h:bp (kC a.1)<bp (kC b.1)):bp (kQ a)<bp (kQ b):=by
 obtain⟨v,hv⟩:=Option.isSome_iff_exists.mp (Gd a.1 b.1);have e:=hW _ _ _ hv;rw[decide_eq_true h]at e;rw[e]at hv;have e2:aO (kQ a) (kQ b)=some true:=by
  unfold kC at hv;unfold kQ;rw[aO]at hv ⊢;split
  ·rename_i h1;rw[if_pos h1]at hv;rw[aO]at hv ⊢;split
   ·rename_i h2;rw[if_pos h2]at hv;rw[aO]at hv ⊢;split
    ·rename_i h3;rw[if_pos h3,aO]at hv;cases hv
    ·rename_i h3;rw[if_neg h3]at hv;exact hv
   ·rename_i h2;rw[if_neg h2]at hv;exact hv
  ·rename_i h1;rw[if_neg h1]at hv;exact hv
 exact of_decide_eq_true (hW _ _ _ e2).symm
theorem A8 {K l:KL}{dd:List Str}{st:St3}(hS:SoOk K l dd st){so':List Cl}(hp:so'.Perm st.1):(cR (λx=>bp (kQ x)) so'.zipIdx).map (·.1)=cR (λc=>bp (kC c)) st.1:=by
 have p1:=aH (λx=>bp (kQ x)) so'.zipIdx;refine fu _ (λa ha b hb e=>fP (λc:Cl=>(c.o,c.n)) hS.nod ha hb (vD ha hb e)) (((p1.map (·.1)).trans ?_).trans hp) (List.pairwise_map.mpr ((cH (λx=>bp (kQ x)) so'.zipIdx).imp λ{a b} h z=>h (Cm z)));rw[List.zipIdx_map_fst]
theorem E2 {rows:List D}(g:cU rows)(known:Int):rj [.tup rows,.int known]=some (.lst ((fK (aj rows known)).map clD),true):=by
 obtain⟨v3,v4,er⟩:=A1 g known;have eo:=uc g known;have hKr:∀y∈aj rows known,eB y.1:=λy hy=>(bf g hy).2;have hn:=fJ rows known;have hlen:(cy (aj rows known)).length<=60:=by
  rw[show(cy (aj rows known)).length=_ from(aH _ _).length_eq];exact Nat.le_trans (List.length_filter_le _ _) (Nat.le_trans (eO rows known) g.1)
 have hmem:∀x∈cy (aj rows known),x∈aj rows known/\aV x.1=false:=λx hx=>by
  obtain⟨h1,h2⟩:=List.mem_filter.mp ((aH _ _).mem_iff.mp hx);exact⟨h1,by simpa using h2⟩
 have hnd:((cy (aj rows known)).map (·.2)).Nodup:=l5 hn;generalize hK:aj rows known=K at *;generalize hL:cy K=L at *;obtain⟨ρ',e,so',bur,c2,u3,u4,u8,w9,w10,w11,w12,rfl,hpe,_,_⟩:=cQ (tg:=tgN 8) (g:=nS) (λj ρ=>∃(so':List Cl)(bur:List Str)(c2:Bool)(u3 u4 u8 w9 w10 w11 w12:Option (D×Bool)),ρ=iE rows known c2 u3 u4 so' (f7 K (L.take j)).2.1 (f7 K (L.take j)).2.2 bur u8 w9 w10 w11 w12/\so'.Perm (f7 K (L.take j)).1/\(∀p,p∈bur↔(L.take j).any (fL p)=true)/\bur.length<=j) (L.map λx=>.int x.2)
  (iE rows known true v3 v4 [] [] [] [] none none none none none) ⟨[],[],true,v3,v4,none,none,none,none,none,rfl,List.Perm.refl _,λp=>by simp,Nat.le_refl _⟩ (by
   rintro j d ρ hd ⟨so',bur,c2,u3,u4,u8,w9,w10,w11,w12,rfl,hpe,hbu,hbl⟩;rw[List.getElem?_map]at hd;obtain⟨x,hx,rfl⟩:=oY hd;have hjl:j<L.length:=(List.getElem?_eq_some_iff.mp hx).1;have et:L.take (j+1)=L.take j++[x]:=by rw[List.take_add_one,hx];rfl
   have ef:f7 K (L.take (j+1))=br K (f7 K (L.take j)) x:=by rw[et];unfold f7;rw[List.foldl_append];rfl
   obtain⟨hxK,hxr⟩:=hmem x (List.mem_of_getElem? hx);obtain⟨dd,h⟩:=mw K (L.take j) (List.Nodup.sublist (List.Sublist.map _ (List.take_sublist _ _)) hnd);have hwl:kL K (f7 K (L.take j)).1:=qt _ _ λc hc=>by cases hc
   have esp:cy K=L.take j++x::L.drop (j+1):=by
    rw[hL];have:L.drop j=x::L.drop (j+1):=by rw[List.drop_eq_getElem_cons hjl,(List.getElem?_eq_some_iff.mp hx).2]
    rw[←this,List.take_append_drop]
   have hst:=E1 g (known:=known) (by rw[hK];exact h) (by rw[List.length_take];omega) (by rw[hK];exact hwl) hpe (bur:=bur) (by rw[List.length_take];omega) (x:=x) (by rw[hK];exact hxK) hxr (λhk=>by
    rw[hK,A6 hn hKr esp hk];congr 1;rw[Bool.eq_iff_iff,decide_eq_true_eq];exact(hbu _).symm) c2 u3 u4 w9 w10 w11 w12
   rw[hK]at hst;obtain⟨so2,bur2,c3,z9,z10,z11,z12,e1,e2,e3,e4⟩:=hst;refine⟨_,_,rfl,.inl e1,so2,bur2,c3,_,_,_,z9,z10,z11,z12,by rw[ef],by rw[ef];exact e2,λp=>?_,by omega⟩;rw[e3,hbu,et,List.any_append];simp)
 have hall:L.take (L.map λx=>D.int x.2).length=L:=by rw[List.length_map,List.take_length]
 rw[hall]at e hpe;obtain⟨dd,hso⟩:=mw K L hnd;generalize hst:f7 K L=st at e hso hpe;have hcl:so'.length<=60:=by rw[hpe.length_eq];have:=hso.len;omega
 have hCk:fK K=(cR (λx=>bp (kQ x)) so'.zipIdx).map (·.1):=by rw[A8 hso hpe];unfold fK;rw[hL,hst]
 let ρ5:DL.Env:=iE rows known c2 u3 u4 so' st.2.1 st.2.2 bur u8 w9 w10 w11 w12;have hzr:∀x∈so'.zipIdx,atI (so'.map clD) (x.2:Int)=some (clD x.1):=λx hx=>by
  have h1:so'[x.2]? = some x.1:=List.mem_zipIdx_iff_getElem?.mp hx;exact ir (by rw[List.getElem?_map,h1];rfl)
 have d1:=ky (fi:=f9 (fA dN (ab (af 5) ak))) (nT:=1) (cap:=[5]) (tg:=tgN 0) (fe:=fA aI (ab (f2 ixD (f2 ixD (af 1) (af 0)) (fC (.int 0))) (ab (f2 ixD (f2 ixD (af 1) (af 0)) (fC (.int 2))) (ab (f2 ixD (f2 ixD (af 1) (af 0)) (fC (.int 4))) (ab (af 0) ak))))) (ρ:=ρ5) so'.zipIdx (λx=>.int x.2) (λx=>.tup [.str x.1.o,.int x.1.s,.int x.1.n,.int x.2]) (by rw[gG (j:=so'.length) (b:=false) (by show some (D.int ((so'.map clD).length:Nat),false)=_;rw[List.length_map]) (by omega),vJ]) (by rw[List.length_zipIdx];omega) λx hx=>by
   let ρ1:DL.Env:=[some (.int x.2,false),some (.lst (so'.map clD),false)];have q:f2 ixD (af 1) (af 0) ρ1=some (clD x.1,false):=eoF (.lst (so'.map clD)) (.int x.2) rfl rfl (by simp[hzr x hx]);exact⟨ρ1,rfl,false,cdD [.str x.1.o,.int x.1.s,.int x.1.n,.int x.2] (acF (eoF (clD x.1) (.int 0) q rfl (cl0 _)) (acF (eoF (clD x.1) (.int 2) q rfl (cl2 _)) (acF (eoF (clD x.1) (.int 4) q rfl (cl4 _)) rfl))) (cx _ (by simp))⟩
 have d2:=jG so'.zipIdx (λx=>[.str x.1.o,.int x.1.s,.int x.1.n,.int x.2]) kQ (λ_ _=>rfl) (by rw[List.length_zipIdx];exact hcl) (Ck _) (by
  unfold bT;rw[Bool.or_eq_true];right;simp[List.all_eq_true,kQ])
 generalize hM:cR (λx=>bp (kQ x)) so'.zipIdx=M at d2 hCk;have hMm:∀x∈M,x∈so'.zipIdx:=λx hx=>by rw[←hM]at hx;exact(aH _ _).mem_iff.mp hx
 have hMl:M.length<=60:=by rw[←hM,(aH _ _).length_eq,List.length_zipIdx];exact hcl
 have d3:=kx (F:=dw) (aw d1 (show ak _=some []from rfl)) d2;have hfl:b7 (M.map λx=>D.tup [.str x.1.o,.int x.1.s,.int x.1.n,.int x.2])=true:=cL λd hd=>by obtain⟨c,_,rfl⟩:=List.mem_map.mp hd;rfl
 rw[hCk,List.map_map];refine a8 rfl (bz (ρ':=(rkE rows known [some (.dk [] [],true),none,none,none,none,none,none,none,none,none,none,none])) rfl (bz (d9 (ds:=rows) rfl er) (bP (ds:=[]) rfl rfl (bz (ρ':=(rkE rows known [some (dF K,true),v3,v4,some (.lst [],true),some (.dt [] [],true),none,none,none,none,none,none,none])) rfl (bP (ds:=[]) rfl rfl (bz (d9 (ds:=L.map λx=>.int x.2) ?_ ?_) (bP d3 hfl (aK ?_))))))))
 ·show(fA dJ (ab (af 0) (ab (af 1) ak)) _).bind _=_;rw[cdD [.tup rows,.int known] rfl eo];rfl
 ·rw[←hK];exact e
 ·exact ky M (λx=>.tup [.str x.1.o,.int x.1.s,.int x.1.n,.int x.2]) (λx=>clD x.1) rfl (by omega) λx hx=>⟨[some (.tup [.str x.1.o,.int x.1.s,.int x.1.n,.int x.2],false),some (.lst (so'.map clD),false)],rfl,false,eoF (.lst (so'.map clD)) (.int x.2) rfl (eoF (.tup [.str x.1.o,.int x.1.s,.int x.1.n,.int x.2]) (.int 3) rfl rfl (by simp[at3])) (by simp[hzr x (hMm x hx)])⟩
theorem yD (cs:List Cl)(hl:cs.length<=60):jA [.lst (cs.map clD)]=some (.bl true,false):=by
 obtain⟨ρ',e,v1,v2,rfl⟩:=cQ (tg:=tgN 1) (g:=lP) (λ_ ρ=>∃v1 v2:Option (D×Bool),ρ=[some (.lst (cs.map clD),false),v1,v2]) (cs.map clD) [some (.lst (cs.map clD),false),none,none] ⟨none,none,rfl⟩ (by
  rintro j d ρ hd ⟨v1,v2,rfl⟩;rw[List.getElem?_map]at hd;obtain⟨c,hc,rfl⟩:=oY hd;let ρ1:DL.Env:=[some (.lst (cs.map clD),false),some (clD c,false),v2];have q0:ixV 1 0 ρ1=some (.str c.o,false):=eoF (clD c) (.int 0) rfl rfl (cl0 c);have q1:ixV 1 1 ρ1=some (.str c.p,false):=eoF (clD c) (.int 1) rfl rfl (cl1 c);have r2:∀ {ρ:DL.Env},af 1 ρ=some (clD c,false)->ixV 1 2 ρ=some (.int c.s,false):=λh=>eoF (clD c) (.int 2) h rfl (cl2 c);have r3:∀ {ρ:DL.Env},af 1 ρ=some (clD c,false)->ixV 1 3 ρ=some (uD c.u,false):=λh=>eoF (clD c) (.int 3) h rfl (cl3 c);have r4:∀ {ρ:DL.Env},af 1 ρ=some (clD c,false)->ixV 1 4 ρ=some (.int c.n,false):=λh=>eoF (clD c) (.int 4) h rfl (cl4 c);have t1:dj (dO (tOf (fA bL (ab (af 1) (ab (fC (.ty "tuple")) ak))))) (dj (tOf (f2 dNe (fA dN (ab (af 1) ak)) (fC (.int 5)))) (dj (dO (tOf (fA bL (ab (ixV 1 0) (ab (fC (.ty "str")) ak))))) (dO (tOf (fA bL (ab (ixV 1 1) (ab (fC (.ty "str")) ak))))))) ρ1=some false :=
   cB (p:=false) (q:=false) (fG (p:=true) (tkF (cdD [clD c,.ty "tuple"] rfl (bc rfl)))) λ_=>cB (p:=false) (q:=false) (tkF (eoF (.int 5) (.int 5) rfl rfl (by simp))) λ_=>cB (p:=false) (q:=false) (fG (p:=true) (tkF (cdD [.str c.o,.ty "str"] (aw q0 rfl) (bc rfl)))) λ_=>fG (p:=true) (tkF (cdD [.str c.p,.ty "str"] (aw q1 rfl) (bc rfl)))
  obtain⟨z,hz⟩:∃z:Int,∀ {ρ:DL.Env},af 1 ρ=some (clD c,false)->f2 ixD (fA bq (ab (ixV 1 3) (ab (fC (.int 0)) ak))) (fA lZ (ab (f2 dIs (ixV 1 3) (fC .non)) ak)) ρ=some (.int z,false):=by
   cases hu:c.u with
   |none=>
    rw[hu]at r3;exact⟨0,λh=>fZ (x:=.lst [.non,.int 0]) (y:=.int 1) (b1:=true) (b2:=false) (cdD [.non,.int 0] (aw (r3 h) rfl) (eQ _ (by simp))) (cdD [.bl true] (acF (eoF .non .non (r3 h) rfl (by simp)) rfl) rfl) (by simp[at1])⟩
   |some u=>
    rw[hu]at r3;exact⟨u,λh=>fZ (x:=.lst [.int u,.int 0]) (y:=.int 0) (b1:=true) (b2:=false) (cdD [.int u,.int 0] (aw (r3 h) rfl) (eQ _ (by simp))) (cdD [.bl false] (acF (eoF (.int u) .non (r3 h) rfl (by simp)) rfl) rfl) (by simp[at0])⟩
  obtain⟨ρ2,e2,w2,rfl⟩:=cQ (tg:=tgN 2) (g:=lO) (λ_ ρ=>∃w2:Option (D×Bool),ρ=[some (.lst (cs.map clD),false),some (clD c,false),w2]) (([c.s,c.n,z]:List Int).map .int) ρ1 ⟨v2,rfl⟩ (by
   rintro i d ρ hd ⟨w2,rfl⟩;rw[List.getElem?_map]at hd;obtain⟨k,_,rfl⟩:=oY hd;exact⟨_,_,rfl,.inl (ca (cB (p:=false) (q:=false) (fG (p:=true) (tkF (cdD [.int k,.ty "int"] rfl (bc rfl)))) λ_=>tkF (cdD [.int k,.ty "bool"] rfl (bc rfl))) rfl),some (.int k,false),rfl⟩)
  refine⟨ρ1,_,rfl,.inl (ce t1 (d9 (ds:=([c.s,c.n,z]:List Int).map .int) ?_ e2)),some (clD c,false),w2,rfl⟩;have h1:af 1 (mG ρ1)=some (clD c,false):=rfl;show(fA bq _ (mG ρ1)).bind _=_;rw[cdD (([c.s,c.n,z]:List Int).map .int) (aw (r2 h1) (aw (r4 h1) (aw (hz h1) rfl))) (eQ _ (by simp))];rfl)
 exact a8 rfl (bz (ca (fG (p:=true) (tkF (cdD [.lst (cs.map clD),.ty "list"] rfl (bc rfl)))) rfl) (bz (d9 (ds:=cs.map clD) rfl e) (aK rfl)))
theorem xw {ns:List Int}{i:Int}(h1:0<=i)(h2:i<ns.length):∃m∈ns,ixD (.lst (ns.map .int)) (.int i)=some (.int m,false):=by
 have h:i.toNat<ns.length:=by omega
 refine⟨ns.getD i.toNat 0,?_,wR h1 h⟩;rw[List.getD_eq_getElem?_getD,List.getElem?_eq_getElem h];exact List.getElem_mem h
theorem l8 {zs:List Str}{i:Int}(h1 : -(zs.length:Int)<=i)(h2:i<zs.length):∃z∈zs,ixD (.lst (zs.map .str)) (.int i)=some (.str z,false):=by
 obtain⟨j,hj,hl⟩:∃j,ixN (zs.map D.str).length i=some j/\j<zs.length:=by
  unfold ixN;rw[List.length_map];by_cases h0:0<=i
  ·rw[if_pos h0,if_pos h2];exact⟨_,rfl,by omega⟩
  ·rw[if_neg h0,if_pos (by omega)];exact⟨_,rfl,by omega⟩
 refine⟨zs[j],List.getElem_mem hl,?_⟩;have:atI (zs.map D.str) i=some (.str zs[j]):=by unfold atI;rw[hj,Option.bind_some,List.getElem?_map,List.getElem?_eq_getElem hl];rfl
 simp[this]
theorem lA (x y:Int)(h : -1000<=y/\y<=1000):jy (.int x) (.int y)=some (.int (x*y),false):=by
 have : -18446744073709551616<y/\y<18446744073709551616:=by omega
 simp[this]
theorem A9 {x n:Int}(h:0<n):dn (.int x) (.int n)=some (.int (x % n),false):=by
 show(if decide ((0:Int)<n)=true then _ else _)=_;rw[if_pos (decide_eq_true h)]
theorem Cn (c day ms:Int)(hms : -1000<=ms/\ms<=1000)(b o p:Str):∃k r,iR [.int c,.int day,.str b,.str o,.str p,.int ms]=some (.tup (.str k::r),false)/\Cd k r:=by
 have h16:=mod_lt (x:=c) (m:=16) (by decide);have h2:=mod_lt (x:=c / 80) (m:=2) (by decide);obtain⟨iv,hiv,eiv⟩:=xw (ns:=[0,0,0,0,0,1,1,1,1,2,2,3,3,4,5,6+c / 80 % 2]) (i:=c % 16) h16.1 h16.2;have hi8:0<=iv/\iv<8:=by simp only[List.mem_cons,List.not_mem_nil,or_false]at hiv;omega
 let L1:List D:=[.tup [.str "chosen",.int day,.str b,.str o,.str p,.int (day+c / 16 % 5*ms)],.tup [.str "heir",.int day,.str b,.str o,.str p]];let L2:List D:=[.tup [.str "death",.int day,.str b],.tup [.str "named",.int day,.str o,.str p],.tup [.str "lost",.int day,.str b],.tup [.str "found",.int day,.str b]];let L3:List D:=[.tup [.str "death",.int day,.str p],.tup [.str "paper",.int day,.str b,.int 1,.tup [.int day,.non],.non,.tup [.str p]]];have em:f2 cG (af 1) (f2 jy (f2 dn (f2 fg (af 0) (fC (.int 16))) (fC (.int 5))) (af 5)) [some (.int c,false),some (.int day,false),some (.str b,false),some (.str o,false),some (.str p,false),some (.int ms,false),none]=some (.int (day+c / 16 % 5*ms),false):=eoF (.int day) (.int (c / 16 % 5*ms)) rfl (eoF (.int (c / 16 % 5)) (.int ms) (by simp) rfl (lA _ _ hms)) (by simp);have e1:fA bq (ab (fA aI (ab (fC (.str "chosen")) (ab (af 1) (ab (af 2) (ab (af 3) (ab (af 4) (ab (f2 cG (af 1) (f2 jy (f2 dn (f2 fg (af 0) (fC (.int 16))) (fC (.int 5))) (af 5))) ak))))))) (ab (fA aI (ab (fC (.str "heir")) (ab (af 1) (ab (af 2) (ab (af 3) (ab (af 4) ak)))))) ak)) [some (.int c,false),some (.int day,false),some (.str b,false),some (.str o,false),some (.str p,false),some (.int ms,false),none]=some (.lst L1,true) :=
  cdD L1 (acF (cdD [.str "chosen",.int day,.str b,.str o,.str p,.int (day+c / 16 % 5*ms)] (acF rfl (acF rfl (acF rfl (acF rfl (acF rfl (aw em rfl)))))) (cx _ (by simp))) (acF (cdD [.str "heir",.int day,.str b,.str o,.str p] rfl (cx _ (by simp))) rfl)) (eQ _ (by simp[L1]))
 have q:∀n:Nat,n<=100->n<=sizeLine:=λn h=>bM (by omega);have e2:f2 cG (af 6) (fA bq (ab (fA aI (ab (fC (.str "death")) (ab (af 1) (ab (af 2) ak)))) (ab (fA aI (ab (fC (.str "named")) (ab (af 1) (ab (af 3) (ab (af 4) ak))))) (ab (fA aI (ab (fC (.str "lost")) (ab (af 1) (ab (af 2) ak)))) (ab (fA aI (ab (fC (.str "found")) (ab (af 1) (ab (af 2) ak)))) ak))))) [some (.int c,false),some (.int day,false),some (.str b,false),some (.str o,false),some (.str p,false),some (.int ms,false),some (.lst L1,true)]=some (.lst (L1++L2),true) :=
  fZ (x:=.lst L1) (y:=.lst L2) (b1:=false) (b2:=true) rfl (by simp[L2,sizeLine]) (if_pos (c:=6<=sizeLine) (e:=none) (q 6 (by decide)))
 have e3:f2 cG (af 6) (fA bq (ab (fA aI (ab (fC (.str "death")) (ab (af 1) (ab (af 4) ak)))) (ab (fA aI (ab (fC (.str "paper")) (ab (af 1) (ab (af 2) (ab (fC (.int 1)) (ab (fA aI (ab (af 1) (ab (fC .non) ak))) (ab (fC .non) (ab (fA aI (ab (af 4) ak)) ak)))))))) ak))) [some (.int c,false),some (.int day,false),some (.str b,false),some (.str o,false),some (.str p,false),some (.int ms,false),some (.lst (L1++L2),true)]=some (.lst (L1++L2++L3),true) :=
  fZ (x:=.lst (L1++L2)) (y:=.lst L3) (b1:=false) (b2:=true) rfl (by simp[L3,sizeLine]) (if_pos (c:=8<=sizeLine) (e:=none) (q 8 (by decide)))
 have hl8:(L1++L2++L3).length=8:=rfl;have fin:iR [.int c,.int day,.str b,.str o,.str p,.int ms]=some ((L1++L2++L3).getD iv.toNat .non,false):=by
  refine a8 rfl (bP (ds:=L1) e1 rfl (bP (ds:=L1++L2) e2 rfl (bP (ds:=L1++L2++L3) e3 rfl (aK (eoF (.lst (L1++L2++L3)) (.int iv) rfl (fZ (x:=.lst (([0,0,0,0,0,1,1,1,1,2,2,3,3,4,5,6+c / 80 % 2]:List Int).map .int)) (y:=.int (c % 16)) (b1:=true) (b2:=false) ?_ (by simp) eiv) (Ad hi8.1 (by rw[hl8];omega)))))));exact cdD (([0,0,0,0,0,1,1,1,1,2,2,3,3,4,5,6+c / 80 % 2]:List Int).map .int) (by simp) (eQ _ (by simp))
 rw[fin];rcases (show iv=0∨iv=1∨iv=2∨iv=3∨iv=4∨iv=5∨iv=6∨iv=7 by omega)with h|h|h|h|h|h|h|h<;>subst h
 ·exact⟨_,_,rfl,.chosen _ _ _ _ _⟩
 ·exact⟨_,_,rfl,.heir _ _ _ _⟩
 ·exact⟨_,_,rfl,.three _ (.inl rfl) _ _⟩
 ·exact⟨_,_,rfl,.named _ _ _⟩
 ·exact⟨_,_,rfl,.three _ (.inr (.inl rfl)) _ _⟩
 ·exact⟨_,_,rfl,.three _ (.inr (.inr rfl)) _ _⟩
 ·exact⟨_,_,rfl,.three _ (.inl rfl) _ _⟩
 ·exact⟨_,_,rfl,.other _ (.inr (.inl rfl)) _ _ _ rfl (by simp)⟩
theorem Gg (c ms:Int)(hms : -1000<=ms/\ms<=1000)(k:Nat)(hk:k<60)(ns:List Int)(zs offs had:List Str)(hz:0<zs.length)(hol:0<offs.length/\offs.length<=10)(rows:List D)(hr:rows.length<=100)(hh:had≠[])(hh2:had.length<=100)(v7 v9 v10 v11 v12 v13:Option (D×Bool)):
  ∃r had' w9 w10 w11 w12 w13,eB r/\had'≠[]/\had'.length<=had.length+1/\ls (eR ns zs ms offs rows (some (.int c,false)) (some (.int k,false)) [v7,some (.lst (had.map .str),true),v9,v10,v11,v12,v13])=some (.nx (eR ns zs ms offs (rows++[r]) (some (.int c,false)) (some (.int k,false)) [v7,some (.lst (had'.map .str),true),w9,w10,w11,w12,w13])):=by
 obtain⟨day,hday⟩:∃day:Int,((k:Int) / 3+c / 400 % 3)*ms=day:=⟨_,rfl⟩;have hl1:(0:Int)<4*offs.length+1:=by omega
 have hl2:(0:Int)<zs.length:=by omega
 have hm4 : -18446744073709551616<(offs.length:Int)/\(offs.length:Int)<18446744073709551616:=by omega
 have hm1:=mod_lt (x:=c / 1200) (m:=4*offs.length+1) hl1;obtain⟨o,ho,eo⟩:=l8 (zs:=offs++[("mill" : Str)]) (i:=c / 1200 % (4*offs.length+1) / 4) (by simp;omega) (by simp;omega);have hm2:=mod_lt (x:=c / 30000) (m:=zs.length) hl2;obtain⟨p,_,ep⟩:=l8 (zs:=zs) (i:=c / 30000 % zs.length) (by omega) (by omega);obtain⟨n,hn,hn1,hn3⟩:∃n:Int,(if(had.length:Int)<3 then (had.length:Int)else 3)=n/\0<n/\n<=had.length:=by
  have:0<had.length:=List.length_pos_iff.mpr hh;split
  ·exact⟨_,rfl,by omega,by omega⟩
  ·exact⟨_,rfl,by omega,by omega⟩
 have hmn:=mod_lt (x:=c / 10000) (m:=n) hn1;obtain⟨b,_,eb⟩:=l8 (zs:=had) (i:=-1 - c / 10000 % n) (by omega) (by omega);obtain⟨kd,r,ed,dd⟩:=Cn c day ms hms b o p;have hm6:=mod_lt (x:=c / 7) (m:=6) (by decide);obtain⟨jv,_,ejv⟩:=xw (ns:=[0,0,0,0,1,6]) (i:=c / 7 % 6) hm6.1 hm6.2;have hdf:bo (.tup (.str kd::r))=true:=by simp[dd.deed.flat]
 obtain⟨k2,r2,e2,hf2⟩:∃k2 r2,gIf (dj (tOf (f2 dEq (af 6) (fC (.int 0)))) (tOf (f2 dEq (f2 dn (f2 fg (af 3) (fC (.int 200000))) (fC (.int 9))) (fC (.int 1))))) (aS 13 (fA aI (ab (fC (.str "named")) (ab (af 9) (ab (af 10) (ab (af 12) ak)))))) bH (eR ns zs ms offs rows (some (.int c,false)) (some (.int k,false)) [v7,some (.lst (had.map .str),true),some (.int day,false),some (.str o,false),some (.str b,false),some (.str p,false),some (.tup (.str kd::r),false)])=some (.nx (eR ns zs ms offs rows (some (.int c,false)) (some (.int k,false)) [v7,some (.lst (had.map .str),true),some (.int day,false),some (.str o,false),some (.str b,false),some (.str p,false),some (.tup (.str k2::r2),false)]))/\Cd k2 r2:=by
  have hcond:dj (tOf (f2 dEq (af 6) (fC (.int 0)))) (tOf (f2 dEq (f2 dn (f2 fg (af 3) (fC (.int 200000))) (fC (.int 9))) (fC (.int 1)))) (eR ns zs ms offs rows (some (.int c,false)) (some (.int k,false)) [v7,some (.lst (had.map .str),true),some (.int day,false),some (.str o,false),some (.str b,false),some (.str p,false),some (.tup (.str kd::r),false)])=some (decide ((k:Int)=0) || decide (c / 200000 % 9=1)):=cB (tkF (by simp)) λ_=>tkF (by simp);cases hb:(decide ((k:Int)=0) || decide (c / 200000 % 9=1)) with
  |true=>exact⟨("named" : Str),[.int day,.str o,.str p],fz (hcond.trans (by rw[hb])) (tG (d:=.tup [.str "named",.int day,.str o,.str p]) (b:=false) (cdD [.str "named",.int day,.str o,.str p] rfl (cx _ (by simp))) rfl),.named _ _ _⟩
  |false=>exact⟨kd,r,ca (hcond.trans (by rw[hb])) rfl,dd⟩
 have e4:∀(ρ:DL.Env),af 13 ρ=some (.tup (.str k2::r2),false)->ixV 13 0 ρ=some (.str k2,false):=λρ h=>eoF (.tup (.str k2::r2)) (.int 0) h rfl (by simp[at0]);have hin:∀(ρ:DL.Env),af 13 ρ=some (.tup (.str k2::r2),false)->tOf (f2 dIn (ixV 13 0) (fA aI (ab (fC (.str "named")) (ab (fC (.str "chosen")) ak)))) ρ=some (decide (k2∈[("named" : Str),("chosen" : Str)])):=λρ h=>tkF (eoF (.str k2) (.tup (([("named" : Str),("chosen" : Str)]:List Str).map .str)) (e4 ρ h) (by simp[sizeLine]) (kE _ _));let had':List Str:=if k2∈[("named" : Str),("chosen" : Str)]then had++[p]else had;have hne:had'≠[]:=by simp only[had'];split<;>simp[hh]
 have hln:had'.length<=had.length+1:=by simp only[had'];split<;>simp
 have hrc:eB (row (day+jv*ms) k2 r2):=⟨_,_,_,rfl,hf2⟩;refine⟨row (day+jv*ms) k2 r2,had',some (.int day,false),some (.str o,false),some (.str b,false),some (.str p,false),some (.tup (.str k2::r2),false),hrc,hne,hln,?_⟩;refine rfF (.int day) (eoF (.int ((k:Int) / 3+c / 400 % 3)) (.int ms) (by simp) rfl (by rw[←hday];exact lA _ _ hms)) rfl (rfF (.str o) (fZ (x:=.lst ((offs++[("mill" : Str)]).map .str)) (y:=.int (c / 1200 % (4*offs.length+1) / 4)) (b1:=true) (b2:=false) (fZ (x:=.lst (offs.map .str)) (y:=.lst [.str "mill"]) (b1:=false) (b2:=true) rfl (by simp[sizeLine]) (by rw[List.map_append];exact if_pos (bM (by simp;omega)))) (eoF (.int (c / 1200 % (4*offs.length+1))) (.int 4) (eoF (.int (c / 1200)) (.int (4*offs.length+1)) (by simp) (by simp[hm4]) (A9 hl1)) rfl (by simp)) eo) rfl (rfF (.str b) ?_ rfl (rfF (.str p) (eoF (.lst (zs.map .str)) (.int (c / 30000 % zs.length)) rfl (eoF (.int (c / 30000)) (.int zs.length) (by simp) (by simp) (A9 hl2)) ep) rfl (rfF (.tup (.str kd::r)) (cdD [.int c,.int day,.str b,.str o,.str p,.int ms] rfl ed) hdf (bz e2 (bz (ρ':=(eR ns zs ms offs rows (some (.int c,false)) (some (.int k,false)) [v7,some (.lst (had'.map .str),true),some (.int day,false),some (.str o,false),some (.str b,false),some (.str p,false),some (.tup (.str k2::r2),false)])) ?_ (dX (ds:=rows) (d:=row (day+jv*ms) k2 r2) (b:=false) rfl ?_ hrc.rp.flat (bg (by omega)))))))))
 ·refine eoF (.lst (had.map .str)) (.int (-1 - c / 10000 % n)) rfl ?_ eb;exact eoF (.int (-1)) (.int (c / 10000 % n)) rfl (eoF (.int (c / 10000)) (.int n) (by simp) (by simp[hn]) (A9 hn1)) rfl
 ·by_cases hx:k2∈[("named" : Str),("chosen" : Str)]
  ·have eh:had'=had++[p]:=by simp only[had'];rw[if_pos hx]
   rw[eh,List.map_append];exact fz ((hin _ rfl).trans (by rw[decide_eq_true hx])) (dX (ds:=had.map .str) (d:=.str p) (b:=false) rfl rfl rfl (bg (by simp;omega)))
  ·have eh:had'=had:=by simp only[had'];rw[if_neg hx]
   rw[eh];exact ca ((hin _ rfl).trans (by rw[decide_eq_false hx])) rfl
 ·refine cdD [.int (day+jv*ms),.tup (.str k2::r2)] (acF (eoF (.int day) (.int (jv*ms)) rfl (eoF (.int jv) (.int ms) (fZ (x:=.lst (([0,0,0,0,1,6]:List Int).map .int)) (y:=.int (c / 7 % 6)) (b1:=true) (b2:=false) (cdD (([0,0,0,0,1,6]:List Int).map .int) (by simp) (eQ _ (by simp))) (by simp) ejv) rfl (lA _ _ hms)) (by simp)) rfl) (cx _ (by simp))
theorem Gh (c ms:Int)(hms : -1000<=ms/\ms<=1000)(ns:List Int)(zs offs:List Str)(rows:List D)(hr:rows.length<=100)(i:Nat)(hi:i<offs.length)(hi2:i<10)(v7:Option (D×Bool)):
  ∃r w7,eB r/\lr (eR ns zs ms offs rows (some (.int c,false)) (some (.int i,false)) [v7,none,none,none,none,none,none])=some (.nx (eR ns zs ms offs (rows++[r]) (some (.int c,false)) (some (.int i,false)) [w7,none,none,none,none,none,none])):=by
 have h3:=mod_lt (x:=c / (2+i)) (m:=3) (by decide);obtain⟨rl,_,erl⟩:=l8 (zs:=[("open" : Str),("first" : Str),("last" : Str)]) (i:=c / (2+i) % 3) (by simp;omega) (by simp;omega);obtain⟨o,ho,eo⟩:=l8 (zs:=offs) (i:=i) (by omega) (by omega);have b2:(0:Int)<2+i/\(2:Int)+i<1073741824:=by omega
 obtain⟨hd,ehd⟩:∃hd:Int,f2 jy (f2 jy (fA lZ (ab (f2 dEq (f2 dn (f2 fg (af 3) (fC (.int 8))) (fC (.int 8))) (fC (.int 1))) ak)) (fC (.int 5))) (af 2) (eR ns zs ms offs rows (some (.int c,false)) (some (.int i,false)) [some (.str rl,false),none,none,none,none,none,none])=some (.int hd,false):=⟨_,eoF (.int ((if decide (c / 8 % 8=1)=true then 1 else 0)*5)) (.int ms) (eoF (.int (if decide (c / 8 % 8=1)=true then 1 else 0)) (.int 5) (cdD [.bl (decide (c / 8 % 8=1))] (acF (by simp) rfl) rfl) rfl (lA _ _ (by decide))) rfl (lA _ _ hms)⟩;refine⟨row hd ("root" : Str) [.str o,.int 7,.int 1,.str rl],some (.str rl,false),⟨_,_,_,rfl,.root _ _ _ _⟩,rfF (.str rl) (fZ (x:=.lst (([("open" : Str),("first" : Str),("last" : Str)]:List Str).map .str)) (y:=.int (c / (2+i) % 3)) (b1:=true) (b2:=false) (by simp[sizeLine]) (by simp[b2]) erl) rfl (dX (ds:=rows) (d:=row hd ("root" : Str) [.str o,.int 7,.int 1,.str rl]) (b:=false) rfl ?_ rfl (bg (by omega)))⟩;exact cdD [.int hd,.tup [.str "root",.str o,.int 7,.int 1,.str rl]] (aw ehd (acF (cdD [.str "root",.str o,.int 7,.int 1,.str rl] (acF rfl (acF (eoF (.lst (offs.map .str)) (.int i) rfl rfl eo) rfl)) (cx _ (by simp))) rfl)) (cx _ (by simp))
theorem Co (ns:List Int)(ms:Int)(hms : -1000<=ms/\ms<=1000)(zs:List Str)(hz:0<zs.length/\zs.length<=100):∃rows:List D,nN [.lst (ns.map .int),.lst (zs.map .str),.int ms]=some (.tup rows,false)/\(∀r∈rows,eB r)/\rows.length<=33:=by
 obtain⟨c,hc⟩:∃c,ns.getD 1 0=c:=⟨_,rfl⟩;have e1:=mt ns 1;rw[hc]at e1;have h2:=mod_lt (x:=c) (m:=3) (by decide);obtain⟨offs,hoffs,hol,hol2⟩:∃offs:List Str,kX ([("crown" : Str),("abbey" : Str),("guild" : Str)].map .str) none (some (1+c % 3))=offs.map .str/\0<offs.length/\offs.length<=3:=by
  rcases (show c % 3=0∨c % 3=1∨c % 3=2 by omega)with h|h|h
  ·rw[h];exact⟨[("crown" : Str)],rfl,by decide,by decide⟩
  ·rw[h];exact⟨[("crown" : Str),("abbey" : Str)],rfl,by decide,by decide⟩
  ·rw[h];exact⟨[("crown" : Str),("abbey" : Str),("guild" : Str)],rfl,by decide,by decide⟩
 obtain⟨cs,ecs,hcs⟩:=yt ns 30 (by decide);obtain⟨z0,hz0,ez0⟩:=l8 (zs:=zs) (i:=0) (by omega) (by omega);obtain⟨ρ1,f1,rows1,v6,v7,rfl,g1,l1⟩:=n0 (tg:=tgN 6) (g:=lr) offs.length (λi ρ=>∃(rows:List D)(v6 v7:Option (D×Bool)),ρ=(eR ns zs ms offs rows (some (.int c,false)) v6 [v7,none,none,none,none,none,none])/\(∀r∈rows,eB r)/\rows.length=i)
  (eR ns zs ms offs [] (some (.int c,false)) none [none,none,none,none,none,none,none]) ⟨[],none,none,rfl,by simp,rfl⟩ (by
   rintro i ρ hi ⟨rows,v6,v7,rfl,g,l⟩;obtain⟨r,w7,q1,e⟩:=Gh c ms hms ns zs offs rows (by omega) i hi (by omega) v7;refine⟨_,_,rfl,.inl e,rows++[r],_,_,rfl,?_,by simp[l]⟩;intro r' hr;simp only[List.mem_append,List.mem_singleton]at hr;rcases hr with hr|rfl
   ·exact g r' hr
   ·exact q1)
 obtain⟨ρ2,f2',rows2,had2,u3,u6,w7,w9,w10,w11,w12,w13,rfl,g2,l2,q2,q3⟩:=cQ (tg:=tgT [6,3]) (g:=ls) (λi ρ=>∃(rows:List D)(had:List Str)(u3 u6 v7 v9 v10 v11 v12 v13:Option (D×Bool)),ρ=(eR ns zs ms offs rows u3 u6 [v7,some (.lst (had.map .str),true),v9,v10,v11,v12,v13])/\(∀r∈rows,eB r)/\rows.length=offs.length+i/\had≠[]/\had.length<=i+1) (jW (cs.map .int))
  (eR ns zs ms offs rows1 (some (.int c,false)) v6 [v7,some (.lst ([z0].map .str),true),none,none,none,none,none]) ⟨rows1,[z0],some (.int c,false),v6,v7,none,none,none,none,none,rfl,g1,by omega,by simp,by simp⟩ (by
   rintro i d ρ hd ⟨rows,had,u3,u6,v7,v9,v10,v11,v12,v13,rfl,g,l,q,q'⟩;rw[nX,List.getElem?_map]at hd;obtain⟨x,hx,rfl⟩:=oY hd;rw[List.getElem?_zipIdx]at hx;obtain⟨dv,hdv,rfl⟩:=oY hx;rw[List.getElem?_map]at hdv;obtain⟨cc,hcc,rfl⟩:=oY hdv;have hi:i<cs.length:=(List.getElem?_eq_some_iff.mp hcc).1;obtain⟨r,had',w9,w10,w11,w12,w13,q1,q2,q3,e⟩:=Gg cc ms hms i (by omega) ns zs offs had hz.1 ⟨hol,by omega⟩ rows (by omega) q (by omega) v7 v9 v10 v11 v12 v13;refine⟨_,_,by simp[dG],.inl e,rows++[r],had',some (.int cc,false),some (.int i,false),v7,w9,w10,w11,w12,w13,rfl,?_,by simp;omega,q2,by omega⟩;intro r' hr;simp only[List.mem_append,List.mem_singleton]at hr;rcases hr with hr|rfl
   ·exact g r' hr
   ·exact q1)
 have hel:(jW (cs.map D.int)).length=cs.length:=by rw[nX];simp
 rw[hel]at l2 q3;refine⟨rows2,a8 rfl (rfF (.int c) (cdD [.lst (ns.map .int),.int ((1:Nat):Int)] rfl e1) rfl (bP (ds:=offs.map .str) ?_ (gn _) (bP (ds:=[]) rfl rfl (bz (nA (gG (j:=offs.length) (b:=false) (by simp) (by omega)) f1) (bP (ds:=[z0].map .str) (cdD [.str z0] (acF (eoF (.lst (zs.map .str)) (.int 0) rfl rfl ez0) rfl) (eQ _ (by simp))) rfl (bz (d9 (ds:=jW (cs.map .int)) ?_ f2') (aK (by simp)))))))),g2,by omega⟩
 ·show fSl (fA bq (ab (fC (.str "crown")) (ab (fC (.str "abbey")) (ab (fC (.str "guild")) ak)))) jn (fU (f2 cG (fC (.int 1)) (f2 dn (af 3) (fC (.int 3))))) _=_;rw[←hoffs];simp[sizeLine]
 ·show(fA gI (ab (af 0) (ab (fC (.int 5)) (ab (fC (.int 30)) ak))) _).bind _=_;rw[cdD [.lst (ns.map .int),.int 5,.int ((30:Nat):Int)] rfl ecs];rfl
theorem lB (cs:List Cl):am 40 (.lst (cs.map clD))=true:=by
 show(cs.map clD).all (am 39)=true;rw[List.all_map,List.all_eq_true];intro c _;show am 39 (clD c)=true;unfold clD;cases c.u<;>rfl
theorem law_true (ns:List Int)(hn:ns.length<=63):∃b,F_law [.lst (ns.map .int)]=some (.bl true,b):=by
 have m5:=mod_lt (x:=ns.getD 0 0) (m:=5) (by decide);obtain⟨many,hmany⟩:∃many:Nat,2+ns.getD 0 0 % 5=many:=⟨(2+ns.getD 0 0 % 5).toNat,by omega⟩;obtain⟨zs0,hz,hzl,_⟩:=jb (ns.getD 2 0) many (by omega);have m3:=mod_lt (x:=ns.getD 0 0 / 5) (m:=3) (by decide);obtain⟨ms,hms,ems⟩:=xw (ns:=[1,1,500]) (i:=ns.getD 0 0 / 5 % 3) m3.1 m3.2;have hmb : -1000<=ms/\ms<=1000:=by simp only[List.mem_cons,List.not_mem_nil,or_false]at hms;omega
 have cel:∀(k:Nat)(ρ:DL.Env)(f:FE),af 0 ρ=some (.lst (ns.map .int),false)->f ρ=some (.int k,false)->fA aX (ab (af 0) (ab f ak)) ρ=some (.int (ns.getD k 0),false):=λk ρ f h1 h2=>cdD [.lst (ns.map .int),.int k] (aw h1 (aw h2 rfl)) (mt ns k);let zs:List Str:=if ns.getD 2 0 / 768 % 8=3 then zs0.set 0 ("crown" : Str)else zs0;have hzs:zs.length=zs0.length:=by simp only[zs];split<;>simp
 obtain⟨rows,hrows,hR,hrl⟩:=Co ns ms hmb zs (by omega);have m2:=mod_lt (x:=ns.getD 4 0) (m:=2) (by decide);obtain⟨known,_,ekn⟩:=xw (ns:=[9999,ns.getD 3 0 % 15*ms]) (i:=ns.getD 4 0 % 2) m2.1 m2.2;have g:cU rows:=⟨by omega,hR⟩;have hdue:=E2 g known;have hlen:(cy (aj rows known)).length<=60:=by
  rw[show(cy (aj rows known)).length=_ from(aH _ _).length_eq];exact Nat.le_trans (List.length_filter_le _ _) (Nat.le_trans (eO rows known) g.1)
 obtain⟨hcl,hcll⟩:=yy g known hlen;generalize fK (aj rows known)=cs at hdue hcl hcll;have hfr:bo (.tup rows)=true:=by simp[cL λr hr=>(hR r hr).rp.flat]
 have hne:dNe (.lst (cs.map clD)) (.lst (cs.map clD))=some (.bl false,false):=by
  unfold dNe;rw[if_pos ⟨lB cs,lB cs⟩,k9 40 _ (lB cs)];rfl
 have hner:dNe (.tup rows) (.tup rows)=some (.bl false,false):=by
  have h:=BR g.rp;unfold dEq at h;unfold dNe;split at h
  ·rename_i hpl;rw[if_pos hpl];injection h with h;injection h with h;injection h with h;rw[h];rfl
  ·cases h
 let E:Option (D×Bool)->Option (D×Bool)->DL.Env:=λv7 v8=>[some (.lst (ns.map .int),false),some (.lst (zs.map .str),true),some (.int ms,false),some (.tup rows,false),some (.int known,false),some (.tup rows,false),some (.lst (cs.map clD),true),v7,v8];obtain⟨ρ',e,v7,v8,rfl⟩:=n0 (tg:=tgN 7) (g:=Ah) 2 (λ_ ρ=>∃v7 v8,ρ=E v7 v8) (E none none) ⟨none,none,rfl⟩ (by
  rintro i ρ _ ⟨v7,v8,rfl⟩;refine⟨_,E (some (.int i,false)) (some (.lst (cs.map clD++[.tup [.str "zz",.str "zz",.int 0,.non,.int 0]]),true)),rfl,.inl ?_,_,_,rfl⟩;refine bP (ds:=cs.map clD) (cdD [.tup rows,.int known] rfl hcl) (cE cs) (ce (cB (p:=false) (q:=false) (fG (p:=true) (tkF (cdD [.lst (cs.map clD)] rfl (yD cs hcll)))) λ_=>cB (p:=false) (q:=false) (tkF (fZ (b1:=false) (b2:=false) rfl rfl hne)) λ_=>tkF (fZ (b1:=false) (b2:=false) rfl rfl hner)) (dX (ds:=cs.map clD) (b:=false) rfl (cdD [.str "zz",.str "zz",.int 0,.non,.int 0] rfl (cx _ (by simp))) rfl (bg (by rw[List.length_map];omega)))))
 refine⟨false,a8 rfl (bP (ds:=zs0.map .str) ?_ (gn zs0) (rfF (.int ms) ?_ rfl (bz (ρ':=[some (.lst (ns.map .int),false),some (.lst (zs.map .str),true),some (.int ms,false),none,none,none,none,none,none]) ?_ (rfF (.tup rows) ?_ hfr (rfF (.int known) ?_ rfl (rfF (.tup rows) ?_ hfr (bP (ds:=cs.map clD) ?_ (cE cs) (bz (nA (gG (j:=2) (b:=false) rfl (by decide)) e) (aK rfl)))))))))⟩
 ·refine cdD [.int (ns.getD 2 0),.int many] (aw (cel 2 _ _ rfl rfl) (aw (d:=.int many) (b:=false) (eoF (.int 2) (.int (ns.getD 0 0 % 5)) rfl (eoF (.int (ns.getD 0 0)) (.int 5) (cel 0 _ _ rfl rfl) rfl (by simp)) (by simp only[cG,hmany])) rfl)) hz
 ·exact fZ (x:=.lst (([1,1,500]:List Int).map .int)) (y:=.int (ns.getD 0 0 / 5 % 3)) (b1:=true) (b2:=false) (cdD (([1,1,500]:List Int).map .int) rfl (eQ _ (by simp))) (eoF (.int (ns.getD 0 0 / 5)) (.int 3) (eoF (.int (ns.getD 0 0)) (.int 5) (cel 0 _ _ rfl rfl) rfl (by simp)) rfl (by simp)) ems
 ·have hc:tOf (f2 dEq (f2 dn (f2 fg (fA aX (ab (af 0) (ab (fC (.int 2)) ak))) (fC (.int 768))) (fC (.int 8))) (fC (.int 3))) [some (.lst (ns.map .int),false),some (.lst (zs0.map .str),true),some (.int ms,false),none,none,none,none,none,none]=some (decide (ns.getD 2 0 / 768 % 8=3)):=tkF (eoF (.int (ns.getD 2 0 / 768 % 8)) (.int 3) (eoF (.int (ns.getD 2 0 / 768)) (.int 8) (eoF (.int (ns.getD 2 0)) (.int 768) (cel 2 _ _ rfl rfl) rfl (by simp)) rfl (by simp)) rfl (by simp));by_cases h:ns.getD 2 0 / 768 % 8=3
  ·have ez:zs=zs0.set 0 ("crown" : Str):=by simp only[zs];rw[if_pos h]
   rw[ez,List.map_set];refine fz (hc.trans (by rw[decide_eq_true h])) ?_;have hi:ixN zs0.length 0=some 0:=by
    unfold ixN;rw[if_pos (by decide),if_pos (by omega)];rfl
   show B7 1 (fC (.int 0)) (fC (.str "crown")) [some (.lst (ns.map .int),false),some (.lst (zs0.map .str),true),some (.int ms,false),none,none,none,none,none,none]=_;simp[hi]
  ·have ez:zs=zs0:=by simp only[zs];rw[if_neg h]
   rw[ez];exact ca (hc.trans (by rw[decide_eq_false h])) rfl
 ·exact cdD [.lst (ns.map .int),.lst (zs.map .str),.int ms] rfl hrows
 ·refine fZ (x:=.lst (([9999,ns.getD 3 0 % 15*ms]:List Int).map .int)) (y:=.int (ns.getD 4 0 % 2)) (b1:=true) (b2:=false) (cdD (([9999,ns.getD 3 0 % 15*ms]:List Int).map .int) (acF rfl (acF (eoF (.int (ns.getD 3 0 % 15)) (.int ms) (eoF (.int (ns.getD 3 0)) (.int 15) (cel 3 _ _ rfl rfl) rfl (by simp)) rfl (lA _ _ hmb)) rfl)) (eQ _ (by simp))) (eoF (.int (ns.getD 4 0)) (.int 2) (cel 4 _ _ rfl rfl) rfl (by simp)) ekn
 ·exact cdD [.lst rows] (aw (b:=true) (cdD [.tup rows] rfl (by simp)) rfl) (by simp)
 ·exact cdD [.tup rows,.int known] rfl hdue
end Lw
namespace Lw
open PySem PySem.Spec PyProof.Rows L2 DL
theorem cq {X:Cx}{es:List Expr}{g:FA}{i:Int}{j:Nat}{pos:Pos}(hr:JA X es g):JA X (.Constant (.int i) j pos::es) (ab (fC (.int i)) g):=ae ah hr
theorem vK {a b:Expr}{pos:Pos}:mm (.Subscript a b pos):=by intro _ _;rfl
noncomputable def top (i:Nat):Stmt:=PySem.Challenge.pw_sealchain_k17_claims_gone_through.main.body.getD i (.Pass ⟨0,0,0,0⟩)
structure Tx (K:PySem.W.Frag)(P:Params)(mg:Str->Option Value):Prop where
 n_all:mg "all" = none
 n_bool:mg "bool" = none
 n_dict:mg "dict" = none
 n_enumerate:mg "enumerate" = none
 n_int:mg "int" = none
 n_isinstance:mg "isinstance" = none
 n_len:mg "len" = none
 n_list:mg "list" = none
 n_max:mg "max" = none
 n_min:mg "min" = none
 n_range:mg "range" = none
 n_set:mg "set" = none
 n_sorted:mg "sorted" = none
 n_str:mg "str" = none
 n_tuple:mg "tuple" = none
 k_PARTS:∃d,mg "PARTS" = some (.ref d)/\pw K P d gk
 k_SEALINGS:∃u v,mg "SEALINGS" = some u/\aL v u/\∀B,Is K B v eK
section
variable {P:Program}{w:World}{K:PySem.W.Frag}{mg:Str->Option Value}{base h:Heap}
section
variable (P:Program) (w:World) (base:Heap) {K:PySem.W.Frag}{mg:Str->Option Value}{h:Heap}(T:Tx K w.params mg) (X:K.In h) (G:h.Ns mainGlobals mg)
include T X G
theorem vL (F:Def K "word_of" (top 4))  : Fn P w K mg base 1 "word_of" aG:=F.fq X G ["row"] 1 λnd _ _ _ _ _ _ _ hr hu=>(show JSs _ _ pM from
  (au (aF (aq (aq (ac 0) ah) ah))))
theorem vM (F:Def K "part_of" (top 5))(f_word_of:Fn P w K mg base 1 "word_of" aG):Fn P w K mg base 2 "part_of" ar:=F.fq X G ["row","part"] 2 λnd _ _ _ _ _ _ _ hr hu=>(show JSs _ _ pN from
  (au (aF (aq (aq (ac 0) ah) (aE bQ ah (BD T.k_PARTS (ay f_word_of hr (ae (ac 0) ag)) (ac 1)))))))
theorem yE (F:Def K "day_of" (top 6))(f_word_of:Fn P w K mg base 1 "word_of" aG)(f_part_of:Fn P w K mg base 2 "part_of" ar):Fn P w K mg base 3 "day_of" aP:=F.fq X G ["row"] 1 λnd _ _ _ _ _ _ _ hr hu=>(show JSs _ _ tI from
  (ao (bB (az (c8 hu) (ay f_word_of hr (ae (ac 0) ag)) ax) (au (aF c7)) bu)
   (au (aF (ay f_part_of hr (ae (ac 0) (ae ax ag)))))))
theorem AA (F:Def K "heard" (top 8))  : Fn P w K mg base 1 "heard" cK:=F.fq X G ["book","known"] 2 λnd _ _ _ _ _ _ _ hr hu=>(show JSs _ _ wT from
  (au (aF (iA ["number","row","known"] (cpC rfl rfl (.nil rfl)) (wz T.n_enumerate (ac 0)) (λ_ _ _ _=>m6 rfl (d7 (pgC 0) (d7 (pgC 1) jJ))) (CP (by decide)) (λ_ _ _ _=>(fS (az i7 (aq (ac 1) ah) (ac 2)))) (λ_ _ _ _=>(ac 0))))))
theorem Cp (F:Def K "rank" (top 10))(f_day_of:Fn P w K mg base 3 "day_of" aP):Fn P w K mg base 4 "rank" dB:=F.fq X G ["book","number"] 2 λnd _ _ _ _ _ _ _ hr hu=>(show JSs _ _ Ag from
  (au (aF (aT (ae (ay f_day_of hr (ae (aq (ac 0) (ac 1)) ag)) (ae (ac 1) ag))))))
theorem ur (F:Def K "in_order" (top 11))(f_day_of:Fn P w K mg base 3 "day_of" aP)(f_heard:Fn P w K mg base 1 "heard" cK)(f_rank:Fn P w K mg base 4 "rank" dB)(l_in_order:re K "in_order"):Fn P w K mg base 8 "in_order" eM:=F.fqL X G ["book","known","dated"] 2 λnd _ _ _ _ _ _ _ hcd hr hu=>(show JSs _ _ nB from
  (ao (lI ["number","book"] nd (cpC rfl rfl (.nil rfl)) (bF (ay f_heard hr (ae (ac 0) (ae (ac 1) ag)))) (λ_ _ _ _=>pgC 0) (bE (by decide)) (λ_ _ _ _=>(fS (az qK (ay f_day_of hr (ae (aq (ac 1) (ac 0)) ag)) c7))) (λ_ _ _ _=>(ac 0)))
   (au (aF (t7 T.n_sorted (ac 2) (vn (cap:=[0]) (N':=["number","book"]) (by decide +kernel) l_in_order hcd rfl rfl (zN (by decide +kernel) rfl rfl rfl rfl rfl) rfl (.cons rfl rfl (Or.inl rfl) rfl (mn (by decide +kernel) rfl) (.nil rfl)) rfl hr.in1.in1 (λ_ _ _ _=>rfl) λ_ _ _ _ hr=>have hu:=xT hr;(ay f_rank hr (ae (ac 1) (ae (ac 0) ag)))))))))
theorem rE (F:Def K "by_office" (top 23))  : Fn P w K mg base 1 "by_office" dH:=F.fq X G ["claim"] 1 λnd _ _ _ _ _ _ _ hr hu=>(show JSs _ _ lJ from
  (au (aF (aT (ae (aq (ac 0) ah) (ae (aq (ac 0) ah) (ae (aq (ac 0) ah) ag)))))))
theorem AB (F:Def K "roots" (top 12))(f_word_of:Fn P w K mg base 1 "word_of" aG)(f_part_of:Fn P w K mg base 2 "part_of" ar)(f_heard:Fn P w K mg base 1 "heard" cK):Fn P w K mg base 3 "roots" k6:=F.fq X G ["book","known","known_rows"] 2 λnd _ _ _ _ _ _ _ hr hu=>(show JSs _ _ wU from
  (ao (lI ["number","book"] nd (cpC rfl rfl (.nil rfl)) (bF (ay f_heard hr (ae (ac 0) (ae (ac 1) ag)))) (λ_ _ _ _=>pgC 0) (bE (by decide)) (λ_ _ _ _=>gU) (λ_ _ _ _=>(aq (ac 1) (ac 0))))
   (au (aF (eG (Es rfl) T.n_dict Er (ae (iA ["row"] (.nil rfl) (bF (ac 2)) (λ_ _ _ _=>pgC 0) (bE (by decide)) (λ_ _ _ _=>(fS (az (c8 hu) (ay f_word_of hr (ae (ac 0) ag)) ax))) (λ_ _ _ _=>(aT (ae (ay f_part_of hr (ae (ac 0) (ae ax ag))) (ae (ac 0) ag))))) ag))))))
theorem ut (F:Def K "is_known" (top 9))  : Fn P w K mg base 1 "is_known" ga:=F.fq X G ["book","known","number"] 3 λnd _ _ _ _ _ _ _ hr hu=>(show JSs _ _ nD from
  (au (aF (ju (zl i7 lF ah (ac 2) (aW fV T.n_len fW (ae (ac 0) ag))) (jw (cX i7 (aq (aq (ac 0) (ac 2)) ah) (ac 1)))))))
theorem AC (F:Def K "tells" (top 15))(f_word_of:Fn P w K mg base 1 "word_of" aG)(f_part_of:Fn P w K mg base 2 "part_of" ar)(f_day_of:Fn P w K mg base 3 "day_of" aP):Fn P w K mg base 4 "tells" k7:=F.fq X G ["row","words","person","day"] 4 λnd _ _ _ _ _ _ _ hr hu=>(show JSs _ _ wV from
  (au (aF (ju (cX wo (ay f_word_of hr (ae (ac 0) ag)) (ac 1)) (ju (cX (c8 hu) (ay f_part_of hr (ae (ac 0) (ae ax ag))) (ac 2)) (jw (cX i7 (ay f_day_of hr (ae (ac 0) ag)) (ac 3))))))))
theorem vN (F:Def K "told_of" (top 16))(f_heard:Fn P w K mg base 1 "heard" cK)(f_tells:Fn P w K mg base 4 "tells" k7):Fn P w K mg base 5 "told_of" d4:=F.fq X G ["book","known","words","person","day"] 5 λnd _ _ _ _ _ _ _ hr hu=>(show JSs _ _ pO from
  (au (aF (iA ["number","words","person","day","book"] (cpC rfl rfl (cpC rfl rfl (cpC rfl rfl (cpC rfl rfl (.nil rfl))))) (bF (ay f_heard hr (ae (ac 0) (ae (ac 1) ag)))) (λ_ _ _ _=>pgC 0) (bE (by decide)) (λ_ _ _ _=>(fS (cY (ay f_tells hr (ae (aq (ac 4) (ac 0)) (ae (ac 1) (ae (ac 2) (ae (ac 3) ag)))))))) (λ_ _ _ _=>(ac 0))))))
theorem AD (F:Def K "lives" (top 17))(f_told_of:Fn P w K mg base 5 "told_of" d4):Fn P w K mg base 6 "lives" ie:=F.fq X G ["book","known","person","day"] 4 λnd _ _ _ _ _ _ _ hr hu=>(show JSs _ _ wW from
  (au (aF (cX (c8 hu) (aW fV T.n_len fW (ae (ay f_told_of hr (ae (ac 0) (ae (ac 1) (ae (aT (ae ax ag)) (ae (ac 2) (ae (ac 3) ag)))))) ag)) ah))))
theorem uu (F:Def K "has_seal" (top 18))(f_word_of:Fn P w K mg base 1 "word_of" aG)(f_rank:Fn P w K mg base 4 "rank" dB)(f_told_of:Fn P w K mg base 5 "told_of" d4)(l_has_seal:re K "has_seal"):Fn P w K mg base 8 "has_seal" ig:=F.fqL X G ["book","known","person","day","told"] 4 λnd _ _ _ _ _ _ _ hcd hr hu=>(show JSs _ _ nE from
  (ao (a9 (i:=4) nd (ay f_told_of hr (ae (ac 0) (ae (ac 1) (ae (aT (ae ax (ae ax ag))) (ae (ac 2) (ae (ac 3) ag)))))))
   (ao (bB (az (c8 hu) (aW fV T.n_len fW (ae (ac 4) ag)) ah) (au (aF fT)) bu)
   (au (aF (cX (c8 hu) (ay f_word_of hr (ae (aq (ac 0) (t8 mmx T.n_max (ac 4) (vn (cap:=[0]) (N':=["number","book"]) (by decide +kernel) l_has_seal hcd rfl rfl (zN (by decide +kernel) rfl rfl rfl rfl rfl) rfl (.cons rfl rfl (Or.inl rfl) rfl (mn (by decide +kernel) rfl) (.nil rfl)) rfl hr.in1 (λ_ _ _ _=>rfl) λ_ _ _ _ hr=>have hu:=xT hr;(ay f_rank hr (ae (ac 1) (ae (ac 0) ag)))) hr)) ag)) ax))))))
theorem uw (F:Def K "is_sound" (top 19))(f_word_of:Fn P w K mg base 1 "word_of" aG)(f_part_of:Fn P w K mg base 2 "part_of" ar)(f_day_of:Fn P w K mg base 3 "day_of" aP)(f_is_known:Fn P w K mg base 1 "is_known" ga)(f_lives:Fn P w K mg base 6 "lives" ie)(f_has_seal:Fn P w K mg base 8 "has_seal" ig):Fn P w K mg base 9 "is_sound" ij:=F.fq X G ["book","known","number","sealer","day"] 3 λnd _ _ _ _ _ _ _ hr hu=>(show JSs _ _ nF from
  (ao (bB (eD (fB (gV (cY (ay f_is_known hr (ae (ac 0) (ae (ac 1) (ae (ac 2) ag)))))) (f8 (az jT (ay f_word_of hr (ae (aq (ac 0) (ac 2)) ag)) (zo T.k_SEALINGS))))) (au (aF fT)) bu)
   (ao (a9 (i:=3) nd (ay f_part_of hr (ae (aq (ac 0) (ac 2)) (ae ax ag))))
   (ao (a9 (i:=4) nd (ay f_day_of hr (ae (aq (ac 0) (ac 2)) ag)))
   (au (aF (ju (ay f_lives hr (ae (ac 0) (ae (ac 1) (ae (ac 3) (ae (ac 4) ag))))) (jw (ay f_has_seal hr (ae (ac 0) (ae (ac 1) (ae (ac 3) (ae (ac 4) ag)))))))))))))
theorem vO (F:Def K "lies_in" (top 1))  : Fn P w K mg base 1 "lies_in" je:=F.fq X G ["day","stretch"] 2 λnd _ _ _ _ _ _ _ hr hu=>(show JSs _ _ pP from
  (au (aF (ju (cX i7 (aq (ac 1) ah) (ac 0)) (jw (Fz (cX uS (aq (ac 1) ah) c7) (jw (cX lF (ac 0) (aq (ac 1) ah)))))))))
theorem ux (F:Def K "is_alive" (top 21))(f_lies_in:Fn P w K mg base 1 "lies_in" je):Fn P w K mg base 2 "is_alive" bG:=F.fq X G ["claim","day"] 2 λnd _ _ _ _ _ _ _ hr hu=>(show JSs _ _ nG from
  (au (aF (ay f_lies_in hr (ae (ac 1) (ae (aT (ae (aq (ac 0) ah) (ae (aq (ac 0) ah) ag))) ag))))))
theorem uy (F:Def K "by_since" (top 22))  : Fn P w K mg base 1 "by_since" bY:=F.fq X G ["claim"] 1 λnd _ _ _ _ _ _ _ hr hu=>(show JSs _ _ nH from
  (au (aF (aT (ae (aq (ac 0) ah) (ae (aq (ac 0) ah) ag))))))
theorem uz (F:Def K "chief_of" (top 24))(f_by_since:Fn P w K mg base 1 "by_since" bY):Fn P w K mg base 5 "chief_of" im:=F.fq X G ["alive","rule"] 2 λnd _ _ _ _ _ _ _ hr hu=>(show JSs _ _ nI from
  (ao (bB (az (c8 hu) (ac 1) ax) (au (aF (aq (t8 mmx T.n_max (ac 0) (wI f_by_since (hr.in1.mono (by decide)) rfl) hr) ah))) bu)
   (au (aF (aq (t8 mmn T.n_min (ac 0) (wI f_by_since (hr.in1.mono (by decide)) rfl) hr) ah)))))
theorem rF (F:Def K "holder_by" (top 25))(f_part_of:Fn P w K mg base 2 "part_of" ar)(f_is_alive:Fn P w K mg base 2 "is_alive" bG)(f_by_since:Fn P w K mg base 1 "by_since" bY)(f_chief_of:Fn P w K mg base 5 "chief_of" im):Fn P w K mg base 6 "holder_by" dI:=F.fq X G ["claimed","root","day","alive","people","person","oldest"] 3 λnd _ _ _ _ _ _ _ hr hu=>(show JSs _ _ lK from
  (ao (lI ["claim","day","root"] nd (cpC rfl rfl (cpC rfl rfl (.nil rfl))) (bF (ac 0)) (λ_ _ _ _=>pgC 0) (bE (by decide)) (λ_ _ _ _=>(fS (eD (cb (az (c8 hu) (aq (ac 0) ah) (ay f_part_of hr (ae (ac 2) (ae ax ag)))) (cz (cY (ay f_is_alive hr (ae (ac 0) (ae (ac 1) ag))))))))) (λ_ _ _ _=>(ac 0)))
   (ao (a9 (i:=4) nd (mS rfl T.n_sorted T.n_set (iA ["claim"] (.nil rfl) (bF (ac 3)) (λ_ _ _ _=>pgC 0) (bE (by decide)) (λ_ _ _ _=>gU) (λ_ _ _ _=>(aq (ac 0) ah)))))
   (ao (bB (az (c8 hu) (aW fV T.n_len fW (ae (ac 4) ag)) ah) (au (aF (aT (ae ax ag)))) bu)
   (ao (bB (eD (cb (az DM (aW fV T.n_len fW (ae (ac 4) ag)) ah) (cz (az (c8 hu) (ay f_part_of hr (ae (ac 1) (ae ax ag))) ax)))) (au (aF (aT (ae ax (ae (ac 4) ag))))) bu)
   (ao (a9 (i:=5) nd (ay f_chief_of hr (ae (ac 3) (ae (ay f_part_of hr (ae (ac 1) (ae ax ag))) ag))))
   (ao (a9 (i:=6) nd (t8 mmn T.n_min (iA ["claim","person"] (cpC rfl rfl (.nil rfl)) (bF (ac 3)) (λ_ _ _ _=>pgC 0) (bE (by decide)) (λ_ _ _ _=>(fS (az (c8 hu) (aq (ac 0) ah) (ac 1)))) (λ_ _ _ _=>(ac 0))) (wI f_by_since (hr.in1.mono (by decide)) rfl) hr))
   (au (aF (aT (ae ax (ae (ac 5) (ae (aq (ac 6) ah) ag)))))))))))))
theorem oP (F:Def K "is_held_by" (top 26))(f_holder_by:Fn P w K mg base 6 "holder_by" dI):Fn P w K mg base 7 "is_held_by" dY:=F.fq X G ["claimed","root","person","day"] 4 λnd _ _ _ _ _ _ _ hr hu=>(show JSs _ _ k8 from
  (au (aF (cX (c8 hu) (fX (ay f_holder_by hr (ae (ac 0) (ae (ac 1) (ae (ac 3) ag)))) iZ (gf ah)) (aT (ae ax (ae (ac 2) ag)))))))
theorem kM (F:Def K "is_first_death" (top 27))(f_part_of:Fn P w K mg base 2 "part_of" ar)(f_day_of:Fn P w K mg base 3 "day_of" aP)(f_rank:Fn P w K mg base 4 "rank" dB)(f_told_of:Fn P w K mg base 5 "told_of" d4)(l_is_first_death:re K "is_first_death"):Fn P w K mg base 8 "is_first_death" d5:=F.fqL X G ["book","known","number","row","deaths"] 3 λnd _ _ _ _ _ _ _ hcd hr hu=>(show JSs _ _ gH from
  (ao (a9 (i:=3) nd (aq (ac 0) (ac 2)))
   (ao (a9 (i:=4) nd (ay f_told_of hr (ae (ac 0) (ae (ac 1) (ae (aT (ae ax ag)) (ae (ay f_part_of hr (ae (ac 3) (ae ax ag))) (ae (ay f_day_of hr (ae (ac 3) ag)) ag)))))))
   (au (aF (cX (c8 hu) (t8 mmn T.n_min (ac 4) (vn (cap:=[0]) (N':=["each","book"]) (by decide +kernel) l_is_first_death hcd rfl rfl (zN (by decide +kernel) rfl rfl rfl rfl rfl) rfl (.cons rfl rfl (Or.inl rfl) rfl (mn (by decide +kernel) rfl) (.nil rfl)) rfl hr.in1 (λ_ _ _ _=>rfl) λ_ _ _ _ hr=>have hu:=xT hr;(ay f_rank hr (ae (ac 1) (ae (ac 0) ag)))) hr) (ac 2)))))))
theorem yF (F:Def K "counts" (top 28))(f_word_of:Fn P w K mg base 1 "word_of" aG)(f_part_of:Fn P w K mg base 2 "part_of" ar)(f_day_of:Fn P w K mg base 3 "day_of" aP)(f_roots:Fn P w K mg base 3 "roots" k6)(f_is_sound:Fn P w K mg base 9 "is_sound" ij)(f_is_held_by:Fn P w K mg base 7 "is_held_by" dY)(f_is_first_death:Fn P w K mg base 8 "is_first_death" d5):Fn P w K mg base 10 "counts" iP:=F.fq X G ["book","known","so_far","number","row","root"] 4 λnd _ _ _ _ _ _ _ hr hu=>(show JSs _ _ tJ from
  (ao (a9 (i:=4) nd (aq (ac 0) (ac 3)))
   (ao (bB (az (c8 hu) (ay f_word_of hr (ae (ac 4) ag)) ax) (au (aF (ay f_is_first_death hr (ae (ac 0) (ae (ac 1) (ae (ac 3) ag)))))) bu)
   (ao (bB (az jT (ay f_word_of hr (ae (ac 4) ag)) (aT (ae ax (ae ax (ae ax ag))))) (au (aF fT)) bu)
   (ao (a9 (i:=5) nd (zT (hu1 hu) (ay f_roots hr (ae (ac 0) (ae (ac 1) ag))) (ay f_part_of hr (ae (ac 4) (ae ax ag))) ⟨rfl,rfl,rfl,rfl⟩))
   (ao (bB (az uS (ac 5) c7) (au (aF fT)) bu)
   (ao (bB (az (c8 hu) (ay f_word_of hr (ae (ac 4) ag)) ax) (au (aF fT)) bu)
   (au (aF (ju (ay f_is_sound hr (ae (ac 0) (ae (ac 1) (ae (ac 3) ag)))) (jw (ay f_is_held_by hr (ae (ac 2) (ae (ac 5) (ae (ay f_part_of hr (ae (ac 4) (ae ax ag))) (ae (ay f_day_of hr (ae (ac 4) ag)) ag))))))))))))))))
theorem rG (F:Def K "new_claim" (top 29))(f_part_of:Fn P w K mg base 2 "part_of" ar):Fn P w K mg base 3 "new_claim" de:=F.fq X G ["row","since","number"] 3 λnd _ _ _ _ _ _ _ hr hu=>(show JSs _ _ lL from
  (au (aF (aT (ae (ay f_part_of hr (ae (ac 0) (ae ax ag))) (ae (ay f_part_of hr (ae (ac 0) (ae ax ag))) (ae (ac 1) (ae c7 (ae (ac 2) ag)))))))))
theorem AE (F:Def K "ended" (top 30))(f_is_alive:Fn P w K mg base 2 "is_alive" bG):Fn P w K mg base 3 "ended" jf:=F.fq X G ["so_far","offices","person","day","left","claim"] 4 λnd _ _ _ _ _ _ _ hr hu=>(show JSs _ _ wZ from
  (ao (a9 (i:=4) nd (b8 ag))
   (ao (iB (bF (ac 0)) (pgV 5 nd) cO (au (bB (eD (fB (az jT (aq (ac 5) ah) (ac 1)) (fB (az (xS hu) (aq (ac 5) ah) (ac 2)) (f8 (gV (eD (fB (cY (ay f_is_alive hr (ae (ac 5) (ae (ac 3) ag)))) (f8 (az DM (aq (ac 5) ah) (ac 3)))))))))) (au (dR (i:=4) (ac 5))) (au (bB (az lF (aq (ac 5) ah) (ac 3)) (au (dR (i:=4) (aT (ae (aq (ac 5) ah) (ae (ac 2) (ae (aq (ac 5) ah) (ae (ac 3) (ae (aq (ac 5) ah) ag)))))))) bu)))))
   (au (jS 4)))))
theorem ml (F:Def K "after_choice" (top 31))(f_part_of:Fn P w K mg base 2 "part_of" ar)(f_new_claim:Fn P w K mg base 3 "new_claim" de)(f_ended:Fn P w K mg base 3 "ended" jf):Fn P w K mg base 4 "after_choice" dZ:=F.fq X G ["so_far","row","number","since","left"] 3 λnd _ _ _ _ _ _ _ hr hu=>(show JSs _ _ iQ from
  (ao (a9 (i:=3) nd (ay f_part_of hr (ae (ac 1) (ae ax ag))))
   (ao (a9 (i:=4) nd (ay f_ended hr (ae (ac 0) (ae (b8 (ae (ay f_part_of hr (ae (ac 1) (ae ax ag))) ag)) (ae (ay f_part_of hr (ae (ac 1) (ae ax ag))) (ae (ac 3) ag))))))
   (au (aF (aE bQ (ac 4) (b8 (ae (ay f_new_claim hr (ae (ac 1) (ae (ac 3) (ae (ac 2) ag)))) ag))))))))
theorem rH (F:Def K "inherited" (top 32))(f_part_of:Fn P w K mg base 2 "part_of" ar)(f_day_of:Fn P w K mg base 3 "day_of" aP)(f_lives:Fn P w K mg base 6 "lives" ie)(f_is_alive:Fn P w K mg base 2 "is_alive" bG):Fn P w K mg base 7 "inherited" gl:=F.fq X G ["book","known","so_far","heirs","number","person","day","told","office","heir"] 5 λnd _ _ _ _ _ _ _ hr hu=>(show JSs _ _ lM from
  (ao (a9 (i:=5) nd (ay f_part_of hr (ae (aq (ac 0) (ac 4)) (ae ax ag))))
   (ao (a9 (i:=6) nd (ay f_day_of hr (ae (aq (ac 0) (ac 4)) ag)))
   (ao (a9 (i:=7) nd (b8 ag))
   (ao (z7 [5,6] (iB (bF (mS rfl T.n_sorted T.n_set (iA ["claim","person","day"] (cpC rfl rfl (cpC rfl rfl (.nil rfl))) (bF (ac 2)) (λ_ _ _ _=>pgC 0) (bE (by decide)) (λ_ _ _ _=>(fS (eD (cb (az (c8 hu) (aq (ac 0) ah) (ac 1)) (cz (cY (ay f_is_alive hr (ae (ac 0) (ae (ac 2) ag))))))))) (λ_ _ _ _=>(aq (ac 0) ah))))) (pgV 8 nd) cO (ao (a9 (i:=9) nd (t9 (hu1 hu) (ac 3) (ae (ac 8) (ae (ac 5) ag)) ⟨rfl,rfl,rfl,rfl⟩))
   (au (bB (eD (cb (az qK (ac 9) c7) (cz (cY (ay f_lives hr (ae (ac 0) (ae (ac 1) (ae (ac 9) (ae (ac 6) ag))))))))) (au (dR (i:=7) (aT (ae (ac 8) (ae (ac 9) (ae (ac 6) (ae c7 (ae (ac 4) ag)))))))) bu)))))
   (au (jS 7)))))))
theorem o9 (F:Def K "after_death" (top 33))(f_part_of:Fn P w K mg base 2 "part_of" ar)(f_day_of:Fn P w K mg base 3 "day_of" aP)(f_ended:Fn P w K mg base 3 "ended" jf)(f_inherited:Fn P w K mg base 7 "inherited" gl):Fn P w K mg base 8 "after_death" eY:=F.fq X G ["book","known","so_far","heirs","number","offices","left"] 5 λnd _ _ _ _ _ _ _ hr hu=>(show JSs _ _ jr from
  (ao (lI ["claim"] nd (.nil rfl) (bF (ac 2)) (λ_ _ _ _=>pgC 0) (bE (by decide)) (λ_ _ _ _=>gU) (λ_ _ _ _=>(aq (ac 0) ah)))
   (ao (a9 (i:=6) nd (ay f_ended hr (ae (ac 2) (ae (ac 5) (ae (ay f_part_of hr (ae (aq (ac 0) (ac 4)) (ae ax ag))) (ae (ay f_day_of hr (ae (aq (ac 0) (ac 4)) ag)) ag))))))
   (au (aF (aE bQ (ac 6) (ay f_inherited hr (ae (ac 0) (ae (ac 1) (ae (ac 2) (ae (ac 3) (ae (ac 4) ag))))))))))))
theorem yG (F:Def K "claims" (top 34))(f_word_of:Fn P w K mg base 1 "word_of" aG)(f_part_of:Fn P w K mg base 2 "part_of" ar)(f_day_of:Fn P w K mg base 3 "day_of" aP)(f_in_order:Fn P w K mg base 8 "in_order" eM)(f_by_office:Fn P w K mg base 1 "by_office" dH)(f_counts:Fn P w K mg base 10 "counts" iP)(f_new_claim:Fn P w K mg base 3 "new_claim" de)(f_after_choice:Fn P w K mg base 4 "after_choice" dZ)(f_after_death:Fn P w K mg base 8 "after_death" eY):Fn P w K mg base 11 "claims" nK:=F.fq X G ["book","known","so_far","heirs","number","row"] 2 λnd _ _ _ _ _ _ _ hr hu=>(show JSs _ _ tK from
  (ao (a9 (i:=2) nd (b8 ag))
   (ao (wN (i:=3) nd)
   (ao (iB (bF (ay f_in_order hr (ae (ac 0) (ae (ac 1) ag)))) (pgV 4 nd) cO (ao (a9 (i:=5) nd (aq (ac 0) (ac 4)))
   (ao (bB (gV (cY (ay f_counts hr (ae (ac 0) (ae (ac 1) (ae (ac 2) (ae (ac 4) ag))))))) (au B6) bu)
   (au (bB (az (c8 hu) (ay f_word_of hr (ae (ac 5) ag)) ax) (au (a9 (i:=2) nd (aE bQ (ac 2) (b8 (ae (ay f_new_claim hr (ae (ac 5) (ae (ay f_day_of hr (ae (ac 5) ag)) (ae (ac 4) ag)))) ag))))) (au (bB (az (c8 hu) (ay f_word_of hr (ae (ac 5) ag)) ax) (au (a9 (i:=2) nd (ay f_after_choice hr (ae (ac 2) (ae (ac 5) (ae (ac 4) ag)))))) (au (bB (az (c8 hu) (ay f_word_of hr (ae (ac 5) ag)) ax) (au (wP (i:=3) (hu1 hu) (ay f_part_of hr (ae (ac 5) (ae ax ag))) (ae (ay f_part_of hr (ae (ac 5) (ae ax ag))) (ae (ay f_part_of hr (ae (ac 5) (ae ax ag))) ag)))) (au (a9 (i:=2) nd (ay f_after_death hr (ae (ac 0) (ae (ac 1) (ae (ac 2) (ae (ac 3) (ae (ac 4) ag)))))))))))))))))
   (au (aF (t7 T.n_sorted (ac 2) (wI f_by_office (hr.in1.in1.mono (by decide)) rfl))))))))
theorem rJ (F:Def K "_law_cell_at" (top 36))  : Fn P w K mg base 1 "_law_cell_at" aX:=F.fq X G ["_law_script","_law_k"] 2 λnd _ _ _ _ _ _ _ hr hu=>(show JSs _ _ lN from
  (ao (bB (az lF (ac 1) (aW fV T.n_len fW (ae (ac 0) ag))) (au (aF (aq (ac 0) (ac 1)))) bu)
   (au (aF ah))))
theorem vP (F:Def K "_law_names" (top 38))  : Fn P w K mg base 1 "_law_names" lq:=F.fq X G ["_law_cell","_law_many","_law_size","_law_base","_law_at","_law_names_here","_law_k","_law_letter"] 2 λnd _ _ _ _ _ _ _ hr hu=>(show JSs _ _ pQ from
  (ao (a9 (i:=2) nd (aE bQ ah (aE da (ac 0) ah)))
   (ao (a9 (i:=3) nd (fX ax iZ (gf (ac 2))))
   (ao (a9 (i:=4) nd (aE da (aE cZ (ac 0) ah) (ac 2)))
   (ao (a9 (i:=5) nd (b8 ag))
   (ao (Aa (jU T.n_range (ac 1)) (pgV 6 nd) cO (ao (a9 (i:=7) nd (aq ax (aE da (aE bQ (aE cZ (ac 0) ah) (aE gX ah (ac 6))) ah)))
   (au (dR (i:=5) (aE bQ (aE bQ (fX (ac 3) iZ (gf (ac 4))) (ac 7)) (fX (ac 3) (gf (aE bQ (ac 4) ah)) iZ))))))
   (au (jS 5))))))))
theorem vQ (F:Def K "_law_cells" (top 37))(f_w_cell_at:Fn P w K mg base 1 "_law_cell_at" aX):Fn P w K mg base 2 "_law_cells" gI:=F.fq X G ["_law_script","_law_first","_law_most","_law_cells_here","_law_number"] 3 λnd _ _ _ _ _ _ _ hr hu=>(show JSs _ _ pR from
  (ao (a9 (i:=3) nd (fX (ac 0) (gf (ac 1)) (gf (aE bQ (ac 1) (ac 2)))))
   (ao (a9 (i:=4) nd (aE da (ay f_w_cell_at hr (ae (ac 0) (cq ag))) ah))
   (ao (zn 1000 PassesOwn.never (eD (cb (az (c8 hu) (aE da (aE cZ (ay f_w_cell_at hr (ae (ac 0) (cq ag))) ah) ah) ah) (cz (az lF (aW fV T.n_len fW (ae (ac 3) ag)) (ac 2))))) (ao (a9 (i:=4) nd (aE da (aE bQ (aE bQ (aE gX (ac 4) ah) (aW fV T.n_len fW (ae (ac 3) ag))) ah) ah))
   (au (dR (i:=3) (ac 4)))))
   (au (jS 3))))))
theorem yH (F:Def K "_law_deed" (top 39))  : Fn P w K mg base 1 "_law_deed" iR:=F.fq X G ["_law_cell","_law_day","_law_by","_law_office","_law_person","_law_measure","_law_some"] 6 λnd _ _ _ _ _ _ _ hr hu=>(show JSs _ _ tM from
  (ao (a9 (i:=6) nd (b8 (ae (aT (ae ax (ae (ac 1) (ae (ac 2) (ae (ac 3) (ae (ac 4) (ae (aE bQ (ac 1) (aE gX (aE da (aE cZ (ac 0) ah) ah) (ac 5))) ag))))))) (ae (aT (ae ax (ae (ac 1) (ae (ac 2) (ae (ac 3) (ae (ac 4) ag)))))) ag))))
   (ao (a9 (i:=6) nd (aE bQ (ac 6) (b8 (ae (aT (ae ax (ae (ac 1) (ae (ac 2) ag)))) (ae (aT (ae ax (ae (ac 1) (ae (ac 3) (ae (ac 4) ag))))) (ae (aT (ae ax (ae (ac 1) (ae (ac 2) ag)))) (ae (aT (ae ax (ae (ac 1) (ae (ac 2) ag)))) ag)))))))
   (ao (a9 (i:=6) nd (aE bQ (ac 6) (b8 (ae (aT (ae ax (ae (ac 1) (ae (ac 4) ag)))) (ae (aT (ae ax (ae (ac 1) (ae (ac 2) (cq (ae (aT (ae (ac 1) (ae c7 ag))) (ae c7 (ae (aT (ae (ac 4) ag)) ag)))))))) ag)))))
   (au (aF (aq (hs:=vK) (ac 6) (by refine aq (hs:=?_) ?_ ?_;refine b8 ?_;refine cq ?_;refine cq ?_;refine cq ?_;refine cq ?_;refine cq ?_;refine cq ?_;refine cq ?_;refine cq ?_;refine cq ?_;refine cq ?_;refine cq ?_;refine cq ?_;refine cq ?_;refine cq ?_;refine cq ?_;refine ae (aE bQ ah (aE da (aE cZ (ac 0) ah) ah)) ?_;exact ag;exact(aE da (ac 0) ah);intro _ _;rfl))))))))
theorem yI (F:Def K "_law_rows" (top 40))(f_w_cell_at:Fn P w K mg base 1 "_law_cell_at" aX)(f_w_cells:Fn P w K mg base 2 "_law_cells" gI)(f_w_deed:Fn P w K mg base 1 "_law_deed" iR):Fn P w K mg base 3 "_law_rows" nN:=F.fq X G ["_law_script","_law_names_here","_law_measure","_law_cell","_law_offices","_law_rows_here","_law_k","_law_rule","_law_had","_law_day","_law_office","_law_by","_law_person","_law_deed_here"] 3 λnd _ _ _ _ _ _ _ hr hu=>(show JSs _ _ tN from
  (ao (a9 (i:=3) nd (ay f_w_cell_at hr (ae (ac 0) (cq ag))))
   (ao (a9 (i:=4) nd (fX (b8 (ae ax (ae ax (ae ax ag)))) iZ (gf (aE bQ ah (aE da (ac 3) ah)))))
   (ao (a9 (i:=5) nd (b8 ag))
   (ao (Aa (jU T.n_range (aW fV T.n_len fW (ae (ac 4) ag))) (pgV 6 nd) cO (ao (a9 (i:=7) nd (aq (b8 (ae ax (ae ax (ae ax ag)))) (aE da (aE cZ (ac 3) (aE bQ ah (ac 6))) ah)))
   (au (dR (i:=5) (aT (ae (aE gX (aE gX (eG z8 T.n_int wq (ae (cX (c8 hu) (aE da (aE cZ (ac 3) ah) ah) ah) ag)) ah) (ac 2)) (ae (aT (ae ax (ae (aq (ac 4) (ac 6)) (cq (cq (ae (ac 7) ag)))))) ag)))))))
   (ao (a9 (i:=8) nd (b8 (ae (aq (ac 1) ah) ag)))
   (ao (iB (wz T.n_enumerate (ay f_w_cells hr (ae (ac 0) (cq (cq ag))))) (m6 rfl (d7 (pgV 6 nd) (d7 (pgV 3 nd) jJ))) z6 (ao (a9 (i:=9) nd (aE gX (aE bQ (aE cZ (ac 6) ah) (aE da (aE cZ (ac 3) ah) ah)) (ac 2)))
   (ao (a9 (i:=10) nd (aq (aE bQ (ac 4) (b8 (ae ax ag))) (aE cZ (aE da (aE cZ (ac 3) ah) (aE bQ (aE gX ah (aW fV T.n_len fW (ae (ac 4) ag))) ah)) ah)))
   (ao (a9 (i:=11) nd (aq (ac 8) (aE F5 (C3 CN ah) (aE da (aE cZ (ac 3) ah) (aW FD T.n_min FB (cq (ae (aW fV T.n_len fW (ae (ac 8) ag)) ag)))))))
   (ao (a9 (i:=12) nd (aq (ac 1) (aE da (aE cZ (ac 3) ah) (aW fV T.n_len fW (ae (ac 1) ag)))))
   (ao (a9 (i:=13) nd (ay f_w_deed hr (ae (ac 3) (ae (ac 9) (ae (ac 11) (ae (ac 10) (ae (ac 12) (ae (ac 2) ag))))))))
   (ao (bB (eD (fB (az (c8 hu) (ac 6) ah) (f8 (az (c8 hu) (aE da (aE cZ (ac 3) ah) ah) ah)))) (au (a9 (i:=13) nd (aT (ae ax (ae (ac 9) (ae (ac 10) (ae (ac 12) ag))))))) bu)
   (ao (bB (az wo (aq (ac 13) ah) (aT (ae ax (ae ax ag)))) (au (dR (i:=8) (ac 12))) bu)
   (au (dR (i:=5) (aT (ae (aE bQ (ac 9) (aE gX (by refine aq (hs:=?_) ?_ ?_;refine b8 ?_;refine cq ?_;refine cq ?_;refine cq ?_;refine cq ?_;refine cq ?_;refine cq ?_;exact ag;exact(aE da (aE cZ (ac 3) ah) ah);intro _ _;rfl) (ac 2))) (ae (ac 13) ag)))))))))))))
   (au (aF (eG wx T.n_tuple qL (ae (ac 5) ag)))))))))))
theorem vR (F:Def K "_law_order" (top 41))  : Fn P w K mg base 1 "_law_order" dJ:=F.fq X G ["_law_rows_here","_law_known","_law_there"] 2 λnd _ _ _ _ _ _ _ hr hu=>(show JSs _ _ pT from
  (ao (lI ["_law_k","_law_known","_law_rows_here"] nd (cpC rfl rfl (cpC rfl rfl (.nil rfl))) (sD T.n_range (aW fV T.n_len fW (ae (ac 0) ag))) (λ_ _ _ _=>pgC 0) (bE (by decide)) (λ_ _ _ _=>(fS (eD (cb (az i7 (aq (aq (ac 2) (ac 0)) ah) (ac 1)) (cz (az (xS hu) (aq (aq (aq (ac 2) (ac 0)) ah) ah) ax)))))) (λ_ _ _ _=>(ac 0)))
   (au (aF (iA ["_law_day","_law_k"] (.nil rfl) (bF (aW nj T.n_sorted jY (ae (iA ["_law_k","_law_rows_here"] (cpC rfl rfl (.nil rfl)) (bF (ac 2)) (λ_ _ _ _=>pgC 0) (bE (by decide)) (λ_ _ _ _=>gU) (λ_ _ _ _=>(aT (ae (aq (aq (aq (ac 1) (ac 0)) ah) ah) (ae (ac 0) ag))))) ag))) (λ_ _ _ _=>m6 rfl (d7 (pgC 0) (d7 (pgC 1) jJ))) (CP (by decide)) (λ_ _ _ _=>gU) (λ_ _ _ _=>(ac 1)))))))
theorem vS (F:Def K "_law_lives" (top 42))  : Fn P w K mg base 1 "_law_lives" dL:=F.fq X G ["_law_rows_here","_law_known","_law_person","_law_day","_law_heard_on","_law_deed_here"] 4 λnd _ _ _ _ _ _ _ hr hu=>(show JSs _ _ pU from
  (ao (iB (bF (ac 0)) (m6 rfl (d7 (pgV 4 nd) (d7 (pgV 5 nd) jJ))) z6 (au (bB (eD (cb (az i7 (ac 4) (ac 1)) (cb (az (c8 hu) (aq (ac 5) ah) ax) (cb (az (c8 hu) (aq (ac 5) ah) (ac 2)) (cz (az i7 (aq (ac 5) ah) (ac 3))))))) (au (aF fT)) bu)))
   (au (aF fT))))
theorem vT (F:Def K "_law_sound" (top 43))(f_w_order:Fn P w K mg base 1 "_law_order" dJ)(f_w_lives:Fn P w K mg base 1 "_law_lives" dL):Fn P w K mg base 2 "_law_sound" gJ:=F.fq X G ["_law_rows_here","_law_known","_law_at","_law_deed_here","_law_sealed","_law_k","_law_other"] 3 λnd _ _ _ _ _ _ _ hr hu=>(show JSs _ _ pV from
  (ao (a9 (i:=3) nd (aq (aq (ac 0) (ac 2)) ah))
   (ao (a9 (i:=4) nd fT)
   (ao (iB (bF (ay f_w_order hr (ae (ac 0) (ae (ac 1) ag)))) (pgV 5 nd) cO (ao (a9 (i:=6) nd (aq (aq (ac 0) (ac 5)) ah))
   (au (bB (eD (cb (az wo (aq (ac 6) ah) (aT (ae ax (ae ax ag)))) (cb (az (c8 hu) (aq (ac 6) ah) (aq (ac 3) ah)) (cz (az i7 (aq (ac 6) ah) (aq (ac 3) ah)))))) (au (a9 (i:=4) nd (cX (c8 hu) (aq (ac 6) ah) ax))) bu))))
   (au (aF (ju (ac 4) (jw (ay f_w_lives hr (ae (ac 0) (ae (ac 1) (ae (aq (ac 3) ah) (ae (aq (ac 3) ah) ag)))))))))))))
theorem vU (F:Def K "_law_holds" (top 44))  : Fn P w K mg base 1 "_law_holds" gK:=F.fq X G ["_law_some","_law_rules","_law_office","_law_person","_law_day","_law_there"] 5 λnd _ _ _ _ _ _ _ hr hu=>(show JSs _ _ pW from
  (ao (lI ["_law_one","_law_office","_law_day"] nd (cpC rfl rfl (cpC rfl rfl (.nil rfl))) (bF (ac 0)) (λ_ _ _ _=>pgC 0) (bE (by decide)) (λ_ _ _ _=>(fS (eD (cb (az (c8 hu) (aq (ac 0) ah) (ac 1)) (cb (az i7 (aq (ac 0) ah) (ac 2)) (cz (eD (fB (az uS (aq (ac 0) ah) c7) (f8 (az lF (ac 2) (aq (ac 0) ah))))))))))) (λ_ _ _ _=>(ac 0)))
   (ao (a9 (i:=5) nd (aW nj T.n_sorted jY (ae (iA ["_law_one"] (.nil rfl) (bF (ac 5)) (λ_ _ _ _=>pgC 0) (bE (by decide)) (λ_ _ _ _=>gU) (λ_ _ _ _=>(aT (ae (aq (ac 0) ah) (ae (aq (ac 0) ah) (ae (aq (ac 0) ah) ag)))))) ag)))
   (ao (bB (eD (fB (az (c8 hu) (ac 5) (b8 ag)) (f8 (yo (hu1 hu) (ac 2) (ac 1))))) (au (aF fT)) bu)
   (ao (bB (az (c8 hu) (zU (hu1 hu) (ac 1) (ac 2) (by intro _ _;rfl)) ax) (au (aF (aW FK T.n_all FC (ae (iA ["_law_one","_law_person"] (cpC rfl rfl (.nil rfl)) (bF (ac 5)) (λ_ _ _ _=>pgC 0) (bE (by decide)) (λ_ _ _ _=>gU) (λ_ _ _ _=>(cX (c8 hu) (aq (ac 0) ah) (ac 1)))) ag)))) bu)
   (au (aF (cX (c8 hu) (aq (aq (hs:=vK) (ac 5) (aq (b8 (cq (ae (C3 CN ah) ag))) (eG z8 T.n_int wq (ae (cX (c8 hu) (zU (hu1 hu) (ac 1) (ac 2) (by intro _ _;rfl)) ax) ag)))) ah) (ac 3)))))))))
theorem AF (F:Def K "_law_cut" (top 45))  : Fn P w K mg base 1 "_law_cut" io:=F.fq X G ["_law_some","_law_office","_law_person","_law_day","_law_found","_law_one"] 4 λnd _ _ _ _ _ _ _ hr hu=>(show JSs _ _ xa from
  (ao (a9 (i:=4) nd (b8 ag))
   (ao (iB (bF (ac 0)) (pgV 5 nd) cO (au (bB (eD (cb (eD (fB (az uS (ac 1) c7) (f8 (az (c8 hu) (aq (ac 5) ah) (ac 1))))) (cb (az (c8 hu) (aq (ac 5) ah) (ac 2)) (cz (eD (fB (az uS (aq (ac 5) ah) c7) (f8 (az DM (aq (ac 5) ah) (ac 3))))))))) (au (bB (az lF (aq (ac 5) ah) (ac 3)) (au (dR (i:=4) (aT (ae (aq (ac 5) ah) (ae (aq (ac 5) ah) (ae (aq (ac 5) ah) (ae (ac 3) (ae (aq (ac 5) ah) ag)))))))) bu)) (au (dR (i:=4) (ac 5))))))
   (au (jS 4)))))
theorem AG (F:Def K "_law_due" (top 46))(f_w_order:Fn P w K mg base 1 "_law_order" dJ)(f_w_lives:Fn P w K mg base 1 "_law_lives" dL)(f_w_sound:Fn P w K mg base 2 "_law_sound" gJ)(f_w_holds:Fn P w K mg base 1 "_law_holds" gK)(f_w_cut:Fn P w K mg base 1 "_law_cut" io):Fn P w K mg base 3 "_law_due" rj:=F.fq X G ["_law_rows_here","_law_known","_law_rules","_law_heard_on","_law_deed_here","_law_some","_law_after","_law_buried","_law_k","_law_fresh","_law_office","_law_mine","_law_next_one","_law_keyed"] 2 λnd _ _ _ _ _ _ _ hr hu=>(show JSs _ _ xc from
  (ao (BJ (i:=2) nd)
   (ao (iB (bF (ac 0)) (m6 rfl (d7 (pgV 3 nd) (d7 (pgV 4 nd) jJ))) z6 (au (bB (eD (cb (az i7 (ac 3) (ac 1)) (cz (az (c8 hu) (aq (ac 4) ah) ax)))) (au (BK (i:=2) (hu1 hu) (aq (ac 4) ah) (aq (ac 4) ah))) bu)))
   (ao (a9 (i:=5) nd (b8 ag))
   (ao (wN (i:=6) nd)
   (ao (a9 (i:=7) nd (b8 ag))
   (ao (iB (bF (ay f_w_order hr (ae (ac 0) (ae (ac 1) ag)))) (pgV 8 nd) cO (ao (a9 (i:=4) nd (aq (aq (ac 0) (ac 8)) ah))
   (ao (bB (eD (cb (az (c8 hu) (aq (ac 4) ah) ax) (cz (Eo (hu1 hu) (aq (ac 4) ah) (ac 2))))) (au (dR (i:=5) (aT (ae (aq (ac 4) ah) (ae (aq (ac 4) ah) (ae (aq (ac 4) ah) (ae c7 (ae (ac 8) ag)))))))) bu)
   (ao (bB (eD (cb (az wo (aq (ac 4) ah) (aT (ae ax (ae ax ag)))) (cz (cY (ay f_w_sound hr (ae (ac 0) (ae (ac 1) (ae (ac 8) ag)))))))) (au (bB (cY (ay f_w_holds hr (ae (ac 5) (ae (ac 2) (ae (aq (ac 4) ah) (ae (aq (ac 4) ah) (ae (aq (ac 4) ah) ag))))))) (au (bB (az (c8 hu) (aq (ac 4) ah) ax) (au (wP (i:=6) (hu1 hu) (aq (ac 4) ah) (ae (aq (ac 4) ah) (ae (aq (ac 4) ah) ag)))) (au (a9 (i:=5) nd (aE bQ (ay f_w_cut hr (ae (ac 5) (ae (aq (ac 4) ah) (ae (aq (ac 4) ah) (ae (aq (ac 4) ah) ag))))) (b8 (ae (aT (ae (aq (ac 4) ah) (ae (aq (ac 4) ah) (ae (aq (ac 4) ah) (ae c7 (ae (ac 8) ag)))))) ag))))))) bu)) bu)
   (au (bB (eD (cb (az (c8 hu) (aq (ac 4) ah) ax) (cz (az jT (aq (ac 4) ah) (ac 7))))) (ao (dR (i:=7) (aq (ac 4) ah))
   (ao (a9 (i:=9) nd (b8 ag))
   (ao (z7 [2] (iB (BO (ac 2)) (pgV 10 nd) cO (ao (lI ["_law_one","_law_office","_law_deed_here"] nd (cpC rfl rfl (cpC rfl rfl (.nil rfl))) (bF (ac 5)) (λ_ _ _ _=>pgC 0) (bE (by decide)) (λ_ _ _ _=>(fS (eD (cb (az (c8 hu) (fX (ac 0) iZ (gf ah)) (aT (ae (ac 1) (ae (aq (ac 2) ah) ag)))) (cz (az i7 (aq (ac 0) ah) (aq (ac 2) ah))))))) (λ_ _ _ _=>(ac 0)))
   (ao (lI ["_law_one","_law_deed_here"] nd (cpC rfl rfl (.nil rfl)) (bF (ac 11)) (λ_ _ _ _=>pgC 0) (bE (by decide)) (λ_ _ _ _=>(fS (eD (fB (az uS (aq (ac 0) ah) c7) (f8 (az lF (aq (ac 1) ah) (aq (ac 0) ah))))))) (λ_ _ _ _=>(ac 0)))
   (ao (a9 (i:=12) nd (t9 (hu1 hu) (ac 6) (ae (ac 10) (ae (aq (ac 4) ah) ag)) ⟨rfl,rfl,rfl,rfl⟩))
   (au (bB (eD (cb (az (xS hu) (ac 11) (b8 ag)) (cb (az qK (ac 12) c7) (cz (cY (ay f_w_lives hr (ae (ac 0) (ae (ac 1) (ae (ac 12) (ae (aq (ac 4) ah) ag)))))))))) (au (dR (i:=9) (aT (ae (ac 10) (ae (ac 12) (ae (aq (ac 4) ah) (ae c7 (ae (ac 8) ag)))))))) bu)))))))
   (au (a9 (i:=5) nd (aE bQ (ay f_w_cut hr (ae (ac 5) (ae c7 (ae (aq (ac 4) ah) (ae (aq (ac 4) ah) ag))))) (ac 9))))))) bu))))))
   (ao (a9 (i:=13) nd (aW nj T.n_sorted jY (ae (iA ["_law_k","_law_some"] (cpC rfl rfl (.nil rfl)) (sD T.n_range (aW fV T.n_len fW (ae (ac 5) ag))) (λ_ _ _ _=>pgC 0) (bE (by decide)) (λ_ _ _ _=>gU) (λ_ _ _ _=>(aT (ae (aq (aq (ac 1) (ac 0)) ah) (ae (aq (aq (ac 1) (ac 0)) ah) (ae (aq (aq (ac 1) (ac 0)) ah) (ae (ac 0) ag))))))) ag)))
   (au (aF (iA ["_law_row","_law_some"] (cpC rfl rfl (.nil rfl)) (bF (ac 13)) (λ_ _ _ _=>pgC 0) (bE (by decide)) (λ_ _ _ _=>gU) (λ_ _ _ _=>(aq (hs:=vK) (ac 1) (aq (ac 0) ah))))))))))))))
theorem u0 (F:Def K "_law_formed" (top 47))  : Fn P w K mg base 1 "_law_formed" jA:=F.fq X G ["_law_found","_law_one","_law_number"] 1 λnd _ _ _ _ _ _ _ hr hu=>(show JSs _ _ nU from
  (ao (bB (gV (cY (aW du T.n_isinstance dr (ae (ac 0) (ae (pq T.n_list zq) ag))))) (au (aF fT)) bu)
   (ao (iB (bF (ac 0)) (pgV 1 nd) cO (ao (bB (eD (fB (gV (cY (aW du T.n_isinstance dr (ae (ac 1) (ae (pq T.n_tuple qL) ag))))) (fB (az (xS hu) (aW fV T.n_len fW (ae (ac 1) ag)) ah) (fB (gV (cY (aW du T.n_isinstance dr (ae (aq (ac 1) ah) (ae (pq T.n_str CO) ag))))) (f8 (gV (cY (aW du T.n_isinstance dr (ae (aq (ac 1) ah) (ae (pq T.n_str CO) ag)))))))))) (au (aF fT)) bu)
   (au (z7 [1] (iB (bF (b8 (ae (aq (ac 1) ah) (ae (aq (ac 1) ah) (ae (aq (b8 (ae (aq (ac 1) ah) (cq ag))) (eG z8 T.n_int wq (ae (cX uS (aq (ac 1) ah) c7) ag))) ag))))) (pgV 2 nd) cO (au (bB (eD (fB (gV (cY (aW du T.n_isinstance dr (ae (ac 2) (ae (pq T.n_int wq) ag))))) (f8 (cY (aW du T.n_isinstance dr (ae (ac 2) (ae (pq T.n_bool DY) ag))))))) (au (aF fT)) bu)))))))
   (au (aF fT)))))
end
end
theorem head {P:Program}{w:World}{K:PySem.W.Frag}{h:Heap}{mg:Str->Option Value}{fa:Addr}(X:K.In h)(G:h.Ns mainGlobals mg)(hfa:mg "law" = some (.ref fa))
  (d_word_of:Def K "word_of" (top 4)) (d_part_of:Def K "part_of" (top 5)) (d_day_of:Def K "day_of" (top 6)) (d_heard:Def K "heard" (top 8)) (d_rank:Def K "rank" (top 10)) (d_in_order:Def K "in_order" (top 11)) (d_by_office:Def K "by_office" (top 23)) (d_roots:Def K "roots" (top 12)) (d_is_known:Def K "is_known" (top 9)) (d_tells:Def K "tells" (top 15)) (d_told_of:Def K "told_of" (top 16)) (d_lives:Def K "lives" (top 17)) (d_has_seal:Def K "has_seal" (top 18)) (d_is_sound:Def K "is_sound" (top 19)) (d_lies_in:Def K "lies_in" (top 1)) (d_is_alive:Def K "is_alive" (top 21)) (d_by_since:Def K "by_since" (top 22)) (d_chief_of:Def K "chief_of" (top 24)) (d_holder_by:Def K "holder_by" (top 25)) (d_is_held_by:Def K "is_held_by" (top 26)) (d_is_first_death:Def K "is_first_death" (top 27)) (d_counts:Def K "counts" (top 28)) (d_new_claim:Def K "new_claim" (top 29)) (d_ended:Def K "ended" (top 30)) (d_after_choice:Def K "after_choice" (top 31)) (d_inherited:Def K "inherited" (top 32)) (d_after_death:Def K "after_death" (top 33)) (d_claims:Def K "claims" (top 34)) (d_w_cell_at:Def K "_law_cell_at" (top 36)) (d_w_names:Def K "_law_names" (top 38)) (d_w_cells:Def K "_law_cells" (top 37)) (d_w_deed:Def K "_law_deed" (top 39)) (d_w_rows:Def K "_law_rows" (top 40)) (d_w_order:Def K "_law_order" (top 41)) (d_w_lives:Def K "_law_lives" (top 42)) (d_w_sound:Def K "_law_sound" (top 43)) (d_w_holds:Def K "_law_holds" (top 44)) (d_w_cut:Def K "_law_cut" (top 45)) (d_w_due:Def K "_law_due" (top 46)) (d_w_formed:Def K "_law_formed" (top 47)) (d_law:Def K "law" (top 48))
  (z_all:PySem.W.nsIn K mainGlobals "all" = some none) (z_bool:PySem.W.nsIn K mainGlobals "bool" = some none) (z_dict:PySem.W.nsIn K mainGlobals "dict" = some none) (z_enumerate:PySem.W.nsIn K mainGlobals "enumerate" = some none) (z_int:PySem.W.nsIn K mainGlobals "int" = some none) (z_isinstance:PySem.W.nsIn K mainGlobals "isinstance" = some none) (z_len:PySem.W.nsIn K mainGlobals "len" = some none) (z_list:PySem.W.nsIn K mainGlobals "list" = some none) (z_max:PySem.W.nsIn K mainGlobals "max" = some none) (z_min:PySem.W.nsIn K mainGlobals "min" = some none) (z_range:PySem.W.nsIn K mainGlobals "range" = some none) (z_set:PySem.W.nsIn K mainGlobals "set" = some none) (z_sorted:PySem.W.nsIn K mainGlobals "sorted" = some none) (z_str:PySem.W.nsIn K mainGlobals "str" = some none) (z_tuple:PySem.W.nsIn K mainGlobals "tuple" = some none)
  (k_PARTS:∃d,PySem.W.nsIn K mainGlobals "PARTS" = some (some (.ref d))/\pw K w.params d gk) (k_SEALINGS:∃u v,PySem.W.nsIn K mainGlobals "SEALINGS" = some (some u)/\aL v u/\∀B,Is K B v eK)
  (l_in_order:re K "in_order") (l_has_seal:re K "has_seal") (l_is_first_death:re K "is_first_death"):
  ∃fd:FuncData,(∀(s:Shared)(u:Value),BindsTo s fd ⟨[u],[]⟩ [("_law_script",u)])/\∀base:Heap,K.In base->base.Ns mainGlobals mg->FnOk P w K mg base CX0 12 fa fd ["_law_script"] (spD K F_law):=by
 have T:Tx K w.params mg:=⟨PySem.W.mg_none_of X G z_all,PySem.W.mg_none_of X G z_bool,PySem.W.mg_none_of X G z_dict,PySem.W.mg_none_of X G z_enumerate,PySem.W.mg_none_of X G z_int,PySem.W.mg_none_of X G z_isinstance,PySem.W.mg_none_of X G z_len,PySem.W.mg_none_of X G z_list,PySem.W.mg_none_of X G z_max,PySem.W.mg_none_of X G z_min,PySem.W.mg_none_of X G z_range,PySem.W.mg_none_of X G z_set,PySem.W.mg_none_of X G z_sorted,PySem.W.mg_none_of X G z_str,PySem.W.mg_none_of X G z_tuple,(let ⟨d,e,r⟩:=k_PARTS;⟨d,PySem.W.mg_of X G e,r⟩),(let ⟨u,v,e,r⟩:=k_SEALINGS;⟨u,v,PySem.W.mg_of X G e,r⟩)⟩;have S:FnScope ["_law_script","_law_names_here","_law_measure","_law_rows_here","_law_known","_law_handed","_law_due_here","_law_turn","_law_found"] ["_law_script"] (aJ (top 48)):=by refine⟨rfl,rfl,rfl,?_,rfl,?_,?_⟩<;>decide +kernel
 refine Def.law d_law X G hfa S (λ_ _ _ _ _ _ u=>rfl) λbase kb nb=>?_;have f_word_of:=vL P w base T X G d_word_of;have f_part_of:=vM P w base T X G d_part_of f_word_of;have f_day_of:=yE P w base T X G d_day_of f_word_of f_part_of;have f_heard:=AA P w base T X G d_heard;have f_rank:=Cp P w base T X G d_rank f_day_of;have f_in_order:=ur P w base T X G d_in_order f_day_of f_heard f_rank l_in_order;have f_by_office:=rE P w base T X G d_by_office;have f_roots:=AB P w base T X G d_roots f_word_of f_part_of f_heard;have f_is_known:=ut P w base T X G d_is_known;have f_tells:=AC P w base T X G d_tells f_word_of f_part_of f_day_of;have f_told_of:=vN P w base T X G d_told_of f_heard f_tells;have f_lives:=AD P w base T X G d_lives f_told_of;have f_has_seal:=uu P w base T X G d_has_seal f_word_of f_rank f_told_of l_has_seal;have f_is_sound:=uw P w base T X G d_is_sound f_word_of f_part_of f_day_of f_is_known f_lives f_has_seal;have f_lies_in:=vO P w base T X G d_lies_in;have f_is_alive:=ux P w base T X G d_is_alive f_lies_in;have f_by_since:=uy P w base T X G d_by_since;have f_chief_of:=uz P w base T X G d_chief_of f_by_since;have f_holder_by:=rF P w base T X G d_holder_by f_part_of f_is_alive f_by_since f_chief_of;have f_is_held_by:=oP P w base T X G d_is_held_by f_holder_by;have f_is_first_death:=kM P w base T X G d_is_first_death f_part_of f_day_of f_rank f_told_of l_is_first_death;have f_counts:=yF P w base T X G d_counts f_word_of f_part_of f_day_of f_roots f_is_sound f_is_held_by f_is_first_death;have f_new_claim:=rG P w base T X G d_new_claim f_part_of;have f_ended:=AE P w base T X G d_ended f_is_alive;have f_after_choice:=ml P w base T X G d_after_choice f_part_of f_new_claim f_ended;have f_inherited:=rH P w base T X G d_inherited f_part_of f_day_of f_lives f_is_alive;have f_after_death:=o9 P w base T X G d_after_death f_part_of f_day_of f_ended f_inherited;have f_claims:=yG P w base T X G d_claims f_word_of f_part_of f_day_of f_in_order f_by_office f_counts f_new_claim f_after_choice f_after_death;have f_w_cell_at:=rJ P w base T X G d_w_cell_at;have f_w_names:=vP P w base T X G d_w_names;have f_w_cells:=vQ P w base T X G d_w_cells f_w_cell_at;have f_w_deed:=yH P w base T X G d_w_deed;have f_w_rows:=yI P w base T X G d_w_rows f_w_cell_at f_w_cells f_w_deed;have f_w_order:=vR P w base T X G d_w_order;have f_w_lives:=vS P w base T X G d_w_lives;have f_w_sound:=vT P w base T X G d_w_sound f_w_order f_w_lives;have f_w_holds:=vU P w base T X G d_w_holds;have f_w_cut:=AF P w base T X G d_w_cut;have f_w_due:=AG P w base T X G d_w_due f_w_order f_w_lives f_w_sound f_w_holds f_w_cut;have f_w_formed:=u0 P w base T X G d_w_formed;clear d_word_of d_part_of d_day_of d_heard d_rank d_in_order d_by_office d_roots d_is_known d_tells d_told_of d_lives d_has_seal d_is_sound d_lies_in d_is_alive d_by_since d_chief_of d_holder_by d_is_held_by d_is_first_death d_counts d_new_claim d_ended d_after_choice d_inherited d_after_death d_claims d_w_cell_at d_w_names d_w_cells d_w_deed d_w_rows d_w_order d_w_lives d_w_sound d_w_holds d_w_cut d_w_due d_w_formed d_law f_word_of f_part_of f_day_of f_heard f_rank f_in_order f_by_office f_roots f_is_known f_tells f_told_of f_lives f_has_seal f_is_sound f_lies_in f_is_alive f_by_since f_chief_of f_holder_by f_is_held_by f_is_first_death f_counts f_new_claim f_ended f_after_choice f_inherited f_after_death f_w_cells f_w_deed f_w_order f_w_lives f_w_sound f_w_holds f_w_cut;exact λf cdv A outer s H E hr=>have hu:=xT hr;have nd:=S.nd;(show JSs _ _ CY from
  (ao (a9 (i:=1) nd (ay f_w_names hr (ae (ay f_w_cell_at hr (ae (ac 0) (cq ag))) (ae (aE bQ ah (aE da (ay f_w_cell_at hr (ae (ac 0) (cq ag))) ah)) ag))))
   (ao (a9 (i:=2) nd (aq (b8 (cq (cq (cq ag)))) (aE da (aE cZ (ay f_w_cell_at hr (ae (ac 0) (cq ag))) ah) ah)))
   (ao (bB (az (c8 hu) (aE da (aE cZ (ay f_w_cell_at hr (ae (ac 0) (cq ag))) ah) ah) ah) (au (Ei (i:=1) ax ah)) bu)
   (ao (a9 (i:=3) nd (ay f_w_rows hr (ae (ac 0) (ae (ac 1) (ae (ac 2) ag)))))
   (ao (a9 (i:=4) nd (aq (b8 (cq (ae (aE gX (aE da (ay f_w_cell_at hr (ae (ac 0) (cq ag))) ah) (ac 2)) ag))) (aE da (ay f_w_cell_at hr (ae (ac 0) (cq ag))) ah)))
   (ao (a9 (i:=5) nd (eG wx T.n_tuple qL (ae (eG Eh T.n_list zq (ae (ac 3) ag)) ag)))
   (ao (a9 (i:=6) nd (ay f_w_due hr (ae (ac 3) (ae (ac 4) ag))))
   (ao (Aa (jU T.n_range ah) (pgV 7 nd) cO (ao (a9 (i:=8) nd (ay f_claims hr (ae (ac 5) (ae (ac 4) ag))))
   (ao (bB (eD (fB (gV (cY (ay f_w_formed hr (ae (ac 8) ag)))) (fB (az (xS hu) (ac 8) (ac 6)) (f8 (az (xS hu) (ac 5) (ac 3)))))) (au (aF fT)) bu)
   (au (dR (i:=8) (aT (ae ax (ae ax (cq (ae c7 (cq ag)))))))))))
   (au (aF fT)))))))))))
end Lw
namespace PySem.W.Fast
def tw9719372913689858853:=()
def tw1208697940400710957:=()
def tw3551488335847690208:=()
def tw13469362180161270901:=()
def tw7881194311172790633:=()
def tw13114068384159257137:=()
def tw173142414172139296:=()
def tw5687848108979508637:=()
def tw12838227484392518424:=()
def tw10959659090072425852:=()
def tw8529413392107279386:=()
def tw2245834077915291354:=()
def tw2111586894008216905:=()
def tw6701451164743065349:=()
def tw15544125855320686169:=()
def tw10633048587721655267:=()
def tw5378255289529599716:=()
def tw12804374084876893924:=()
def tw8752680543202826854:=()
def tw2215840427741113462:=()
def tw12811372479571863547:=()
def tw2721548221280478819:=()
def tw9937978705459694705:=()
def tw3982781136039253403:=()
def tw1232753721862897479:=()
def tw6447596371090655653:=()
def tw16427190113236256784:=()
def tw2734360603068843197:=()
def tw4542260360000152174:=()
def tw14435403636538797798:=()
def tw2221733086954475964:=()
def tw1173789036781353508:=()
def tw6910990569007772458:=()
def tw13312962513445174689:=()
def tw2040885430662148024:=()
def tw15335776555612049553:=()
def tw10523420620762961805:=()
def tw11484411026886970466:=()
def tw12885005986109046483:=()
def tw7691180200497143522:=()
def tw2696789001354645744:=()
def tw9313165563791178232:=()
def tw6862778750778784321:=()
def tw17138416985501733856:=()
def tw5246194512487920835:=()
def tw17145426163732258709:=()
def tw17734144785995696008:=()
def tw815162709468557542:=()
def tw4665644203486535933:=()
def tw3879435194167705089:=()
def tw11400884593603465704:=()
def tw5045499932778137277:=()
def tw14305434397207189251:=()
def tw7524582067687322066:=()
def tw4355129442580562841:=()
def tw12073051490009871304:=()
def tw17859878033422052735:=()
def tw6313091875881088984:=()
def tw6996663760485060516:=()
def tw18237062255354084195:=()
def tw2295301774151061571:=()
def tw1555842791333452874:=()
def tw17166902419243874059:=()
def tw1751513264381817899:=()
def tw10412733876588619637:=()
def tw582152020600891306:=()
def tw12841480467492000970:=()
def tw12469365138967753129:=()
def tw496016230523704137:=()
def tw3587944846924726997:=()
def tw14683275060590467954:=()
def tw6850862734149534916:=()
def tw7160966446975988417:=()
def tw1411623770373252464:=()
def tw1536054902919445188:=()
def tw15502141244639551693:=()
def tw4220395961591292889:=()
def tw4038349887286916895:=()
def tw17480754820157904527:=()
def tw2667651122019458334:=()
def tw6443148787097234022:=()
def tw16733035947938686989:=()
def tw18127124665501303973:=()
def tw8820124607304312462:=()
def tw5007637954977345521:=()
def tw10694226945039178081:=()
def tw494446870682123950:=()
def tw14561237587332308656:=()
def tw7634350550722545982:=()
end PySem.W.Fast
open PySem PySem.W PyProof.Rows
set_option maxRecDepth 100000 in
set_option maxHeartbeats 0 in
theorem PySem.Challenge.cw_sealchain_k17_claims_gone_through_holds : PySem.Challenge.rw_sealchain_k17_claims_gone_through.Holds := by
 w_on; o_law; k_head; (case hw => w_witness2)
 k_fill
 refine' DL.walkD (l := PySem.Challenge.rw_sealchain_k17_claims_gone_through) (k := 12) (x := ("_law_script" : PySem.Str)) (f := Lw.F_law) (L := [(("in_order" : PySem.Str), ?t0), (("has_seal" : PySem.Str), ?t1), (("is_first_death" : PySem.Str), ?t2), (("bases_by" : PySem.Str), ?t3)]) rfl rfl ⟨rfl, by decide, by decide⟩ (fun w h Y => PySem.W.km_in_of Y) ?T ?D ?F Lw.law_true
 case T =>
  intro w
  refine' DL.tabs_fit ?h0 ?h1 ?h2 ?h3 ?ap ?nt
  (case h0 => refine' DL.tab_yes ?a ?l ?c ?m ?v; (case a => k_is); (case l => k_is); (case c => exact rfl); (case m => k_is); (case v => exact rfl))
  (case h1 => refine' DL.tab_yes ?a ?l ?c ?m ?v; (case a => k_is); (case l => k_is); (case c => exact rfl); (case m => k_is); (case v => exact rfl))
  (case h2 => refine' DL.tab_yes ?a ?l ?c ?m ?v; (case a => k_is); (case l => k_is); (case c => exact rfl); (case m => k_is); (case v => exact rfl))
  (case h3 => refine' DL.tab_no ?a; (case a => k_is))
  (case ap => decide)
  (case nt => kernel_rfl)
 case D => kernel_rfl
 case F =>
  intro w mg fa h KX G hmg
  refine' Lw.head KX G hmg ?d0 ?d1 ?d2 ?d3 ?d4 ?d5 ?d6 ?d7 ?d8 ?d9 ?d10 ?d11 ?d12 ?d13 ?d14 ?d15 ?d16 ?d17 ?d18 ?d19 ?d20 ?d21 ?d22 ?d23 ?d24 ?d25 ?d26 ?d27 ?d28 ?d29 ?d30 ?d31 ?d32 ?d33 ?d34 ?d35 ?d36 ?d37 ?d38 ?d39 ?d40 ?z0 ?z1 ?z2 ?z3 ?z4 ?z5 ?z6 ?z7 ?z8 ?z9 ?z10 ?z11 ?z12 ?z13 ?z14 ?k0 ?k1 ?q0 ?q1 ?q2
  iterate 41 (refine' DL.def_mk ?a ?l ?c ?k; (case a => k_is); (case l => k_is); (case c => k_is); (case k => k_is))
  (case z0 => k_is)
  (case z1 => k_is)
  (case z2 => k_is)
  (case z3 => k_is)
  (case z4 => k_is)
  (case z5 => k_is)
  (case z6 => k_is)
  (case z7 => k_is)
  (case z8 => k_is)
  (case z9 => k_is)
  (case z10 => k_is)
  (case z11 => k_is)
  (case z12 => k_is)
  (case z13 => k_is)
  (case z14 => k_is)
  (case k0 => refine' DL.const_dict ?e ?l ?r ?s; (case e => k_is); (case l => k_is); (case r => refine' (DL.CRows.tup rfl ?l0 ?f0 (DL.CRows.tup rfl ?l1 ?f1 (DL.CRows.tup rfl ?l2 ?f2 (DL.CRows.tup rfl ?l3 ?f3 (DL.CRows.tup rfl ?l4 ?f4 (DL.CRows.tup rfl ?l5 ?f5 (DL.CRows.tup rfl ?l6 ?f6 (DL.CRows.tup rfl ?l7 ?f7 (DL.CRows.tup rfl ?l8 ?f8 (DL.CRows.tup rfl ?l9 ?f9 (DL.CRows.tup rfl ?l10 ?f10 (DL.CRows.tup rfl ?l11 ?f11 DL.CRows.nil)))))))))))); (case l0 => k_is); (case f0 => decide +kernel); (case l1 => k_is); (case f1 => decide +kernel); (case l2 => k_is); (case f2 => decide +kernel); (case l3 => k_is); (case f3 => decide +kernel); (case l4 => k_is); (case f4 => decide +kernel); (case l5 => k_is); (case f5 => decide +kernel); (case l6 => k_is); (case f6 => decide +kernel); (case l7 => k_is); (case f7 => decide +kernel); (case l8 => k_is); (case f8 => decide +kernel); (case l9 => k_is); (case f9 => decide +kernel); (case l10 => k_is); (case f10 => decide +kernel); (case l11 => k_is); (case f11 => decide +kernel)); (case s => decide +kernel))
  (case k1 => refine' DL.const_tup ?e ?l ?v; (case e => k_is); (case l => k_is); (case v => decide +kernel))
  (case q0 => refine' DL.lam_mk ?a ?l ?c ?m ?v1 ?v2 ?v3 ?v4 ?v5 ?v6 ?v7; (case a => k_is); (case l => k_is); (case c => exact rfl); (case m => k_is); (case v1 => exact rfl); (case v2 => exact rfl); (case v3 => exact rfl); (case v4 => exact rfl); (case v5 => exact rfl); (case v6 => exact rfl); (case v7 => decide))
  (case q1 => refine' DL.lam_mk ?a ?l ?c ?m ?v1 ?v2 ?v3 ?v4 ?v5 ?v6 ?v7; (case a => k_is); (case l => k_is); (case c => exact rfl); (case m => k_is); (case v1 => exact rfl); (case v2 => exact rfl); (case v3 => exact rfl); (case v4 => exact rfl); (case v5 => exact rfl); (case v6 => exact rfl); (case v7 => decide))
  (case q2 => refine' DL.lam_mk ?a ?l ?c ?m ?v1 ?v2 ?v3 ?v4 ?v5 ?v6 ?v7; (case a => k_is); (case l => k_is); (case c => exact rfl); (case m => k_is); (case v1 => exact rfl); (case v2 => exact rfl); (case v3 => exact rfl); (case v4 => exact rfl); (case v5 => exact rfl); (case v6 => exact rfl); (case v7 => decide))

