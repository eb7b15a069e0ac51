import PyProof.Rows.All
import Wide.All
import OpenK.AllK
import Wide.FinOn
import Lean
import PyProof.EqAt
import PyProof.EqKinds
import PyProof.TupleCall
import PyProof.AttrMissHeap
import PySem.Challenge.RW_sealchain_k26_leaves_that_bear
set_option Elab.async false
set_option linter.all false
set_option maxRecDepth 100000
set_option bootstrap.genMatcherCode false
set_option maxHeartbeats 40000000
theorem mY {α:Type _}{a:α}(l:List α){k:List α}(h:a∈k):a∈l++k:=List.mem_append_right l h
theorem mZ {α:Type _}(b:α){a:α}{l:List α}(h:a∈l):a∈b::l:=List.mem_cons_of_mem b h
theorem mX {α:Type _}{a:α}{l:List α}:a∈a::l:=List.mem_cons_self
theorem oX {α β:Type _}{o:Option α}{f:α->Option β}{b:β}(h:o.bind f=some b):∃a,o=some a/\f a=some b:=Option.bind_eq_some_iff.mp h
theorem oY {α β:Type _}{f:α->β}{o:Option α}{b:β}(h:o.map f=some b):∃a,o=some a/\f a=b:=Option.map_eq_some_iff.mp h
def wX:=@PySem.wpAny_bind
def wY:=@PySem.wpAny_pure
namespace L2
open PySem PySem.Spec PyProof.Rows
abbrev Key:=Sum Int Str
noncomputable def o5:Key->Value->Bool
 |.inl k,v=>Value.isInt k v
 |.inr x,v=>Value.isStrOf x v
noncomputable def Hg (w:World):Key->Int
 |.inl k=>hashInt k
 |.inr x=>hashStr w x
theorem bU:∀ {k:Key}{v:Value},o5 k v=true->(∃i t,k=Sum.inl i/\v=Value.int i t)∨(∃x t,k=Sum.inr x/\v=Value.str x t)
 |.inl i,v,h=>by
  obtain⟨t,e⟩:=Value.isInt_shape (k:=i) (v:=v) h;exact .inl ⟨i,t,rfl,e⟩
 |.inr x,v,h=>by
  obtain⟨t,e⟩:=Value.isStrOf_shape (x:=x) (v:=v) h;exact .inr ⟨x,t,rfl,e⟩
theorem xu (i:Int)(t:Tok):o5 (.inl i) (.int i t)=true:=by simp[o5,Value.isInt]
theorem xw (x:Str)(t:Tok):o5 (.inr x) (.str x t)=true:=by simp[o5,Value.isStrOf]
theorem DJ (a b:Int):decide ((Sum.inl a:Key)=Sum.inl b)=(a == b):=by
 by_cases e:a=b
 ·subst e;simp
 ·have h:¬(Sum.inl a:Key)=Sum.inl b:=λq=>e (Sum.inl.inj q);rw[decide_eq_false h];exact(beq_eq_false_iff_ne.mpr e).symm
theorem DK (a b:Str):decide ((Sum.inr a:Key)=Sum.inr b)=decide (a=b):=by
 by_cases e:a=b
 ·subst e;simp
 ·have h:¬(Sum.inr a:Key)=Sum.inr b:=λq=>e (Sum.inr.inj q);rw[decide_eq_false h,decide_eq_false e]
theorem DM (a:Int)(b:Str):decide ((Sum.inl a:Key)=Sum.inr b)=false:=decide_eq_false (λq=>nomatch q)
theorem DN (a:Str)(b:Int):decide ((Sum.inr a:Key)=Sum.inl b)=false:=decide_eq_false (λq=>nomatch q)
noncomputable def bV (prog:Program)(w:World):PySem.KeyKind prog w Key where
 is:=o5
 hash:=Hg w
 inj:=λv a b ha hb=>by
  rcases bU ha with⟨i,t,rfl,rfl⟩|⟨x,t,rfl,rfl⟩
  ·rcases bU hb with⟨j,u,rfl,e⟩|⟨y,u,rfl,e⟩
   ·injection e with e1 _;rw[e1]
   ·exact nomatch e
  ·rcases bU hb with⟨j,u,rfl,e⟩|⟨y,u,rfl,e⟩
   ·exact nomatch e
   ·injection e with e1 _;rw[e1]
 byValue:=λk v h=>by
  rcases bU h with⟨i,t,rfl,rfl⟩|⟨x,t,rfl,rfl⟩<;>rfl
 pyHash:=λhv h=>by
  rcases bU hv with⟨i,t,rfl,rfl⟩|⟨x,t,rfl,rfl⟩
  ·exact wpAny_pyHash_int h
  ·exact wpAny_pyHash_str h
 eqBool:=λhu hv h=>by
  rcases bU hu with⟨i,t,rfl,rfl⟩|⟨x,t,rfl,rfl⟩
  ·rcases bU hv with⟨j,u,rfl,rfl⟩|⟨y,u,rfl,rfl⟩
   ·rw[DJ]at h;exact wpAny_eqBool_int h
   ·rw[DM]at h;exact SeqAt.EqAt.int_str i t y u _ _ _ _ h
  ·rcases bU hv with⟨j,u,rfl,rfl⟩|⟨y,u,rfl,rfl⟩
   ·rw[DN]at h;exact SeqAt.EqAt.str_int x t j u _ _ _ _ h
   ·rw[DK]at h;exact wpAny_eqBool_str h
 «strs»:=λk x t v h=>by
  rcases bU h with⟨i,u,rfl,e⟩|⟨y,u,rfl,e⟩
  ·exact nomatch e
  ·injection e with e1 _;subst e1;cases v<;>rfl
theorem rm (prog:Program)(w:World)(i:Int)(t:Tok):(bV prog w).is (.inl i) (.int i t)=true:=xu i t
theorem rq (prog:Program)(w:World)(x:Str)(t:Tok):(bV prog w).is (.inr x) (.str x t)=true:=xw x t
inductive V where
 |non|bl (b:Bool)|int (i:Int)|str (x:Str)|byt (b:Array UInt8)|flt (b:UInt64)|ref (a:Addr)|ty (n:String)
 deriving DecidableEq
def aS:V->Value->Prop
 |.non,u=>u=Value.none
 |.bl b,u=>u=Value.bool b
 |.int i,u=>∃t,u=Value.int i t
 |.str x,u=>∃t,u=Value.str x t
 |.byt b,u=>∃t,u=Value.bytes b t
 |.flt b,u=>∃t,u=Value.float b t
 |.ref a,u=>u=Value.ref a
 |.ty n,u=>u=Value.type n
abbrev aT:List V->List Value->Prop:=Paired aS
theorem aT.length {xs:List V}{us:List Value}(r:aT xs us):xs.length=us.length:=Paired.length r
theorem aT.get:∀ {xs:List V}{us:List Value}{i:Nat}{x:V},aT xs us->xs[i]? = some x->∃u,us[i]? = some u/\aS x u
 |_,_,_,_,.nil,e=>by simp at e
 |_,_,0,_,.cons r _,e=>by simp at e;subst e;exact⟨_,rfl,r⟩
 |_,_,i+1,x,.cons _ t,e=>by
  obtain⟨u,h1,h2⟩:=aT.get (i:=i) (x:=x) t (by simpa using e);exact⟨u,by simpa using h1,h2⟩
theorem aT.set {x:V}{u:Value}(r:aS x u):∀ {xs:List V}{us:List Value}(i:Nat),aT xs us->aT (xs.set i x) (us.set i u)
 |_,_,_,.nil=>.nil
 |_,_,0,.cons _ t=>.cons r t
 |_,_,i+1,.cons q t=>.cons q (aT.set r i t)
theorem aT.append:∀ {xs ys:List V}{us ws:List Value},aT xs us->aT ys ws->aT (xs++ys) (us++ws)
 |_,_,_,_,.nil,s=>s
 |_,_,_,_,.cons r t,s=>.cons r (aT.append t s)
theorem aT.take:∀ {xs:List V}{us:List Value}(n:Nat),aT xs us->aT (xs.take n) (us.take n)
 |_,_,0,_=>.nil
 |_,_,_+1,.nil=>.nil
 |_,_,n+1,.cons r t=>.cons r (aT.take n t)
theorem aT.drop:∀ {xs:List V}{us:List Value}(n:Nat),aT xs us->aT (xs.drop n) (us.drop n)
 |_,_,0,r=>r
 |_,_,_+1,.nil=>.nil
 |_,_,n+1,.cons _ t=>aT.drop n t
theorem aT.none_of:∀ {xs:List V}{us:List Value}{i:Nat},aT xs us->xs[i]? = none->us[i]? = none:=λ{xs us i} r e=>by
 have h1:=r.length;have h2:xs.length<=i:=List.getElem?_eq_none_iff.mp e;exact List.getElem?_eq_none_iff.mpr (by omega)
def ls:Option V->Option Value->Prop
 |some v,some u=>aS v u
 |none,none=>True
 |_,_=>False
def KV {κ:Type}:List (κ×V)->List (κ×Value)->Prop:=Paired λ(p:κ×V) (q:κ×Value)=>p.1=q.1/\aS p.2 q.2
noncomputable def kV:Key->V
 |.inl i=>.int i
 |.inr x=>.str x
inductive HO where
  |lst (xs:List V)
  |tup (xs:List V)
  |dK (kvs:List (Key×V)) (ob:Obj)|dT (kvs:List (List Key×V))
  |set (S:Int->Bool) (n:Nat)
  |ins (C dx:Addr) (fs:List (Str×V))
  |own (x:Addr)
  |xd (fs:List (Str×V))
  |met (f x:Addr)
  |rng (lo hi:Int)
  |frz (o:Obj) (u:HO)
  |tbl (q:Str)
  |ext (φ:Heap->Prop)
abbrev Hp:=Addr->Option HO
noncomputable def upd (H:Hp)(a:Addr)(o:HO):Hp:=λb=>if b=a then some o else H b
theorem aF {H:Hp}{a:Addr}{o:HO}:upd H a o a=some o:=by unfold upd;rw[if_pos rfl]
theorem aH {H:Hp}{a b:Addr}{o:HO}(h:b≠a):upd H a o b=H b:=by unfold upd;rw[if_neg h]
theorem Be {H:Hp}{a:Addr}{o u:HO}:upd (upd H a o) a u=upd H a u:=by
 funext b;unfold upd;split<;>rfl
theorem FB {H:Hp}{a b:Addr}{o u:HO}(h:H a=some o)(h':H b=some u)(d:o≠u):a≠b:=by
 intro e;subst e;rw[h]at h';exact d (Option.some.inj h')
theorem aR {H:Hp}{a b:Addr}{o:HO}(h:H a=some o)(h':H b=none):a≠b:=by
 intro e;subst e;rw[h]at h';cases h'
section
variable (P:Program) (w:World)
def bz (H:Hp)(h:Heap)(a:Addr):HO->Prop
 |.lst xs=>xs.length<=sizeLine/\∃(its:List Value)(n:Nat),aT xs its/\h.get? a=some { cls:=.type "list",data:=.seq its.toArray n }
 |.tup xs=>xs.length<=sizeLine/\∃its:List Value,aT xs its/\IsTup h a its.toArray
 |.dK kvs ob=>h.get? a=some ob/\kvs.length<=sizeLine/\(a == sysModules)=false/\∃vs,KV kvs vs/\h.DictOf (bV P w) a vs
 |.dT kvs=>kvs.length<=sizeLine/\(a == sysModules)=false/\∃xs:List (List Key×Addr×Value),
   Paired (λ(p:List Key×V) (q:List Key×Addr×Value)=>p.1=q.1/\H q.2.1=some (.tup (p.1.map kV))/\aS p.2 q.2.2) kvs xs /\
   ∃o es ep,h.get? a=some o/\o.ExactDict/\o.data=.dict es ep/\es.toList=xs.map (entryOfKey (tupleKind (bV P w)))/\(xs.map (·.1)).Nodup
 |.set S n=>h.SetOf (intKind P w) a S n
 |.ins C dx fs=>H dx=some (.own a)/\fs.length<=1000/\dx≠a/\h.get? a=some (PySem.W.instObj C dx) /\
   ∃mA,h.Ns1 dx mA/\(∀f,ls (fs.lookup f) (mA f))/\PySem.Within mA (fs.map (·.1))
 |.own _=>∃o,h.get? a=some o
 |.xd fs=>∃mA,h.Ns1 a mA/\∀f,ls (fs.lookup f) (mA f)
 |.rng lo hi=>∃t u v,h.get? a=some { cls:=.type "range",data:=.fields #[.int lo t,.int hi u,.int 1 v] }
 |.frz o u=>h.get? a=some o/\bz H h a u
 |.tbl q=>∃ps:Array Value,h.get? a=some { cls:=.none,data:=.fields ps }/\TriplesOk ps.toList/\∀pos cv,codeAmong pos ps.toList=some cv->∃(c:Addr)(oc:Obj)(u:HO)(vs:Array Value)(t:Tok),cv=.ref c/\H c=some (.frz oc u)/\oc.data=.fields vs/\vs[1]? = some (.str q t)
 |.met f x=>h.get? a=some (PySem.W.methodObj (.ref f) (.ref x))
 |.ext φ=>φ h/\(∃o,h.get? a=some o)/\∀h1 h2:Heap,φ h1->(∀o,h1.get? a=some o->h2.get? a=some o)->φ h2
def HOk (H:Hp)(h:Heap):Prop:=∀a o,H a=some o->bz P w H h a o
end
section
variable {P:Program}{w:World}{H H':Hp}{h h':Heap}{a:Addr}{o:HO}
theorem bz.lt (x:bz P w H h a o):a<h.objs.size:=by
 cases o with
 |lst xs=>obtain⟨_,_,_,_,e⟩:=x;exact Heap.lt_size e
 |tup xs=>obtain⟨_,_,_,p⟩:=x;exact p.lt
 |dK kvs ob=>exact Heap.lt_size (And.left x)
 |dT kvs=>obtain⟨_,_,_,_,o,_,_,e,_⟩:=x;exact Heap.lt_size e
 |set S n=>obtain⟨o,_,_,_,e,_⟩:=x;exact Heap.lt_size e
 |ins C dx fs=>obtain⟨_,_,_,e,_⟩:=x;exact Heap.lt_size e
 |own y=>obtain⟨_,e⟩:=x;exact Heap.lt_size e
 |xd fs=>obtain⟨_,⟨_,_,_,e,_⟩,_⟩:=x;exact Heap.lt_size e
 |rng lo hi=>obtain⟨_,_,_,e⟩:=x;exact Heap.lt_size e
 |frz ob u=>obtain⟨e,_⟩:=x;exact Heap.lt_size e
 |tbl q=>obtain⟨_,e,_⟩:=x;exact Heap.lt_size e
 |met f y=>exact Heap.lt_size (show h.get? a=some _ from x)
 |ext φ=>obtain⟨_,⟨_,e⟩,_⟩:=x;exact Heap.lt_size e
theorem Paired.mapP {α β:Type}{F G:α->β->Prop}:∀ {l₁:List α}{l₂:List β},Paired F l₁ l₂->(∀a b,F a b->G a b)->Paired G l₁ l₂
 |_,_,.nil,_=>.nil
 |_,_,.cons r t,f=>.cons (f _ _ r) (Paired.mapP t f)
theorem bz.stay (x:bz P w H h a o)(k:∀b u,(b=a∨H b=some (.own a))->h.get? b=some u->h'.get? b=some u)
  (ho:∀b,H b=some (.own a)->H' b=some (.own a)) (ht:∀b xs,H b=some (.tup xs)->H' b=some (.tup xs)) (hf:∀b o u,H b=some (.frz o u)->H' b=some (.frz o u)):bz P w H' h' a o:=by
 induction o with
 |lst xs=>obtain⟨z,its,n,r,e⟩:=x;exact⟨z,its,n,r,k _ _ (.inl rfl) e⟩
 |tup xs=>obtain⟨z,its,r,ob,e,c⟩:=x;exact⟨z,its,r,ob,k _ _ (.inl rfl) e,c⟩
 |dK kvs ob0=>obtain⟨g,z,y,vs,r,ob,es,ep,e,c⟩:=x;exact⟨k _ _ (.inl rfl) g,z,y,vs,r,ob,es,ep,k _ _ (.inl rfl) e,c⟩
 |dT kvs=>
  obtain⟨z,y,xs,r,ob,es,ep,e,c⟩:=x;exact⟨z,y,xs,Paired.mapP r λp q z=>⟨z.1,ht _ _ z.2.1,z.2.2⟩,ob,es,ep,k _ _ (.inl rfl) e,c⟩
 |set S n=>obtain⟨ob,es,ep,t,e,c⟩:=x;exact⟨ob,es,ep,t,k _ _ (.inl rfl) e,c⟩
 |ins C dx fs=>
  obtain⟨d,z,ne,e,mA,⟨od,es,ep,e2,c⟩,r⟩:=x;exact⟨ho _ d,z,ne,k _ _ (.inl rfl) e,mA,⟨od,es,ep,k _ _ (.inr d) e2,c⟩,r⟩
 |own y=>obtain⟨ob,e⟩:=x;exact⟨ob,k _ _ (.inl rfl) e⟩
 |xd fs=>obtain⟨mA,⟨od,es,ep,e,c⟩,r⟩:=x;exact⟨mA,⟨od,es,ep,k _ _ (.inl rfl) e,c⟩,r⟩
 |rng lo hi=>obtain⟨t,u,v,e⟩:=x;exact⟨t,u,v,k _ _ (.inl rfl) e⟩
 |frz ob u ih=>obtain⟨e,q⟩:=x;exact⟨k _ _ (.inl rfl) e,ih q⟩
 |tbl q=>obtain⟨ps,e,t,c⟩:=x;exact⟨ps,k a _ (.inl rfl) e,t,λpos cv z=>let ⟨d,oc,u,vs,tk,z1,z2,z3⟩:=c pos cv z;⟨d,oc,u,vs,tk,z1,hf _ _ _ z2,z3⟩⟩
 |met f y=>
  have e:h.get? a=some (PySem.W.methodObj (.ref f) (.ref y)):=x;show h'.get? a=some (PySem.W.methodObj (.ref f) (.ref y));exact k a _ (.inl rfl) e
 |ext φ=>obtain⟨p,⟨o,e⟩,st⟩:=x;exact⟨st _ _ p λo q=>k _ _ (.inl rfl) q,⟨o,k _ _ (.inl rfl) e⟩,st⟩
theorem HOk.lt (x:HOk P w H h)(e:H a=some o):a<h.objs.size:=(x a o e).lt
theorem HOk.fresh (x:HOk P w H h)(e:h.objs.size<=a):H a=none:=by
 cases q:H a with
 |none=>rfl
 |some u=>exact absurd (Nat.lt_of_lt_of_le (x.lt q) e) (Nat.lt_irrefl _)
theorem HOk.kept (x:HOk P w H h)(k:∀b u,h.get? b=some u->h'.get? b=some u):HOk P w H h':=λa o e=>
 (x a o e).stay (λb u _ q=>k b u q) (λ_ q=>q) (λ_ _ q=>q) λ_ _ _ q=>q
theorem HOk.laid (x:HOk P w H h)(k:∀b u,h.get? b=some u->h'.get? b=some u)(hp:h.objs.size<=a)(new:bz P w (upd H a o) h' a o):HOk P w (upd H a o) h':=λb u e=>by
 have hn:=x.fresh hp;by_cases hb:b=a
 ·subst hb;rw[aF]at e;cases e;exact new
 ·rw[aH hb]at e;exact(x b u e).stay (λc v _ q=>k c v q) (λc q=>by rw[aH (aR q hn)];exact q) (λc xs q=>by rw[aH (aR q hn)];exact q) λc o xs q=>by rw[aH (aR q hn)];exact q
end
def Rd (H:Hp)(a:Addr)(u:HO):Prop:=H a=some u∨∃o,H a=some (.frz o u)
theorem Rd.of {H:Hp}{a:Addr}{u:HO}(h:H a=some u):Rd H a u:=.inl h
theorem Rd.ok {P:Program}{w:World}{H:Hp}{h:Heap}{a:Addr}{u:HO}(r:Rd H a u)(x:HOk P w H h):bz P w H h a u:=by
 rcases r with r|⟨o,r⟩
 ·exact x a u r
 ·obtain⟨_,q⟩:=x a _ r;exact q
def Mut:Option HO->Prop
 |some (.lst _)=>True
 |some (.dK _ _)=>True
 |some (.dT _)=>True
 |some (.set _ _)=>True
 |some (.ins _ _ _)=>True
 |some (.ext _)=>True
 |_=>False
section
variable {P:Program}{w:World}{H:Hp}{h h':Heap}{x e:Addr}{o':HO}
theorem HOk.write (ok:HOk P w H h)(mu:Mut (H x))(he:e=x∨H e=some (.own x))(k:∀b u,b≠e->h.get? b=some u->h'.get? b=some u)(heo:∃u,h'.get? e=some u)
  (new:bz P w (upd H x o') h' x o'):HOk P w (upd H x o') h':=λb u q=>by
 have nown:∀c y,H c=some (.own y)->c≠x:=λc y r z=>by subst z;rw[r]at mu;exact mu
 have ntup:∀c xs,H c=some (.tup xs)->c≠x:=λc xs r z=>by subst z;rw[r]at mu;exact mu
 by_cases hb:b=x
 ·subst hb;rw[aF]at q;cases q;exact new
 ·rw[aH hb]at q;by_cases hbe:b=e
  ·have q':H b=some (.own x):=by
    rcases he with z|z
    ·exact absurd (hbe.trans z) hb
    ·rw[hbe];exact z
   rw[q]at q';cases q';obtain⟨v,hv⟩:=heo;exact⟨v,by rw[hbe];exact hv⟩
  ·refine(ok b u q).stay (λc v hc r=>k c v ?_ r) (λc r=>by rw[aH (nown c b r)];exact r) (λc xs r=>by rw[aH (ntup c xs r)];exact r) λc o xs r=>by rw[aH (λz=>by subst z;rw[r]at mu;exact mu)];exact r
   rcases hc with rfl|hc
   ·exact hbe
   ·rintro rfl;rcases he with z|z
    ·exact nown c b hc z
    ·rw[hc]at z;cases z;exact hb rfl
end
structure Un (fs ex:List Addr)(H H':Hp)(h h':Heap):Prop where
 keep:∀b o,h.get? b=some o->H b=none->b∉fs->b∉ex->h'.get? b=some o
 slot:∀b o,h.get? b=some o->H b=none->b∈fs->b∉ex->∃sl,h'.get? b=some { o with slots:=sl }
 free:∀b o,h.get? b=some o->H b=none->b∉ex->H' b=none
 there:∀b o,h.get? b=some o->b∉ex->∃o',h'.get? b=some o'
 tups:∀b xs,H b=some (.tup xs)->H' b=some (.tup xs)
 frzs:∀b o u,H b=some (.frz o u)->H' b=some (.frz o u)
 tbls:∀b q,H b=some (.tbl q)->H' b=some (.tbl q)
section
variable {fs fs' ex ex':List Addr}{H H1 H2:Hp}{h h1 h2 h':Heap}{a x e:Addr}{o:HO}
theorem Un.any (u:Un fs ex H H1 h h1){b:Addr}{ob:Obj}(q:h.get? b=some ob)(n:H b=none)(hx:b∉ex):∃sl,h1.get? b=some { ob with slots:=sl }:=by
 by_cases hb:b∈fs
 ·exact u.slot b ob q n hb hx
 ·exact⟨ob.slots,u.keep b ob q n hb hx⟩
theorem Un.trans (a:Un fs ex H H1 h h1)(b:Un fs ex H1 H2 h1 h2):Un fs ex H H2 h h2 where
 keep:=λc ob q n hc hx=>b.keep c ob (a.keep c ob q n hc hx) (a.free c ob q n hx) hc hx
 slot:=λc ob q n hc hx=>by
  obtain⟨sl,e1⟩:=a.slot c ob q n hc hx;obtain⟨sl',e2⟩:=b.slot c _ e1 (a.free c ob q n hx) hc hx;exact⟨sl',e2⟩
 free:=λc ob q n hx=>by
  obtain⟨o',e1⟩:=a.there c ob q hx;exact b.free c o' e1 (a.free c ob q n hx) hx
 there:=λc ob q hx=>by
  obtain⟨o',e1⟩:=a.there c ob q hx;exact b.there c o' e1 hx
 tups:=λc xs q=>b.tups c xs (a.tups c xs q)
 frzs:=λc ob xs q=>b.frzs c ob xs (a.frzs c ob xs q)
 tbls:=λc ps q=>b.tbls c ps (a.tbls c ps q)
theorem Un.kept (k:∀b u,h.get? b=some u->h'.get? b=some u):Un fs ex H H h h' :=
 ⟨λb ob q _ _ _=>k b ob q,λb ob q _ _ _=>⟨ob.slots,k b ob q⟩,λ_ _ _ n _=>n,λb ob q _=>⟨ob,k b ob q⟩,λ_ _ q=>q,λ_ _ _ q=>q,λ_ _ q=>q⟩
theorem Un.refl:Un fs ex H H h h:=Un.kept λ_ _ q=>q
theorem Un.laid (k:∀b u,h.get? b=some u->h'.get? b=some u)(hp:h.objs.size<=a)(hn:H a=none):Un fs ex H (upd H a o) h h' where
 keep:=λb u q _ _ _=>k b u q
 slot:=λb u q _ _ _=>⟨u.slots,k b u q⟩
 free:=λb u q n _=>by rw[aH (Nat.ne_of_lt (Nat.lt_of_lt_of_le (Heap.lt_size q) hp))];exact n
 there:=λb u q _=>⟨u,k b u q⟩
 tups:=λb xs q=>by rw[aH (aR q hn)];exact q
 frzs:=λb u xs q=>by rw[aH (aR q hn)];exact q
 tbls:=λb ps q=>by rw[aH (aR q hn)];exact q
theorem Un.write (mu:Mut (H x))(he:e=x∨H e=some (.own x))(k:∀b u,b≠e->h.get? b=some u->h'.get? b=some u)(heo:∃u,h'.get? e=some u):Un fs ex H (upd H x o) h h':=by
 have hx:∀b,H b=none->b≠x:=λb n z=>by subst z;rw[n]at mu;exact mu
 have hb:∀b,H b=none->b≠e:=λb n z=>by
  subst z;rcases he with r|r
  ·exact hx b n r
  ·rw[n]at r;cases r
 have hm:∀b u,H b=some u->¬Mut (some u)->b≠x:=λb u q nm z=>by subst z;rw[q]at mu;exact nm mu
 refine⟨λb u q n _ _=>k b u (hb b n) q,λb u q n _ _=>⟨u.slots,k b u (hb b n) q⟩,λb u q n _=>by rw[aH (hx b n)];exact n,λb u q _=>?_,
  λb xs q=>by rw[aH (hm b _ q λz=>z)];exact q,λb u xs q=>by rw[aH (hm b _ q λz=>z)];exact q,λb ps q=>by rw[aH (hm b _ q λz=>z)];exact q⟩
 by_cases hbe:b=e
 ·subst hbe;exact heo
 ·exact⟨u,k b u hbe q⟩
end
noncomputable def trk (h:Heap)(H:Hp):List Addr:=(List.range h.objs.size).filter λa=>(H a).isSome
noncomputable def rz (h:Heap)(H:Hp):Heap:=PySem.W.hideAll h (trk h H)
theorem xy (h:Heap)(H:Hp):(rz h H).objs.size=h.objs.size:=PySem.W.hideAll_size _ _
theorem lJ {h:Heap}{H:Hp}{b:Addr}{o:Obj}(e:h.get? b=some o)(n:H b=none):(rz h H).get? b=some o :=
 PySem.W.hideAll_get _ e λhm=>by
  have q:(H b).isSome=true:=(List.mem_filter.mp hm).2;rw[n]at q;simp at q
theorem Bf {h:Heap}{H:Hp}{b:Addr}{o:Obj}(e:(rz h H).get? b=some o):h.get? b=some o/\H b=none:=by
 have e':h.get? b=some o:=PySem.W.of_hideAll (trk h H) e;refine⟨e',?_⟩;cases q:H b with
 |none=>rfl
 |some x=>
  have hm:b∈trk h H:=List.mem_filter.mpr ⟨List.mem_range.mpr (Heap.lt_size e'),by simp[q]⟩;have z:(rz h H).get? b=none:=PySem.W.hideAll_none (trk h H) hm;rw[z]at e;cases e
noncomputable def Bg (g h:Heap)(L:Addr):List (Addr×Obj):=(List.range h.objs.size).filterMap λa=>if a=L∨(g.get? a).isSome=true then none else (h.get? a).map λo=>(a,o)
noncomputable def au (g h:Heap)(L d:Addr):List (Addr×Obj):=(Bg g h L).filter λp=>decide (p.1≠d)
structure Mod (K:PySem.W.Frag)(mg:Str->Option Value)(base:Heap):Prop where
 kin:K.In base
 glob:base.Ns mainGlobals mg
 blt:∃mb,base.Ns builtinsNs mb/\∀x:Str,x ≠ "__name__"->mb x=bootBuiltins x
 nolimit:base.NoLimit
 bmain:∃bm ob,mg "__builtins__" = some (.ref bm)/\bm≠builtinsNs/\base.get? bm=some ob/\ob.cls=.type "module"/\ob.dict=some builtinsNs/\ob.data=.plain
structure Cx where
 prog:Program
 w:World
 K:PySem.W.Frag
 mg:Str->Option Value
 base:Heap
 A:Around
 N:List Str
 s₀:Shared
 H₀:Hp
 env:Env
 outer:List Env
 stack:List Env
 ex:List Addr
 fn:Str->Bool
 calm:Bool
 pn:List (Addr×Obj)
 xe:Value->Shared->Prop
noncomputable def frs (l:List Env):List Addr:=l.filterMap (·.frame)
noncomputable abbrev Cx.fs (X:Cx):List Addr:=frs X.outer
def Vis (sc:Scope)(x:Str):Prop:=sc.names.lookup x=some .local∨sc.names.lookup x=some .cell∨sc.names.lookup x=some .free
def Loc (sc:Scope)(x:Str):Prop:=sc.names.lookup x=some .local∨sc.names.lookup x=some .cell
def Hh (env:Env)(h:Heap)(m:Str->Option Value)(x:Str)(u:Value):Prop :=
 (env.kindOf x=some .local/\m x=some u)∨((env.kindOf x=some .cell∨env.kindOf x=some .free)/\∃c,env.cells.lookup x=some c/\h.IsCell c (some u))
structure Cx.Ok (X:Cx):Prop where
 mod:Mod X.K X.mg X.base
 kind:X.env.scope.kind=.function
 glob:X.env.globals=mainGlobals
 blt:X.env.builtins=builtinsNs
 above:X.s₀.heap.objs.size<=X.env.locals
 inj:∀x y c,X.env.cells.lookup x=some c->X.env.cells.lookup y=some c->x=y
 has:∀x,(X.env.kindOf x=some .cell∨X.env.kindOf x=some .free)->∃c,X.env.cells.lookup x=some c
 cab:∀x c,X.fn x=true->X.env.cells.lookup x=some c->X.s₀.heap.objs.size<=c
 hd:X.calm=true->X.A.handled=none
 frames:X.A.frames=some X.stack
 stk:X.stack=X.outer∨(X.stack=X.env::X.outer/\X.env.frame=some X.env.locals)
 exf:∀b∈X.ex,b≠X.env.locals/\∀x c,X.env.cells.lookup x=some c->c≠b
 bs:∀b o,X.base.get? b=some o->X.s₀.heap.get? b=some o/\X.H₀ b=none
 bsz:X.base.objs.size<=X.s₀.heap.objs.size
 noex:∀b o,X.base.get? b=some o->b∉X.ex
 exfs:∀b∈X.ex,b∉X.fs
 funs:X.s₀.heap.FunFrames X.base X.outer
 frf:∀b∈X.fs,X.H₀ b=none
structure Inv (X:Cx)(pins:List (Addr×Obj))(σ:List (Option V))(H:Hp)(s:Shared):Prop where
 ok:X.Ok
 os:s.os=X.s₀.os
 bare:AllBare s.gens
 base:Un X.fs X.ex X.H₀ H X.s₀.heap s.heap
 loc:∃m,s.heap.Ns X.env.locals m/\∀(i:Nat)(x:Str)(v:V),X.N[i]? = some x->σ[i]? = some (some v)->Vis X.env.scope x->∃u,aS v u/\Hh X.env s.heap m x u
 cell:∀x c,X.env.cells.lookup x=some c->∃v,s.heap.IsCell c v
 free:H X.env.locals=none
 freeC:∀x c,X.env.cells.lookup x=some c->H c=none
 pin:∀p∈X.pn++pins,s.heap.get? p.1=some p.2/\H p.1=none/\p.1≠X.env.locals/\p.1∉X.fs/\∀v,p.2.data≠.cell v
 hok:HOk X.prog X.w H s.heap
 len:σ.length=X.N.length
section
variable {X:Cx}{pins:List (Addr×Obj)}{σ:List (Option V)}{H H':Hp}{s:Shared}{h':Heap}
theorem Cx.Ok.nofr (ok:X.Ok){b:Addr}{o:Obj}(e:X.base.get? b=some o):b∉X.fs:=λhb=>by
 have:=(ok.funs.mem hb).1;rw[e]at this;cases this
theorem Inv.bs (I:Inv X pins σ H s):∀b o,X.base.get? b=some o->s.heap.get? b=some o/\H b=none:=λb o e=>
 ⟨I.base.keep b o (I.ok.bs b o e).1 (I.ok.bs b o e).2 (I.ok.nofr e) (I.ok.noex b o e),I.base.free b o (I.ok.bs b o e).1 (I.ok.bs b o e).2 (I.ok.noex b o e)⟩
theorem Inv.bk (I:Inv X pins σ H s):∀b o,X.base.get? b=some o->s.heap.get? b=some o:=λb o e=>(I.bs b o e).1
theorem Inv.mod (I:Inv X pins σ H s):Mod X.K X.mg X.base:=I.ok.mod
theorem Inv.kIn (I:Inv X pins σ H s):X.K.In s.heap:=I.ok.mod.kin.keeps I.bk
theorem Inv.nolimit (I:Inv X pins σ H s):s.heap.NoLimit:=I.ok.mod.nolimit.keeps I.bk
theorem Inv.lt (I:Inv X pins σ H s):X.env.locals<s.heap.objs.size:=let ⟨_,hn,_⟩:=I.loc;hn.lt
theorem Inv.sz (I:Inv X pins σ H s):X.s₀.heap.objs.size<=s.heap.objs.size:=Nat.le_trans I.ok.above (Nat.le_of_lt I.lt)
theorem Inv.nofs (I:Inv X pins σ H s){a:Addr}(h:s.heap.objs.size<=a):a∉X.fs:=λhb=>by
 obtain⟨_,o,ho,_⟩:=I.ok.funs.mem hb;exact absurd (Nat.lt_of_lt_of_le (Heap.lt_size ho) (Nat.le_trans I.sz h)) (Nat.lt_irrefl _)
theorem Inv.cne (I:Inv X pins σ H s):∀x c,X.env.cells.lookup x=some c->c≠X.env.locals:=λx c e z=>by
 obtain⟨v,o,ho,hd⟩:=I.cell x c e;obtain⟨m,⟨o',es,ep,ho',hd',_⟩,_⟩:=I.loc;rw[z,ho']at ho;cases ho;rw[hd']at hd;cases hd
theorem Inv.funs (I:Inv X pins σ H s):s.heap.FunFrames X.base X.outer:=by
 have all:∀(l:List Env),(∀b∈frs l,b∈X.fs)->X.s₀.heap.FunFrames X.base l->s.heap.FunFrames X.base l:=by
  intro l;induction l with
  |nil=>intro _ _;trivial
  |cons env r ih=>
   intro hs hl;obtain⟨hk,⟨L,o,hf,hn,ho,hd⟩,hr⟩:=hl;have hL:L∈X.fs:=hs L (by unfold frs;rw[List.filterMap_cons,hf];exact mX);obtain⟨sl,e⟩:=I.base.slot L o ho (I.ok.frf L hL) hL λz=>I.ok.exfs L z hL;exact⟨hk,⟨L,_,hf,hn,e,hd⟩,ih (λb hb=>hs b (by unfold frs;rw[List.filterMap_cons,hf];exact mZ _ hb)) hr⟩
 exact all X.outer (λ_ hb=>hb) I.ok.funs
theorem Inv.stack (I:Inv X pins σ H s):s.heap.FunFrames X.base X.stack:=by
 rcases I.ok.stk with e|⟨e,hf⟩
 ·rw[e];exact I.funs
 ·rw[e];obtain⟨m,hn,_⟩:=I.loc;refine .cons (by rw[I.ok.kind];decide) hf hn ?_ I.funs;exact Heap.get?_none_of_le (Nat.le_trans I.ok.bsz I.ok.above)
theorem Inv.stkSub (I:Inv X pins σ H s):∀b∈frs X.stack,b∈X.env.locals::X.fs:=λb hb=>by
 rcases I.ok.stk with e|⟨e,hf⟩
 ·rw[e]at hb;exact mZ _ hb
 ·rw[e]at hb;unfold frs at hb;rw[List.filterMap_cons,hf]at hb;exact hb
theorem Inv.stkFree (I:Inv X pins σ H s):∀b∈frs X.stack,H b=none:=λb hb=>by
 rcases List.mem_cons.mp (I.stkSub b hb)with e|hb
 ·rw[e];exact I.free
 ·obtain⟨_,o,ho,_⟩:=I.ok.funs.mem hb;exact I.base.free b o ho (I.ok.frf b hb) λz=>I.ok.exfs b z hb
theorem Inv.step {g':Array GenState}{t':Nat}{d':Drawn}{ch:List Addr}(I:Inv X pins σ H s)
  (hch:∀b∈ch,(b∈X.ex∨X.s₀.heap.objs.size<=b)/\b≠X.env.locals/\(∀x c,X.env.cells.lookup x=some c->c≠b)/\∀p∈X.pn++pins,p.1≠b)
  (keep:∀b o,b≠X.env.locals->b∉X.fs->b∉ch->s.heap.get? b=some o->H b=none->h'.get? b=some o)
  (slot:∀b o,b≠X.env.locals->b∈X.fs->b∉ch->s.heap.get? b=some o->H b=none->∃sl,h'.get? b=some { o with slots:=sl }) (free:∀b o,b∉ch->s.heap.get? b=some o->H b=none->H' b=none)
  (there:∀b o,b∉ch->s.heap.get? b=some o->∃o',h'.get? b=some o')
  (tups:∀b xs,H b=some (.tup xs)->H' b=some (.tup xs)) (frzs:∀b o u,H b=some (.frz o u)->H' b=some (.frz o u)) (tbls:∀b q,H b=some (.tbl q)->H' b=some (.tbl q))
  (ns:∀m,s.heap.Ns X.env.locals m->h'.Ns X.env.locals m) (hok:HOk X.prog X.w H' h') (hg:AllBare g'):
  Inv X pins σ H' { s with heap:=h',gens:=g',drawn:=d',toks:=t' }:=by
 have neL:∀b o,X.s₀.heap.get? b=some o->b≠X.env.locals:=λb o e=>Nat.ne_of_lt (Nat.lt_of_lt_of_le (Heap.lt_size e) I.ok.above);have neC:∀b o,X.s₀.heap.get? b=some o->b∉X.ex->b∉ch:=λb o e hx hb=>by
  rcases (hch b hb).1 with z|z
  ·exact hx z
  ·exact absurd (Nat.lt_of_lt_of_le (Heap.lt_size e) z) (Nat.lt_irrefl _)
 have cellK:∀x c,X.env.cells.lookup x=some c->∀v,s.heap.IsCell c v->h'.IsCell c v:=λx c e v ⟨o,ho,hd⟩=>by
  have nch:c∉ch:=λz=>(hch c z).2.2.1 x c e rfl;by_cases hc:c∈X.fs
  ·obtain⟨sl,q⟩:=slot c o (I.cne x c e) hc nch ho (I.freeC x c e);exact⟨_,q,hd⟩
  ·exact⟨o,keep c o (I.cne x c e) hc nch ho (I.freeC x c e),hd⟩
 refine⟨I.ok,I.os,hg,⟨λb o e n hb hx=>?_,λb o e n hb hx=>?_,λb o e n hx=>?_,λb o e hx=>?_,λb xs e=>tups b xs (I.base.tups b xs e),λb o xs e=>frzs b o xs (I.base.frzs b o xs e),λb ps e=>?_⟩,?_,λx c e=>?_,?_,λx c e=>?_,λp hp=>?_,hok,I.len⟩
 ·exact keep b o (neL b o e) hb (neC b o e hx) (I.base.keep b o e n hb hx) (I.base.free b o e n hx)
 ·obtain⟨sl,e1⟩:=I.base.slot b o e n hb hx;obtain⟨sl',e2⟩:=slot b _ (neL b o e) hb (neC b o e hx) e1 (I.base.free b o e n hx);exact⟨sl',e2⟩
 ·obtain⟨o',e1⟩:=I.base.there b o e hx;exact free b o' (neC b o e hx) e1 (I.base.free b o e n hx)
 ·obtain⟨o',e1⟩:=I.base.there b o e hx;exact there b o' (neC b o e hx) e1
 ·exact tbls b _ (I.base.tbls b ps e)
 ·obtain⟨m,hn,hl⟩:=I.loc;refine⟨m,ns m hn,λi x v e1 e2 e3=>?_⟩;obtain⟨u,r,l⟩:=hl i x v e1 e2 e3;refine⟨u,r,?_⟩;rcases l with l|⟨k,c,e,z⟩
  ·exact .inl l
  ·exact .inr ⟨k,c,e,cellK x c e _ z⟩
 ·obtain⟨v,z⟩:=I.cell x c e;exact⟨v,cellK x c e v z⟩
 ·obtain⟨m,⟨o,_,_,ho,_⟩,_⟩:=I.loc;exact free _ o (λz=>(hch _ z).2.1 rfl) ho I.free
 ·obtain⟨v,o,ho,hd⟩:=I.cell x c e;exact free c o (λz=>(hch c z).2.2.1 x c e rfl) ho (I.freeC x c e)
 ·obtain⟨e,n,ne,nf,d⟩:=I.pin p hp;have nch:p.1∉ch:=λz=>(hch p.1 z).2.2.2 p hp rfl;exact⟨keep p.1 p.2 ne nf nch e n,free p.1 p.2 nch e n,ne,nf,d⟩
theorem Inv.un {t':Nat}(I:Inv X pins σ H s)(u:Un X.fs [] H H' s.heap h')(hok:HOk X.prog X.w H' h'):Inv X pins σ H' { s with heap:=h',toks:=t' }:=by
 obtain⟨m,⟨o,es,ep,ho,r⟩,_⟩:=id I.loc;obtain⟨sl,hL⟩:=u.any ho I.free (by simp);exact I.step (g':=s.gens) (d':=s.drawn) (ch:=[]) (λ_ z=>nomatch z) (λb o _ hb _ e n=>u.keep b o e n hb (by simp)) (λb o _ hb _ e n=>u.slot b o e n hb (by simp)) (λb o _ e n=>u.free b o e n (by simp)) (λb o _ e=>u.there b o e (by simp)) u.tups u.frzs u.tbls (λm' hm=>by
  obtain⟨o',es',ep',ho',r'⟩:=hm;rw[ho]at ho';cases ho';exact⟨_,es',ep',hL,r'⟩) hok I.bare
theorem Inv.call {g':Array GenState}{t':Nat}{d':Drawn}{ch:List Addr}(I:Inv X pins σ H s)(u:Un (frs X.stack) ch H H' s.heap h')(hok:HOk X.prog X.w H' h')(hg:AllBare g')
  (hch:∀b∈ch,(b∈X.ex∨X.s₀.heap.objs.size<=b)/\b≠X.env.locals/\(∀x c,X.env.cells.lookup x=some c->c≠b)/\∀p∈X.pn++pins,p.1≠b):
  Inv X pins σ H' { s with heap:=h',gens:=g',drawn:=d',toks:=t' }:=by
 obtain⟨m,⟨o,es,ep,ho,r⟩,_⟩:=id I.loc;obtain⟨sl,hL⟩:=u.any ho I.free λz=>(hch _ z).2.1 rfl;exact I.step (ch:=ch) hch (λb o hL hb hc e n=>u.keep b o e n (λz=>(List.mem_cons.mp (I.stkSub b z)).elim hL hb) hc) (λb o _ _ hc e n=>u.any e n hc) (λb o hc e n=>u.free b o e n hc) (λb o hc e=>u.there b o e hc) u.tups u.frzs u.tbls (λm' hm=>by
  obtain⟨o',es',ep',ho',r'⟩:=hm;rw[ho]at ho';cases ho';exact⟨_,es',ep',hL,r'⟩) hok hg
theorem Inv.turned {t':Nat}{it:Addr}(I:Inv X pins σ H s)(k:∀b o,b≠it->s.heap.get? b=some o->h'.get? b=some o)(hn:H it=none)(hL:it≠X.env.locals)
  (h1:it∈X.ex∨X.s₀.heap.objs.size<=it) (h2:∀x c,X.env.cells.lookup x=some c->c≠it) (h3:∀p∈X.pn++pins,p.1≠it):Inv X pins σ H { s with heap:=h',toks:=t' }:=by
 have nit:∀b u,H b=some u->b≠it:=λb u e z=>by rw[z,hn]at e;cases e
 refine I.step (g':=s.gens) (d':=s.drawn) (ch:=[it]) (λb hb=>?_) (λb o _ _ hc e _=>k b o (λz=>hc (by simp[z])) e) (λb o _ _ hc e _=>⟨o.slots,k b o (λz=>hc (by simp[z])) e⟩) (λ_ _ _ _ n=>n)
  (λb o hc e=>⟨o,k b o (λz=>hc (by simp[z])) e⟩) (λ_ _ e=>e) (λ_ _ _ e=>e) (λ_ _ e=>e) (λm hm=>?_) (λb u e=>?_) I.bare
 ·have e:b=it:=by simpa using hb
  subst e;exact⟨h1,hL,h2,h3⟩
 ·obtain⟨o,es,ep,ho,r⟩:=hm;exact⟨o,es,ep,k _ o (Ne.symm hL) ho,r⟩
 ·refine(I.hok b u e).stay (λc v hc q=>k c v ?_ q) (λ_ q=>q) (λ_ _ q=>q) λ_ _ _ q=>q;rcases hc with z|z
  ·rw[z];exact nit b u e
  ·exact nit c _ z
theorem Inv.tok (I:Inv X pins σ H s)(t:Nat):Inv X pins σ H { s with toks:=t }:=I.un (h':=s.heap) (t':=t) Un.refl I.hok
theorem Inv.kept {t':Nat}(I:Inv X pins σ H s)(k:∀b u,s.heap.get? b=some u->h'.get? b=some u):Inv X pins σ H { s with heap:=h',toks:=t' }:=I.un (Un.kept k) (I.hok.kept k)
theorem Inv.laid {a:Addr}{o:HO}{t':Nat}(I:Inv X pins σ H s)(k:∀b u,s.heap.get? b=some u->h'.get? b=some u)(hp:s.heap.objs.size<=a)(new:bz X.prog X.w (upd H a o) h' a o):
  Inv X pins σ (upd H a o) { s with heap:=h',toks:=t' }:=I.un (Un.laid k hp (I.hok.fresh hp)) (I.hok.laid k hp new)
theorem Inv.write {x e:Addr}{o:HO}{t':Nat}(I:Inv X pins σ H s)(mu:Mut (H x))(he:e=x∨H e=some (.own x))(k:∀b u,b≠e->s.heap.get? b=some u->h'.get? b=some u)(heo:∃u,h'.get? e=some u)
  (new:bz X.prog X.w (upd H x o) h' x o):Inv X pins σ (upd H x o) { s with heap:=h',toks:=t' }:=I.un (Un.write mu he k heo) (I.hok.write mu he k heo new)
theorem Inv.pins_of {pins':List (Addr×Obj)}(I:Inv X pins σ H s)(h:∀p∈pins',s.heap.get? p.1=some p.2/\H p.1=none/\p.1≠X.env.locals/\p.1∉X.fs/\∀v,p.2.data≠.cell v):Inv X pins' σ H s :=
 ⟨I.ok,I.os,I.bare,I.base,I.loc,I.cell,I.free,I.freeC,λp hp=>(List.mem_append.mp hp).elim (λz=>I.pin p (List.mem_append_left _ z)) (h p),I.hok,I.len⟩
theorem r6 {N:List Str}(hN:N.Nodup){i j:Nat}{x:Str}(a:N[i]? = some x)(b:N[j]? = some x):i=j:=by
 obtain⟨h1,e1⟩:=List.getElem?_eq_some_iff.mp a;obtain⟨h2,e2⟩:=List.getElem?_eq_some_iff.mp b;exact(List.getElem_inj hN).mp (e1.trans e2.symm)
theorem o6 {M:Model}{A:Around}{E:Value->Shared->Prop}{i:Nat}{x:Str}{v:V}{u:Value}{Q:Unit->Shared->Prop}(I:Inv X pins σ H s)(hN:X.N.Nodup)(hi:X.N[i]? = some x)(hx:Loc X.env.scope x)(r:aS v u)
  (h:∀s',Inv X pins (σ.set i (some v)) H s'->(∃a,Heap.SameBut a s.heap s'.heap/\(a=X.env.locals∨X.env.cells.lookup x=some a))->Q () s') (hf:X.fn x=true∨X.env.scope.names.lookup x=some .local:=by first|exact .inl rfl|exact .inr rfl|assumption):wpAny M A (storeName X.env x u) Q E s:=by
 obtain⟨m,hn,hl⟩:=id I.loc;have hcls:(X.env.scope.kind == .class || (X.env.scope.kind == .module && X.env.locals != X.env.globals))=false:=by rw[I.ok.kind];rfl
 have hiσ:i<σ.length:=by rw[I.len];exact(List.getElem?_eq_some_iff.mp hi).1
 have cne:=I.cne;have tracked:∀ {a:Addr}{h':Heap},(∃o,s.heap.get? a=some o/\H a=none)->Heap.SameBut a s.heap h'->HOk X.prog X.w H h':=λ{a h'} ha hs b ob e=>by
  obtain⟨_,_,hfree⟩:=ha;refine(I.hok b ob e).stay (λc w' hc q=>(hs.2 c ?_).trans q) (λ_ q=>q) (λ_ _ q=>q) λ_ _ _ q=>q;rintro rfl;rcases hc with rfl|hc
  ·rw[hfree]at e;cases e
  ·rw[hfree]at hc;cases hc
 rcases hx with hk|hk
 ·refine wpAny_storeName_local hk hn (λh' hn' hs=>?_) hcls;obtain⟨oL,_,_,hoL,_⟩:=id hn;refine h _ ⟨I.ok,I.os,I.bare,⟨λb o e n hb hx=>?_,λb o e n hb hx=>?_,I.base.free,λb o e hx=>?_,I.base.tups,I.base.frzs,I.base.tbls⟩,⟨_,hn',λj y v' e1 e2 e3=>?_⟩,λy c e=>?_,I.free,I.freeC,λp hp=>?_,tracked ⟨oL,hoL,I.free⟩ hs,by simpa using I.len⟩ ⟨_,hs,.inl rfl⟩
  ·exact(hs.2 b (Nat.ne_of_lt (Nat.lt_of_lt_of_le (Heap.lt_size e) I.ok.above))).trans (I.base.keep b o e n hb hx)
  ·obtain⟨sl,e1⟩:=I.base.slot b o e n hb hx;exact⟨sl,(hs.2 b (Nat.ne_of_lt (Nat.lt_of_lt_of_le (Heap.lt_size e) I.ok.above))).trans e1⟩
  ·obtain⟨o',e1⟩:=I.base.there b o e hx;exact⟨o',(hs.2 b (Nat.ne_of_lt (Nat.lt_of_lt_of_le (Heap.lt_size e) I.ok.above))).trans e1⟩
  ·by_cases hj:j=i
   ·subst hj;rw[hi]at e1;cases e1;rw[List.getElem?_set_self hiσ]at e2;cases e2
    exact⟨u,r,.inl ⟨hk,by simp⟩⟩
   ·rw[List.getElem?_set_ne (Ne.symm hj)]at e2;obtain⟨u',r',q⟩:=hl j y v' e1 e2 e3;refine⟨u',r',?_⟩;rcases q with⟨k,e⟩|⟨k,c,e,z⟩
    ·refine .inl ⟨k,?_⟩;have:y≠x:=λe=>hj (r6 hN e1 (e ▸ hi));simp[this,e]
    ·exact .inr ⟨k,c,e,z.sameBut hs (cne y c e)⟩
  ·obtain⟨w',z⟩:=I.cell y c e;exact⟨w',z.sameBut hs (cne y c e)⟩
  ·obtain⟨e,n,ne,nf,d⟩:=I.pin p hp;exact⟨(hs.2 p.1 ne).trans e,n,ne,nf,d⟩
 ·have hfn:X.fn x=true:=by
   rcases hf with z|z
   ·exact z
   ·rw[z]at hk;cases hk
  obtain⟨c,hc⟩:=I.ok.has x (.inl hk);obtain⟨w',z⟩:=I.cell x c hc;refine wpAny_storeName_cell I.ok.kind hk hc z (λh' hc' hs=>?_);obtain⟨oc,hoc,hocd⟩:=id z;refine h { s with heap:=h' } ⟨I.ok,I.os,I.bare,⟨λb o e n hb hx=>?_,λb o e n hb hx=>?_,I.base.free,λb o e hx=>?_,I.base.tups,I.base.frzs,I.base.tbls⟩,⟨m,hn.sameBut hs (Ne.symm (cne x c hc)),λj y v' e1 e2 e3=>?_⟩,λy c' e=>?_,I.free,I.freeC,λp hp=>?_,tracked ⟨oc,hoc,I.freeC x c hc⟩ hs,by simpa using I.len⟩ ⟨c,hs,.inr hc⟩
  ·exact(hs.2 b (Nat.ne_of_lt (Nat.lt_of_lt_of_le (Heap.lt_size e) (I.ok.cab x c hfn hc)))).trans (I.base.keep b o e n hb hx)
  ·obtain⟨sl,e1⟩:=I.base.slot b o e n hb hx;exact⟨sl,(hs.2 b (Nat.ne_of_lt (Nat.lt_of_lt_of_le (Heap.lt_size e) (I.ok.cab x c hfn hc)))).trans e1⟩
  ·obtain⟨o',e1⟩:=I.base.there b o e hx;exact⟨o',(hs.2 b (Nat.ne_of_lt (Nat.lt_of_lt_of_le (Heap.lt_size e) (I.ok.cab x c hfn hc)))).trans e1⟩
  ·by_cases hj:j=i
   ·subst hj;rw[hi]at e1;cases e1;rw[List.getElem?_set_self hiσ]at e2;cases e2
    exact⟨u,r,.inr ⟨.inl hk,c,hc,hc'⟩⟩
   ·rw[List.getElem?_set_ne (Ne.symm hj)]at e2;obtain⟨u',r',q⟩:=hl j y v' e1 e2 e3;refine⟨u',r',?_⟩;rcases q with q|⟨k,c',e,z'⟩
    ·exact .inl q
    ·refine .inr ⟨k,c',e,z'.sameBut hs ?_⟩;rintro rfl;exact hj (r6 hN e1 (I.ok.inj _ _ _ e hc ▸ hi))
  ·by_cases hcc:c'=c
   ·subst hcc;exact⟨_,hc'⟩
   ·obtain⟨w2,z2⟩:=I.cell y c' e;exact⟨w2,z2.sameBut hs hcc⟩
  ·obtain⟨e,n,ne,nf,d⟩:=I.pin p hp;refine⟨(hs.2 p.1 ?_).trans e,n,ne,nf,d⟩;intro q;rw[q,hoc]at e;have q':oc=p.2:=Option.some.inj e;exact d w' (by rw[←q'];exact hocd)
theorem r9 {M:Model}{A:Around}{E:Value->Shared->Prop}{i:Nat}{x:Str}{v:V}{u:Value}{Q:Unit->Shared->Prop}(I:Inv X pins σ H s)(hN:X.N.Nodup)(hi:X.N[i]? = some x)(hx:Loc X.env.scope x)(r:aS v u)
  (h:∀s',Inv X pins (σ.set i (some v)) H s'->Q () s') (hf:X.fn x=true∨X.env.scope.names.lookup x=some .local:=by first|exact .inl rfl|exact .inr rfl|assumption):wpAny M A (storeName X.env x u) Q E s :=
 o6 I hN hi hx r (λs' I' _=>h s' I') hf
theorem Inv.call' {s':Shared}{ch:List Addr}(I:Inv X pins σ H s)(ho:s'.os=s.os)(u:Un (frs X.stack) ch H H' s.heap s'.heap)(hok:HOk X.prog X.w H' s'.heap)(hg:AllBare s'.gens)
  (hch:∀b∈ch,(b∈X.ex∨X.s₀.heap.objs.size<=b)/\b≠X.env.locals/\(∀x c,X.env.cells.lookup x=some c->c≠b)/\∀p∈X.pn++pins,p.1≠b):Inv X pins σ H' s':=by
 obtain⟨h',g',d',t',o'⟩:=s';have e:o'=s.os:=ho;subst e;exact I.call (g':=g') (t':=t') (d':=d') u hok hg hch
end
abbrev XK:=Value->Option Addr->Hp->Prop
abbrev St:=List (Option V)
abbrev VK:=V->Hp->Prop
abbrev TE:=St->Hp->VK->Prop
abbrev TT:=St->Hp->(Bool->Hp->Prop)->Prop
abbrev TA:=St->Hp->(List V->Hp->Prop)->Prop
structure Ends where
 nx:St->Hp->Prop
 rt:VK
 bk:St->Hp->Prop:=λ_ _=>False
 ct:St->Hp->Prop:=λ_ _=>False
abbrev TS:=Ends->St->Hp->Prop
def EP (X:Cx)(pins:List (Addr×Obj))(σ:St)(Q:VK)(u:Value)(s':Shared):Prop:=∃v H',Inv X pins σ H' s'/\aS v u/\Q v H'
def TP (X:Cx)(pins:List (Addr×Obj))(σ:St)(Q:Bool->Hp->Prop)(b:Bool)(s':Shared):Prop:=∃H',Inv X pins σ H' s'/\Q b H'
def AP (X:Cx)(pins:List (Addr×Obj))(σ:St)(Q:List V->Hp->Prop)(us:List Value)(s':Shared):Prop:=∃vs H',Inv X pins σ H' s'/\aT vs us/\Q vs H'
def SP (X:Cx)(pins:List (Addr×Obj))(D:Ends)(f:Flow)(s':Shared):Prop :=
 match f with
 |.next=>∃σ' H',Inv X pins σ' H' s'/\D.nx σ' H'
 |.brk=>∃σ' H',Inv X pins σ' H' s'/\D.bk σ' H'
 |.cont=>∃σ' H',Inv X pins σ' H' s'/\D.ct σ' H'
 |.ret u=>∃v σ' H',Inv X pins σ' H' s'/\aS v u/\D.rt v H'
def PE (X:Cx)(e:Expr)(t:TE):Prop :=
 ∀(pins:List (Addr×Obj))(s:Shared)(σ:St)(H:Hp)(Q:VK),Inv X pins σ H s->t σ H Q->wpAny (model X.prog X.w) X.A (eval e X.env) (EP X pins σ Q) X.xe s
def PT (X:Cx)(e:Expr)(t:TT):Prop :=
 ∀(pins:List (Addr×Obj))(s:Shared)(σ:St)(H:Hp)(Q:Bool->Hp->Prop),Inv X pins σ H s->t σ H Q->wpAny (model X.prog X.w) X.A (isTrue e X.env (eval e X.env)) (TP X pins σ Q) X.xe s
def PW (X:Cx)(e:Expr)(t:TT):Prop :=
 ∀(whole:Sem Value)(pins:List (Addr×Obj))(s:Shared)(σ:St)(H:Hp)(Q:Bool->Hp->Prop),Inv X pins σ H s->t σ H Q->wpAny (model X.prog X.w) X.A (isTrue e X.env whole) (TP X pins σ Q) X.xe s
theorem PW.pt {X:Cx}{e:Expr}{t:TT}(h:PW X e t):PT X e t:=h _
def PA (X:Cx)(es:List Expr)(t:TA):Prop :=
 ∀(pos:Pos)(pins:List (Addr×Obj))(s:Shared)(σ:St)(H:Hp)(Q:List V->Hp->Prop),Inv X pins σ H s->t σ H Q->wpAny (model X.prog X.w) X.A (spliced (backTo pos (starEach es X.env))) (AP X pins σ Q) X.xe s
def PS (X:Cx)(st:Stmt)(t:TS):Prop :=
 ∀(pins:List (Addr×Obj))(s:Shared)(σ:St)(H:Hp)(D:Ends),Inv X pins σ H s->t D σ H->wpAny (model X.prog X.w) X.A (exec st X.env) (SP X pins D) X.xe s
def PSs (X:Cx)(st:List Stmt)(t:TS):Prop :=
 ∀(pins:List (Addr×Obj))(s:Shared)(σ:St)(H:Hp)(D:Ends),Inv X pins σ H s->t D σ H->wpAny (model X.prog X.w) X.A (execs st X.env) (SP X pins D) X.xe s
theorem thn {α:Type}{t:Sem α}{Q Q':α->Shared->Prop}{M:Model}{A:Around}{E:Value->Shared->Prop}{s:Shared}(h:wpAny M A t Q E s)(hQ:∀a s,Q a s->Q' a s):wpAny M A t Q' E s:=wpAny_mono h hQ λ_ _ x=>x
section
variable {X:Cx}
theorem bin {a b:Expr}{ta tb:TE}(ha:PE X a ta)(hb:PE X b tb){pins:List (Addr×Obj)}{s:Shared}{σ:St}{H:Hp}{R:V->V->Hp->Prop}(I:Inv X pins σ H s)(h:ta σ H λx H1=>tb σ H1 λy H2=>R x y H2)
  {α:Type}{Q:α->Shared->Prop}{f:Value->Value->Sem α}
  (hf:∀v u s2 x y H2,Inv X pins σ H2 s2->aS x v->aS y u->R x y H2->wpAny (model X.prog X.w) X.A (f v u) Q X.xe s2):
  wpAny (model X.prog X.w) X.A (eval a X.env) (λv s₁=>wpAny (model X.prog X.w) X.A (eval b X.env) (λu s₂=>wpAny (model X.prog X.w) X.A (f v u) Q X.xe s₂) X.xe s₁) X.xe s:=by
 refine thn (ha pins s σ H _ I h) λv s1 ⟨x,H1,I1,r1,q1⟩=>?_;refine thn (hb pins s1 σ H1 _ I1 q1) λu s2 ⟨y,H2,I2,r2,q2⟩=>?_;exact hf v u s2 x y H2 I2 r1 r2 q2
def DO (i:Nat):TE:=λσ H Q=>∃v,σ[i]? = some (some v)/\Q v H
def tC (v:V):TE:=λ_ H Q=>Q v H
theorem lK {i:Nat}{x:Str}{pos:Pos}(hN:X.N[i]? = some x)(hv:Vis X.env.scope x)(hd:(x == ("__debug__" : Str))=false:=by decide)(hcd:(x == ("__classdict__" : Str))=false:=by decide):PE X (.Name x pos) (DO i):=by
 intro pins s σ H Q I h;obtain⟨v,e,h⟩:=h;obtain⟨m,hn,hl⟩:=I.loc;obtain⟨u,r,l⟩:=hl i x v hN e hv;have fin:EP X pins σ Q u s:=⟨v,H,I,r,h⟩;rcases l with⟨hk,hm⟩|⟨hk,c,hc,hcell⟩
 ·exact wpAny_Name (wpAny_loadName_local I.ok.kind hk hn hm fin) hd
 ·rcases hk with hk|hk
  ·exact wpAny_Name (wpAny_loadName_cell I.ok.kind hk hc hcell fin) hd
  ·exact wpAny_Name (wpAny_loadName_free I.ok.kind hk hc hcell fin hcd) hd
theorem DP {i j pos}:PE X (.Constant (.int i) j pos) (tC (.int i)):=λ_ _ _ H _ I h=>wpAny_Constant_int ⟨.int i,H,I.tok _,⟨_,rfl⟩,h⟩
theorem FC {b j pos}:PE X (.Constant (.bool b) j pos) (tC (.bl b)):=λ_ _ _ H _ I h=>Constant_bool ⟨.bl b,H,I,rfl,h⟩
theorem DQ {j pos}:PE X (.Constant .none j pos) (tC .non):=λ_ _ _ H _ I h=>Constant_none ⟨.non,H,I,rfl,h⟩
theorem DR {x j pos}:PE X (.Constant (.str x) j pos) (tC (.str x)):=λ_ _ _ H _ I h=>Calls.Constant_str ⟨.str x,H,I.tok _,⟨_,rfl⟩,h⟩
def Gl (X:Cx)(x:Str):Prop:=X.env.kindOf x=some .globalImplicit
theorem pK {E:Value->Shared->Prop}{pins:List (Addr×Obj)}{s:Shared}{σ:St}{H:Hp}{x:Str}{u:Value}{pos:Pos}{Q:Value->Shared->Prop}(I:Inv X pins σ H s)(hg:Gl X x)(hm:X.mg x=some u)(h:Q u s)
  (hd:(x == ("__debug__" : Str))=false:=by decide):wpAny (model X.prog X.w) X.A (eval (.Name x pos) X.env) Q E s :=
 Calls.Name_function_global I.ok.kind hg (Calls.loadGlobal_global (by rw[I.ok.glob];exact I.mod.glob.keeps I.bk) hm h) hd
theorem ia {E:Value->Shared->Prop}{pins:List (Addr×Obj)}{s:Shared}{σ:St}{H:Hp}{x:Str}{u:Value}{pos:Pos}{Q:Value->Shared->Prop}(I:Inv X pins σ H s)(hg:Gl X x)(hm:X.mg x=none)(hv:bootBuiltins x=some u)(h:Q u s)
  (hn:x ≠ "__name__":=by decide) (hd:(x == ("__debug__" : Str))=false:=by decide):wpAny (model X.prog X.w) X.A (eval (.Name x pos) X.env) Q E s:=by
 obtain⟨mb,h1,h2⟩:=I.mod.blt;exact Calls.Name_function_global I.ok.kind hg (Calls.loadGlobal_builtin (by rw[I.ok.glob];exact I.mod.glob.keeps I.bk) hm (by rw[I.ok.blt];exact h1.keeps I.bk) ((h2 x hn).trans hv) h) hd
theorem vN {x:Str}{v:V}{u:Value}{pos:Pos}(hg:Gl X x)(hm:X.mg x=some u)(r:aS v u)(hd:(x == ("__debug__" : Str))=false:=by decide):PE X (.Name x pos) (tC v) :=
 λ_ _ _ H _ I h=>pK I hg hm ⟨v,H,I,r,h⟩ hd
theorem Bh {x:Str}{v:V}{u:Value}{pos:Pos}(hg:Gl X x)(hm:X.mg x=none)(hv:bootBuiltins x=some u)(r:aS v u)(hn:x ≠ "__name__":=by decide)(hd:(x == ("__debug__" : Str))=false:=by decide):PE X (.Name x pos) (tC v) :=
 λ_ _ _ H _ I h=>ia I hg hm hv ⟨v,H,I,r,h⟩ hn hd
def t2I (ta tb:TE)(k:Int->Int->Hp->Prop):St->Hp->Prop:=λσ H=>ta σ H λx H1=>tb σ H1 λy H2=>∃i j,x=.int i/\y=.int j/\k i j H2
variable {a b:Expr}{ta tb:TE}{pos:Pos}
def PC (X:Cx)(op:CmpOp)(a b:Expr)(t:TE):Prop :=
 ∀(pins:List (Addr×Obj))(s:Shared)(σ:St)(H:Hp)(Q:VK),Inv X pins σ H s->t σ H Q ->
  wpAny (model X.prog X.w) X.A (eval a X.env) (λv s₁=>wpAny (model X.prog X.w) X.A (eval b X.env) (λu s₂=>wpAny (model X.prog X.w) X.A (compareOp op v u) (EP X pins σ Q) X.xe s₂) X.xe s₁) X.xe s
theorem lL (b:Expr){op:CmpOp}(h:op≠.In)(h2:op≠.NotIn):behindInMarks op b=false:=by
 have e1:(op == CmpOp.In)=false:=by cases op<;>first|rfl|exact absurd rfl h
 have e2:(op == CmpOp.NotIn)=false:=by cases op<;>first|rfl|exact absurd rfl h2
 cases b<;>simp[behindInMarks,e1,e2]
def FD (p:Int->Int->Bool)(ta tb:TE):TE:=λσ H Q=>t2I ta tb (λi j H2=>Q (.bl (p i j)) H2) σ H
noncomputable abbrev tLt:TE->TE->TE:=FD λi j=>decide (i<j)
noncomputable abbrev tGt:TE->TE->TE:=FD λi j=>decide (j<i)
def tB (t:TE):TT:=λσ H Q=>t σ H λx H1=>∃c,x=.bl c/\Q c H1
theorem Hi {op:CmpOp}{t:TE}(h:PC X op a b t)(h1:behindInMarks op b=false:=by first|exact lL _ (by decide) (by decide)|rfl):PT X (.Compare a [op] [b] pos) (tB t):=by
 intro pins s σ H Q I hw;refine wpAny_isTrue_Compare1 (thn (h pins s σ H _ I hw) λv s1 h1=>thn h1 λu s2 h2=>thn h2 λc s3 ⟨x,H1,I1,r1,q1⟩=>?_) h1;obtain⟨d,rfl,q⟩:=q1;cases r1
 exact wpAny_truthy_bool ⟨H1,I1,q⟩
theorem DS {e:Expr}{t:TE}(h:PE X e t)(he:∀whole,isTrue e X.env whole=(do let v ←whole;standAt e.pos;holding [v] (truthy v)):=by intro _;rfl):PT X e (tB t):=by
 intro pins s σ H Q I hw;refine isTrue_plain (thn (h pins s σ H _ I hw) λv s1 ⟨x,H1,I1,r1,q1⟩=>?_) (he _);obtain⟨d,rfl,q⟩:=q1;cases r1
 exact wpAny_truthy_bool ⟨H1,I1,q⟩
variable {tA tB':TT}{au:List Expr}
def FF (t u:TT):TT:=λσ H Q=>t σ H λc H1=>if c=true then u σ H1 Q else Q false H1
def tOr (t u:TT):TT:=λσ H Q=>t σ H λc H1=>if c=true then Q true H1 else u σ H1 Q
def FH (t:TT):TT:=λσ H Q=>t σ H λc H1=>Q (!c) H1
theorem Bi (ha:PT X a tA):PW X (.BoolOp .And [a] pos) tA:=by
 intro wh pins s σ H Q I h;refine isTrue_and (thn (ha pins s σ H Q I h) λc s1 e=>?_);cases c with
 |true=>exact isTrue_and_nil e
 |false=>exact e
theorem DT (ha:PT X a tA):PW X (.BoolOp .Or [a] pos) tA:=by
 intro wh pins s σ H Q I h;refine isTrue_or (thn (ha pins s σ H Q I h) λc s1 e=>?_);cases c with
 |false=>exact isTrue_or_nil e
 |true=>exact e
theorem DU (ha:PT X a tA)(hb:PW X (.BoolOp .And (b::au) pos) tB'):PW X (.BoolOp .And (a::b::au) pos) (FF tA tB'):=by
 intro wh pins s σ H Q I h;refine isTrue_and (thn (ha pins s σ H _ I h) λc s1 ⟨H1,I1,q1⟩=>?_);cases c with
 |true=>exact hb wh pins s1 σ H1 Q I1 q1
 |false=>exact⟨H1,I1,q1⟩
theorem FI (ha:PT X a tA)(hb:PW X (.BoolOp .Or (b::au) pos) tB'):PW X (.BoolOp .Or (a::b::au) pos) (tOr tA tB'):=by
 intro wh pins s σ H Q I h;refine isTrue_or (thn (ha pins s σ H _ I h) λc s1 ⟨H1,I1,q1⟩=>?_);cases c with
 |true=>exact⟨H1,I1,q1⟩
 |false=>exact hb wh pins s1 σ H1 Q I1 q1
theorem DV (ha:PT X a tA):PT X (.UnaryOp .Not a pos) (FH tA):=by
 intro pins s σ H Q I h;exact isTrue_not (ha pins s σ H (λc H1=>Q (!c) H1) I h)
def FJ (ta tb:TE):TE:=λσ H Q=>ta σ H λx H1=>∃c,x=.bl c/\if c=true then tb σ H1 Q else Q (.bl false) H1
def Hj (ta tb:TE):TE:=λσ H Q=>ta σ H λx H1=>∃c,x=.bl c/\if c=true then Q (.bl true) H1 else tb σ H1 Q
theorem DW {op}{t:TE}(h:PE X a t):PE X (.BoolOp op [a] pos) t:=λpins s σ H Q I hw=>BoolOp_one (h pins s σ H Q I hw)
theorem DX (ha:PE X a ta)(hb:PE X (.BoolOp .And (b::au) pos) tb):PE X (.BoolOp .And (a::b::au) pos) (FJ ta tb):=by
 intro pins s σ H Q I h;refine BoolOp_and (thn (ha pins s σ H _ I h) λv s1 ⟨x,H1,I1,r1,q1⟩=>?_);obtain⟨c,rfl,q1⟩:=q1;cases r1
 refine wpAny_truthy_bool ?_;cases c with
 |true=>exact hb pins s1 σ H1 Q I1 q1
 |false=>exact⟨.bl false,H1,I1,rfl,q1⟩
theorem FK (ha:PE X a ta)(hb:PE X (.BoolOp .Or (b::au) pos) tb):PE X (.BoolOp .Or (a::b::au) pos) (Hj ta tb):=by
 intro pins s σ H Q I h;refine BoolOp_or (thn (ha pins s σ H _ I h) λv s1 ⟨x,H1,I1,r1,q1⟩=>?_);obtain⟨c,rfl,q1⟩:=q1;cases r1
 refine wpAny_truthy_bool ?_;cases c with
 |false=>exact hb pins s1 σ H1 Q I1 q1
 |true=>exact⟨.bl true,H1,I1,rfl,q1⟩
end
def SqL (K:PySem.W.Frag)(H:Hp)(a:Addr)(xs:List V):Prop :=
 Rd H a (.lst xs) ∨
  ∃(o:Obj)(its:Array Value)(n:Nat),K.lookup a=some o/\o.cls=.type "list"/\o.dict=none/\o.data=.seq its n/\its.size<=sizeLine/\aT xs its.toList
def SqT (K:PySem.W.Frag)(H:Hp)(a:Addr)(xs:List V):Prop :=
 Rd H a (.tup xs) ∨
  ∃(o:Obj)(its:Array Value)(n:Nat),K.lookup a=some o/\o.cls=.type "tuple"/\o.data=.seq its n/\its.size<=sizeLine/\aT xs its.toList
noncomputable def Hk:Value->Option V
 |.none=>some .non
 |.bool b=>some (.bl b)
 |.int i _=>some (.int i)
 |.str x _=>some (.str x)
 |.bytes b _=>some (.byt b)
 |.float b _=>some (.flt b)
 |.ref a=>some (.ref a)
 |.type n=>some (.ty n)
 |_=>none
theorem aS.abs {x:V}{u:Value}(r:aS x u):Hk u=some x:=by
 cases x with
 |non=>cases r;rfl
 |bl _=>cases r;rfl
 |int _=>obtain⟨t,rfl⟩:=r;rfl
 |str _=>obtain⟨t,rfl⟩:=r;rfl
 |byt _=>obtain⟨t,rfl⟩:=r;rfl
 |flt _=>obtain⟨t,rfl⟩:=r;rfl
 |ref _=>cases r;rfl
 |ty _=>cases r;rfl
theorem aS.inj {x y:V}{u:Value}(r:aS x u)(q:aS y u):x=y:=Option.some.inj (r.abs.symm.trans q.abs)
theorem aT.inj:∀ {xs ys:List V}{us:List Value},aT xs us->aT ys us->xs=ys
 |_,_,_,.nil,.nil=>rfl
 |_,_,_,.cons r t,.cons r' t'=>by rw[r.inj r',aT.inj t t']
section
variable {X:Cx}{pins:List (Addr×Obj)}{σ:St}{H:Hp}{s:Shared}{a:Addr}{xs ys:List V}
theorem SqL.of {K:PySem.W.Frag}(h:H a=some (.lst xs)):SqL K H a xs:=.inl (.inl h)
theorem SqT.of {K:PySem.W.Frag}(h:H a=some (.tup xs)):SqT K H a xs:=.inl (.inl h)
theorem Inv.list (I:Inv X pins σ H s)(h:SqL X.K H a xs):∃its:List Value,aT xs its/\PlainL s.heap a its.toArray/\xs.length<=sizeLine:=by
 rcases h with h|⟨o,its,n,hk,hc,hd,hs,hz,r⟩
 ·obtain⟨z,its,n,r,e⟩:=h.ok I.hok;exact⟨its,r,⟨_,n,e,rfl,rfl,rfl⟩,z⟩
 ·refine⟨its.toList,r,⟨o,n,I.kIn a o hk,hc,hd,by simpa using hs⟩,?_⟩;have e:=r.length;simp only[Array.length_toList]at e;omega
theorem Inv.tuple (I:Inv X pins σ H s)(h:SqT X.K H a xs):∃its:List Value,aT xs its/\IsTup s.heap a its.toArray/\xs.length<=sizeLine:=by
 rcases h with h|⟨o,its,n,hk,hc,hs,hz,r⟩
 ·obtain⟨z,its,r,p⟩:=h.ok I.hok;exact⟨its,r,p,z⟩
 ·refine⟨its.toList,r,⟨o,I.kIn a o hk,hc,n,by simpa using hs⟩,?_⟩;have e:=r.length;simp only[Array.length_toList]at e;omega
theorem Inv.list_inj (I:Inv X pins σ H s)(h:SqL X.K H a xs)(h':SqL X.K H a ys):xs=ys:=by
 obtain⟨its,r,⟨o,n,e,_,_,d⟩,_⟩:=I.list h;obtain⟨its',r',⟨o',n',e',_,_,d'⟩,_⟩:=I.list h';rw[e]at e';cases e';rw[d]at d';injection d' with d1 _;have:its=its':=by simpa using congrArg Array.toList d1
 subst this;exact r.inj r'
theorem Inv.tuple_inj (I:Inv X pins σ H s)(h:SqT X.K H a xs)(h':SqT X.K H a ys):xs=ys:=by
 obtain⟨its,r,⟨o,e,_,n,d⟩,_⟩:=I.tuple h;obtain⟨its',r',⟨o',e',_,n',d'⟩,_⟩:=I.tuple h';rw[e]at e';cases e';rw[d]at d';injection d' with d1 _;have:its=its':=by simpa using congrArg Array.toList d1
 subst this;exact r.inj r'
end
noncomputable abbrev Cx.wish (X:Cx)(E:Value->Shared->Prop):Cx:={ X with xe:=E }
noncomputable abbrev Cx.nox (X:Cx):Cx:=X.wish λ_ _=>False
theorem Cx.Ok.wish {X:Cx}(ok:X.Ok)(E:Value->Shared->Prop):(X.wish E).Ok :=
 ⟨ok.mod,ok.kind,ok.glob,ok.blt,ok.above,ok.inj,ok.has,ok.cab,ok.hd,ok.frames,ok.stk,ok.exf,ok.bs,ok.bsz,ok.noex,ok.exfs,ok.funs,ok.frf⟩
theorem Cx.Ok.unwish {X:Cx}{E:Value->Shared->Prop}(ok:(X.wish E).Ok):X.Ok :=
 ⟨ok.mod,ok.kind,ok.glob,ok.blt,ok.above,ok.inj,ok.has,ok.cab,ok.hd,ok.frames,ok.stk,ok.exf,ok.bs,ok.bsz,ok.noex,ok.exfs,ok.funs,ok.frf⟩
section
variable {X:Cx}{pins:List (Addr×Obj)}{σ:St}{H:Hp}{s:Shared}{E:Value->Shared->Prop}
theorem Inv.wish (I:Inv X pins σ H s)(E:Value->Shared->Prop):Inv (X.wish E) pins σ H s:=⟨I.ok.wish E,I.os,I.bare,I.base,I.loc,I.cell,I.free,I.freeC,I.pin,I.hok,I.len⟩
theorem Inv.unwish (I:Inv (X.wish E) pins σ H s):Inv X pins σ H s:=⟨I.ok.unwish,I.os,I.bare,I.base,I.loc,I.cell,I.free,I.freeC,I.pin,I.hok,I.len⟩
theorem SP.unwish {D:Ends}{f:Flow}{s':Shared}(h:SP (X.wish E) pins D f s'):SP X pins D f s':=by
 cases f with
 |next=>obtain⟨σ',H',I,q⟩:=h;exact⟨σ',H',I.unwish,q⟩
 |brk=>obtain⟨σ',H',I,q⟩:=h;exact⟨σ',H',I.unwish,q⟩
 |cont=>obtain⟨σ',H',I,q⟩:=h;exact⟨σ',H',I.unwish,q⟩
 |ret u=>obtain⟨v,σ',H',I,r,q⟩:=h;exact⟨v,σ',H',I.unwish,r,q⟩
theorem PSs.nox {st:List Stmt}{t:TS}(h:PSs X.nox st t):PSs X st t:=λpins s σ H D I hw=>
 wpAny_mono (h pins s σ H D (I.wish _) hw) (λ_ _ q=>q.unwish) λ_ _ z=>False.elim z
end
section
variable {X:Cx}{st:Stmt}{au:List Stmt}{t u:TS}{e:Expr}{te:TE}{pos:Pos}
def CP:TS:=λD σ H=>D.nx σ H
def FL (t u:TS):TS:=λD σ H=>t { D with nx:=u D } σ H
theorem Bj:PSs X [] CP:=λ_ _ σ H _ I h=>wpAny_execs_nil ⟨σ,H,I,h⟩
theorem yK (h1:PS X st t)(h2:PSs X au u):PSs X (st::au) (FL t u):=by
 intro pins s σ H D I h;refine wpAny_execs_cons (thn (h1 pins s σ H { D with nx:=u D } I h) λf s1 q=>?_);cases f with
 |next=>
  obtain⟨σ',H',I',q⟩:=q;exact h2 pins s1 σ' H' D I' q
 |ret v=>exact q
 |brk=>exact q
 |cont=>exact q
theorem Bk (h1:PS X st t):PSs X [st] t:=by
 intro pins s σ H D I h;refine wpAny_execs_cons (thn (h1 pins s σ H D I h) λf s1 q=>?_);cases f with
 |next=>exact wpAny_execs_nil q
 |ret v=>exact q
 |brk=>exact q
 |cont=>exact q
def FM:TS:=λD σ H=>D.ct σ H
theorem rA:PS X (.Continue pos) FM:=λ_ _ σ H _ I h=>wpAny_Continue ⟨σ,H,I,h⟩
theorem Inv.quiet {pins:List (Addr×Obj)}{σ:St}{H:Hp}{s:Shared}(I:Inv X pins σ H s):interactive X.env=false:=by simp[interactive,I.ok.kind]
def FN (te:TE):TS:=λD σ H=>te σ H λ_ H1=>D.nx σ H1
theorem Bl (he:PE X e te)(hs:swapsWith e none pos.line X.env=pure false:=by rfl):PS X (.Expr e pos) (FN te):=by
 intro pins s σ H D I h;exact wpAny_Expr_any (thn (he pins s σ H _ I h) λv s1 ⟨x,H1,I1,r1,q1⟩=>⟨σ,H1,I1,q1⟩) I.quiet hs
def DY (te:TE):TS:=λD σ H=>te σ H D.rt
theorem yL (he:PE X e te):PS X (.Return (some e) pos) (DY te):=by
 intro pins s σ H D I h;exact wpAny_Return_some (thn (he pins s σ H _ I h) λv s1 ⟨x,H1,I1,r1,q1⟩=>⟨x,σ,H1,I1,r1,q1⟩)
def FP (c:TT)(t u:TS):TS:=λD σ H=>c σ H λb H1=>if b=true then t D σ H1 else u D σ H1
theorem FQ {c:Expr}{a b:List Stmt}{tc:TT}(hc:PT X c tc)(ha:PSs X a t)(hb:PSs X b u):PS X (.If c a b pos) (FP tc t u):=by
 intro pins s σ H D I h;refine wpAny_If (thn (hc pins s σ H _ I h) λd s1 ⟨H1,I1,q1⟩=>?_);cases d with
 |true=>exact ha pins s1 σ H1 D I1 q1
 |false=>exact hb pins s1 σ H1 D I1 q1
end
abbrev TG:=V->St->Hp->(St->Hp->Prop)->Prop
abbrev TGs:=List V->St->Hp->(St->Hp->Prop)->Prop
def PG (X:Cx)(target:Expr)(t:TG):Prop :=
 ∀(pins:List (Addr×Obj))(s:Shared)(σ:St)(H:Hp)(v:V)(u:Value)(Q:St->Hp->Prop),Inv X pins σ H s->aS v u->t v σ H Q ->
  wpAny (model X.prog X.w) X.A (assign target X.env u) (λ_ s'=>∃σ' H',Inv X pins σ' H' s'/\Q σ' H') X.xe s
def PGs (X:Cx)(ts:List Expr)(t:TGs):Prop :=
 ∀(pins:List (Addr×Obj))(s:Shared)(σ:St)(H:Hp)(vs:List V)(us:List Value)(Q:St->Hp->Prop),Inv X pins σ H s->aT vs us->t vs σ H Q ->
  wpAny (model X.prog X.w) X.A (assignInOrder ((assignEach ts X.env).map (·.2)) us) (λ_ s'=>∃σ' H',Inv X pins σ' H' s'/\Q σ' H') X.xe s
abbrev DZ:=V->V->V->Hp->(Hp->Prop)->Prop
def FR (X:Cx)(t:DZ):Prop :=
 ∀(pins:List (Addr×Obj))(s:Shared)(σ:St)(H:Hp)(o i v:V)(ov iv u:Value)(Q:Hp->Prop),Inv X pins σ H s->aS o ov->aS i iv->aS v u->t o i v H Q ->
  wpAny (model X.prog X.w) X.A (setItem ov iv u) (λ_ s'=>∃H',Inv X pins σ H' s'/\Q H') X.xe s
section
variable {X:Cx}{pos:Pos}
def iU (i:Nat):TG:=λv σ H Q=>Q (σ.set i (some v)) H
theorem vO {i:Nat}{x:Str}(hN:X.N.Nodup)(hi:X.N[i]? = some x)(hx:Loc X.env.scope x)(hf:X.fn x=true∨X.env.scope.names.lookup x=some .local:=by first|exact .inl rfl|exact .inr rfl|assumption):PG X (.Name x pos) (iU i):=by
 intro pins s σ H v u Q I r h;exact wpAny_assign_Name (r9 I hN hi hx r (λs' I'=>⟨_,H,I',h⟩) hf)
def FU:TGs:=λvs σ H Q=>vs=[]/\Q σ H
def CQ (t:TG)(u:TGs):TGs:=λvs σ H Q=>∃v r,vs=v::r/\t v σ H λσ' H'=>u r σ' H' Q
theorem vP:PGs X [] FU:=by
 intro pins s σ H vs us Q I r h;obtain⟨e,h⟩:=h;subst e;cases r
 exact assignInOrder_nil ⟨σ,H,I,h⟩
theorem ju {e:Expr}{es:List Expr}{t:TG}{u:TGs}(h1:PG X e t)(h2:PGs X es u)
  (hs:(assignEach (e::es) X.env).map (·.2)=assign e X.env::(assignEach es X.env).map (·.2):=by rfl):PGs X (e::es) (CQ t u):=by
 intro pins s σ H vs us Q I r h;obtain⟨v,vr,e1,h⟩:=h;subst e1;cases r with
 |cons r rr=>
  rw[hs];refine assignInOrder_cons (thn (h1 pins s σ H _ _ _ I r h) λ_ s1 ⟨σ1,H1,I1,q1⟩=>?_);exact h2 pins s1 σ1 H1 _ _ Q I1 rr q1
def FV (K:PySem.W.Frag)(n:Nat)(t:TGs):TG:=λv σ H Q=>∃a xs,v=.ref a/\SqT K H a xs/\xs.length=n/\t xs σ H Q
theorem Ea {es:List Expr}{k:Nat}{t:TGs}{n:Nat}(hc:X.calm=true)(h:PGs X es t)
  (hn:(assignEach es X.env).length=n:=by rfl) (hst:(assignEach es X.env).findIdx? (·.1)=none:=by rfl):PG X (.Tuple es k pos) (FV X.K n t):=by
 intro pins s σ H v u Q I r hw;obtain⟨a,xs,e1,hq,hl,hw⟩:=hw;subst e1;cases r
 obtain⟨its,rv,ht,hz⟩:=I.tuple hq;refine assign_Tuple_tuple (I.ok.hd hc) ht (by simp[hn,←hl,rv.length]) hst λh' hx=>?_;have I1:Inv X pins σ H { s with heap:=h' }:=I.kept (t':=s.toks) λb o e=>hx b o (Nat.ne_of_lt (Heap.lt_size e)) e;exact h pins _ σ H xs _ Q I1 (by simpa using rv) hw
def Hl (to ti:TE)(t:DZ):TG:=λv σ H Q=>to σ H λo H1=>ti σ H1 λi H2=>t o i v H2 λH3=>Q σ H3
theorem Eb {o i:Expr}{to ti:TE}{t:DZ}(ho:PE X o to)(hi:PE X i ti)(hs:FR X t)
  (ha:∀v,assign (.Subscript o i pos) X.env v=(do
   let ov ←holding [v] (eval o X.env)
   let iv ←holding [v,ov] (eval i X.env)
   standAt pos
   holding [v,ov,iv] (setItem ov iv v)
   release [v,ov,iv] []):=by intro _;rfl):PG X (.Subscript o i pos) (Hl to ti t):=by
 intro pins s σ H v u Q I r h;rw[ha];refine wX (wpAny_holding (thn (ho pins s σ H _ I h) λov s1 ⟨x,H1,I1,r1,q1⟩=>?_));refine wX (wpAny_holding (thn (hi pins s1 σ H1 _ I1 q1) λiv s2 ⟨y,H2,I2,r2,q2⟩=>?_));refine wX (wpAny_standAt (wX (wpAny_holding (thn (hs pins s2 σ H2 x y v ov iv u _ I2 r1 r2 r q2) λ_ s3 ⟨H3,I3,q3⟩=>?_))));exact wpAny_release ⟨σ,H3,I3,q3⟩
def xz (te:TE)(g:TG):TS:=λD σ H=>te σ H λx H1=>g x σ H1 D.nx
theorem yM {tg e:Expr}{te:TE}{g:TG}(he:PE X e te)(hg:PG X tg g)(hs:swapsWithSole [tg] e pos.line X.env=pure false:=by rfl)(hw:swappedStores [tg] e X.env=pure none:=by rfl)
  (h1:(assignEach [tg] X.env).map (·.2)=[assign tg X.env]:=by rfl):PS X (.Assign [tg] e pos) (xz te g):=by
 intro pins s σ H D I h;refine wpAny_Assign_stores (thn (he pins s σ H _ I h) λv s1 ⟨x,H1,I1,r1,q1⟩=>?_) hs hw;rw[h1];exact thn (hg pins s1 σ H1 x v _ I1 r1 q1) λ_ s2 q=>q
theorem yN {i:Nat}{x:Str}{e:Expr}{te:TE}{pos':Pos}(hN:X.N.Nodup)(hi:X.N[i]? = some x)(hx:Loc X.env.scope x)(he:PE X e te)(hs:swapsWith e (some (.Name x pos')) pos.line X.env=pure false:=by rfl)(hf:X.fn x=true∨X.env.scope.names.lookup x=some .local:=by first|exact .inl rfl|exact .inr rfl|assumption):
  PS X (.Assign [.Name x pos'] e pos) (xz te (iU i)):=by
 intro pins s σ H D I h;refine wpAny_Assign_Name (thn (he pins s σ H _ I h) λv s1 ⟨y,H1,I1,r1,q1⟩=>?_) hs;exact r9 I1 hN hi hx r1 (λs2 I2=>⟨_,H1,I2,q1⟩) hf
end
structure It where
 go:Nat->Hp->Prop
 yld:Nat->Hp->V->Hp->Prop
 stop:Nat->Hp->Prop
def jZ (X:Cx)(pins:List (Addr×Obj))(H:Hp)(b:Addr):Prop :=
 H b=none/\b≠X.env.locals/\b∉X.fs/\(b∈X.ex∨X.s₀.heap.objs.size<=b)/\(∀x c,X.env.cells.lookup x=some c->c≠b)/\∀p∈X.pn++pins,p.1≠b
theorem Inv.fpOk {X:Cx}{pins:List (Addr×Obj)}{σ:St}{H H':Hp}{s:Shared}{b:Addr}(I:Inv X pins σ H s)(hb:s.heap.objs.size<=b)(hn:H' b=none):jZ X pins H' b:=by
 refine⟨hn,Nat.ne_of_gt (Nat.lt_of_lt_of_le I.lt hb),I.nofs hb,.inr (Nat.le_trans I.sz hb),λx c e z=>?_,λp hp z=>?_⟩
 ·obtain⟨v,q⟩:=I.cell x c e;exact absurd (Nat.lt_of_lt_of_le q.lt (by rw[z];exact hb)) (Nat.lt_irrefl _)
 ·exact absurd (Nat.lt_of_lt_of_le (Heap.lt_size (I.pin p hp).1) (by rw[z];exact hb)) (Nat.lt_irrefl _)
structure Turn (P:Program)(w:World)(K:PySem.W.Frag)(tg:Expr)(J:It)(fp:List Addr)(it:Addr)(tn:Nat->Heap->Prop):Prop where
 mem:it∈fp
 obj:∀i h,tn i h->∀b∈fp,∃o,h.get? b=some o/\∀v,o.data≠.cell v
 keep:∀i h h',tn i h->(∀b∈fp,∀o,h.get? b=some o->h'.get? b=some o)->tn i h'
 item:∀(X:Cx),X.prog=P->X.w=w->X.K=K->X.calm=true->∀(i:Nat)(pins:List (Addr×Obj))(s:Shared)(σ:St)(H:Hp)(E:Value->Shared->Prop),Inv X pins σ H s->(∀b∈fp,jZ X pins H b)->tn i s.heap->J.go i H ->
  wpAny (model P w) X.A (pyNext (.ref it)) (λr s1=>∃u,r=some u /\
   wpAny (model P w) X.A (letOwnedTupleGo tg (.ref it) u) (λ_ s2=>∃x H',Inv X pins σ H' s2/\aS x u/\J.yld i H x H'/\tn (i+1) s2.heap/\∀b∈fp,H' b=none) E s1) E s
 done:∀(X:Cx),X.prog=P->X.w=w->X.K=K->X.calm=true->∀(i:Nat)(pins:List (Addr×Obj))(s:Shared)(σ:St)(H:Hp)(E:Value->Shared->Prop),Inv X pins σ H s->(∀b∈fp,jZ X pins H b)->tn i s.heap->J.stop i H ->
  wpAny (model P w) X.A (pyNext (.ref it)) (λr s1=>r=none/\Inv X pins σ H s1) E s
 self:∀(A:Around)(i:Nat)(s:Shared)(Q:Value->Shared->Prop)(E:Value->Shared->Prop),tn i s.heap->Q (.ref it) s->wpAny (model P w) A (pyIter (.ref it)) Q E s
abbrev TI:=St->Hp->(It->Hp->Prop)->Prop
def PIE (X:Cx)(pins:List (Addr×Obj))(σ:St)(tg:Expr)(R:It->Hp->Prop)(itv:Value)(s2:Shared):Prop :=
 ∃(it:Addr)(fp:List Addr)(tn:Nat->Heap->Prop)(J:It)(H':Hp),itv=.ref it/\Inv X pins σ H' s2/\Turn X.prog X.w X.K tg J fp it tn/\tn 0 s2.heap/\(∀b∈fp,jZ X pins H' b)/\R J H'
def PI (X:Cx)(tg iter:Expr)(wi:TI):Prop :=
 ∀(pins:List (Addr×Obj))(s:Shared)(σ:St)(H:Hp)(R:It->Hp->Prop),Inv X pins σ H s->wi σ H R ->
  wpAny (model X.prog X.w) X.A (eval iter X.env) (λv s1=>wpAny (model X.prog X.w) X.A (pyIter v) (PIE X pins σ tg R) X.xe s1) X.xe s
theorem o7 {M:Model}{A:Around}{E:Value->Shared->Prop}{s:Shared}{tg:Expr}{it:Addr}{u:Value}{o:Obj}{n:String}{vs:Array Value}{Q:Unit->Shared->Prop}(ho:s.heap.get? it=some o)(hc:o.cls=.type n)(hd:o.data=.fields vs)
    (hn:["enumerate","zip","dict_itemiterator","dict_reverseitemiterator","odict_iterator","itertools.zip_longest","itertools.pairwise"].contains n=false) (hQ:Q () s):wpAny M A (letOwnedTupleGo tg (.ref it) u) Q E s:=by
  unfold letOwnedTupleGo;cases tg<;>first
    |exact wY hQ
    | (cases u<;>first
        |exact wY hQ
        | (refine wX (wpAny_load ho ?_)
           rw[hc,hd]
           show wpAny M A (if(["enumerate","zip","dict_itemiterator","dict_reverseitemiterator","odict_iterator","itertools.zip_longest","itertools.pairwise"].contains n && vs[0]? == some (rawInt _))=true then _ else _) Q E s
           rw[if_neg (by intro h;rw[hn,Bool.false_and]at h;cases h)]
           exact wY hQ))
noncomputable def Itl (K:PySem.W.Frag)(a:Addr):It :=
 ⟨λi H=>∃xs x,SqL K H a xs/\xs[i]? = some x,λi H x H'=>H'=H/\∀xs,SqL K H a xs->xs[i]? = some x,λi H=>∃xs,SqL K H a xs/\xs.length<=i⟩
noncomputable def Itt (K:PySem.W.Frag)(a:Addr):It :=
 ⟨λi H=>∃xs x,SqT K H a xs/\xs[i]? = some x,λi H x H'=>H'=H/\∀xs,SqT K H a xs->xs[i]? = some x,λi H=>∃xs,SqT K H a xs/\xs.length<=i⟩
noncomputable def Itr (lo:Int)(n:Nat):It:=⟨λi _=>i<n,λi H x H'=>H'=H/\x=.int (lo+i),λi _=>n<=i⟩
theorem xA {P:Program}{w:World}{K:PySem.W.Frag}{tg:Expr}(a it:Addr):Turn P w K tg (Itl K a) [it] it (λi h=>h.IsListIter it a i) where
 mem:=by simp
 obj:=λi h st b hb=>by
  have e:b=it:=by simpa using hb
  subst e;obtain⟨o,e,c,d⟩:=st;exact⟨o,e,λv z=>by rw[d]at z;cases z⟩
 keep:=λi h h' st k=>st.at λo e=>k it (by simp) o e
 item:=by
  intro X hP hw hK hc i pins s σ H E I hf st hg;subst hP hw hK;obtain⟨xs,x,hq,hx⟩:=hg;obtain⟨its,rv,p,hz⟩:=I.list hq;obtain⟨u,hu,ru⟩:=rv.get hx;obtain⟨f0,f1,f2,f3,f4,f5⟩:=hf it (by simp);refine wpAny_pyNext_list_item st p.isList (x:=u) (by simpa using hu) λh' st' sb=>?_;have I1:Inv X pins σ H { s with heap:=h' }:=I.turned (t':=s.toks) (λb o hb e=>(sb.2 b hb).trans e) f0 f1 f3 f4 f5;obtain⟨o,e,c,d⟩:=id st';exact⟨u,rfl,o7 (s:={ s with heap:=h' }) e c d (by decide) ⟨x,H,I1,ru,⟨rfl,λys hy=>by rw[I.list_inj hy hq];exact hx⟩,st',λb hb=>(hf b hb).1⟩⟩
 done:=by
  intro X hP hw hK hc i pins s σ H E I hf st hg;subst hP hw hK;obtain⟨xs,hq,hx⟩:=hg;obtain⟨its,rv,p,hz⟩:=I.list hq;obtain⟨f0,f1,f2,f3,f4,f5⟩:=hf it (by simp);have hl:=rv.length;exact wpAny_pyNext_list_end (I.ok.hd hc) st p.isList (by simp;omega) λh' eb=>⟨rfl,I.turned (t':=s.toks) (λb o hb e=>eb b o hb e) f0 f1 f3 f4 f5⟩
 self:=λ_ _ _ _ _ st h=>wpAny_pyIter_listiter st h
theorem ut {P:Program}{w:World}{K:PySem.W.Frag}{tg:Expr}(a it:Addr):Turn P w K tg (Itt K a) [it] it (λi h=>h.IsTupleIter it a i) where
 mem:=by simp
 obj:=λi h st b hb=>by
  have e:b=it:=by simpa using hb
  subst e;obtain⟨o,e,c,d⟩:=st;exact⟨o,e,λv z=>by rw[d]at z;cases z⟩
 keep:=λi h h' st k=>st.at λo e=>k it (by simp) o e
 item:=by
  intro X hP hw hK hc i pins s σ H E I hf st hg;subst hP hw hK;obtain⟨xs,x,hq,hx⟩:=hg;obtain⟨its,rv,p,hz⟩:=I.tuple hq;obtain⟨u,hu,ru⟩:=rv.get hx;obtain⟨f0,f1,f2,f3,f4,f5⟩:=hf it (by simp);refine wpAny_pyNext_tuple_item st (show s.heap.IsTuple a its.toArray from p) (x:=u) (by simpa using hu) λh' st' sb=>?_;have I1:Inv X pins σ H { s with heap:=h' }:=I.turned (t':=s.toks) (λb o hb e=>(sb.2 b hb).trans e) f0 f1 f3 f4 f5;obtain⟨o,e,c,d⟩:=id st';exact⟨u,rfl,o7 (s:={ s with heap:=h' }) e c d (by decide) ⟨x,H,I1,ru,⟨rfl,λys hy=>by rw[I.tuple_inj hy hq];exact hx⟩,st',λb hb=>(hf b hb).1⟩⟩
 done:=by
  intro X hP hw hK hc i pins s σ H E I hf st hg;subst hP hw hK;obtain⟨xs,hq,hx⟩:=hg;obtain⟨its,rv,p,hz⟩:=I.tuple hq;obtain⟨f0,f1,f2,f3,f4,f5⟩:=hf it (by simp);have hl:=rv.length;exact wpAny_pyNext_tuple_end (I.ok.hd hc) st (show s.heap.IsTuple a its.toArray from p) (by simp;omega) λh' eb=>⟨rfl,I.turned (t':=s.toks) (λb o hb e=>eb b o hb e) f0 f1 f3 f4 f5⟩
 self:=λ_ _ _ _ _ st h=>wpAny_pyIter_tupleiter st h
theorem uu {P:Program}{w:World}{K:PySem.W.Frag}{tg:Expr}(it:Addr)(lo:Int)(n:Nat):Turn P w K tg (Itr lo n) [it] it (λi h=>IsRangeIter h it (lo+(i:Nat)*1) ((n:Int) - (i:Nat)) 1) where
 mem:=by simp
 obj:=λi h st b hb=>by
  have e:b=it:=by simpa using hb
  subst e;exact⟨_,st,λv z=>by
   have z':Data.fields _=Data.cell v:=z;cases z'⟩
 keep:=λi h h' st k=>k it (by simp) _ st
 item:=by
  intro X hP hw hK hc i pins s σ H E I hf st hg;subst hP hw hK;obtain⟨f0,f1,f2,f3,f4,f5⟩:=hf it (by simp);have W:=Walks.range (prog:=X.prog) (w:=X.w) (I.ok.hd hc) it lo 1 n;refine W.item i s _ _ hg st λv h' tk hv st' kk=>?_;obtain⟨t,rfl⟩:=hv;have I1:Inv X pins σ H { s with heap:=h',toks:=tk }:=I.turned (λb o hb e=>kk b o (by simpa using hb) e) f0 f1 f3 f4 f5;refine⟨_,rfl,o7 (s:={ s with heap:=h',toks:=tk }) (n:="range_iterator") st' rfl rfl (by decide) ⟨.int (lo+i),H,I1,⟨t,?_⟩,⟨rfl,rfl⟩,st',λb hb=>(hf b hb).1⟩⟩;rw[Int.mul_one]
 done:=by
  intro X hP hw hK hc i pins s σ H E I hf st hg;subst hP hw hK;obtain⟨f0,f1,f2,f3,f4,f5⟩:=hf it (by simp);exact wpAny_pyNext_range_end (I.ok.hd hc) st (by have:n<=i:=hg;omega) λh' eb=>⟨rfl,I.turned (t':=s.toks) (λb o hb e=>eb b o hb e) f0 f1 f3 f4 f5⟩
 self:=λ_ _ _ _ _ st h=>wpAny_pyIter_rangeiter st h
section
variable {X:Cx}{tg:Expr}
def FW (K:PySem.W.Frag)(tl:TE):TI:=λσ H R=>tl σ H λx H1=>∃a,x=.ref a/\(∃xs,SqL K H1 a xs)/\R (Itl K a) H1
def Hm (K:PySem.W.Frag)(tl:TE):TI:=λσ H R=>tl σ H λx H1=>∃a,x=.ref a/\(∃xs,SqT K H1 a xs)/\R (Itt K a) H1
theorem Bm {l:Expr}{tl:TE}(hl:PE X l tl):PI X tg l (FW X.K tl):=by
 intro pins s σ H R I h;refine thn (hl pins s σ H _ I h) λv s1 ⟨x,H1,I1,r1,q1⟩=>?_;obtain⟨a,e,⟨xs,hq⟩,q⟩:=q1;subst e;cases r1
 obtain⟨its,rv,p,hz⟩:=I1.list hq;refine wpAny_pyIter_list p.isList ?_;refine⟨s1.heap.objs.size,[s1.heap.objs.size],_,_,H1,rfl,I1.kept (t':=s1.toks) λb o e=>Heap.get?_push_of_some _ e,xA a _,⟨_,Heap.get?_push_size _ rfl,rfl,rfl⟩,λb hb=>?_,q⟩;have e:b=s1.heap.objs.size:=by simpa using hb
 subst e;exact I1.fpOk (Nat.le_refl _) (I1.hok.fresh (Nat.le_refl _))
theorem Ec {l:Expr}{tl:TE}(hl:PE X l tl):PI X tg l (Hm X.K tl):=by
 intro pins s σ H R I h;refine thn (hl pins s σ H _ I h) λv s1 ⟨x,H1,I1,r1,q1⟩=>?_;obtain⟨a,e,⟨xs,hq⟩,q⟩:=q1;subst e;cases r1
 obtain⟨its,rv,p,hz⟩:=I1.tuple hq;refine wpAny_pyIter_tuple (show s1.heap.IsTuple a its.toArray from p) ?_;refine⟨s1.heap.objs.size,[s1.heap.objs.size],_,_,H1,rfl,I1.kept (t':=s1.toks) λb o e=>Heap.get?_push_of_some _ e,ut a _,⟨_,Heap.get?_push_size _ rfl,rfl,rfl⟩,λb hb=>?_,q⟩;have e:b=s1.heap.objs.size:=by simpa using hb
 subst e;exact I1.fpOk (Nat.le_refl _) (I1.hok.fresh (Nat.le_refl _))
theorem rB {pins:List (Addr×Obj)}{σ:St}{H:Hp}{s:Shared}{R:It->Hp->Prop}{E:Value->Shared->Prop}{lo hi:Int}{t u v:Tok}{tk:Nat}(I:Inv X pins σ H s)(h1 : -(2 ^ 62)<=lo)(h2:lo<2 ^ 62)(h3 : -(2 ^ 62)<=hi)(h4:hi<2 ^ 62)
  (q:R (Itr lo (hi - lo).toNat) H):wpAny (model X.prog X.w) X.A (pyIter (.ref s.heap.objs.size)) (PIE X pins σ tg R) E { s with heap:=s.heap.push { cls:=.type "range",data:=.fields #[.int lo t,.int hi u,.int 1 v] },toks:=tk }:=by
 refine wpAny_pyIter_range (IsRange.new ..) (small_one h1 h2 h3 h4) ?_;have I1:Inv X pins σ H { s with heap:=s.heap.push { cls:=.type "range",data:=.fields #[.int lo t,.int hi u,.int 1 v] },toks:=tk }:=I.kept λb o e=>Heap.get?_push_of_some _ e;refine⟨(s.heap.push { cls:=.type "range",data:=.fields #[.int lo t,.int hi u,.int 1 v] }).objs.size,[(s.heap.push { cls:=.type "range",data:=.fields #[.int lo t,.int hi u,.int 1 v] }).objs.size],_,_,H,rfl,
  I1.kept (t':=tk) λb o e=>Heap.get?_push_of_some _ e,uu _ lo (hi - lo).toNat,?_,λb hb=>?_,q⟩
 ·have e1:lo+((0:Nat):Int)*1=lo:=by simp
  have e2:(((hi - lo).toNat:Nat):Int) - ((0:Nat):Int)=Builtin.Range.rangeSize lo hi 1:=by rw[rangeSize_one];split<;>omega
  show IsRangeIter _ _ (lo+((0:Nat):Int)*1) ((((hi - lo).toNat:Nat):Int) - ((0:Nat):Int)) 1;rw[e1,e2];exact Heap.get?_push_size _ rfl
 ·have e:b=(s.heap.push { cls:=.type "range",data:=.fields #[.int lo t,.int hi u,.int 1 v] }).objs.size:=by simpa using hb
  subst e;exact I1.fpOk (Nat.le_refl _) (I1.hok.fresh (Nat.le_refl _))
def FX (ta:TA):TI:=λσ H R=>ta σ H λvs H1=>∃j:Int,vs=[.int j]/\-(2 ^ 62)<=j/\j<2 ^ 62/\R (Itr 0 j.toNat) H1
def FY (ta:TA):TI:=λσ H R=>ta σ H λvs H1=>∃i j:Int,vs=[.int i,.int j]/\(-(2 ^ 62)<=i/\i<2 ^ 62/\-(2 ^ 62)<=j/\j<2 ^ 62)/\R (Itr i (j - i).toNat) H1
theorem xB {a:Expr}{ta:TA}{p pos:Pos}(hg:Gl X "range")(hm:X.mg "range" = none)(ha:PA X [a] ta)(hs:starEach [a] X.env=[(false,eval a X.env)]:=by rfl):PI X tg (.Call (.Name "range" p) [a] [] pos) (FX ta):=by
 intro pins s σ H R I h;refine Call_ (ia I hg hm boot_range (PyProof.Rows.callWith_type1 (thn (ha pos pins s σ H _ I h) λus s1 ⟨vs,H1,I1,r1,q1⟩=>?_) hs rfl));obtain⟨j,e,q1,q2,q⟩:=q1;subst e;cases r1 with
 |cons r rr=>
  cases rr
  obtain⟨t,rfl⟩:=r;exact call_range_1 (rB I1 (by omega) (by omega) q1 q2 (by simpa using q))
theorem xC {a b:Expr}{ta:TA}{p pos:Pos}(hg:Gl X "range")(hm:X.mg "range" = none)(ha:PA X [a,b] ta)(hs:starEach [a,b] X.env=[(false,eval a X.env),(false,eval b X.env)]:=by rfl)(hs2:starEach [b] X.env=[(false,eval b X.env)]:=by rfl):
  PI X tg (.Call (.Name "range" p) [a,b] [] pos) (FY ta):=by
 intro pins s σ H R I h;refine Call_ (ia I hg hm boot_range (PyProof.Rows.callWith_type1 (thn (ha pos pins s σ H _ I h) λus s1 ⟨vs,H1,I1,r1,q1⟩=>?_) (by rw[hs,hs2]) (by rw[hs2];rfl)));obtain⟨i,j,e,⟨q1,q2,q3,q4⟩,q⟩:=q1;subst e;cases r1 with
 |cons r rr=>
  cases rr with
  |cons r' rr=>
   cases rr
   obtain⟨t,rfl⟩:=r;obtain⟨t',rfl⟩:=r';exact call_range_2 (rB I1 q1 q2 q3 q4 q)
def Ed (wi:TI)(g:TG)(tb:TS):TS:=λD σ H=>wi σ H λJ H1=>∃W:Nat->Nat->St->Hp->Prop,(∃m,W 0 m σ H1)/\∀i m σ H,W i m σ H ->
 (J.stop i H/\D.nx σ H)∨(J.go i H/\∃N:St->Hp->Prop,(∀σ' H',N σ' H'->∃m',m'<m/\W (i+1) m' σ' H')/\∀x H',J.yld i H x H'->g x σ H' λσ2 H2=>tb { D with nx:=N,ct:=N,bk:=D.nx } σ2 H2)
noncomputable def kc (fp:List Addr)(h:Heap):List (Addr×Obj):=fp.filterMap λb=>(h.get? b).map λo=>(b,o)
theorem gE {fp:List Addr}{h:Heap}{b:Addr}{o:Obj}(hb:b∈fp)(e:h.get? b=some o):(b,o)∈kc fp h:=List.mem_filterMap.mpr ⟨b,hb,by rw[e];rfl⟩
theorem xD {fp:List Addr}{h:Heap}{p:Addr×Obj}(hp:p∈kc fp h):p.1∈fp/\h.get? p.1=some p.2:=by
 obtain⟨b,hb,e⟩:=List.mem_filterMap.mp hp;cases q:h.get? b with
 |none=>rw[q]at e;cases e
 |some o=>
  rw[q]at e;have e':(b,o)=p:=Option.some.inj e;subst e';exact⟨hb,q⟩
theorem Inv.pinned {pins:List (Addr×Obj)}{σ:St}{H:Hp}{s:Shared}{fp:List Addr}(I:Inv X pins σ H s)(hf:∀b∈fp,jZ X pins H b)(ho:∀b∈fp,∃o,s.heap.get? b=some o/\∀v,o.data≠.cell v):Inv X (pins++kc fp s.heap) σ H s :=
 I.pins_of λp hp=>(List.mem_append.mp hp).elim (λz=>I.pin p (mY _ z)) λz=>by
  obtain⟨hb,e⟩:=xD z;obtain⟨f0,f1,f2,_⟩:=hf p.1 hb;obtain⟨o,e',d⟩:=ho p.1 hb;rw[e]at e';cases e';exact⟨e,f0,f1,f2,d⟩
theorem Inv.unpinned {pins pl:List (Addr×Obj)}{σ:St}{H:Hp}{s:Shared}(I:Inv X (pins++pl) σ H s):Inv X pins σ H s:=I.pins_of λp hp=>I.pin p (mY _ (List.mem_append_left _ hp))
theorem yO {iter:Expr}{body:List Stmt}{wi:TI}{g:TG}{tb:TS}{pos:Pos}(hp:PassesOwn (model X.prog X.w) X.A X.env X.xe)(hc:X.calm=true)(hi:PI X tg iter wi)(hg:PG X tg g)(hb:PSs X body tb)
  (hs:∀x,foldedSetIterable iter X.env x=pure x:=by intro _;rfl):PS X (.For tg iter body [] pos) (Ed wi g tb):=by
 intro pins s σ H D I h;refine wpAny_For (thn (hi pins s σ H _ I h) λv s1 h1=>thn h1 λitv s2 h2=>?_) hs;obtain⟨it,fp,tn,J,H2,e,I2,T,st2,f2,W,⟨m0,w0⟩,turn⟩:=h2;subst e
 -- what stays true of the iterator's objects through the loop
 have stat:∀ {H':Hp},(∀b∈fp,H' b=none)->∀b∈fp,jZ X pins H' b:=λhn b hb=>⟨hn b hb,(f2 b hb).2⟩;refine codeAny_forLoop_any (λn s'=>∃i σ' H',Inv X pins σ' H' s'/\tn i s'.heap/\(∀b∈fp,H' b=none)/\W i n σ' H') ?_ m0 ⟨0,σ,H2,I2,st2,λb hb=>(f2 b hb).1,w0⟩;rintro n s3 ⟨i,σ3,H3,I3,st3,fr3,w3⟩;rcases turn i n σ3 H3 w3 with⟨stop,qn⟩|⟨go,N,hN,step⟩
 ·refine wpAny_passesOwn hp (thn (T.done X rfl rfl rfl hc i pins s3 σ3 H3 X.xe I3 (stat fr3) st3 stop) λr s4 ⟨hr,I4⟩=>?_);subst hr;exact wpAny_execs_nil ⟨σ3,H3,I4,qn⟩
 ·refine wpAny_passesOwn hp (thn (T.item X rfl rfl rfl hc i pins s3 σ3 H3 X.xe I3 (stat fr3) st3 go) λr s4 ⟨u,hr,h4⟩=>?_);subst hr;refine wpAny_passesOwn hp (thn h4 λ_ s5 ⟨x,H5,I5,r5,y5,st5,fr5⟩=>?_);have I5':=I5.pinned (stat fr5) (T.obj _ _ st5);refine wpAny_passesOwn hp (thn (hg _ s5 σ3 H5 x u _ I5' r5 (step x H5 y5)) λ_ s6 ⟨σ6,H6,I6,q6⟩=>?_);refine wpAny_passesOwn hp (thn (hb _ s6 σ6 H6 _ I6 q6) λf s7 q7=>?_);have again:∀ {σ7:St}{H7:Hp},Inv X (pins++kc fp s5.heap) σ7 H7 s7->N σ7 H7->∃m,m<n/\∃i σ' H',Inv X pins σ' H' s7/\tn i s7.heap/\(∀b∈fp,H' b=none)/\W i m σ' H':=λ{σ7 H7} I7 n7=>by
   obtain⟨m',hm,w7⟩:=hN σ7 H7 n7;refine⟨m',hm,i+1,σ7,H7,I7.unpinned,T.keep _ _ _ st5 λb hb o e=>(I7.pin (b,o) (mY _ (mY _ (gE hb e)))).1,λb hb=>?_,w7⟩;obtain⟨o,e,d⟩:=T.obj _ _ st5 b hb;exact(I7.pin (b,o) (mY _ (mY _ (gE hb e)))).2.1
  cases f with
  |next=>obtain⟨σ7,H7,I7,n7⟩:=q7;exact again I7 n7
  |cont=>obtain⟨σ7,H7,I7,n7⟩:=q7;exact again I7 n7
  |brk=>obtain⟨σ7,H7,I7,q7⟩:=q7;exact⟨σ7,H7,I7.unpinned,q7⟩
  |ret v=>obtain⟨x7,σ7,H7,I7,r7,q7⟩:=q7;exact⟨x7,σ7,H7,I7.unpinned,r7,q7⟩
end
abbrev R2:=V->V->Hp->VK->Prop
def OpR (X:Cx)(f:Value->Value->Sem Value)(r:R2):Prop :=
 ∀(pins:List (Addr×Obj))(s:Shared)(σ:St)(H:Hp)(x y:V)(v u:Value)(Q:VK),Inv X pins σ H s->aS x v->aS y u->r x y H Q ->
  wpAny (model X.prog X.w) X.A (f v u) (EP X pins σ Q) X.xe s
def UnR (X:Cx)(f:Value->Sem Value)(r:V->Hp->VK->Prop):Prop :=
 ∀(pins:List (Addr×Obj))(s:Shared)(σ:St)(H:Hp)(x:V)(v:Value)(Q:VK),Inv X pins σ H s->aS x v->r x H Q ->
  wpAny (model X.prog X.w) X.A (f v) (EP X pins σ Q) X.xe s
def bB (X:Cx)(f:Value)(r:List V->Hp->VK->Prop):Prop :=
 ∀(pins:List (Addr×Obj))(s:Shared)(σ:St)(H:Hp)(xs:List V)(us:List Value)(Q:VK),Inv X pins σ H s->aT xs us->r xs H Q ->
  wpAny (model X.prog X.w) X.A (call f us) (EP X pins σ Q) X.xe s
def tOp (r:R2)(ta tb:TE):TE:=λσ H Q=>ta σ H λx H1=>tb σ H1 λy H2=>r x y H2 Q
def tUn (r:V->Hp->VK->Prop)(ta:TE):TE:=λσ H Q=>ta σ H λx H1=>r x H1 Q
def rI (C:Int->Int->Prop)(g:Int->Int->V):R2:=λx y H Q=>∃i j,x=.int i/\y=.int j/\C i j/\Q (g i j) H
def rI0 (g:Int->Int->V):R2:=λx y H Q=>∃i j,x=.int i/\y=.int j/\Q (g i j) H
def rU (g:Int->V):V->Hp->VK->Prop:=λx H Q=>∃i,x=.int i/\Q (g i) H
section
variable {X:Cx}{a b c:Expr}{ta tb tc:TE}{pos:Pos}
theorem Ee (ha:PE X a ta)(hb:PE X b tb){pins:List (Addr×Obj)}{s:Shared}{σ:St}{H:Hp}{R:V->V->Hp->Prop}(I:Inv X pins σ H s)
  (h:ta σ H λx H1=>tb σ H1 λy H2=>R x y H2) {Q:Value->Shared->Prop}{f:Value->Value->Sem Value}
  (hf:∀v u s2 x y H2,Inv X pins σ H2 s2->aS x v->aS y u->R x y H2->wpAny (model X.prog X.w) X.A (f v u) Q X.xe s2):
  wpAny (model X.prog X.w) X.A (eval a X.env) (λv s₁=>wpAny (model X.prog X.w) X.A (eval b X.env) (λu s₂=>wpAny (model X.prog X.w) X.A (f v u) Q X.xe s₂) X.xe s₁) X.xe s:=by
 refine thn (ha pins s σ H _ I h) λv s1 ⟨x,H1,I1,r1,q1⟩=>?_;refine thn (hb pins s1 σ H1 _ I1 q1) λu s2 ⟨y,H2,I2,r2,q2⟩=>?_;exact hf v u s2 x y H2 I2 r1 r2 q2
theorem CS {op:Operator}{r:R2}(ho:OpR X (binaryOp op) r)(ha:PE X a ta)(hb:PE X b tb):PE X (.BinOp a op b pos) (tOp r ta tb):=by
 intro pins s σ H Q I h;exact wpAny_BinOp (Ee ha hb I h λv u s2 x y H2 I2 rx ry q=>ho pins s2 σ H2 x y v u Q I2 rx ry q)
theorem FZ {op:UnaryOp}{r:V->Hp->VK->Prop}(ho:UnR X (unaryOp op) r)(ha:PE X a ta):PE X (.UnaryOp op a pos) (tUn r ta):=by
 intro pins s σ H Q I h;exact UnaryOp_ (thn (ha pins s σ H _ I h) λv s1 ⟨x,H1,I1,r1,q1⟩=>ho pins s1 σ H1 x v Q I1 r1 q1)
theorem opI {f:Value->Value->Sem Value}{C:Int->Int->Prop}{g:Int->Int->Int}
  (rule:∀(i j:Int)(t u:Tok)(s:Shared)(Q:Value->Shared->Prop)(E:Value->Shared->Prop),C i j->Q (.int (g i j) s.toks) { s with toks:=s.toks+1 }->wpAny (model X.prog X.w) X.A (f (.int i t) (.int j u)) Q E s):
  OpR X f (rI C λi j=>.int (g i j)):=by
 intro pins s σ H x y v u Q I rx ry h;obtain⟨i,j,rfl,rfl,hc,q⟩:=h;obtain⟨t,rfl⟩:=rx;obtain⟨t',rfl⟩:=ry;exact rule i j t t' s _ _ hc ⟨.int (g i j),H,I.tok _,⟨_,rfl⟩,q⟩
theorem Ef {f:Value->Value->Sem Value}{g:Int->Int->Int}
  (rule:∀(i j:Int)(t u:Tok)(s:Shared)(Q:Value->Shared->Prop)(E:Value->Shared->Prop),Q (.int (g i j) s.toks) { s with toks:=s.toks+1 }->wpAny (model X.prog X.w) X.A (f (.int i t) (.int j u)) Q E s):
  OpR X f (rI0 λi j=>.int (g i j)):=by
 intro pins s σ H x y v u Q I rx ry h;obtain⟨i,j,rfl,rfl,q⟩:=h;obtain⟨t,rfl⟩:=rx;obtain⟨t',rfl⟩:=ry;exact rule i j t t' s _ _ ⟨.int (g i j),H,I.tok _,⟨_,rfl⟩,q⟩
theorem Bn {f:Value->Value->Sem Value}{g:Int->Int->Bool}
  (rule:∀(i j:Int)(t u:Tok)(s:Shared)(Q:Value->Shared->Prop)(E:Value->Shared->Prop),Q (.bool (g i j)) s->wpAny (model X.prog X.w) X.A (f (.int i t) (.int j u)) Q E s):
  OpR X f (rI0 λi j=>.bl (g i j)):=by
 intro pins s σ H x y v u Q I rx ry h;obtain⟨i,j,rfl,rfl,q⟩:=h;obtain⟨t,rfl⟩:=rx;obtain⟨t',rfl⟩:=ry;exact rule i j t t' s _ _ ⟨.bl (g i j),H,I,rfl,q⟩
def Ga (i j:Int):Prop:=0<j/\j<1073741824
def Bo (i j:Int):Prop:=(-(2 ^ 64)<i/\i<2 ^ 64)∨(-(2 ^ 64)<j/\j<2 ^ 64)
theorem Bo.ok {i j:Int}(h:Bo i j):IntMulOk i j:=by
 rcases h with⟨h1,h2⟩|⟨h1,h2⟩
 ·exact .of_left (intBits_le_64 h1 h2)
 ·exact .of_right (intBits_le_64 h1 h2)
theorem uw (k:Nat):(0:Int)<=2 ^ k:=by
 rw[two_pow_cast];exact Int.natCast_nonneg _
theorem Eg:OpR X (binaryOp .Add) (rI0 λi j=>.int (i+j)):=Ef λ_ _ _ _ _ _ _ q=>add_int q
theorem Eh:OpR X (binaryOp .Sub) (rI0 λi j=>.int (i - j)):=Ef λ_ _ _ _ _ _ _ q=>sub_int q
theorem Ei:OpR X (binaryOp .Mult) (rI Bo λi j=>.int (i*j)):=opI λ_ _ _ _ _ _ _ hc q=>mul_int q hc.ok
theorem Bp:OpR X (binaryOp .FloorDiv) (rI Ga λi j=>.int (i / j)):=opI λi j _ _ _ _ _ hc q=>by
 have h1:(0:Int)<j:=hc.1;have h2:j<1073741824:=hc.2;exact floordiv_int (by omega) (by rw[Int.fdiv_eq_ediv_of_nonneg i (by omega)];exact q) (.inl (PyProof.noPylong_small (by omega)))
theorem Ej:OpR X (binaryOp .Mod) (rI (λ_ j=>0<j) λi j=>.int (i % j)):=opI λi j _ _ _ _ _ hc q=>by
 have h1:(0:Int)<j:=hc;exact mod_int' (by omega) (by rw[Int.fmod_eq_emod_of_nonneg i (by omega)];exact q)
theorem Ek:OpR X (binaryOp .RShift) (rI (λ_ j=>0<=j) λi j=>.int (i / 2 ^ j.toNat)):=opI λi j _ _ _ _ _ hc q=>
 rshift_int hc (by rw[Int.fdiv_eq_ediv_of_nonneg i (uw _)];exact q)
theorem El:OpR X (binaryOp .BitAnd) (rI0 λi j=>.int (Builtin.bitAnd i j)):=Ef λ_ _ _ _ _ _ _ q=>and_int q
theorem unI {f:Value->Sem Value}{g:Int->Int}
  (rule:∀(i:Int)(t:Tok)(s:Shared)(Q:Value->Shared->Prop)(E:Value->Shared->Prop),Q (.int (g i) s.toks) { s with toks:=s.toks+1 }->wpAny (model X.prog X.w) X.A (f (.int i t)) Q E s):
  UnR X f (rU λi=>.int (g i)):=by
 intro pins s σ H x v Q I rx h;obtain⟨i,rfl,q⟩:=h;obtain⟨t,rfl⟩:=rx;exact rule i t s _ _ ⟨.int (g i),H,I.tok _,⟨_,rfl⟩,q⟩
theorem Em:UnR X (unaryOp .USub) (rU λi=>.int (-i)):=unI λ_ _ _ _ _ q=>neg_int q
theorem xE:OpR X (binaryOp .Add) (λx y H Q=>∃i k,x=.int i/\y=.bl k/\Q (.int (i+b2i k)) H):=by
 intro pins s σ H x y v u Q I rx ry h;obtain⟨i,k,rfl,rfl,q⟩:=h;obtain⟨t,rfl⟩:=rx;cases ry
 exact add_int_bool ⟨.int (i+b2i k),H,I.tok _,⟨_,rfl⟩,q⟩
end
section
variable {X:Cx}{a b c:Expr}{ta tb tc:TE}{pos:Pos}
theorem Gb:OpR X (compareOp .Lt) (rI0 λi j=>.bl (decide (i<j))):=Bn λ_ _ _ _ _ _ _ q=>lt_int q
theorem Gc:OpR X (compareOp .LtE) (rI0 λi j=>.bl (decide (i<=j))):=Bn λ_ _ _ _ _ _ _ q=>le_int q
theorem Gd:OpR X (compareOp .Gt) (rI0 λi j=>.bl (decide (j<i))):=Bn λ_ _ _ _ _ _ _ q=>gt_int q
theorem Ge:OpR X (compareOp .GtE) (rI0 λi j=>.bl (decide (j<=i))):=Bn λ_ _ _ _ _ _ _ q=>ge_int q
theorem OpR.or {f:Value->Value->Sem Value}{r r':R2}(h:OpR X f r)(h':OpR X f r'):OpR X f (λx y H Q=>r x y H Q∨r' x y H Q):=by
 intro pins s σ H x y v u Q I rx ry q;rcases q with q|q
 ·exact h pins s σ H x y v u Q I rx ry q
 ·exact h' pins s σ H x y v u Q I rx ry q
theorem Hn (b:Expr){op:CmpOp}(h:op≠.In:=by decide)(h2:op≠.NotIn:=by decide):behindInMarks op b=false:=by
 have e1:(op == CmpOp.In)=false:=by cases op<;>first|rfl|exact absurd rfl h
 have e2:(op == CmpOp.NotIn)=false:=by cases op<;>first|rfl|exact absurd rfl h2
 cases b<;>simp[behindInMarks,e1,e2]
theorem Bq {op:CmpOp}{r:R2}(ho:OpR X (compareOp op) r)(ha:PE X a ta)(hb:PE X b tb)(hm:behindInMarks op b=false):PE X (.Compare a [op] [b] pos) (tOp r ta tb):=by
 intro pins s σ H Q I h;exact wpAny_Compare1 (Ee ha hb I h λv u s2 x y H2 I2 rx ry q=>ho pins s2 σ H2 x y v u Q I2 rx ry q) hm
def Gf (t:TE):TT:=λσ H Q=>t σ H λx H'=>∃k,x=.bl k/\Q k H'
theorem Br {op:CmpOp}{r:R2}(ho:OpR X (compareOp op) r)(ha:PE X a ta)(hb:PE X b tb)(hm:behindInMarks op b=false):PT X (.Compare a [op] [b] pos) (Gf (tOp r ta tb)):=by
 intro pins s σ H Q I h;refine wpAny_isTrue_Compare1 (thn (ha pins s σ H _ I h) λv s1 ⟨x,H1,I1,r1,q1⟩=>thn (hb pins s1 σ H1 _ I1 q1) λu s2 ⟨y,H2,I2,r2,q2⟩=>
  thn (ho pins s2 σ H2 x y v u _ I2 r1 r2 q2) λc s3 ⟨z,H3,I3,r3,k,e,q3⟩=>?_) hm
 subst e;cases r3
 exact wpAny_truthy_bool ⟨H3,I3,q3⟩
def yP (r r':R2)(ta tb tc:TE):TE:=λσ H Q=>ta σ H λx H1=>tb σ H1 λy H2=>r x y H2 λz H3=>∃k,z=.bl k /\
 (if k=true then tc σ H3 λw' H4=>r' y w' H4 Q else Q (.bl false) H3)
theorem yQ {op op':CmpOp}{r r':R2}(ho:OpR X (compareOp op) r)(ho':OpR X (compareOp op') r')(ha:PE X a ta)(hb:PE X b tb)(hc:PE X c tc)
  (hm:lastMarks [op,op'] [b,c]=false:=by with_unfolding_all rfl):PE X (.Compare a [op,op'] [b,c] pos) (yP r r' ta tb tc):=by
 intro pins s σ H Q I h;refine Compare_chain (thn (ha pins s σ H _ I h) λv s1 ⟨x,H1,I1,r1,q1⟩=>chain_link (thn (hb pins s1 σ H1 _ I1 q1) λu s2 ⟨y,H2,I2,r2,q2⟩=>
  thn (ho pins s2 σ H2 x y v u _ I2 r1 r2 q2) λd s3 ⟨z,H3,I3,r3,k,e,q3⟩=>?_)) hm
 subst e;cases r3
 refine wpAny_truthy_bool ?_;cases k with
 |false=>exact ite_ff ⟨.bl false,H3,I3,rfl,q3⟩
 |true=>exact ite_tt (chain_last (thn (hc pins s3 σ H3 _ I3 q3) λw' s4 ⟨z',H4,I4,r4,q4⟩=>ho' pins s4 σ H4 y z' u w' Q I4 r2 r4 q4))
theorem kg:(sizeLine:Nat)<2 ^ 63:=by rw[sizeLine_eq];decide
theorem ux:OpR X (binaryOp .Add) (λx y H Q=>∃i j,x=.str i/\y=.str j/\i.length+j.length<=sizeLine/\Q (.str (i++j)) H):=by
 intro pins s σ H x y v u Q I rx ry h;obtain⟨i,j,rfl,rfl,hz,q⟩:=h;obtain⟨t,rfl⟩:=rx;obtain⟨t',rfl⟩:=ry;exact add_str (λt' tk=>⟨.str (i++j),H,I.tok _,⟨_,rfl⟩,q⟩) hz
theorem ge {x:V}{us:List Value}(r:aT [x] us):∃u,us=[u]/\aS x u:=by
 cases r with
 |cons r1 r2=>cases r2;exact⟨_,rfl,r1⟩
theorem yR {x y:V}{us:List Value}(r:aT [x,y] us):∃u w',us=[u,w']/\aS x u/\aS y w':=by
 cases r with
 |cons r1 r2=>
  cases r2 with
  |cons r3 r4=>cases r4;exact⟨_,_,rfl,r1,r3⟩
theorem xF (hc:X.calm=true):bB X (.builtin "max") (λxs H Q=>∃i j,xs=[.int i,.int j]/\Q (.int (if j > i then j else i)) H):=by
 intro pins s σ H xs us Q I r h;obtain⟨i,j,rfl,q⟩:=h;obtain⟨u,w',rfl,⟨t,rfl⟩,⟨t',rfl⟩⟩:=yR r;refine max_two_ints (I.ok.hd hc) λh' tk k=>⟨_,H,I.kept k,?_,q⟩;by_cases hj:j > i
 ·rw[if_pos hj,if_pos hj];exact⟨_,rfl⟩
 ·rw[if_neg hj,if_neg hj];exact⟨_,rfl⟩
theorem xG (hc:X.calm=true):bB X (.builtin "min") (λxs H Q=>∃i j,xs=[.int i,.int j]/\Q (.int (if j<i then j else i)) H):=by
 intro pins s σ H xs us Q I r h;obtain⟨i,j,rfl,q⟩:=h;obtain⟨u,w',rfl,⟨t,rfl⟩,⟨t',rfl⟩⟩:=yR r;refine min_two_ints (I.ok.hd hc) λh' tk k=>⟨_,H,I.kept k,?_,q⟩;by_cases hj:j<i
 ·rw[if_pos hj,if_pos hj];exact⟨_,rfl⟩
 ·rw[if_neg hj,if_neg hj];exact⟨_,rfl⟩
theorem xH:bB X (.type "int") (λxs H Q=>(∃i,xs=[.int i]/\Q (.int i) H)∨∃k,xs=[.bl k]/\Q (.int (if k then 1 else 0)) H):=by
 intro pins s σ H xs us Q I r h;rcases h with⟨i,rfl,q⟩|⟨k,rfl,q⟩
 ·obtain⟨u,rfl,t,rfl⟩:=ge r;exact call_int_int ⟨.int i,H,I,⟨_,rfl⟩,q⟩
 ·obtain⟨u,rfl,r1⟩:=ge r;cases r1
  exact call_int_bool ⟨.int (if k then 1 else 0),H,I.tok _,⟨_,rfl⟩,q⟩
end
structure ObjM (h:Heap)(x dx C:Addr)(mA:Str->Option Value):Prop where
 obj:h.get? x=some (PySem.W.instObj C dx)
 ns:h.Ns1 dx mA
 ne:dx≠x
theorem xI {h:Heap}{dx:Addr}{mA:Str->Option Value}(n:h.Ns1 dx mA):∃od,h.get? dx=some od/\∀name,PySem.W.lookIn name od=some (mA name):=by
 obtain⟨o,es,ep,ho,hd,hk,_,hm⟩:=n;refine⟨o,ho,λname=>?_⟩;have e:=hm name;unfold nsFind findBy at e;rw[←Array.find?_toList]at e;unfold PySem.W.lookIn;rw[hd];dsimp only;split
 ·rename_i y q;rw[q]at e;exact congrArg some e
 ·rename_i q;rw[q]at e;have a:es.toList.any (·.refKey)=false:=by
   rw[List.any_eq_false];intro y hy;obtain⟨z,t,hkey⟩:=hk y (Array.mem_toList_iff.mp hy);simp[DictEntry.refKey,hkey]
  have a':¬es.toList.any (·.refKey)=true:=by rw[a];exact Bool.false_ne_true
  rw[if_neg a'];exact congrArg some e
theorem ObjM.look {h:Heap}{x dx C:Addr}{mA:Str->Option Value}(I:ObjM h x dx C mA):∃od,PySem.W.InstAt h x (PySem.W.instObj C dx) C (some od)/\∀name,PySem.W.lookIn name od=some (mA name) :=
 let ⟨od,ho,hl⟩:=xI I.ns
 ⟨od,⟨I.obj,rfl,rfl,ho⟩,hl⟩
section
variable {prog:Program}{w:World}{A:Around}{E:Value->Shared->Prop}{s:Shared}{K:PySem.W.Frag}{x dx C f:Addr}{mA:Str->Option Value}{name:Str}{v:Value}
theorem yS {pl:Sem Bool}{Q:Value×List Value->Shared->Prop}(X:K.In s.heap)(I:ObjM s.heap x dx C mA)(hg:PySem.W.plainGet K C name=true)
  (hf:PySem.W.findIn K (.ref C) name=some (some (.ref f))) (ht:PySem.W.isFn K (.ref f)=true) (hv:mA name=none) (h:Q (.ref f,[.ref x]) s):
  wpAny (model prog w) A (getMethod (.ref x) name pl) Q E s:=by
 obtain⟨od,J,hl⟩:=I.look;exact PySem.W.method_fn X J (PySem.W.plainGet_of hg).1 (PySem.W.plainGet_of hg).2 hf (beq_iff_eq.mp ht) (by show(PySem.W.lookIn name od).map (·.isSome)=some false;rw[hl,hv];rfl) h
theorem Gg {R:Result->Shared->Prop}{vs:List Value}{kw:List (Str×Value)}(X:K.In s.heap)(hm:PySem.W.makesIn K C=true)
  (hi:PySem.W.findIn K (.ref C) "__init__" = some (some (.ref f))) (hf:PySem.W.typeIn K (.ref f)=some (.type "function"))
  (h:codeAny (model prog w) (A.under (.builtin "type.__call__" ⟨.ref C::vs,kw⟩)) (.call (.ref f) ⟨.ref (s.heap.objs.size+1)::vs,kw⟩) (PySem.W.InitBack (s.heap.objs.size+1) R)
   { s with heap:=(s.heap.push PySem.W.emptyDict).push (PySem.W.instObj C s.heap.objs.size) }):
  codeAny (model prog w) A (.call (.ref C) ⟨vs,kw⟩) R s:=by
 obtain⟨hh,g,d,t,os⟩:=s;exact PySem.W.make_core (PySem.W.makes_of X hm) (PySem.W.looks_findIn X hi) (λself=>PySem.W.bind_fn X self hf) (.inl rfl) h
end
theorem ls.none_of {o:Option Value}(r:ls none o):o=none:=by
 cases o with
 |none=>rfl
 |some u=>exact(show False from r).elim
section
variable {P:Program}{w:World}{H H':Hp}{h h':Heap}{a C dx:Addr}{fs fs':List (Str×V)}
theorem vQ (hok:HOk P w H h)(e:H a=some (.ins C dx fs)):∃mA,ObjM h a dx C mA/\(∀f,ls (fs.lookup f) (mA f))/\PySem.Within mA (fs.map (·.1))/\fs.length<=1000/\H dx=some (.own a):=by
 obtain⟨d,z,ne,ob,mA,n,r,q⟩:=(show bz P w H h a (.ins C dx fs)from hok a _ e);exact⟨mA,⟨ob,n,ne⟩,r,q,z,d⟩
end
structure Cls (K:PySem.W.Frag)(C:Addr):Prop where
 pg:PySem.W.plainGet K C Str.empty=true
 hd:PySem.W.hasDictIn K C=true
 po:PySem.W.plainOver K C=true
 sa:PySem.W.findIn K (.ref C) "__setattr__" = some (some (.builtin "object.__setattr__"))
theorem Cls.get {K:PySem.W.Frag}{C:Addr}(c:Cls K C)(f:Str):PySem.W.plainGet K C f=true:=c.pg
def En (K:PySem.W.Frag)(C:Addr)(f:Str):Prop:=PySem.W.findIn K (.ref C) f=some none
structure Meth (K:PySem.W.Frag)(C:Addr)(m:Str)(f:Addr):Prop where
 at_:PySem.W.findIn K (.ref C) m=some (some (.ref f))
 fn:PySem.W.isFn K (.ref f)=true
 kp:PySem.W.keepIn K (.ref f)=true
section
variable {X:Cx}{pins:List (Addr×Obj)}{σ:St}{H:Hp}{s:Shared}{a C dx:Addr}{fs:List (Str×V)}{f:Str}{v:V}{A:Around}{E:Value->Shared->Prop}
theorem uy {m:Str}{g:Addr}{pl:Sem Bool}{Q:Value×List Value->Shared->Prop}(I:Inv X pins σ H s)(e:H a=some (.ins C dx fs))(c:Cls X.K C)(k:Meth X.K C m g)(l:fs.lookup m=none)
  (h:Q (.ref g,[.ref a]) s):wpAny (model X.prog X.w) A (getMethod (.ref a) m pl) Q E s:=by
 obtain⟨mA,O,r,_,_,_⟩:=vQ I.hok e;have hn:mA m=none:=ls.none_of (by rw[←l];exact r m);exact yS I.kIn O (c.get m) k.at_ k.fn hn h
theorem Inv.made (I:Inv X pins σ H s):Inv X pins σ (upd (upd H s.heap.objs.size (.own (s.heap.objs.size+1))) (s.heap.objs.size+1) (.ins C s.heap.objs.size []))
  { s with heap:=(s.heap.push PySem.W.emptyDict).push (PySem.W.instObj C s.heap.objs.size) }:=by
 have e1:(s.heap.push PySem.W.emptyDict).get? s.heap.objs.size=some PySem.W.emptyDict:=Heap.get?_push_size s.heap rfl;have e2:((s.heap.push PySem.W.emptyDict).push (PySem.W.instObj C s.heap.objs.size)).get? (s.heap.objs.size+1)=some (PySem.W.instObj C s.heap.objs.size):=by
  have:=Heap.get?_push_size (s.heap.push PySem.W.emptyDict) (o:=PySem.W.instObj C s.heap.objs.size) rfl;rwa [Heap.size_push]at this
 have e3:(s.heap.push PySem.W.emptyDict).Ns s.heap.objs.size (λ_=>none):=⟨PySem.W.emptyDict,#[],_,e1,rfl,(λe he=>absurd he (by simp)),λ_=>rfl⟩;have I1:=I.laid (a:=s.heap.objs.size) (o:=.own (s.heap.objs.size+1)) (h':=s.heap.push PySem.W.emptyDict) (t':=s.toks) (λb u q=>Heap.get?_push_of_some _ q) (Nat.le_refl _) ⟨_,e1⟩;refine I1.laid (a:=s.heap.objs.size+1) (o:=.ins C s.heap.objs.size []) (t':=s.toks) (λb u q=>Heap.get?_push_of_some _ q) (Nat.le_of_eq (Heap.size_push _ _)) ?_;have ne:s.heap.objs.size≠s.heap.objs.size+1:=Nat.ne_of_lt (Nat.lt_succ_self _);refine⟨by rw[aH ne,aF],Nat.zero_le _,ne,e2,λ_=>none,(Heap.Ns1.of_empty e3).at λo q=>Heap.get?_push_of_some _ q,λ_=>True.intro,λy hy=>absurd rfl hy⟩
end
def HZ (K:PySem.W.Frag)(ta:TE)(f:Str):TE:=λσ H Q=>ta σ H λx H1=>∃a C dx fs v,x=.ref a/\H1 a=some (.ins C dx fs)/\Cls K C/\En K C f/\fs.lookup f=some v/\Q v H1
section
variable {X:Cx}{o e value:Expr}{f:Str}{pos pos' tpos:Pos}{ta tv:TE}
theorem CT {pl:Sem Bool}{m:Str}{apos:Pos}{args:List Expr}{pins:List (Addr×Obj)}{s:Shared}{σ:St}{H:Hp}{Q:Value->Shared->Prop}{te:TE}(he:PE X e te)(I:Inv X pins σ H s)
  (h:te σ H λx H1=>∃a C dx fs g,x=.ref a/\H1 a=some (.ins C dx fs)/\Cls X.K C/\Meth X.K C m g/\fs.lookup m=none /\
   ∀s1,Inv X pins σ H1 s1->wpAny (model X.prog X.w) X.A (callWith pos (.ref g) [.ref a] (backTo pos (starEach args X.env)) (backToKw pos (keywordEach [] X.env))) Q X.xe s1)
  (ht:eval (.Call (.Attribute e m apos) args [] pos) X.env=(do
   let ov ←eval e X.env
   standAt apos.atName
   let (f,first) ←holding [ov] (getMethod ov m pl)
   callWith pos f first (backTo pos (starEach args X.env)) (backToKw pos (keywordEach [] X.env)))):
  wpAny (model X.prog X.w) X.A (eval (.Call (.Attribute e m apos) args [] pos) X.env) Q X.xe s:=by
 refine PySem.W.methodCall_KW (pl:=pl) (thn (he pins s σ H _ I h) λu s1 ⟨x,H1,I1,rx,a,C,dx,fs,g,ex,ea,c,k,l,q⟩=>?_) ht;subst ex;obtain rfl:u=Value.ref a:=rx;exact uy I1 ea c k l (q s1 I1)
end
section
variable {X:Cx}{pins:List (Addr×Obj)}{σ:St}{H:Hp}{s:Shared}{A:Around}{E:Value->Shared->Prop}{Q:Value->Shared->Prop}{c:Value}{b:Bool}
inductive TyOf (K:PySem.W.Frag)(H:Hp):V->Value->Prop where
 |non:TyOf K H .non (.type "NoneType")
 |bl (x:Bool):TyOf K H (.bl x) (.type "bool")
 |int (i:Int):TyOf K H (.int i) (.type "int")
 |str (x:Str):TyOf K H (.str x) (.type "str")
 |flt (x:UInt64):TyOf K H (.flt x) (.type "float")
 |lst {a:Addr}{xs:List V}(e:H a=some (.lst xs)):TyOf K H (.ref a) (.type "list")
 |frz {a:Addr}{o:Obj}{xs:List V}(e:H a=some (.frz o (.lst xs))):TyOf K H (.ref a) (.type "list")
 |tup {a:Addr}{xs:List V}(e:H a=some (.tup xs)):TyOf K H (.ref a) (.type "tuple")
 |dK {a:Addr}{kvs:List (Key×V)}{ob:Obj}(e:H a=some (.dK kvs ob)):TyOf K H (.ref a) (.type "dict")
 |dT {a:Addr}{kvs:List (List Key×V)}(e:H a=some (.dT kvs)):TyOf K H (.ref a) (.type "dict")
 |ins {a C dx:Addr}{fs:List (Str×V)}(e:H a=some (.ins C dx fs)) (cl:Cls K C) (ha:PySem.W.findIn K (.ref C) "__class__" = some (some (.builtin "object.__class__")))
   (hn:PySem.W.specialIn K (.builtin "object.__class__") "__get__" = some (some (.builtin "getset_descriptor.__get__"))) (htk:PySem.W.takesIn K (.builtin "object.__class__")=some true)
   (hm:PySem.W.mroIn K C (.type "object")=some true):TyOf K H (.ref a) (.ref C)
theorem fg {x:V}{u t:Value}(I:Inv X pins σ H s)(rx:aS x u)(ty:TyOf X.K H x t)(e:PySem.W.kitOne X.K t c=some b)(h:∀tk,Q (.bool b) { s with toks:=tk }):
  wpAny (model X.prog X.w) A (call (.builtin "isinstance") [u,c]) Q E s:=by
 cases ty with
 |non=>cases (show u=Value.none from rx);exact PySem.W.kia_one PySem.W.kitx_none I.kIn True.intro e (λz=>nomatch z) h
 |bl y=>cases (show u=Value.bool y from rx);exact PySem.W.kia_one PySem.W.kitx_bool I.kIn True.intro e (λz=>nomatch z) h
 |int i=>obtain⟨t,q⟩:=(show ∃t,u=Value.int i t from rx);cases q;exact PySem.W.kia_one PySem.W.kitx_int I.kIn True.intro e (λz=>nomatch z) h
 |str y=>obtain⟨t,q⟩:=(show ∃t,u=Value.str y t from rx);cases q;exact PySem.W.kia_one PySem.W.kitx_str I.kIn True.intro e (λz=>nomatch z) h
 |flt y=>obtain⟨t,q⟩:=(show ∃t,u=Value.float y t from rx);cases q;exact PySem.W.kia_one PySem.W.kitx_float I.kIn True.intro e (λz=>nomatch z) h
 |@lst a xs ea=>
  cases (show u=Value.ref a from rx)
  obtain⟨_,_,n,_,h1⟩:=(show bz X.prog X.w H s.heap a (.lst xs)from I.hok a _ ea);exact PySem.W.kia_one PySem.W.kitx_list I.kIn ⟨_,h1,rfl⟩ e (λz=>nomatch z) h
 |@frz a ob xs ea=>
  cases (show u=Value.ref a from rx)
  obtain⟨_,_,_,n,_,h1⟩:=(show bz X.prog X.w H s.heap a (.frz ob (.lst xs))from I.hok a _ ea);exact PySem.W.kia_one PySem.W.kitx_list I.kIn ⟨_,h1,rfl⟩ e (λz=>nomatch z) h
 |@tup a xs ea=>
  cases (show u=Value.ref a from rx)
  obtain⟨_,_,_,p⟩:=(show bz X.prog X.w H s.heap a (.tup xs)from I.hok a _ ea);obtain⟨o,h1,h2,_⟩:=p;exact PySem.W.kia_one PySem.W.kitx_tuple I.kIn ⟨o,h1,h2⟩ e (λz=>nomatch z) h
 |@dK a kvs ob ea=>
  cases (show u=Value.ref a from rx)
  obtain⟨_,_,_,vs,_,p⟩:=(show bz X.prog X.w H s.heap a (.dK kvs ob)from I.hok a _ ea);obtain⟨o,es,ep,h1,h2,_⟩:=p;exact PySem.W.kia_one PySem.W.kitx_dict I.kIn ⟨o,h1,h2.1⟩ e (λz=>nomatch z) h
 |@dT a kvs ea=>
  cases (show u=Value.ref a from rx)
  obtain⟨_,_,xs,_,o,es,ep,h1,h2,_⟩:=(show bz X.prog X.w H s.heap a (.dT kvs)from I.hok a _ ea);exact PySem.W.kia_one PySem.W.kitx_dict I.kIn ⟨o,h1,h2.1⟩ e (λz=>nomatch z) h
 |@ins a C dx fs ea cl ha hn htk hm=>
  cases (show u=Value.ref a from rx)
  obtain⟨mA,O,_⟩:=vQ I.hok ea;obtain⟨od,J,_⟩:=O.look;exact PySem.W.kia_one (PySem.W.kitx_own (cl.get _) cl.hd ha hn htk hm) I.kIn J e (λz=>nomatch z) h
end
structure Room (k:Nat)(A:Around):Prop where
 hd:A.handled=none
 dp:A.depth+3*k+5<recursionLimit
 un:A.units+16*k+200<cLine
theorem Room.mono {j k:Nat}{A:Around}(r:Room k A)(h:j<=k):Room j A:=⟨r.hd,by have:=r.dp;omega,by have:=r.un;omega⟩
theorem Room.deeper {k:Nat}{A:Around}(r:Room (k+1) A)(env:Env):Room k (A.deeper env) :=
 ⟨r.hd,by have:=r.dp;show A.depth+1+3*k+5<_;omega,by have:=r.un;show A.units+3+16*k+200<_;omega⟩
theorem Room.in1 {k:Nat}{A:Around}(r:Room (k+1) A):Room k A.in1 :=
 ⟨r.hd,by have:=r.dp;show A.depth+3*k+5<_;omega,by have:=r.un;show A.units+1+16*k+200<_;omega⟩
theorem Room.depth {k:Nat}{A:Around}(r:Room k A):A.depth<recursionLimit:=by have:=r.dp;omega
def Gh:TA:=λ_ H Q=>Q [] H
def CU (ta:TE)(tr:TA):TA:=λσ H Q=>ta σ H λx H1=>tr σ H1 λxs H2=>Q (x::xs) H2
section
variable {X:Cx}{e:Expr}{es:List Expr}{te:TE}{t:TA}{pos:Pos}
theorem ib:PA X [] Gh:=λ_ _ _ _ H Q I h=>Calls.spliced_nil ⟨[],H,I,.nil,h⟩
theorem fP (ha:PE X e te)(hr:PA X es t)(hs:starEach (e::es) X.env=(false,eval e X.env)::starEach es X.env:=by rfl):PA X (e::es) (CU te t):=by
 intro pos pins s σ H Q I h;rw[hs];show wpAny _ _ (spliced ((false,eval e X.env)::backTo pos (starEach es X.env))) _ _ s;refine Calls.spliced_cons (thn (ha pins s σ H _ I h) λu s1 ⟨x,H1,I1,r1,q1⟩=>?_);exact thn (hr pos pins s1 σ H1 _ I1 q1) λus s2 ⟨xs,H2,I2,r2,q2⟩=>⟨x::xs,H2,I2,.cons r1 r2,q2⟩
def Gi (t:TA):TE:=λσ H Q=>t σ H λxs H1=>xs.length<=sizeLine/\∀p,H1 p=none->Q (.ref p) (upd H1 p (.tup xs))
def Ho (t:TA):TE:=λσ H Q=>t σ H λxs H1=>xs.length<=sizeLine/\∀p,H1 p=none->Q (.ref p) (upd H1 p (.lst xs))
theorem uz {x1}(h:PA X es t):PE X (.Tuple es x1 pos) (Gi t):=by
 intro pins s σ H Q I hq;refine wpAny_Tuple_spliced (thn (h pos pins s σ H _ I hq) λus s1 ⟨xs,H1,I1,r,z,q⟩=>⟨by rw[←r.length];exact z,?_⟩);have hf:H1 s1.heap.objs.size=none:=I1.hok.fresh (Nat.le_refl _);refine⟨.ref s1.heap.objs.size,upd H1 s1.heap.objs.size (.tup xs),I1.laid (t':=s1.toks) (λb u e=>Heap.get?_push_of_some _ e) (Nat.le_refl _) ?_,rfl,q _ hf⟩;exact⟨z,us,r,⟨_,Heap.get?_push_size _ rfl,rfl,_,rfl⟩⟩
theorem Eo (h:PA X es t):PE X (.List es pos) (Ho t):=by
 intro pins s σ H Q I hq;refine wpAny_List_spliced (thn (h pos pins s σ H _ I hq) λus s1 ⟨xs,H1,I1,r,z,q⟩=>⟨by rw[←r.length];exact z,?_⟩);have hf:H1 s1.heap.objs.size=none:=I1.hok.fresh (Nat.le_refl _);refine⟨.ref s1.heap.objs.size,upd H1 s1.heap.objs.size (.lst xs),I1.laid (t':=s1.toks) (λb u e=>Heap.get?_push_of_some _ e) (Nat.le_refl _) ?_,rfl,q _ hf⟩;exact⟨z,us,0,r,Heap.get?_push_size _ rfl⟩
end
abbrev Sp:=List V->Hp->VK->XK->Prop
abbrev CXT:=List Env->Hp->Shared->XK->Value->Shared->Prop
structure Env0 (P:Program)(w:World)(K:PySem.W.Frag)(mg:Str->Option Value)(base:Heap)(A:Around)(outer:List Env)(s:Shared)(H:Hp):Prop where
 frames:A.frames=some outer
 mod:Mod K mg base
 bs:∀b o,base.get? b=some o->s.heap.get? b=some o/\H b=none
 bsz:base.objs.size<=s.heap.objs.size
 funs:s.heap.FunFrames base outer
 frf:∀b∈frs outer,H b=none
 hok:HOk P w H s.heap
 bare:AllBare s.gens
def CE (outer:List Env)(P:Program)(w:World)(H:Hp)(s:Shared)(Q:VK)(u:Value)(s':Shared):Prop :=
 ∃v H',s'.os=s.os/\AllBare s'.gens/\Un (frs outer) [] H H' s.heap s'.heap/\HOk P w H' s'.heap/\aS v u/\Q v H'
def CR (CX:CXT)(outer:List Env)(P:Program)(w:World)(H:Hp)(s:Shared)(Q:VK)(E:XK)(r:Result)(s':Shared):Prop :=
 match r with
 |.ok (.ret u)=>CE outer P w H s Q u s'
 |.ok _=>False
 |.error e=>CX outer H s E e s'
structure FnOk (P:Program)(w:World)(K:PySem.W.Frag)(mg:Str->Option Value)(base:Heap)(CX:CXT)(k:Nat)(f:Addr)(fd:FuncData)(ps:List Str)(sp:Sp):Prop where
 len:∀vs H Q E,sp vs H Q E->vs.length=ps.length
 run:∀(A:Around)(outer:List Env)(s:Shared)(H:Hp)(args:Args)(us:List Value)(vs:List V)(Q:VK)(E:XK),Room k A->Env0 P w K mg base A outer s H->BindsTo s fd args (ps.zip us)->aT vs us->sp vs H Q E ->
  codeAny (model P w) A (.call (.ref f) args) (CR CX outer P w H s Q E) s
section
variable {X:Cx}{pins:List (Addr×Obj)}{σ:St}{H:Hp}{s s':Shared}
theorem Inv.env0 (I:Inv X pins σ H s):Env0 X.prog X.w X.K X.mg X.base X.A X.stack s H :=
 ⟨I.ok.frames,I.ok.mod,I.bs,Nat.le_trans I.ok.bsz I.sz,I.stack,I.stkFree,I.hok,I.bare⟩
theorem Inv.after {Q:VK}{u:Value}(I:Inv X pins σ H s)(h:CE X.stack X.prog X.w H s Q u s'):EP X pins σ Q u s':=by
 obtain⟨v,H',os,bare,un,hok,r,q⟩:=h;obtain⟨hh,g,d,t,os'⟩:=s';obtain rfl:os'=s.os:=os;exact⟨v,H',I.call (h':=hh) (g':=g) (d':=d) (t':=t) (ch:=[]) un hok bare (λb z=>absurd z (by simp)),r,q⟩
end
def Gj (sp:Sp)(dvs:List V)(E:XK)(t:TA):TE:=λσ H Q=>t σ H λvs H1=>sp (vs++dvs) H1 Q E
def HP (C:Addr)(m:Str)(sp:Sp)(dvs:List V)(E:XK)(ta:TE)(t:TA):TE:=λσ H Q=>ta σ H λx H1=>∃a dx fs,x=.ref a/\H1 a=some (.ins C dx fs)/\fs.lookup m=none /\
 t σ H1 λvs H2=>sp (x::(vs++dvs)) H2 Q E
def HQ (C:Addr)(sp:Sp)(dvs:List V)(E:XK)(t:TA):TE:=λσ H Q=>t σ H λvs H1=>∀x dx,H1 x=none->H1 dx=none->dx≠x ->
 sp (.ref x::(vs++dvs)) (upd (upd H1 dx (.own x)) x (.ins C dx [])) (λv H2=>v=.non/\Q (.ref x) H2) E
def o8 (K:PySem.W.Frag)(fd:FuncData)(ps:List Str)(ds:List Value):Prop :=
 ∀(s:Shared)(us:List Value),K.In s.heap->(us++ds).length=ps.length->BindsTo s fd ⟨us,[]⟩ (ps.zip (us++ds))
theorem o8.all {K:PySem.W.Frag}{fd:FuncData}{ps:List Str}(h:∀us:List Value,us.length=ps.length->bindArgs fd ⟨us,[]⟩=pure (ps.zip us)):o8 K fd ps []:=λs us _ hl=>by
 rw[List.append_nil]at hl ⊢;exact .of_eq (h us hl)
def u0 (CX:CXT)(X:Cx)(E:XK):Prop:=∀(pins:List (Addr×Obj))(σ:St)(H:Hp)(s:Shared)(e:Value)(s':Shared),Inv X pins σ H s->CX X.stack H s E e s'->X.xe e s'
section
variable {X:Cx}{CX:CXT}{k:Nat}{f C:Addr}{fd:FuncData}{ps:List Str}{sp:Sp}{dvs:List V}{ds:List Value}{E:XK}{x m:Str}{p pos apos:Pos}{e o:Expr}{es:List Expr}{ta:TE}{t:TA}
theorem Ep {pins:List (Addr×Obj)}{σ:St}{H:Hp}{s:Shared}{Q:VK}{us:List Value}{vs:List V}(F:FnOk X.prog X.w X.K X.mg X.base CX k f fd ps sp)(hr:Room k X.A)(hb:o8 X.K fd ps ds)(hd:aT dvs ds)(hx:u0 CX X E)
  (I:Inv X pins σ H s) (r:aT vs us) (h:sp (vs++dvs) H Q E):wpAny (model X.prog X.w) X.A (call (.ref f) us) (EP X pins σ Q) X.xe s:=by
 have r2:aT (vs++dvs) (us++ds):=r.append hd;have hl:(us++ds).length=ps.length:=by rw[←r2.length];exact F.len _ _ _ _ h
 refine wpAny_call (codeAny_mono (F.run X.A X.stack s H ⟨us,[]⟩ (us++ds) (vs++dvs) Q E hr I.env0 (hb s us I.kIn hl) r2 h) λr s' hq=>?_);cases r with
 |error e=>exact hx pins σ H s e s' I hq
 |ok fl=>
  cases fl with
  |ret u=>exact I.after hq
  |next=>exact False.elim hq
  |brk=>exact False.elim hq
  |cont=>exact False.elim hq
theorem Bt (F:FnOk X.prog X.w X.K X.mg X.base CX k f fd ps sp)(hr:Room k X.A)(hg:Gl X x)(hm:X.mg x=some (.ref f))(hk:PySem.W.keepIn X.K (.ref f)=true)(hb:o8 X.K fd ps ds)(hd:aT dvs ds)(hx:u0 CX X E)
  (ha:PA X (e::es) t) (hdb:(x == ("__debug__" : Str))=false:=by decide) (he:starEach (e::es) X.env=(false,eval e X.env)::starEach es X.env:=by rfl) (hpl:(backTo pos (starEach es X.env)).any (·.1)=false:=by rfl):
  PE X (.Call (.Name x p) (e::es) [] pos) (Gj sp dvs E t):=by
 intro pins s σ H Q I h;refine wpAny_Call_Name_kw (pK I hg hm ?_ hdb);refine PySem.W.callWith_K (h₀:=X.base) I.ok.mod.kin hk (thn (ha pos pins s σ H _ I h) λus s1 ⟨vs,H1,I1,r,q⟩=>⟨I1.kIn,?_⟩) he hpl;exact Ep F hr hb hd hx I1 r q
end
structure FnScope (N P:List Str)(sc:Scope):Prop where
 kind:sc.kind=.function
 co:sc.isCoroutine=false
 gen:sc.isGenerator=false
 nd:N.Nodup
 pre:N.take P.length=P
 par:∀x∈P,sc.names.lookup x=some .local∨sc.names.lookup x=some .cell
 nofree:∀y∈sc.names,y.2≠.free
theorem o9 {kindOf:Str->Option NameKind}{x:Str}:∀ {binds:List (Str×Value)}{m:Str->Option Value},(∀v,(x,v)∉binds)->bindL kindOf binds m x=m x
 |[],_,_=>rfl
 | (n,v)::r,m,h=>by
  unfold bindL;rw[o9 λw hw=>h w (mZ _ hw)];split
  ·have:x≠n:=by rintro rfl;exact h v mX
   simp[this]
  ·rfl
theorem oA {kindOf:Str->Option NameKind}{x:Str}:∀ {binds:List (Str×Value)}{m:Str->Option Value},(∀v,(x,v)∉binds)->bindC kindOf binds m x=m x
 |[],_,_=>rfl
 | (n,v)::r,m,h=>by
  unfold bindC;rw[oA λw hw=>h w (mZ _ hw)];split
  ·rfl
  ·have:x≠n:=by rintro rfl;exact h v mX
   simp[this]
theorem oB {kindOf:Str->Option NameKind}{x:Str}{v:Value}:∀ {P:List Str}{vs:List Value}{i:Nat}{m:Str->Option Value},P.Nodup->P[i]? = some x->vs[i]? = some v->kindOf x=some .local ->
  bindL kindOf (P.zip vs) m x=some v
 |[],_,_,_,_,h,_,_=>by simp at h
 |_::_,[],_,_,_,_,h,_=>by simp at h
 |p::P,w::vs,0,m,nd,h1,h2,hk=>by
  simp at h1 h2;subst h1;subst h2;show bindL kindOf ((p,w)::P.zip vs) m p=_;unfold bindL;rw[o9 λv hv=>(List.nodup_cons.mp nd).1 (List.of_mem_zip hv).1,if_pos hk];simp
 |p::P,w::vs,i+1,m,nd,h1,h2,hk=>by
  show bindL kindOf ((p,w)::P.zip vs) m x=_;unfold bindL;exact oB (i:=i) (List.nodup_cons.mp nd).2 (by simpa using h1) (by simpa using h2) hk
theorem oC {kindOf:Str->Option NameKind}{x:Str}{v:Value}:∀ {P:List Str}{vs:List Value}{i:Nat}{m:Str->Option Value},P.Nodup->P[i]? = some x->vs[i]? = some v->kindOf x≠some .local ->
  bindC kindOf (P.zip vs) m x=some v
 |[],_,_,_,_,h,_,_=>by simp at h
 |_::_,[],_,_,_,_,h,_=>by simp at h
 |p::P,w::vs,0,m,nd,h1,h2,hk=>by
  simp at h1 h2;subst h1;subst h2;show bindC kindOf ((p,w)::P.zip vs) m p=_;unfold bindC;rw[oA λv hv=>(List.nodup_cons.mp nd).1 (List.of_mem_zip hv).1,if_neg hk];simp
 |p::P,w::vs,i+1,m,nd,h1,h2,hk=>by
  show bindC kindOf ((p,w)::P.zip vs) m x=_;unfold bindC;exact oC (i:=i) (List.nodup_cons.mp nd).2 (by simpa using h1) (by simpa using h2) hk
noncomputable def gY (N:List Str)(vs:List V):St:=vs.map some++List.replicate (N.length - vs.length) none
noncomputable def lu (CX:CXT)(P:Program)(w:World)(K:PySem.W.Frag)(mg:Str->Option Value)(base:Heap)(N:List Str)(qual:Str)(scope:Scope)(f:Addr)(cd:Value)(A:Around)(outer:List Env)(s:Shared)(H:Hp)(E:XK):Cx where
 prog:=P
 w:=w
 K:=K
 mg:=mg
 base:=base
 A:=A.deeper (envOfC qual scope s.heap.objs.size f cd)
 N:=N
 s₀:=s
 H₀:=H
 env:=envOfC qual scope s.heap.objs.size f cd
 outer:=outer
 stack:=envOfC qual scope s.heap.objs.size f cd::outer
 ex:=[]
 calm:=true
 fn:=λ_=>true
 pn:=[]
 xe:=λe s'=>wpAny (model P w) (A.deeper (envOfC qual scope s.heap.objs.size f cd)) (leaving (envOfC qual scope s.heap.objs.size f cd) e) (λ_ s''=>CX outer H s E e s'') (λe' s''=>CX outer H s E e' s'') s'
theorem rC {sc:Scope}{n:Nat}{x:Str}(h:sc.names.lookup x=some .cell):∃c,(cellsFrom n sc.names []).lookup x=some c:=by
 have q:=PySem.W.cellsFrom_some sc.names n [] (.inl h);exact Option.isSome_iff_exists.mp q
theorem xJ {CX:CXT}{P:Program}{w:World}{K:PySem.W.Frag}{mg:Str->Option Value}{base:Heap}{N ps:List Str}{qual:Str}{scope:Scope}{f:Addr}{cd:Value}{A:Around}{outer:List Env}{s s1:Shared}{H:Hp}{E:XK}{us:List Value}{vs:List V}
  (S:FnScope N ps scope) (hd:A.handled=none) (e0:Env0 P w K mg base A outer s H) (hl:vs.length=ps.length) (r:aT vs us)
  (x:InCallC s s.heap.objs.size (bindL (envOfC qual scope s.heap.objs.size f cd).kindOf (ps.zip us) λ_=>none) (cellsFrom (s.heap.objs.size+1) scope.names []) (bindC (envOfC qual scope s.heap.objs.size f cd).kindOf (ps.zip us) λ_=>none) s1):
  Inv (lu CX P w K mg base N qual scope f cd A outer s H E) [] (gY N vs) H s1:=by
 have hpl:ps.length<=N.length:=by have:=congrArg List.length S.pre;rw[List.length_take]at this;omega
 obtain⟨h1,tk,rfl,hk⟩:=x.done;have noA:∀b:Addr,b∉(lu CX P w K mg base N qual scope f cd A outer s H E).ex:=λb z=>absurd (show b∈([]:List Addr)from z) (by simp);refine⟨⟨e0.mod,S.kind,rfl,rfl,Nat.le_refl _,λy z c h1 h2=>?_,λy hy=>?_,λy c _ h=>?_,λ_=>hd,Around.frames_deeper e0.frames,.inr ⟨rfl,rfl⟩,λb z=>absurd z (noA b),e0.bs,e0.bsz,λb _ _=>noA b,λb z=>absurd z (noA b),e0.funs,e0.frf⟩,
  rfl,e0.bare,Un.kept hk,⟨_,x.toInCall.ns,λi y v h1 h2 h3=>?_⟩,λy c h=>⟨_,x.cell y c h⟩,e0.hok.fresh (Nat.le_refl _),λy c h=>?_,λp hp=>absurd (show p∈([]:List (Addr×Obj))from hp) (by simp),e0.hok.kept hk,?_⟩
 ·exact name_of_addr x.apart (PySem.mem_of_lookup h1) (PySem.mem_of_lookup h2)
 ·have hy:scope.names.lookup y=some .cell∨scope.names.lookup y=some .free:=hy;rcases hy with hy|hy
  ·exact rC hy
  ·exact absurd rfl (S.nofree _ (PySem.mem_of_lookup hy))
 ·exact Nat.le_of_lt (x.above y c (PySem.mem_of_lookup h))
 ·have hi:i<vs.length:=by
   unfold gY at h2;by_cases hi:i<vs.length
   ·exact hi
   ·rw[List.getElem?_append_right (by simpa using hi)]at h2;rw[List.getElem?_replicate]at h2;split at h2<;>cases h2
  have ha:vs[i]? = some v:=by
   unfold gY at h2;rw[List.getElem?_append_left (by simpa using hi),List.getElem?_map]at h2;cases e:vs[i]? with
   |none=>rw[e]at h2;cases h2
   |some a=>rw[e]at h2;cases h2;rfl
  obtain⟨u,hu,rv⟩:=r.get ha;have hp:ps[i]? = some y:=by
   rw[←S.pre,List.getElem?_take_of_lt (by omega)];exact h1
  have ndP:ps.Nodup:=by rw[←S.pre];exact S.nd.sublist (List.take_sublist _ _)
  refine⟨u,rv,?_⟩;rcases S.par y (List.mem_of_getElem? hp)with k|k
  ·exact .inl ⟨k,oB ndP hp hu k⟩
  ·obtain⟨c,e⟩:=rC (n:=s.heap.objs.size+1) k;refine .inr ⟨.inl k,c,e,?_⟩;have q:=x.cell y c e;rw[oC ndP hp hu (by show scope.names.lookup y≠_;rw[k];decide)]at q;exact q
 ·exact e0.hok.fresh (Nat.le_of_lt (x.above y c (PySem.mem_of_lookup h)))
 ·unfold gY;show _=N.length;rw[List.length_append,List.length_map,List.length_replicate];omega
theorem CV {CX:CXT}{P:Program}{w:World}{K:PySem.W.Frag}{mg:Str->Option Value}{base:Heap}{k:Nat}{f:Addr}{name qual:Str}{params:Arguments}{body:List Stmt}{scope:Scope}{dV kV doc pm cdv ct oc:Value}{an od:Option Addr}
  {osl:Array (Option Value)}{N ps:List Str}{sp:Sp}(lk:K.lookup f=some ⟨oc,od,.func (PySem.W.fnOf name qual params body scope dV kV doc pm an cdv ct),osl⟩) (hcd:PySem.W.codeIn K cdv qual=true) (S:FnScope N ps scope)
  (len:∀vs H Q E,sp vs H Q E->vs.length=ps.length)
  (hbody:∀(A:Around)(outer:List Env)(s:Shared)(H:Hp)(vs:List V)(Q:VK)(E:XK),Room k (A.deeper (envOfC qual scope s.heap.objs.size f cdv))->sp vs H Q E ->
   ∃t,PSs (lu CX P w K mg base N qual scope f cdv A outer s H E) body t/\t { nx:=λ_ H'=>Q .non H',rt:=Q } (gY N vs) H):
  FnOk P w K mg base CX (k+1) f (PySem.W.fnOf name qual params body scope dV kV doc pm an cdv ct) ps sp:=by
 refine⟨len,λA outer s H args us vs Q E hr e0 hb r hsp=>?_⟩;have hl:=len _ _ _ _ hsp;have KX:K.In s.heap:=e0.mod.kin.keeps λb o e=>(e0.bs b o e).1;have lim:s.heap.NoLimit:=e0.mod.nolimit.keeps λb o e=>(e0.bs b o e).1;have hkind:∀y∈ps.zip us,scope.names.lookup y.1=some .local∨(scope.names.lookup y.1=some .cell/\((cellsFrom (s.heap.objs.size+1) scope.names []).lookup y.1).isSome=true):=λ⟨n,v⟩ hy=>by
  rcases S.par n (List.of_mem_zip hy).1 with q|q
  ·exact .inl q
  ·exact .inr ⟨q,PySem.W.cellsFrom_some _ _ _ (.inl q)⟩
 refine codeAny_call_function hr.depth (KX _ _ lk) rfl S.co S.gen rfl (PySem.W.codeRec_of KX hcd) (hb _ _ _ _ ?_);refine wpAny_newFunctionEnv_cells S.kind hkind λenv he s1 x=>?_;subst he;refine⟨lim.keeps x.toInCall.keep,codeAny_func ?_⟩;obtain⟨t,ht,hq⟩:=hbody A outer s H vs Q E (hr.deeper _) hsp;have I:Inv (lu CX P w K mg base N qual scope f cdv A outer s H E) [] (gY N vs) H s1:=xJ S hr.hd e0 hl r x;refine wpAny_mono (ht [] s1 (gY N vs) H _ I hq) (λfl s' hs=>?_) λe s' hs=>hs;have fin:∀ {σ':St}{H':Hp}{v:V}{u:Value},Inv (lu CX P w K mg base N qual scope f cdv A outer s H E) [] σ' H' s'->aS v u->Q v H'->CE outer P w H s Q u s' :=
  λ{σ' H' v u} J rv q=>⟨v,H',J.os,J.bare,J.base,J.hok,rv,q⟩
 cases fl with
 |ret u=>
  obtain⟨v,σ',H',J,rv,q⟩:=hs;exact fin J rv q
 |next=>
  obtain⟨σ',H',J,q⟩:=hs;exact fin (v:=V.non) (u:=Value.none) J rfl q
 |brk=>
  obtain⟨_,_,_,q⟩:=hs;exact False.elim q
 |cont=>
  obtain⟨_,_,_,q⟩:=hs;exact False.elim q
section
variable {X:Cx}{x:Str}{p pos:Pos}{e:Expr}{es:List Expr}{t:TA}{id T:String}{r:List V->Hp->VK->Prop}
def tCB (r:List V->Hp->VK->Prop)(t:TA):TE:=λσ H Q=>t σ H λvs H1=>r vs H1 Q
theorem rE (hc:bB X (.builtin id) r)(hg:Gl X x)(hm:X.mg x=none)(hv:bootBuiltins x=some (.builtin id))(ha:PA X (e::es) t)(hn:x ≠ "__name__":=by decide)(hdb:(x == ("__debug__" : Str))=false:=by decide)
  (he:starEach (e::es) X.env=(false,eval e X.env)::starEach es X.env:=by rfl) (hpl:(backTo pos (starEach es X.env)).any (·.1)=false:=by rfl):PE X (.Call (.Name x p) (e::es) [] pos) (tCB r t):=by
 intro pins s σ H Q I h;refine wpAny_Call_Name_kw (ia I hg hm hv ?_ hn hdb);exact PyProof.Rows.callWith_builtin1 (thn (ha pos pins s σ H _ I h) λus s1 ⟨vs,H1,I1,r1,q1⟩=>hc pins s1 σ H1 vs us Q I1 r1 q1) he hpl
theorem oD (hc:bB X (.type T) r)(hg:Gl X x)(hm:X.mg x=none)(hv:bootBuiltins x=some (.type T))(ha:PA X (e::es) t)(hn:x ≠ "__name__":=by decide)(hdb:(x == ("__debug__" : Str))=false:=by decide)
  (he:starEach (e::es) X.env=(false,eval e X.env)::starEach es X.env:=by rfl) (hpl:(backTo pos (starEach es X.env)).any (·.1)=false:=by rfl):PE X (.Call (.Name x p) (e::es) [] pos) (tCB r t):=by
 intro pins s σ H Q I h;refine wpAny_Call_Name_kw (ia I hg hm hv ?_ hn hdb);exact PyProof.Rows.callWith_type1 (thn (ha pos pins s σ H _ I h) λus s1 ⟨vs,H1,I1,r1,q1⟩=>hc pins s1 σ H1 vs us Q I1 r1 q1) he hpl
end
end L2
namespace HT
open PySem PyProof.Rows
section
open PySem.SeqAt
open PySem.AutoSeq1 (wpAny_loadPart')
open PySem.MeetsSeq PySem.MeetsSeq2 PySem.MeetsSeq3
end
section
variable {prog:Program}{w:World}{A:Around}{E:Value->Shared->Prop}{s:Shared}
theorem Bu {t b:Addr}{vs ws:List Value}{Q:Value->Shared->Prop}(ht:IsTup s.heap t vs.toArray)(hb:IsTup s.heap b ws.toArray)(hv:vs≠[])
  (h1:ws=[]->Q (.ref t) s) (h2:ws≠[]->Q (.ref s.heap.objs.size) { s with heap:=s.heap.push { cls:=.type "tuple",data:=.seq (vs++ws).toArray } })
  (hsz:vs.length+ws.length<=sizeLine):wpAny (model prog w) A (binaryOp .Add (.ref t) (.ref b)) Q E s:=by
 obtain⟨⟨cls,dd,data,sl⟩,ho,hc,n,hd⟩:=id ht;obtain⟨⟨cls2,dd2,data2,sl2⟩,ho2,hc2,n2,hd2⟩:=id hb;simp only at hc hd hc2 hd2;subst hc hd hc2 hd2;have e:vs.toArray++ws.toArray=(vs++ws).toArray:=by simp
 by_cases hw:ws=[]
 ·exact concat_meets ⟨_,ho,rfl⟩ ⟨_,ho2,rfl⟩ noFill_tuple_add seq_tuple_add PySem.F.slot_tuple_add PySem.F.entry_tuple_add (PySem.F.args_tuple_add_2 _ _)
   (tuple_addW1 t b vs.toArray ws.toArray n n2 dd dd2 sl sl2 (by simpa using hv) (by simp[hw])) ⟨ho,ho2,h1 hw⟩
 ·refine concat_meets ⟨_,ho,rfl⟩ ⟨_,ho2,rfl⟩ noFill_tuple_add seq_tuple_add PySem.F.slot_tuple_add PySem.F.entry_tuple_add (PySem.F.args_tuple_add_2 _ _)
   (tuple_addW2 t b vs.toArray ws.toArray n n2 dd dd2 sl sl2 (by simpa using hv) (by simpa using hw) (by rw[List.size_toArray,List.size_toArray];exact hsz)) ⟨ho,ho2,?_⟩
  rw[e];exact h2 hw
noncomputable def sIx (n d:Nat):Option Int->Nat
 |none=>d
 |some v=>if v<0 then (v+(n:Int)).toNat else min v.toNat n
theorem Er (n d:Nat)(hd:d<=n)(o:Option Int):sIx n d o<=n:=by
 cases o with
 |none=>exact hd
 |some v=>
  show(if v<0 then (v+(n:Int)).toNat else min v.toNat n)<=n;by_cases hv:v<0
  ·rw[if_pos hv];omega
  ·rw[if_neg hv];exact Nat.min_le_right _ _
theorem vR (v:Int)(n d:Nat):(if v<0 then max (v+(n:Int)) 0 else min v (n:Int))=((sIx n d (some v):Nat):Int):=by
 show(if v<0 then max (v+(n:Int)) 0 else min v (n:Int))=(((if v<0 then (v+(n:Int)).toNat else min v.toNat n):Nat):Int);by_cases hv:v<0
 ·simp only[if_pos hv];omega
 ·simp only[if_neg hv];omega
theorem u5 (lo hi:Option Int)(n:Nat):Builtin.Slice.sliceAdjust lo hi 1 (n:Int)=(((sIx n 0 lo:Nat):Int),((sIx n n hi:Nat):Int)):=by
 have h1:¬((1:Int)<0):=by omega
 unfold Builtin.Slice.sliceAdjust;simp only[h1,if_false];refine Prod.ext ?_ ?_
 ·cases lo with
  |none=>rfl
  |some v=>exact vR v n 0
 ·cases hi with
  |none=>rfl
  |some v=>exact vR v n n
theorem u6 (i j:Nat):Builtin.Slice.slicePlaces (i:Int) (j:Int) 1=j - i:=by
 unfold Builtin.Slice.slicePlaces;have h1:(1:Int) > 0:=by omega
 simp only[h1,if_true,Int.ediv_one];split<;>omega
theorem lM {v:Value}{o:Option Int}{Q:Option Int->Shared->Prop}(p:IsPart v o)(h:Q o s):wpAny (model prog w) A (Builtin.Slice.slicePartIndex v) Q E s:=by
 cases p with
 |none=>exact slicePart_none h
 |int i t=>exact slicePart_int h
theorem gf {sl:Addr}{vl vu:Value}{lo hi:Option Int}{n:Nat}{Q:Int×Int×Nat->Shared->Prop}(hs:s.heap.IsSliceOf sl vl vu .none)(pl:IsPart vl lo)(pu:IsPart vu hi)
  (h:Q (((sIx n 0 lo:Nat):Int),1,sIx n n hi - sIx n 0 lo) s):wpAny (model prog w) A (Builtin.Slice.sliceApplied (.ref sl) (pure (n:Int))) Q E s:=by
 obtain⟨os,hos,hcs,hds⟩:=id hs;unfold Builtin.Slice.sliceApplied Builtin.Slice.sliceFields;refine wX (wX (wpAny_field hos hds (x:=vl) rfl (wX (wpAny_field hos hds (x:=vu) rfl (wX (wpAny_field hos hds (x:=.none) rfl (wY ?_)))))));refine wX (slicePart_none ?_);show wpAny _ _ (if((1:Int) == 0)=true then _ else _) _ _ s;rw[if_neg (by decide)];refine wX (lM pl (wX (lM pu (wX (wY ?_)))));show wpAny _ _ (match Builtin.Slice.sliceAdjust lo hi 1 (n:Int) with|(lo,hi)=>pure (lo,(1:Int),Builtin.Slice.slicePlaces lo hi 1)) _ _ s;rw[u5 lo hi n];show wpAny _ _ (pure (((sIx n 0 lo:Nat):Int),(1:Int),Builtin.Slice.slicePlaces ((sIx n 0 lo:Nat):Int) ((sIx n n hi:Nat):Int) 1)) _ _ s;rw[u6];exact wY h
theorem yT (xs:Array Value)(i k:Nat):((List.range k).filterMap λ(m:Nat)=>xs[((i:Int)+(m:Int)*1).toNat]?).toArray=((xs.toList.drop i).take k).toArray:=by
 have e:(λ(m:Nat)=>xs[((i:Int)+(m:Int)*1).toNat]?)=λm=>xs[i+m]?:=by
  funext m;have:((i:Int)+(m:Int)*1).toNat=i+m:=by omega
  rw[this]
 rw[e];have:=pick_run xs i k;rw[List.filterMap_map]at this;have e2:((λx=>xs[x]?) ∘ λx=>i+x)=λm=>xs[i+m]?:=rfl;rw[e2]at this;rw[this]
theorem jv {t sl:Addr}{items:Array Value}{vl vu:Value}{lo hi:Option Int}{Q:Value->Shared->Prop}(ht:IsTup s.heap t items)(hs:s.heap.IsSliceOf sl vl vu .none)(pl:IsPart vl lo)(pu:IsPart vu hi)
  (hw:¬(sIx items.size 0 lo=0/\sIx items.size items.size hi=items.size))
  (h:Q (.ref s.heap.objs.size) { s with heap:=s.heap.push { cls:=.type "tuple",data:=.seq ((items.toList.drop (sIx items.size 0 lo)).take (sIx items.size items.size hi - sIx items.size 0 lo)).toArray } })
  (hsz:items.size<=sizeLine):wpAny (model prog w) A (getItem (.ref t) (.ref sl)) Q E s:=by
 have htake:sizeOk (.seq ((items.toList.drop (sIx items.size 0 lo)).take (sIx items.size items.size hi - sIx items.size 0 lo)).toArray):=by
  show((items.toList.drop (sIx items.size 0 lo)).take (sIx items.size items.size hi - sIx items.size 0 lo)).toArray.size<=sizeLine
  rw[List.size_toArray,List.length_take,List.length_drop,Array.length_toList]
  omega
 have hj:sIx items.size items.size hi<=items.size:=Er _ _ (Nat.le_refl _) hi
 obtain⟨os,hos,hcs,hds⟩:=id hs
 have hTs:s.TypeIs (.ref sl) "slice":=⟨os,hos,hcs⟩
 unfold getItem
 try with_reducible refine wpAny_holding ?_
 first|refine wX (wY ?_)|skip
 refine wX (wpAny_sequenceKey ht.typeIs (by decide) ?_)
 refine wX (wpAny_callSpecial?_slot (name:=Str.ofString "__getitem__") ht.typeIs PyProof.Rows.slot_tuple_getitem
  (wpAny_call_entry PyProof.Rows.slot_tuple_getitem ht.typeIs entry_tuple_getitem ?_ (args_tuple_getitem _ _)))
 show wpAny _ _ (Builtin.Tuple.tupleItemsOf (.ref t)>>=_) _ _ s
 refine wX (tupleItemsOf_ ht ?_)
 refine wX (wpAny_typeOf hTs ?_)
 rw[if_pos (by decide)]
 refine wX (gf hs pl pu ?_)
 have hno:¬((((sIx items.size 0 lo:Nat):Int) == 0 && (1:Int) == 1 && (sIx items.size items.size hi - sIx items.size 0 lo) == items.size)=true):=by
  intro q
  rw[Bool.and_eq_true,Bool.and_eq_true]at q
  have q1:((sIx items.size 0 lo:Nat):Int)=0:=eq_of_beq q.1.1
  have q2:sIx items.size items.size hi - sIx items.size 0 lo=items.size:=eq_of_beq q.2
  exact hw ⟨by omega,by omega⟩
 show wpAny _ _ (if(((sIx items.size 0 lo:Nat):Int) == 0 && (1:Int) == 1 && (sIx items.size items.size hi - sIx items.size 0 lo) == items.size)=true then _ else _) _ _ s
 rw[if_neg hno,yT]
 first
  |exact wX (m:=Builtin.Tuple.tupleExact _) (wpAny_newObj_type (wY ⟨_,rfl,wY h⟩) htake)
  |exact wX (m:=Builtin.Tuple.tupleExact _) (wpAny_newObj_type (wX (wY (wY ⟨_,rfl,wY h⟩))) htake)
  |exact wX (wX (m:=Builtin.Tuple.tupleExact _) (wpAny_newObj_type (wY (wY ⟨_,rfl,wY h⟩)) htake))
  |exact wX (wX (m:=Builtin.Tuple.tupleExact _) (wpAny_newObj_type (wY ⟨_,rfl,wY h⟩) htake))
end
end HT
namespace L2
open PySem PySem.Spec PyProof.Rows
abbrev TO:=St->Hp->(Option Int->Hp->Prop)->Prop
def PO (X:Cx)(e:Option Expr)(t:TO):Prop :=
 ∀(pins:List (Addr×Obj))(s:Shared)(σ:St)(H:Hp)(Q:Option Int->Hp->Prop),Inv X pins σ H s->t σ H Q ->
  wpAny (model X.prog X.w) X.A (evalPart e X.env) (λu s'=>∃o H',Inv X pins σ H' s'/\IsPart u o/\Q o H') X.xe s
def Bv:TO:=λ_ H Q=>Q none H
def Gk (t:TE):TO:=λσ H Q=>t σ H λx H1=>∃i,x=.int i/\Q (some i) H1
section
variable {X:Cx}{e:Expr}{te:TE}{lo hi:Option Expr}{tl th:TO}{pos p2:Pos}
theorem Bw:PO X none Bv:=by
 intro pins s σ H Q I h;rw[evalPart_none];exact wY ⟨none,H,I,.none,h⟩
theorem By (h:PE X e te):PO X (some e) (Gk te):=by
 intro pins s σ H Q I hw;rw[evalPart_some];refine thn (h pins s σ H _ I hw) λu s1 ⟨x,H1,I1,r1,q1⟩=>?_;obtain⟨i,rfl,q⟩:=q1;obtain⟨t,rfl⟩:=r1;exact⟨some i,H1,I1,.int i t,q⟩
def SlR (X:Cx)(r:V->Option Int->Option Int->Hp->VK->Prop):Prop :=
 ∀(pins:List (Addr×Obj))(s:Shared)(σ:St)(H:Hp)(x:V)(v vl vu:Value)(lo hi:Option Int)(sl:Addr)(Q:VK),Inv X pins σ H s->aS x v->s.heap.IsSliceOf sl vl vu .none->IsPart vl lo->IsPart vu hi->r x lo hi H Q ->
  ∃T id,typeLookup (.type T) "__getitem__" = pure (some (.builtin id))/\s.TypeIs v T/\wpAny (model X.prog X.w) X.A (getItem v (.ref sl)) (EP X pins σ Q) X.xe s
theorem SlR.or {r r':V->Option Int->Option Int->Hp->VK->Prop}(h:SlR X r)(h':SlR X r'):SlR X (λx lo hi H Q=>r x lo hi H Q∨r' x lo hi H Q):=by
 intro pins s σ H x v vl vu lo hi sl Q I rx hs pl pu q;rcases q with q|q
 ·exact h pins s σ H x v vl vu lo hi sl Q I rx hs pl pu q
 ·exact h' pins s σ H x v vl vu lo hi sl Q I rx hs pl pu q
def tSl (r:V->Option Int->Option Int->Hp->VK->Prop)(te:TE)(tl th:TO):TE:=λσ H Q=>te σ H λx H1=>tl σ H1 λl H2=>th σ H2 λu H3=>r x l u H3 Q
theorem yU {r:V->Option Int->Option Int->Hp->VK->Prop}(hr:SlR X r)(he:PE X e te)(hl:PO X lo tl)(hu:PO X hi th):PE X (.Subscript e (.Slice lo hi none p2) pos) (tSl r te tl th):=by
 intro pins s σ H Q I h;refine Subscript_ (thn (he pins s σ H _ I h) λv s1 ⟨x,H1,I1,r1,q1⟩=>?_);refine wpAny_Slice (thn (hl pins s1 σ H1 _ I1 q1) λvl s2 ⟨l,H2,I2,pl,q2⟩=>thn (hu pins s2 σ H2 _ I2 q2) λvu s3 ⟨u,H3,I3,pu,q3⟩=>?_);rw[evalPart_none];refine wY ?_;have I4:Inv X pins σ H3 { s3 with heap:=s3.heap.push { cls:=.type "slice",data:=.fields #[vl,vu,.none] } }:=I3.kept (t':=s3.toks) λb ob q=>Heap.get?_push_of_some _ q;obtain⟨T,id,hT,ht,hg⟩:=hr pins { s3 with heap:=s3.heap.push { cls:=.type "slice",data:=.fields #[vl,vu,.none] } } σ H3 x v vl vu l u s3.heap.objs.size Q I4 r1 (Heap.IsSliceOf.new ..) pl pu q3;show wpAny (model X.prog X.w) X.A (subscriptTail e (.Slice lo hi none p2) v (.ref s3.heap.objs.size)) (EP X pins σ Q) X.xe { s3 with heap:=s3.heap.push { cls:=.type "slice",data:=.fields #[vl,vu,.none] } };exact tail_any (ops:=[.ref s3.heap.objs.size,v]) ht hT hg (by with_unfolding_all rfl)
noncomputable def nS (xs:List V)(lo hi:Option Int):List V:=(xs.drop (HT.sIx xs.length 0 lo)).take (HT.sIx xs.length xs.length hi - HT.sIx xs.length 0 lo)
theorem kN (xs:List V)(lo hi:Option Int):(nS xs lo hi).length<=xs.length:=by
 unfold nS;rw[List.length_take,List.length_drop];omega
def Hq (K:PySem.W.Frag):V->Option Int->Option Int->Hp->VK->Prop:=λx lo hi H Q=>∃a xs,x=.ref a/\SqT K H a xs /\
 ¬(HT.sIx xs.length 0 lo=0/\HT.sIx xs.length xs.length hi=xs.length)/\∀p,H p=none->Q (.ref p) (upd H p (.tup (nS xs lo hi)))
theorem Es:SlR X (Hq X.K):=by
 intro pins s σ H x v vl vu lo hi sl Q I rx hs pl pu h;obtain⟨a,xs,rfl,hx,hw,q⟩:=h;cases rx
 obtain⟨its,r,ht,hz⟩:=I.tuple hx;have hlen:its.toArray.size=xs.length:=by rw[List.size_toArray];exact r.length.symm
 refine⟨"tuple",_,PyProof.Rows.slot_tuple_getitem.lookup,ht.typeIs,?_⟩;refine HT.jv ht hs pl pu (by rw[hlen];exact hw) ?_ (by rw[hlen];exact hz);rw[hlen];refine⟨.ref s.heap.objs.size,_,I.laid (t':=s.toks) (o:=.tup (nS xs lo hi)) (λb ob q=>Heap.get?_push_of_some _ q) (Nat.le_refl _) ?_,rfl,q _ (I.hok.fresh (Nat.le_refl _))⟩;exact⟨Nat.le_trans (kN xs lo hi) hz,_,(r.drop (HT.sIx xs.length 0 lo)).take (HT.sIx xs.length xs.length hi - HT.sIx xs.length 0 lo),IsTup.new _ _⟩
def Gm (K:PySem.W.Frag):R2:=λx y H Q=>∃a b xs ys,x=.ref a/\y=.ref b/\SqT K H a xs/\SqT K H b ys/\xs≠[]/\xs.length+ys.length<=sizeLine /\
 (ys=[]->Q (.ref a) H)/\(ys≠[]->∀p,H p=none->Q (.ref p) (upd H p (.tup (xs++ys))))
theorem aT.nil_iff {xs:List V}{us:List Value}(r:aT xs us):us=[]↔xs=[]:=by
 cases r with
 |nil=>simp
 |cons _ _=>simp
theorem Bz:OpR X (binaryOp .Add) (Gm X.K):=by
 intro pins s σ H x y v u Q I rx ry h;obtain⟨a,b,xs,ys,rfl,rfl,ha,hb,hx,hz,q1,q2⟩:=h;cases rx
 cases ry
 obtain⟨its,r1,p1,_⟩:=I.tuple ha;obtain⟨its2,r2,p2,_⟩:=I.tuple hb;refine HT.Bu p1 p2 (λz=>hx (r1.nil_iff.mp z)) (λz=>⟨.ref a,H,I,rfl,q1 (r2.nil_iff.mp z)⟩) (λz=>?_) (by rw[←r1.length,←r2.length];exact hz);refine⟨.ref s.heap.objs.size,_,I.laid (t':=s.toks) (o:=.tup (xs++ys)) (λb ob q=>Heap.get?_push_of_some _ q) (Nat.le_refl _) ?_,rfl,q2 (λw=>z (r2.nil_iff.mpr w)) _ (I.hok.fresh (Nat.le_refl _))⟩;exact⟨by rw[List.length_append];exact hz,_,r1.append r2,IsTup.new _ _⟩
end
noncomputable def ixN (n:Nat)(i:Int):Option Nat:=if 0<=i then (if i<n then some i.toNat else none)else if -(n:Int)<=i then some (i+n).toNat else none
noncomputable def atI {α:Type}(xs:List α)(i:Int):Option α:=(ixN xs.length i).bind λj=>xs[j]?
theorem vS {n:Nat}{i:Int}{j:Nat}(h:ixN n i=some j):seqIndex? i n=some j/\j<n/\-(n:Int)<=i/\i<n:=by
 unfold ixN at h;by_cases h0:0<=i
 ·rw[if_pos h0]at h;by_cases h1:i<n
  ·rw[if_pos h1]at h;have e:i.toNat=j:=Option.some.inj h;exact⟨by rw[seqIndex_of h0 h1,e],by omega,by omega,h1⟩
  ·rw[if_neg h1]at h;cases h
 ·rw[if_neg h0]at h;by_cases h1 : -(n:Int)<=i
  ·rw[if_pos h1]at h;have e:(i+n).toNat=j:=Option.some.inj h;exact⟨by rw[seqIndex_neg (by omega) h1,e],by omega,h1,by omega⟩
  ·rw[if_neg h1]at h;cases h
theorem pL {α:Type}{xs:List α}{i:Int}{v:α}(h:atI xs i=some v):∃j,seqIndex? i xs.length=some j/\xs[j]? = some v/\j<xs.length/\-(xs.length:Int)<=i/\i<xs.length:=by
 unfold atI at h;cases e:ixN xs.length i with
 |none=>rw[e]at h;cases h
 |some j=>
  rw[e]at h;obtain⟨h1,h2,h3,h4⟩:=vS e;exact⟨j,h1,h,h2,h3,h4⟩
theorem B1 {α:Type}{xs:List α}{j:Nat}{v:α}(h:xs[j]? = some v):atI xs (j:Int)=some v:=by
 have hj:j<xs.length:=(List.getElem?_eq_some_iff.mp h).1;have e:ixN xs.length (j:Int)=some j:=by
  unfold ixN;rw[if_pos (by omega),if_pos (by omega)];simp
 unfold atI;rw[e];exact h
def pM (b:Expr):Prop:=∀o i,subscripted b false o i=operate [o,i] (getItem o i)
def IxR (X:Cx)(r:R2):Prop :=
 ∀(value slice:Expr)(pins:List (Addr×Obj))(s:Shared)(σ:St)(H:Hp)(x y:V)(v u:Value)(Q:VK),Inv X pins σ H s->aS x v->aS y u->r x y H Q ->
  subscripted slice false v u=operate [v,u] (getItem v u)->wpAny (model X.prog X.w) X.A (subscriptTail value slice v u) (EP X pins σ Q) X.xe s
def MtR (X:Cx)(id:String)(r:V->List V->Hp->VK->Prop):Prop :=
 ∀(pins:List (Addr×Obj))(s:Shared)(σ:St)(H:Hp)(x:V)(xs:List V)(v:Value)(us:List Value)(Q:VK),Inv X pins σ H s->aS x v->aT xs us->r x xs H Q ->
  wpAny (model X.prog X.w) X.A (call (.builtin id) (v::us)) (EP X pins σ Q) X.xe s
section
variable {X:Cx}{a b:Expr}{ta tb:TE}{pos:Pos}
theorem IxR.or {r r':R2}(h:IxR X r)(h':IxR X r'):IxR X (λx y H Q=>r x y H Q∨r' x y H Q):=by
 intro value slice pins s σ H x y v u Q I rx ry q hs;rcases q with q|q
 ·exact h value slice pins s σ H x y v u Q I rx ry q hs
 ·exact h' value slice pins s σ H x y v u Q I rx ry q hs
theorem MtR.or {id:String}{r r':V->List V->Hp->VK->Prop}(h:MtR X id r)(h':MtR X id r'):MtR X id (λx xs H Q=>r x xs H Q∨r' x xs H Q):=by
 intro pins s σ H x xs v us Q I rx rs q;rcases q with q|q
 ·exact h pins s σ H x xs v us Q I rx rs q
 ·exact h' pins s σ H x xs v us Q I rx rs q
theorem CW {r:R2}(hr:IxR X r)(ha:PE X a ta)(hb:PE X b tb)(hs:pM b):PE X (.Subscript a b pos) (tOp r ta tb):=by
 intro pins s σ H Q I h;exact Subscript_ (Ee ha hb I h λv u s2 x y H2 I2 rx ry q=>hr a b pins s2 σ H2 x y v u Q I2 rx ry q (hs _ _))
def Hr (K:PySem.W.Frag):R2:=λx y H Q=>∃p xs i v,x=.ref p/\y=.int i/\SqL K H p xs/\atI xs i=some v/\Q v H
def Hs (K:PySem.W.Frag):R2:=λx y H Q=>∃p xs i v,x=.ref p/\y=.int i/\SqT K H p xs/\atI xs i=some v/\Q v H
def Ht:R2:=λx y H Q=>∃z i c,x=.str z/\y=.int i/\z.length<=sizeLine/\atI z.cps.toList i=some c/\Q (.str ⟨#[c]⟩) H
theorem B3:IxR X (Hr X.K):=by
 intro value slice pins s σ H x y v u Q I rx ry h hs;obtain⟨p,xs,i,z,rfl,rfl,hq,he,q⟩:=h;cases rx
 obtain⟨t,rfl⟩:=ry;obtain⟨its,r,pl,hz⟩:=I.list hq;obtain⟨j,h1,h2,h3,h4,h5⟩:=pL he;obtain⟨w,ew,rw'⟩:=r.get h2;have hl:=r.length;have hn:=kg;have fin:EP X pins σ Q w s:=⟨z,H,I,rw',q⟩;by_cases h0:0<=i
 ·have hj:i.toNat=j:=by
   rw[seqIndex_of h0 h5]at h1;exact Option.some.inj h1
  exact item_listR pl.isList h0 (by omega) (by rw[hj];simpa using ew) fin hs
 ·have hj:(i+(its.toArray.size:Int)).toNat=j:=by
   rw[seqIndex_neg (by omega) h4]at h1;rw[List.size_toArray,←hl];exact Option.some.inj h1
  exact subscriptTail_builtinR (x:=w) pl.isList.typeIs slot_list_getitem.lookup
   (wpAny_getItem_list_neg (Q:=λr s'=>r=w/\EP X pins σ Q r s') pl.isList (by omega) (by rw[List.size_toArray]<;>omega) (by omega) (by rw[hj];simpa using ew) ⟨rfl,fin⟩) hs
theorem pN:IxR X (Hs X.K):=by
 intro value slice pins s σ H x y v u Q I rx ry h hs;obtain⟨p,xs,i,z,rfl,rfl,hq,he,q⟩:=h;cases rx
 obtain⟨t,rfl⟩:=ry;obtain⟨its,r,pl,hz⟩:=I.tuple hq;obtain⟨j,h1,h2,h3,h4,h5⟩:=pL he;obtain⟨w,ew,rw'⟩:=r.get h2;have hl:=r.length;have hn:=kg;have fin:EP X pins σ Q w s:=⟨z,H,I,rw',q⟩;exact subscriptTail_builtinR (x:=w) pl.typeIs slot_tuple_getitem.lookup
  (getItem_tuple (j:=j) (Q:=λr s'=>r=w/\EP X pins σ Q r s') pl (by omega) (by omega) (by rw[List.size_toArray,←hl];exact h1) (by simpa using ew) ⟨rfl,fin⟩) hs
theorem uA:IxR X Ht:=by
 intro value slice pins s σ H x y v u Q I rx ry h hs;obtain⟨z,i,c,rfl,rfl,hz,he,q⟩:=h;obtain⟨t,rfl⟩:=rx;obtain⟨t',rfl⟩:=ry;obtain⟨j,h1,h2,h3,h4,h5⟩:=pL he;have hl:z.cps.toList.length=z.length:=by simp[Str.length]
 rw[hl]at h1 h4 h5;have hn:=kg;exact tail_any (typeIs_str s z t) slot_str_getitem.lookup (getItem_str (c:=c) (by
  have e1:decide (i < -(2 ^ 63:Int))=false:=decide_eq_false (by omega);have e2:decide (i ≥ 2 ^ 63)=false:=decide_eq_false (by omega);rw[e1,e2,Bool.or_false]) (by rw[h1];simpa using h2) ⟨.str ⟨#[c]⟩,H,I.tok _,⟨_,rfl⟩,q⟩) hs
theorem uB (its:List Value)(n j:Nat)(u:Value):Obj.mapSeq (·.setIfInBounds j u) { cls:=.type "list",data:=.seq its.toArray n }={ cls:=.type "list",data:=.seq (its.set j u).toArray n }:=by
 simp[Obj.mapSeq]
theorem Inv.lst {pins:List (Addr×Obj)}{σ:St}{H:Hp}{s:Shared}{p:Addr}{xs:List V}(I:Inv X pins σ H s)(h:H p=some (.lst xs)):
  ∃(its:List Value)(n:Nat),aT xs its/\s.heap.get? p=some { cls:=.type "list",data:=.seq its.toArray n }/\xs.length<=sizeLine:=by
 obtain⟨z,its,n,r,e⟩:=I.hok p _ h;exact⟨its,n,r,e,z⟩
theorem Inv.lstUpd {pins:List (Addr×Obj)}{σ:St}{H:Hp}{s:Shared}{p:Addr}{xs ys:List V}{its its':List Value}{n n':Nat}{f:Obj->Obj}(I:Inv X pins σ H s)(h:H p=some (.lst xs))
  (ho:s.heap.get? p=some { cls:=.type "list",data:=.seq its.toArray n }) (hf:f { cls:=.type "list",data:=.seq its.toArray n }={ cls:=.type "list",data:=.seq its'.toArray n' }) (r:aT ys its') (hz:ys.length<=sizeLine) (t:Nat):
  Inv X pins σ (upd H p (.lst ys)) { s with heap:=s.heap.update p f,toks:=t }:=by
 have e:(s.heap.update p f).get? p=some { cls:=.type "list",data:=.seq its'.toArray n' }:=by
  rw[Heap.get?_update_self f ho (by rw[hf]<;>rfl),hf]
 refine I.write (x:=p) (e:=p) (by rw[h];trivial) (.inl rfl) (λb u hb q=>(Heap.get?_update_other _ _ (Ne.symm hb)).trans q) ⟨_,e⟩ ?_;exact⟨hz,its',n',r,e⟩
def Gn:V->V->V->Hp->(Hp->Prop)->Prop:=λo i v H Q=>∃p xs k j,o=.ref p/\i=.int k/\H p=some (.lst xs)/\ixN xs.length k=some j/\Q (upd H p (.lst (xs.set j v)))
theorem yV:FR X Gn:=by
 intro pins s σ H o i v ov iv u Q I ro ri rv h;obtain⟨p,xs,k,j,rfl,rfl,hp,hj,q⟩:=h;cases ro
 obtain⟨t,rfl⟩:=ri;obtain⟨its,n,r,ho,hz⟩:=I.lst hp;obtain⟨h1,h2,h3,h4⟩:=vS hj;have hl:=r.length;have hn:=kg;have I':Inv X pins σ (upd H p (.lst (xs.set j v))) { s with heap:=s.heap.update p (Obj.mapSeq (·.setIfInBounds j u)) } :=
  I.lstUpd hp ho (uB its n j u) (r.set rv j) (by rw[List.length_set];exact hz) s.toks
 by_cases h0:0<=k
 ·have hk:k.toNat=j:=by
   rw[seqIndex_of h0 h4]at h1;exact Option.some.inj h1
  exact PySem.W.ki_setAt ho h0 (by omega) (by rw[List.size_toArray,←hl];exact h4) (by rw[hk];exact⟨_,I',q⟩)
 ·have hk:(k+(its.toArray.size:Int)).toNat=j:=by
   rw[seqIndex_neg (by omega) h3]at h1;rw[List.size_toArray,←hl];exact Option.some.inj h1
  exact PySem.W.ki_setBack ho (by omega) (by rw[List.size_toArray,←hl];exact h3) (by omega) (by rw[hk];exact⟨_,I',q⟩)
theorem pO (lo hi:Option Int)(n:Nat):(sliceBounds lo hi none n).1=((HT.sIx n 0 lo:Nat):Int)/\(sliceBounds lo hi none n).2.1=((HT.sIx n n hi:Nat):Int)/\(sliceBounds lo hi none n).2.2=1:=by
 refine⟨?_,?_,rfl⟩
 ·cases lo with
  |none=>simp[sliceBounds,HT.sIx]
  |some i=>
   simp only[sliceBounds,HT.sIx,Option.getD_none,show(1:Int) > 0 by decide,if_true];by_cases h:i<0
   ·simp only[h,if_true]<;>omega
   ·simp only[h,if_false]<;>omega
 ·cases hi with
  |none=>simp[sliceBounds,HT.sIx]
  |some i=>
   simp only[sliceBounds,HT.sIx,Option.getD_none,show(1:Int) > 0 by decide,if_true];by_cases h:i<0
   ·simp only[h,if_true]<;>omega
   ·simp only[h,if_false]<;>omega
theorem nU (its:List Value)(lo hi:Option Int):slicePick its.toArray lo hi none=((its.drop (HT.sIx its.length 0 lo)).take (HT.sIx its.length its.length hi - HT.sIx its.length 0 lo)).toArray:=by
 obtain⟨h1,h2,h3⟩:=pO lo hi its.toArray.size;unfold slicePick;rw[h1,h2,h3];simp only[sliceRange_one,pick_run,List.size_toArray]<;>rfl
def Hu (K:PySem.W.Frag):V->Option Int->Option Int->Hp->VK->Prop:=λx lo hi H Q=>∃a xs,x=.ref a/\SqL K H a xs/\∀p,H p=none->Q (.ref p) (upd H p (.lst (nS xs lo hi)))
theorem B4:SlR X (Hu X.K):=by
 intro pins s σ H x v vl vu lo hi sl Q I rx hs pl pu h;obtain⟨a,xs,rfl,hx,q⟩:=h;cases rx
 obtain⟨its,r,ht,hz⟩:=I.list hx;have hlen:=r.length;refine⟨"list",_,slot_list_getitem.lookup,ht.isList.typeIs,?_⟩;refine wpAny_getItem_list_slice ht.isList hs pl pu .none (by simp) ?_ (by rw[List.size_toArray]<;>omega)
 rw[nU,←hlen];refine⟨.ref s.heap.objs.size,_,I.laid (t':=s.toks) (o:=.lst (nS xs lo hi)) (λb ob q=>Heap.get?_push_of_some _ q) (Nat.le_refl _) ?_,rfl,q _ (I.hok.fresh (Nat.le_refl _))⟩;exact⟨Nat.le_trans (kN xs lo hi) hz,_,0,(r.drop (HT.sIx xs.length 0 lo)).take (HT.sIx xs.length xs.length hi - HT.sIx xs.length 0 lo),Heap.get?_push_size _ rfl⟩
noncomputable def iV:V->Bool
 |.non=>true
 |.bl _=>true
 |.int _=>true
 |.str _=>true
 |_=>false
noncomputable def eqV:V->V->Bool
 |.non,.non=>true
 |.bl a,.bl b=>a == b
 |.bl a,.int b=>(if a then 1 else 0) == b
 |.int a,.bl b=>a == (if b then 1 else 0)
 |.int a,.int b=>a == b
 |.str a,.str b=>a == b
 |_,_=>false
theorem Et {A:Around}{s:Shared}{y x:V}{u v:Value}(ry:aS y u)(rx:aS x v)(fy:iV y=true)(fx:iV x=true):SeqAt.EqAt A s u v (eqV y x):=by
 cases y with
 |non=>
  cases ry
  cases x with
  |non=>cases rx;exact SeqAt.EqAt.same _
  |bl b=>cases rx;exact SeqAt.EqAt.none_bool b
  |int b=>obtain⟨t,rfl⟩:=rx;exact SeqAt.EqAt.none_int b t
  |str b=>obtain⟨t,rfl⟩:=rx;exact SeqAt.EqAt.none_str b t
  |_=>exact absurd (show false=true from fx) Bool.false_ne_true
 |bl a=>
  cases ry
  cases x with
  |non=>cases rx;exact SeqAt.EqAt.bool_none a
  |bl b=>cases rx;exact SeqAt.EqAt.bool_bool a b
  |int b=>obtain⟨t,rfl⟩:=rx;exact SeqAt.EqAt.bool_int a b t
  |str b=>obtain⟨t,rfl⟩:=rx;exact SeqAt.EqAt.bool_str a b t
  |_=>exact absurd (show false=true from fx) Bool.false_ne_true
 |int a=>
  obtain⟨t',rfl⟩:=ry;cases x with
  |non=>cases rx;exact SeqAt.EqAt.int_none a t'
  |bl b=>cases rx;exact SeqAt.EqAt.int_bool a t' b
  |int b=>obtain⟨t,rfl⟩:=rx;exact SeqAt.EqAt.int_int a t' b t
  |str b=>obtain⟨t,rfl⟩:=rx;exact SeqAt.EqAt.int_str a t' b t
  |_=>exact absurd (show false=true from fx) Bool.false_ne_true
 |str a=>
  obtain⟨t',rfl⟩:=ry;cases x with
  |non=>cases rx;exact SeqAt.EqAt.str_none a t'
  |bl b=>cases rx;exact SeqAt.EqAt.str_bool a t' b
  |int b=>obtain⟨t,rfl⟩:=rx;exact SeqAt.EqAt.str_int a t' b t
  |str b=>obtain⟨t,rfl⟩:=rx;exact SeqAt.EqAt.str_str a t' b t
  |_=>exact absurd (show false=true from fx) Bool.false_ne_true
 |_=>exact absurd (show false=true from fy) Bool.false_ne_true
noncomputable def eqU (x:V)(u:Value):Bool:=match u with
 |.none=>eqV .non x
 |.bool b=>eqV (.bl b) x
 |.int i _=>eqV (.int i) x
 |.str z _=>eqV (.str z) x
 |_=>false
theorem yW {x y:V}{u:Value}(r:aS y u)(f:iV y=true):eqU x u=eqV y x:=by
 cases y with
 |non=>cases r;rfl
 |bl b=>cases r;rfl
 |int i=>obtain⟨t,rfl⟩:=r;rfl
 |str z=>obtain⟨t,rfl⟩:=r;rfl
 |_=>exact absurd (show false=true from f) Bool.false_ne_true
theorem jw {x:V}:∀ {xs:List V}{us:List Value},aT xs us->xs.all iV=true->us.any (eqU x)=xs.any λy=>eqV y x
 |_,_,.nil,_=>rfl
 |y::xs,u::us,.cons r t,f=>by
  rw[List.all_cons,Bool.and_eq_true]at f;rw[List.any_cons,List.any_cons,yW r f.1,jw t f.2]
theorem ie {A:Around}{s:Shared}{x:V}{v:Value}(rx:aS x v)(fx:iV x=true):∀ {xs:List V}{us:List Value},aT xs us->xs.all iV=true->∀u∈us,SeqAt.EqAt A s u v (eqU x u)
 |_,_,.nil,_=>λu hu=>by cases hu
 |y::xs,u::us,.cons r t,f=>λu' hu=>by
  rw[List.all_cons,Bool.and_eq_true]at f;rcases List.mem_cons.mp hu with rfl|hu
  ·rw[yW r f.1];exact Et r rx f.1 fx
  ·exact ie rx fx t f.2 u' hu
noncomputable def inV (x:V)(xs:List V):Bool:=xs.any λy=>eqV y x
def rIn (K:PySem.W.Frag)(neg:Bool):R2:=λx y H Q=>∃p xs,y=.ref p/\(SqL K H p xs∨SqT K H p xs)/\iV x=true/\xs.all iV=true/\Q (.bl (if neg then !inV x xs else inV x xs)) H
theorem xK:OpR X (compareOp .In) (rIn X.K false):=by
 intro pins s σ H x y v u Q I rx ry h;obtain⟨p,xs,rfl,hq,fx,fs,q⟩:=h;cases ry
 rcases hq with hq|hq
 ·obtain⟨its,r,pl,hz⟩:=I.list hq;refine SeqAt.in_listAt (eqU x) pl.isList (λw hw=>ie rx fx r fs w (by simpa using hw)) ⟨.bl _,H,I,rfl,?_⟩;rw[show its.toArray.any (eqU x)=its.any (eqU x) by simp,jw r fs];exact q
 ·obtain⟨its,r,pl,hz⟩:=I.tuple hq;refine SeqAt.in_tupleAt (eqU x) pl (λw hw=>ie rx fx r fs w (by simpa using hw)) ⟨.bl _,H,I,rfl,?_⟩;rw[show its.toArray.any (eqU x)=its.any (eqU x) by simp,jw r fs];exact q
theorem pP:OpR X (compareOp .NotIn) (rIn X.K true):=by
 intro pins s σ H x y v u Q I rx ry h;obtain⟨p,xs,rfl,hq,fx,fs,q⟩:=h;cases ry
 rcases hq with hq|hq
 ·obtain⟨its,r,pl,hz⟩:=I.list hq;refine SeqAt.notIn_listAt (eqU x) pl.isList (λw hw=>ie rx fx r fs w (by simpa using hw)) ⟨.bl _,H,I,rfl,?_⟩;rw[show its.toArray.any (eqU x)=its.any (eqU x) by simp,jw r fs];exact q
 ·obtain⟨its,r,pl,hz⟩:=I.tuple hq;refine SeqAt.notIn_tupleAt (eqU x) pl (λw hw=>ie rx fx r fs w (by simpa using hw)) ⟨.bl _,H,I,rfl,?_⟩;rw[show its.toArray.any (eqU x)=its.any (eqU x) by simp,jw r fs];exact q
theorem pQ:bB X (.builtin "len") (λxs H Q=>∃p ys,xs=[.ref p]/\(SqL X.K H p ys∨SqT X.K H p ys)/\Q (.int ys.length) H):=by
 intro pins s σ H xs us Q I r h;obtain⟨p,ys,rfl,hq,q⟩:=h;obtain⟨u,rfl,rx⟩:=ge r;cases rx
 have hn:=kg;rcases hq with hq|hq
 ·obtain⟨its,r',pl,hz⟩:=I.list hq;have hlen:=r'.length;exact Calls.call_len_list pl.isList (by simp only[List.size_toArray]<;>omega) ⟨.int ys.length,H,I.tok _,⟨s.toks+1,by rw[List.size_toArray,hlen]⟩,q⟩
 ·obtain⟨its,r',pl,hz⟩:=I.tuple hq;have hlen:=r'.length;exact len_tuple pl (by simp only[List.size_toArray]<;>omega) ⟨.int ys.length,H,I.tok _,⟨s.toks+1,by rw[List.size_toArray,hlen]⟩,q⟩
theorem pR:bB X (.builtin "len") (λxs H Q=>∃z,xs=[.str z]/\z.length<=sizeLine/\Q (.int z.length) H):=by
 intro pins s σ H xs us Q I r h;obtain⟨z,rfl,hz,q⟩:=h;obtain⟨u,rfl,t,rfl⟩:=ge r;have hn:=kg;exact len_str (by omega) ⟨.int z.length,H,I.tok _,⟨_,rfl⟩,q⟩
theorem bB.or {f:Value}{r r':List V->Hp->VK->Prop}(h:bB X f r)(h':bB X f r'):bB X f (λxs H Q=>r xs H Q∨r' xs H Q):=by
 intro pins s σ H xs us Q I rs q;rcases q with q|q
 ·exact h pins s σ H xs us Q I rs q
 ·exact h' pins s σ H xs us Q I rs q
theorem pT:bB X (.type "list") (λxs H Q=>∃p ys,xs=[.ref p]/\(SqL X.K H p ys∨SqT X.K H p ys)/\∀l,H l=none->Q (.ref l) (upd H l (.lst ys))):=by
 intro pins s σ H xs us Q I r h;obtain⟨p,ys,rfl,hq,q⟩:=h;obtain⟨u,rfl,rx⟩:=ge r;cases rx
 have fin:∀(its:List Value),aT ys its->ys.length<=sizeLine->∀(h':Heap)(c':Nat),(∀b o',s.heap.get? b=some o'->h'.get? b=some o') ->
   h'.get? s.heap.objs.size=some { cls:=.type "list",dict:=none,data:=.seq its.toArray c',slots:=#[] }->EP X pins σ Q (.ref s.heap.objs.size) { s with heap:=h' }:=λits r' hz h' c' kp e=>
  ⟨.ref s.heap.objs.size,_,I.laid (t':=s.toks) kp (Nat.le_refl _) (show bz X.prog X.w _ h' _ (.lst ys)from ⟨hz,its,c',r',e⟩),rfl,q _ (I.hok.fresh (Nat.le_refl _))⟩
 rcases hq with hq|hq
 ·obtain⟨its,r',pl,hz⟩:=I.list hq;have hlen:=r'.length;obtain⟨o,ho,hc,n,hd⟩:=pl.isList;exact call_list_seq p (.inl rfl) ho hc hd (λh' c' kp e=>fin its r' hz h' c' kp e) (by simp only[List.size_toArray]<;>omega)
 ·obtain⟨its,r',pl,hz⟩:=I.tuple hq;have hlen:=r'.length;obtain⟨o,ho,hc,n,hd⟩:=pl;exact call_list_seq p (.inr rfl) ho hc hd (λh' c' kp e=>fin its r' hz h' c' kp e) (by simp only[List.size_toArray]<;>omega)
theorem nV:bB X (.type "tuple") (λxs H Q=>∃p ys,xs=[.ref p]/\((SqL X.K H p ys/\∀l,H l=none->Q (.ref l) (upd H l (.tup ys)))∨(SqT X.K H p ys/\Q (.ref p) H))):=by
 intro pins s σ H xs us Q I r h;obtain⟨p,ys,rfl,h⟩:=h;obtain⟨u,rfl,rx⟩:=ge r;cases rx
 rcases h with⟨hq,q⟩|⟨hq,q⟩
 ·obtain⟨its,r',pl,hz⟩:=I.list hq;have hlen:=r'.length;refine call_tuple_list pl.isList (λh' kp=>?_) (by simp only[List.size_toArray]<;>omega)
  have I1:Inv X pins σ H { s with heap:=h' }:=I.kept (t':=s.toks) kp;have I2:Inv X pins σ (upd H h'.objs.size (.tup ys)) { s with heap:=h'.push { cls:=.type "tuple",data:=.seq its.toArray } } :=
   I1.laid (t':=s.toks) (λb o e=>Heap.get?_push_of_some _ e) (Nat.le_refl _) (show bz X.prog X.w _ _ _ (.tup ys)from ⟨hz,its,r',IsTup.new _ _⟩)
  exact⟨.ref h'.objs.size,_,I2,rfl,q _ (I1.hok.fresh (Nat.le_refl _))⟩
 ·obtain⟨its,r',pl,hz⟩:=I.tuple hq;exact call_tuple_same pl ⟨.ref p,H,I,rfl,q⟩
def tyV (K:PySem.W.Frag)(T:String)(x:V)(H:Hp):Prop:=match x with
 |.str _=>T = "str"
 |.int _=>T = "int"
 |.ref p=>(T = "list"/\∃xs,SqL K H p xs)∨(T = "tuple"/\∃o,K.lookup p=some o/\o.cls=.type "tuple"/\o.dict=none) ∨
   (T = "dict"/\((∃kvs ob,H p=some (.dK kvs ob))∨∃kvs,H p=some (.dT kvs)))∨(T = "set"/\∃S n,H p=some (.set S n))
 |_=>False
theorem yX {pins:List (Addr×Obj)}{σ:St}{H:Hp}{s:Shared}{T:String}{x:V}{v:Value}(I:Inv X pins σ H s)(r:aS x v)(ty:tyV X.K T x H):
  s.TypeIs v T/\∀a,v=.ref a->∃ob,s.heap.get? a=some ob/\ob.dict=none:=by
 cases x with
 |str z=>
  obtain⟨t,rfl⟩:=r;cases (show T = "str" from ty)
  exact⟨typeIs_str s z t,λ_ e=>nomatch e⟩
 |int i=>
  obtain⟨t,rfl⟩:=r;cases (show T = "int" from ty)
  exact⟨typeIs_int s i t,λ_ e=>nomatch e⟩
 |ref p=>
  cases r
  rcases ty with⟨rfl,xs,hq⟩|⟨rfl,o,hk,hc,hd⟩|⟨rfl,hk⟩|⟨rfl,S,n,hk⟩
  ·obtain⟨its,_,pl,_⟩:=I.list hq;refine⟨pl.isList.typeIs,λa e=>?_⟩;cases e
   obtain⟨o,n,e,c,hd,_⟩:=pl;exact⟨o,e,hd⟩
  ·refine⟨⟨o,I.kIn p o hk,hc⟩,λa e=>?_⟩;cases e
   exact⟨o,I.kIn _ o hk,hd⟩
  ·have z:∃o,s.heap.get? p=some o/\o.ExactDict:=by
    rcases hk with⟨kvs,ob0,hk⟩|⟨kvs,hk⟩
    ·obtain⟨_,_,_,_,_,o,_,_,e,ex,_⟩:=I.hok p _ hk;exact⟨o,e,ex⟩
    ·obtain⟨_,_,_,_,o,_,_,e,ex,_⟩:=I.hok p _ hk;exact⟨o,e,ex⟩
   obtain⟨o,e,ex⟩:=z;refine⟨⟨o,e,ex.1⟩,λa e2=>?_⟩;cases e2
   exact⟨o,e,ex.2.1⟩
  ·obtain⟨o,_,_,_,e,ex,_⟩:=I.hok p _ hk;refine⟨⟨o,e,ex.1⟩,λa e2=>?_⟩;cases e2
   exact⟨o,e,ex.2.1⟩
 |_=>exact False.elim ty
def tBM (K:PySem.W.Frag)(T:String)(r:V->List V->Hp->VK->Prop)(to:TE)(t:TA):TE:=λσ H Q=>to σ H λx H1=>tyV K T x H1/\t σ H1 λxs H2=>r x xs H2 Q
variable {o e:Expr}{es:List Expr}{to:TE}{t:TA}{name:Str}{apos cpos:Pos}{T id:String}{r:V->List V->Hp->VK->Prop}
theorem yY (pa:PlainAttrs T)(slot:Slot T name id)(hty:typeOf (.builtin id)=pure (.type "method_descriptor"))(hm:MtR X id r)(ho:PE X o to)(ha:PA X (e::es) t)
  (hbase:attributeBase o name X.env (eval o X.env)=eval o X.env:=by rfl)
  (hfew:((backTo cpos (starEach (e::es) X.env)).all (λx=>!x.1) && (backToKw cpos (keywordEach [] X.env)).all (λx=>x.1.isSome)
   && decide ((e::es).length+([]:List Keyword).length+(if([]:List Keyword).isEmpty then 0 else 1)<30))=true:=by rfl)
  (hline:(apos.endLine == cpos.line)=true:=by rfl) (hs:starEach (e::es) X.env=(false,eval e X.env)::starEach es X.env:=by rfl) (hplain:(backTo cpos (starEach es X.env)).any (·.1)=false:=by rfl):
  PE X (.Call (.Attribute o name apos) (e::es) [] cpos) (tBM X.K T r to t):=by
 intro pins s σ H Q I h;refine wpAny_Call_method_late hbase hfew hline rfl (thn (ho pins s σ H _ I h) λv s1 ⟨x,H1,I1,r1,ty,q1⟩=>?_);obtain⟨h1,h2⟩:=yX I1 r1 ty;refine⟨T,id,pa,slot,hty,h1,h2,?_⟩;have hA:=ha cpos pins s1 σ H1 _ I1 q1;rw[hs]at hA ⊢;refine Calls.callWith_builtin (by show(false || (backTo cpos (starEach es X.env)).any (·.1))=false;rw[hplain]<;>rfl) (Calls.evalArgs_plain ?_)
 exact thn hA λus s2 ⟨vs,H2,I2,r2,q2⟩=>hm pins s2 σ H2 x vs v us Q I2 r1 r2 q2
/- xs.append(e),list.index on a module's tuple .. are MtR facts of 06m -/
end
def MtM (X:Cx)(id:String)(r:V->List V->Hp->VK->Prop):Prop :=
 ∀(pins:List (Addr×Obj))(s:Shared)(σ:St)(H:Hp)(x:V)(xs:List V)(v:Value)(us:List Value)(Q:VK),Inv X pins σ H s->aS x v->aT xs us->r x xs H Q ->
  wpAny (model X.prog X.w) X.A (call (.builtin id) (v::us)) (EP X pins σ Q) X.xe s
theorem aT.one:∀ {x:V}{us:List Value},aT [x] us->∃u,us=[u]/\aS x u
 |_,_,.cons r .nil=>⟨_,rfl,r⟩
theorem aT.two:∀ {x y:V}{us:List Value},aT [x,y] us->∃u v,us=[u,v]/\aS x u/\aS y v
 |_,_,_,.cons r (.cons q .nil)=>⟨_,_,rfl,r,q⟩
theorem aT.eraseIdx:∀ {xs:List V}{us:List Value}(i:Nat),aT xs us->aT (xs.eraseIdx i) (us.eraseIdx i)
 |_,_,_,.nil=>.nil
 |_,_,0,.cons _ t=>t
 |_,_,i+1,.cons r t=>.cons r (aT.eraseIdx i t)
theorem aT.rep {xs:List V}{us:List Value}(h:aT xs us):∀k:Nat,aT (List.replicate k xs).flatten (List.replicate k us).flatten
 |0=>.nil
 |k+1=>by
  rw[List.replicate_succ,List.replicate_succ,List.flatten_cons,List.flatten_cons];exact aT.append h (aT.rep h k)
theorem oE (its:List Value):∀(k:Nat)(acc:List Value),
  List.foldl (λx1 x2=>x1++x2) acc.toArray (List.replicate k its.toArray)=(acc++(List.replicate k its).flatten).toArray
 |0,acc=>by simp
 |k+1,acc=>by
  have e:acc.toArray++its.toArray=(acc++its).toArray:=by simp
  have e2:(acc++its)++(List.replicate k its).flatten=acc++(List.replicate (k+1) its).flatten:=by
   rw[List.replicate_succ,List.flatten_cons,List.append_assoc]
  rw[←e2,←oE its k (acc++its),←e,List.replicate_succ,List.foldl_cons]
section
variable {X:Cx}{pins:List (Addr×Obj)}{σ:St}{H:Hp}{s:Shared}{l b:Addr}{xs ys zs:List V}
theorem Inv.lset {its its':List Value}{n:Nat}{f:Array Value->Array Value}{t':Nat}(I:Inv X pins σ H s)(hH:H l=some (.lst xs))
  (e:s.heap.get? l=some { cls:=.type "list",data:=.seq its.toArray n }) (hf:f its.toArray=its'.toArray) (hv:aT ys its') (hz:ys.length<=sizeLine):
  Inv X pins σ (upd H l (.lst ys)) { s with heap:=s.heap.update l (Obj.mapSeq f),toks:=t' }:=by
 have q:=PySem.IsL.update e f;rw[hf]at q;refine I.write (x:=l) (e:=l) (by rw[hH];exact trivial) (.inl rfl) (λb' u hb hu=>(Heap.get?_update_other s.heap (Obj.mapSeq f) (Ne.symm hb)).trans hu) ⟨_,q⟩ ?_;exact⟨hz,its',_,hv,q⟩
theorem Inv.lnew {its:List Value}{t':Nat}(I:Inv X pins σ H s)(hv:aT ys its)(hz:ys.length<=sizeLine):
  Inv X pins σ (upd H s.heap.objs.size (.lst ys)) { s with heap:=s.heap.push { cls:=.type "list",data:=.seq its.toArray },toks:=t' } :=
 I.laid (λ_ _ q=>Heap.get?_push_of_some _ q) (Nat.le_refl _) ⟨hz,its,0,hv,Heap.get?_push_size _ rfl⟩
theorem Inv.fresh (I:Inv X pins σ H s):H s.heap.objs.size=none:=I.hok.fresh (Nat.le_refl _)
theorem Inv.lstM (I:Inv X pins σ H s)(hH:H l=some (.lst xs)):xs.length<=sizeLine/\∃(its:List Value)(n:Nat),aT xs its/\xs.length=its.length/\s.heap.get? l=some { cls:=.type "list",data:=.seq its.toArray n }:=by
 obtain⟨z,its,n,r,e⟩:=I.hok l _ hH;exact⟨z,its,n,r,r.length,e⟩
theorem yZ {n:Nat}(h:n<=sizeLine):Builtin.List.listTooLong n=false:=by
 unfold Builtin.List.listTooLong;exact decide_eq_false (by omega)
end
section
variable {X:Cx}
def vT:V->List V->Hp->VK->Prop:=λx vs H Q=>∃l xs y,x=.ref l/\vs=[y]/\H l=some (.lst xs)/\xs.length<sizeLine/\Q .non (upd H l (.lst (xs++[y])))
theorem oF:MtM X "list.append" vT:=by
 intro pins s σ H x vs v us Q I rx rv h;obtain⟨l,xs,y,rfl,rfl,hH,hz,q⟩:=h;cases rx
 obtain⟨u,rfl,ru⟩:=rv.one;obtain⟨z,its,n,r,hl,e⟩:=I.lstM hH;refine call_meets F.slot_list_append ⟨_,e,rfl⟩ F.entry_list_append (F.args_list_append_2 _ _) (PySem.list_append l its.toArray n u (by rw[List.size_toArray];omega)) ⟨e,?_⟩;refine⟨.non,_,I.lset (its':=its++[u]) hH e (by simp) (r.append (.cons ru .nil)) ?_,rfl,q⟩;rw[List.length_append,List.length_singleton];omega
def Hv:R2:=λx y H Q=>∃l k xs,x=.ref l/\y=.int k/\H l=some (.lst xs)/\-(2 ^ 63)<=k/\k<2 ^ 63/\xs.length*k.toNat<=sizeLine /\
 ∀p,H p=none->Q (.ref p) (upd H p (.lst (List.replicate k.toNat xs).flatten))
theorem B5 {α:Type}(xs:List α)(k:Nat):(List.replicate k xs).flatten.length=k*xs.length:=by
 induction k with
 |zero=>simp
 |succ k ih=>rw[List.replicate_succ,List.flatten_cons,List.length_append,ih,Nat.succ_mul,Nat.add_comm]
theorem Eu:OpR X (binaryOp .Mult) Hv:=by
 intro pins s σ H x y v u Q I rx ry h;obtain⟨l,k,xs,rfl,rfl,hH,h1,h2,hz,q⟩:=h;cases rx
 obtain⟨t,rfl⟩:=ry;obtain⟨z,its,n,r,hl,e⟩:=I.lstM hH;have hlen:its.toArray.size*k.toNat<=sizeLine:=by rw[List.size_toArray,←hl];exact hz
 have hcap:¬its.toArray.size*k.toNat > (2 ^ 63 - 1) / 8:=by
  have:(sizeLine:Nat)<=(2 ^ 63 - 1) / 8:=by decide
  omega
 have hfit:¬(!Builtin.List.listFitsIndex k)=true:=by
  rw[fitsIndex_both h1 h2];exact Bool.false_ne_true
 have hlong:¬Builtin.List.listTooLong (its.toArray.size*k.toNat)=true:=by
  rw[yZ hlen];exact Bool.false_ne_true
 have hnew:List.foldl (λx1 x2=>x1++x2) #[] (List.replicate (if its.toArray.isEmpty=true then 0 else k.toNat) its.toArray)=(List.replicate k.toNat its).flatten.toArray:=by
  have f0:∀m:Nat,List.foldl (λx1 x2=>x1++x2) #[] (List.replicate m its.toArray)=(List.replicate m its).flatten.toArray:=λm=>by
   have:=oE its m [];rw[List.nil_append]at this;exact this
  rw[f0];cases its with
  |nil=>simp
  |cons a r'=>rw[if_neg (by simp)]
 refine wpAny_binaryOp_repeat_ref (T:="list") (U:="int") (by decide) ⟨_,e,rfl⟩ (λs'=>typeIs_int s' k t) noFill_list_mul F.fills_int_mul F.slot_int_rmul repeat_list F.slot_int_index.lookup
  (call_meets F.slot_int_rmul (typeIs_int s k t) F.entry_int_rmul (F.args_int_rmul_2 _ _) (int___rmul___int_list k t l its.toArray n)
   ⟨e,rfl,⟨_,e,rfl⟩,call_meets F.slot_list_mul ⟨_,e,rfl⟩ F.entry_list_mul (F.args_list_mul_2 _ _) (AutoListH.list___mul___list_int_3 l its.toArray n k t hfit hcap hlong) ⟨e,?_⟩⟩)
 rw[hnew];exact⟨.ref _,_,I.lnew (t':=s.toks) (r.rep k.toNat) (by rw[B5,Nat.mul_comm];exact hz),rfl,q _ I.fresh⟩
end
end L2
namespace Att
open PySem PySem.W PySem.Calls PyProof.Rows
theorem lw {P:Params}{h:Heap}:∀(ns:List Int)(vs:List Value),WellAll P h vs (ns.map WData.int)->IntsAre vs ns:=by
 intro ns;induction ns with
 |nil=>
  intro vs w;rw[List.map_nil]at w;cases w
  exact .nil
 |cons n ns ih=>
  intro vs w;rw[List.map_cons]at w;cases w with
  |cons a b=>
   cases a
   exact .cons _ _ (ih _ b)
theorem xL {l:OpenLaw}{n:Nat}(hn:l.most=some n){P:Params}{h:Heap}{args:List WData}{vals:List Value}
  (hpre:l.row.toRowW.claim.pre args=true) (hwl:WellAll P h vals args):
  ∃a vs ns,vals=[Value.ref a]/\args=[WData.list (ns.map WData.int)]/\h.get? a=some { cls:=.type "list",data:=.seq vs.toArray }/\IntsAre vs ns/\ns.length<=n:=by
 have hsh:WShape.hasAll [] args [.list .int]=true:=(pre_splitW hpre).1;have hc:l.pre.holds [] { args:=args }=true:=(pre_splitW hpre).2;obtain⟨d,r,rfl,h1,h2⟩:=hasAllW_cons hsh;obtain rfl:=hasAllW_nil h2;obtain⟨xs,rfl,h3⟩:=hasW_list h1;obtain⟨ns,rfl⟩:=items_int h3;have hlen:ns.length<=n:=by
  unfold OpenLaw.pre at hc;have h4:(WTm.not (.lt (.lit (.int (n:Int))) (.len (.arg 0)))).holds [] { args:=[.list (ns.map .int)] }=true:=by
   have h4:=(holds_andW hc).1;rw[hn]at h4;exact h4
  have h5:=condW_of h4 (w_not (w_lt w_lit (w_len_list (w_arg rfl))));rw[List.length_map]at h5;refine Nat.le_of_not_lt λq=>?_;have q':(n:Int)<((ns.length:Nat):Int):=by omega
  first
   | (rw[decide_eq_true q']at h5;exact absurd h5 (by decide))
   | (simp at h5;omega)
 cases hwl with
 |cons w1 w2=>
  cases w2
  cases w1 with
  |list ho hall=>exact⟨_,_,ns,rfl,rfl,ho,lw ns _ hall,hlen⟩
theorem xM (l:OpenLaw)(args:List WData):l.row.toRowW.claim.post args (.bool true) args=true :=
 postW_of (r:=l.row.toRowW) (X:=(true == true))
  (show WShape.has [] (.bool true) .bool=true by first|rfl|decide|simp[WShape.has,WShape.arms,WShape.armsAll])
  (show(WTm.eq .res (.lit (.bool true))).value [] { args:=args,res:=some (.bool true),after:=args }=some (.bool (true == true))from w_eq_bool (w_res rfl) w_lit) rfl
theorem rF {l:OpenLaw}{n:Nat}{q:Program}{loose:List Str}{XP:(Str->Option Value)->Heap->Prop}{YP:World->Heap->Prop}{d:DefRec}
  (hn:l.most=some n) (hdf:d.params.defaults=[])
  (call:∀(w:World)(s₀ s₁:Shared)(mg mb:Str->Option Value)(fa:Addr)(o:Obj)(pm cd doc:Value)(a:Addr)(vs:List Value)(ns:List Int),
   Ground q loose [] XP w s₀ mg mb s₁.heap->YP w s₁.heap ->
   s₁.heap.get? fa=some o->o.data=.func (docDef d.name d.params d.body d.scope pm cd doc)->s₁.heap.CodeRec cd d.name->mg d.name=some (.ref fa) ->
   s₁.heap.get? a=some { cls:=.type "list",data:=.seq vs.toArray }->IntsAre vs ns->ns.length<=n->s₁.gens=#[] ->
   codeAny (model l.prog w) callerA (.call (.ref fa) ⟨[.ref a],[]⟩) (λr s'=>r=.ok (.ret (.bool true))/\OldK s₁.heap s'.heap/\s'.os=s₁.os/\AllBare s'.gens) s₁):
  WalkO q loose XP YP l.row.toRowW d [] (λf vs=>PySem.call f vs):=by
 intro w s₀ s₁ mg mb G Y fa o pm cd doc dV kV ho hd hcd hD hmg hg args vals as hpre hlay hrd hwl hlo;obtain rfl:dV=.none:=Dflts.none hD hdf;obtain rfl:kV=.none:=Dflts.noKw hD;obtain⟨a,vs,ns,rfl,rfl,hobj,hints,hlen⟩:=xL hn hpre hwl;refine enter_call (codeAny_mono (call w s₀ s₁ mg mb fa o pm cd doc a vs ns G Y ho (fd_plain hd) hcd hmg hobj hints hlen hg) λr s' hq=>?_);obtain⟨rfl,h2,h3,h4⟩:=hq;exact⟨.inl ⟨.bool true,.bool true,[],rfl,λ_=>rfl,.bool true,xM l _,λ_=>⟨List.Pairwise.nil,λ_ hm=>(nomatch hm)⟩⟩,h2,h3,h4⟩
section
variable {prog:Program}{w:World}{A:Around}{E:Value->Shared->Prop}{s:Shared}{K:Frag}
theorem Go {R:Result->Shared->Prop}{C fI:Addr}{au:List Value}{kw:List (Str×Value)}
  (X:K.In s.heap) (hm:makesIn K C=true) (hi:findIn K (.ref C) "__init__" = some (some (.ref fI))) (hf:isFn K (.ref fI)=true)
  (h:codeAny (model prog w) (A.under (.builtin "type.__call__" ⟨.ref C::au,kw⟩)) (.call (.ref fI) ⟨.ref (s.heap.objs.size+1)::au,kw⟩) (InitBack (s.heap.objs.size+1) R)
   { s with heap:=(s.heap.push emptyDict).push (instObj C s.heap.objs.size) }):codeAny (model prog w) A (.call (.ref C) ⟨au,kw⟩) R s:=by
 obtain⟨hh,g,d,t,os⟩:=s;exact make_core (makes_of X hm) (looks_findIn X hi) (λself=>bind_fn X self (beq_iff_eq.mp hf)) (.inl rfl) h
theorem Fv {x C:Addr}{ox:Obj}{es:List DictEntry}{n:Nat}{name:Str}{expr:Bool}{v:Value}{Q:Value->Shared->Prop}
  (X:K.In s.heap) (I:PySem.W.InstAt s.heap x ox C (some (dictOf es n))) (hg:plainGet K C name=true) (hh:hasDictIn K C=true) (ha:findIn K (.ref C) name=some none)
  (hl:getL name es=some (some v)) (hv:handedIn v=true) (h:Q v { s with toks:=s.toks+1 }):wpAny (model prog w) A (getAttr (.ref x) name expr) Q E s :=
 get_value X I (plainGet_of hg).1 (findObj_own hh ha rfl hl) hv h
noncomputable def Hw (h:Heap)(L d:Addr):List (Addr×Obj):=(List.range h.objs.size).filterMap λa=>if a=L∨a=d then none else (h.get? a).map λo=>(a,o)
end
end Att
namespace L2
open PySem PySem.Spec PyProof.Rows
theorem iH:∀ {vs:List Value}{ns:List Int},IntsAre vs ns->aT (ns.map V.int) vs
 |_,_,.nil=>.nil
 |_,_,.cons n t h=>.cons ⟨t,rfl⟩ (iH h)
noncomputable def eB (s:Stmt):Arguments:=match s with
 |.FunctionDef _ a _ _ _ _ _ _ _ _=>a
 |_=>{ posonlyargs:=[],args:=[],vararg:=none,kwonlyargs:=[],kw_defaults:=[],kwarg:=none,defaults:=[] }
noncomputable def bW (s:Stmt):List Stmt:=match s with
 |.FunctionDef _ _ b _ _ _ _ _ _ _=>b
 |_=>[]
noncomputable def aN (s:Stmt):Scope:=match s with
 |.FunctionDef _ _ _ _ _ _ sc _ _ _=>sc
 |_=>{ kind:=.function,names:=[],isGenerator:=false,isCoroutine:=false }
abbrev CX0:CXT:=λ_ _ _ _ _ _=>False
abbrev E0:XK:=λ_ _ _=>False
theorem Gp {X:Cx}:u0 CX0 X E0:=λ_ _ _ _ _ _ _ h=>h.elim
structure Fun (K:PySem.W.Frag)(x qual:Str)(st:Stmt)(f:Addr)(fd:FuncData):Prop where
 ex:∃(oc:Value)(od:Option Addr)(kV doc pm:Value)(an:Option Addr)(cdv ct:Value)(osl:Array (Option Value)),
  fd=PySem.W.fnOf x qual (eB st) (bW st) (aN st) .none kV doc pm an cdv ct/\K.lookup f=some ⟨oc,od,.func fd,osl⟩/\PySem.W.codeIn K cdv qual=true
 kp:PySem.W.keepIn K (.ref f)=true
section
variable {P:Program}{w:World}{K:PySem.W.Frag}{mg:Str->Option Value}{base:Heap}
theorem Fun.ok {x qual:Str}{st:Stmt}{f:Addr}{fd:FuncData}{N ps:List Str}{k:Nat}{sp:Sp}(F:Fun K x qual st f fd)(S:FnScope N ps (aN st))(len:∀vs H Q E,sp vs H Q E->vs.length=ps.length)
  (hbody:∀(cdv:Value)(A:Around)(outer:List Env)(s:Shared)(H:Hp)(vs:List V)(Q:VK)(E:XK),Room k (A.deeper (envOfC qual (aN st) s.heap.objs.size f cdv))->sp vs H Q E ->
   ∃t,PSs (lu CX0 P w K mg base N qual (aN st) f cdv A outer s H E).nox (bW st) t/\t { nx:=λ_ H'=>Q .non H',rt:=Q } (gY N vs) H):FnOk P w K mg base CX0 (k+1) f fd ps sp:=by
 obtain⟨oc,od,kV,doc,pm,an,cdv,ct,osl,rfl,lk,hcd⟩:=F.ex;refine CV lk hcd S len λA outer s H vs Q E hr hsp=>?_;obtain⟨t,h,q⟩:=hbody cdv A outer s H vs Q E hr hsp;exact⟨t,h.nox,q⟩
theorem Fun.binds {x qual:Str}{st:Stmt}{f:Addr}{fd:FuncData}{ps:List Str}(F:Fun K x qual st f fd)
  (h:∀(kV doc pm:Value)(an:Option Addr)(cdv ct:Value)(us:List Value),us.length=ps.length->bindArgs (PySem.W.fnOf x qual (eB st) (bW st) (aN st) .none kV doc pm an cdv ct) ⟨us,[]⟩=pure (ps.zip us)):o8 K fd ps []:=by
 obtain⟨oc,od,kV,doc,pm,an,cdv,ct,osl,rfl,lk,hcd⟩:=F.ex;exact .all (h kV doc pm an cdv ct)
theorem Ev {x qual:Str}{st:Stmt}{f:Addr}{oc:Value}{od an:Option Addr}{osl:Array (Option Value)}{kV doc pm cdv ct:Value}(l:K.lookup f=some ⟨oc,od,.func (PySem.W.fnOf x qual (eB st) (bW st) (aN st) .none kV doc pm an cdv ct),osl⟩)
  (c:PySem.W.codeIn K cdv qual=true) (k:PySem.W.keepIn K (.ref f)=true):Fun K x qual st f (PySem.W.fnOf x qual (eB st) (bW st) (aN st) .none kV doc pm an cdv ct):=⟨⟨oc,od,kV,doc,pm,an,cdv,ct,osl,rfl,l,c⟩,k⟩
end
def aQ (H H':Hp):Prop:=∀b o,H b=some o->H' b=some o
theorem aQ.refl (H:Hp):aQ H H:=λ_ _ h=>h
theorem aQ.trans {H H1 H2:Hp}(a:aQ H H1)(b:aQ H1 H2):aQ H H2:=λc o h=>b c o (a c o h)
theorem aQ.free {H H':Hp}(e:aQ H H'){l:Addr}(h:H' l=Option.none):H l=Option.none:=by
 cases q:H l with
 |none=>rfl
 |some o=>
  rw[e l o q]at h;cases h
theorem aQ.seq {K:PySem.W.Frag}{H H':Hp}{a:Addr}{xs:List V}(e:aQ H H')(h:SqL K H a xs):SqL K H' a xs:=by
 rcases h with (h|⟨o,h⟩)|h
 ·exact .inl (.inl (e _ _ h))
 ·exact .inl (.inr ⟨o,e _ _ h⟩)
 ·exact .inr h
section
variable {κ:Type}[DecidableEq κ]
noncomputable def jh (kvs:List (κ×V))(k:κ):Option V:=(kvs.find? λkv=>decide (kv.1=k)).map (·.2)
noncomputable def jx (kvs:List (κ×V))(k:κ)(v:V):List (κ×V) :=
 if(kvs.any λkv=>decide (kv.1=k))=true then kvs.map (λkv=>if kv.1=k then (kv.1,v)else kv)else kvs++[(k,v)]
theorem jy {p:κ×V}{r:List (κ×V)}{k:κ}(e:p.1=k):jh (p::r) k=some p.2:=by simp[jh,List.find?_cons,e]
theorem jz {p:κ×V}{r:List (κ×V)}{k:κ}(e:¬p.1=k):jh (p::r) k=jh r k:=by simp[jh,List.find?_cons,e]
theorem rG (k:κ):∀kvs:List (κ×V),(kvs.any λkv=>decide (kv.1=k))=(jh kvs k).isSome
 |[]=>rfl
 |p::r=>by
  rw[List.any_cons];by_cases e:p.1=k
  ·simp only[jy e,decide_eq_true e,Bool.true_or,Option.isSome_some]
  ·rw[jz e,decide_eq_false e,Bool.false_or];exact rG k r
theorem ig (kvs:List (κ×V))(k:κ)(v:V):(jx kvs k v).length<=kvs.length+1:=by
 unfold jx;split
 ·rw[List.length_map];omega
 ·rw[List.length_append,List.length_cons,List.length_nil];omega
theorem ls.isSome_eq {o:Option V}{u:Option Value}(r:ls o u):o.isSome=u.isSome:=by
 cases o with
 |none=>cases u with
  |none=>rfl
  |some _=>exact(show False from r).elim
 |some _=>cases u with
  |none=>exact(show False from r).elim
  |some _=>rfl
theorem ls.getD {o:Option V}{u:Option Value}{d:V}{d':Value}(r:ls o u)(rd:aS d d'):aS (o.getD d) (u.getD d'):=by
 cases o with
 |none=>cases u with
  |none=>exact rd
  |some _=>exact(show False from r).elim
 |some _=>cases u with
  |none=>exact(show False from r).elim
  |some _=>exact r
theorem KV.val {kvs:List (κ×V)}{vs:List (κ×Value)}(r:KV kvs vs)(k:κ):ls (jh kvs k) (valueAt vs k):=by
 unfold KV at r;induction r with
 |nil=>exact True.intro
 |@cons p q ps qs h t ih=>
  obtain⟨h1,h2⟩:=h;by_cases e:p.1=k
  ·have e':q.1=k:=h1.symm.trans e;have b:valueAt (q::qs) k=some q.2:=by simp[valueAt,List.find?_cons,e']
   rw[jy e,b];exact h2
  ·have e':¬q.1=k:=λz=>e (h1.trans z);have b:valueAt (q::qs) k=valueAt qs k:=by simp[valueAt,List.find?_cons,e']
   rw[jz e,b];exact ih
theorem KV.any {kvs:List (κ×V)}{vs:List (κ×Value)}(r:KV kvs vs)(k:κ):(kvs.any λkv=>decide (kv.1=k))=vs.any λkv=>decide (kv.1=k):=by
 unfold KV at r;induction r with
 |nil=>rfl
 |cons h t ih=>rw[List.any_cons,List.any_cons,ih,h.1]
theorem KV.repl {kvs:List (κ×V)}{vs:List (κ×Value)}(r:KV kvs vs)(k:κ){y:V}{u:Value}(ry:aS y u):
  KV (kvs.map λkv=>if kv.1=k then (kv.1,y)else kv) (vs.map λkv=>if kv.1=k then (kv.1,u)else kv):=by
 unfold KV at r ⊢;induction r with
 |nil=>exact .nil
 |@cons p q ps qs h t ih=>
  rw[List.map_cons,List.map_cons];refine .cons ?_ ih;obtain⟨h1,h2⟩:=h;by_cases e:p.1=k
  ·rw[if_pos e,if_pos (h1.symm.trans e)];exact⟨h1,ry⟩
  ·rw[if_neg e,if_neg (λz=>e (h1.trans z))];exact⟨h1,h2⟩
theorem KV.put {kvs:List (κ×V)}{vs:List (κ×Value)}(r:KV kvs vs)(k:κ){y:V}{u:Value}(ry:aS y u):KV (jx kvs k y) (stored vs k u):=by
 unfold jx stored;rw[r.any k];by_cases e:(vs.any λkv=>decide (kv.1=k))=true
 ·rw[if_pos e,if_pos e];exact r.repl k ry
 ·rw[if_neg e,if_neg e];exact Paired.snoc r ⟨rfl,ry⟩
theorem KV.length {kvs:List (κ×V)}{vs:List (κ×Value)}(r:KV kvs vs):kvs.length=vs.length:=Paired.length r
end
theorem vU {P:Program}{w:World}{k:Key}{u:Value}(r:aS (kV k) u):(bV P w).is k u=true:=by
 cases k with
 |inl i=>obtain⟨t,e⟩:=(show ∃t,u=Value.int i t from r);subst e;exact rm P w i t
 |inr x=>obtain⟨t,e⟩:=(show ∃t,u=Value.str x t from r);subst e;exact rq P w x t
theorem oG {P:Program}{w:World}:∀ {ks:List Key}{us:List Value},aT (ks.map kV) us->ItemsAre (bV P w) ks us
 |[],_,r=>by rw[List.map_nil]at r;cases r;exact .nil
 |k::ks,_,r=>by
  rw[List.map_cons]at r;cases r with
  |cons h t=>exact .cons (vU h) (oG t)
abbrev KT (H:Hp):List (List Key×V)->List (List Key×Addr×Value)->Prop:=Paired λp q=>p.1=q.1/\H q.2.1=some (.tup (p.1.map kV))/\aS p.2 q.2.2
theorem KT.val {H:Hp}{kvs:List (List Key×V)}{xs:List (List Key×Addr×Value)}(r:KT H kvs xs)(k:List Key):ls (jh kvs k) ((atKey xs k).map (·.2)):=by
 induction r with
 |nil=>exact True.intro
 |@cons p q ps qs h t ih=>
  obtain⟨h1,_,h2⟩:=h;by_cases e:p.1=k
  ·have e':q.1=k:=h1.symm.trans e;have b:atKey (q::qs) k=some q.2:=by simp[atKey,List.find?_cons,e']
   rw[jy e,b];exact h2
  ·have e':¬q.1=k:=λz=>e (h1.trans z);have b:atKey (q::qs) k=atKey qs k:=by simp[atKey,List.find?_cons,e']
   rw[jz e,b];exact ih
theorem KT.repl {H:Hp}{kvs:List (List Key×V)}{xs:List (List Key×Addr×Value)}(r:KT H kvs xs)(k:List Key){y:V}{u:Value}(ry:aS y u):
  KT H (kvs.map λkv=>if kv.1=k then (kv.1,y)else kv) (xs.map (putAt k u)):=by
 induction r with
 |nil=>exact .nil
 |@cons p q ps qs h t ih=>
  rw[List.map_cons,List.map_cons];refine .cons ?_ ih;obtain⟨h1,h2,h3⟩:=h;unfold putAt;by_cases e:p.1=k
  ·rw[if_pos e,if_pos (h1.symm.trans e)];exact⟨h1,h2,ry⟩
  ·rw[if_neg e,if_neg (λz=>e (h1.trans z))];exact⟨h1,h2,h3⟩
theorem KT.put {H:Hp}{kvs:List (List Key×V)}{xs:List (List Key×Addr×Value)}(r:KT H kvs xs)(k:List Key){b:Addr}{y:V}{u:Value}(hb:H b=some (.tup (k.map kV)))(ry:aS y u):
  KT H (jx kvs k y) (storedH xs k b u):=by
 have e:(kvs.any λkv=>decide (kv.1=k))=(atKey xs k).isSome:=by
  rw[rG,(r.val k).isSome_eq,Option.isSome_map]
 unfold jx storedH;rw[e];by_cases q:(atKey xs k).isSome=true
 ·rw[if_pos q,if_pos q];exact r.repl k ry
 ·rw[if_neg q,if_neg q];exact Paired.snoc r ⟨rfl,hb,ry⟩
theorem KT.keeps {H H':Hp}{kvs:List (List Key×V)}{xs:List (List Key×Addr×Value)}(r:KT H kvs xs)(ht:∀b ys,H b=some (.tup ys)->H' b=some (.tup ys)):KT H' kvs xs :=
 Paired.mapP r λ_ _ z=>⟨z.1,ht _ _ z.2.1,z.2.2⟩
section
variable {P:Program}{w:World}{H:Hp}{h:Heap}{a:Addr}
theorem CY {u:HO}(ok:HOk P w H h)(e:Rd H a u):bz P w H h a u:=e.ok ok
theorem uC {kvs:List (Key×V)}{ob:Obj}(ok:HOk P w H h)(e:H a=some (.dK kvs ob)):h.get? a=some ob:=And.left (show bz P w H h a (.dK kvs ob)from ok a _ e)
theorem za {kvs:List (Key×V)}{ob:Obj}(ok:HOk P w H h)(e:Rd H a (.dK kvs ob)):kvs.length<=sizeLine/\(a == sysModules)=false/\∃vs,KV kvs vs/\h.DictOf (bV P w) a vs :=
 And.right (show bz P w H h a (.dK kvs ob)from CY ok e)
theorem rH {kvs:List (Key×V)}{ob:Obj}(ok:HOk P w H h)(e:H a=some (.dK kvs ob)):kvs.length<=sizeLine/\(a == sysModules)=false/\∃vs,KV kvs vs/\h.DictOf (bV P w) a vs:=za ok (.inl e)
theorem uE {ks:List Key}(ok:HOk P w H h)(e:H a=some (.tup (ks.map kV))):(tupleKind (bV P w)).is h ks a:=by
 obtain⟨_,its,r,o,h1,h2,n,h3⟩:=(show bz P w H h a (.tup (ks.map kV))from ok a _ e);exact⟨o,its.toArray,n,h1,h2,h3,by simpa using oG r⟩
theorem zb {kvs:List (List Key×V)}(ok:HOk P w H h)(e:Rd H a (.dT kvs)):kvs.length<=sizeLine/\(a == sysModules)=false /\
  ∃xs,KT H kvs xs/\h.DictOfH (tupleKind (bV P w)) a xs:=by
 obtain⟨z,y,xs,r,o,es,ep,h1,h2,h3,h4,h5⟩:=(show bz P w H h a (.dT kvs)from CY ok e);refine⟨z,y,xs,r,o,es,ep,h1,h2,h3,h4,λx hx=>?_,h5⟩;have all:∀ {l:List (List Key×V)}{m:List (List Key×Addr×Value)},KT H l m->∀x∈m,(tupleKind (bV P w)).is h x.1 x.2.1:=by
  intro l m q;induction q with
  |nil=>intro x hx;exact nomatch hx
  |@cons p q ps qs hq t ih=>
   intro x hx;rcases List.mem_cons.mp hx with e|hx
   ·subst e;exact uE ok (by rw[←hq.1];exact hq.2.1)
   ·exact ih x hx
 exact all r x hx
theorem Gq {kvs:List (List Key×V)}(ok:HOk P w H h)(e:H a=some (.dT kvs)):kvs.length<=sizeLine/\(a == sysModules)=false /\
  ∃xs,KT H kvs xs/\h.DictOfH (tupleKind (bV P w)) a xs:=zb ok (.inl e)
end
def B6 (H:Hp)(a:Addr)(y:V)(r:Option V):Prop :=
 (∃kvs k ob,Rd H a (.dK kvs ob)/\y=kV k/\r=jh kvs k)∨∃kvs k b,Rd H a (.dT kvs)/\y=.ref b/\H b=some (.tup (k.map kV))/\r=jh kvs k
def Gr (H:Hp)(a:Addr)(y v:V)(Q:Hp->Prop):Prop :=
 (∃kvs k ob,H a=some (.dK kvs ob)/\y=kV k/\kvs.length<sizeLine/\∀ob',Q (upd H a (.dK (jx kvs k v) ob'))) ∨
 ∃kvs k b,H a=some (.dT kvs)/\y=.ref b/\H b=some (.tup (k.map kV))/\kvs.length<sizeLine/\Q (upd H a (.dT (jx kvs k v)))
theorem B6.t {H:Hp}{a b:Addr}{kvs:List (List Key×V)}{k:List Key}(e:H a=some (.dT kvs))(eb:H b=some (.tup (k.map kV))):B6 H a (.ref b) (jh kvs k):=.inr ⟨kvs,k,b,.inl e,rfl,eb,rfl⟩
section
variable {X:Cx}{pins:List (Addr×Obj)}{σ:St}{H:Hp}{s:Shared}{a:Addr}{y v:V}{u r:Value}{o:Option V}{A:Around}{E:Value->Shared->Prop}
theorem Inv.big (I:Inv X pins σ H s):sysModules<s.heap.objs.size:=by
 have h:mainGlobals<s.heap.objs.size:=(I.mod.glob.keeps I.bk).lt;exact Nat.lt_trans (by decide) h
theorem pU {h':Heap}{t':Nat}{ob:HO}(I:Inv X pins σ H s)(mu:Mut (H a))(hs:Heap.SameBut a s.heap h')(he:∃q,h'.get? a=some q)(new:bz X.prog X.w (upd H a ob) h' a ob):
  Inv X pins σ (upd H a ob) { s with heap:=h',toks:=t' } :=
 I.write (x:=a) (e:=a) mu (.inl rfl) (λb q hb z=>(hs.2 b hb).trans z) he new
theorem zc {P:Program}{w:World}{H':Hp}{h':Heap}{kvs:List (Key×V)}{vs:List (Key×Value)}(z:kvs.length<=sizeLine)(hd:(a == sysModules)=false)(rel:KV kvs vs)(dd:h'.DictOf (bV P w) a vs){ob:Obj}(hg:h'.get? a=some ob):
  bz P w H' h' a (.dK kvs ob):=⟨hg,z,hd,vs,rel,dd⟩
theorem xN {R:Hp->Prop}{Q:Unit->Shared->Prop}(hu:A.units+1<cLine)(I:Inv X pins σ H s)(g:Gr H a y v R)(ry:aS y u)(rv:aS v r)(h:∀H' s',R H'->Inv X pins σ H' s'->Q () s'):
  wpAny (model X.prog X.w) A (setItem (.ref a) u r) Q E s:=by
 rcases g with⟨kvs,k,ob,e,ey,l,eH⟩|⟨kvs,k,b,e,ey,eb,l,eH⟩
 ·subst ey;obtain⟨z,hd,vs,rel,dd⟩:=rH I.hok e;have hz:vs.length<=sizeLine:=by rw[←rel.length];exact z
  have hl:(jx kvs k v).length<=sizeLine:=by have:=ig kvs k v;omega
  refine wpAny_setItem_pairs (hsz:=hz) (vU ry) dd λh' dd' hs=>?_;obtain⟨q,hq⟩:∃q,h'.get? a=some q:=let ⟨q,_,_,hq,_⟩:=dd';⟨q,hq⟩;exact h _ _ (eH q) (pU I (by rw[e];exact True.intro) hs ⟨q,hq⟩ (zc hl hd (rel.put k rv) dd' hq))
 ·subst ey;cases (show u=Value.ref b from ry)
  obtain⟨z,hd,xs,rel,dd⟩:=Gq I.hok e;have hz:xs.length<=sizeLine:=by rw[←Paired.length rel];exact z
  have hl:(jx kvs k v).length<=sizeLine:=by have:=ig kvs k v;omega
  refine wpAny_setItem_heap (hsz:=hz) (tupleKind_room_in1 hu) (uE I.hok eb) dd λh' dd' hs=>h _ _ eH ?_;obtain⟨q,es,ep,hq,h2,h3,h4,_,h5⟩:=dd';refine pU I (by rw[e];exact True.intro) hs ⟨q,hq⟩ ⟨hl,hd,_,(rel.put k eb rv).keeps λc ys ec=>?_,q,es,ep,hq,h2,h3,h4,h5⟩;rw[aH (FB ec e (λz=>nomatch z))];exact ec
end
def CZ (td ty tv:TE):TS:=λD σ H=>tv σ H λv H1=>td σ H1 λx H2=>ty σ H2 λy H3=>∃a,x=.ref a/\Gr H3 a y v (D.nx σ)
section
variable {X:Cx}{o i e value:Expr}{pos pos' tpos:Pos}{td ty tv:TE}
theorem B7 (hu:X.A.units+1<cLine)(ho:PE X o td)(hi:PE X i ty)(hv:PE X value tv)(hs:swapsWith value (some (.Subscript o i pos')) pos.line X.env=pure false):
  PS X (.Assign [.Subscript o i pos'] value pos) (CZ td ty tv):=by
 intro pins s σ H D I h;refine wpAny_Assign_Subscript (thn (hv pins s σ H _ I h) λr s1 ⟨v,H1,I1,rv,q1⟩=>thn (ho pins s1 σ H1 _ I1 q1) λu s2 ⟨x,H2,I2,rx,q2⟩=>thn (hi pins s2 σ H2 _ I2 q2) λiv s3 ⟨y,H3,I3,ry,a,ex,g⟩=>?_) hs;subst ex;obtain rfl:u=Value.ref a:=rx;exact xN hu I3 g ry rv λH4 s4 q3 I4=>⟨σ,H4,I4,q3⟩
end
theorem zd {P:Program}{w:World}{H:Hp}(h:Heap)(hb:sysModules<h.objs.size):bz P w H (h.push { cls:=.type "dict",data:=.dict #[] }) h.objs.size (.dK [] { cls:=.type "dict",data:=.dict #[] }) :=
 ⟨Heap.get?_push_size _ rfl,Nat.zero_le _,beq_eq_false_iff_ne.mpr (Ne.symm (Nat.ne_of_lt hb)),[],.nil,Heap.DictOf.new h⟩
theorem ze {P:Program}{w:World}{H:Hp}(h:Heap)(hb:sysModules<h.objs.size):bz P w H (h.push { cls:=.type "dict",data:=.dict #[] }) h.objs.size (.dT []) :=
 ⟨Nat.zero_le _,beq_eq_false_iff_ne.mpr (Ne.symm (Nat.ne_of_lt hb)),[],.nil,_,#[],0,Heap.get?_push_size _ rfl,⟨rfl,rfl,rfl⟩,rfl,rfl,List.nodup_nil⟩
def zf:TE:=λ_ H Q=>∀p,H p=none->Q (.ref p) (upd H p (.dT []))
section
variable {X:Cx}{pos:Pos}
theorem zg:PE X (.Dict [] [] pos) zf:=λpins s σ H Q I h=>
 wpAny_Dict_empty ⟨.ref s.heap.objs.size,_,I.laid (a:=s.heap.objs.size) (o:=.dT []) (t':=s.toks) (λ_ _ q=>Heap.get?_push_of_some _ q) (Nat.le_refl _) (ze s.heap I.big),rfl,h _ (I.hok.fresh (Nat.le_refl _))⟩
end
structure M1 (X:Cx)(o:Expr)(m:Str)(apos:Pos)(e:Expr)(cpos:Pos):Prop where
 base:attributeBase o m X.env (eval o X.env)=eval o X.env
 few:((backTo cpos (starEach [e] X.env)).all (λx=>!x.1) && (backToKw cpos (keywordEach [] X.env)).all (λx=>x.1.isSome)
  && decide (([e]:List Expr).length+([]:List Keyword).length+(if([]:List Keyword).isEmpty then 0 else 1)<30))=true
 line:(apos.endLine == cpos.line)=true
 trees:backTo cpos (starEach [e] X.env)=[(false,eval e X.env)]
def IsD (H:Hp)(a:Addr):Prop:=(∃kvs ob,Rd H a (.dK kvs ob))∨∃kvs,Rd H a (.dT kvs)
theorem Ew {X:Cx}{pins:List (Addr×Obj)}{σ:St}{H:Hp}{s:Shared}{a:Addr}(I:Inv X pins σ H s)(d:IsD H a):
  s.TypeIs (.ref a) "dict"/\(∀b,Value.ref a=.ref b->∃ob,s.heap.get? b=some ob/\ob.dict=none)/\(a == sysModules)=false:=by
 rcases d with⟨kvs,ob0,e⟩|⟨kvs,e⟩
 ·obtain⟨_,hd,vs,_,dd⟩:=za I.hok e;refine⟨dd.typeIs,λb q=>?_,hd⟩;cases q
  obtain⟨ob,_,_,h1,h2,_⟩:=dd;exact⟨ob,h1,h2.2.1⟩
 ·obtain⟨_,hd,xs,_,dd⟩:=zb I.hok e;refine⟨dd.typeIs,λb q=>?_,hd⟩;cases q
  obtain⟨ob,_,_,h1,h2,_⟩:=dd;exact⟨ob,h1,h2.2.1⟩
section
variable {X:Cx}{pins:List (Addr×Obj)}{σ:St}{H:Hp}{s:Shared}{a:Addr}{y d:V}{u r:Value}{o:Option V}{A:Around}{E:Value->Shared->Prop}
theorem Ex {Q:Value->Shared->Prop}(hu:A.units+1<cLine)(I:Inv X pins σ H s)(g:B6 H a y o)(ry:aS y u)(h:∀w' s',Inv X pins σ H s'->aS (o.getD .non) w'->Q w' s'):
  wpAny (model X.prog X.w) A (call (.builtin "dict.get") [.ref a,u]) Q E s:=by
 rcases g with⟨kvs,k,ob,e,ey,l⟩|⟨kvs,k,b,e,ey,eb,l⟩
 ·subst ey;obtain⟨z,hd,vs,rel,dd⟩:=za I.hok e;refine call_meetsIn PySem.F.slot_dict_get dd.typeIs PySem.F.entry_dict_get (PySem.F.args_dict_get_2 _ _) (meets_dict_get (bV X.prog X.w) a (vU ry) hd) ⟨_,dd.mapOf,h _ _ (I.tok _) ?_⟩;rw[l];exact(rel.val k).getD rfl
 ·subst ey;cases (show u=Value.ref b from ry)
  obtain⟨z,hd,xs,rel,dd⟩:=zb I.hok e;refine call_meetsIn PySem.F.slot_dict_get dd.typeIs PySem.F.entry_dict_get (PySem.F.args_dict_get_2 _ _) (meetsH_dict_get (tupleKind (bV X.prog X.w)) a b hd) ⟨tupleKind_room_in1 hu,k,xs,uE I.hok eb,dd,h _ _ (I.tok _) ?_⟩;rw[l];exact(rel.val k).getD rfl
end
def Ey (td ty:TE):TE:=λσ H Q=>td σ H λx H1=>∃a,x=.ref a/\IsD H1 a/\ty σ H1 λy H2=>∃o,B6 H2 a y o/\Q (o.getD .non) H2
section
variable {X:Cx}{o e f:Expr}{apos cpos:Pos}{td ty tx:TE}
theorem rJ (hu:X.A.units+1<cLine)(ho:PE X o td)(he:PE X e ty)(m:M1 X o "get" apos e cpos):PE X (.Call (.Attribute o "get" apos) [e] [] cpos) (Ey td ty):=by
 intro pins s σ H Q I h;refine wpAny_Call_method m.base m.few m.line PySem.F.plainAttrs_dict PySem.F.slot_dict_get PySem.F.type_dict_get (thn (ho pins s σ H _ I h) λu s1 ⟨x,H1,I1,rx,a,ex,d,q1⟩=>?_);subst ex;obtain rfl:u=Value.ref a:=rx;obtain⟨t1,t2,_⟩:=Ew I1 d;refine⟨t1,t2,?_⟩;rw[m.trees];refine Calls.callWith_builtin rfl (Calls.evalArgs_plain (Calls.spliced_cons (thn (he pins s1 σ H1 _ I1 q1) λiv s2 ⟨y,H2,I2,ry,ov,g,q2⟩=>Calls.spliced_nil ?_)));exact Ex hu I2 g ry λw' s3 I3 rw'=>⟨_,H2,I3,rw',q2⟩
end
end L2
namespace DL
open PySem L2
set_option linter.all false
abbrev St:=L2.St
inductive D where
 |non|bl (b:Bool)|int (i:Int)|str (x:Str)|ty (n:String)|tup (ds:List D)|lst (ds:List D)
  |dk (ks:List Key) (vs:List D)|dt (ks:List (List Key)) (vs:List D)
mutual
inductive Is (K:PySem.W.Frag)(H:Hp):V->D->Prop where
 |non:Is K H .non .non
 |bl (b:Bool):Is K H (.bl b) (.bl b)
 |int (i:Int):Is K H (.int i) (.int i)
 |str (x:Str):Is K H (.str x) (.str x)
 |ty (n:String):Is K H (.ty n) (.ty n)
 |tup {a:Addr}{vs:List V}{ds:List D}(h:SqT K H a vs) (hs:IsL K H vs ds):Is K H (.ref a) (.tup ds)
 |lst {a:Addr}{vs:List V}{ds:List D}(h:SqL K H a vs) (hs:IsL K H vs ds):Is K H (.ref a) (.lst ds)
 |dk {a:Addr}{ks:List Key}{vs:List V}{ds:List D}{ob:Obj}(h:H a=some (.dK (ks.zip vs) ob)) (hl:ks.length=vs.length) (hs:IsL K H vs ds):Is K H (.ref a) (.dk ks ds)
 |dt {a:Addr}{ks:List (List Key)}{vs:List V}{ds:List D}(h:H a=some (.dT (ks.zip vs))) (hl:ks.length=vs.length) (hs:IsL K H vs ds):Is K H (.ref a) (.dt ks ds)
inductive IsL (K:PySem.W.Frag)(H:Hp):List V->List D->Prop where
 |nil:IsL K H [] []
 |cons {v:V}{d:D}{vs:List V}{ds:List D}(h:Is K H v d) (hs:IsL K H vs ds):IsL K H (v::vs) (d::ds)
end
mutual
noncomputable def aZ:D->Bool
 |.lst _=>false
 |.dk _ _=>false
 |.dt _ _=>false
 |.tup ds=>bd ds
 |_=>true
noncomputable def bd:List D->Bool
 |[]=>true
 |d::ds=>aZ d && bd ds
end
@[simp] theorem Fw:aZ .non=true:=by simp only[aZ]
@[simp] theorem Gs (b:Bool):aZ (.bl b)=true:=by simp only[aZ]
@[simp] theorem Fx (i:Int):aZ (.int i)=true:=by simp only[aZ]
@[simp] theorem Fy (x:Str):aZ (.str x)=true:=by simp only[aZ]
@[simp] theorem Gu (x:String):aZ (.ty x)=true:=by simp only[aZ]
@[simp] theorem Fz (ds:List D):aZ (.tup ds)=bd ds:=by rw[aZ]
@[simp] theorem F0 (ds:List D):aZ (.lst ds)=false:=by rw[aZ]
@[simp] theorem Gv (ks:List Key)(ds:List D):aZ (.dk ks ds)=false:=by rw[aZ]
@[simp] theorem Gw (ks:List (List Key))(ds:List D):aZ (.dt ks ds)=false:=by rw[aZ]
@[simp] theorem Ez:bd []=true:=by rw[bd]
@[simp] theorem Da (d:D)(ds:List D):bd (d::ds)=(aZ d && bd ds):=by rw[bd]
section
variable {K:PySem.W.Frag}{H H':Hp}
mutual
theorem Is.keep (hT:∀a vs,SqT K H a vs->SqT K H' a vs)(hL:∀a vs,SqL K H a vs->SqL K H' a vs)(hK:∀a kvs ob,H a=some (.dK kvs ob)->H' a=some (.dK kvs ob))(hM:∀a kvs,H a=some (.dT kvs)->H' a=some (.dT kvs)):∀ {v:V}{d:D},Is K H v d->Is K H' v d
 |_,_,.non=>.non
 |_,_,.bl b=>.bl b
 |_,_,.int i=>.int i
 |_,_,.str x=>.str x
 |_,_,.ty x=>.ty x
 |_,_,.tup h hs=>.tup (hT _ _ h) (IsL.keep hT hL hK hM hs)
 |_,_,.lst h hs=>.lst (hL _ _ h) (IsL.keep hT hL hK hM hs)
 |_,_,.dk h hl hs=>.dk (hK _ _ _ h) hl (IsL.keep hT hL hK hM hs)
 |_,_,.dt h hl hs=>.dt (hM _ _ h) hl (IsL.keep hT hL hK hM hs)
theorem IsL.keep (hT:∀a vs,SqT K H a vs->SqT K H' a vs)(hL:∀a vs,SqL K H a vs->SqL K H' a vs)(hK:∀a kvs ob,H a=some (.dK kvs ob)->H' a=some (.dK kvs ob))(hM:∀a kvs,H a=some (.dT kvs)->H' a=some (.dT kvs)):∀ {vs:List V}{ds:List D},IsL K H vs ds->IsL K H' vs ds
 |_,_,.nil=>.nil
 |_,_,.cons h hs=>.cons (Is.keep hT hL hK hM h) (IsL.keep hT hL hK hM hs)
end
mutual
theorem Is.keepT (hT:∀a vs,SqT K H a vs->SqT K H' a vs):∀ {v:V}{d:D},Is K H v d->aZ d=true->Is K H' v d
 |_,_,.non,_=>.non
 |_,_,.bl b,_=>.bl b
 |_,_,.int i,_=>.int i
 |_,_,.str x,_=>.str x
 |_,_,.ty x,_=>.ty x
 |_,_,.tup h hs,n=>.tup (hT _ _ h) (IsL.keepT hT hs (by simpa using n))
 |_,_,.lst h hs,n=>by simp at n
 |_,_,.dk h hl hs,n=>by simp at n
 |_,_,.dt h hl hs,n=>by simp at n
theorem IsL.keepT (hT:∀a vs,SqT K H a vs->SqT K H' a vs):∀ {vs:List V}{ds:List D},IsL K H vs ds->bd ds=true->IsL K H' vs ds
 |_,_,.nil,_=>.nil
 |_,_,.cons h hs,n=>by
  simp at n;exact .cons (Is.keepT hT h n.1) (IsL.keepT hT hs n.2)
end
theorem aY {a:Addr}{xs:List V}(e:aQ H H')(h:SqT K H a xs):SqT K H' a xs:=by
 rcases h with (h|⟨o,h⟩)|h
 ·exact .inl (.inl (e _ _ h))
 ·exact .inl (.inr ⟨o,e _ _ h⟩)
 ·exact .inr h
theorem Is.mono {v:V}{d:D}(h:Is K H v d)(e:aQ H H'):Is K H' v d:=h.keep (λ_ _=>aY e) (λ_ _=>e.seq) (λ_ _ _ q=>e _ _ q) λ_ _ q=>e _ _ q
theorem IsL.mono {v:List V}{d:List D}(h:IsL K H v d)(e:aQ H H'):IsL K H' v d:=h.keep (λ_ _=>aY e) (λ_ _=>e.seq) (λ_ _ _ q=>e _ _ q) λ_ _ q=>e _ _ q
theorem IsL.length:∀ {vs:List V}{ds:List D},IsL K H vs ds->vs.length=ds.length
 |_,_,.nil=>rfl
 |_,_,.cons _ t=>congrArg (· + 1) t.length
theorem IsL.get:∀ {vs:List V}{ds:List D}{i:Nat}{d:D},IsL K H vs ds->ds[i]? = some d->∃v,vs[i]? = some v/\Is K H v d
 |_,_,_,_,.nil,e=>by simp at e
 |_,_,0,_,.cons h _,e=>by simp at e;subst e;exact⟨_,rfl,h⟩
 |_,_,i+1,d,.cons _ t,e=>by
  obtain⟨u,h1,h2⟩:=t.get (i:=i) (d:=d) (by simpa using e);exact⟨u,by simpa using h1,h2⟩
theorem IsL.append:∀ {vs ws:List V}{ds es:List D},IsL K H vs ds->IsL K H ws es->IsL K H (vs++ws) (ds++es)
 |_,_,_,_,.nil,s=>s
 |_,_,_,_,.cons r t,s=>.cons r (t.append s)
theorem IsL.take:∀ {vs:List V}{ds:List D}(n:Nat),IsL K H vs ds->IsL K H (vs.take n) (ds.take n)
 |_,_,0,_=>by simpa using IsL.nil
 |_,_,_+1,.nil=>.nil
 |_,_,n+1,.cons r t=>.cons r (t.take n)
theorem IsL.drop:∀ {vs:List V}{ds:List D}(n:Nat),IsL K H vs ds->IsL K H (vs.drop n) (ds.drop n)
 |_,_,0,r=>r
 |_,_,_+1,.nil=>.nil
 |_,_,n+1,.cons _ t=>t.drop n
theorem IsL.set {v:V}{d:D}(h:Is K H v d):∀ {vs:List V}{ds:List D}(i:Nat),IsL K H vs ds->IsL K H (vs.set i v) (ds.set i d)
 |_,_,_,.nil=>.nil
 |_,_,0,.cons _ t=>.cons h t
 |_,_,i+1,.cons r t=>.cons r (IsL.set h i t)
theorem IsL.eraseIdx:∀ {vs:List V}{ds:List D}(i:Nat),IsL K H vs ds->IsL K H (vs.eraseIdx i) (ds.eraseIdx i)
 |_,_,_,.nil=>.nil
 |_,_,0,.cons _ t=>t
 |_,_,i+1,.cons r t=>.cons r (t.eraseIdx i)
theorem IsL.flat {vs:List V}{ns:List Int}(h:vs=ns.map V.int):IsL K H vs (ns.map D.int):=by
 subst h;induction ns with
 |nil=>exact .nil
 |cons n ns ih=>exact .cons (.int n) ih
end
structure Ext (B N H H':Hp):Prop where
 hh:aQ H H'
 bn:aQ B N
 nh:aQ N H'
 new:∀a o,N a=some o->B a=some o∨H a=none
theorem Ext.refl {B H:Hp}(h:aQ B H):Ext B B H H:=⟨.refl _,.refl _,h,λ_ _ e=>.inl e⟩
theorem Ext.trans {B N H H1 N2 H2:Hp}(x:Ext B N H H1)(y:Ext N N2 H1 H2):Ext B N2 H H2 :=
 ⟨x.hh.trans y.hh,x.bn.trans y.bn,y.nh,λa o e=>(y.new a o e).elim (λq=>x.new a o q) λq=>.inr (x.hh.free q)⟩
theorem Ext.laid {B H:Hp}{p:Addr}{o:HO}(h:aQ B H)(hp:H p=none):Ext B (upd B p o) H (upd H p o):=by
 have hB:B p=none:=h.free hp;refine⟨λa u e=>?_,λa u e=>?_,λa u e=>?_,λa u e=>?_⟩
 ·rw[aH (λq=>by subst q;rw[hp]at e;cases e)];exact e
 ·rw[aH (λq=>by subst q;rw[hB]at e;cases e)];exact e
 ·by_cases q:a=p
  ·subst q;rw[aF]at e ⊢;exact e
  ·rw[aH q]at e ⊢;exact h _ _ e
 ·by_cases q:a=p
  ·subst q;exact .inr hp
  ·rw[aH q]at e;exact .inl e
theorem Ext.grow {B H H':Hp}(h:aQ B H)(hh:aQ H H'):Ext B B H H':=⟨hh,.refl _,h.trans hh,λ_ _ e=>.inl e⟩
abbrev Env:=List (Option (D×Bool))
abbrev FE:=Env->Option (D×Bool)
abbrev FA:=Env->Option (List D)
abbrev FT:=Env->Option Bool
def Fsh (K:PySem.W.Frag)(H N:Hp)(v:V)(d:D):Prop:=∃(a:Addr)(vs:List V)(ds:List D),v=.ref a/\d=.lst ds/\H a=none/\N a=some (.lst vs)/\IsL K N vs ds
theorem Fsh.back {K:PySem.W.Frag}{H H' N:Hp}{v:V}{d:D}(h:Fsh K H' N v d)(e:aQ H H'):Fsh K H N v d:=let ⟨a,vs,ds,q,y,z,r⟩:=h;⟨a,vs,ds,q,y,e.free z,r⟩
noncomputable def j0:List Str:=["in_order","has_seal","is_first_death","bases_by"]
noncomputable def lN (x:Str):Str:=x ++ ".<locals>." ++ "<lambda>"
def Tb (K:PySem.W.Frag)(B:Hp):Prop:=∀x∈j0,∀c P,PySem.W.tabIn K x=some (c,P)->B P=some (.tbl (lN x))
theorem Tb.mono {K:PySem.W.Frag}{B B':Hp}(h:Tb K B)(e:aQ B B'):Tb K B':=λx hx c P q=>e _ _ (h x hx c P q)
structure RepE (K:PySem.W.Frag)(B:Hp)(σ:St)(ρ:Env):Prop where
 tb:Tb K B
 at':∀(i:Nat)(d:D)(b:Bool),ρ[i]? = some (some (d,b))->∃v,σ[i]? = some (some v)/\Is K B v d
theorem RepE.mono {K:PySem.W.Frag}{B B':Hp}{σ:St}{ρ:Env}(h:RepE K B σ ρ)(e:aQ B B'):RepE K B' σ ρ:=⟨h.tb.mono e,λi d b q=>let ⟨v,h1,h2⟩:=h.at' i d b q;⟨v,h1,h2.mono e⟩⟩
def Fin (K:PySem.W.Frag)(B H:Hp)(d:D)(b:Bool)(Q:VK):Prop:=∀(v:V)(H' N:Hp),Ext B N H H'->Is K N v d->(b=true->Fsh K H N v d)->Q v H'
def tD (K:PySem.W.Frag)(f:FE):TE:=λσ H Q=>∃(B:Hp)(ρ:Env)(d:D)(b:Bool),aQ B H/\RepE K B σ ρ/\f ρ=some (d,b)/\Fin K B H d b Q
def tDT (K:PySem.W.Frag)(f:FT):TT:=λσ H Q=>∃(B:Hp)(ρ:Env)(c:Bool),aQ B H/\RepE K B σ ρ/\f ρ=some c/\∀H',aQ H H'->Q c H'
def tDA (K:PySem.W.Frag)(f:FA):TA:=λσ H Q=>∃(B:Hp)(ρ:Env)(ds:List D),aQ B H/\RepE K B σ ρ/\f ρ=some ds/\∀(vs:List V)(H' N:Hp),Ext B N H H'->IsL K N vs ds->Q vs H'
def rD (K:PySem.W.Frag)(op:D->D->Option (D×Bool)):R2:=λx y H Q=>∃(B:Hp)(dx dy d:D)(b:Bool),aQ B H/\Is K B x dx/\Is K B y dy/\op dx dy=some (d,b)/\Fin K B H d b Q
def rDU (K:PySem.W.Frag)(op:D->Option (D×Bool)):V->Hp->VK->Prop:=λx H Q=>∃(B:Hp)(dx d:D)(b:Bool),aQ B H/\Is K B x dx/\op dx=some (d,b)/\Fin K B H d b Q
def rDA (K:PySem.W.Frag)(op:List D->Option (D×Bool)):List V->Hp->VK->Prop:=λxs H Q=>∃(B:Hp)(ds:List D)(d:D)(b:Bool),aQ B H/\IsL K B xs ds/\op ds=some (d,b)/\Fin K B H d b Q
theorem Fin.one {K:PySem.W.Frag}{B H:Hp}{d:D}{Q:VK}(h:Fin K B H d false Q)(s:aQ B H){v:V}(i:Is K B v d):Q v H:=h v H B (.refl s) i (by simp)
theorem Fin.into {K:PySem.W.Frag}{B N H H1:Hp}{d:D}{b:Bool}{Q:VK}(h:Fin K B H d b Q)(x:Ext B N H H1):Fin K N H1 d b Q:=λv H' N' y i fr=>h v H' N' (x.trans y) i λe=>(fr e).back x.hh
@[simp] noncomputable def fC (d:D):FE:=λ_=>some (d,false)
@[simp] noncomputable def ae (i:Nat):FE:=λρ=>match ρ[i]? with|some (some (d,_))=>some (d,false)|_=>none
@[simp] noncomputable def f2 (op:D->D->Option (D×Bool))(fa fb:FE):FE:=λρ=>(fa ρ).bind λx=>(fb ρ).bind λy=>op x.1 y.1
@[simp] noncomputable def f1 (op:D->Option (D×Bool))(fa:FE):FE:=λρ=>(fa ρ).bind λx=>op x.1
@[simp] noncomputable def ah:FA:=λ_=>some []
@[simp] noncomputable def ac (fa:FE)(fr:FA):FA:=λρ=>(fa ρ).bind λx=>(fr ρ).bind λxs=>some (x.1::xs)
@[simp] noncomputable def fA (op:List D->Option (D×Bool))(fa:FA):FE:=λρ=>(fa ρ).bind op
theorem E1 {K:PySem.W.Frag}{i:Nat}{σ:St}{H:Hp}{Q:VK}(h:tD K (ae i) σ H Q):∃v,σ[i]? = some (some v)/\Q v H:=by
 obtain⟨B,ρ,d,b,s,r,e,q⟩:=h;unfold ae at e;split at e
 ·rename_i d' b' e';cases e
  obtain⟨v,h1,h2⟩:=r.at' i _ _ e';exact⟨v,h1,q.one s h2⟩
 ·cases e
theorem B8 {K:PySem.W.Frag}{op:D->D->Option (D×Bool)}{fa fb:FE}{σ:St}{H:Hp}{Q:VK}(h:tD K (f2 op fa fb) σ H Q):tD K fa σ H λx H1=>tD K fb σ H1 λy H2=>rD K op x y H2 Q:=by
 obtain⟨B,ρ,d,b,s,r,e,q⟩:=h;obtain⟨x,ex,e⟩:=oX e;obtain⟨y,ey,e⟩:=oX e;refine⟨B,ρ,x.1,x.2,s,r,ex,λv H1 N x1 i1 _=>⟨N,ρ,y.1,y.2,x1.nh,r.mono x1.bn,ey,λv2 H2 N2 x2 i2 _=>⟨N2,x.1,y.1,d,b,x2.nh,i1.mono x2.bn,i2,e,?_⟩⟩⟩;exact q.into (x1.trans x2)
theorem Hx {K:PySem.W.Frag}{op:D->Option (D×Bool)}{fa:FE}{σ:St}{H:Hp}{Q:VK}(h:tD K (f1 op fa) σ H Q):tD K fa σ H λx H1=>rDU K op x H1 Q:=by
 obtain⟨B,ρ,d,b,s,r,e,q⟩:=h;obtain⟨x,ex,e⟩:=oX e;exact⟨B,ρ,x.1,x.2,s,r,ex,λv H1 N x1 i1 _=>⟨N,x.1,d,b,x1.nh,i1,e,q.into x1⟩⟩
theorem B9 {K:PySem.W.Frag}{op:List D->Option (D×Bool)}{fa:FA}{σ:St}{H:Hp}{Q:VK}(h:tD K (fA op fa) σ H Q):tDA K fa σ H λxs H1=>rDA K op xs H1 Q:=by
 obtain⟨B,ρ,d,b,s,r,e,q⟩:=h;obtain⟨x,ex,e⟩:=oX e;exact⟨B,ρ,x,s,r,ex,λv H1 N x1 i1=>⟨N,x,d,b,x1.nh,i1,e,q.into x1⟩⟩
theorem BA {K:PySem.W.Frag}{σ:St}{H:Hp}{Q:List V->Hp->Prop}(h:tDA K ah σ H Q):Q [] H:=by
 obtain⟨B,ρ,ds,s,r,e,q⟩:=h;cases e
 exact q [] H B (.refl s) .nil
theorem zh {K:PySem.W.Frag}{fa:FE}{fr:FA}{σ:St}{H:Hp}{Q:List V->Hp->Prop}(h:tDA K (ac fa fr) σ H Q):tD K fa σ H λx H1=>tDA K fr σ H1 λxs H2=>Q (x::xs) H2:=by
 obtain⟨B,ρ,ds,s,r,e,q⟩:=h;obtain⟨x,ex,e⟩:=oX e;obtain⟨y,ey,e⟩:=oX e;cases e
 exact⟨B,ρ,x.1,x.2,s,r,ex,λv H1 N x1 i1 _=>⟨N,ρ,y,x1.nh,r.mono x1.bn,ey,λvs H2 N2 x2 i2=>q _ H2 N2 (x1.trans x2) (.cons (i1.mono x2.bn) i2)⟩⟩
@[simp] noncomputable def tOf (f:FE):FT:=λρ=>match f ρ with|some (.bl c,_)=>some c|_=>none
@[simp] noncomputable def cB (f g:FT):FT:=λρ=>match f ρ with|some true=>g ρ|some false=>some false|none=>none
@[simp] noncomputable def hW (f g:FT):FT:=λρ=>match f ρ with|some true=>some true|some false=>g ρ|none=>none
@[simp] noncomputable def dN (f:FT):FT:=λρ=>(f ρ).map (!·)
@[simp] noncomputable def fIf (c:FT)(f g:FE):FE:=λρ=>match c ρ with|some true=>f ρ|some false=>g ρ|none=>none
open Classical in
noncomputable def cut (H:Hp)(P:Addr->Prop):Hp:=λa=>if P a then none else H a
theorem cf {H:Hp}{P:Addr->Prop}{a:Addr}(h:¬P a):cut H P a=H a:=by unfold cut;rw[if_neg h]
theorem uF {H:Hp}{P:Addr->Prop}{a:Addr}(h:P a):cut H P a=none:=by unfold cut;rw[if_pos h]
theorem lO {H:Hp}{P:Addr->Prop}{a:Addr}{o:HO}(h:cut H P a=some o):¬P a/\H a=some o:=by
 by_cases q:P a
 ·rw[uF q]at h;cases h
 ·rw[cf q]at h;exact⟨q,h⟩
theorem bM {H:Hp}{P:Addr->Prop}:aQ (cut H P) H:=λ_ _ e=>(lO e).2
theorem d7 {H H':Hp}{P P':Addr->Prop}(e:∀a o,H a=some o->¬P a->H' a=some o/\¬P' a):aQ (cut H P) (cut H' P'):=λa o q=>by
 obtain⟨h1,h2⟩:=lO q;obtain⟨h3,h4⟩:=e a o h2 h1;rw[cf h4];exact h3
noncomputable def join (N N':Hp):Hp:=λa=>match N a with|some o=>some o|none=>N' a
theorem dm {N N':Hp}:aQ N (join N N'):=λa o e=>by unfold join;rw[e]
theorem cX {N N':Hp}{a:Addr}(e:N a=none):join N N' a=N' a:=by unfold join;rw[e]
def own (σ:St)(ρ:Env)(a:Addr):Prop:=∃(i:Nat)(d:D),ρ[i]? = some (some (d,true))/\σ[i]? = some (some (V.ref a))
inductive Bx (K:PySem.W.Frag)(C:Hp):HO->D->Prop where
 |lst {vs:List V}{ds:List D}(h:IsL K C vs ds):Bx K C (.lst vs) (.lst ds)
 |dk {ks:List Key}{vs:List V}{ds:List D}(hl:ks.length=vs.length) (h:IsL K C vs ds) {ob:Obj}:Bx K C (.dK (ks.zip vs) ob) (.dk ks ds)
 |dt {ks:List (List Key)}{vs:List V}{ds:List D}(hl:ks.length=vs.length) (h:IsL K C vs ds):Bx K C (.dT (ks.zip vs)) (.dt ks ds)
theorem Bx.mono {K:PySem.W.Frag}{C C':Hp}{o:HO}{d:D}(h:Bx K C o d)(e:aQ C C'):Bx K C' o d:=by
 cases h with
 |lst h=>exact .lst (h.mono e)
 |dk hl h=>exact .dk hl (h.mono e)
 |dt hl h=>exact .dt hl (h.mono e)
theorem Bx.is {K:PySem.W.Frag}{C:Hp}{o:HO}{d:D}{a:Addr}(h:Bx K C o d)(e:C a=some o):Is K C (.ref a) d:=by
 cases h with
 |lst h=>exact .lst (SqL.of e) h
 |dk hl h=>exact .dk e hl h
 |dt hl h=>exact .dt e hl h
structure StN (K:PySem.W.Frag)(B0 H0 N H:Hp)(σ:St)(ρ:Env):Prop where
 bh:aQ B0 H0
 tb:Tb K B0
 ext:Ext B0 N H0 H
 len:ρ.length=σ.length
 sh:∀(i:Nat)(d:D),ρ[i]? = some (some (d,false))->∃v,σ[i]? = some (some v)/\Is K (cut N (own σ ρ)) v d
 ow:∀(i:Nat)(d:D),ρ[i]? = some (some (d,true))->∃(a:Addr)(o:HO),σ[i]? = some (some (V.ref a))/\N a=some o/\H0 a=none/\Bx K (cut N (own σ ρ)) o d
 inj:∀(i j:Nat)(a:Addr)(d e:D),ρ[i]? = some (some (d,true))->ρ[j]? = some (some (e,true))->σ[i]? = some (some (V.ref a))->σ[j]? = some (some (V.ref a))->i=j
def uG (K:PySem.W.Frag)(B0 H0 H:Hp)(σ:St)(ρ:Env):Prop:=∃N,StN K B0 H0 N H σ ρ
section
variable {K:PySem.W.Frag}{B0 H0 N H H':Hp}{σ:St}{ρ:Env}
theorem StN.owL (s:StN K B0 H0 N H σ ρ)(i:Nat)(d:D){es:List D}(q:ρ[i]? = some (some (.lst es,true)))(hd:d=.lst es:=by rfl):∃(a:Addr)(vs:List V)(ds:List D),d=.lst ds/\σ[i]? = some (some (V.ref a))/\N a=some (.lst vs)/\H0 a=none/\IsL K (cut N (own σ ρ)) vs ds:=by
 obtain⟨a,o,h1,h2,h3,h4⟩:=s.ow i _ q;cases h4 with
 |lst h4=>exact⟨a,_,es,hd,h1,h2,h3,h4⟩
def boxed:HO->Prop
 |.lst _|.dK _ _|.dT _=>True
 |_=>False
theorem Bx.boxed {C:Hp}{o:HO}{d:D}(h:Bx K C o d):boxed o:=by cases h<;>exact trivial
theorem StN.owned (s:StN K B0 H0 N H σ ρ){a:Addr}(h:own σ ρ a):∃o,(N a=some o/\boxed o)/\H0 a=none:=by
 obtain⟨i,d,h1,h2⟩:=h;obtain⟨a',o,h3,h4,h5,h6⟩:=s.ow i d h1;rw[h2]at h3;cases h3;exact⟨o,⟨h4,h6.boxed⟩,h5⟩
theorem StN.rep (s:StN K B0 H0 N H σ ρ):RepE K N σ ρ:=⟨s.tb.mono s.ext.bn,λi d b q=>by
 cases b with
 |false=>obtain⟨v,h1,h2⟩:=s.sh i d q;exact⟨v,h1,h2.mono bM⟩
 |true=>
  obtain⟨a,o,h2,h3,_,h4⟩:=s.ow i d q;exact⟨_,h2,(h4.mono bM).is h3⟩⟩
noncomputable def rK (ρ:Env):Env:=ρ.map λx=>match x with|some (d,false)=>some (d,false)|_=>none
theorem zi {i:Nat}{d:D}{b:Bool}(h:(rK ρ)[i]? = some (some (d,b))):b=false/\ρ[i]? = some (some (d,false)):=by
 unfold rK at h;rw[List.getElem?_map]at h;cases e:ρ[i]? with
 |none=>rw[e]at h;cases h
 |some x=>
  rw[e]at h;match x,h with
  |some (d',false),h=>cases h;exact⟨rfl,rfl⟩
  |some (d',true),h=>cases h
  |none,h=>cases h
theorem StN.tbC (s:StN K B0 H0 N H σ ρ):Tb K (cut N (own σ ρ)):=λx hx c P q=>by
 have z:=s.tb.mono s.ext.bn x hx c P q;rw[cf]
 ·exact z
 ·intro y;obtain⟨o,⟨y,yb⟩,_⟩:=s.owned y;rw[z]at y;cases y;exact yb
theorem StN.repH (s:StN K B0 H0 N H σ ρ):RepE K (cut N (own σ ρ)) σ (rK ρ):=⟨s.tbC,λi d b q=>by
 obtain⟨rfl,q2⟩:=zi q;exact s.sh i d q2⟩
theorem StN.grow (s:StN K B0 H0 N H σ ρ){N':Hp}(x:Ext N N' H H'):StN K B0 H0 N' H' σ ρ:=by
 have c:aQ (cut N (own σ ρ)) (cut N' (own σ ρ)):=d7 λa o e q=>⟨x.bn a o e,q⟩;refine⟨s.bh,s.tb,s.ext.trans x,s.len,λi d q=>?_,λi d q=>?_,s.inj⟩
 ·obtain⟨v,h1,h2⟩:=s.sh i d q;exact⟨v,h1,h2.mono c⟩
 ·obtain⟨a,o,h2,h3,h4,h5⟩:=s.ow i d q;exact⟨a,o,h2,x.bn _ _ h3,h4,h5.mono c⟩
theorem StN.growH (s:StN K B0 H0 N H σ ρ){N':Hp}(x:Ext (cut N (own σ ρ)) N' H H'):StN K B0 H0 (join N N') H' σ ρ/\aQ N' (cut (join N N') (own σ ρ)):=by
 have x':Ext N (join N N') H H':=by
  refine⟨x.hh,dm,λa o e=>?_,λa o e=>?_⟩
  ·cases q:N a with
   |some u=>
    have:join N N' a=some u:=dm _ _ q;rw[this]at e;cases e;exact x.hh _ _ (s.ext.nh _ _ q)
   |none=>rw[cX q]at e;exact x.nh _ _ e
  ·cases q:N a with
   |some u=>
    have:join N N' a=some u:=dm _ _ q;rw[this]at e;cases e;exact .inl rfl
   |none=>
    rw[cX q]at e;rcases x.new a o e with z|z
    ·have:=bM _ _ z;rw[q]at this;cases this
    ·exact .inr z
 refine⟨s.grow x',λa o e=>?_⟩;rcases x.new a o e with z|z
 ·obtain⟨z1,z2⟩:=lO z;rw[cf z1];exact dm _ _ z2
 ·have hN:N a=none:=s.ext.nh.free z;have:¬own σ ρ a:=λq=>by obtain⟨vs,⟨q,_⟩,_⟩:=s.owned q;rw[hN]at q;cases q
  rw[cf this,cX hN];exact e
noncomputable def unown (ρ:Env):Env:=ρ.map λx=>x.map λy=>(y.1,false)
theorem iI {i:Nat}{d:D}{b:Bool}(h:(unown ρ)[i]? = some (some (d,b))):b=false/\∃c,ρ[i]? = some (some (d,c)):=by
 unfold unown at h;rw[List.getElem?_map]at h;cases e:ρ[i]? with
 |none=>rw[e]at h;cases h
 |some x=>
  rw[e]at h;match x,h with
  |some (d',c),h=>cases h;exact⟨rfl,c,rfl⟩
  |none,h=>cases h
theorem kh {a:Addr}:¬own σ (unown ρ) a:=λ⟨i,d,h,_⟩=>by
 obtain⟨z,_⟩:=iI h;cases z
theorem StN.unown (s:StN K B0 H0 N H σ ρ):StN K B0 H0 N H σ (unown ρ):=by
 refine⟨s.bh,s.tb,s.ext,by unfold DL.unown;rw[List.length_map];exact s.len,λi d q=>?_,λi d q=>?_,λi j a d e q=>?_⟩
 ·obtain⟨_,c,q⟩:=iI q;obtain⟨v,h1,h2⟩:=s.rep.at' i d c q;exact⟨v,h1,h2.mono λa o e=>by rw[cf kh];exact e⟩
 ·obtain⟨z,_⟩:=iI q;cases z
 ·obtain⟨z,_⟩:=iI q;cases z
theorem bD {α:Type}{l:List α}{i j:Nat}{x y:α}(h:(l.set i x)[j]? = some y):(i=j/\x=y)∨(i≠j/\l[j]? = some y):=by
 by_cases e:i=j
 ·subst e;rw[List.getElem?_set]at h;split at h
  ·split at h
   ·exact .inl ⟨rfl,Option.some.inj h⟩
   ·cases h
  ·contradiction
 ·rw[List.getElem?_set_ne e]at h;exact .inr ⟨e,h⟩
theorem oH {α β:Type}{l:List α}{m:List β}{i:Nat}{x y:α}(h:(l.set i x)[i]? = some y)(e:l.length=m.length):i<m.length:=by
 obtain⟨h,_⟩:=List.getElem?_eq_some_iff.mp h;rw[List.length_set]at h;omega
theorem pV {i:Nat}{v:V}{x:Option (D×Bool)}{a:Addr}(h:own (σ.set i (some v)) (ρ.set i x) a):(v=.ref a/\∃d,x=some (d,true))∨∃j,j≠i/\∃d,ρ[j]? = some (some (d,true))/\σ[j]? = some (some (V.ref a)):=by
 obtain⟨j,d,h1,h2⟩:=h;rcases bD h1 with⟨e,q⟩|⟨e,q⟩
 ·rcases bD h2 with⟨e2,q2⟩|⟨e2,q2⟩
  ·cases q2;exact .inl ⟨rfl,d,q⟩
  ·exact absurd e e2
 ·rcases bD h2 with⟨e2,q2⟩|⟨e2,q2⟩
  ·exact absurd e2 e
  ·exact .inr ⟨j,λz=>e z.symm,d,q,q2⟩
theorem StN.bind (s:StN K B0 H0 N H σ ρ){i:Nat}{v:V}{d:D}(h:Is K (cut N (own σ ρ)) v d):StN K B0 H0 N H (σ.set i (some v)) (ρ.set i (some (d,false))):=by
 have o:∀a,own (σ.set i (some v)) (ρ.set i (some (d,false))) a->own σ ρ a:=λa q=>by
  rcases pV q with⟨_,d',p⟩|⟨j,_,d',q1,q2⟩
  ·cases p
  ·exact⟨j,d',q1,q2⟩
 have c:aQ (cut N (own σ ρ)) (cut N (own (σ.set i (some v)) (ρ.set i (some (d,false))))):=d7 λa u e q=>⟨e,λz=>q (o a z)⟩;refine⟨s.bh,s.tb,s.ext,by simp[s.len],λj e q=>?_,λj e q=>?_,λj k a e f q q' h1 h2=>?_⟩
 ·rcases bD q with⟨rfl,p⟩|⟨ne,p⟩
  ·cases p
   have hi:=oH q s.len;exact⟨v,by simp[hi],h.mono c⟩
  ·obtain⟨w,h1,h2⟩:=s.sh j e p;exact⟨w,by rw[List.getElem?_set_ne ne];exact h1,h2.mono c⟩
 ·rcases bD q with⟨rfl,p⟩|⟨ne,p⟩
  ·cases p
  ·obtain⟨a,o,h1,h2,h3,h4⟩:=s.ow j e p;exact⟨a,o,by rw[List.getElem?_set_ne ne];exact h1,h2,h3,h4.mono c⟩
 ·rcases bD q with⟨rfl,p⟩|⟨ne,p⟩
  ·cases p
  ·rcases bD q' with⟨rfl,p'⟩|⟨ne',p'⟩
   ·cases p'
   ·rw[List.getElem?_set_ne ne]at h1;rw[List.getElem?_set_ne ne']at h2;exact s.inj j k a e f p p' h1 h2
theorem StN.bindOwn (s:StN K B0 H0 N H σ ρ){i:Nat}{a:Addr}{ob:HO}{dd:D}(hN:N a=some ob)(h0:H0 a=none)(hno:∀(j:Nat)(d:D),ρ[j]? = some (some (d,true))->σ[j]? ≠ some (some (V.ref a)))
  (hsh:∀(j:Nat)(d:D),j≠i->ρ[j]? = some (some (d,false))->∃v,σ[j]? = some (some v)/\Is K (cut N (λb=>own σ ρ b∨b=a)) v d) (how:∀(j:Nat)(d:D),j≠i->ρ[j]? = some (some (d,true))->∃(a':Addr)(o:HO),σ[j]? = some (some (V.ref a'))/\N a'=some o/\Bx K (cut N (λb=>own σ ρ b∨b=a)) o d)
  (hds:Bx K (cut N (λb=>own σ ρ b∨b=a)) ob dd):StN K B0 H0 N H (σ.set i (some (.ref a))) (ρ.set i (some (dd,true))):=by
 have o:∀b,own (σ.set i (some (V.ref a))) (ρ.set i (some (dd,true))) b->own σ ρ b∨b=a:=λb q=>by
  rcases pV q with⟨p,_⟩|⟨j,_,d',q1,q2⟩
  ·cases p;exact .inr rfl
  ·exact .inl ⟨j,d',q1,q2⟩
 have c:aQ (cut N (λb=>own σ ρ b∨b=a)) (cut N (own (σ.set i (some (V.ref a))) (ρ.set i (some (dd,true))))):=d7 λb u e q=>⟨e,λz=>q (o b z)⟩;refine⟨s.bh,s.tb,s.ext,by simp[s.len],λj e q=>?_,λj e q=>?_,λj k b e f q q' h1 h2=>?_⟩
 ·rcases bD q with⟨rfl,p⟩|⟨ne,p⟩
  ·cases p
  ·obtain⟨w,h1,h2⟩:=hsh j e (Ne.symm ne) p;exact⟨w,by rw[List.getElem?_set_ne ne];exact h1,h2.mono c⟩
 ·rcases bD q with⟨rfl,p⟩|⟨ne,p⟩
  ·cases p
   have hi:=oH q s.len;exact⟨a,ob,by simp[hi],hN,h0,hds.mono c⟩
  ·obtain⟨a',o',h1,h2,h4⟩:=how j e (Ne.symm ne) p;have h3:H0 a'=none:=by
    obtain⟨a2,_,k1,_,k3,_⟩:=s.ow j e p;rw[h1]at k1;cases k1;exact k3
   exact⟨a',o',by rw[List.getElem?_set_ne ne];exact h1,h2,h3,h4.mono c⟩
 ·rcases bD q with⟨rfl,p⟩|⟨ne,p⟩
  ·rcases bD q' with⟨rfl,p'⟩|⟨ne',p'⟩
   ·rfl
   ·rw[List.getElem?_set_ne ne']at h2;have h1':V.ref a=V.ref b:=by
     rcases bD h1 with⟨_,z⟩|⟨z,_⟩
     ·exact Option.some.inj z
     ·exact absurd rfl z
    cases h1'
    exact absurd h2 (hno k f p')
  ·rcases bD q' with⟨rfl,p'⟩|⟨ne',p'⟩
   ·rw[List.getElem?_set_ne ne]at h1;have h2':V.ref a=V.ref b:=by
     rcases bD h2 with⟨_,z⟩|⟨z,_⟩
     ·exact Option.some.inj z
     ·exact absurd rfl z
    cases h2'
    exact absurd h1 (hno j e p)
   ·rw[List.getElem?_set_ne ne]at h1;rw[List.getElem?_set_ne ne']at h2;exact s.inj j k b e f p p' h1 h2
end
inductive Res where
 |nx (ρ:Env)|rt (d:D) (b:Bool)|bk (ρ:Env)|ct (ρ:Env)
abbrev FS:=Env->Option Res
def Gx (K:PySem.W.Frag)(B0 H0:Hp)(E:Ends):Res->Prop
 |.nx ρ=>∀σ H,uG K B0 H0 H σ ρ->E.nx σ H
 |.rt d b=>∀v H N,Ext B0 N H0 H->Is K N v d->(b=true->Fsh K H0 N v d)->E.rt v H
 |.bk ρ=>∀σ H,uG K B0 H0 H σ ρ->E.bk σ H
 |.ct ρ=>∀σ H,uG K B0 H0 H σ ρ->E.ct σ H
def tDS (K:PySem.W.Frag)(g:FS):TS:=λE σ H=>∃(B0 H0:Hp)(ρ:Env)(r:Res),uG K B0 H0 H σ ρ/\g ρ=some r/\Gx K B0 H0 E r
section
variable {K:PySem.W.Frag}{B0 H0 N H H':Hp}{σ:St}{ρ:Env}{E:Ends}
theorem StN.writeB (s:StN K B0 H0 N H σ ρ){i:Nat}{d dd:D}{a:Addr}{ob:HO}(hi:ρ[i]? = some (some (d,true)))(hσ:σ[i]? = some (some (V.ref a)))(h:Bx K (cut N (own σ ρ)) ob dd):
  StN K B0 H0 (upd N a ob) (upd H a ob) σ (ρ.set i (some (dd,true))):=by
 have oa:own σ ρ a:=⟨i,d,hi,hσ⟩;obtain⟨ws,hw,h0⟩:=s.owned oa;have b0:B0 a=none:=s.bh.free h0;have o:∀b,own σ (ρ.set i (some (dd,true))) b↔own σ ρ b:=λb=>by
  constructor
  ·rintro⟨j,e,q1,q2⟩;rcases bD q1 with⟨rfl,p⟩|⟨_,p⟩
   ·exact⟨i,d,hi,q2⟩
   ·exact⟨j,e,p,q2⟩
  ·rintro⟨j,e,q1,q2⟩;by_cases z:i=j
   ·subst z;exact⟨i,dd,by rw[List.getElem?_set_self (List.getElem?_eq_some_iff.mp hi).1],q2⟩
   ·exact⟨j,e,by rw[List.getElem?_set_ne z];exact q1,q2⟩
 have c:aQ (cut N (own σ ρ)) (cut (upd N a ob) (own σ (ρ.set i (some (dd,true))))):=d7 λb u e q=>by
  have ne:b≠a:=λz=>q (z ▸ oa);exact⟨by rw[aH ne];exact e,λz=>q ((o b).mp z)⟩
 refine⟨s.bh,s.tb,⟨λb u e=>?_,λb u e=>?_,λb u e=>?_,λb u e=>?_⟩,by rw[List.length_set];exact s.len,λj e q=>?_,λj e q=>?_,λj k b e f q q' h1 h2=>?_⟩
 ·rw[aH (λz=>by subst z;rw[h0]at e;cases e)];exact s.ext.hh _ _ e
 ·rw[aH (λz=>by subst z;rw[b0]at e;cases e)];exact s.ext.bn _ _ e
 ·by_cases z:b=a
  ·subst z;rw[aF]at e ⊢;exact e
  ·rw[aH z]at e ⊢;exact s.ext.nh _ _ e
 ·by_cases z:b=a
  ·subst z;exact .inr h0
  ·rw[aH z]at e;exact s.ext.new _ _ e
 ·rcases bD q with⟨rfl,p⟩|⟨ne,p⟩
  ·cases p
  ·obtain⟨v,h1,h2⟩:=s.sh j e p;exact⟨v,h1,h2.mono c⟩
 ·rcases bD q with⟨rfl,p⟩|⟨ne,p⟩
  ·cases p
   exact⟨a,ob,hσ,aF,h0,h.mono c⟩
  ·obtain⟨a',o',h1,h2,h3,h4⟩:=s.ow j e p;have na:a'≠a:=λz=>by subst z;exact ne (s.inj i j _ d e hi p hσ h1)
   exact⟨a',o',h1,by rw[aH na];exact h2,h3,h4.mono c⟩
 ·have get:∀ {j:Nat}{e:D},(ρ.set i (some (dd,true)))[j]? = some (some (e,true))->∃e',ρ[j]? = some (some (e',true)):=λ{j e} q=>by
   rcases bD q with⟨rfl,p⟩|⟨ne,p⟩
   ·exact⟨d,hi⟩
   ·exact⟨e,p⟩
  obtain⟨e',q1⟩:=get q;obtain⟨f',q2⟩:=get q';exact s.inj j k b e' f' q1 q2 h1 h2
theorem StN.write (s:StN K B0 H0 N H σ ρ){i:Nat}{d:D}{a:Addr}{vs:List V}{ds:List D}(hi:ρ[i]? = some (some (d,true)))(hσ:σ[i]? = some (some (V.ref a)))(h:IsL K (cut N (own σ ρ)) vs ds):
  StN K B0 H0 (upd N a (.lst vs)) (upd H a (.lst vs)) σ (ρ.set i (some (.lst ds,true))):=s.writeB hi hσ (.lst h)
theorem StN.tups (s:StN K B0 H0 N H σ ρ):∀a vs,SqT K N a vs->SqT K (cut N (own σ ρ)) a vs:=λa vs h=>by
 have key:∀u,N a=some u->¬boxed u->cut N (own σ ρ) a=some u:=λu e hu=>by
  rw[cf λz=>?_];exact e;obtain⟨ws,⟨q,qb⟩,_⟩:=s.owned z;rw[e]at q;cases q;exact hu qb
 rcases h with (h|⟨o,h⟩)|h
 ·exact .inl (.inl (key _ h (λq=>q)))
 ·exact .inl (.inr ⟨o,key _ h (λq=>q)⟩)
 ·exact .inr h
theorem StN.flat (s:StN K B0 H0 N H σ ρ){v:V}{d:D}(h:Is K N v d)(n:aZ d=true):Is K (cut N (own σ ρ)) v d:=h.keepT s.tups n
theorem StN.flats (s:StN K B0 H0 N H σ ρ){v:List V}{d:List D}(h:IsL K N v d)(n:bd d=true):IsL K (cut N (own σ ρ)) v d:=h.keepT s.tups n
theorem StN.rebase (s:StN K B0 H0 N H σ ρ):StN K (cut N (own σ ρ)) (cut H (own σ ρ)) N H σ ρ :=
 ⟨d7 λa o e q=>⟨s.ext.nh _ _ e,q⟩,s.tbC,⟨bM,bM,s.ext.nh,λa o e=>by
  by_cases q:own σ ρ a
  ·exact .inr (uF q)
  ·exact .inl (by rw[cf q];exact e)⟩,s.len,s.sh,λi d q=>by
   obtain⟨a,o,h1,h2,_,h4⟩:=s.ow i d q;exact⟨a,o,h1,h2,uF ⟨i,d,q,h1⟩,h4⟩,s.inj⟩
theorem StN.unbase (s:StN K B0 H0 N H σ ρ){N' H':Hp}{σ':St}{ρ':Env}(t:StN K (cut N (own σ ρ)) (cut H (own σ ρ)) N' H' σ' ρ'):StN K B0 H0 N' H' σ' ρ':=by
 have h0:aQ H0 (cut H (own σ ρ)):=λa o e=>by
  rw[cf λz=>?_];exact s.ext.hh _ _ e;obtain⟨_,_,q⟩:=s.owned z;rw[q]at e;cases e
 have b0:aQ B0 (cut N (own σ ρ)):=λa o e=>by
  rw[cf λz=>?_];exact s.ext.bn _ _ e;obtain⟨_,_,q⟩:=s.owned z;rw[s.bh _ _ e]at q;cases q
 refine⟨s.bh,s.tb,⟨h0.trans t.ext.hh,b0.trans t.ext.bn,t.ext.nh,λa o e=>?_⟩,t.len,t.sh,λi d q=>?_,t.inj⟩
 ·rcases t.ext.new a o e with z|z
  ·exact s.ext.new a o (bM _ _ z)
  ·exact .inr (h0.free z)
 ·obtain⟨a,o,h1,h2,h3,h4⟩:=t.ow i d q;exact⟨a,o,h1,h2,h0.free h3,h4⟩
theorem StN.based (t:StN K B0 H0 N H σ ρ):aQ B0 (cut N (own σ ρ)):=λa o e=>by
 rw[cf λz=>?_];exact t.ext.bn _ _ e;obtain⟨_,_,q⟩:=t.owned z;rw[t.bh _ _ e]at q;cases q
@[simp] noncomputable def aA (g h:FS):FS:=λρ=>match g ρ with|some (.nx ρ')=>h ρ'|r=>r
@[simp] noncomputable def ba:FS:=λρ=>some (.nx ρ)
@[simp] noncomputable def gIf (c:FT)(g h:FS):FS:=λρ=>match c ρ with|some true=>g ρ|some false=>h ρ|none=>none
@[simp] noncomputable def aV (f:FE):FS:=λρ=>(f ρ).map λx=>.rt x.1 x.2
@[simp] noncomputable def HR:FS:=λ_=>some (.rt .non false)
@[simp] noncomputable def HS (f:FE):FS:=λρ=>(f ρ).map λ_=>.nx ρ
@[simp] noncomputable def Db:D->Bool
 |.dk _ _=>true
 |.dt _ _=>true
 |_=>false
@[simp] noncomputable def j3 (i:Nat):FS:=λρ=>match ρ[i]? with|some (some (d,b))=>some (.rt d (b && !Db d))|_=>none
@[simp] noncomputable def Dc:D->Bool
 |.lst ds=>bd ds
 |_=>false
@[simp] noncomputable def setE (ρ:Env)(i:Nat)(d:D)(b:Bool):Env :=
 if aZ d=true then ρ.set i (some (d,false))else if b=true/\Dc d=true then ρ.set i (some (d,true))else (unown ρ).set i (some (d,false))
@[simp] noncomputable def aP (i:Nat)(f:FE):FS:=λρ=>(f ρ).map λx=>.nx (setE ρ i x.1 x.2)
@[simp] noncomputable def HU (i:Nat)(f:FE):FS:=λρ=>(f (rK ρ)).map λx=>.nx (ρ.set i (some (x.1,false)))
@[simp] noncomputable def gF (i:Nat)(f:FE):FS:=λρ=>match ρ[i]? with
 |some (some (.lst ds,true))=>(f ρ).bind λx=>if aZ x.1=true/\ds.length<sizeLine then some (.nx (ρ.set i (some (.lst (ds++[x.1]),true))))else none
 |_=>none
theorem BB {g h:FS}(q:tDS K (aA g h) E σ H):FL (tDS K g) (tDS K h) E σ H:=by
 obtain⟨B0,H0,ρ,r,s,e,p⟩:=q;unfold aA at e;cases eg:g ρ with
 |none=>rw[eg]at e;cases e
 |some r1=>
  rw[eg]at e;cases r1 with
  |nx ρ'=>exact⟨B0,H0,ρ,.nx ρ',s,eg,λσ' H' s'=>⟨B0,H0,ρ',r,s',e,p⟩⟩
  |rt d b=>cases e;exact⟨B0,H0,ρ,_,s,eg,p⟩
  |bk ρ'=>cases e;exact⟨B0,H0,ρ,_,s,eg,p⟩
  |ct ρ'=>cases e;exact⟨B0,H0,ρ,_,s,eg,p⟩
theorem zj (q:tDS K ba E σ H):CP E σ H:=by
 obtain⟨B0,H0,ρ,r,s,e,p⟩:=q;cases e
 exact p σ H s
theorem uG.grown {H':Hp}(s:StN K B0 H0 N H σ ρ)(h:aQ H H'):uG K B0 H0 H' σ ρ:=⟨N,s.grow (.grow s.ext.nh h)⟩
theorem E2 {c:FT}{g h:FS}(q:tDS K (gIf c g h) E σ H):FP (tDT K c) (tDS K g) (tDS K h) E σ H:=by
 obtain⟨B0,H0,ρ,r,⟨N,s⟩,e,p⟩:=q;unfold gIf at e;cases ec:c ρ with
 |none=>rw[ec]at e;cases e
 |some b=>
  rw[ec]at e;refine⟨N,ρ,b,s.ext.nh,s.rep,ec,λH1 h1=>?_⟩;cases b with
  |true=>rw[if_pos rfl];exact⟨B0,H0,ρ,r,.grown s h1,e,p⟩
  |false=>rw[if_neg (by decide)];exact⟨B0,H0,ρ,r,.grown s h1,e,p⟩
theorem BC {f:FE}(q:tDS K (aV f) E σ H):DY (tD K f) E σ H:=by
 obtain⟨B0,H0,ρ,r,⟨N,s⟩,e,p⟩:=q;obtain⟨x,ex,e⟩:=oY e;subst e;exact⟨N,ρ,x.1,x.2,s.ext.nh,s.rep,ex,λv H1 N1 x1 i1 f1=>p v H1 N1 (s.ext.trans x1) i1 λb=>(f1 b).back s.ext.hh⟩
theorem zk {i:Nat}(q:tDS K (j3 i) E σ H):DY (DO i) E σ H:=by
 obtain⟨B0,H0,ρ,r,⟨N,s⟩,e,p⟩:=q;unfold j3 at e;split at e
 ·rename_i d b ei;cases e
  cases b with
  |false=>
   obtain⟨v,h1,h2⟩:=s.sh i d ei;exact⟨v,h1,p v H N s.ext (h2.mono bM) (by simp)⟩
  |true=>
   obtain⟨a,o,h1,h2,h3,h4⟩:=s.ow i d ei;cases h4 with
   |lst h4=>exact⟨_,h1,p _ H N s.ext (.lst (SqL.of h2) (h4.mono bM)) λ_=>⟨a,_,_,rfl,rfl,h3,h2,h4.mono bM⟩⟩
   |dk hl h4=>exact⟨_,h1,p _ H N s.ext (.dk h2 hl (h4.mono bM)) (by simp)⟩
   |dt hl h4=>exact⟨_,h1,p _ H N s.ext (.dt h2 hl (h4.mono bM)) (by simp)⟩
 ·cases e
theorem StN.setE (s:StN K B0 H0 N H σ ρ){i:Nat}{v:V}{d:D}{b:Bool}{N1 H1:Hp}(x:Ext N N1 H H1)(h:Is K N1 v d)(f:b=true->Fsh K H N1 v d):StN K B0 H0 N1 H1 (σ.set i (some v)) (setE ρ i d b):=by
 have s1:=s.grow x;unfold DL.setE;by_cases hn:aZ d=true
 ·rw[if_pos hn];exact s1.bind (s1.flat h hn)
 ·rw[if_neg hn];by_cases hb:b=true/\Dc d=true
  ·rw[if_pos hb];obtain⟨a,vs,ds,rfl,rfl,ha,hN,hs⟩:=f hb.1;have hNa:N a=none:=s.ext.nh.free ha;have hoa:¬own σ ρ a:=λz=>by obtain⟨ws,⟨q,_⟩,_⟩:=s.owned z;rw[hNa]at q;cases q
   have c:aQ (cut N (own σ ρ)) (cut N1 (λb=>own σ ρ b∨b=a)):=d7 λb u e q=>⟨x.bn _ _ e,λz=>z.elim q λz=>by subst z;rw[hNa]at e;cases e⟩;refine s1.bindOwn hN (s.ext.hh.free ha) (λj e q z=>hoa ⟨j,e,q,z⟩) (λj e _ q=>?_) (λj e _ q=>?_) (.lst (hs.keepT (λt ts st=>?_) hb.2))
   ·obtain⟨w,h1,h2⟩:=s.sh j e q;exact⟨w,h1,h2.mono c⟩
   ·obtain⟨a',o',h1,h2,_,h4⟩:=s.ow j e q;exact⟨a',o',h1,x.bn _ _ h2,h4.mono c⟩
   ·have key:∀u,N1 t=some u->¬boxed u->cut N1 (λb=>own σ ρ b∨b=a) t=some u:=λu e hu=>by
     rw[cf λz=>?_];exact e;rcases z with z|z
     ·obtain⟨ws,⟨q,qb⟩,_⟩:=s1.owned z;rw[e]at q;cases q;exact hu qb
     ·subst z;rw[e]at hN;cases hN;exact hu trivial
    rcases st with (st|⟨o,st⟩)|st
    ·exact .inl (.inl (key _ st (λq=>q)))
    ·exact .inl (.inr ⟨o,key _ st (λq=>q)⟩)
    ·exact .inr st
  ·rw[if_neg hb];exact s1.unown.bind (h.mono λa o e=>by rw[cf kh];exact e)
theorem vV {i:Nat}{f:FE}(q:tDS K (aP i f) E σ H):xz (tD K f) (iU i) E σ H:=by
 obtain⟨B0,H0,ρ,r,⟨N,s⟩,e,p⟩:=q;obtain⟨x,ex,e⟩:=oY e;subst e;exact⟨N,ρ,x.1,x.2,s.ext.nh,s.rep,ex,λv H1 N1 x1 i1 f1=>p _ H1 ⟨N1,s.setE x1 i1 f1⟩⟩
theorem BD {i:Nat}{f:FE}(q:tDS K (gF i f) E σ H):∃(a:Addr)(us:List V),σ[i]? = some (some (V.ref a))/\H a=some (.lst us)/\CU (tD K f) Gh σ H λxs H2=>vT (.ref a) xs H2 λ_ H3=>E.nx σ H3:=by
 obtain⟨B0,H0,ρ,r,⟨N,s⟩,e,p⟩:=q;unfold gF at e;split at e
 ·rename_i ds ei;obtain⟨x,ex,e⟩:=oX e;split at e
  ·rename_i hx;cases e
   obtain⟨a,vs,ds',z,h1,h2,h3,h4⟩:=s.owL i _ ei;cases z
   refine⟨a,vs,h1,s.ext.nh _ _ h2,N,ρ,x.1,x.2,s.ext.nh,s.rep,ex,λv H1 N1 x1 i1 f1=>⟨a,vs,v,rfl,rfl,x1.hh _ _ (s.ext.nh _ _ h2),by rw[h4.length];exact hx.2,?_⟩⟩;have s1:=s.grow x1;obtain⟨a',vs',ds',z,k1,k2,_,k4⟩:=s1.owL i _ ei;cases z
   rw[h1]at k1;cases k1;rw[x1.bn _ _ h2]at k2;cases k2;exact p σ _ ⟨_,s1.write ei h1 (k4.append (.cons (s1.flat i1 hx.1) .nil))⟩
  ·cases e
 ·cases e
end
noncomputable def zl (c:FT)(g:FS):Nat->Env->Option Res
 |0,_=>none
 |n+1,ρ=>match c ρ with
  |some true=>match g ρ with
   |some (.nx ρ')=>zl c g n ρ'
   |some (.ct ρ')=>zl c g n ρ'
   |some (.bk ρ')=>some (.nx ρ')
   |r=>r
  |some false=>some (.nx ρ)
  |none=>none
def nW (K:PySem.W.Frag)(J:It)(B:Hp)(ds:List D):Prop:=∀(i:Nat)(H:Hp),aQ B H ->
 (∀d,ds[i]? = some d->J.go i H/\∀x H',J.yld i H x H'->∃N,Ext B N H H'/\Is K N x d)/\(ds.length<=i->J.stop i H)
def tDI (K:PySem.W.Frag)(f:FA):TI:=λσ H R=>∃(B:Hp)(ρ:Env)(ds:List D),aQ B H/\RepE K B σ ρ/\f ρ=some ds/\∀(J:It)(H' N:Hp),Ext B N H H'->nW K J N ds->R J H'
abbrev FG:=D->Env->Option Env
def tDG (K:PySem.W.Frag)(tg:FG)(g:TG):Prop:=∀(B0 H0 N H:Hp)(σ:St)(ρ ρ':Env)(v:V)(d:D)(Q:St->Hp->Prop),StN K B0 H0 N H σ ρ->Is K (cut N (own σ ρ)) v d->tg d ρ=some ρ' ->
 (∀σ' H',uG K B0 H0 H' σ' ρ'->Q σ' H')->g v σ H Q
@[simp] noncomputable def tgN (i:Nat):FG:=λd ρ=>some (ρ.set i (some (d,false)))
theorem d8 {K:PySem.W.Frag}{i:Nat}:tDG K (tgN i) (iU i):=by
 intro B0 H0 N H σ ρ ρ' v d Q s h e k;cases e
 exact k _ H ⟨N,s.bind h⟩
noncomputable def fY (tg:FG)(g:FS):List D->Env->Option Res
 |[],ρ=>some (.nx ρ)
 |d::ds,ρ=>(tg d ρ).bind λρ1=>match g ρ1 with
  |some (.nx ρ')=>fY tg g ds ρ'
  |some (.ct ρ')=>fY tg g ds ρ'
  |some (.bk ρ')=>some (.nx ρ')
  |r=>r
@[simp] theorem zm (tg:FG)(g:FS)(ρ:Env):fY tg g [] ρ=some (.nx ρ):=by rw[fY]
@[simp] theorem xO (tg:FG)(g:FS)(d:D)(ds:List D)(ρ:Env):fY tg g (d::ds) ρ=(tg d ρ).bind λρ1=>match g ρ1 with
  |some (.nx ρ')=>fY tg g ds ρ'
  |some (.ct ρ')=>fY tg g ds ρ'
  |some (.bk ρ')=>some (.nx ρ')
  |r=>r:=by rw[fY]
@[simp] noncomputable def rL (f:FA)(tg:FG)(g:FS):FS:=λρ=>(f (rK ρ)).bind λds=>fY tg g ds ρ
theorem rM {K:PySem.W.Frag}{tg:FG}{t:TG}{g:FS}{E:Ends}{σ:St}{H1 B0 H0 N N1:Hp}{ρ:Env}{r:Res}{J:It}{ds:List D}(ht:tDG K tg t)(s1:StN K B0 H0 N H1 σ ρ)(c:aQ N1 (cut N (own σ ρ)))(J1:nW K J N1 ds)(e:fY tg g ds ρ=some r)(p:Gx K B0 H0 E r):
  ∃W:Nat->Nat->St->Hp->Prop,(∃m,W 0 m σ H1)/\∀i m σ H,W i m σ H->(J.stop i H/\E.nx σ H)∨(J.go i H/\∃N:St->Hp->Prop,(∀σ' H',N σ' H'->∃m',m'<m/\W (i+1) m' σ' H')/\∀x H',J.yld i H x H'->t x σ H' λσ2 H2=>tDS K g { E with nx:=N,ct:=N,bk:=E.nx } σ2 H2):=by
 refine⟨λi m σ H=>∃(N:Hp)(ρ:Env),StN K B0 H0 N H σ ρ/\aQ N1 (cut N (own σ ρ))/\m=ds.length - i/\i<=ds.length/\fY tg g (ds.drop i) ρ=some r,⟨ds.length,_,ρ,s1,c,rfl,Nat.zero_le _,e⟩,?_⟩;clear e s1 c;rintro i m σ H ⟨N,ρ,s,c,rfl,hi,e⟩;have hs:aQ N1 H:=c.trans (bM.trans s.ext.nh);obtain⟨j1,j2⟩:=J1 i H hs;by_cases hlt:i<ds.length
 ·obtain⟨go,yl⟩:=j1 ds[i] (by simp[hlt]);rw[List.drop_eq_getElem_cons hlt]at e;obtain⟨ρ1,e1,e⟩:=oX e;refine .inr ⟨go,λσ' H'=>∃(N:Hp)(ρ:Env),StN K B0 H0 N H' σ' ρ/\aQ N1 (cut N (own σ' ρ))/\fY tg g (ds.drop (i+1)) ρ=some r,λσ' H' ⟨N',ρ',s',c',e'⟩=>⟨_,by omega,N',ρ',s',c',rfl,hlt,e'⟩,λx H' y=>?_⟩;obtain⟨N2,x2,i2⟩:=yl x H' y;have x3:Ext (cut N (own σ ρ)) (join (cut N (own σ ρ)) N2) H H':=by
   refine⟨x2.hh,dm,λa o e=>?_,λa o e=>?_⟩
   ·cases q:cut N (own σ ρ) a with
    |some u=>rw[dm _ _ q]at e;cases e;exact x2.hh _ _ (s.ext.nh _ _ (bM _ _ q))
    |none=>rw[cX q]at e;exact x2.nh _ _ e
   ·cases q:cut N (own σ ρ) a with
    |some u=>rw[dm _ _ q]at e;cases e;exact .inl rfl
    |none=>
     rw[cX q]at e;rcases x2.new a o e with z|z
     ·rw[c _ _ z]at q;cases q
     ·exact .inr z
  obtain⟨s2,c2⟩:=s.growH x3;have c3:aQ N2 (join (cut N (own σ ρ)) N2):=λa o e=>by
   rcases x2.new a o e with z|z
   ·exact dm _ _ (c _ _ z)
   ·rw[cX ((bM.trans s.ext.nh).free z)];exact e
  have i3:=i2.mono (c3.trans c2);have c4:aQ N1 (cut (join N (join (cut N (own σ ρ)) N2)) (own σ ρ)):=(x2.bn.trans c3).trans c2;refine ht _ _ _ _ _ _ _ _ _ _ s2.rebase i3 e1 λσ2 H2 ⟨N4,s4⟩=>?_;cases eg:g ρ1 with
  |none=>rw[eg]at e;cases e
  |some r1=>
   rw[eg]at e;refine⟨_,_,ρ1,r1,⟨N4,s4⟩,eg,?_⟩;have back:∀ {σ':St}{H':Hp}{ρ':Env}{N':Hp},StN K _ _ N' H' σ' ρ'->StN K B0 H0 N' H' σ' ρ'/\aQ N1 (cut N' (own σ' ρ')):=λt=>⟨s2.unbase t,c4.trans t.based⟩;cases r1 with
   |nx ρ'=>exact λσ' H' ⟨N',t⟩=>⟨N',ρ',(back t).1,(back t).2,e⟩
   |ct ρ'=>exact λσ' H' ⟨N',t⟩=>⟨N',ρ',(back t).1,(back t).2,e⟩
   |bk ρ'=>cases e;exact λσ' H' ⟨N',t⟩=>p σ' H' ⟨N',(back t).1⟩
   |rt d b=>
    cases e
    intro v H' N' x' i' f';have y:=s2.rebase.ext;have h0:aQ H0 (cut H' (λ_=>False)):=λa o e=>by rw[cf (λz=>z)];exact x'.hh _ _ (by
     rw[cf λz=>?_];exact s2.ext.hh _ _ e;obtain⟨_,_,q⟩:=s2.owned z;rw[q]at e;cases e)
    have h0':aQ H0 (cut H' (λ_=>False)):=h0;have hH:aQ H0 (cut H' (λ_=>False)):=h0;have hc:∀a,cut H' (λ_=>False) a=H' a:=λa=>cf (λz=>z);have hb:aQ H0 (cut _ (own σ ρ)):=λa o e=>by
     rw[cf λz=>?_];exact s2.ext.hh _ _ e;obtain⟨_,_,q⟩:=s2.owned z;rw[q]at e;cases e
    have bb:aQ B0 (cut _ (own σ ρ)):=λa o e=>by
     rw[cf λz=>?_];exact s2.ext.bn _ _ e;obtain⟨_,_,q⟩:=s2.owned z;rw[s2.bh _ _ e]at q;cases q
    refine p v H' N' ⟨hb.trans x'.hh,bb.trans x'.bn,x'.nh,λa o e=>?_⟩ i' λz=>(f' z).back hb;rcases x'.new a o e with z|z
    ·exact s2.ext.new a o (bM _ _ z)
    ·exact .inr (hb.free z)
 ·have ei:i=ds.length:=by omega
  subst ei;rw[List.drop_eq_nil_of_le (Nat.le_refl _)]at e;cases e
  exact .inl ⟨j2 (Nat.le_refl _),p σ H ⟨N,s⟩⟩
theorem BE {K:PySem.W.Frag}{f:FA}{tg:FG}{t:TG}{g:FS}{E:Ends}{σ:St}{H:Hp}(ht:tDG K tg t)(q:tDS K (rL f tg g) E σ H):Ed (tDI K f) t (tDS K g) E σ H:=by
 obtain⟨B0,H0,ρ,r,⟨N,s⟩,e,p⟩:=q;obtain⟨ds,ef,e⟩:=oX e;refine⟨cut N (own σ ρ),rK ρ,ds,bM.trans s.ext.nh,s.repH,ef,λJ H1 N1 x1 J1=>?_⟩;obtain⟨s1,c⟩:=s.growH x1;exact rM ht s1 c J1 e p
def tDR (K:PySem.W.Frag)(f:FA):TI:=λσ H R=>∃(B:Hp)(ρ:Env)(ds:List D),aQ B H/\RepE K B σ ρ/\f ρ=some ds/\∀(J:It)(H' N:Hp),Ext B N H H'->(∀B',nW K J B' ds)->R J H'
@[simp] noncomputable def gZ (f:FA)(tg:FG)(g:FS):FS:=λρ=>(f ρ).bind λds=>fY tg g ds ρ
theorem zn {K:PySem.W.Frag}{f:FA}{tg:FG}{t:TG}{g:FS}{E:Ends}{σ:St}{H:Hp}(ht:tDG K tg t)(q:tDS K (gZ f tg g) E σ H):Ed (tDR K f) t (tDS K g) E σ H:=by
 obtain⟨B0,H0,ρ,r,⟨N,s⟩,e,p⟩:=q;obtain⟨ds,ef,e⟩:=oX e;refine⟨N,ρ,ds,s.ext.nh,s.rep,ef,λJ H1 N1 x1 J1=>?_⟩;exact rM ht (s.grow x1) (aQ.refl _) (J1 _) e p
end DL
namespace DL
open PySem PySem.Spec PyProof.Rows L2
abbrev JE (X:Cx)(e:Expr)(f:FE):Prop:=PE X e (tD X.K f)
abbrev JT (X:Cx)(e:Expr)(f:FT):Prop:=PT X e (tDT X.K f)
abbrev JW (X:Cx)(e:Expr)(f:FT):Prop:=PW X e (tDT X.K f)
abbrev JA (X:Cx)(es:List Expr)(f:FA):Prop:=PA X es (tDA X.K f)
abbrev JS (X:Cx)(st:Stmt)(g:FS):Prop:=PS X st (tDS X.K g)
abbrev JSs (X:Cx)(st:List Stmt)(g:FS):Prop:=PSs X st (tDS X.K g)
abbrev JI (X:Cx)(tg iter:Expr)(f:FA):Prop:=PI X tg iter (tDI X.K f)
theorem pW {prog:Program}{w:World}{A:Around}{R:Result->Shared->Prop}{s:Shared}{elt target iter:Expr}{ifs:List Expr}{scope:Scope}{pos:Pos}{it acc:Value}{env:PySem.Env}(I:Nat->Shared->Prop)
  (turn:∀n s,I n s->wpAny (model prog w) A (pyNext it) (λr s₁=>match r with
   |none=>R (.ok .next) s₁
   |some v=>wpAny (model prog w) A (letOwnedTupleGo target it v) (λ_ s₁=>wpAny (model prog w) A (assign target env v) (λ_ s₂=>
     wpAny (model prog w) A (forIn ifs true λc r=>if r=true then do let ok ←isTrue c env (eval c env);pure (ForInStep.yield ok)else pure (ForInStep.yield r)) (λok s₃=>
      if ok=true then wpAny (model prog w) A (eval elt env) (λx s₄=>
       wpAny (model prog w) A (call (.builtin "list.append") [acc,x]) (λ_ s₅=>∃m,m<n/\I m s₅) (λ_ _=>False) s₄) (λ_ _=>False) s₃
      else ∃m,m<n/\I m s₃) (λ_ _=>False) s₂) (λ_ _=>False) s₁) (λ_ _=>False) s₁) (λ_ _=>False) s)
  (n:Nat) (h:I n s):codeAny (model prog w) A (.compLoop (.ListComp elt [⟨target,iter,ifs,0⟩] scope pos) 0 it acc env) R s:=by
 refine codeAny_loop rfl I (λn s hI=>?_) n h;show wpAny _ A ((compTurn (.ListComp elt [⟨target,iter,ifs,0⟩] scope pos) 0 it acc env).onRaise (λx=>do noteFrame x env;theTreesLotGoes x)) _ _ s;refine wpAny_noted (wpAny_mono (E:=λ_ _=>False) ?_ (λ_ _ q=>q) λ_ _ z=>z.elim);rw[compTurn_list];refine wX (wpAny_standAt (wX (wpAny_mono (turn n s hI) (λr s₁ h₁=>?_) λ_ _ h'=>h')));cases r with
 |none=>exact wY h₁
 |some v=>
  refine wX (wpAny_mono h₁ (λ_ s₁ h₁=>?_) λ_ _ h'=>h');refine wX (wpAny_mono h₁ (λ_ s₂ h₂=>wX (wpAny_mono h₂ (λok s₃ h₃=>?_) λ_ _ h'=>h')) λ_ _ h'=>h');cases ok with
  |false=>exact wY ⟨rfl,h₃⟩
  |true=>exact wX (wX (wpAny_mono h₃ (λx s₄ h₄=>wX (wpAny_mono h₄ (λ_ s₅ h₅=>wY (wY ⟨rfl,h₅⟩)) λ_ _ h'=>h')) λ_ _ h'=>h'))
theorem Ext.upd {B N H H':Hp}{a:Addr}{o:HO}(x:Ext B N H H')(h:H a=none)(hN:N a=none):Ext B N H (upd H' a o) :=
 ⟨λb u e=>by rw[aH (λz=>by subst z;rw[h]at e;cases e)];exact x.hh _ _ e,x.bn,λb u e=>by rw[aH (λz=>by subst z;rw[hN]at e;cases e)];exact x.nh _ _ e,x.new⟩
noncomputable abbrev d9 (X:Cx)(N':List Str)(scope:Scope)(cl:List (Str×Addr))(C:Addr)(s₃:Shared)(H₃:Hp)(fp:List Addr):Cx :=
 { X with N:=N',s₀:=s₃,H₀:=H₃,env:=compEnvC scope cl C X.env,outer:=X.stack,stack:=X.stack,ex:=fp,fn:=λ_=>false,pn:=[],xe:=λ_ _=>False }
inductive Caps (X:Cx)(N':List Str)(scope:Scope)(cl:List (Str×Addr)):Nat->List Nat->Prop where
 |nil {j:Nat}(h:N'.length=j):Caps X N' scope cl j []
 |cons {j i:Nat}{r:List Nat}{x:Str}(h1:N'[j]? = some x) (h2:X.N[i]? = some x) (h3:X.env.kindOf x=some .cell∨X.env.kindOf x=some .free)
   (h4:(relabel scope X.env).names.lookup x=some .cell∨(relabel scope X.env).names.lookup x=some .free) (h5:cl.lookup x=X.env.cells.lookup x) (t:Caps X N' scope cl (j+1) r):Caps X N' scope cl j (i::r)
theorem Caps.len {X:Cx}{N':List Str}{scope:Scope}{cl:List (Str×Addr)}:∀ {j:Nat}{cap:List Nat},Caps X N' scope cl j cap->N'.length=j+cap.length
 |_,_,.nil h=>by rw[h];rfl
 |j,i::r,.cons _ _ _ _ _ t=>by rw[t.len,List.length_cons];omega
theorem Caps.get {X:Cx}{N':List Str}{scope:Scope}{cl:List (Str×Addr)}:∀ {j:Nat}{cap:List Nat}{k i:Nat},Caps X N' scope cl j cap->cap[k]? = some i->∃x,N'[j+k]? = some x/\X.N[i]? = some x/\(X.env.kindOf x=some .cell∨X.env.kindOf x=some .free) /\
  ((relabel scope X.env).names.lookup x=some .cell∨(relabel scope X.env).names.lookup x=some .free)/\cl.lookup x=X.env.cells.lookup x
 |_,_,_,_,.nil _,e=>by simp at e
 |j,_,0,_,.cons h1 h2 h3 h4 h5 _,e=>by simp at e;subst e;exact⟨_,h1,h2,h3,h4,h5⟩
 |j,_,k+1,i,.cons _ _ _ _ _ t,e=>by
  obtain⟨x,q,r⟩:=t.get (k:=k) (i:=i) (by simpa using e);exact⟨x,by rw[show j+(k+1)=j+1+k by omega];exact q,r⟩
structure CompSc (X:Cx)(scope:Scope)(cl:List (Str×Addr)):Prop where
 clos:closureFor scope X.env=pure cl
 nocell:∀y∈scope.names,y.2≠.cell
 kind:scope.kind=.function
 names:∀y∈scope.names,y.2=.local->scope.names.lookup y.1=some .local
 sub:∀x c,cl.lookup x=some c->X.env.cells.lookup x=some c
 has:∀x,((relabel scope X.env).names.lookup x=some .cell∨(relabel scope X.env).names.lookup x=some .free)->∃c,cl.lookup x=some c
noncomputable def cJ:List (Str×NameKind)->List (Str×Addr)->List (Str×Addr)->List (Str×Addr)
 |[],_,cs=>cs
 | (n,k)::r,cells,cs=>cJ r cells (if k == .free then (match cells.lookup n with|some c=>(n,c)::cs|none=>cs)else cs)
theorem oJ {env:PySem.Env}:∀(names:List (Str×NameKind))(cs:List (Str×Addr)),(∀y∈names,y.2=.free->(env.cells.lookup y.1).isSome=true) ->
    (do let mut cs:=cs
        for (name,kind)in names do
          if kind == .free then cs:=(name,←cellOf env name)::cs
        return cs:Sem (List (Str×Addr)))=pure (cJ names env.cells cs):=by
  intro names;induction names with
  |nil=>intro cs _;rfl
  |cons y r ih=>
    intro cs h;obtain⟨n,k⟩:=y;have ih':=λcs=>ih cs λy hy=>h y (mZ _ hy);by_cases hk:k=.free
    . subst hk;have hc:=h (n,.free) mX rfl;cases q:env.cells.lookup n with
      |none=>rw[q]at hc;cases hc
      |some c=>
        have e1:cJ ((n,.free)::r) env.cells cs=cJ r env.cells ((n,c)::cs):=by
          rw[cJ,q];rfl
        rw[e1,←ih' ((n,c)::cs)];have e2:cellOf env n=pure c:=by unfold cellOf;rw[q]
        simp only[List.forIn_cons,beq_self_eq_true,if_true,e2];rfl
    . have hb:(k == NameKind.free)=false:=by simpa using hk
      have e1:cJ ((n,k)::r) env.cells cs=cJ r env.cells cs:=by rw[cJ,hb];rfl
      rw[e1,←ih' cs];simp only[List.forIn_cons,hb,Bool.false_eq_true,if_false];rfl
theorem j4 {cells:List (Str×Addr)}{x:Str}{c:Addr}:∀(names:List (Str×NameKind))(cs:List (Str×Addr)),(∀y d,cs.lookup y=some d->cells.lookup y=some d)->(cJ names cells cs).lookup x=some c->cells.lookup x=some c
 |[],cs,h,e=>h x c e
 | (n,k)::r,cs,h,e=>by
  rw[cJ]at e;refine j4 r _ (λy d q=>?_) e;split at q
  ·split at q
   ·rename_i c' ec;rw[List.lookup_cons]at q;split at q
    ·rename_i hy;cases q
     rw[eq_of_beq hy];exact ec
    ·exact h y d q
   ·exact h y d q
  ·exact h y d q
theorem oK {cells:List (Str×Addr)}{x:Str}:∀(names:List (Str×NameKind))(cs:List (Str×Addr)),(cs.lookup x).isSome=true->((cJ names cells cs).lookup x).isSome=true
 |[],cs,h=>h
 | (n,k)::r,cs,h=>by
  rw[cJ];refine oK r _ ?_;split
  ·split
   ·rw[List.lookup_cons];split
    ·rfl
    ·exact h
   ·exact h
  ·exact h
theorem j5 {cells:List (Str×Addr)}{x:Str}:∀(names:List (Str×NameKind))(cs:List (Str×Addr)),(x,NameKind.free)∈names->(cells.lookup x).isSome=true->((cJ names cells cs).lookup x).isSome=true
 | (n,k)::r,cs,hm,hc=>by
  rw[cJ];rcases List.mem_cons.mp hm with e|e
  ·cases e
   refine oK r _ ?_;cases q:cells.lookup x with
   |none=>rw[q]at hc;cases hc
   |some c=>simp
  ·exact j5 r _ e hc
theorem dQ {α:Type}{x:Str}{k:α}:∀ {l:List (Str×α)},l.lookup x=some k->(x,k)∈l
 | (n,j)::r,h=>by
  rw[List.lookup_cons]at h;split at h
  ·rename_i e;cases h
   rw[eq_of_beq e];exact mX
  ·exact mZ _ (dQ h)
theorem E3 {X:Cx}{scope:Scope}(h1:∀y∈scope.names,y.2≠.cell)(h2:scope.kind=.function)(h3:∀y∈scope.names,y.2=.local->scope.names.lookup y.1=some .local)(h4':(scope.names.all λy=>!(y.2 == NameKind.free) || (X.env.cells.lookup y.1).isSome)=true):
  CompSc X scope (cJ scope.names X.env.cells []):=by
 have h4:∀y∈scope.names,y.2=.free->(X.env.cells.lookup y.1).isSome=true:=λy hy e=>by
  have:=List.all_eq_true.mp h4' y hy;rw[e]at this;simpa using this
 have frees:∀x,((relabel scope X.env).names.lookup x=some .cell∨(relabel scope X.env).names.lookup x=some .free)->(x,NameKind.free)∈scope.names:=λx h=>by
  have:∃k,(x,k)∈(relabel scope X.env).names/\(k=.cell∨k=.free):=by
   rcases h with h|h
   ·exact⟨_,dQ h,.inl rfl⟩
   ·exact⟨_,dQ h,.inr rfl⟩
  obtain⟨k,hm,hk⟩:=this;obtain⟨⟨n,j⟩,hj,e⟩:=List.mem_map.mp hm;dsimp only at e;split at e
  ·rename_i hc;rw[Bool.and_eq_true,Bool.and_eq_true]at hc;cases e
   rw[←eq_of_beq hc.1.1];exact hj
  ·cases e
   rcases hk with rfl|rfl
   ·exact absurd rfl (h1 _ hj)
   ·exact hj
 exact⟨oJ scope.names [] h4,h1,h2,h3,λx c e=>j4 scope.names [] (λy d q=>by cases q) e,λx h=>by
  have:=j5 (x:=x) scope.names [] (frees x h) (h4 _ (frees x h) rfl);exact Option.isSome_iff_exists.mp this⟩
theorem lB {scope:Scope}{cells:List (Str×Addr)}{x:Str}(h:(x,NameKind.free)∈scope.names)(hc:(cells.lookup x).isSome=true):(cJ scope.names cells []).lookup x=cells.lookup x:=by
 obtain⟨c,e⟩:=Option.isSome_iff_exists.mp (j5 (x:=x) scope.names [] h hc);rw[e,j4 scope.names [] (λy d q=>by cases q) e]
noncomputable def nX (nT:Nat)(cap:List Nat)(σ:St):St:=List.replicate nT none++cap.map λi=>(σ[i]?).join
noncomputable def bP (nT:Nat)(cap:List Nat)(ρ:Env):Env:=List.replicate nT none++cap.map λi=>match ρ[i]? with|some (some (d,_))=>some (d,false)|_=>none
theorem pX {α:Type}{nT:Nat}{cap:List Nat}{f:Nat->Option α}{j:Nat}{v:α}(h:(List.replicate nT none++cap.map f)[j]? = some (some v)):∃k i,j=nT+k/\cap[k]? = some i/\f i=some v:=by
 by_cases hj:j<nT
 ·rw[List.getElem?_append_left (by simpa using hj),List.getElem?_replicate,if_pos hj]at h;cases h
 ·rw[List.getElem?_append_right (by simpa using Nat.not_lt.mp hj),List.length_replicate,List.getElem?_map]at h;obtain⟨i,h1,h2⟩:=oY h;exact⟨j - nT,i,by omega,h1,h2⟩
theorem BF {α:Type}{nT:Nat}{cap:List Nat}{f:Nat->Option α}{k i:Nat}{v:α}(h1:cap[k]? = some i)(h2:f i=some v):(List.replicate nT none++cap.map f)[nT+k]? = some (some v):=by
 rw[List.getElem?_append_right (by simp),List.length_replicate,List.getElem?_map,Nat.add_sub_cancel_left,h1];simp[h2]
theorem RepE.caps {K:PySem.W.Frag}{B:Hp}{σ:St}{ρ:Env}{nT:Nat}{cap:List Nat}(h:RepE K B σ ρ):RepE K B (nX nT cap σ) (bP nT cap ρ):=⟨h.tb,λj d b q=>by
 obtain⟨k,i,rfl,h1,h2⟩:=pX q;split at h2
 ·rename_i d' b' e;cases h2
  obtain⟨v,g1,g2⟩:=h.at' i _ _ e;exact⟨v,BF h1 (by rw[g1];rfl),g2⟩
 ·cases h2⟩
noncomputable def fw (tg:FG)(c:FT)(fe:FE)(ρ:Env):List D->Option (List D)
 |[]=>some []
 |d::r=>(tg d ρ).bind λρ1=>(c ρ1).bind λb=>if b=true then (fe ρ1).bind λx=>(fw tg c fe ρ r).map (x.1 :: ·)else fw tg c fe ρ r
@[simp] theorem F3 (tg:FG)(c:FT)(fe:FE)(ρ:Env):fw tg c fe ρ []=some []:=by rw[fw]
@[simp] theorem uH (tg:FG)(c:FT)(fe:FE)(ρ:Env)(d:D)(r:List D):fw tg c fe ρ (d::r)=(tg d ρ).bind λρ1=>(c ρ1).bind λb=>if b=true then (fe ρ1).bind λx=>(fw tg c fe ρ r).map (x.1 :: ·)else fw tg c fe ρ r:=by rw[fw]
@[simp] noncomputable def bQ (fi:FA)(nT:Nat)(cap:List Nat)(tg:FG)(c:FT)(fe:FE):FE:=λρ=>(fi ρ).bind λitems=>if items.length<=sizeLine then (fw tg c fe (bP nT cap ρ) items).map λds=>(.lst ds,true)else none
def TGE (K:PySem.W.Frag)(n:Nat)(tg:FG)(g:TG):Prop:=∀(B H:Hp)(σ:St)(ρ ρ1:Env)(v:V)(d:D)(Q:St->Hp->Prop),(∀i,i<n->ρ[i]? = some none)->RepE K B σ ρ->aQ B H->Is K B v d->tg d ρ=some ρ1 ->
 ρ.length=σ.length->(∀σ1,RepE K B σ1 ρ1->(∀B',RepE K B' σ ρ->RepE K B' σ1 ρ)->ρ.length=σ1.length->Q σ1 H)->g v σ H Q
theorem bF {K:PySem.W.Frag}{n i:Nat}(hi:i<n):TGE K n (tgN i) (iU i):=by
 intro B H σ ρ ρ1 v d Q cl rep s h e hl k;cases e
 have hiσ:i<σ.length:=by
  have:=(List.getElem?_eq_some_iff.mp (cl i hi)).1;omega
 refine k _ ⟨rep.tb,λj e b q=>?_⟩ ?_ (by simpa using hl)
 ·rcases bD q with⟨rfl,p⟩|⟨ne,p⟩
  ·cases p
   exact⟨v,by simp[hiσ],h⟩
  ·obtain⟨w,h1,h2⟩:=rep.at' j e b p;exact⟨w,by rw[List.getElem?_set_ne ne];exact h1,h2⟩
 ·intro B' rep';refine⟨rep'.tb,λj e b q=>?_⟩;obtain⟨w,h1,h2⟩:=rep'.at' j e b q;have ne:i≠j:=λz=>by subst z;rw[cl i hi]at q;cases q
  exact⟨w,by rw[List.getElem?_set_ne ne];exact h1,h2⟩
def JC (X:Cx)(ifs:List Expr)(c:FT):Prop:=∀(pins:List (Addr×Obj))(s:Shared)(σ:St)(H:Hp)(Q:Bool->Hp->Prop),Inv X pins σ H s->tDT X.K c σ H Q ->
 wpAny (model X.prog X.w) X.A (forIn ifs true λc r=>if r=true then do let ok ←isTrue c X.env (eval c X.env);pure (ForInStep.yield ok)else pure (ForInStep.yield r)) (TP X pins σ Q) X.xe s
@[simp] noncomputable def iW:FT:=λ_=>some true
theorem lP {X:Cx}:JC X [] iW:=by
 intro pins s σ H Q I h;obtain⟨B,ρ,c,sB,rep,e,q⟩:=h;cases e
 exact wpAny_tests_nil ⟨H,I,q H (.refl H)⟩
theorem dR {X:Cx}{e:Expr}{f:FT}(h:JT X e f):JC X [e] f:=λpins s σ H Q I q=>wpAny_tests_one (h pins s σ H Q I q)
theorem lQ {X:Cx}(hcalm:X.calm=true){tg iter elt:Expr}{ifs:List Expr}{scope:Scope}{pos:Pos}{cl:List (Str×Addr)}{N':List Str}{nT:Nat}{cap:List Nat}{tgF:FG}{g:TG}{fc:FT}{fe:FE}
  (S:CompSc X scope cl) (cp:Caps X N' scope cl nT cap)
  (hg:∀C s H fp,PG (d9 X N' scope cl C s H fp) tg g) (htg:TGE X.K nT tgF g) (hc:∀C s H fp,JC (d9 X N' scope cl C s H fp) ifs fc) (he:∀C s H fp,JE (d9 X N' scope cl C s H fp) elt fe)
  {pins:List (Addr×Obj)}{σ:St}{H2:Hp}{s2:Shared}{it:Addr}{fp:List Addr}{tn:Nat->Heap->Prop}{J:It}{N1:Hp}{ρ:Env}{items ds:List D}{E:Value->Shared->Prop}
  (I2:Inv X pins σ H2 s2) (T:Turn X.prog X.w X.K tg J fp it tn) (st2:tn 0 s2.heap) (f2:∀b∈fp,jZ X pins H2 b)
  (rep:RepE X.K N1 σ ρ) (sN:aQ N1 H2) (J1:nW X.K J N1 items) (hsz:items.length<=sizeLine) (ec:fw tgF fc fe (bP nT cap ρ) items=some ds) {RR:Value->Addr->Result->Shared->Prop}
  (hRR:∀(Dd C:Addr)(s':Shared)(H' N:Hp)(vs:List V)(m:Str->Option Value),H2 Dd=none->Inv X pins σ H' s'->s'.heap.Ns C m->jZ X pins H' C->Ext N1 N H2 H'->N Dd=some (.lst vs)->IsL X.K N vs ds->RR (.ref Dd) C (.ok .next) s'):
  wpAny (model X.prog X.w) X.A (newList []) (λacc s₃=>wpAny (model X.prog X.w) X.A (newFunctionEnv scope X.env.globals cl [] X.env.qual none .none (some X.env)) (λcenv s₄=>
   codeAny (model X.prog X.w) X.A (.compStart (.ListComp elt [⟨tg,iter,ifs,0⟩] scope pos) 0 (.ref it) acc { cenv with scope:=relabel scope X.env }) (RR acc cenv.locals) s₄) E s₃) E s2:=by
 refine wpAny_newObj_type (wpAny_newFunctionEnv S.nocell (by intro y hy;simp at hy) (λh₁ hns₁ hsb₁=>?_) S.kind);dsimp only at hns₁ hsb₁ ⊢;have hD:H2 s2.heap.objs.size=none:=I2.fresh;have I3:Inv X pins σ (upd H2 s2.heap.objs.size (.lst [])) { s2 with heap:=s2.heap.push { cls:=.type "list",dict:=none,data:=.seq ([]:List Value).toArray } }:=I2.lnew (t':=s2.toks) (ys:=[]) (its:=[]) .nil (Nat.zero_le _);generalize hH3:s2.heap.push { cls:=.type "list",dict:=none,data:=.seq ([]:List Value).toArray }=g3 at hns₁ hsb₁ I3 ⊢;have hC:g3.objs.size=s2.heap.objs.size+1:=by rw[←hH3,Heap.size_push]
 have old2:∀b o,s2.heap.get? b=some o->g3.get? b=some o:=λb o e=>hH3 ▸ Heap.get?_push_of_some _ e;have old3:∀b o,g3.get? b=some o->h₁.get? b=some o:=λb o e=>hsb₁.extBut b o (Nat.ne_of_lt (Heap.lt_size e)) (Heap.get?_push_of_some _ e);have neC:∀b o,g3.get? b=some o->b≠g3.objs.size:=λb o e=>Nat.ne_of_lt (Heap.lt_size e);have fpo:∀b∈fp,∃o,s2.heap.get? b=some o:=λb hb=>let ⟨o,e,_⟩:=T.obj 0 s2.heap st2 b hb;⟨o,e⟩;have fpD:∀b∈fp,b≠s2.heap.objs.size:=λb hb=>let ⟨o,e⟩:=fpo b hb;Nat.ne_of_lt (Heap.lt_size e);have fpC:∀b∈fp,b≠g3.objs.size:=λb hb=>let ⟨o,e⟩:=fpo b hb;neC b o (old2 b o e);have cellC:∀x c,X.env.cells.lookup x=some c->c≠g3.objs.size:=λx c e=>by
  obtain⟨v,z⟩:=I3.cell x c e;exact Nat.ne_of_lt z.lt
 have hHC:(upd H2 s2.heap.objs.size (HO.lst [])) g3.objs.size=none:=I3.hok.fresh (Nat.le_refl _);have stk:∀b∈frs X.stack,∃o,s2.heap.get? b=some o:=λb hb=>by
  obtain⟨_,o,ho,_⟩:=(I2.stack).mem hb;exact⟨o,ho⟩
 -- the block's context
 have ok:(d9 X N' scope cl g3.objs.size { s2 with heap:=g3 } (upd H2 s2.heap.objs.size (.lst [])) fp).Ok:=by
  refine⟨I2.ok.mod,?_,I2.ok.glob,I2.ok.blt,Nat.le_refl _,λx y c e1 e2=>I2.ok.inj x y c (S.sub x c e1) (S.sub y c e2),λx h=>S.has x h,λx c h=>absurd h Bool.false_ne_true,I2.ok.hd,I2.ok.frames,.inl rfl,λb hb=>⟨fpC b hb,λx c e=>(f2 b hb).2.2.2.2.1 x c (S.sub x c e)⟩,λb o e=>?_,?_,λb o e hb=>?_,λb hb hz=>?_,I3.stack,λb hb=>I3.stkFree b hb⟩
  ·show(relabel scope X.env).kind=.function;exact S.kind
  ·exact I3.bs b o e
  ·exact Nat.le_trans I3.ok.bsz I3.sz
  ·have h1:=(f2 b hb).2.2.2.1;rcases h1 with z|z
   ·exact I2.ok.noex b o e z
   ·exact absurd (Nat.lt_of_lt_of_le (Heap.lt_size e) (Nat.le_trans I2.ok.bsz z)) (Nat.lt_irrefl _)
  ·rcases List.mem_cons.mp (I2.stkSub b hz)with z|z
   ·exact(f2 b hb).2.1 z
   ·exact(f2 b hb).2.2.1 z
 have I4:Inv (d9 X N' scope cl g3.objs.size { s2 with heap:=g3 } (upd H2 s2.heap.objs.size (.lst [])) fp) [] (nX nT cap σ) (upd H2 s2.heap.objs.size (.lst [])) { s2 with heap:=h₁,toks:=s2.toks+([]:List (Str×Value)).length }:=by
  refine⟨ok,rfl,I2.bare,Un.kept old3,⟨_,hns₁,λj x v e1 e2 e3=>?_⟩,λx c e=>?_,hHC,λx c e=>I3.freeC x c (S.sub x c e),λp hp=>by simp at hp,I3.hok.kept old3,?_⟩
  ·obtain⟨k,i,rfl,h1,h2⟩:=pX e2;obtain⟨y,g1,g2,g3',g4,g5⟩:=cp.get h1;have e1':N'[nT+k]? = some x:=e1;rw[g1]at e1';cases e1';have h2':σ[i]? = some (some v):=by
    cases q:σ[i]? with
    |none=>rw[q]at h2;cases h2
    |some z=>rw[q]at h2;have:z=some v:=h2;rw[this]
   obtain⟨m,_,hl⟩:=I3.loc;obtain⟨u,r,l⟩:=hl i _ v g2 h2' (g3'.elim (λz=>.inr (.inl z)) λz=>.inr (.inr z));refine⟨u,r,?_⟩;rcases l with⟨l,_⟩|⟨_,c,lc,ic⟩
   ·rcases g3' with z|z<;>(rw[z]at l;cases l)
   ·refine .inr ⟨g4,c,by show cl.lookup _=some c;rw[g5];exact lc,?_⟩;obtain⟨o,ho,hd⟩:=ic;exact⟨o,old3 _ _ ho,hd⟩
  ·obtain⟨v,o,ho,hd⟩:=I3.cell x c (S.sub x c e);exact⟨v,o,old3 _ _ ho,hd⟩
  ·show(nX nT cap σ).length=N'.length;unfold nX;rw[cp.len];simp
 have fpX:∀ {H':Hp},(∀b∈fp,H' b=none)->∀b∈fp,jZ (d9 X N' scope cl g3.objs.size { s2 with heap:=g3 } (upd H2 s2.heap.objs.size (.lst [])) fp) [] H' b:=λhn b hb=>
  ⟨hn b hb,fpC b hb,ok.exfs b hb,.inl hb,λx c e=>(f2 b hb).2.2.2.2.1 x c (S.sub x c e),λp hp=>by simp at hp⟩
 have clean:∀i,i<nT->(bP nT cap ρ)[i]? = some none:=λi hi=>by
  unfold bP;rw[List.getElem?_append_left (by simpa using hi),List.getElem?_replicate,if_pos hi]
 have hND:N1 s2.heap.objs.size=none:=sN.free hD;have loop:∀s₃:Shared,s₃={ s2 with heap:=h₁,toks:=s2.toks+([]:List (Str×Value)).length } ->
   codeAny (model X.prog X.w) X.A (.compLoop (.ListComp elt [⟨tg,iter,ifs,0⟩] scope pos) 0 (.ref it) (.ref s2.heap.objs.size) (compEnvC scope cl g3.objs.size X.env)) (RR (.ref s2.heap.objs.size) g3.objs.size) s₃:=by
  rintro s₃ rfl;refine pW (λn s'=>∃(i:Nat)(N:Hp)(vs:List V)(es:List D)(σ':St)(H':Hp),Inv (d9 X N' scope cl g3.objs.size { s2 with heap:=g3 } (upd H2 s2.heap.objs.size (.lst [])) fp) [] σ' H' s'/\tn i s'.heap/\(∀b∈fp,H' b=none) /\
   n=items.length - i/\i<=items.length/\RepE X.K N1 σ' (bP nT cap ρ)/\(bP nT cap ρ).length=σ'.length/\Ext N1 N H2 H'/\N s2.heap.objs.size=none/\H' s2.heap.objs.size=some (.lst vs)/\vs.length<=i/\IsL X.K N vs es /\
   ∃r,fw tgF fc fe (bP nT cap ρ) (items.drop i)=some r/\es++r=ds) ?_ items.length ?_
  ·rintro n s' ⟨i,N,vs,es,σ',H',I',ti,hn,rfl,hi,rp,hlen,x,hN0,hH0,hvl,hvs,r,er,eds⟩;have sH:aQ N1 H':=x.bn.trans x.nh;by_cases hlt:i<items.length
   ·obtain⟨j1,_⟩:=J1 i H' sH;obtain⟨go,yl⟩:=j1 items[i] (by simp[hlt]);rw[List.drop_eq_getElem_cons hlt]at er;unfold fw at er;obtain⟨ρ1,e1,er⟩:=oX er;obtain⟨b,e2,er⟩:=oX er;refine thn (T.item (d9 X N' scope cl g3.objs.size { s2 with heap:=g3 } (upd H2 s2.heap.objs.size (.lst [])) fp) rfl rfl rfl hcalm i [] s' σ' H' (λ_ _=>False) I' (fpX hn) ti go) λq s4 hq=>?_;obtain⟨u,rfl,hq⟩:=hq;refine thn hq λ_ s5 hq=>?_;obtain⟨xv,H5,I5,rx,y5,t5,fr5⟩:=hq;obtain⟨N5,x5,i5⟩:=yl xv H5 y5
    -- all that may be named at this turn
    have x6:Ext N (join N N5) H' H5:=by
     refine⟨x5.hh,dm,λa o e=>?_,λa o e=>?_⟩
     ·cases z:N a with
      |some u'=>rw[dm _ _ z]at e;cases e;exact x5.hh _ _ (x.nh _ _ z)
      |none=>rw[cX z]at e;exact x5.nh _ _ e
     ·cases z:N a with
      |some u'=>rw[dm _ _ z]at e;cases e;exact .inl rfl
      |none=>
       rw[cX z]at e;rcases x5.new a o e with z'|z'
       ·rw[x.bn _ _ z']at z;cases z
       ·exact .inr z'
    have c5:aQ N5 (join N N5):=λa o e=>by
     rcases x5.new a o e with z|z
     ·exact dm _ _ (x.bn _ _ z)
     ·rw[cX (x.nh.free z)];exact e
    have hN5:(join N N5) s2.heap.objs.size=none:=by
     cases z:join N N5 s2.heap.objs.size with
     |none=>rfl
     |some o=>
      rcases x6.new _ _ z with z'|z'
      ·rw[hN0]at z';cases z'
      ·rw[hH0]at z';cases z'
    have fin:∀(s9:Shared)(σ9:St)(H9 N9:Hp)(vs9:List V)(es9:List D),Inv (d9 X N' scope cl g3.objs.size { s2 with heap:=g3 } (upd H2 s2.heap.objs.size (.lst [])) fp) (kc fp s5.heap) σ9 H9 s9 ->
      RepE X.K N1 σ9 (bP nT cap ρ)->(bP nT cap ρ).length=σ9.length->Ext N1 N9 H2 H9->N9 s2.heap.objs.size=none->H9 s2.heap.objs.size=some (.lst vs9)->vs9.length<=i+1->IsL X.K N9 vs9 es9 ->
      (∃r,fw tgF fc fe (bP nT cap ρ) (items.drop (i+1))=some r/\es9++r=ds)->∃m,m<items.length - i/\∃(i:Nat)(N:Hp)(vs:List V)(es:List D)(σ':St)(H':Hp),Inv (d9 X N' scope cl g3.objs.size { s2 with heap:=g3 } (upd H2 s2.heap.objs.size (.lst [])) fp) [] σ' H' s9/\tn i s9.heap/\(∀b∈fp,H' b=none) /\
       m=items.length - i/\i<=items.length/\RepE X.K N1 σ' (bP nT cap ρ)/\(bP nT cap ρ).length=σ'.length/\Ext N1 N H2 H'/\N s2.heap.objs.size=none/\H' s2.heap.objs.size=some (.lst vs)/\vs.length<=i/\IsL X.K N vs es /\
       ∃r,fw tgF fc fe (bP nT cap ρ) (items.drop i)=some r/\es++r=ds:=λs9 σ9 H9 N9 vs9 es9 I9 rp9 l9 x9 n9 h9 v9 i9 er9=>by
     refine⟨items.length - (i+1),by omega,i+1,N9,vs9,es9,σ9,H9,I9.pins_of λp hp=>by simp at hp,T.keep _ _ _ t5 λb hb o e=>(I9.pin (b,o) (mY _ (gE hb e))).1,λb hb=>?_,rfl,hlt,rp9,l9,x9,n9,h9,v9,i9,er9⟩;obtain⟨o,e,d⟩:=T.obj _ _ t5 b hb;exact(I9.pin (b,o) (mY _ (gE hb e))).2.1
    have I5':Inv (d9 X N' scope cl g3.objs.size { s2 with heap:=g3 } (upd H2 s2.heap.objs.size (.lst [])) fp) (kc fp s5.heap) σ' H5 s5:=by
     have:=I5.pinned (fpX fr5) (T.obj _ _ t5);rwa [List.nil_append]at this
    have sN5:aQ (join N N5) H5:=x6.nh;refine thn (hg _ _ _ _ _ s5 σ' H5 xv u (λσ6 H6=>H6=H5/\RepE X.K (join N N5) σ6 ρ1/\RepE X.K N1 σ6 (bP nT cap ρ)/\(bP nT cap ρ).length=σ6.length) I5' rx ?_) λ_ s6 ⟨σ6,H6,I6,eH,rp6,rq6,l6⟩=>?_
    ·refine htg (join N N5) H5 σ' (bP nT cap ρ) ρ1 xv items[i] _ clean (rp.mono (x.bn.trans dm)) sN5 (i5.mono c5) e1 hlen λσ1 r1 r2 l1=>⟨rfl,r1,r2 N1 rp,l1⟩
    ·subst eH;have hH5:H6 s2.heap.objs.size=some (.lst vs):=x5.hh _ _ hH0;refine thn (hc _ _ _ _ _ s6 σ6 H6 (λc H7=>c=b/\aQ H6 H7) I6 ⟨join N N5,ρ1,b,sN5,rp6,e2,λH7 h7=>⟨rfl,h7⟩⟩) λok s7 ⟨H7,I7,eb,h7⟩=>?_;subst eb;have x7:Ext N1 (join N N5) H2 H7:=(x.trans x6).trans (.grow sN5 h7);cases ok with
     |false=>
      rw[if_neg (by decide)]at er ⊢;exact fin s7 σ6 H7 (join N N5) vs es I7 rq6 l6 x7 hN5 (h7 _ _ hH5) (Nat.le_succ_of_le hvl) (hvs.mono dm) ⟨r,er,eds⟩
     |true=>
      rw[if_pos rfl]at er ⊢;obtain⟨y,e3,er⟩:=oX er;obtain⟨r',e4,er⟩:=oY er;subst er;refine thn (he _ _ _ _ _ s7 σ6 H7 (λv H8=>∃N8,Ext (join N N5) N8 H7 H8/\Is X.K N8 v y.1) I7 ⟨join N N5,ρ1,y.1,y.2,sN5.trans h7,rp6,e3,λv H8 N8 x8 i8 _=>⟨N8,x8,i8⟩⟩) λw8 s8 ⟨v8,H8,I8,r8,N8,x8,i8⟩=>?_;have hH8:H8 s2.heap.objs.size=some (.lst vs):=x8.hh _ _ (h7 _ _ hH5);refine thn (oF _ s8 σ6 H8 (.ref s2.heap.objs.size) [v8] (.ref s2.heap.objs.size) [w8] (λ_ H9=>H9=upd H8 s2.heap.objs.size (.lst (vs++[v8]))) I8 rfl (.cons r8 .nil) ⟨_,vs,v8,rfl,rfl,hH8,by omega,rfl⟩) λ_ s9 ⟨_,H9,I9,_,e9⟩=>?_;subst e9;have hN8:N8 s2.heap.objs.size=none:=by
       cases z:N8 s2.heap.objs.size with
       |none=>rfl
       |some o=>
        rcases x8.new _ _ z with z'|z'
        ·rw[hN5]at z';cases z'
        ·rw[h7 _ _ hH5]at z';cases z'
      refine fin s9 σ6 _ N8 (vs++[v8]) (es++[y.1]) I9 rq6 l6 ((x7.trans x8).upd hD hN8) hN8 aF (by rw[List.length_append,List.length_singleton];omega) ((hvs.mono (dm.trans x8.bn)).append (.cons i8 .nil)) ⟨r',e4,by rw[List.append_assoc];exact eds⟩
   ·have ei:i=items.length:=by omega
    subst ei;rw[List.drop_eq_nil_of_le (Nat.le_refl _)]at er;cases er
    rw[List.append_nil]at eds;subst eds;refine thn (T.done (d9 X N' scope cl g3.objs.size { s2 with heap:=g3 } (upd H2 s2.heap.objs.size (.lst [])) fp) rfl rfl rfl hcalm items.length [] s' σ' H' (λ_ _=>False) I' (fpX hn) ti ((J1 _ H' sH).2 (Nat.le_refl _))) λq s4 ⟨hq,I9⟩=>?_;subst hq;obtain⟨m,hm,_⟩:=I9.loc;have u1:Un (frs X.stack) fp H2 (upd H2 s2.heap.objs.size (.lst [])) s2.heap g3:=Un.laid old2 (Nat.le_refl _) hD;have x9:Ext N1 (upd N s2.heap.objs.size (.lst vs)) H2 H':=by
     refine⟨x.hh,x.bn.trans λa o e=>by rw[aH (λz=>by subst z;rw[hN0]at e;cases e)];exact e,λa o e=>?_,λa o e=>?_⟩
     ·by_cases z:a=s2.heap.objs.size
      ·subst z;rw[aF]at e;cases e;exact hH0
      ·rw[aH z]at e;exact x.nh _ _ e
     ·by_cases z:a=s2.heap.objs.size
      ·subst z;exact .inr hD
      ·rw[aH z]at e;exact x.new _ _ e
    refine hRR s2.heap.objs.size g3.objs.size s4 H' (upd N s2.heap.objs.size (.lst vs)) vs m hD (I2.call' (ch:=fp) I9.os (u1.trans I9.base) I9.hok I9.bare λb hb=>⟨(f2 b hb).2.2.2.1,(f2 b hb).2.1,(f2 b hb).2.2.2.2.1,(f2 b hb).2.2.2.2.2⟩) hm (I2.fpOk (by rw[hC];exact Nat.le_succ _) I9.free) x9 aF
     (hvs.mono λa o e=>by rw[aH (λz=>by subst z;rw[hN0]at e;cases e)];exact e)
  ·refine⟨0,N1,[],[],nX nT cap σ,_,I4,T.keep _ _ _ st2 λb hb o e=>old3 _ _ (old2 _ _ e),λb hb=>?_,rfl,Nat.zero_le _,rep.caps,?_,(Ext.refl sN).upd hD hND,hND,aF,Nat.zero_le _,.nil,ds,by simpa using ec,rfl⟩
   ·rw[aH (fpD b hb)];exact(f2 b hb).1
   ·unfold bP nX;simp
 exact codeAny_compStart_list (loop _ rfl) (T.self _ 0 _ _ _ (T.keep _ _ _ st2 λb hb o e=>old3 _ _ (old2 _ _ e)) (loop _ rfl))
theorem BG {X:Cx}(hcalm:X.calm=true){tg iter elt:Expr}{ifs:List Expr}{scope:Scope}{pos:Pos}{cl:List (Str×Addr)}{N':List Str}{nT:Nat}{cap:List Nat}{fi:FA}{tgF:FG}{g:TG}{fc:FT}{fe:FE}
  (S:CompSc X scope cl) (cp:Caps X N' scope cl nT cap) (hi:JI X tg iter fi)
  (hg:∀C s H fp,PG (d9 X N' scope cl C s H fp) tg g) (htg:TGE X.K nT tgF g) (hc:∀C s H fp,JC (d9 X N' scope cl C s H fp) ifs fc) (he:∀C s H fp,JE (d9 X N' scope cl C s H fp) elt fe)
  (hs:∀x,foldedSetIterable iter X.env x=pure x:=by intro _;rfl):
  JE X (.ListComp elt [⟨tg,iter,ifs,0⟩] scope pos) (bQ fi nT cap tgF fc fe):=by
 intro pins s σ H Q I h;obtain⟨B,ρ,d,b,sB,rep,e,q⟩:=h;obtain⟨items,ei,e⟩:=oX e;have hsz:items.length<=sizeLine:=Decidable.byContradiction λz=>by rw[if_neg z]at e;cases e
 rw[if_pos hsz]at e;obtain⟨ds,ec,e⟩:=oY e;cases e
 rw[eval_ListComp];refine wpAny_comprehension_free (use:=none) rfl hs S.clos S.kind S.names (thn (hi pins s σ H (λJ H2=>∃N1,Ext B N1 H H2/\nW X.K J N1 items) I ⟨B,ρ,items,sB,rep,ei,λJ H2 N1 x1 j1=>⟨N1,x1,j1⟩⟩) λv s1 h1=>thn h1 λitv s2 h2=>?_);obtain⟨it,fp,tn,J,H2,e,I2,T,st2,f2,N1,x1,j1⟩:=h2;subst e;refine lQ hcalm S cp hg htg hc he I2 T st2 f2 (rep.mono x1.bn) x1.nh j1 hsz ec (RR:=λacc C=>compPost (model X.prog X.w) X.A X.xe none (EP X pins σ Q) acc C) ?_;intro Dd C s' H' N vs m hD I' hm fC x hN hl;refine⟨m,hm,λh' hs'=>⟨.ref Dd,H',?_,rfl,q _ H' N (x1.trans x) (.lst (SqL.of hN) hl) λ_=>⟨Dd,vs,ds,rfl,rfl,x1.hh.free hD,hN,hl⟩⟩⟩;obtain⟨c0,c1,c2,c3,c4,c5⟩:=fC;exact I'.turned (t':=s'.toks) (λb o hb e=>(hs'.2 b hb).trans e) c0 c1 c3 c4 c5
theorem BH {X:Cx}(hcalm:X.calm=true){tg iter elt:Expr}{ifs:List Expr}{scope:Scope}{pos spos py:Pos}{cl:List (Str×Addr)}{N':List Str}{nT:Nat}{cap:List Nat}{fi:FA}{tgF:FG}{g:TG}{fc:FT}{fe:FE}{y:Str}{i:Nat}
  (hN:X.N.Nodup) (hi':X.N[i]? = some y) (hy:X.env.kindOf y=some .local)
  (hsw:swapsWith (.ListComp elt [⟨tg,iter,ifs,0⟩] scope pos) (some (.Name y py)) spos.line X.env=pure true)
  (S:CompSc X scope cl) (cp:Caps X N' scope cl nT cap) (hi:JI X tg iter fi)
  (hg:∀C s H fp,PG (d9 X N' scope cl C s H fp) tg g) (htg:TGE X.K nT tgF g) (hc:∀C s H fp,JC (d9 X N' scope cl C s H fp) ifs fc) (he:∀C s H fp,JE (d9 X N' scope cl C s H fp) elt fe)
  (hs:∀x,foldedSetIterable iter X.env x=pure x:=by intro _;rfl):
  JS X (.Assign [.Name y py] (.ListComp elt [⟨tg,iter,ifs,0⟩] scope pos) spos) (aP i (bQ fi nT cap tgF fc fe)):=by
 intro pins s σ H E I h;have h2:xz (tD X.K (bQ fi nT cap tgF fc fe)) (iU i) E σ H:=vV h;obtain⟨B,ρ,d,b,sB,rep,e,q⟩:=h2;obtain⟨items,ei,e⟩:=oX e;have hsz:items.length<=sizeLine:=Decidable.byContradiction λz=>by rw[if_neg z]at e;cases e
 rw[if_pos hsz]at e;obtain⟨ds,ec,e⟩:=oY e;cases e
 rw[exec_Assign_Name_used _ _ _ _ hsw];refine wX (wpAny_standAt (wX ?_));show wpAny _ _ (do let _ ←comprehension (.ListComp elt [⟨tg,iter,ifs,0⟩] scope pos) scope X.env _ (newList []) false (eval iter X.env) (some (assign (.Name y py) X.env))) _ _ s;refine wX (wpAny_mono (wpAny_comprehension_free (use:=some (assign (.Name y py) X.env)) (Q:=λ_ s'=>SP X pins E .next s') rfl hs S.clos S.kind S.names
  (thn (hi pins s σ H (λJ H2=>∃N1,Ext B N1 H H2/\nW X.K J N1 items) I ⟨B,ρ,items,sB,rep,ei,λJ H2 N1 x1 j1=>⟨N1,x1,j1⟩⟩) λv s1 h1=>thn h1 λitv s2 h2=>?_)) (λ_ s' hq=>wY (wY hq)) λ_ _ e=>e)
 obtain⟨it,fp,tn,J,H2,e,I2,T,st2,f2,N1,x1,j1⟩:=h2;subst e;refine lQ hcalm S cp hg htg hc he I2 T st2 f2 (rep.mono x1.bn) x1.nh j1 hsz ec (RR:=λacc C=>compPost (model X.prog X.w) X.A X.xe (some (assign (.Name y py) X.env)) (λ_ s'=>SP X pins E .next s') acc C) ?_;intro Dd C s' H' N vs m hD I' hm fC x hN' hl;show wpAny _ _ (assign (.Name y py) X.env (.ref Dd)) _ _ s';obtain⟨c0,c1,c2,c3,c4,c5⟩:=fC;refine wpAny_assign_Name (o6 I' hN hi' (.inl hy) (r:=show aS (.ref Dd) (.ref Dd)from rfl) (λs9 I9 ⟨a,sb,ha⟩=>?_) (.inr hy));have nC:C≠a:=by
  rcases ha with z|z
  ·rw[z];exact c1
  ·exact λw=>c4 y a z w.symm
 refine⟨m,hm.sameBut sb nC,λh' hs'=>⟨_,H',?_,q _ H' N (x1.trans x) (.lst (SqL.of hN') hl) λ_=>⟨Dd,vs,ds,rfl,rfl,x1.hh.free hD,hN',hl⟩⟩⟩;exact I9.turned (t':=s9.toks) (λb o hb e=>(hs'.2 b hb).trans e) c0 c1 c3 c4 c5
section
variable {X:Cx}{a b c e:Expr}{pos:Pos}
theorem PE.to {t t':TE}(h:PE X e t)(k:∀σ H Q,t' σ H Q->t σ H Q):PE X e t':=λpins s σ H Q I q=>h pins s σ H Q I (k σ H Q q)
theorem PT.to {t t':TT}(h:PT X e t)(k:∀σ H Q,t' σ H Q->t σ H Q):PT X e t':=λpins s σ H Q I q=>h pins s σ H Q I (k σ H Q q)
theorem PW.to {t t':TT}(h:PW X e t)(k:∀σ H Q,t' σ H Q->t σ H Q):PW X e t':=λwh pins s σ H Q I q=>h wh pins s σ H Q I (k σ H Q q)
theorem PA.to {es:List Expr}{t t':TA}(h:PA X es t)(k:∀σ H Q,t' σ H Q->t σ H Q):PA X es t':=λpos pins s σ H Q I q=>h pos pins s σ H Q I (k σ H Q q)
theorem PS.to {st:Stmt}{t t':TS}(h:PS X st t)(k:∀E σ H,t' E σ H->t E σ H):PS X st t':=λpins s σ H E I q=>h pins s σ H E I (k E σ H q)
theorem PSs.to {st:List Stmt}{t t':TS}(h:PSs X st t)(k:∀E σ H,t' E σ H->t E σ H):PSs X st t':=λpins s σ H E I q=>h pins s σ H E I (k E σ H q)
theorem PI.to {tg it:Expr}{t t':TI}(h:PI X tg it t)(k:∀σ H Q,t' σ H Q->t σ H Q):PI X tg it t':=λpins s σ H Q I q=>h pins s σ H Q I (k σ H Q q)
theorem xP {K:PySem.W.Frag}{d:D}{v:V}(i:∀B,Is K B v d){σ:St}{H:Hp}{Q:VK}(h:tD K (fC d) σ H Q):tC v σ H Q:=by
 obtain⟨B,ρ,d',b,s,r,e,q⟩:=h;cases e
 exact q.one s (i B)
theorem ab (i:Nat){x:Str}(hN:X.N[i]? = some x:=by rfl)(hv:Vis X.env.scope x:=by first|exact Or.inl rfl|exact Or.inr (Or.inl rfl)|exact Or.inr (Or.inr rfl))(hd:(x == ("__debug__" : Str))=false:=by decide)
  (hcd:(x == ("__classdict__" : Str))=false:=by decide):JE X (.Name x pos) (ae i):=PE.to (lK hN hv hd hcd) λ_ _ _ h=>E1 h
theorem ag {i:Int}{j:Nat}:JE X (.Constant (.int i) j pos) (fC (.int i)):=PE.to DP λ_ _ _ h=>xP (λ_=>.int i) h
theorem gg {i:Bool}{j:Nat}:JE X (.Constant (.bool i) j pos) (fC (.bl i)):=PE.to FC λ_ _ _ h=>xP (λ_=>.bl i) h
theorem cF {j:Nat}:JE X (.Constant .none j pos) (fC .non):=PE.to DQ λ_ _ _ h=>xP (λ_=>.non) h
theorem aw {x:Str}{j:Nat}:JE X (.Constant (.str x) j pos) (fC (.str x)):=PE.to DR λ_ _ _ h=>xP (λ_=>.str x) h
theorem BI {x:Str}{v:V}{d:D}{u:Value}(hg:Gl X x)(hm:X.mg x=some u)(r:aS v u)(i:∀B,Is X.K B v d)(hd:(x == ("__debug__" : Str))=false:=by decide):JE X (.Name x pos) (fC d):=PE.to (vN hg hm r hd) λ_ _ _ h=>xP i h
theorem aq {op:Operator}{f:D->D->Option (D×Bool)}{fa fb:FE}(ho:OpR X (binaryOp op) (rD X.K f))(ha:JE X a fa)(hb:JE X b fb):JE X (.BinOp a op b pos) (f2 f fa fb):=PE.to (CS ho ha hb) λ_ _ _ h=>B8 h
theorem vW {op:UnaryOp}{f:D->Option (D×Bool)}{fa:FE}(ho:UnR X (unaryOp op) (rDU X.K f))(ha:JE X a fa):JE X (.UnaryOp op a pos) (f1 f fa):=PE.to (FZ ho ha) λ_ _ _ h=>Hx h
theorem bG {op:CmpOp}{f:D->D->Option (D×Bool)}{fa fb:FE}(ho:OpR X (compareOp op) (rD X.K f))(ha:JE X a fa)(hb:JE X b fb)(hm:behindInMarks op b=false:=by first|exact lL _ (by decide) (by decide)|rfl):JE X (.Compare a [op] [b] pos) (f2 f fa fb):=PE.to (Bq ho ha hb hm) λ_ _ _ h=>B8 h
theorem zo {K:PySem.W.Frag}{f:FE}{σ:St}{H:Hp}{Q:Bool->Hp->Prop}(h:tDT K (tOf f) σ H Q):tD K f σ H λx H'=>∃k,x=.bl k/\Q k H':=by
 obtain⟨B,ρ,c,s,r,e,q⟩:=h;unfold tOf at e;split at e
 ·rename_i c' b' ef;cases e
  refine⟨B,ρ,.bl c,b',s,r,ef,λv H' N x i _=>?_⟩;cases i
  exact⟨c,rfl,q H' x.hh⟩
 ·cases e
theorem aI {op:CmpOp}{f:D->D->Option (D×Bool)}{fa fb:FE}(ho:OpR X (compareOp op) (rD X.K f))(ha:JE X a fa)(hb:JE X b fb)(hm:behindInMarks op b=false:=by first|exact lL _ (by decide) (by decide)|rfl):JT X (.Compare a [op] [b] pos) (tOf (f2 f fa fb)) :=
 PT.to (Br ho ha hb hm) λ_ _ _ h=>B8 (zo h)
theorem cy {f:FE}(h:JE X e f)(he:∀whole,isTrue e X.env whole=(do let v ←whole;standAt e.pos;holding [v] (truthy v)):=by intro _;rfl):JT X e (tOf f):=PT.to (DS h he) λ_ _ _ q=>zo q
@[simp] noncomputable def ki (f g:D->D->Option (D×Bool))(fa fb fc:FE):FE:=λρ=>(fa ρ).bind λx=>(fb ρ).bind λy=>match f x.1 y.1 with
 |some (.bl true,_)=>(fc ρ).bind λz=>g y.1 z.1
 |some (.bl false,_)=>some (.bl false,false)
 |_=>none
theorem zp {K:PySem.W.Frag}{f g:D->D->Option (D×Bool)}{fa fb fc:FE}{σ:St}{H:Hp}{Q:VK}(h:tD K (ki f g fa fb fc) σ H Q):yP (rD K f) (rD K g) (tD K fa) (tD K fb) (tD K fc) σ H Q:=by
 obtain⟨B,ρ,d,b,s,r,e,q⟩:=h;obtain⟨x,ex,e⟩:=oX e;obtain⟨y,ey,e⟩:=oX e;refine⟨B,ρ,x.1,x.2,s,r,ex,λv H1 N1 x1 i1 _=>⟨N1,ρ,y.1,y.2,x1.nh,r.mono x1.bn,ey,λv2 H2 N2 x2 i2 _=>?_⟩⟩;split at e
 ·rename_i b' ef;obtain⟨z,ez,e⟩:=oX e;refine⟨N2,x.1,y.1,.bl true,b',x2.nh,i1.mono x2.bn,i2,ef,λv3 H3 N3 x3 i3 _=>?_⟩;cases i3
  refine⟨true,rfl,?_⟩;rw[if_pos rfl];refine⟨N3,ρ,z.1,z.2,x3.nh,r.mono (x1.bn.trans (x2.bn.trans x3.bn)),ez,λv4 H4 N4 x4 i4 _=>⟨N4,y.1,z.1,d,b,x4.nh,i2.mono (x3.bn.trans x4.bn),i4,e,?_⟩⟩;exact q.into ((x1.trans x2).trans (x3.trans x4))
 ·rename_i b' ef;cases e
  refine⟨N2,x.1,y.1,.bl false,b',x2.nh,i1.mono x2.bn,i2,ef,λv3 H3 N3 x3 i3 _=>?_⟩;cases i3
  refine⟨false,rfl,?_⟩;rw[if_neg (by decide)];exact(q.into ((x1.trans x2).trans x3)).one x3.nh (.bl false)
 ·cases e
theorem zq {op op':CmpOp}{f g:D->D->Option (D×Bool)}{fa fb fc:FE}(ho:OpR X (compareOp op) (rD X.K f))(ho':OpR X (compareOp op') (rD X.K g))(ha:JE X a fa)(hb:JE X b fb)(hc:JE X c fc)
  (hm:lastMarks [op,op'] [b,c]=false:=by with_unfolding_all rfl):JE X (.Compare a [op,op'] [b,c] pos) (ki f g fa fb fc):=PE.to (yQ ho ho' ha hb hc hm) λ_ _ _ h=>zp h
theorem BJ {K:PySem.W.Frag}{f g:FT}{σ:St}{H:Hp}{Q:Bool->Hp->Prop}(h:tDT K (cB f g) σ H Q):FF (tDT K f) (tDT K g) σ H Q:=by
 obtain⟨B,ρ,c,s,r,e,q⟩:=h;unfold cB at e;cases ef:f ρ with
 |none=>rw[ef]at e;cases e
 |some k=>
  rw[ef]at e;refine⟨B,ρ,k,s,r,ef,λH1 h1=>?_⟩;cases k with
  |true=>rw[if_pos rfl];exact⟨B,ρ,c,s.trans h1,r,e,λH2 h2=>q H2 (h1.trans h2)⟩
  |false=>rw[if_neg (by decide)];cases e;exact q H1 h1
theorem E4 {K:PySem.W.Frag}{f g:FT}{σ:St}{H:Hp}{Q:Bool->Hp->Prop}(h:tDT K (hW f g) σ H Q):tOr (tDT K f) (tDT K g) σ H Q:=by
 obtain⟨B,ρ,c,s,r,e,q⟩:=h;unfold hW at e;cases ef:f ρ with
 |none=>rw[ef]at e;cases e
 |some k=>
  rw[ef]at e;refine⟨B,ρ,k,s,r,ef,λH1 h1=>?_⟩;cases k with
  |false=>rw[if_neg (by decide)];exact⟨B,ρ,c,s.trans h1,r,e,λH2 h2=>q H2 (h1.trans h2)⟩
  |true=>rw[if_pos rfl];cases e;exact q H1 h1
theorem BK {K:PySem.W.Frag}{f:FT}{σ:St}{H:Hp}{Q:Bool->Hp->Prop}(h:tDT K (dN f) σ H Q):FH (tDT K f) σ H Q:=by
 obtain⟨B,ρ,c,s,r,e,q⟩:=h;obtain⟨k,ek,e⟩:=oY e;subst e;exact⟨B,ρ,k,s,r,ek,λH1 h1=>q H1 h1⟩
variable {au:List Expr}
theorem fQ {f:FT}(ha:JT X a f):JW X (.BoolOp .And [a] pos) f:=Bi ha
theorem ji {f:FT}(ha:JT X a f):JW X (.BoolOp .Or [a] pos) f:=DT ha
theorem fZ {f g:FT}(ha:JT X a f)(hb:JW X (.BoolOp .And (b::au) pos) g):JW X (.BoolOp .And (a::b::au) pos) (cB f g):=PW.to (DU ha hb) λ_ _ _ h=>BJ h
theorem j6 {f g:FT}(ha:JT X a f)(hb:JW X (.BoolOp .Or (b::au) pos) g):JW X (.BoolOp .Or (a::b::au) pos) (hW f g):=PW.to (FI ha hb) λ_ _ _ h=>E4 h
theorem jj {f:FT}(h:JW X e f):JT X e f:=h.pt
theorem fz {f:FT}(ha:JT X a f):JT X (.UnaryOp .Not a pos) (dN f):=PT.to (DV ha) λ_ _ _ h=>BK h
@[simp] noncomputable def hX (f g:FE):FE:=λρ=>match f ρ with|some (.bl true,_)=>g ρ|some (.bl false,_)=>some (.bl false,false)|_=>none
@[simp] noncomputable def fOr (f g:FE):FE:=λρ=>match f ρ with|some (.bl true,_)=>some (.bl true,false)|some (.bl false,_)=>g ρ|_=>none
@[simp] noncomputable def Ia (f:FE):FE:=λρ=>match f ρ with|some (.bl c,_)=>some (.bl (!c),false)|_=>none
theorem dS {f g:FE}(ha:JE X a f)(hb:JE X (.BoolOp .And (b::au) pos) g):JE X (.BoolOp .And (a::b::au) pos) (hX f g):=PE.to (DX ha hb) λσ H Q h=>by
 obtain⟨B,ρ,d,k,s,r,e,q⟩:=h;unfold hX at e;split at e
 ·rename_i b' ef;refine⟨B,ρ,_,_,s,r,ef,λv H1 N1 x1 i1 _=>?_⟩;cases i1
  refine⟨true,rfl,?_⟩;rw[if_pos rfl];exact⟨N1,ρ,d,k,x1.nh,r.mono x1.bn,e,q.into x1⟩
 ·rename_i b' ef;cases e
  refine⟨B,ρ,_,_,s,r,ef,λv H1 N1 x1 i1 _=>?_⟩;cases i1
  refine⟨false,rfl,?_⟩;rw[if_neg (by decide)];exact(q.into x1).one x1.nh (.bl false)
 ·cases e
theorem zu {f g:FE}(ha:JE X a f)(hb:JE X (.BoolOp .Or (b::au) pos) g):JE X (.BoolOp .Or (a::b::au) pos) (fOr f g):=PE.to (FK ha hb) λσ H Q h=>by
 obtain⟨B,ρ,d,k,s,r,e,q⟩:=h;unfold fOr at e;split at e
 ·rename_i b' ef;cases e
  refine⟨B,ρ,_,_,s,r,ef,λv H1 N1 x1 i1 _=>?_⟩;cases i1
  refine⟨true,rfl,?_⟩;rw[if_pos rfl];exact(q.into x1).one x1.nh (.bl true)
 ·rename_i b' ef;refine⟨B,ρ,_,_,s,r,ef,λv H1 N1 x1 i1 _=>?_⟩;cases i1
  refine⟨false,rfl,?_⟩;rw[if_neg (by decide)];exact⟨N1,ρ,d,k,x1.nh,r.mono x1.bn,e,q.into x1⟩
 ·cases e
theorem dA {op:BoolOp}{f:FE}(h:JE X a f):JE X (.BoolOp op [a] pos) f:=DW h
variable {es:List Expr}
theorem af:JA X [] ah:=PA.to ib λ_ _ _ h=>BA h
theorem aa {f:FE}{g:FA}(ha:JE X e f)(hr:JA X es g)(hs:starEach (e::es) X.env=(false,eval e X.env)::starEach es X.env:=by rfl):JA X (e::es) (ac f g):=PA.to (fP ha hr hs) λ_ _ _ h=>zh h
@[simp] noncomputable def aL:List D->Option (D×Bool):=λds=>if ds.length<=sizeLine then some (.tup ds,false)else none
@[simp] noncomputable def bp:List D->Option (D×Bool):=λds=>if ds.length<=sizeLine then some (.lst ds,true)else none
theorem aM {x1}{f:FA}(h:JA X es f):JE X (.Tuple es x1 pos) (fA aL f):=PE.to (uz h) λσ H Q q=>by
 obtain⟨B,ρ,ds,s,r,e,k⟩:=B9 q;refine⟨B,ρ,ds,s,r,e,λvs H1 N1 x1 i1=>?_⟩;obtain⟨B2,ds2,d,b,s2,i2,e2,k2⟩:=k vs H1 N1 x1 i1;unfold aL at e2;split at e2
 ·rename_i hz;cases e2
  refine⟨by rw[i2.length];exact hz,λp hp=>k2 _ _ (upd B2 p (.tup vs)) (.laid s2 hp) (.tup (SqT.of aF) (i2.mono (Ext.laid s2 hp).bn)) (by simp)⟩
 ·cases e2
theorem bq {f:FA}(h:JA X es f):JE X (.List es pos) (fA bp f):=PE.to (Eo h) λσ H Q q=>by
 obtain⟨B,ρ,ds,s,r,e,k⟩:=B9 q;refine⟨B,ρ,ds,s,r,e,λvs H1 N1 x1 i1=>?_⟩;obtain⟨B2,ds2,d,b,s2,i2,e2,k2⟩:=k vs H1 N1 x1 i1;unfold bp at e2;split at e2
 ·rename_i hz;cases e2
  refine⟨by rw[i2.length];exact hz,λp hp=>k2 _ _ (upd B2 p (.lst vs)) (.laid s2 hp) (.lst (SqL.of aF) (i2.mono (Ext.laid s2 hp).bn)) λ_=>⟨p,vs,ds2,rfl,rfl,hp,aF,i2.mono (Ext.laid s2 hp).bn⟩⟩
 ·cases e2
end
section
variable {X:Cx}
theorem ga {f:Value->Value->Sem Value}{r r':R2}(h:OpR X f r)(k:∀x y H Q,r' x y H Q->r x y H Q):OpR X f r':=λpins s σ H x y v u Q I rx ry q=>h pins s σ H x y v u Q I rx ry (k x y H Q q)
noncomputable def orD (f g:D->D->Option (D×Bool)):D->D->Option (D×Bool):=λx y=>match f x y with|some r=>some r|none=>g x y
theorem kj {s:Value->Value->Sem Value}{f g:D->D->Option (D×Bool)}(h:OpR X s (rD X.K f))(h':OpR X s (rD X.K g)):OpR X s (rD X.K (orD f g)):=by
 intro pins st σ H x y v u Q I rx ry q;obtain⟨B,dx,dy,d,b,sB,ix,iy,e,q⟩:=q;unfold orD at e;split at e
 ·rename_i r ef;cases e
  exact h pins st σ H x y v u Q I rx ry ⟨B,dx,dy,_,_,sB,ix,iy,ef,q⟩
 ·exact h' pins st σ H x y v u Q I rx ry ⟨B,dx,dy,_,_,sB,ix,iy,e,q⟩
@[simp] noncomputable def iop (C:Int->Int->Bool)(g:Int->Int->D):D->D->Option (D×Bool)
 |.int i,.int j=>if C i j=true then some (g i j,false)else none
 |_,_=>none
theorem lC {s:Value->Value->Sem Value}{C:Int->Int->Prop}{C':Int->Int->Bool}{g:Int->Int->V}{g':Int->Int->D}(h:OpR X s (rI C g))(hC:∀i j,C' i j=true->C i j)(hg:∀i j B,Is X.K B (g i j) (g' i j)):OpR X s (rD X.K (iop C' g')):=by
 refine ga h λx y H Q q=>?_;obtain⟨B,dx,dy,d,b,sB,ix,iy,e,q⟩:=q;cases ix<;>cases iy<;>try (simp[iop]at e;done)
 rename_i i j;simp only[iop]at e;split at e
 ·rename_i hc;cases e
  exact⟨i,j,rfl,rfl,hC i j hc,q.one sB (hg i j B)⟩
 ·cases e
theorem f6 {s:Value->Value->Sem Value}{g:Int->Int->V}{g':Int->Int->D}(h:OpR X s (rI0 g))(hg:∀i j B,Is X.K B (g i j) (g' i j)):OpR X s (rD X.K (iop (λ_ _=>true) g')):=by
 refine ga h λx y H Q q=>?_;obtain⟨B,dx,dy,d,b,sB,ix,iy,e,q⟩:=q;cases ix<;>cases iy<;>try (simp[iop]at e;done)
 rename_i i j;simp only[iop,if_true]at e;cases e
 exact⟨i,j,rfl,rfl,q.one sB (hg i j B)⟩
noncomputable abbrev E5:D->D->Option (D×Bool):=iop (λ_ _=>true) λi j=>.int (i+j)
noncomputable abbrev nY:D->D->Option (D×Bool):=iop (λ_ _=>true) λi j=>.int (i - j)
noncomputable abbrev E6:D->D->Option (D×Bool):=iop (λi j=>decide ((-18446744073709551616<i/\i<18446744073709551616)∨(-18446744073709551616<j/\j<18446744073709551616))) λi j=>.int (i*j)
noncomputable abbrev cm:D->D->Option (D×Bool):=iop (λ_ j=>decide (0<j/\j<1073741824)) λi j=>.int (i / j)
noncomputable abbrev bj:D->D->Option (D×Bool):=iop (λ_ j=>decide (0<j)) λi j=>.int (i % j)
noncomputable abbrev E7:D->D->Option (D×Bool):=iop (λ_ j=>decide (0<=j)) λi j=>.int (i / 2 ^ j.toNat)
noncomputable abbrev BL:D->D->Option (D×Bool):=iop (λ_ _=>true) λi j=>.int (Builtin.bitAnd i j)
noncomputable abbrev iLt:D->D->Option (D×Bool):=iop (λ_ _=>true) λi j=>.bl (decide (i<j))
noncomputable abbrev iLe:D->D->Option (D×Bool):=iop (λ_ _=>true) λi j=>.bl (decide (i<=j))
noncomputable abbrev iGt:D->D->Option (D×Bool):=iop (λ_ _=>true) λi j=>.bl (decide (j<i))
noncomputable abbrev iGe:D->D->Option (D×Bool):=iop (λ_ _=>true) λi j=>.bl (decide (j<=i))
theorem Gy:OpR X (binaryOp .Add) (rD X.K E5):=f6 Eg λ_ _ _=>.int _
theorem rN:OpR X (binaryOp .Sub) (rD X.K nY):=f6 Eh λ_ _ _=>.int _
theorem Gz:OpR X (binaryOp .Mult) (rD X.K E6):=lC Ei (λi j h=>by have h:=of_decide_eq_true h;unfold Bo;omega) λ_ _ _=>.int _
theorem br:OpR X (binaryOp .FloorDiv) (rD X.K cm):=lC Bp (λi j h=>by have h:=of_decide_eq_true h;unfold Ga;omega) λ_ _ _=>.int _
theorem bo:OpR X (binaryOp .Mod) (rD X.K bj):=lC Ej (λ_ _ h=>of_decide_eq_true h) λ_ _ _=>.int _
theorem De:OpR X (binaryOp .RShift) (rD X.K E7):=lC Ek (λ_ _ h=>of_decide_eq_true h) λ_ _ _=>.int _
theorem zv:OpR X (binaryOp .BitAnd) (rD X.K BL):=f6 El λ_ _ _=>.int _
theorem Hy:OpR X (compareOp .Lt) (rD X.K iLt):=f6 Gb λ_ _ _=>.bl _
theorem Hz:OpR X (compareOp .LtE) (rD X.K iLe):=f6 Gc λ_ _ _=>.bl _
theorem E8:OpR X (compareOp .Gt) (rD X.K iGt):=f6 Gd λ_ _ _=>.bl _
theorem HA:OpR X (compareOp .GtE) (rD X.K iGe):=f6 Ge λ_ _ _=>.bl _
@[simp] noncomputable def sop (C:Str->Str->Bool)(g:Str->Str->D):D->D->Option (D×Bool)
 |.str i,.str j=>if C i j=true then some (g i j,false)else none
 |_,_=>none
noncomputable abbrev zw:D->D->Option (D×Bool):=sop (λi j=>decide (i.length+j.length<=sizeLine)) λi j=>.str (i++j)
noncomputable abbrev sLe:D->D->Option (D×Bool):=sop (λ_ _=>true) λi j=>.bl (!decide (j.cps.toList<i.cps.toList))
theorem E9:OpR X (binaryOp .Add) (rD X.K zw):=by
 refine ga ux λx y H Q q=>?_;obtain⟨B,dx,dy,d,b,sB,ix,iy,e,q⟩:=q;cases ix<;>cases iy<;>try (simp[zw,sop]at e;done)
 rename_i i j;simp only[zw,sop]at e;split at e
 ·rename_i hc;cases e
  exact⟨i,j,rfl,rfl,of_decide_eq_true hc,q.one sB (.str _)⟩
 ·cases e
theorem G0:OpR X (compareOp .LtE) (rD X.K sLe):=by
 intro pins s σ H x y v u Q I rx ry q;obtain⟨B,dx,dy,d,b,sB,ix,iy,e,q⟩:=q;cases ix<;>cases iy<;>try (simp[sLe,sop]at e;done)
 rename_i i j;simp only[sLe,sop,if_true]at e;cases e
 obtain⟨t,rfl⟩:=rx;obtain⟨t',rfl⟩:=ry;exact PySem.P.le_str ⟨.bl _,H,I,rfl,q.one sB (.bl _)⟩
end
section
variable {X:Cx}{a b c e:Expr}{pos:Pos}{st:Stmt}{au:List Stmt}
theorem aU:JSs X [] ba:=PSs.to Bj λ_ _ _ h=>zj h
theorem ak {g h:FS}(h1:JS X st g)(h2:JSs X au h):JSs X (st::au) (aA g h):=PSs.to (yK h1 h2) λ_ _ _ q=>BB q
theorem ao {g:FS}(h1:JS X st g):JSs X [st] g:=Bk h1
theorem bg {c:Expr}{a b:List Stmt}{fc:FT}{g h:FS}(hc:JT X c fc)(ha:JSs X a g)(hb:JSs X b h):JS X (.If c a b pos) (gIf fc g h):=PS.to (FQ hc ha hb) λ_ _ _ q=>E2 q
theorem a8 {f:FE}(he:JE X e f):JS X (.Return (some e) pos) (aV f):=PS.to (yL he) λ_ _ _ q=>BC q
theorem lD (i:Nat){x:Str}{p:Pos}(hN:X.N[i]? = some x:=by rfl)(hv:Vis X.env.scope x:=by first|exact Or.inl rfl|exact Or.inr (Or.inl rfl)|exact Or.inr (Or.inr rfl))(hd:(x == ("__debug__" : Str))=false:=by decide)
  (hcd:(x == ("__classdict__" : Str))=false:=by decide):JS X (.Return (some (.Name x p)) pos) (j3 i):=PS.to (yL (lK hN hv hd hcd)) λ_ _ _ q=>zk q
theorem aD {i:Nat}{x:Str}{p:Pos}{f:FE}(hN:X.N.Nodup)(he:JE X e f)(hi:X.N[i]? = some x:=by rfl)(hx:Loc X.env.scope x:=by first|exact Or.inl rfl|exact Or.inr rfl)(hs:swapsWith e (some (.Name x p)) pos.line X.env=pure false:=by rfl)
  (hf:X.fn x=true∨X.env.scope.names.lookup x=some .local:=by first|exact .inl rfl|exact .inr rfl):JS X (.Assign [.Name x p] e pos) (aP i f):=PS.to (yN hN hi hx he hs hf) λ_ _ _ q=>vV q
theorem EA {tg iter:Expr}{body:List Stmt}{fi:FA}{tgF:FG}{t:TG}{g:FS}(hp:PassesOwn (model X.prog X.w) X.A X.env X.xe)(hc:X.calm=true)(hi:JI X tg iter fi)(hg:PG X tg t)(ht:tDG X.K tgF t)(hb:JSs X body g)
  (hs:∀x,foldedSetIterable iter X.env x=pure x:=by intro _;rfl):JS X (.For tg iter body [] pos) (rL fi tgF g):=PS.to (yO hp hc hi hg hb hs) λ_ _ _ q=>BE ht q
theorem BM {tg iter:Expr}{body:List Stmt}{fi:FA}{tgF:FG}{t:TG}{g:FS}(hp:PassesOwn (model X.prog X.w) X.A X.env X.xe)(hc:X.calm=true)(hi:PI X tg iter (tDR X.K fi))(hg:PG X tg t)(ht:tDG X.K tgF t)(hb:JSs X body g)
  (hs:∀x,foldedSetIterable iter X.env x=pure x:=by intro _;rfl):JS X (.For tg iter body [] pos) (gZ fi tgF g):=PS.to (yO hp hc hi hg hb hs) λ_ _ _ q=>zn ht q
theorem f7 {i:Nat}{x:Str}{p apos cpos:Pos}{f:FE}(he:JE X e f)(hN:X.N[i]? = some x:=by rfl)(hv:Vis X.env.scope x:=by first|exact Or.inl rfl|exact Or.inr (Or.inl rfl)|exact Or.inr (Or.inr rfl))(hd:(x == ("__debug__" : Str))=false:=by decide)
  (hcd:(x == ("__classdict__" : Str))=false:=by decide)
  (hbase:attributeBase (.Name x p) "append" X.env (eval (.Name x p) X.env)=eval (.Name x p) X.env:=by rfl)
  (hfew:((backTo cpos (starEach [e] X.env)).all (λx=>!x.1) && (backToKw cpos (keywordEach [] X.env)).all (λx=>x.1.isSome)
   && decide ([e].length+([]:List Keyword).length+(if([]:List Keyword).isEmpty then 0 else 1)<30))=true:=by rfl)
  (hline:(apos.endLine == cpos.line)=true:=by rfl) (hs:starEach [e] X.env=[(false,eval e X.env)]:=by rfl) (hsw:swapsWith (.Call (.Attribute (.Name x p) "append" apos) [e] [] cpos) none pos.line X.env=pure false:=by rfl):
  JS X (.Expr (.Call (.Attribute (.Name x p) "append" apos) [e] [] cpos) pos) (gF i f):=by
 refine PS.to (Bl (yY PySem.F.plainAttrs_list PySem.F.slot_list_append PySem.F.type_list_append oF (lK hN hv hd hcd) (fP he ib hs) hbase hfew hline hs rfl) hsw) λE σ H q=>?_;obtain⟨a,us,h1,h2,k⟩:=BD q;exact⟨_,h1,.inl ⟨rfl,us,SqL.of h2⟩,k⟩
end
@[simp] noncomputable def aO (g:FS)(n k:Nat):List D->Option (D×Bool):=λds=>if ds.length=n then
 match g (ds.map (λd=>some (d,false))++List.replicate k none) with
 |some (.rt d b)=>some (d,b)
 |some (.nx _)=>some (.non,false)
 |_=>none
 else none
def spD (K:PySem.W.Frag)(f:List D->Option (D×Bool)):Sp:=λvs H Q _=>∃(B:Hp)(ds:List D)(d:D)(b:Bool),(aQ B H/\Tb K B)/\IsL K B vs ds/\f ds=some (d,b)/\Fin K B H d b Q
theorem rO {K:PySem.W.Frag}{B H:Hp}{vs:List V}{ds:List D}{N:List Str}(sB:aQ B H)(tb:Tb K B)(i:IsL K B vs ds):StN K B H B H (L2.gY N vs) (ds.map (λd=>some (d,false))++List.replicate (N.length - vs.length) none):=by
 have nf:∀(j:Nat)(d:D)(b:Bool),(ds.map (λd=>some (d,false))++List.replicate (N.length - vs.length) none:Env)[j]? = some (some (d,b))->b=false/\ds[j]? = some d:=λj d b e=>by
  by_cases hj:j<ds.length
  ·rw[List.getElem?_append_left (by simpa using hj),List.getElem?_map]at e;obtain⟨d',h1,h2⟩:=oY e;cases h2
   exact⟨rfl,h1⟩
  ·rw[List.getElem?_append_right (by simpa using Nat.not_lt.mp hj),List.getElem?_replicate]at e;split at e<;>cases e
 have no:∀a,¬own (L2.gY N vs) (ds.map (λd=>some (d,false))++List.replicate (N.length - vs.length) none) a:=λa ⟨j,d,h,_⟩=>by
  obtain⟨z,_⟩:=nf j d true h;cases z
 refine⟨sB,tb,.refl sB,?_,λj d e=>?_,λj d e=>?_,λj k a d e h=>?_⟩
 ·unfold L2.gY;rw[List.length_append,List.length_append,List.length_map,List.length_map,List.length_replicate,List.length_replicate,i.length]
 ·obtain⟨_,e1⟩:=nf j d false e;obtain⟨v,h1,h2⟩:=i.get e1;refine⟨v,?_,h2.mono λa o e=>by rw[cf (no a)];exact e⟩;unfold L2.gY;have hj:j<vs.length:=(List.getElem?_eq_some_iff.mp h1).1;rw[List.getElem?_append_left (by simpa using hj),List.getElem?_map,h1]<;>rfl
 ·obtain⟨z,_⟩:=nf j d true e;cases z
 ·obtain⟨z,_⟩:=nf j d true h;cases z
section
variable {P:Program}{w:World}{K:PySem.W.Frag}{mg:Str->Option Value}{base:Heap}
theorem G1 {x qual:Str}{st:Stmt}{f:Addr}{fd:FuncData}{N ps:List Str}{k:Nat}{g:FS}(F:Fun K x qual st f fd)(S:FnScope N ps (aN st))
  (hb:∀(cdv:Value)(A:Around)(outer:List PySem.Env)(s:Shared)(H:Hp)(E:XK),Room k (A.deeper (envOfC qual (aN st) s.heap.objs.size f cdv))->JSs (lu CX0 P w K mg base N qual (aN st) f cdv A outer s H E).nox (bW st) g):
  FnOk P w K mg base CX0 (k+1) f fd ps (spD K (aO g ps.length (N.length - ps.length))):=by
 have len:∀vs H Q E,spD K (aO g ps.length (N.length - ps.length)) vs H Q E->vs.length=ps.length:=λvs H Q E h=>by
  obtain⟨B,ds,d,b,sB,i,e,q⟩:=h;unfold aO at e;split at e
  ·rename_i hl;rw[i.length];exact hl
  ·cases e
 refine F.ok S len λcdv A outer s H vs Q E hr h=>⟨_,hb cdv A outer s H E hr,?_⟩;have hlen:=len vs H Q E h;obtain⟨B,ds,d,b,sB,i,e,q⟩:=h;unfold aO at e;rw[if_pos (by rw[←i.length];exact hlen)]at e;have s0:=rO (N:=N) sB.1 sB.2 i;rw[hlen]at s0;split at e
 ·rename_i d' b' eg;cases e
  exact⟨B,H,_,_,⟨B,s0⟩,eg,λv H' N' x' i' f'=>q v H' N' x' i' f'⟩
 ·rename_i ρ' eg;cases e
  exact⟨B,H,_,_,⟨B,s0⟩,eg,λσ' H' ⟨N',s'⟩=>q .non H' N' s'.ext .non (by simp)⟩
 ·cases e
structure Fn (P:Program)(w:World)(K:PySem.W.Frag)(mg:Str->Option Value)(base:Heap)(k:Nat)(x:Str)(f:List D->Option (D×Bool)):Prop where
 ex:∃(ad:Addr)(fd:FuncData)(ps:List Str),FnOk P w K mg base CX0 k ad fd ps (spD K f)/\mg x=some (.ref ad)/\PySem.W.keepIn K (.ref ad)=true/\o8 K fd ps []
end
theorem BN {X:Cx}{k:Nat}{x:Str}{f:List D->Option (D×Bool)}{fa:FA}{e:Expr}{es:List Expr}{p pos:Pos}(F:Fn X.prog X.w X.K X.mg X.base k x f)(hr:Room k X.A)(ha:JA X (e::es) fa)(hg:Gl X x:=by rfl)
  (hdb:(x == ("__debug__" : Str))=false:=by decide) (he:starEach (e::es) X.env=(false,eval e X.env)::starEach es X.env:=by rfl) (hpl:(backTo pos (starEach es X.env)).any (·.1)=false:=by rfl):
  JE X (.Call (.Name x p) (e::es) [] pos) (fA f fa):=by
 obtain⟨ad,fd,ps,F1,hm,hk,hb⟩:=F.ex;refine PE.to (Bt F1 hr hg hm hk hb .nil Gp ha hdb he hpl) λσ H Q q=>?_;obtain⟨B,ρ,d,b,s,r,e,q⟩:=q;obtain⟨ds,ex,e⟩:=oX e;exact⟨B,ρ,ds,s,r,ex,λvs H1 N1 x1 i1=>by
  show spD X.K f (vs++[]) H1 Q _;rw[List.append_nil];exact⟨N1,ds,d,b,⟨x1.nh,r.tb.mono x1.bn⟩,i1,e,q.into x1⟩⟩
mutual
noncomputable def eqD:D->D->Bool
 |.non,.non=>true
 |.bl a,.bl b=>a == b
 |.bl a,.int b=>decide ((if a then 1 else 0)=b)
 |.int a,.bl b=>decide (a=(if b then 1 else 0))
 |.int a,.int b=>decide (a=b)
 |.str a,.str b=>decide (a=b)
 |.tup xs,.tup ys=>cz xs ys
 |.lst xs,.lst ys=>cz xs ys
 |_,_=>false
noncomputable def cz:List D->List D->Bool
 |[],[]=>true
 |x::xs,y::ys=>eqD x y && cz xs ys
 |_,_=>false
end
@[simp] theorem rP:eqD .non .non=true:=by simp only[eqD]
@[simp] theorem uI (b:Bool):eqD .non (.bl b)=false:=by simp only[eqD]
@[simp] theorem rQ (b:Int):eqD .non (.int b)=false:=by simp only[eqD]
@[simp] theorem rR (b:Str):eqD .non (.str b)=false:=by simp only[eqD]
@[simp] theorem Df (b:List D):eqD .non (.tup b)=false:=by simp only[eqD]
@[simp] theorem Dg (b:List D):eqD .non (.lst b)=false:=by simp only[eqD]
@[simp] theorem uJ (a:Bool):eqD (.bl a) .non=false:=by simp only[eqD]
@[simp] theorem xQ (a:Bool)(b:Bool):eqD (.bl a) (.bl b)=(a == b):=by simp only[eqD]
@[simp] theorem uK (a:Bool)(b:Int):eqD (.bl a) (.int b)=decide ((if a then 1 else 0)=b):=by simp only[eqD]
@[simp] theorem uL (a:Bool)(b:Str):eqD (.bl a) (.str b)=false:=by simp only[eqD]
@[simp] theorem EB (a:Bool)(b:List D):eqD (.bl a) (.tup b)=false:=by simp only[eqD]
@[simp] theorem EC (a:Bool)(b:List D):eqD (.bl a) (.lst b)=false:=by simp only[eqD]
@[simp] theorem rS (a:Int):eqD (.int a) .non=false:=by simp only[eqD]
@[simp] theorem uM (a:Int)(b:Bool):eqD (.int a) (.bl b)=decide (a=(if b then 1 else 0)):=by simp only[eqD]
@[simp] theorem rT (a:Int)(b:Int):eqD (.int a) (.int b)=decide (a=b):=by simp only[eqD]
@[simp] theorem rV (a:Int)(b:Str):eqD (.int a) (.str b)=false:=by simp only[eqD]
@[simp] theorem Dh (a:Int)(b:List D):eqD (.int a) (.tup b)=false:=by simp only[eqD]
@[simp] theorem Di (a:Int)(b:List D):eqD (.int a) (.lst b)=false:=by simp only[eqD]
@[simp] theorem rW (a:Str):eqD (.str a) .non=false:=by simp only[eqD]
@[simp] theorem uN (a:Str)(b:Bool):eqD (.str a) (.bl b)=false:=by simp only[eqD]
@[simp] theorem rX (a:Str)(b:Int):eqD (.str a) (.int b)=false:=by simp only[eqD]
@[simp] theorem kO (a:Str)(b:Str):eqD (.str a) (.str b)=decide (a=b):=by simp only[eqD]
@[simp] theorem Dj (a:Str)(b:List D):eqD (.str a) (.tup b)=false:=by simp only[eqD]
@[simp] theorem Dk (a:Str)(b:List D):eqD (.str a) (.lst b)=false:=by simp only[eqD]
@[simp] theorem Dl (a:List D):eqD (.tup a) .non=false:=by simp only[eqD]
@[simp] theorem ED (a:List D)(b:Bool):eqD (.tup a) (.bl b)=false:=by simp only[eqD]
@[simp] theorem Dm (a:List D)(b:Int):eqD (.tup a) (.int b)=false:=by simp only[eqD]
@[simp] theorem Dn (a:List D)(b:Str):eqD (.tup a) (.str b)=false:=by simp only[eqD]
@[simp] theorem Do (a:List D)(b:List D):eqD (.tup a) (.tup b)=cz a b:=by simp only[eqD]
@[simp] theorem Dp (a:List D)(b:List D):eqD (.tup a) (.lst b)=false:=by simp only[eqD]
@[simp] theorem Dq (a:List D):eqD (.lst a) .non=false:=by simp only[eqD]
@[simp] theorem EE (a:List D)(b:Bool):eqD (.lst a) (.bl b)=false:=by simp only[eqD]
@[simp] theorem Dr (a:List D)(b:Int):eqD (.lst a) (.int b)=false:=by simp only[eqD]
@[simp] theorem Ds (a:List D)(b:Str):eqD (.lst a) (.str b)=false:=by simp only[eqD]
@[simp] theorem Dt (a:List D)(b:List D):eqD (.lst a) (.tup b)=false:=by simp only[eqD]
@[simp] theorem Du (a:List D)(b:List D):eqD (.lst a) (.lst b)=cz a b:=by simp only[eqD]
@[simp] theorem G2:cz [] []=true:=by rw[cz]
@[simp] theorem F4 (x y:D)(xs ys:List D):cz (x::xs) (y::ys)=(eqD x y && cz xs ys):=by rw[cz]
@[simp] theorem GZ (y:D)(ys:List D):cz [] (y::ys)=false:=by simp only[cz]
@[simp] theorem Ha (x:D)(xs:List D):cz (x::xs) []=false:=by simp only[cz]
noncomputable def aj:Nat->D->Bool
 |_,.non=>true
 |_,.bl _=>true
 |_,.int _=>true
 |_,.str _=>true
 |_,.ty _=>false
 |_,.dk _ _=>false
 |_,.dt _ _=>false
 |0,.tup _=>false
 |0,.lst _=>false
 |n+1,.tup ds=>ds.all (aj n)
 |n+1,.lst ds=>ds.all (aj n)
@[simp] theorem EF (n:Nat):aj n .non=true:=by cases n<;>simp only[aj]
@[simp] theorem F5 (n:Nat)(a:Bool):aj n (.bl a)=true:=by cases n<;>simp only[aj]
@[simp] theorem EG (n:Nat)(a:Int):aj n (.int a)=true:=by cases n<;>simp only[aj]
@[simp] theorem EH (n:Nat)(a:Str):aj n (.str a)=true:=by cases n<;>simp only[aj]
@[simp] theorem F6 (n:Nat)(ks:List Key)(vs:List D):aj n (.dk ks vs)=false:=by cases n<;>simp only[aj]
@[simp] theorem F7 (n:Nat)(ks:List (List Key))(vs:List D):aj n (.dt ks vs)=false:=by cases n<;>simp only[aj]
@[simp] theorem EI (n:Nat)(ds:List D):aj (n+1) (.tup ds)=ds.all (aj n):=by simp only[aj]
@[simp] theorem EJ (n:Nat)(ds:List D):aj (n+1) (.lst ds)=ds.all (aj n):=by simp only[aj]
theorem rY:∀ {xs ys:List D},cz xs ys=true->xs.length=ys.length
 |[],[],_=>rfl
 |x::xs,y::ys,h=>by
  simp only[cz,Bool.and_eq_true]at h;rw[List.length_cons,List.length_cons,rY h.2]
 |[],_::_,h=>by simp[cz]at h
 |_::_,[],h=>by simp[cz]at h
theorem pY {xs ys:List D}(h:xs.length≠ys.length):cz xs ys=false:=by
 cases e:cz xs ys with
 |false=>rfl
 |true=>exact absurd (rY e) h
theorem gG (f:Nat->Bool):∀ {xs ys:List D},xs.length=ys.length->(∀(j:Nat) x y,xs[j]? = some x->ys[j]? = some y->f j=eqD x y)->(List.range xs.length).all f=cz xs ys
 |[],[],_,_=>by simp[cz]
 |x::xs,y::ys,hl,h=>by
  have e:=gG (λj=>f (j+1)) (xs:=xs) (ys:=ys) (by simpa using hl) λj a b h1 h2=>h (j+1) a b (by simpa using h1) (by simpa using h2);rw[List.length_cons,List.range_succ_eq_map,List.all_cons,List.all_map,cz,←h 0 x y rfl rfl,←e];rfl
 |[],_::_,hl,_=>by simp at hl
 |_::_,[],hl,_=>by simp at hl
section
variable {X:Cx}{pins:List (Addr×Obj)}{σ:St}{H:Hp}{s:Shared}
theorem vX (I:Inv X pins σ H s){a:Addr}{vs ws:List V}(h1:SqT X.K H a vs)(h2:SqL X.K H a ws):False:=by
 obtain⟨its,_,⟨o,e,c,_⟩,_⟩:=I.tuple h1;obtain⟨its',_,⟨o',n',e',c',_⟩,_⟩:=I.list h2;rw[e]at e';cases e';rw[c]at c';injection c' with z;exact absurd z (by decide)
theorem vY (I:Inv X pins σ H s){a:Addr}{o:Obj}{its:Array Value}{n:Nat}(e:s.heap.get? a=some o)(d:o.data=.seq its n):(∀kvs ob,H a≠some (.dK kvs ob))/\∀kvs,H a≠some (.dT kvs):=by
 refine⟨λkvs ob h=>?_,λkvs h=>?_⟩
 ·obtain⟨_,_,_,_,_,o',es,ep,e',_,d',_⟩:=(show bz X.prog X.w H s.heap a (.dK kvs ob)from I.hok a _ h);rw[e]at e';cases e';rw[d]at d';cases d'
 ·obtain⟨_,_,_,_,o',es,ep,e',_,d',_⟩:=(show bz X.prog X.w H s.heap a (.dT kvs)from I.hok a _ h);rw[e]at e';cases e';rw[d]at d';cases d'
theorem rZ (I:Inv X pins σ H s){a:Addr}{vs:List V}(h1:SqT X.K H a vs):(∀kvs ob,H a≠some (.dK kvs ob))/\∀kvs,H a≠some (.dT kvs):=by
 obtain⟨its,_,⟨o,e,c,n,d⟩,_⟩:=I.tuple h1;exact vY I e d
theorem sd (I:Inv X pins σ H s){a:Addr}{vs:List V}(h1:SqL X.K H a vs):(∀kvs ob,H a≠some (.dK kvs ob))/\∀kvs,H a≠some (.dT kvs):=by
 obtain⟨its,_,p,_⟩:=I.list h1;obtain⟨o,e,c,n,d⟩:=p.isList;exact vY I e d
theorem vZ (I:Inv X pins σ H s):∀(n:Nat){v:V}{d d':D},Is X.K H v d->Is X.K H v d'->aj n d=true->eqD d d'=true:=by
 have lists:∀ {p:D->Bool}(ih:∀ {v:V}{d d':D},Is X.K H v d->Is X.K H v d'->p d=true->eqD d d'=true) {vs:List V}{ds ds':List D},IsL X.K H vs ds->IsL X.K H vs ds'->ds.all p=true->cz ds ds'=true:=by
  intro p ih vs;induction vs with
  |nil=>intro ds ds' h h' _;cases h;cases h';simp[cz]
  |cons v vs ihv=>
   intro ds ds' h h' hp;cases h with
   |cons h1 h2=>
    cases h' with
    |cons h3 h4=>
     rw[List.all_cons,Bool.and_eq_true]at hp;rw[cz,ih h1 h3 hp.1,ihv h2 h4 hp.2];rfl
 intro n;induction n with
 |zero=>
  intro v d d' h h' hp;cases h<;>cases h'<;>first|(simp[aj]at hp;done)|simp[eqD]
 |succ n ih=>
  intro v d d' h h' hp;cases h with
  |tup h1 h2=>
   cases h' with
   |tup h3 h4=>
    rw[I.tuple_inj h3 h1]at h4;rw[eqD];exact lists ih h2 h4 (by simpa [aj]using hp)
   |lst h3 h4=>exact(vX I h1 h3).elim
   |dk h3 _ _=>exact((rZ I h1).1 _ _ h3).elim
   |dt h3 _ _=>exact((rZ I h1).2 _ h3).elim
  |lst h1 h2=>
   cases h' with
   |lst h3 h4=>
    rw[I.list_inj h3 h1]at h4;rw[eqD];exact lists ih h2 h4 (by simpa [aj]using hp)
   |tup h3 h4=>exact(vX I h3 h1).elim
   |dk h3 _ _=>exact((sd I h1).1 _ _ h3).elim
   |dt h3 _ _=>exact((sd I h1).2 _ h3).elim
  |ty=>simp[aj]at hp
  |dk=>simp[aj]at hp
  |dt=>simp[aj]at hp
  |_=>cases h'<;>simp[eqD]
theorem Dv {α:Type}{p:α->Bool}{l:List α}{j:Nat}{x:α}(h:l.all p=true)(e:l[j]? = some x):p x=true:=List.all_eq_true.mp h x (List.mem_of_getElem? e)
theorem se {A:Around}{p:D->Bool}(ih:∀ {v1 v2:V}{d1 d2:D}{u1 u2:Value},p d1=true->p d2=true->Is X.K H v1 d1->Is X.K H v2 d2->aS v1 u1->aS v2 u2->SeqAt.EqAt A s u1 u2 (eqD d1 d2))
  {vs ws:List V}{ds es:List D}{its jts:List Value}(i1:IsL X.K H vs ds) (i2:IsL X.K H ws es) (r1:aT vs its) (r2:aT ws jts) (p1:ds.all p=true) (p2:es.all p=true):
  ∀j (h1:j<its.toArray.size) (h2:j<jts.toArray.size),SeqAt.EqAt A s its.toArray[j] jts.toArray[j] (eqD (ds.getD j .non) (es.getD j .non)):=by
 intro j h1 h2;rw[List.size_toArray]at h1 h2;have l1:=r1.length;have l2:=r2.length;have l3:=i1.length;have l4:=i2.length;have hv:j<vs.length:=by omega
 have hw:j<ws.length:=by omega
 have hd:j<ds.length:=by omega
 have he:j<es.length:=by omega
 obtain⟨u,e1,q1⟩:=r1.get (i:=j) (x:=vs[j]) (by simp[hv]);obtain⟨u',e2,q2⟩:=r2.get (i:=j) (x:=ws[j]) (by simp[hw]);obtain⟨v,e3,q3⟩:=i1.get (i:=j) (d:=ds[j]) (by simp[hd]);obtain⟨w,e4,q4⟩:=i2.get (i:=j) (d:=es[j]) (by simp[he]);have a1:its.toArray[j]=u:=by have z:=(List.getElem?_eq_some_iff.mp e1).2;simpa using z
 have a2:jts.toArray[j]=u':=by have z:=(List.getElem?_eq_some_iff.mp e2).2;simpa using z
 have a3:vs[j]=v:=by simpa [hv]using e3
 have a4:ws[j]=w:=by simpa [hw]using e4
 have a5:ds.getD j .non=ds[j]:=by simp[List.getD,hd]
 have a6:es.getD j .non=es[j]:=by simp[List.getD,he]
 rw[a1,a2,a5,a6];exact ih (Dv p1 (j:=j) (by simp[hd])) (Dv p2 (j:=j) (by simp[he])) (a3 ▸ q3) (a4 ▸ q4) q1 q2
theorem pZ {xs ys:List D}(j:Nat)(x y:D)(h1:xs[j]? = some x)(h2:ys[j]? = some y):eqD (xs.getD j .non) (ys.getD j .non)=eqD x y:=by
 simp[List.getD,h1,h2]
abbrev Tri (A:Around)(s:Shared)(u1 u2:Value)(b:Bool):Prop:=SeqAt.RcAt A s u1 u2 b/\SeqAt.EqAt A s u1 u2 b/\SeqAt.RcNeAt A s u1 u2 (!b)
theorem bH {A:Around}{v1 v2:V}{d1 d2:D}{u1 u2:Value}(p1:aj 0 d1=true)(p2:aj 0 d2=true)(i1:Is X.K H v1 d1)(i2:Is X.K H v2 d2)(r1:aS v1 u1)(r2:aS v2 u2):Tri A s u1 u2 (eqD d1 d2):=by
 cases i1 with
 |non=>
  cases r1
  cases i2 with
  |non=>
   cases r2
   rw[rP];exact⟨SeqAt.RcAt.none_none,SeqAt.EqAt.same _,SeqAt.RcNeAt.none_none⟩
  |bl b=>
   cases r2
   rw[uI];exact⟨SeqAt.RcAt.none_bool _,SeqAt.EqAt.none_bool _,SeqAt.RcNeAt.none_bool _⟩
  |int b=>
   obtain⟨t',rfl⟩:=r2;rw[rQ];exact⟨SeqAt.RcAt.none_int _ _,SeqAt.EqAt.none_int _ _,SeqAt.RcNeAt.none_int _ _⟩
  |str b=>
   obtain⟨t',rfl⟩:=r2;rw[rR];exact⟨SeqAt.RcAt.none_str _ _,SeqAt.EqAt.none_str _ _,SeqAt.RcNeAt.none_str _ _⟩
  |ty=>simp[aj]at p2
  |dk=>simp[aj]at p2
  |dt=>simp[aj]at p2
  |tup=>simp[aj]at p2
  |lst=>simp[aj]at p2
 |bl a=>
  cases r1
  cases i2 with
  |non=>
   cases r2
   rw[uJ];exact⟨SeqAt.RcAt.bool_none _,SeqAt.EqAt.bool_none _,SeqAt.RcNeAt.bool_none _⟩
  |bl b=>
   cases r2
   rw[xQ];exact⟨SeqAt.RcAt.bool_bool _ _,SeqAt.EqAt.bool_bool _ _,SeqAt.RcNeAt.bool_bool _ _⟩
  |int b=>
   obtain⟨t',rfl⟩:=r2;rw[uK,←Bool.beq_eq_decide_eq];exact⟨SeqAt.RcAt.bool_int _ _ _,SeqAt.EqAt.bool_int _ _ _,SeqAt.RcNeAt.bool_int _ _ _⟩
  |str b=>
   obtain⟨t',rfl⟩:=r2;rw[uL];exact⟨SeqAt.RcAt.bool_str _ _ _,SeqAt.EqAt.bool_str _ _ _,SeqAt.RcNeAt.bool_str _ _ _⟩
  |ty=>simp[aj]at p2
  |dk=>simp[aj]at p2
  |dt=>simp[aj]at p2
  |tup=>simp[aj]at p2
  |lst=>simp[aj]at p2
 |int a=>
  obtain⟨t,rfl⟩:=r1;cases i2 with
  |non=>
   cases r2
   rw[rS];exact⟨SeqAt.RcAt.int_none _ _,SeqAt.EqAt.int_none _ _,SeqAt.RcNeAt.int_none _ _⟩
  |bl b=>
   cases r2
   rw[uM,←Bool.beq_eq_decide_eq];exact⟨SeqAt.RcAt.int_bool _ _ _,SeqAt.EqAt.int_bool _ _ _,SeqAt.RcNeAt.int_bool _ _ _⟩
  |int b=>
   obtain⟨t',rfl⟩:=r2;rw[rT,←Bool.beq_eq_decide_eq];exact⟨SeqAt.RcAt.int_int _ _ _ _,SeqAt.EqAt.int_int _ _ _ _,SeqAt.RcNeAt.int_int _ _ _ _⟩
  |str b=>
   obtain⟨t',rfl⟩:=r2;rw[rV];exact⟨SeqAt.RcAt.int_str _ _ _ _,SeqAt.EqAt.int_str _ _ _ _,SeqAt.RcNeAt.int_str _ _ _ _⟩
  |ty=>simp[aj]at p2
  |dk=>simp[aj]at p2
  |dt=>simp[aj]at p2
  |tup=>simp[aj]at p2
  |lst=>simp[aj]at p2
 |str a=>
  obtain⟨t,rfl⟩:=r1;cases i2 with
  |non=>
   cases r2
   rw[rW];exact⟨SeqAt.RcAt.str_none _ _,SeqAt.EqAt.str_none _ _,SeqAt.RcNeAt.str_none _ _⟩
  |bl b=>
   cases r2
   rw[uN];exact⟨SeqAt.RcAt.str_bool _ _ _,SeqAt.EqAt.str_bool _ _ _,SeqAt.RcNeAt.str_bool _ _ _⟩
  |int b=>
   obtain⟨t',rfl⟩:=r2;rw[rX];exact⟨SeqAt.RcAt.str_int _ _ _ _,SeqAt.EqAt.str_int _ _ _ _,SeqAt.RcNeAt.str_int _ _ _ _⟩
  |str b=>
   obtain⟨t',rfl⟩:=r2;rw[kO,←Bool.beq_eq_decide_eq];exact⟨SeqAt.RcAt.str_str _ _ _ _,SeqAt.EqAt.str_str _ _ _ _,SeqAt.RcNeAt.str_str _ _ _ _⟩
  |ty=>simp[aj]at p2
  |dk=>simp[aj]at p2
  |dt=>simp[aj]at p2
  |tup=>simp[aj]at p2
  |lst=>simp[aj]at p2
 |ty=>simp[aj]at p1
 |dk=>simp[aj]at p1
 |dt=>simp[aj]at p1
 |tup=>simp[aj]at p1
 |lst=>simp[aj]at p1
theorem Dw (I:Inv X pins σ H s):∀(n:Nat){A:Around}{v1 v2:V}{d1 d2:D}{u1 u2:Value},A.units+n<cLine->aj n d1=true->aj n d2=true->Is X.K H v1 d1->Is X.K H v2 d2->aS v1 u1->aS v2 u2->Tri A s u1 u2 (eqD d1 d2):=by
 intro n;induction n with
 |zero=>exact λ_ p1 p2 i1 i2 r1 r2=>bH p1 p2 i1 i2 r1 r2
 |succ n ih=>
  intro A v1 v2 d1 d2 u1 u2 hu p1 p2 i1 i2 r1 r2;have hu0:A.units<cLine:=by omega
  have ih':∀ {v1 v2:V}{d1 d2:D}{u1 u2:Value},aj n d1=true->aj n d2=true->Is X.K H v1 d1->Is X.K H v2 d2->aS v1 u1->aS v2 u2->SeqAt.EqAt A.in1 s u1 u2 (eqD d1 d2):=λp1 p2 i1 i2 r1 r2=>(ih (A:=A.in1) (by show A.units+1+n<cLine;omega) p1 p2 i1 i2 r1 r2).2.1;cases i1 with
  |tup h1 k1=>
   cases r1
   obtain⟨its,rv1,t1,z1⟩:=I.tuple h1;have t1':s.heap.IsTuple _ its.toArray:=t1;have q1:=p1;simp only[aj]at q1;cases i2 with
   |tup h2 k2=>
    cases r2
    obtain⟨jts,rv2,t2,z2⟩:=I.tuple h2;have t2':s.heap.IsTuple _ jts.toArray:=t2;have q2:=p2;simp only[aj]at q2;rename_i a1 vs ds a2 ws es;have he:=se (A:=A.in1) (p:=aj n) ih' k1 k2 rv1 rv2 q1 q2;have eqv:((List.range (min its.toArray.size jts.toArray.size)).all (λj=>eqD (ds.getD j .non) (es.getD j .non)) && its.toArray.size == jts.toArray.size)=eqD (.tup ds) (.tup es):=by
     rw[eqD,List.size_toArray,List.size_toArray,←rv1.length,←rv2.length,k1.length,k2.length];by_cases hl:ds.length=es.length
     ·rw[←hl,Nat.min_self,beq_self_eq_true,Bool.and_true];exact gG _ hl λj x y e1 e2=>pZ j x y e1 e2
     ·rw[pY hl,beq_eq_false_iff_ne.mpr hl,Bool.and_false]
    have rc:=SeqAt.RcAt.tuples t1' t2' hu0 he;have rn:=SeqAt.RcNeAt.tuples t1' t2' hu0 he;rw[eqv]at rc rn;refine⟨rc,?_,rn⟩;by_cases ha:a1=a2
    ·subst ha;rw[vZ I (n+1) (.tup h1 k1) (.tup h2 k2) p1];exact SeqAt.EqAt.same _
    ·exact SeqAt.EqAt.of_refs ha rc
   |lst h2 k2=>
    cases r2
    obtain⟨jts,rv2,t2,z2⟩:=I.list h2;rw[show eqD (.tup _) (.lst _)=false by simp only[eqD]];exact⟨SeqAt.RcAt.tuple_list t1' t2.isList hu0,SeqAt.EqAt.tuple_list t1' t2.isList hu0,SeqAt.RcNeAt.tuple_list t1' t2.isList hu0⟩
   |ty=>simp[aj]at p2
   |dk=>simp[aj]at p2
   |dt=>simp[aj]at p2
   |non=>cases r2;simp only[eqD];exact⟨SeqAt.RcAt.tuple_none t1' hu0,SeqAt.EqAt.tuple_none t1' hu0,SeqAt.RcNeAt.tuple_none t1' hu0⟩
   |bl=>cases r2;simp only[eqD];exact⟨SeqAt.RcAt.tuple_bool _ t1' hu0,SeqAt.EqAt.tuple_bool _ t1' hu0,SeqAt.RcNeAt.tuple_bool _ t1' hu0⟩
   |int=>obtain⟨t,rfl⟩:=r2;simp only[eqD];exact⟨SeqAt.RcAt.tuple_int _ _ t1' hu0,SeqAt.EqAt.tuple_int _ _ t1' hu0,SeqAt.RcNeAt.tuple_int _ _ t1' hu0⟩
   |str=>obtain⟨t,rfl⟩:=r2;simp only[eqD];exact⟨SeqAt.RcAt.tuple_str _ _ t1' hu0,SeqAt.EqAt.tuple_str _ _ t1' hu0,SeqAt.RcNeAt.tuple_str _ _ t1' hu0⟩
  |lst h1 k1=>
   cases r1
   obtain⟨its,rv1,t1,z1⟩:=I.list h1;have t1':s.heap.IsList _ its.toArray:=t1.isList;have q1:=p1;simp only[aj]at q1;cases i2 with
   |lst h2 k2=>
    cases r2
    obtain⟨jts,rv2,t2,z2⟩:=I.list h2;have t2':s.heap.IsList _ jts.toArray:=t2.isList;have q2:=p2;simp only[aj]at q2;rename_i a1 vs ds a2 ws es;have he:=se (A:=A.in1) (p:=aj n) ih' k1 k2 rv1 rv2 q1 q2;have both:SeqAt.RcAt A s (.ref a1) (.ref a2) (eqD (.lst ds) (.lst es))/\SeqAt.RcNeAt A s (.ref a1) (.ref a2) (!eqD (.lst ds) (.lst es)):=by
     by_cases hl:ds.length=es.length
     ·have hs:its.toArray.size=jts.toArray.size:=by rw[List.size_toArray,List.size_toArray,←rv1.length,←rv2.length,k1.length,k2.length];exact hl
      have eqv:(List.range its.toArray.size).all (λj=>eqD (ds.getD j .non) (es.getD j .non))=eqD (.lst ds) (.lst es):=by
       rw[eqD,List.size_toArray,←rv1.length,k1.length];exact gG _ hl λj x y e1 e2=>pZ j x y e1 e2
      have rc:=SeqAt.RcAt.lists t1' t2' hs hu0 he;have rn:=SeqAt.RcNeAt.lists t1' t2' hs hu0 he;rw[eqv]at rc rn;exact⟨rc,rn⟩
     ·have hs:(its.toArray.size != jts.toArray.size)=true:=by rw[List.size_toArray,List.size_toArray,←rv1.length,←rv2.length,k1.length,k2.length];exact bne_iff_ne.mpr hl
      rw[eqD,pY hl];exact⟨SeqAt.RcAt.lists_lengths t1' t2' hs hu0,SeqAt.RcNeAt.lists_lengths t1' t2' hs hu0⟩
    refine⟨both.1,?_,both.2⟩;by_cases ha:a1=a2
    ·subst ha;rw[vZ I (n+1) (.lst h1 k1) (.lst h2 k2) p1];exact SeqAt.EqAt.same _
    ·exact SeqAt.EqAt.of_refs ha both.1
   |tup h2 k2=>
    cases r2
    obtain⟨jts,rv2,t2,z2⟩:=I.tuple h2;have t2':s.heap.IsTuple _ jts.toArray:=t2;rw[show eqD (.lst _) (.tup _)=false by simp only[eqD]];exact⟨SeqAt.RcAt.list_tuple t1' t2' hu0,SeqAt.EqAt.list_tuple t1' t2' hu0,SeqAt.RcNeAt.list_tuple t1' t2' hu0⟩
   |ty=>simp[aj]at p2
   |dk=>simp[aj]at p2
   |dt=>simp[aj]at p2
   |non=>cases r2;simp only[eqD];exact⟨SeqAt.RcAt.list_none t1' hu0,SeqAt.EqAt.list_none t1' hu0,SeqAt.RcNeAt.list_none t1' hu0⟩
   |bl=>cases r2;simp only[eqD];exact⟨SeqAt.RcAt.list_bool _ t1' hu0,SeqAt.EqAt.list_bool _ t1' hu0,SeqAt.RcNeAt.list_bool _ t1' hu0⟩
   |int=>obtain⟨t,rfl⟩:=r2;simp only[eqD];exact⟨SeqAt.RcAt.list_int _ _ t1' hu0,SeqAt.EqAt.list_int _ _ t1' hu0,SeqAt.RcNeAt.list_int _ _ t1' hu0⟩
   |str=>obtain⟨t,rfl⟩:=r2;simp only[eqD];exact⟨SeqAt.RcAt.list_str _ _ t1' hu0,SeqAt.EqAt.list_str _ _ t1' hu0,SeqAt.RcNeAt.list_str _ _ t1' hu0⟩
  |ty=>simp[aj]at p1
  |dk=>simp[aj]at p1
  |dt=>simp[aj]at p1
  |non=>
   cases i2 with
   |tup h2 k2=>cases r1;cases r2;obtain⟨jts,rv2,t2,z2⟩:=I.tuple h2;have t2':s.heap.IsTuple _ jts.toArray:=t2;simp only[eqD];exact⟨SeqAt.RcAt.none_tuple t2' hu0,SeqAt.EqAt.none_tuple t2' hu0,SeqAt.RcNeAt.none_tuple t2' hu0⟩
   |lst h2 k2=>cases r1;cases r2;obtain⟨jts,rv2,t2,z2⟩:=I.list h2;simp only[eqD];exact⟨SeqAt.RcAt.none_list t2.isList hu0,SeqAt.EqAt.none_list t2.isList hu0,SeqAt.RcNeAt.none_list t2.isList hu0⟩
   |ty=>simp[aj]at p2
   |dk=>simp[aj]at p2
   |dt=>simp[aj]at p2
   |non=>exact bH (X:=X) (H:=H) (by simp[aj]) (by simp[aj]) .non .non r1 r2
   |bl x=>exact bH (X:=X) (H:=H) (by simp[aj]) (by simp[aj]) .non (.bl x) r1 r2
   |int x=>exact bH (X:=X) (H:=H) (by simp[aj]) (by simp[aj]) .non (.int x) r1 r2
   |str x=>exact bH (X:=X) (H:=H) (by simp[aj]) (by simp[aj]) .non (.str x) r1 r2
  |bl y=>
   cases i2 with
   |tup h2 k2=>cases r1;cases r2;obtain⟨jts,rv2,t2,z2⟩:=I.tuple h2;have t2':s.heap.IsTuple _ jts.toArray:=t2;simp only[eqD];exact⟨SeqAt.RcAt.bool_tuple _ t2' hu0,SeqAt.EqAt.bool_tuple _ t2' hu0,SeqAt.RcNeAt.bool_tuple _ t2' hu0⟩
   |lst h2 k2=>cases r1;cases r2;obtain⟨jts,rv2,t2,z2⟩:=I.list h2;simp only[eqD];exact⟨SeqAt.RcAt.bool_list _ t2.isList hu0,SeqAt.EqAt.bool_list _ t2.isList hu0,SeqAt.RcNeAt.bool_list _ t2.isList hu0⟩
   |ty=>simp[aj]at p2
   |dk=>simp[aj]at p2
   |dt=>simp[aj]at p2
   |non=>exact bH (X:=X) (H:=H) (by simp[aj]) (by simp[aj]) (.bl y) .non r1 r2
   |bl x=>exact bH (X:=X) (H:=H) (by simp[aj]) (by simp[aj]) (.bl y) (.bl x) r1 r2
   |int x=>exact bH (X:=X) (H:=H) (by simp[aj]) (by simp[aj]) (.bl y) (.int x) r1 r2
   |str x=>exact bH (X:=X) (H:=H) (by simp[aj]) (by simp[aj]) (.bl y) (.str x) r1 r2
  |int y=>
   cases i2 with
   |tup h2 k2=>obtain⟨t,rfl⟩:=r1;cases r2;obtain⟨jts,rv2,t2,z2⟩:=I.tuple h2;have t2':s.heap.IsTuple _ jts.toArray:=t2;simp only[eqD];exact⟨SeqAt.RcAt.int_tuple _ _ t2' hu0,SeqAt.EqAt.int_tuple _ _ t2' hu0,SeqAt.RcNeAt.int_tuple _ _ t2' hu0⟩
   |lst h2 k2=>obtain⟨t,rfl⟩:=r1;cases r2;obtain⟨jts,rv2,t2,z2⟩:=I.list h2;simp only[eqD];exact⟨SeqAt.RcAt.int_list _ _ t2.isList hu0,SeqAt.EqAt.int_list _ _ t2.isList hu0,SeqAt.RcNeAt.int_list _ _ t2.isList hu0⟩
   |ty=>simp[aj]at p2
   |dk=>simp[aj]at p2
   |dt=>simp[aj]at p2
   |non=>exact bH (X:=X) (H:=H) (by simp[aj]) (by simp[aj]) (.int y) .non r1 r2
   |bl x=>exact bH (X:=X) (H:=H) (by simp[aj]) (by simp[aj]) (.int y) (.bl x) r1 r2
   |int x=>exact bH (X:=X) (H:=H) (by simp[aj]) (by simp[aj]) (.int y) (.int x) r1 r2
   |str x=>exact bH (X:=X) (H:=H) (by simp[aj]) (by simp[aj]) (.int y) (.str x) r1 r2
  |str y=>
   cases i2 with
   |tup h2 k2=>obtain⟨t,rfl⟩:=r1;cases r2;obtain⟨jts,rv2,t2,z2⟩:=I.tuple h2;have t2':s.heap.IsTuple _ jts.toArray:=t2;simp only[eqD];exact⟨SeqAt.RcAt.str_tuple _ _ t2' hu0,SeqAt.EqAt.str_tuple _ _ t2' hu0,SeqAt.RcNeAt.str_tuple _ _ t2' hu0⟩
   |lst h2 k2=>obtain⟨t,rfl⟩:=r1;cases r2;obtain⟨jts,rv2,t2,z2⟩:=I.list h2;simp only[eqD];exact⟨SeqAt.RcAt.str_list _ _ t2.isList hu0,SeqAt.EqAt.str_list _ _ t2.isList hu0,SeqAt.RcNeAt.str_list _ _ t2.isList hu0⟩
   |ty=>simp[aj]at p2
   |dk=>simp[aj]at p2
   |dt=>simp[aj]at p2
   |non=>exact bH (X:=X) (H:=H) (by simp[aj]) (by simp[aj]) (.str y) .non r1 r2
   |bl x=>exact bH (X:=X) (H:=H) (by simp[aj]) (by simp[aj]) (.str y) (.bl x) r1 r2
   |int x=>exact bH (X:=X) (H:=H) (by simp[aj]) (by simp[aj]) (.str y) (.int x) r1 r2
   |str x=>exact bH (X:=X) (H:=H) (by simp[aj]) (by simp[aj]) (.str y) (.str x) r1 r2
@[simp] noncomputable def dEq:D->D->Option (D×Bool):=λx y=>if aj 40 x=true/\aj 40 y=true then some (.bl (eqD x y),false)else none
@[simp] noncomputable def dNe:D->D->Option (D×Bool):=λx y=>if aj 40 x=true/\aj 40 y=true then some (.bl (!eqD x y),false)else none
theorem cn (hu:X.A.units+40<cLine):OpR X (compareOp .Eq) (rD X.K dEq):=by
 intro pins s σ H x y v u Q I rx ry q;obtain⟨B,dx,dy,d,b,sB,ix,iy,e,q⟩:=q;unfold dEq at e;split at e
 ·rename_i hp;cases e
  exact(Dw I 40 hu hp.1 hp.2 (ix.mono sB) (iy.mono sB) rx ry).1 _ _ _ _ ⟨.bl _,H,I,rfl,q.one sB (.bl _)⟩
 ·cases e
theorem zx (hu:X.A.units+40<cLine):OpR X (compareOp .NotEq) (rD X.K dNe):=by
 intro pins s σ H x y v u Q I rx ry q;obtain⟨B,dx,dy,d,b,sB,ix,iy,e,q⟩:=q;unfold dNe at e;split at e
 ·rename_i hp;cases e
  exact(Dw I 40 hu hp.1 hp.2 (ix.mono sB) (iy.mono sB) rx ry).2.2 _ _ _ _ ⟨.bl _,H,I,rfl,q.one sB (.bl _)⟩
 ·cases e
end
section
variable {X:Cx}{a b e:Expr}{pos:Pos}
theorem wa {K:PySem.W.Frag}{H:Hp}{vs:List V}{ds:List D}{i:Int}{d:D}(h:IsL K H vs ds)(e:atI ds i=some d):∃v,atI vs i=some v/\Is K H v d:=by
 unfold atI at e ⊢;rw[h.length];cases q:ixN ds.length i with
 |none=>rw[q]at e;cases e
 |some j=>rw[q]at e;exact h.get e
@[simp] noncomputable def ixD:D->D->Option (D×Bool)
 |.lst ds,.int i=>(atI ds i).map λd=>(d,false)
 |.tup ds,.int i=>(atI ds i).map λd=>(d,false)
 |.str z,.int i=>if z.length<=sizeLine then (atI z.cps.toList i).map λc=>(.str ⟨#[c]⟩,false)else none
 |_,_=>none
theorem HB:IxR X (rD X.K ixD):=by
 intro value slice pins s σ H x y v u Q I rx ry q hs;obtain⟨B,dx,dy,d,b,sB,ix,iy,e,q⟩:=q;cases ix<;>cases iy<;>try (simp[ixD]at e;done)
 ·simp only[ixD]at e;split at e
  ·rename_i hz;obtain⟨c,e1,e2⟩:=oY e;cases e2
   exact uA value slice pins s σ H _ _ v u Q I rx ry ⟨_,_,c,rfl,rfl,hz,e1,q.one sB (.str _)⟩ hs
  ·cases e
 ·rename_i h hl i;simp only[ixD]at e;obtain⟨c,e1,e2⟩:=oY e;cases e2
  obtain⟨w,h1,h2⟩:=wa hl e1;exact pN value slice pins s σ H _ _ v u Q I rx ry ⟨_,_,_,w,rfl,rfl,aY sB h,h1,q.one sB h2⟩ hs
 ·rename_i h hl i;simp only[ixD]at e;obtain⟨c,e1,e2⟩:=oY e;cases e2
  obtain⟨w,h1,h2⟩:=wa hl e1;exact B3 value slice pins s σ H _ _ v u Q I rx ry ⟨_,_,_,w,rfl,rfl,sB.seq h,h1,q.one sB h2⟩ hs
theorem az {fa fb:FE}(ha:JE X a fa)(hb:JE X b fb)(hs:pM b:=by intro _ _;rfl):JE X (.Subscript a b pos) (f2 ixD fa fb):=PE.to (CW HB ha hb hs) λ_ _ _ h=>B8 h
abbrev FO:=Env->Option (Option Int)
def tDO (K:PySem.W.Frag)(f:FO):TO:=λσ H Q=>∃(B:Hp)(ρ:Env)(o:Option Int),aQ B H/\RepE K B σ ρ/\f ρ=some o/\∀H',aQ H H'->Q o H'
abbrev JO (X:Cx)(e:Option Expr)(f:FO):Prop:=PO X e (tDO X.K f)
@[simp] noncomputable def zy:FO:=λ_=>some none
@[simp] noncomputable def wb (f:FE):FO:=λρ=>match f ρ with|some (.int i,_)=>some (some i)|_=>none
theorem BO:JO X none zy:=λpins s σ H Q I h=>Bw pins s σ H Q I (by
 obtain⟨B,ρ,o,sB,r,e,q⟩:=h;cases e
 exact q H (.refl H))
theorem BP {f:FE}(h:JE X e f):JO X (some e) (wb f):=λpins s σ H Q I q=>By h pins s σ H Q I (by
 obtain⟨B,ρ,o,sB,r,e,q⟩:=q;unfold wb at e;split at e
 ·rename_i i b' ef;cases e
  refine⟨B,ρ,_,_,sB,r,ef,λv H1 N1 x1 i1 _=>?_⟩;cases i1
  exact⟨i,rfl,q H1 x1.hh⟩
 ·cases e)
noncomputable def nZ (ds:List D)(lo hi:Option Int):List D:=(ds.drop (HT.sIx ds.length 0 lo)).take (HT.sIx ds.length ds.length hi - HT.sIx ds.length 0 lo)
theorem qc {K:PySem.W.Frag}{H:Hp}{vs:List V}{ds:List D}{lo hi:Option Int}(h:IsL K H vs ds):IsL K H (nS vs lo hi) (nZ ds lo hi):=by
 unfold nS nZ;rw[h.length];exact(h.drop _).take _
@[simp] noncomputable def Ib (fa:FE)(fl fh:FO):FE:=λρ=>(fa ρ).bind λx=>(fl ρ).bind λl=>(fh ρ).bind λh=>match x.1 with
 |.lst ds=>some (.lst (nZ ds l h),true)
 |.tup ds=>if HT.sIx ds.length 0 l=0/\HT.sIx ds.length ds.length h=ds.length then none else some (.tup (nZ ds l h),false)
 |_=>none
theorem bB.to {f:Value}{r r':List V->Hp->VK->Prop}(h:bB X f r)(k:∀xs H Q,r' xs H Q->r xs H Q):bB X f r':=λpins s σ H xs us Q I rs q=>h pins s σ H xs us Q I rs (k xs H Q q)
variable {es:List Expr}{x:Str}{p:Pos}{id T:String}
theorem bI {f:List D->Option (D×Bool)}{fa:FA}(hc:bB X (.builtin id) (rDA X.K f))(hm:X.mg x=none)(hv:bootBuiltins x=some (.builtin id))(ha:JA X (e::es) fa)(hg:Gl X x:=by rfl)(hn:x ≠ "__name__":=by decide)(hdb:(x == ("__debug__" : Str))=false:=by decide)
  (he:starEach (e::es) X.env=(false,eval e X.env)::starEach es X.env:=by rfl) (hpl:(backTo pos (starEach es X.env)).any (·.1)=false:=by rfl):JE X (.Call (.Name x p) (e::es) [] pos) (fA f fa):=PE.to (rE hc hg hm hv ha hn hdb he hpl) λ_ _ _ h=>B9 h
theorem gh {f:List D->Option (D×Bool)}{fa:FA}(hc:bB X (.type T) (rDA X.K f))(hm:X.mg x=none)(hv:bootBuiltins x=some (.type T))(ha:JA X (e::es) fa)(hg:Gl X x:=by rfl)(hn:x ≠ "__name__":=by decide)(hdb:(x == ("__debug__" : Str))=false:=by decide)
  (he:starEach (e::es) X.env=(false,eval e X.env)::starEach es X.env:=by rfl) (hpl:(backTo pos (starEach es X.env)).any (·.1)=false:=by rfl):JE X (.Call (.Name x p) (e::es) [] pos) (fA f fa):=PE.to (oD hc hg hm hv ha hn hdb he hpl) λ_ _ _ h=>B9 h
@[simp] noncomputable def eI:List D->Option (D×Bool)
 |[.lst ds]=>some (.int ds.length,false)
 |[.tup ds]=>some (.int ds.length,false)
 |[.str z]=>if z.length<=sizeLine then some (.int z.length,false)else none
 |_=>none
theorem gk:bB X (.builtin "len") (rDA X.K eI):=by
 refine bB.to (bB.or pQ pR) λxs H Q q=>?_;obtain⟨B,ds,d,b,sB,i,e,q⟩:=q;cases i with
 |nil=>simp[eI]at e
 |cons i1 i2=>
  cases i2 with
  |cons _ _=>cases i1<;>simp[eI]at e
  |nil=>
   cases i1<;>try (simp[eI]at e;done)
   ·simp only[eI]at e;split at e
    ·rename_i hz;cases e
     exact .inr ⟨_,rfl,hz,q.one sB (.int _)⟩
    ·cases e
   ·rename_i h hl;simp only[eI]at e;cases e
    refine .inl ⟨_,_,rfl,.inr (aY sB h),?_⟩;rw[hl.length];exact q.one sB (.int _)
   ·rename_i h hl;simp only[eI]at e;cases e
    refine .inl ⟨_,_,rfl,.inl (sB.seq h),?_⟩;rw[hl.length];exact q.one sB (.int _)
theorem G3 {n:String}(hm:X.mg x=none)(hv:bootBuiltins x=some (.type n))(hg:Gl X x:=by rfl)(hn:x ≠ "__name__":=by decide)(hd:(x == ("__debug__" : Str))=false:=by decide):JE X (.Name x pos) (fC (.ty n)) :=
 PE.to (Bh hg hm hv (v:=.ty n) rfl hn hd) λ_ _ _ h=>xP (λ_=>.ty n) h
end
theorem uO {A:Around}{k:Nat}(hr:Room k A):A.units+40<cLine:=by have:=hr.un;omega
section
variable {X:Cx}{a b e:Expr}{pos:Pos}{x:Str}{p:Pos}
theorem sf {d:D}(h:∃u v,X.mg x=some u/\aS v u/\∀B,Is X.K B v d)(hg:Gl X x:=by rfl)(hd:(x == ("__debug__" : Str))=false:=by decide):JE X (.Name x pos) (fC d):=by
 obtain⟨u,v,hm,r,i⟩:=h;exact BI hg hm r i hd
@[simp] noncomputable def wc:D->D->Option (D×Bool)
 |.int i,.int j=>some (.int (i+j),false)
 |.str i,.str j=>if i.length+j.length<=sizeLine then some (.str (i++j),false)else none
 |_,_=>none
theorem BQ:OpR X (binaryOp .Add) (rD X.K wc):=by
 refine ga (r:=rD X.K (orD E5 zw)) (kj Gy E9) λx y H Q q=>?_;obtain⟨B,dx,dy,d,b,sB,ix,iy,e,q⟩:=q;refine⟨B,dx,dy,d,b,sB,ix,iy,?_,q⟩;cases dx<;>cases dy<;>simp[wc]at e<;>simp[orD,E5,zw,iop,sop,e]
@[simp] noncomputable def eS:D->D->Option (D×Bool):=E6
theorem c6:OpR X (binaryOp .Mult) (rD X.K eS):=Gz
@[simp] noncomputable def dLt:D->D->Option (D×Bool):=iLt
theorem lR:OpR X (compareOp .Lt) (rD X.K dLt):=Hy
@[simp] noncomputable def dLe:D->D->Option (D×Bool)
 |.int i,.int j=>some (.bl (decide (i<=j)),false)
 |.str i,.str j=>some (.bl (!decide (j.cps.toList<i.cps.toList)),false)
 |_,_=>none
theorem iX:OpR X (compareOp .LtE) (rD X.K dLe):=by
 refine ga (r:=rD X.K (orD iLe sLe)) (kj Hz G0) λx y H Q q=>?_;obtain⟨B,dx,dy,d,b,sB,ix,iy,e,q⟩:=q;refine⟨B,dx,dy,d,b,sB,ix,iy,?_,q⟩;cases dx<;>cases dy<;>simp[dLe]at e<;>simp[orD,iLe,sLe,iop,sop,e]
@[simp] noncomputable def oe:D->Option (D×Bool)
 |.int i=>some (.int (-i),false)
 |_=>none
theorem we:UnR X (unaryOp .USub) (rDU X.K oe):=by
 intro pins s σ H x v Q I rx q;obtain⟨B,dx,d,b,sB,ix,e,q⟩:=q;cases ix<;>try (simp[oe]at e;done)
 simp only[oe]at e;cases e
 exact Em pins s σ H _ v Q I rx ⟨_,rfl,q.one sB (.int _)⟩
@[simp] noncomputable def xR:D->D->Option Bool
 |.non,.non=>some true
 |_,.non=>some false
 |.bl a,.bl b=>some (a == b)
 |_,.bl _=>some false
 |_,_=>none
@[simp] noncomputable def dIs:D->D->Option (D×Bool):=λx y=>(xR x y).map λb=>(.bl b,false)
@[simp] noncomputable def ij:D->D->Option (D×Bool):=λx y=>(xR x y).map λb=>(.bl (!b),false)
theorem wf {K:PySem.W.Frag}{B:Hp}{x y:V}{v u:Value}{dx dy:D}{k:Bool}(ix:Is K B x dx)(iy:Is K B y dy)(rx:aS x v)(ry:aS y u)(e:xR dx dy=some k):plainIs v u=true/\(v == u)=k:=by
 cases iy<;>(first|(cases dx<;>simp[xR]at e;done)|skip)
 all_goals (cases ix)
 all_goals (first|(obtain⟨t,rfl⟩:=rx)|cases rx)
 all_goals (cases ry)
 all_goals (simp only[xR,Option.some.injEq]at e;subst e)
 all_goals (first|exact⟨rfl,rfl⟩|skip)
 all_goals (rename_i c d;cases c<;>cases d<;>exact⟨rfl,rfl⟩)
theorem xS:OpR X (compareOp .Is) (rD X.K dIs):=by
 intro pins s σ H x y v u Q I rx ry q;obtain⟨B,dx,dy,d,b,sB,ix,iy,e,q⟩:=q;obtain⟨k,ek,e⟩:=oY e;cases e
 obtain⟨h1,h2⟩:=wf ix iy rx ry ek;refine wpAny_is_plain h1 ⟨.bl k,H,I,by rw[h2];rfl,q.one sB (.bl _)⟩
theorem lE:OpR X (compareOp .IsNot) (rD X.K ij):=by
 intro pins s σ H x y v u Q I rx ry q;obtain⟨B,dx,dy,d,b,sB,ix,iy,e,q⟩:=q;obtain⟨k,ek,e⟩:=oY e;cases e
 obtain⟨h1,h2⟩:=wf ix iy rx ry ek;refine wpAny_isNot_plain h1 ⟨.bl (!k),H,I,by rw[h2];rfl,q.one sB (.bl _)⟩
@[simp] noncomputable def eW:D->Bool
 |.non=>true|.bl _=>true|.int _=>true|.str _=>true
 |_=>false
noncomputable def inD (x:D)(ds:List D):Bool:=ds.any λy=>eqD y x
@[simp] noncomputable def f8:D->Option (List D)
 |.lst ds=>some ds
 |.tup ds=>some ds
 |_=>none
@[simp] noncomputable def dIn:D->D->Option (D×Bool):=λx y=>(f8 y).bind λds=>if eW x=true/\ds.all eW=true then some (.bl (inD x ds),false)else none
@[simp] noncomputable def f9:D->D->Option (D×Bool):=λx y=>(f8 y).bind λds=>if eW x=true/\ds.all eW=true then some (.bl (!inD x ds),false)else none
theorem lS {K:PySem.W.Frag}{B:Hp}{v:V}{d:D}(i:Is K B v d)(h:eW d=true):iV v=true:=by
 cases i<;>first|rfl|(simp[eW]at h)
theorem HC {K:PySem.W.Frag}{B:Hp}{v w:V}{d e:D}(i:Is K B v d)(j:Is K B w e)(h:eW d=true)(h':eW e=true):eqV v w=eqD d e:=by
 cases i<;>(first|(simp[eW]at h;done)|skip)
 all_goals (cases j<;>(first|(simp[eW]at h';done)|skip))
 all_goals (simp only[eqV,eqD,Bool.beq_eq_decide_eq])
theorem sg {K:PySem.W.Frag}{B:Hp}:∀ {vs:List V}{ds:List D},IsL K B vs ds->ds.all eW=true->vs.all iV=true
 |_,_,.nil,_=>rfl
 |_,_,.cons i t,h=>by
  rw[List.all_cons,Bool.and_eq_true]at h;rw[List.all_cons,lS i h.1,sg t h.2];rfl
theorem z4 {K:PySem.W.Frag}{B:Hp}{v:V}{d:D}(j:Is K B v d)(hd:eW d=true):∀ {vs:List V}{ds:List D},IsL K B vs ds->ds.all eW=true->inV v vs=inD d ds
 |_,_,.nil,_=>rfl
 |_,_,.cons i t,h=>by
  rw[List.all_cons,Bool.and_eq_true]at h;have e:=z4 j hd t h.2;unfold inV inD at *;rw[List.any_cons,List.any_cons,e,HC i j h.1 hd]
theorem si:OpR X (compareOp .In) (rD X.K dIn):=by
 refine ga xK λx y H Q q=>?_;obtain⟨B,dx,dy,d,b,sB,ix,iy,e,q⟩:=q;obtain⟨ds,es,e⟩:=oX e;split at e
 ·rename_i hf;cases e
  cases iy<;>simp only[f8]at es<;>try (cases es;done)
  ·rename_i h hl;cases es
   exact⟨_,_,rfl,.inr (aY sB h),lS ix hf.1,sg hl hf.2,by rw[if_neg (by decide),z4 ix hf.1 hl hf.2];exact q.one sB (.bl _)⟩
  ·rename_i h hl;cases es
   exact⟨_,_,rfl,.inl (sB.seq h),lS ix hf.1,sg hl hf.2,by rw[if_neg (by decide),z4 ix hf.1 hl hf.2];exact q.one sB (.bl _)⟩
 ·cases e
theorem lT:OpR X (compareOp .NotIn) (rD X.K f9):=by
 refine ga pP λx y H Q q=>?_;obtain⟨B,dx,dy,d,b,sB,ix,iy,e,q⟩:=q;obtain⟨ds,es,e⟩:=oX e;split at e
 ·rename_i hf;cases e
  cases iy<;>simp only[f8]at es<;>try (cases es;done)
  ·rename_i h hl;cases es
   exact⟨_,_,rfl,.inr (aY sB h),lS ix hf.1,sg hl hf.2,by rw[if_pos rfl,z4 ix hf.1 hl hf.2];exact q.one sB (.bl _)⟩
  ·rename_i h hl;cases es
   exact⟨_,_,rfl,.inl (sB.seq h),lS ix hf.1,sg hl hf.2,by rw[if_pos rfl,z4 ix hf.1 hl hf.2];exact q.one sB (.bl _)⟩
 ·cases e
theorem gm:bootBuiltins "len" = some (.builtin "len"):=PySem.boot_len
theorem qd:bootBuiltins "isinstance" = some (.builtin "isinstance"):=by decide +kernel
theorem G4:bootBuiltins "max" = some (.builtin "max"):=by decide +kernel
theorem G5:bootBuiltins "min" = some (.builtin "min"):=by decide +kernel
theorem G6:bootBuiltins "all" = some (.builtin "all"):=by decide +kernel
theorem Dx:bootBuiltins "int" = some (.type "int"):=by decide +kernel
theorem z5:bootBuiltins "list" = some (.type "list"):=by decide +kernel
theorem BR:bootBuiltins "tuple" = some (.type "tuple"):=by decide +kernel
@[simp] noncomputable def BS:List D->Option (D×Bool)
 |[.int i,.int j]=>some (.int (if j > i then j else i),false)
 |_=>none
@[simp] noncomputable def BT:List D->Option (D×Bool)
 |[.int i,.int j]=>some (.int (if j<i then j else i),false)
 |_=>none
theorem sj {K:PySem.W.Frag}{B:Hp}{xs:List V}{i j:Int}(h:IsL K B xs [.int i,.int j]):xs=[.int i,.int j]:=by
 cases h with
 |cons h1 h2=>cases h1;cases h2 with|cons h3 h4=>cases h3;cases h4;rfl
theorem G7 (hc:X.calm=true:=by rfl):bB X (.builtin "max") (rDA X.K BS):=by
 refine bB.to (xF hc) λxs H Q q=>?_;obtain⟨B,ds,d,b,sB,i,e,q⟩:=q;match ds,e with
 |[.int i',.int j'],e=>simp only[BS]at e;cases e;exact⟨i',j',sj i,q.one sB (.int _)⟩
theorem G8 (hc:X.calm=true:=by rfl):bB X (.builtin "min") (rDA X.K BT):=by
 refine bB.to (xG hc) λxs H Q q=>?_;obtain⟨B,ds,d,b,sB,i,e,q⟩:=q;match ds,e with
 |[.int i',.int j'],e=>simp only[BT]at e;cases e;exact⟨i',j',sj i,q.one sB (.int _)⟩
@[simp] noncomputable def im:D->String
 |.non=>"NoneType" | .bl _=>"bool" | .int _=>"int" | .str _=>"str" | .ty _=>"type" | .tup _=>"tuple" | .lst _=>"list" | .dk _ _=>"dict" | .dt _ _=>"dict"
@[simp] noncomputable def G9:D->Bool
 |.ty _=>true
 |_=>false
@[simp] noncomputable def wg (t n:String):Option (D×Bool) :=
 if n = "int" then some (.bl (t == "int" || t == "bool"),false)else if n = "bool" then some (.bl (t == "bool"),false)else if n = "str" then some (.bl (t == "str"),false)
 else if n = "list" then some (.bl (t == "list"),false)else if n = "tuple" then some (.bl (t == "tuple"),false)else none
@[simp] noncomputable def io:List D->Option (D×Bool)
 |[d,.ty n]=>if G9 d=true then none else wg (im d) n
 |_=>none
theorem BU {pins:List (Addr×Obj)}{σ:St}{H:Hp}{s:Shared}{A:Around}{E:Value->Shared->Prop}{Q:Value->Shared->Prop}{c:Value}{b:Bool}{v:V}{d:D}{u:Value}(I:Inv X pins σ H s)(i:Is X.K H v d)(hd:∀n,d≠.ty n)(rx:aS v u)(e:PySem.W.kitOne X.K (.type (im d)) c=some b)(h:∀tk,Q (.bool b) { s with toks:=tk }):
  wpAny (model X.prog X.w) A (call (.builtin "isinstance") [u,c]) Q E s:=by
 cases i with
 |non=>exact fg I rx .non e h
 |bl y=>exact fg I rx (.bl y) e h
 |int y=>exact fg I rx (.int y) e h
 |str y=>exact fg I rx (.str y) e h
 |ty n=>exact absurd rfl (hd n)
 |dk h1 _ _=>exact fg I rx (.dK h1) e h
 |dt h1 _ _=>exact fg I rx (.dT h1) e h
 |tup ht _=>
  cases rx
  obtain⟨its,_,⟨o,h1,h2,_⟩,_⟩:=I.tuple ht;exact PySem.W.kia_one PySem.W.kitx_tuple I.kIn ⟨o,h1,h2⟩ e (λz=>nomatch z) h
 |lst hl _=>
  cases rx
  obtain⟨its,_,⟨o,n,h1,h2,_⟩,_⟩:=I.list hl;exact PySem.W.kia_one PySem.W.kitx_list I.kIn ⟨o,h1,h2⟩ e (λz=>nomatch z) h
theorem EK (K:PySem.W.Frag)(d:D)(hd:∀n,d≠.ty n):
  PySem.W.kitOne K (.type (im d)) (.type "int")=some (im d == "int" || im d == "bool")/\PySem.W.kitOne K (.type (im d)) (.type "bool")=some (im d == "bool")/\PySem.W.kitOne K (.type (im d)) (.type "str")=some (im d == "str") /\
   PySem.W.kitOne K (.type (im d)) (.type "list")=some (im d == "list")/\PySem.W.kitOne K (.type (im d)) (.type "tuple")=some (im d == "tuple"):=by
 cases d<;>(first|exact absurd rfl (hd _)|skip)
 all_goals (simp only[im];refine⟨?_,?_,?_,?_,?_⟩<;>kernel_rfl)
theorem qe:bB X (.builtin "isinstance") (rDA X.K io):=by
 intro pins s σ H xs us Q I rs q;obtain⟨B,ds,d,b,sB,i,e,q⟩:=q;match ds,i,e with
 |[dx,.ty n],.cons i1 (.cons i2 .nil),e=>
  obtain⟨u1,u2,rfl,r1,r2⟩:=yR rs;cases i2
  cases r2
  simp only[io]at e;split at e
  ·cases e
  ·rename_i ht;have hd:∀n,dx≠.ty n:=λn z=>by subst z;exact ht rfl
   obtain⟨k1,k2,k3,k4,k5⟩:=EK X.K dx hd;have fin:∀ {k:Bool},PySem.W.kitOne X.K (.type (im dx)) (.type n)=some k->Fin X.K B H (.bl k) false Q->wpAny (model X.prog X.w) X.A (call (.builtin "isinstance") [u1,.type n]) (EP X pins σ Q) X.xe s:=λ{k} hk q=>
    BU I (i1.mono sB) hd r1 hk λtk=>⟨.bl k,H,I.tok tk,rfl,q.one sB (.bl k)⟩
   unfold wg at e;split at e
   ·rename_i z;subst z;cases e;exact fin k1 q
   split at e
   ·rename_i z;subst z;cases e;exact fin k2 q
   split at e
   ·rename_i z;subst z;cases e;exact fin k3 q
   split at e
   ·rename_i z;subst z;cases e;exact fin k4 q
   split at e
   ·rename_i z;subst z;cases e;exact fin k5 q
   ·cases e
@[simp] noncomputable def HV:D->Option (D×Bool)
 |.int i=>some (.int (Builtin.Int.intBits i),false)
 |_=>none
@[simp] noncomputable def z6 (f:FE):FA:=λρ=>(f ρ).bind λx=>f8 x.1
theorem wj {tg:Expr}{f:FE}(h:JE X e f):JI X tg e (z6 f):=by
 intro pins s σ H R I q;obtain⟨B,ρ,ds,sB,r,e',q⟩:=q;obtain⟨x,ex,es⟩:=oX e';obtain⟨xd,xb⟩:=x;cases xd<;>simp only[f8]at es<;>try (cases es;done)
 ·cases es
  refine Ec h pins s σ H R I ⟨B,ρ,_,_,sB,r,ex,λv H1 N1 x1 i1 _=>?_⟩;cases i1 with
  |@tup a vs _ ht hl=>
   refine⟨a,rfl,⟨vs,aY x1.nh ht⟩,q _ H1 N1 x1 λi H2 s2=>⟨λd ed=>?_,λhlen=>⟨vs,aY s2 ht,by rw[hl.length];exact hlen⟩⟩⟩;obtain⟨v,ev,iv⟩:=hl.get ed;refine⟨⟨vs,v,aY s2 ht,ev⟩,λy H3 hy=>?_⟩;obtain⟨rfl,hy⟩:=hy;have:=hy vs (aY s2 ht);rw[ev]at this;cases this;exact⟨N1,.refl s2,iv⟩
 ·cases es
  refine Bm h pins s σ H R I ⟨B,ρ,_,_,sB,r,ex,λv H1 N1 x1 i1 _=>?_⟩;cases i1 with
  |@lst a vs _ ht hl=>
   refine⟨a,rfl,⟨vs,x1.nh.seq ht⟩,q _ H1 N1 x1 λi H2 s2=>⟨λd ed=>?_,λhlen=>⟨vs,s2.seq ht,by rw[hl.length];exact hlen⟩⟩⟩;obtain⟨v,ev,iv⟩:=hl.get ed;refine⟨⟨vs,v,s2.seq ht,ev⟩,λy H3 hy=>?_⟩;obtain⟨rfl,hy⟩:=hy;have:=hy vs (s2.seq ht);rw[ev]at this;cases this;exact⟨N1,.refl s2,iv⟩
noncomputable def de (lo:Int)(n:Nat):List D:=(List.range n).map λ(k:Nat)=>.int (lo+(k:Int))
theorem sk {K:PySem.W.Frag}{B:Hp}(lo:Int)(n:Nat):nW K (Itr lo n) B (de lo n):=by
 intro i H s;unfold de;refine⟨λd ed=>?_,λhl=>by rw[List.length_map,List.length_range]at hl;exact hl⟩;rw[List.getElem?_map]at ed;obtain⟨k,ek,ed⟩:=oY ed;have hk:=List.getElem?_eq_some_iff.mp ek;obtain⟨hlt,hk⟩:=hk;rw[List.length_range]at hlt;rw[List.getElem_range]at hk;subst hk;subst ed;refine⟨hlt,λx H' hy=>?_⟩;obtain⟨rfl,rfl⟩:=hy;exact⟨B,.refl s,.int _⟩
@[simp] noncomputable def dB (f:FE):FA:=λρ=>match f ρ with
 |some (.int j,_)=>if -1000<=j/\j<=1000 then some (de 0 j.toNat)else none
 |_=>none
theorem gn {tg:Expr}{f:FE}(hm:X.mg "range" = none)(h:JE X a f)(hg:Gl X "range":=by rfl)(hs:starEach [a] X.env=[(false,eval a X.env)]:=by rfl):PI X tg (.Call (.Name "range" p) [a] [] pos) (tDR X.K (dB f)):=by
 refine PI.to (xB hg hm (aa h af hs) hs) λσ H R q=>?_;obtain⟨B,ρ,ds,sB,r,e',q⟩:=q;unfold dB at e';split at e'
 ·rename_i j b' ef;split at e'
  ·rename_i hj;cases e'
   refine⟨B,ρ,[.int j],sB,r,by simp[ac,ah,ef],λvs H1 N1 x1 i1=>?_⟩;cases i1 with
   |cons i1 i2=>
    cases i1;cases i2
    exact⟨j,rfl,by omega,by omega,q _ H1 N1 x1 λ_=>sk 0 j.toNat⟩
  ·cases e'
 ·cases e'
theorem sn {tg:Expr}{f:FE}(hm:X.mg "range" = none)(h:JE X a f)(hg:Gl X "range":=by rfl)(hs:starEach [a] X.env=[(false,eval a X.env)]:=by rfl):JI X tg (.Call (.Name "range" p) [a] [] pos) (dB f) :=
 PI.to (gn hm h hg hs) λσ H R ⟨B,ρ,ds,sB,r,e',q⟩=>⟨B,ρ,ds,sB,r,e',λJ H' N x h=>q J H' N x (h _)⟩
end
def Def (K:PySem.W.Frag)(x:Str)(st:Stmt):Prop:=∃(f:Addr)(fd:FuncData),Fun K x x st f fd/\PySem.W.nsIn K mainGlobals x=some (some (.ref f))
theorem def_mk {K:PySem.W.Frag}{x:Str}{st:Stmt}{f:Addr}{oc:Value}{od an:Option Addr}{osl:Array (Option Value)}{kV doc pm cdv ct:Value}(a:PySem.W.nsIn K mainGlobals x=some (some (.ref f)))
  (l:K.lookup f=some ⟨oc,od,.func (PySem.W.fnOf x x (eB st) (bW st) (aN st) .none kV doc pm an cdv ct),osl⟩) (c:PySem.W.codeIn K cdv x=true) (k:PySem.W.keepIn K (.ref f)=true):Def K x st:=⟨f,_,Ev l c k,a⟩
section
variable {P:Program}{w:World}{K:PySem.W.Frag}{mg:Str->Option Value}{base:Heap}
theorem Def.fn {x:Str}{st:Stmt}{N ps:List Str}{k:Nat}{g:FS}{h:Heap}(F:Def K x st)(X:K.In h)(G:h.Ns mainGlobals mg)(S:FnScope N ps (aN st))
  (hbd:∀(kV doc pm:Value)(an:Option Addr)(cdv ct:Value)(us:List Value),us.length=ps.length->bindArgs (PySem.W.fnOf x x (eB st) (bW st) (aN st) .none kV doc pm an cdv ct) ⟨us,[]⟩=pure (ps.zip us))
  (hb:∀(f:Addr)(cdv:Value)(A:Around)(outer:List PySem.Env)(s:Shared)(H:Hp)(E:XK),Room k (A.deeper (envOfC x (aN st) s.heap.objs.size f cdv))->JSs (lu CX0 P w K mg base N x (aN st) f cdv A outer s H E).nox (bW st) g):
  Fn P w K mg base (k+1) x (aO g ps.length (N.length - ps.length)):=by
 obtain⟨f,fd,F1,a⟩:=F;exact⟨f,fd,ps,G1 F1 S (hb f),PySem.W.mg_of X G a,F1.kp,F1.binds hbd⟩
end
def GA (H:Hp):Prop:=∀b,H b=none∨(∃o xs,H b=some (.frz o (.lst xs)))∨∃q,H b=some (.tbl q)
noncomputable def lU (tabs:List (Addr×Str))(G:Hp):Hp:=λb=>match tabs.lookup b with|some q=>some (.tbl q)|none=>G b
theorem eJ {tabs:List (Addr×Str)}{G:Hp}{b:Addr}{q:Str}(e:tabs.lookup b=some q):lU tabs G b=some (.tbl q):=by unfold lU;rw[e]
theorem gp {tabs:List (Addr×Str)}{G:Hp}{b:Addr}(e:tabs.lookup b=none):lU tabs G b=G b:=by unfold lU;rw[e]
theorem xT {P:Program}{w:World}{K:PySem.W.Frag}{mg mb:Str->Option Value}{k:Nat}{fa a:Addr}{fd:FuncData}{x:Str}{sp:Sp}{s₁:Shared}{vs:List Value}{ns:List Int}(tabs:List (Addr×Str))
  (ht:∀b q,tabs.lookup b=some q->s₁.heap.get? b=some (PySem.W.tabObj #[])/\isCodeTable s₁.heap b) (hnt:PySem.W.noTabs K=true)
  (KX:K.In s₁.heap) (hns:s₁.heap.Ns mainGlobals mg) (hb:s₁.heap.Ns builtinsNs mb) (hbb:∀x:Str,x ≠ "__name__"->mb x=bootBuiltins x) (hlim:s₁.heap.NoLimit)
  (hbm:∃bm ob,mg "__builtins__" = some (.ref bm)/\bm≠builtinsNs/\s₁.heap.get? bm=some ob/\ob.cls=.type "module"/\ob.dict=some builtinsNs/\ob.data=.plain) (hg:s₁.gens=#[])
  (ha:s₁.heap.get? a=some { cls:=.type "list",data:=.seq vs.toArray }) (hi:IntsAre vs ns) (hl:ns.length<=sizeLine) (hr:Room k callerA)
  (F:∀base:Heap,K.In base->base.Ns mainGlobals mg->FnOk P w K mg base CX0 k fa fd [x] sp) (hbind:∀(s:Shared)(u:Value),BindsTo s fd ⟨[u],[]⟩ [(x,u)])
  (hsp:∀H:Hp,(∀b q,tabs.lookup b=some q->H b=some (.tbl q))->SqL K H a (ns.map V.int)->sp [.ref a] H (λv _=>v=.bl true) λ_ _ _=>False):
  codeAny (model P w) callerA (.call (.ref fa) ⟨[.ref a],[]⟩) (λr s'=>r=.ok (.ret (.bool true))/\OldK s₁.heap s'.heap/\s'.os=s₁.os/\AllBare s'.gens) s₁:=by
 have rv:=L2.iH hi;have lenV:=hi.length;have core:∀H:Hp,GA H->(∀b q,tabs.lookup b=some q->H b=some (.tbl q))->SqL K H a (ns.map V.int)->HOk P w H s₁.heap->(∀b q,H b=some (.tbl q)->s₁.heap.get? b=some (PySem.W.tabObj #[])/\isCodeTable s₁.heap b) ->
   (∀b o u,H b=some (.frz o u)->b=a)->(∀b o u,H b=some (.frz o u)->K.lookup b=none) ->
   codeAny (model P w) callerA (.call (.ref fa) ⟨[.ref a],[]⟩) (λr s'=>r=.ok (.ret (.bool true))/\OldK s₁.heap s'.heap/\s'.os=s₁.os/\AllBare s'.gens) s₁:=by
  intro H hO hT hS hok hA hB hK;have noA:∀ {b:Addr}{o:Obj},s₁.heap.get? b=some o->(o.cls≠.none)->(o.cls≠.type "list")->H b=none:=λ{b o} e d d'=>by
   rcases hO b with q|⟨ob,xs,q⟩|⟨u,q⟩
   ·exact q
   ·have e':b=a:=hB b _ _ q;subst e';rw[ha]at e;cases e;exact absurd rfl d'
   ·rw[(hA b u q).1]at e;cases e;exact absurd rfl d
  have noD:∀ {b:Addr}{o:Obj}{es:Array DictEntry}{ep:Nat},s₁.heap.get? b=some o->o.data=.dict es ep->H b=none:=λ{b o es ep} e d=>by
   rcases hO b with q|⟨ob,xs,q⟩|⟨u,q⟩
   ·exact q
   ·have e':b=a:=hB b _ _ q;subst e';rw[ha]at e;cases e;cases d
   ·rw[(hA b u q).1]at e;cases e;cases d
  have nsK:∀ {b:Addr}{m:Str->Option Value},s₁.heap.Ns b m->(rz s₁.heap H).Ns b m:=λ{b m} ⟨o,es,ep,e,d,r⟩=>⟨o,es,ep,lJ e (noD e d),d,r⟩;have hKb:K.In (rz s₁.heap H):=λb o e=>lJ (KX b o e) (by
   rcases hO b with q|⟨ob,xs,q⟩|⟨u,q⟩
   ·exact q
   ·rw[hK b _ _ q]at e;cases e
   ·have z:=(hA b u q).1;rw[KX b o e]at z;cases z
    have:=List.all_eq_true.mp hnt _ (PySem.W.mem_of_lookupK e);simp at this)
  have hM:Mod K mg (rz s₁.heap H):=⟨hKb,nsK hns,⟨mb,nsK hb,hbb⟩,let ⟨mc,h1,h2⟩:=hlim;⟨mc,nsK h1,h2⟩,by
   obtain⟨bm,ob,b1,b2,b3,b4,b5⟩:=hbm;exact⟨bm,ob,b1,b2,lJ b3 (noA b3 (by rw[b4];exact λz=>nomatch z) (by rw[b4];intro z;injection z with z;exact absurd z (by decide))),b4,b5⟩⟩
  have e0:Env0 P w K mg (rz s₁.heap H) callerA [] s₁ H:=⟨rfl,hM,λb o e=>Bf e,Nat.le_of_eq (xy _ _),trivial,λb hb=>absurd (show b∈([]:List Addr)from hb) (by simp),hok,.of_eq hg⟩;refine codeAny_mono ((F _ hKb (nsK hns)).run callerA [] s₁ H ⟨[.ref a],[]⟩ [.ref a] [.ref a] _ _ hr e0 (hbind s₁ (.ref a)) (.cons rfl .nil) (hsp H hT hS)) λr s' h=>?_;cases r with
  |error e=>exact False.elim h
  |ok fl=>
   cases fl with
   |next=>exact False.elim h
   |brk=>exact False.elim h
   |cont=>exact False.elim h
   |ret u=>
    obtain⟨v,H',os,bare,un,hok',r',q⟩:=h;have q':v=.bl true:=q;subst q';obtain rfl:u=Value.bool true:=r';have kp:∀b o,H b=none->s₁.heap.get? b=some o->s'.heap.get? b=some o:=λb o n e=>un.keep b o e n (by intro z;exact absurd (show b∈([]:List Addr)from z) (by simp)) (by simp);refine⟨rfl,⟨λb o e=>?_,λb o e=>un.there b o e (by simp)⟩,os,bare⟩;rcases hO b with z|⟨ob,xs,z⟩|⟨u,z⟩
    ·exact .inl (kp b o z e)
    ·have z2:=un.frzs b ob _ z;obtain⟨e1,_⟩:=hok b _ z;obtain⟨e2,_⟩:=hok' b _ z2;rw[e]at e1;cases e1;exact .inl e2
    ·obtain⟨e1,e2⟩:=hA b u z;rw[e]at e1;cases e1;obtain⟨ps,e3,_⟩:=hok' b _ (un.tbls b u z);exact .inr (.inl ⟨e2,rfl,#[],ps,rfl,by simpa using e3⟩)
 have tabNot:∀q,tabs.lookup a≠some q:=λq z=>by
  have:=(ht a q z).1;rw[ha]at this;cases this
 have ta:tabs.lookup a=none:=by
  cases z:tabs.lookup a with
  |none=>rfl
  |some q=>exact absurd z (tabNot q)
 have tabOk:∀(G:Hp) b q,tabs.lookup b=some q->bz P w (lU tabs G) s₁.heap b (.tbl q):=λG b q z=>⟨#[],(ht b q z).1,trivial,λpos cv c=>by cases c⟩;cases hk:K.lookup a with
 |some o=>
  have e:=KX a o hk;rw[ha]at e;cases e
  refine core (lU tabs λ_=>none) (λb=>?_) (λb q z=>eJ z) (.inr ⟨_,vs.toArray,_,hk,rfl,rfl,rfl,by rw[List.size_toArray,lenV];exact hl,by simpa using rv⟩) (λb u z=>?_) (λb q z=>?_) (λb o u z=>?_) λb o u z=>?_
  all_goals cases zt:tabs.lookup b with
   |none=>first|exact .inl (gp zt)|(rw[gp zt]at z;cases z)
   |some q'=>first|exact .inr (.inr ⟨q',eJ zt⟩)|(rw[eJ zt]at z;cases z;done)|(rw[eJ zt]at z;cases z;first|exact tabOk _ b _ zt|exact ht b _ zt)
 |none=>
  refine core (lU tabs λb=>if b=a then some (.frz { cls:=.type "list",data:=.seq vs.toArray } (.lst (ns.map V.int)))else none) (λb=>?_) (λb q z=>eJ z) (.inl (.inr ⟨{ cls:=.type "list",data:=.seq vs.toArray },by rw[gp ta,if_pos rfl]⟩)) (λb u z=>?_) (λb q z=>?_) (λb o u z=>?_) λb o u z=>?_
  all_goals cases zt:tabs.lookup b with
   |some q'=>first|exact .inr (.inr ⟨q',eJ zt⟩)|(rw[eJ zt]at z;cases z;done)|(rw[eJ zt]at z;cases z;first|exact tabOk _ b _ zt|exact ht b _ zt)
   |none=>
    first
    |rw[gp zt]at z
    |rw[gp zt]
    by_cases hb:b=a
    ·first
     |rw[if_pos hb]at z
     |rw[if_pos hb]
     first
     |exact .inr (.inl ⟨_,_,rfl⟩)
     | (cases z;subst hb;exact⟨ha,by rw[List.length_map];exact hl,vs,_,rv,ha⟩)
     |exact hb
     | (rw[hb];exact hk)
     |cases z
    ·first
     | (rw[if_neg hb]at z;cases z)
     |exact .inl (if_neg hb)
noncomputable def qg (L:List (Str×Option (Addr×Addr))):List (Addr×Str):=L.filterMap λp=>p.2.map λq=>(q.2,lN p.1)
structure TabsFit (K:PySem.W.Frag)(L:List (Str×Option (Addr×Addr))):Prop where
 names:L=j0.map λx=>(x,PySem.W.tabIn K x)
 apart:((qg L).map (·.1)).Nodup
 none:PySem.W.noTabs K=true
theorem iY {α β:Type}[BEq α][LawfulBEq α]:∀ {l:List (α×β)}{a:α}{b:β},(l.map (·.1)).Nodup->(a,b)∈l->l.lookup a=some b
 | (c,d)::l,a,b,nd,h=>by
  rw[List.lookup_cons];rcases List.mem_cons.mp h with e|h
  ·cases e;simp
  ·have ne:a≠c:=λz=>(List.nodup_cons.mp nd).1 (by rw[←z];exact List.mem_map.mpr ⟨(a,b),h,rfl⟩);rw[show(a == c)=false by simpa using ne];exact iY (List.nodup_cons.mp nd).2 h
theorem iq {α β:Type}[BEq α][LawfulBEq α]:∀ {l:List (α×β)}{a:α}{b:β},l.lookup a=some b->(a,b)∈l
 | (c,d)::l,a,b,h=>by
  rw[List.lookup_cons]at h;cases e:a == c with
  |true=>rw[e]at h;cases h;rw[eq_of_beq e];exact mX
  |false=>rw[e]at h;exact mZ _ (iq h)
theorem TabsFit.tb {K:PySem.W.Frag}{L:List (Str×Option (Addr×Addr))}(F:TabsFit K L){H:Hp}(h:∀b q,(qg L).lookup b=some q->H b=some (.tbl q)):Tb K H:=λx hx c P e=>by
 refine h P (lN x) (iY F.apart ?_);rw[F.names];exact List.mem_filterMap.mpr ⟨(x,PySem.W.tabIn K x),List.mem_map.mpr ⟨x,hx,rfl⟩,by rw[e];rfl⟩
theorem tab_yes {K:PySem.W.Frag}{x:Str}{f c P:Addr}{oc oc':Value}{od od':Option Addr}{osl osl':Array (Option Value)}{fd:FuncData}{vs:Array Value}(e1:PySem.W.nsIn K mainGlobals x=some (some (.ref f)))(e2:K.lookup f=some ⟨oc,od,.func fd,osl⟩)(e3:fd.code=.ref c)
  (e4:K.lookup c=some ⟨oc',od',.fields vs,osl'⟩) (e5:vs[11]? = some (.ref P)):PySem.W.tabIn K x=some (c,P):=by unfold PySem.W.tabIn;simp only[e1,e2,e3,e4,e5]
theorem tabs_fit {K:PySem.W.Frag}{t0 t1 t2 t3:Option (Addr×Addr)}(h0:PySem.W.tabIn K "in_order" = t0)(h1:PySem.W.tabIn K "has_seal" = t1)(h2:PySem.W.tabIn K "is_first_death" = t2)(h3:PySem.W.tabIn K "bases_by" = t3)
  (ap:((qg [("in_order",t0),("has_seal",t1),("is_first_death",t2),("bases_by",t3)]).map (·.1)).Nodup) (nt:PySem.W.noTabs K=true):TabsFit K [("in_order",t0),("has_seal",t1),("is_first_death",t2),("bases_by",t3)] :=
 ⟨by subst h0;subst h1;subst h2;subst h3;rfl,ap,nt⟩
theorem walkD {l:PySem.W.OpenLaw}{q:Program}{loose:List Str}{XP:(Str->Option Value)->Heap->Prop}{YP:World->Heap->Prop}{d:DefRec}{K:Params->PySem.W.Frag}{k:Nat}{x:Str}{f:List D->Option (D×Bool)}{L:List (Str×Option (Addr×Addr))}(hn:l.most=some 63)(hdf:d.params.defaults=[])(hr:Room k callerA)
  (hY:∀(w:World)(h:Heap),YP w h->(K w.params).In h) (hT:∀w:World,TabsFit (K w.params) L) (hD:(L.all λp=>p.2.isNone || ((recsOf q).find? λe=>e.name == p.1).isSome)=true)
  (F:∀(w:World)(mg:Str->Option Value)(fa:Addr)(h:Heap),(K w.params).In h->h.Ns mainGlobals mg->mg d.name=some (.ref fa) ->
   ∃fd:FuncData,(∀(s:Shared)(u:Value),BindsTo s fd ⟨[u],[]⟩ [(x,u)])/\∀base:Heap,(K w.params).In base->base.Ns mainGlobals mg->FnOk l.prog w (K w.params) mg base CX0 k fa fd [x] (spD (K w.params) f))
  (ht:∀ns:List Int,ns.length<=63->∃b,f [.lst (ns.map .int)]=some (.bl true,b)):PySem.W.WalkO q loose XP YP l.row.toRowW d [] (λf vs=>PySem.call f vs):=by
 refine Att.rF hn hdf λw s₀ s₁ mg mb fa o pm cd doc a vs ns G Y ho hd hcd hmg hobj hints hlen hg=>?_;have KX:=hY w _ Y;obtain⟨fd,hb,hF⟩:=F w mg fa _ KX G.T.g hmg;refine xT (qg L) (λb u e=>?_) (hT w).none KX G.T.g G.T.b G.T.builtins G.T.nolimit G.T.bmain hg hobj hints (Nat.le_trans hlen (by decide)) hr hF hb λH hH hS=>?_
 ·obtain⟨p,hp,e2⟩:=List.mem_filterMap.mp (iq e);obtain⟨⟨c,P⟩,e3,e4⟩:=oY e2;cases e4
  have hp':=List.all_eq_true.mp hD p hp;rw[e3]at hp';rw[Option.isNone_some,Bool.false_or]at hp';obtain⟨r,hr'⟩:=Option.isSome_iff_exists.mp hp';have ht':PySem.W.tabIn (K w.params) p.1=some (c,P):=by
   rw[(hT w).names]at hp;obtain⟨y,_,rfl⟩:=List.mem_map.mp hp;exact e3
  obtain⟨h1,h2⟩:=PySem.W.tab_of G.T KX hr' ht';exact⟨h2,(h1.tab h2).isCodeTable⟩
 ·obtain⟨b,e⟩:=ht ns hlen;exact⟨H,_,_,b,⟨.refl H,(hT w).tb hH⟩,.cons (.lst hS (.flat rfl)) .nil,e,λv H' N x' i' _=>by cases i';rfl⟩
theorem Def.law {P:Program}{w:World}{K:PySem.W.Frag}{mg:Str->Option Value}{x y:Str}{st:Stmt}{N:List Str}{k:Nat}{g:FS}{h:Heap}{fa:Addr}(F:Def K x st)(X:K.In h)(G:h.Ns mainGlobals mg)(hfa:mg x=some (.ref fa))(S:FnScope N [y] (aN st))
  (hbd:∀(kV doc pm:Value)(an:Option Addr)(cdv ct:Value)(u:Value),bindArgs (PySem.W.fnOf x x (eB st) (bW st) (aN st) .none kV doc pm an cdv ct) ⟨[u],[]⟩=pure [(y,u)])
  (hb:∀(base:Heap),K.In base->base.Ns mainGlobals mg->∀(f:Addr)(cdv:Value)(A:Around)(outer:List PySem.Env)(s:Shared)(H:Hp)(E:XK),Room k (A.deeper (envOfC x (aN st) s.heap.objs.size f cdv))->JSs (lu CX0 P w K mg base N x (aN st) f cdv A outer s H E).nox (bW st) g):
  ∃fd:FuncData,(∀(s:Shared)(u:Value),BindsTo s fd ⟨[u],[]⟩ [(y,u)])/\∀base:Heap,K.In base->base.Ns mainGlobals mg->FnOk P w K mg base CX0 (k+1) fa fd [y] (spD K (aO g 1 (N.length - 1))):=by
 obtain⟨f,fd,F1,a⟩:=F;have e:=hfa.symm.trans (PySem.W.mg_of X G a);cases e
 refine⟨fd,λs u=>?_,λbase kb nb=>G1 F1 S (hb base kb nb _)⟩;obtain⟨oc,od,kV,doc,pm,an,cdv,ct,osl,rfl,lk,hcd⟩:=F1.ex;exact .of_eq (hbd kV doc pm an cdv ct u)
section
variable {X:Cx}{a b e:Expr}{pos:Pos}{x:Str}{p:Pos}
@[simp] noncomputable def z7:D->D->Option (D×Bool)
 |.lst xs,.lst ys=>if xs.length+ys.length<=sizeLine then some (.lst (xs++ys),true)else none
 |_,_=>none
theorem EL:OpR X (binaryOp .Add) (rD X.K z7):=by
 intro pins s σ H x y v u Q I rx ry q;obtain⟨B,dx,dy,d,bb,sB,ix,iy,ee,q⟩:=q;cases ix<;>cases iy<;>try (simp[z7]at ee;done)
 rename_i l vs ds h hl l' ws es h' hl';simp only[z7]at ee;split at ee
 ·rename_i hz;cases ee
  cases rx
  cases ry
  obtain⟨its,r1,p1,z1⟩:=I.list (sB.seq h);obtain⟨jts,r2,p2,z2⟩:=I.list (sB.seq h');obtain⟨⟨c1,d1,t1,s1⟩,o1,e1,n1,k1⟩:=p1.isList;obtain⟨⟨c2,d2,t2,s2⟩,o2,e2,n2,k2⟩:=p2.isList;dsimp only at e1 k1 e2 k2;subst e1;subst k1;subst e2;subst k2;have hsz:its.toArray.size+jts.toArray.size<=sizeLine:=by
   rw[List.size_toArray,List.size_toArray,←r1.length,←r2.length,hl.length,hl'.length];exact hz
  have ea:its.toArray++jts.toArray=(its++jts).toArray:=by simp
  refine concat_meets ⟨_,o1,rfl⟩ ⟨_,o2,rfl⟩ noFill_list_add seq_list_add PySem.F.slot_list_add PySem.F.entry_list_add (PySem.F.args_list_add_2 _ _) (list_addW l l' its.toArray jts.toArray n1 n2 d1 d2 s1 s2 hsz) ⟨o1,o2,?_⟩;rw[ea];have xt:=Ext.laid (o:=.lst (vs++ws)) sB I.fresh;have il:=(hl.append hl').mono xt.bn;exact⟨.ref s.heap.objs.size,_,I.lnew (t':=s.toks) (r1.append r2) (by rw[List.length_append,hl.length,hl'.length];exact hz),rfl,q _ _ _ xt (.lst (SqL.of aF) il) λ_=>⟨_,_,_,rfl,rfl,I.fresh,aF,il⟩⟩
 ·cases ee
@[simp] noncomputable def lV:D->D->Option (D×Bool)
 |.tup xs,.tup ys=>if xs.length+ys.length<=sizeLine/\xs.isEmpty=false then some (.tup (xs++ys),false)else none
 |_,_=>none
theorem z8:OpR X (binaryOp .Add) (rD X.K lV):=by
 refine ga Bz λx y H Q q=>?_;obtain⟨B,dx,dy,d,bb,sB,ix,iy,ee,q⟩:=q;cases ix<;>cases iy<;>try (simp[lV]at ee;done)
 rename_i l vs ds h hl l' ws es h' hl';simp only[lV]at ee;split at ee
 ·rename_i hz;cases ee
  have l1:=hl.length;have l2:=hl'.length;refine⟨l,l',vs,ws,rfl,rfl,aY sB h,aY sB h',λz=>?_,by omega,λz=>?_,λ_ pp hp=>?_⟩
  ·subst z;cases hl
   simp at hz
  ·subst z;cases hl'
   rw[List.append_nil]at q;exact q.one sB (.tup h hl)
  ·have xt:=Ext.laid (o:=.tup (vs++ws)) sB hp;exact q _ _ _ xt (.tup (SqT.of aF) ((hl.append hl').mono xt.bn)) (by simp)
 ·cases ee
@[simp] noncomputable def xU:D->D->Option (D×Bool)
 |.bl i,.int j=>some (.int ((if i=true then 1 else 0)+j),false)
 |.int i,.bl j=>some (.int (i+b2i j),false)
 |_,_=>none
theorem EM:OpR X (binaryOp .Add) (rD X.K xU):=by
 intro pins s σ H x y v u Q I rx ry q;obtain⟨B,dx,dy,d,bb,sB,ix,iy,ee,q⟩:=q;cases ix<;>cases iy<;>try (simp[xU]at ee;done)
 ·simp only[xU]at ee;cases ee
  cases rx
  obtain⟨t,rfl⟩:=ry;exact IntBool.add_bool_int ⟨.int _,H,I.tok _,⟨_,rfl⟩,q.one sB (.int _)⟩
 ·simp only[xU]at ee;cases ee
  exact xE pins s σ H _ _ v u Q I rx ry ⟨_,_,rfl,rfl,q.one sB (.int _)⟩
@[simp] noncomputable def bv:D->D->Option (D×Bool)
 |.int i,.int j=>some (.int (i+j),false)
 |.str i,.str j=>if i.length+j.length<=sizeLine then some (.str (i++j),false)else none
 |.lst xs,.lst ys=>if xs.length+ys.length<=sizeLine then some (.lst (xs++ys),true)else none
 |.tup xs,.tup ys=>if xs.length+ys.length<=sizeLine/\xs.isEmpty=false then some (.tup (xs++ys),false)else none
 |.bl i,.int j=>some (.int ((if i=true then 1 else 0)+j),false)
 |.int i,.bl j=>some (.int (i+b2i j),false)
 |_,_=>none
theorem aX:OpR X (binaryOp .Add) (rD X.K bv):=by
 refine ga (r:=rD X.K (orD wc (orD z7 (orD lV xU)))) (kj BQ (kj EL (kj z8 EM))) λx y H Q q=>?_;obtain⟨B,dx,dy,d,bb,sB,ix,iy,ee,q⟩:=q;refine⟨B,dx,dy,d,bb,sB,ix,iy,?_,q⟩;cases dx<;>cases dy<;>simp[bv]at ee<;>simp[orD,wc,z7,lV,xU,ee]
@[simp] noncomputable def blD:D->Option Bool
 |.bl b=>some b
 |_=>none
noncomputable def sr:List D->Option (List Bool)
 |[]=>some []
 |d::ds=>(blD d).bind λb=>(sr ds).map (b :: ·)
@[simp] theorem GB:sr []=some []:=rfl
@[simp] theorem xV (d:D)(ds:List D):sr (d::ds)=(blD d).bind λb=>(sr ds).map (b :: ·):=rfl
theorem wl {K:PySem.W.Frag}{B:Hp}:∀ {vs:List V}{ds:List D}{bs:List Bool}{its:List Value},L2.aT vs its->IsL K B vs ds->sr ds=some bs->its=bs.map Value.bool
 |_,_,_,_,.nil,.nil,e=>by cases e;rfl
 |_,_,_,_,.cons r rr,.cons i ii,e=>by
  rw[xV]at e;obtain⟨b,e1,e⟩:=oX e;obtain⟨bs,e2,e⟩:=oY e;subst e;cases i<;>simp only[blD]at e1<;>try (cases e1;done)
  cases e1
  cases r
  rw[wl rr ii e2];rfl
@[simp] noncomputable def GC:List D->Option (D×Bool)
 |[.lst ds]=>(sr ds).map λbs=>(.bl (bs.all id),false)
 |_=>none
@[simp] noncomputable def Ic:List D->Option (D×Bool)
 |[.lst ds]=>(sr ds).map λbs=>(.bl (bs.any id),false)
 |_=>none
theorem GD (hc:X.calm=true:=by rfl):bB X (.builtin "all") (rDA X.K GC):=by
 intro pins s σ H xs us Q I rs q;obtain⟨B,ds,d,bb,sB,i,ee,q⟩:=q;match ds,i,ee with
 |[.lst es],.cons i1 .nil,ee=>
  obtain⟨bs,eb,ee⟩:=oY ee;cases ee
  obtain⟨u1,rfl,r1⟩:=ge rs;cases i1 with
  |@lst l vs _ h hl=>
   cases r1
   obtain⟨its,rv,p1,z1⟩:=I.list (sB.seq h);have ei:=wl rv hl eb;have hlt:l<s.heap.objs.size:=by obtain⟨_,e0,_⟩:=p1.isList;exact Heap.lt_size e0
   refine call_all_walk (wpAny_pyIter_list p1.isList ⟨_,_,_,_,_,_,λj=>(bs[j]?).getD true,rfl,Walks.list (A:=X.A.in1) (I.ok.hd hc) s.heap.objs.size l (Nat.ne_of_lt hlt) its.toArray,⟨⟨_,Heap.get?_push_size _ rfl,rfl,rfl⟩,p1.isList.push _⟩,λj v s' Q' E' hP hQ=>?_,λh' tk hk=>?_⟩)
   ·have hP':its[j]? = some v:=by simpa using hP
    rw[ei,List.getElem?_map]at hP';obtain⟨c,e1,e2⟩:=oY hP';subst e2;dsimp only at hQ;rw[e1]at hQ;exact wpAny_truthy_bool hQ
   ·have ea:((List.range its.toArray.size).all λj=>(bs[j]?).getD true)=bs.all id:=by
     rw[List.size_toArray,ei,List.length_map];exact LSm.range_all bs
    rw[ea];refine⟨.bl _,H,I.kept λc o e0=>?_,rfl,q.one sB (.bl _)⟩;exact hk c o (λhm=>by rw[List.mem_singleton.mp hm]at e0;exact Nat.lt_irrefl _ (Heap.lt_size e0)) (Heap.get?_push_of_some _ e0)
end
noncomputable def Its (z:Str):It:=⟨λi _=>i<z.cps.size,λi H v H'=>H'=H/\∃c,z.cps[i]? = some c/\v=.str ⟨#[c]⟩,λi _=>z.cps.size<=i⟩
theorem su {P:Program}{w:World}{K:PySem.W.Frag}{tg:Expr}(z:Str)(t:Tok)(it:Addr):Turn P w K tg (Its z) [it] it (λi h=>h.IsStrIter it "str_ascii_iterator" z t i) where
 mem:=List.mem_singleton.mpr rfl
 obj:=λi h st b hb=>by
  have eb:=List.mem_singleton.mp hb;subst eb;obtain⟨o,e1,_,d1⟩:=st;exact⟨o,e1,λv zz=>by rw[d1]at zz;cases zz⟩
 keep:=λi h h' st k=>let ⟨o,e1,r⟩:=st;⟨o,k it (List.mem_singleton.mpr rfl) o e1,r⟩
 item:=by
  intro X hP hw hK hc i pins s σ H E I hf st hg;subst hP hw hK;have hg':i<z.cps.size:=hg;obtain⟨f0,f1,f2,f3,f4,f5⟩:=hf it (List.mem_singleton.mpr rfl);refine wpAny_pyNext_ascii_item st (c:=z.cps[i]) (by simp[hg']) λh' st' sb=>?_;obtain⟨o,e1,c1,d1⟩:=id st';exact⟨_,rfl,o7 (s:={ s with heap:=h',toks:=s.toks+1 }) e1 c1 d1 (by decide) ⟨.str ⟨#[z.cps[i]]⟩,H,I.turned (λb o hb e2=>(sb.2 b hb).trans e2) f0 f1 f3 f4 f5,⟨_,rfl⟩,⟨rfl,_,by simp[hg'],rfl⟩,st',λb hb=>(hf b hb).1⟩⟩
 done:=by
  intro X hP hw hK hc i pins s σ H E I hf st hg;subst hP hw hK;have hg':z.cps.size<=i:=hg;obtain⟨f0,f1,f2,f3,f4,f5⟩:=hf it (List.mem_singleton.mpr rfl);exact wpAny_pyNext_ascii_end (I.ok.hd hc) st (by simp;omega) λh' eb=>⟨rfl,I.turned (t':=s.toks) (λb o hb e2=>eb b o hb e2) f0 f1 f3 f4 f5⟩
 self:=λ_ _ _ _ _ st h=>wpAny_pyIter_striter_ascii st h
theorem sv {P:Program}{w:World}{K:PySem.W.Frag}{tg:Expr}(z:Str)(t:Tok)(it:Addr):Turn P w K tg (Its z) [it] it (λi h=>h.IsStrIter it "str_iterator" z t i) where
 mem:=List.mem_singleton.mpr rfl
 obj:=λi h st b hb=>by
  have eb:=List.mem_singleton.mp hb;subst eb;obtain⟨o,e1,_,d1⟩:=st;exact⟨o,e1,λv zz=>by rw[d1]at zz;cases zz⟩
 keep:=λi h h' st k=>let ⟨o,e1,r⟩:=st;⟨o,k it (List.mem_singleton.mpr rfl) o e1,r⟩
 item:=by
  intro X hP hw hK hc i pins s σ H E I hf st hg;subst hP hw hK;have hg':i<z.cps.size:=hg;obtain⟨f0,f1,f2,f3,f4,f5⟩:=hf it (List.mem_singleton.mpr rfl);refine wpAny_pyNext_wide_item st (c:=z.cps[i]) (by simp[hg']) λh' st' sb=>?_;obtain⟨o,e1,c1,d1⟩:=id st';exact⟨_,rfl,o7 (s:={ s with heap:=h',toks:=s.toks+1 }) e1 c1 d1 (by decide) ⟨.str ⟨#[z.cps[i]]⟩,H,I.turned (λb o hb e2=>(sb.2 b hb).trans e2) f0 f1 f3 f4 f5,⟨_,rfl⟩,⟨rfl,_,by simp[hg'],rfl⟩,st',λb hb=>(hf b hb).1⟩⟩
 done:=by
  intro X hP hw hK hc i pins s σ H E I hf st hg;subst hP hw hK;have hg':z.cps.size<=i:=hg;obtain⟨f0,f1,f2,f3,f4,f5⟩:=hf it (List.mem_singleton.mpr rfl);exact wpAny_pyNext_wide_end (I.ok.hd hc) st (by simp;omega) λh' eb=>⟨rfl,I.turned (t':=s.toks) (λb o hb e2=>eb b o hb e2) f0 f1 f3 f4 f5⟩
 self:=λ_ _ _ _ _ st h=>wpAny_pyIter_striter_wide st h
section
variable {X:Cx}{a b e:Expr}{pos:Pos}{x:Str}{p:Pos}{tg:Expr}
theorem z9 {l:Expr}{tl:TE}(hl:PE X l tl):PI X tg l (λσ H R=>tl σ H λx H1=>∃z,x=.str z/\R (Its z) H1):=by
 intro pins s σ H R I h;refine thn (hl pins s σ H _ I h) λv s1 ⟨x,H1,I1,r1,q1⟩=>?_;obtain⟨z,rfl,q⟩:=q1;obtain⟨t,rfl⟩:=r1;have fp:∀b∈[s1.heap.objs.size],jZ X pins H1 b:=λb hb=>by
  rw[List.mem_singleton.mp hb];exact I1.fpOk (Nat.le_refl _) (I1.hok.fresh (Nat.le_refl _))
 cases ha:z.cps.all (· < 128) with
 |true=>exact wpAny_pyIter_ascii ha ⟨_,[s1.heap.objs.size],_,_,H1,rfl,I1.kept (t':=s1.toks) λb o e=>Heap.get?_push_of_some _ e,su z t _,⟨_,Heap.get?_push_size _ rfl,rfl,rfl⟩,fp,q⟩
 |false=>exact wpAny_pyIter_wide ha ⟨_,[s1.heap.objs.size],_,_,H1,rfl,I1.kept (t':=s1.toks) λb o e=>Heap.get?_push_of_some _ e,sv z t _,⟨_,Heap.get?_push_size _ rfl,rfl,rfl⟩,fp,q⟩
noncomputable def wm (z:Str):List D:=z.cps.toList.map λc=>.str ⟨#[c]⟩
theorem zA {K:PySem.W.Frag}{B:Hp}(z:Str):nW K (Its z) B (wm z):=by
 intro i H s;refine⟨λd ed=>?_,λhl=>by unfold wm at hl;show z.cps.size<=i;simpa using hl⟩;unfold wm at ed;rw[List.getElem?_map]at ed;obtain⟨c,ec,rfl⟩:=oY ed;have ec':z.cps[i]? = some c:=by simpa using ec
 refine⟨(Array.getElem?_eq_some_iff.mp ec').1,λv H' hy=>?_⟩;obtain⟨rfl,c',e1,rfl⟩:=hy;rw[ec']at e1;cases e1;exact⟨B,.refl s,.str _⟩
@[simp] noncomputable def EN:D->Option (List D)
 |.lst ds=>some ds
 |.tup ds=>some ds
 |.str z=>some (wm z)
 |_=>none
@[simp] noncomputable def cG (f:FE):FA:=λρ=>(f ρ).bind λx=>EN x.1
theorem cK {f:FE}(h:JE X e f):JI X tg e (cG f):=by
 intro pins s σ H R I q;obtain⟨B,ρ,ds,sB,r,e',q⟩:=q;obtain⟨xx,ex,es⟩:=oX e';obtain⟨xd,xb⟩:=xx;cases xd with
 |lst l=>exact wj h pins s σ H R I ⟨B,ρ,ds,sB,r,by unfold z6;rw[ex];exact es,q⟩
 |tup l=>exact wj h pins s σ H R I ⟨B,ρ,ds,sB,r,by unfold z6;rw[ex];exact es,q⟩
 |str z=>
  cases es
  refine z9 h pins s σ H R I ⟨B,ρ,_,_,sB,r,ex,λv H1 N1 x1 i1 _=>?_⟩;cases i1
  exact⟨z,rfl,q _ H1 N1 x1 (zA z)⟩
 |_=>cases es
theorem BV:SlR X (λx lo hi H Q=>∃z,x=.str z/\z.length<=sizeLine/\Q (.str (Txt.slice z lo hi)) H):=by
 intro pins s σ H x v vl vu lo hi sl Q I rx hs pl pu h;obtain⟨z,rfl,hz,q⟩:=h;obtain⟨t,rfl⟩:=rx;have fin:∀lo hi,Q (.str (Txt.slice z lo hi)) H->(Txt.slice z lo hi).length<=sizeLine/\∀t' k,EP X pins σ Q (.str (Txt.slice z lo hi) t') { s with toks:=k }:=λlo hi q=>
  ⟨Nat.le_trans (Txt.slice_le z _ _) hz,λt' k=>⟨.str _,H,I.tok k,⟨t',rfl⟩,q⟩⟩
 refine⟨"str",_,PySem.F.slot_str_getitem.lookup,typeIs_str _ _ _,?_⟩;cases pl with
 |none=>
  cases pu with
  |none=>exact wpAny_getItem_str_slice (l:=none) (u:=none) (st:=none) hs rfl (post_val_or_str (fin _ _ q))
  |int j tj=>exact wpAny_getItem_str_slice (l:=none) (u:=some (j,tj)) (st:=none) hs rfl (post_val_or_str (fin _ _ q))
 |int i ti=>
  cases pu with
  |none=>exact wpAny_getItem_str_slice (l:=some (i,ti)) (u:=none) (st:=none) hs rfl (post_val_or_str (fin _ _ q))
  |int j tj=>exact wpAny_getItem_str_slice (l:=some (i,ti)) (u:=some (j,tj)) (st:=none) hs rfl (post_val_or_str (fin _ _ q))
theorem xW {A:Around}{E:Value->Shared->Prop}{s:Shared}{prog:Program}{w:World}{t sl:Addr}{items:Array Value}{vl vu:Value}{lo hi:Option Int}{Q:Value->Shared->Prop}(ht:IsTup s.heap t items)(hs:s.heap.IsSliceOf sl vl vu .none)(pl:IsPart vl lo)(pu:IsPart vu hi)
  (h0:HT.sIx items.size 0 lo=0) (h1:HT.sIx items.size items.size hi=items.size) (h:Q (.ref t) s):wpAny (model prog w) A (getItem (.ref t) (.ref sl)) Q E s:=by
 obtain⟨os,hos,hcs,hds⟩:=id hs
 have hT:s.TypeIs (.ref sl) "slice":=⟨os,hos,hcs⟩
 unfold getItem
 try with_reducible refine wpAny_holding ?_
 first|refine wX (wY ?_)|skip
 refine wX (wpAny_sequenceKey ht.typeIs (by decide) ?_)
 refine wX (wpAny_callSpecial?_slot (name:=Str.ofString "__getitem__") ht.typeIs PyProof.Rows.slot_tuple_getitem (wpAny_call_entry PyProof.Rows.slot_tuple_getitem ht.typeIs entry_tuple_getitem ?_ (args_tuple_getitem _ _)))
 show wpAny _ _ (Builtin.Tuple.tupleItemsOf (.ref t)>>=_) _ _ s
 refine wX (tupleItemsOf_ ht ?_)
 refine wX (wpAny_typeOf hT ?_)
 rw[if_pos (by decide)]
 refine wX (HT.gf hs pl pu ?_)
 have yes:(((HT.sIx items.size 0 lo:Nat):Int) == 0 && (1:Int) == 1 && (HT.sIx items.size items.size hi - HT.sIx items.size 0 lo) == items.size)=true:=by
  rw[h0,h1];simp
 show wpAny _ _ (if(((HT.sIx items.size 0 lo:Nat):Int) == 0 && (1:Int) == 1 && (HT.sIx items.size items.size hi - HT.sIx items.size 0 lo) == items.size)=true then _ else _) _ _ s
 rw[if_pos yes]
 refine wX ?_
 unfold Builtin.Tuple.tupleIsExact
 refine wX (wpAny_typeOf ht.typeIs (wY ?_))
 show wpAny _ _ (if((Value.type "tuple") == Value.type "tuple")=true then _ else _) _ _ s
 rw[if_pos (by decide)]
 refine wX (wpAny_rule ?_)
 exact wY ⟨_,rfl,wY h⟩
theorem BW:SlR X (λx lo hi H Q=>∃a xs,x=.ref a/\SqT X.K H a xs/\HT.sIx xs.length 0 lo=0/\HT.sIx xs.length xs.length hi=xs.length/\Q (.ref a) H):=by
 intro pins s σ H x v vl vu lo hi sl Q I rx hs pl pu h;obtain⟨a,xs,rfl,hx,h0,h1,q⟩:=h;cases rx
 obtain⟨its,r,ht,hz⟩:=I.tuple hx;have hlen:its.toArray.size=xs.length:=by rw[List.size_toArray];exact r.length.symm
 refine⟨"tuple",_,PyProof.Rows.slot_tuple_getitem.lookup,ht.typeIs,?_⟩;exact xW ht hs pl pu (by rw[hlen];exact h0) (by rw[hlen];exact h1) ⟨.ref a,H,I,rfl,q⟩
@[simp] noncomputable def fSl (fa:FE)(fl fh:FO):FE:=λρ=>(fa ρ).bind λx=>(fl ρ).bind λl=>(fh ρ).bind λh=>match x.1 with
 |.lst ds=>some (.lst (nZ ds l h),true)
 |.tup ds=>some (.tup (nZ ds l h),false)
 |.str z=>if z.length<=sizeLine then some (.str (Txt.slice z l h),false)else none
 |_=>none
theorem uP {ds:List D}{lo hi:Option Int}(h0:HT.sIx ds.length 0 lo=0)(h1:HT.sIx ds.length ds.length hi=ds.length):nZ ds lo hi=ds:=by
 unfold nZ;rw[h0,h1];simp
theorem zB {lo hi:Option Expr}{p2:Pos}{fa:FE}{fl fh:FO}(ha:JE X e fa)(hl:JO X lo fl)(hh:JO X hi fh):JE X (.Subscript e (.Slice lo hi none p2) pos) (fSl fa fl fh):=by
 refine PE.to (yU (SlR.or (SlR.or B4 Es) (SlR.or BV BW)) ha hl hh) λσ H Q q=>?_;obtain⟨B,ρ,d,b,sB,r,e,q⟩:=q;obtain⟨x,ex,e⟩:=oX e;obtain⟨l,el,e⟩:=oX e;obtain⟨h,eh,e⟩:=oX e;refine⟨B,ρ,x.1,x.2,sB,r,ex,λv H1 N1 x1 i1 _=>⟨N1,ρ,l,x1.nh,r.mono x1.bn,el,λH2 h2=>⟨N1,ρ,h,x1.nh.trans h2,r.mono x1.bn,eh,λH3 h3=>?_⟩⟩⟩;have s3:aQ N1 H3:=x1.nh.trans (h2.trans h3);have q3:=q.into (x1.trans (.grow x1.nh (h2.trans h3)));obtain⟨xd,xb⟩:=x;dsimp only at e i1;cases i1 with
 |@tup a' vs ds hs hv=>
  cases e
  by_cases hw:HT.sIx ds.length 0 l=0/\HT.sIx ds.length ds.length h=ds.length
  ·rw[uP hw.1 hw.2]at q3;exact .inr (.inr ⟨a',vs,rfl,aY s3 hs,by rw[hv.length];exact hw.1,by rw[hv.length];exact hw.2,q3.one s3 (.tup hs hv)⟩)
  ·refine .inl (.inr ⟨a',vs,rfl,aY s3 hs,by rw[hv.length];exact hw,λp hp=>?_⟩);have x4:=Ext.laid (o:=.tup (nS vs l h)) s3 hp;exact q3 _ _ _ x4 (.tup (SqT.of aF) ((qc hv).mono x4.bn)) (by simp)
 |@lst a' vs ds hs hv=>
  cases e
  refine .inl (.inl ⟨a',vs,rfl,s3.seq hs,λp hp=>?_⟩);have x4:=Ext.laid (o:=.lst (nS vs l h)) s3 hp;exact q3 _ _ _ x4 (.lst (SqL.of aF) ((qc hv).mono x4.bn)) λ_=>⟨p,_,_,rfl,rfl,hp,aF,(qc hv).mono x4.bn⟩
 |str z=>
  dsimp only at e;split at e
  ·rename_i hz;cases e
   exact .inr (.inl ⟨z,rfl,hz,q3.one s3 (.str _)⟩)
  ·cases e
 |_=>cases e
noncomputable def qh:Value->D->Bool
 |.none,.non=>true
 |.bool a,.bl b=>a == b
 |.int i _,.int j=>decide (i=j)
 |.str i _,.str j=>decide (i=j)
 |_,_=>false
noncomputable def gH:List Value->List D->Bool
 |[],[]=>true
 |u::us,d::ds=>qh u d && gH us ds
 |_,_=>false
theorem iJ {K:PySem.W.Frag}{B:Hp}:∀ {u:Value}{d:D},qh u d=true->∃v,aS v u/\Is K B v d
 |.none,.non,_=>⟨.non,rfl,.non⟩
 |.bool a,.bl b,h=>by
  have:a=b:=eq_of_beq h;subst this;exact⟨.bl a,rfl,.bl a⟩
 |.int i t,.int j,h=>by
  have:i=j:=of_decide_eq_true h;subst this;exact⟨.int i,⟨t,rfl⟩,.int i⟩
 |.str i t,.str j,h=>by
  have:i=j:=of_decide_eq_true h;subst this;exact⟨.str i,⟨t,rfl⟩,.str i⟩
theorem gI {K:PySem.W.Frag}:∀ {us:List Value}{ds:List D},gH us ds=true->∃vs,L2.aT vs us/\∀B,IsL K B vs ds
 |[],[],_=>⟨[],.nil,λ_=>.nil⟩
 |u::us,d::ds,h=>by
  rw[gH,Bool.and_eq_true]at h;obtain⟨vs,r,i⟩:=gI (K:=K) h.2;obtain⟨v,r1,_⟩:=iJ (K:=K) (B:=λ_=>none) h.1;refine⟨v::vs,.cons r1 r,λB=>?_⟩;obtain⟨v',r1',i'⟩:=iJ (K:=K) (B:=B) h.1;have:v'=v:=by have z1:=r1.abs;rw[r1'.abs]at z1;exact Option.some.inj z1
  subst this;exact .cons i' (i B)
theorem const_tup {K:PySem.W.Frag}{y:Str}{a:Addr}{od:Option Addr}{its:Array Value}{n:Nat}{osl:Array (Option Value)}{ds:List D}(e:PySem.W.nsIn K mainGlobals y=some (some (.ref a)))
  (l:K.lookup a=some ⟨.type "tuple",od,.seq its n,osl⟩) (h:(decide (its.size<=1000) && gH its.toList ds)=true):∃u v,PySem.W.nsIn K mainGlobals y=some (some u)/\aS v u/\∀B,Is K B v (.tup ds):=by
 rw[Bool.and_eq_true]at h;obtain⟨vs,r,i⟩:=gI (K:=K) h.2;exact⟨_,.ref a,e,rfl,λB=>.tup (.inr ⟨_,its,n,l,rfl,rfl,Nat.le_of_lt (Nat.lt_of_le_of_lt (of_decide_eq_true h.1) (by decide)),r⟩) (i B)⟩
end
section
variable {X:Cx}{a b o e:Expr}{pos:Pos}{x:Str}{p:Pos}{tg:Expr}
theorem EO {name:Str}{id:String}{apos cpos:Pos}{op:D->D->Option (D×Bool)}{fo fe:FE}(slot:Slot "str" name id)(hty:typeOf (.builtin id)=pure (.type "method_descriptor"))
  (hm:MtR X id (λx xs H Q=>∃y,xs=[y]/\rD X.K op x y H Q)) (hstr:∀dx dy r,op dx dy=some r->∃z,dx=.str z) (ho:JE X o fo) (he:JE X e fe)
  (hbase:attributeBase o name X.env (eval o X.env)=eval o X.env:=by rfl)
  (hfew:((backTo cpos (starEach [e] X.env)).all (λx=>!x.1) && (backToKw cpos (keywordEach [] X.env)).all (λx=>x.1.isSome)
   && decide ([e].length+([]:List Keyword).length+(if([]:List Keyword).isEmpty then 0 else 1)<30))=true:=by rfl)
  (hline:(apos.endLine == cpos.line)=true:=by rfl) (hs:starEach [e] X.env=[(false,eval e X.env)]:=by rfl):
  JE X (.Call (.Attribute o name apos) [e] [] cpos) (f2 op fo fe):=by
 refine PE.to (yY PySem.F.plainAttrs_str slot hty hm ho (fP he ib hs) hbase hfew hline hs rfl) λσ H Q q=>?_;obtain⟨B,ρ,d,bb,sB,r,ee,q⟩:=q;obtain⟨x1,ex,ee⟩:=oX ee;obtain⟨y1,ey,ee⟩:=oX ee;obtain⟨z,hz⟩:=hstr _ _ _ ee;refine⟨B,ρ,x1.1,x1.2,sB,r,ex,λv H1 N1 xt1 i1 _=>?_⟩;rw[hz]at i1;cases i1
 refine⟨show "str" = "str" from rfl,N1,ρ,y1.1,y1.2,xt1.nh,r.mono xt1.bn,ey,λv2 H2 N2 xt2 i2 _=>⟨v2,rfl,N2,.str z,y1.1,d,bb,xt2.nh,.str z,i2,by rw[←hz];exact ee,q.into (xt1.trans xt2)⟩⟩
@[simp] noncomputable def EQ:D->Option Str
 |.str z=>some z
 |_=>none
noncomputable def fB:List D->Option (List Str)
 |[]=>some []
 |d::ds=>(EQ d).bind λz=>(fB ds).map (z :: ·)
@[simp] theorem F8:fB []=some []:=rfl
@[simp] theorem uQ (d:D)(ds:List D):fB (d::ds)=(EQ d).bind λz=>(fB ds).map (z :: ·):=rfl
@[simp] theorem F9 (zs:List Str):fB (zs.map D.str)=some zs:=by
 induction zs with
 |nil=>rfl
 |cons z zs ih=>simp[ih]
theorem ir {K:PySem.W.Frag}{B:Hp}:∀ {vs:List V}{ds:List D}{zs:List Str}{its:List Value},L2.aT vs its->IsL K B vs ds->fB ds=some zs->StrsAre its zs
 |_,_,_,_,.nil,.nil,e=>by cases e;exact .nil
 |_,_,_,_,.cons r rr,.cons i ii,e=>by
  rw[uQ]at e;obtain⟨z,e1,e⟩:=oX e;obtain⟨zs,e2,e⟩:=oY e;subst e;cases i<;>simp only[EQ]at e1<;>try (cases e1;done)
  cases e1
  obtain⟨t,rfl⟩:=r;exact .cons _ t (ir rr ii e2)
@[simp] noncomputable def kP:D->D->Option (D×Bool)
 |.str sep,.lst ds=>(fB ds).bind λzs=>if(zs.map (·.length)).sum+zs.length*sep.length<=16777216 then some (.str (Txt.join sep zs),false)else none
 |.str sep,.tup ds=>(fB ds).bind λzs=>if(zs.map (·.length)).sum+zs.length*sep.length<=16777216 then some (.str (Txt.join sep zs),false)else none
 |_,_=>none
theorem ER:MtR X "str.join" (λx xs H Q=>∃y,xs=[y]/\rD X.K kP x y H Q):=by
 intro pins s σ H x xs v us Q I rx rs h;obtain⟨y,rfl,B,dx,dy,d,bb,sB,ix,iy,ee,q⟩:=h;obtain⟨u1,rfl,r1⟩:=ge rs;cases ix<;>(try (simp[kP]at ee;done))
 obtain⟨t,rfl⟩:=rx;cases iy<;>(try (simp[kP]at ee;done))
 ·rename_i h hl;simp only[kP]at ee;obtain⟨zs,ez,ee⟩:=oX ee;split at ee
  ·rename_i hok;cases ee
   cases r1
   obtain⟨its,rv,p1,z1⟩:=I.tuple (aY sB h);exact join_tuple p1 (by simpa using ir rv hl ez) hok λt' k=>⟨.str _,H,I.tok k,⟨t',rfl⟩,q.one sB (.str _)⟩
  ·cases ee
 ·rename_i h hl;simp only[kP]at ee;obtain⟨zs,ez,ee⟩:=oX ee;split at ee
  ·rename_i hok;cases ee
   cases r1
   obtain⟨its,rv,p1,z1⟩:=I.list (sB.seq h);exact join_list p1.isList (by simpa using ir rv hl ez) hok λt' k=>⟨.str _,H,I.tok k,⟨t',rfl⟩,q.one sB (.str _)⟩
  ·cases ee
theorem zC (dx dy:D)(r:D×Bool)(h:kP dx dy=some r):∃z,dx=.str z:=by
 cases dx<;>first|exact⟨_,rfl⟩|(cases dy<;>simp[kP]at h)
noncomputable def eK:List Nat->List D->Env->Option Env
 |[],[],ρ=>some ρ
 |i::is,d::ds,ρ=>eK is ds (ρ.set i (some (d,false)))
 |_,_,_=>none
@[simp] theorem oM (ρ:Env):eK [] [] ρ=some ρ:=by rw[eK]
@[simp] theorem jk (i:Nat)(is:List Nat)(d:D)(ds:List D)(ρ:Env):eK (i::is) (d::ds) ρ=eK is ds (ρ.set i (some (d,false))):=by rw[eK]
@[simp] theorem GE (d:D)(ds:List D)(ρ:Env):eK [] (d::ds) ρ=none:=by simp only[eK]
@[simp] theorem GF (i:Nat)(is:List Nat)(ρ:Env):eK (i::is) [] ρ=none:=by simp only[eK]
@[simp] noncomputable def tgT (is:List Nat):FG:=λd ρ=>match d with|.tup ds=>eK is ds ρ|_=>none
def km:List Nat->TGs
 |[]=>FU
 |i::is=>CQ (iU i) (km is)
theorem zD {N:Hp}{σ:St}{ρ:Env}{i:Nat}{v:V}{d:D}:aQ (cut N (own σ ρ)) (cut N (own (σ.set i (some v)) (ρ.set i (some (d,false))))):=d7 λa u e q=>⟨e,λz=>q (by
 rcases pV z with⟨_,d',p⟩|⟨j,_,d',q1,q2⟩
 ·cases p
 ·exact⟨j,d',q1,q2⟩)⟩
theorem kn {K:PySem.W.Frag}:∀ {is:List Nat}{vs:List V}{ds:List D}{B0 H0 N H:Hp}{σ:St}{ρ ρ':Env}{Q:St->Hp->Prop},StN K B0 H0 N H σ ρ->IsL K (cut N (own σ ρ)) vs ds->eK is ds ρ=some ρ'->(∀σ',StN K B0 H0 N H σ' ρ'->Q σ' H)->km is vs σ H Q
 |[],_,_,_,_,_,_,_,_,_,_,s,.nil,e,k=>by
  rw[oM]at e;cases e;exact⟨rfl,k _ s⟩
 |[],_,_,_,_,_,_,_,_,_,_,_,.cons _ _,e,_=>by simp at e
 |_::_,_,_,_,_,_,_,_,_,_,_,_,.nil,e,_=>by simp at e
 |i::is,_,_,_,_,_,_,_,_,_,_,s,.cons h hs,e,k=>by
  rw[jk]at e;exact⟨_,_,rfl,kn (s.bind h) (hs.mono zD) e k⟩
theorem ko:∀ {is:List Nat}{ds:List D}{ρ ρ':Env},eK is ds ρ=some ρ'->ds.length=is.length
 |[],[],_,_,_=>rfl
 |_::_,_::_,_,_,e=>by rw[jk]at e;simp[ko e]
 |[],_::_,_,_,e=>by simp at e
 |_::_,[],_,_,e=>by simp at e
theorem oN {K:PySem.W.Frag}{n:Nat}{B H:Hp}{ρ0:Env}{Q:St->Hp->Prop}(cl:∀i,i<n->ρ0[i]? = some none):∀ {is:List Nat}{vs:List V}{ds:List D}{σ:St}{ρ ρ1:Env},(∀i∈is,i<n)->RepE K B σ ρ->IsL K B vs ds->eK is ds ρ=some ρ1->ρ.length=σ.length->ρ.length=ρ0.length ->
  (∀σ1,RepE K B σ1 ρ1->(∀B',RepE K B' σ ρ0->RepE K B' σ1 ρ0)->ρ0.length=σ1.length->Q σ1 H)->km is vs σ H Q
 |[],_,_,_,_,_,_,rp,.nil,e,l1,l2,k=>by
  rw[oM]at e;cases e;exact⟨rfl,k _ rp (λ_ z=>z) (by omega)⟩
 |[],_,_,_,_,_,_,_,.cons _ _,e,_,_,_=>by simp at e
 |_::_,_,_,_,_,_,_,_,.nil,e,_,_,_=>by simp at e
 |i::is,_,_,σ,ρ,_,hn,rp,.cons (v:=v) h hs,e,l1,l2,k=>by
  rw[jk]at e;have hi:=hn i mX;have hiσ:i<σ.length:=by
   have:=(List.getElem?_eq_some_iff.mp (cl i hi)).1;omega
  refine⟨_,_,rfl,oN cl (λj hj=>hn j (mZ _ hj)) ⟨rp.tb,λj d b q=>?_⟩ hs e (by simpa using l1) (by simpa using l2) λσ1 r1 r2 l=>k σ1 r1 (λB' z=>r2 B' ⟨z.tb,λj d b q=>?_⟩) l⟩
  ·rcases bD q with⟨rfl,pp⟩|⟨ne,pp⟩
   ·cases pp
    exact⟨v,by simp[hiσ],h⟩
   ·obtain⟨w,h1,h2⟩:=rp.at' j d b pp;exact⟨w,by rw[List.getElem?_set_ne ne];exact h1,h2⟩
  ·obtain⟨w,h1,h2⟩:=z.at' j d b q;have ne:i≠j:=λz=>by subst z;rw[cl i hi]at q;cases q
   exact⟨w,by rw[List.getElem?_set_ne ne];exact h1,h2⟩
theorem GG {K:PySem.W.Frag}{n:Nat}{is:List Nat}(hn:∀i∈is,i<n):TGE K n (tgT is) (FV K is.length (km is)):=by
 intro B H σ ρ ρ1 v d Q cl rep s h e hl k;cases h with
 |@tup a vs ds ht hv=>
  have e':eK is ds ρ=some ρ1:=e;exact⟨a,vs,rfl,aY s ht,by rw[hv.length];exact ko e',oN cl hn rep hv e' hl rfl k⟩
 |_=>cases e
end
section
variable {prog:Program}{w:World}{A:Around}{E:Value->Shared->Prop}{s:Shared}
theorem uR {it l:Addr}{i:Nat}{items:Array Value}{v:Value}{Q:Value->Shared->Prop}(st:s.heap.IsTupleIter it l i)(ht:s.heap.IsTuple l items)(hv:items[i]? = some v)
  (k:∀h',h'.IsTupleIter it l (i+1)->Heap.SameBut it s.heap h'->Q v { s with heap:=h' }):wpAny (model prog w) A (Builtin.SmallTypes.nextOf (.ref it)) Q E s:=by
 obtain⟨o1,g1,c1,d1⟩:=id st;obtain⟨o2,g2,_,n2,d2⟩:=ht;unfold Builtin.SmallTypes.nextOf;refine wX (wpAny_callSpecial?_slot (name:=Str.ofString "__next__") st.typeIs PySem.F.slot_tuple_iterator_next (wpAny_call_entry PySem.F.slot_tuple_iterator_next st.typeIs PySem.F.entry_tuple_iterator_next ?_ (PySem.F.args_tuple_iterator_next_1 _)));show wpAny _ _ (field (.ref it) 0>>=_) _ _ _;refine wX (wpAny_field g1 d1 (x:=.ref l) rfl ?_);show wpAny _ _ (if(Value.ref l == Value.none)=true then _ else _) _ _ _;rw[if_neg (λz=>Bool.false_ne_true z:¬((Value.ref l == Value.none)=true))];show wpAny _ _ (field (.ref it) 1>>=_) _ _ _;refine wX (wpAny_field g1 d1 (x:=.int i 0) rfl ?_);show wpAny _ _ (seqItems? (.ref l)>>=_) _ _ _;refine wX (wpAny_seqItems g2 d2 ?_);simp only[hv,Int.toNat_natCast];refine wX (wpAny_setField g1 d1 (by simp) (wY ⟨v,rfl,wY (k _ ?_ (Heap.SameBut.update ..))⟩));exact⟨_,Heap.get?_update_self _ g1 (Obj.isFreed_of_fields (Obj.data_mapFields d1 _)),(Obj.cls_mapFields ..).trans c1,by rw[Obj.data_mapFields d1];simp[rawInt]⟩
theorem xX {it l:Addr}{i:Nat}{items:Array Value}{Q:Value->Shared->Prop}(hA:A.handled=none)(st:s.heap.IsTupleIter it l i)(ht:s.heap.IsTuple l items)(hv:items[i]? = none)
  (k:∀h' x,Heap.ExtBut it s.heap h'->(∃o,h'.get? x=some o/\o.cls=.type "StopIteration")->E (.ref x) { s with heap:=h' }):wpAny (model prog w) A (Builtin.SmallTypes.nextOf (.ref it)) Q E s:=by
 obtain⟨o1,g1,c1,d1⟩:=id st;obtain⟨o2,g2,_,n2,d2⟩:=ht;unfold Builtin.SmallTypes.nextOf;refine wX (wpAny_callSpecial?_slot (name:=Str.ofString "__next__") st.typeIs PySem.F.slot_tuple_iterator_next (wpAny_call_entry PySem.F.slot_tuple_iterator_next st.typeIs PySem.F.entry_tuple_iterator_next ?_ (PySem.F.args_tuple_iterator_next_1 _)));show wpAny _ _ (field (.ref it) 0>>=_) _ _ _;refine wX (wpAny_field g1 d1 (x:=.ref l) rfl ?_);show wpAny _ _ (if(Value.ref l == Value.none)=true then _ else _) _ _ _;rw[if_neg (λz=>Bool.false_ne_true z:¬((Value.ref l == Value.none)=true))];show wpAny _ _ (field (.ref it) 1>>=_) _ _ _;refine wX (wpAny_field g1 d1 (x:=.int i 0) rfl ?_);show wpAny _ _ (seqItems? (.ref l)>>=_) _ _ _;refine wX (wpAny_seqItems g2 d2 ?_);simp only[hv,Int.toNat_natCast];refine wX (wpAny_rule (wX (wpAny_setField g1 d1 (by simp) ?_)));show wpAny _ _ (newExc (.type "StopIteration") []>>=_) _ _ _;refine wX ?_;simp only[newTuple,newExc];refine wX (wpAny_newObj_type ?_ (by size_fits));refine wX (m:=firstArgMember _ _) (wpAny_of_eq (a:=Value.none) (by first|(simp only[firstArgMember];rfl)|rfl) ?_);refine wpAny_newObj_type ?_ (by size_fits);simp only[raiseNew];refine wX (wpAny_handled ?_);first|rw[hA]|rw[show A.in1.handled=none from hA]
 exact wX (wY (wpAny_throw (k _ _ (((Heap.SameBut.update ..).extBut.push _).push _) ⟨_,Heap.get?_push_size _ rfl,rfl⟩)))
end
def KIt:Bool->Heap->Addr->Addr->Nat->Prop
 |true,h,it,a,i=>h.IsListIter it a i
 |false,h,it,a,i=>h.IsTupleIter it a i
def KSq:Bool->Heap->Addr->Array Value->Prop
 |true,h,a,items=>h.IsList a items
 |false,h,a,items=>h.IsTuple a items
def SqK (k:Bool)(K:PySem.W.Frag)(H:Hp)(a:Addr)(xs:List V):Prop:=match k with|true=>SqL K H a xs|false=>SqT K H a xs
theorem KIt.ob {k:Bool}{h:Heap}{it a:Addr}{i:Nat}(st:KIt k h it a i):∃o,h.get? it=some o/\∀v,o.data≠.cell v:=by
 cases k<;>(obtain⟨o,g,_,d⟩:=st;exact⟨o,g,λv z=>by rw[d]at z;cases z⟩)
theorem KIt.upon {k:Bool}{h h':Heap}{it a:Addr}{i:Nat}(st:KIt k h it a i)(g:∀o,h.get? it=some o->h'.get? it=some o):KIt k h' it a i:=by
 cases k<;>(obtain⟨o,e,r⟩:=st;exact⟨o,g o e,r⟩)
theorem KSq.upon {k:Bool}{h h':Heap}{a:Addr}{items:Array Value}(st:KSq k h a items)(g:∀o,h.get? a=some o->h'.get? a=some o):KSq k h' a items:=by
 cases k<;>(obtain⟨o,e,r⟩:=st;exact⟨o,g o e,r⟩)
theorem KSq.lt {k:Bool}{h:Heap}{a:Addr}{items:Array Value}(st:KSq k h a items):a<h.objs.size:=by
 cases k<;>(obtain⟨o,e,r⟩:=st;exact Heap.lt_size e)
theorem SqK.same {k:Bool}{K:PySem.W.Frag}{H H':Hp}{a:Addr}{xs:List V}(h:SqK k K H a xs)(e:aQ H H'):SqK k K H' a xs:=by
 cases k
 ·exact aY e h
 ·exact e.seq h
theorem SqK.vals {X:Cx}{pins:List (Addr×Obj)}{σ:St}{H:Hp}{s:Shared}{k:Bool}{a:Addr}{xs:List V}(I:Inv X pins σ H s)(h:SqK k X.K H a xs):∃its:List Value,aT xs its/\KSq k s.heap a its.toArray/\xs.length<=sizeLine:=by
 cases k
 ·exact I.tuple h
 ·obtain⟨its,r,p,z⟩:=I.list h;exact⟨its,r,p.isList,z⟩
theorem SqK.inj {X:Cx}{pins:List (Addr×Obj)}{σ:St}{H:Hp}{s:Shared}{k:Bool}{a:Addr}{xs ys:List V}(I:Inv X pins σ H s)(h:SqK k X.K H a xs)(h':SqK k X.K H a ys):xs=ys:=by
 cases k
 ·exact I.tuple_inj h h'
 ·exact I.list_inj h h'
section
variable {prog:Program}{w:World}{A:Around}{E:Value->Shared->Prop}{s:Shared}
theorem xY {k:Bool}{it l:Addr}{i:Nat}{items:Array Value}{v:Value}{Q:Value->Shared->Prop}(st:KIt k s.heap it l i)(ht:KSq k s.heap l items)(hv:items[i]? = some v)
  (q:∀h',KIt k h' it l (i+1)->Heap.SameBut it s.heap h'->Q v { s with heap:=h' }):wpAny (model prog w) A (Builtin.SmallTypes.nextOf (.ref it)) Q E s:=by
 cases k
 ·exact uR st ht hv q
 ·exact wpAny_nextOf_list_item st ht hv q
theorem sw {k:Bool}{it l:Addr}{i:Nat}{items:Array Value}{Q:Value->Shared->Prop}(hA:A.handled=none)(st:KIt k s.heap it l i)(ht:KSq k s.heap l items)(hv:items[i]? = none)
  (q:∀h' x,Heap.ExtBut it s.heap h'->(∃o,h'.get? x=some o/\o.cls=.type "StopIteration")->E (.ref x) { s with heap:=h' }):wpAny (model prog w) A (Builtin.SmallTypes.nextOf (.ref it)) Q E s:=by
 cases k
 ·exact xX hA st ht hv q
 ·exact wpAny_nextOf_list_end hA st ht hv q
end
noncomputable def itO (k:Bool)(l:Addr):Obj:={ cls:=.type (if k=true then "list_iterator" else "tuple_iterator"),data:=.fields #[.ref l,.int 0 0] }
theorem qi {prog:Program}{w:World}{A:Around}{E:Value->Shared->Prop}{s:Shared}{k:Bool}{l:Addr}{items:Array Value}{Q:Value->Shared->Prop}(ht:KSq k s.heap l items)
  (q:Q (.ref s.heap.objs.size) { s with heap:=s.heap.push (itO k l) }):wpAny (model prog w) A (pyIter (.ref l)) Q E s:=by
 cases k
 ·exact wpAny_pyIter_tuple ht q
 ·exact wpAny_pyIter_list ht q
theorem KSq.push {k:Bool}{h:Heap}{a:Addr}{items:Array Value}(st:KSq k h a items)(o:Obj):KSq k (h.push o) a items:=st.upon λ_ e=>Heap.get?_push_of_some _ e
theorem qj {X:Cx}{pins:List (Addr×Obj)}{σ:St}{H:Hp}{s:Shared}{h':Heap}{t':Nat}{ch:List Addr}(I:Inv X pins σ H s)(f:∀b∈ch,jZ X pins H b)(k:∀b o,b∉ch->s.heap.get? b=some o->h'.get? b=some o):Inv X pins σ H { s with heap:=h',toks:=t' }:=by
 have nit:∀b u,H b=some u->b∉ch:=λb u e z=>by rw[(f b z).1]at e;cases e
 refine I.step (g':=s.gens) (d':=s.drawn) (ch:=ch) (λb hb=>?_) (λb o _ _ hc e _=>k b o hc e) (λb o _ _ hc e _=>⟨o.slots,k b o hc e⟩) (λ_ _ _ _ n=>n)
  (λb o hc e=>⟨o,k b o hc e⟩) (λ_ _ e=>e) (λ_ _ _ e=>e) (λ_ _ e=>e) (λm hm=>?_) (λb u e=>?_) I.bare
 ·obtain⟨_,f1,_,f3,f4,f5⟩:=f b hb;exact⟨f3,f1,f4,f5⟩
 ·obtain⟨o,es,ep,ho,r⟩:=hm;exact⟨o,es,ep,k _ o (λz=>(f _ z).2.1 rfl) ho,r⟩
 ·refine(I.hok b u e).stay (λc v hc q=>k c v ?_ q) (λ_ q=>q) (λ_ _ q=>q) λ_ _ _ q=>q;rcases hc with z|z
  ·rw[z];exact nit b u e
  ·exact nit c _ z
theorem GH {X:Cx}{pins:List (Addr×Obj)}{σ:St}{H:Hp}{s:Shared}{h':Heap}{t':Nat}{ch:List Addr}{a:Addr}{ob:HO}(I:Inv X pins σ H s)(f:∀b∈ch,jZ X pins H b)(k:∀b o,b∉ch->s.heap.get? b=some o->h'.get? b=some o)(ha:s.heap.objs.size<=a)
  (new:bz X.prog X.w (upd H a ob) h' a ob):Inv X pins σ (upd H a ob) { s with heap:=h',toks:=t' }:=by
 have hn:H a=none:=I.hok.fresh ha;have nit:∀b u,H b=some u->b∉ch:=λb u e z=>by rw[(f b z).1]at e;cases e
 have na:∀b o,s.heap.get? b=some o->b≠a:=λb o e=>Nat.ne_of_lt (Nat.lt_of_lt_of_le (Heap.lt_size e) ha);refine I.step (g':=s.gens) (d':=s.drawn) (ch:=ch) (λb hb=>?_) (λb o _ _ hc e _=>k b o hc e) (λb o _ _ hc e _=>⟨o.slots,k b o hc e⟩) (λb o _ e n=>by rw[aH (na b o e)];exact n)
  (λb o hc e=>⟨o,k b o hc e⟩) (λb xs e=>by rw[aH (aR e hn)];exact e) (λb o u e=>by rw[aH (aR e hn)];exact e) (λb ps e=>by rw[aH (aR e hn)];exact e) (λm hm=>?_) (λb u e=>?_) I.bare
 ·obtain⟨_,f1,_,f3,f4,f5⟩:=f b hb;exact⟨f3,f1,f4,f5⟩
 ·obtain⟨o,es,ep,ho,r⟩:=hm;exact⟨o,es,ep,k _ o (λz=>(f _ z).2.1 rfl) ho,r⟩
 ·by_cases hb:b=a
  ·subst hb;rw[aF]at e;cases e;exact new
  ·rw[aH hb]at e;refine(I.hok b u e).stay (λc v hc q=>k c v ?_ q) (λc q=>?_) (λc xs q=>?_) λc o xs q=>?_
   ·rcases hc with z|z
    ·rw[z];exact nit b u e
    ·exact nit c _ z
   ·rw[aH (aR q hn)];exact q
   ·rw[aH (aR q hn)];exact q
   ·rw[aH (aR q hn)];exact q
section
variable {X:Cx}{a b e:Expr}{pos:Pos}{p:Pos}
noncomputable def HD (xs ys:List D):List D:=List.zipWith (λx y=>.tup [x,y]) xs ys
@[simp] noncomputable def HE (fa fb:FE):FA:=λρ=>(fa ρ).bind λx=>(fb ρ).bind λy=>(f8 x.1).bind λxs=>(f8 y.1).map λys=>HD xs ys
theorem Dy {K:PySem.W.Frag}{B:Hp}{v:V}{d:D}{ds:List D}(h:Is K B v d)(e:f8 d=some ds):∃k a vs,v=.ref a/\SqK k K B a vs/\IsL K B vs ds:=by
 cases h with
 |tup ht hl=>cases e;exact⟨false,_,_,rfl,ht,hl⟩
 |lst ht hl=>cases e;exact⟨true,_,_,rfl,ht,hl⟩
 |_=>cases e
end
noncomputable def unown1 (ρ:Env)(i:Nat):Env:=match ρ[i]? with
 |some (some (d,true))=>ρ.set i (some (d,false))
 |_=>ρ
theorem StN.unown1 {K:PySem.W.Frag}{B0 H0 N H:Hp}{σ:St}{ρ:Env}(s:StN K B0 H0 N H σ ρ)(i:Nat):StN K B0 H0 N H σ (unown1 ρ i):=by
 unfold DL.unown1;split
 ·rename_i d hd;obtain⟨a,ob,h1,h2,h3,h4⟩:=s.ow i d hd;have get:∀ {j:Nat}{e:D}{b:Bool},(ρ.set i (some (d,false)))[j]? = some (some (e,b))->(i=j/\e=d/\b=false)∨(i≠j/\ρ[j]? = some (some (e,b))):=λq=>by
   rcases bD q with⟨z,p⟩|⟨z,p⟩
   ·cases p;exact .inl ⟨z,rfl,rfl⟩
   ·exact .inr ⟨z,p⟩
  have o:∀c,own σ (ρ.set i (some (d,false))) c->own σ ρ c/\c≠a:=λc ⟨j,e,q1,q2⟩=>by
   rcases get q1 with⟨_,_,z⟩|⟨ne,q⟩
   ·cases z
   ·exact⟨⟨j,e,q,q2⟩,λz=>by subst z;exact ne (s.inj i j _ _ _ hd q h1 q2)⟩
  have c:aQ (cut N (own σ ρ)) (cut N (own σ (ρ.set i (some (d,false))))):=d7 λb u e q=>⟨e,λz=>q (o b z).1⟩;have na:¬own σ (ρ.set i (some (d,false))) a:=λz=>(o a z).2 rfl;refine⟨s.bh,s.tb,s.ext,by rw[List.length_set];exact s.len,λj e q=>?_,λj e q=>?_,λj k b e f q q' z1 z2=>?_⟩
  ·rcases get q with⟨rfl,rfl,_⟩|⟨_,q⟩
   ·exact⟨_,h1,(h4.mono c).is (by rw[cf na];exact h2)⟩
   ·obtain⟨v,k1,k2⟩:=s.sh j e q;exact⟨v,k1,k2.mono c⟩
  ·rcases get q with⟨_,_,z⟩|⟨_,q⟩
   ·cases z
   ·obtain⟨a',o',k1,k2,k3,k4⟩:=s.ow j e q;exact⟨a',o',k1,k2,k3,k4.mono c⟩
  ·rcases get q with⟨_,_,z⟩|⟨_,q⟩
   ·cases z
   ·rcases get q' with⟨_,_,z⟩|⟨_,q'⟩
    ·cases z
    ·exact s.inj j k b e f q q' z1 z2
 ·exact s
@[simp] noncomputable def gUn (is:List Nat)(g:FS):FS:=λρ=>g (is.foldl unown1 ρ)
theorem StN.unowns {K:PySem.W.Frag}{B0 H0 N H:Hp}{σ:St}:∀(is:List Nat){ρ:Env},StN K B0 H0 N H σ ρ->StN K B0 H0 N H σ (is.foldl DL.unown1 ρ)
 |[],_,s=>s
 |i::is,_,s=>StN.unowns is (s.unown1 i)
theorem ES {K:PySem.W.Frag}{is:List Nat}{g:FS}{E:Ends}{σ:St}{H:Hp}(q:tDS K (gUn is g) E σ H):tDS K g E σ H:=by
 obtain⟨B0,H0,ρ,r,⟨N,s⟩,e,p⟩:=q;exact⟨B0,H0,_,r,⟨N,s.unowns is⟩,e,p⟩
theorem GI {X:Cx}{st:Stmt}{g:FS}(is:List Nat)(h:JS X st g):JS X st (gUn is g):=PS.to h λ_ _ _ q=>ES q
@[simp] noncomputable def Dz:FS:=λρ=>some (.ct ρ)
@[simp] noncomputable def HF:FS:=λρ=>some (.bk ρ)
@[simp] noncomputable def HG:FS:=λ_=>none
section
variable {X:Cx}{pos:Pos}
theorem BX:JS X (.Continue pos) Dz:=PS.to rA λE σ H q=>by
 obtain⟨B0,H0,ρ,r,s,e,p⟩:=q;cases e
 exact p σ H s
end
inductive CRows (K:PySem.W.Frag)(P:Params):List DictEntry->List (Str×D)->Prop where
 |nil:CRows K P [] []
 |tup {x:Str}{t:Tok}{h:Int}{a:Addr}{its:Array Value}{n:Nat}{osl:Array (Option Value)}{ds:List D}{r:List DictEntry}{kvs:List (Str×D)}(hh:h=PyData.keyHash P x)
   (l:K.lookup a=some ⟨.type "tuple",none,.seq its n,osl⟩) (f:(decide (its.size<=1000) && gH its.toList ds)=true) (tl:CRows K P r kvs):CRows K P (⟨h,.str x t,.ref a⟩::r) ((x,.tup ds)::kvs)
 |flat {x:Str}{t:Tok}{h:Int}{u:Value}{d:D}{r:List DictEntry}{kvs:List (Str×D)}(hh:h=PyData.keyHash P x) (f:qh u d=true) (tl:CRows K P r kvs):CRows K P (⟨h,.str x t,u⟩::r) ((x,d)::kvs)
theorem CRows.lit {K:PySem.W.Frag}{P:Params}:∀ {es:List DictEntry}{kvs:List (Str×D)},CRows K P es kvs->PySem.W.KeysLit P es
 |_,_,.nil=>trivial
 |_,_,.tup hh _ _ tl=>⟨⟨_,_,rfl,hh⟩,tl.lit⟩
 |_,_,.flat hh _ tl=>⟨⟨_,_,rfl,hh⟩,tl.lit⟩
theorem CRows.find {K:PySem.W.Frag}{P:Params}(y:Str):∀ {es:List DictEntry}{kvs:List (Str×D)},CRows K P es kvs->match kvs.lookup y with
  |none=>es.find? (λe=>Value.isStrOf y e.key)=none
  |some d=>∃e v,es.find? (λe=>Value.isStrOf y e.key)=some e/\aS v e.val/\∀B,Is K B v d
 |_,_,.nil=>rfl
 |_,_,.tup (x:=x) (t:=t) (a:=a) (ds:=ds) hh l f tl=>by
  by_cases e:y=x
  ·subst e;rw[List.lookup_cons_self];rw[Bool.and_eq_true]at f;obtain⟨vs,r,i⟩:=gI (K:=K) f.2;exact⟨_,.ref a,List.find?_cons_of_pos (by simp[Value.isStrOf]),rfl,λB=>.tup (.inr ⟨_,_,_,l,rfl,rfl,Nat.le_of_lt (Nat.lt_of_le_of_lt (of_decide_eq_true f.1) (by decide)),r⟩) (i B)⟩
  ·have ih:=tl.find y;rw[List.lookup_cons,beq_eq_false_iff_ne.mpr e];have nf:Value.isStrOf y (Value.str x t)=false:=by
    rw[Bool.eq_false_iff];intro z;obtain⟨t',q⟩:=Value.isStrOf_shape z;injection q with q1;exact e q1.symm
   simp only[List.find?_cons,nf];exact ih
 |_,_,.flat (x:=x) (t:=t) (u:=u) (d:=d) hh f tl=>by
  by_cases e:y=x
  ·subst e;rw[List.lookup_cons_self];obtain⟨v,r1,_⟩:=iJ (K:=K) (B:=λ_=>none) f;refine⟨_,v,List.find?_cons_of_pos (by simp[Value.isStrOf]),r1,λB=>?_⟩;obtain⟨v',r1',i'⟩:=iJ (K:=K) (B:=B) f;have:v'=v:=by have z1:=r1.abs;rw[r1'.abs]at z1;exact Option.some.inj z1
   subst this;exact i'
  ·have ih:=tl.find y;rw[List.lookup_cons,beq_eq_false_iff_ne.mpr e];have nf:Value.isStrOf y (Value.str x t)=false:=by
    rw[Bool.eq_false_iff];intro z;obtain⟨t',q⟩:=Value.isStrOf_shape z;injection q with q1;exact e q1.symm
   simp only[List.find?_cons,nf];exact ih
def oP (K:PySem.W.Frag)(P:Params)(a:Addr)(kvs:List (Str×D)):Prop:=∃es n,K.lookup a=some ⟨.type "dict",none,.dict es n,#[]⟩/\CRows K P es.toList kvs/\(a == sysModules)=false
theorem const_dict {K:PySem.W.Frag}{P:Params}{y:Str}{a:Addr}{es:Array DictEntry}{n:Nat}{kvs:List (Str×D)}(e:PySem.W.nsIn K mainGlobals y=some (some (.ref a)))(l:K.lookup a=some ⟨.type "dict",none,.dict es n,#[]⟩)(r:CRows K P es.toList kvs)(s:(a == sysModules)=false):
  ∃a,PySem.W.nsIn K mainGlobals y=some (some (.ref a))/\oP K P a kvs:=⟨a,e,es,n,l,r,s⟩
section
variable {X:Cx}{a b e:Expr}{pos:Pos}{x:Str}{p:Pos}
theorem oP.map {pins:List (Addr×Obj)}{σ:St}{H:Hp}{s:Shared}{d:Addr}{kvs:List (Str×D)}(I:Inv X pins σ H s)(h:oP X.K X.w.params d kvs):∃f:Str->Option Value,s.heap.MapOf (strKind X.prog X.w) d f/\(d == sysModules)=false /\
  ∀y,match kvs.lookup y with|none=>f y=none|some dd=>∃u v,f y=some u/\aS v u/\∀B,Is X.K B v dd:=by
 obtain⟨es,n,l,r,sm⟩:=h;refine⟨_,PySem.W.mapOf_K I.kIn l r.lit,sm,λy=>?_⟩;have:=r.find y;have ff:findBy Value.isStrOf es y=(es.toList.find? λe=>Value.isStrOf y e.key).map (·.val):=by
  unfold findBy;obtain⟨es⟩:=es;rw[List.find?_toArray]
 cases hl:kvs.lookup y with
 |none=>rw[hl]at this;dsimp only at this ⊢;rw[ff,this];rfl
 |some dd=>
  rw[hl]at this;obtain⟨en,v,e1,e2,e3⟩:=this;exact⟨en.val,v,by rw[ff,e1];rfl,e2,e3⟩
@[simp] noncomputable def Id (kvs:List (Str×D)):D->Option (D×Bool)
 |.str y=>(kvs.lookup y).map λd=>(d,false)
 |_=>none
@[simp] noncomputable def cIn (kvs:List (Str×D)):D->Option (D×Bool)
 |.str y=>some (.bl (kvs.lookup y).isSome,false)
 |_=>none
@[simp] noncomputable def HH (kvs:List (Str×D)):D->Option (D×Bool)
 |.str y=>some (.bl (!(kvs.lookup y).isSome),false)
 |_=>none
@[simp] noncomputable def gJ:List D->Option (D×Bool)
 |[.lst ds]=>some (.lst ds,true)
 |[.tup ds]=>some (.lst ds,true)
 |_=>none
@[simp] noncomputable def fD:List D->Option (D×Bool)
 |[.lst ds]=>some (.tup ds,false)
 |[.tup ds]=>some (.tup ds,false)
 |_=>none
theorem ET:bB X (.type "list") (rDA X.K gJ):=by
 refine bB.to pT λxs H Q q=>?_;obtain⟨B,ds,d,bb,sB,i,ee,q⟩:=q;cases i with
 |nil=>simp[gJ]at ee
 |cons i1 i2=>
  cases i2 with
  |cons _ _=>cases i1<;>simp[gJ]at ee
  |nil=>
   cases i1<;>try (simp[gJ]at ee;done)
   ·rename_i l0 vs es h hl;simp only[gJ]at ee;cases ee
    refine⟨_,_,rfl,.inr (aY sB h),λl hp=>?_⟩;have xt:=Ext.laid (o:=.lst vs) sB hp;exact q _ _ _ xt (.lst (SqL.of aF) (hl.mono xt.bn)) λ_=>⟨_,_,_,rfl,rfl,hp,aF,hl.mono xt.bn⟩
   ·rename_i l0 vs es h hl;simp only[gJ]at ee;cases ee
    refine⟨_,_,rfl,.inl (sB.seq h),λl hp=>?_⟩;have xt:=Ext.laid (o:=.lst vs) sB hp;exact q _ _ _ xt (.lst (SqL.of aF) (hl.mono xt.bn)) λ_=>⟨_,_,_,rfl,rfl,hp,aF,hl.mono xt.bn⟩
theorem BY:bB X (.type "tuple") (rDA X.K fD):=by
 refine bB.to nV λxs H Q q=>?_;obtain⟨B,ds,d,bb,sB,i,ee,q⟩:=q;cases i with
 |nil=>simp[fD]at ee
 |cons i1 i2=>
  cases i2 with
  |cons _ _=>cases i1<;>simp[fD]at ee
  |nil=>
   cases i1<;>try (simp[fD]at ee;done)
   ·rename_i l0 vs es h hl;simp only[fD]at ee;cases ee
    exact⟨_,_,rfl,.inr ⟨aY sB h,q.one sB (.tup h hl)⟩⟩
   ·rename_i l0 vs es h hl;simp only[fD]at ee;cases ee
    refine⟨_,_,rfl,.inl ⟨sB.seq h,λl hp=>?_⟩⟩;have xt:=Ext.laid (o:=.tup vs) sB hp;exact q _ _ _ xt (.tup (SqT.of aF) (hl.mono xt.bn)) (by simp)
end
section
variable {X:Cx}{a b e:Expr}{pos:Pos}{x:Str}{p:Pos}
def zE (K:PySem.W.Frag)(n:Nat)(t:TGs):TG:=λv σ H Q=>∃k a xs,v=.ref a/\SqK k K H a xs/\xs.length=n/\t xs σ H Q
theorem EU {es:List Expr}{kt:Nat}{t:TGs}{n:Nat}(hc:X.calm=true)(h:PGs X es t)(hn:(assignEach es X.env).length=n:=by rfl)(hst:(assignEach es X.env).findIdx? (·.1)=none:=by rfl):PG X (.Tuple es kt pos) (zE X.K n t):=by
 intro pins s σ H v u Q I r hw;obtain⟨k,l,xs,rfl,hq,hl,hw⟩:=hw;cases r
 cases k with
 |false=>
  obtain⟨its,rv,ht,hz⟩:=I.tuple hq;refine assign_Tuple_tuple (I.ok.hd hc) ht (by simp[hn,←hl,rv.length]) hst λh' hx=>?_;have I1:Inv X pins σ H { s with heap:=h' }:=I.kept (t':=s.toks) λb o e=>hx b o (Nat.ne_of_lt (Heap.lt_size e)) e;exact h pins _ σ H xs _ Q I1 (by simpa using rv) hw
 |true=>
  obtain⟨its,rv,ht,hz⟩:=I.list hq;rw[assign_Tuple];refine wX (wpAny_standAt ?_);unfold unpack;have hsz:(assignEach es X.env).length=its.toArray.size:=by simp[hn,←hl,rv.length]
  rw[hsz,hst];refine wX (wpAny_holding (PySem.W.kun_itemsOf (I.ok.hd hc) ht.isList λh' hx=>?_));have I1:Inv X pins σ H { s with heap:=h' }:=I.kept (t':=s.toks) λb o e=>hx b o (Nat.ne_of_lt (Heap.lt_size e)) e;exact h pins _ σ H xs _ Q I1 (by simpa using rv) hw
@[simp] noncomputable def sx (is:List Nat)(f:FE):FS:=λρ=>(f ρ).bind λx=>(f8 x.1).bind λds=>(eK is ds (if bd ds=true then ρ else unown ρ)).map .nx
theorem zF {K:PySem.W.Frag}{is:List Nat}{f:FE}{E:Ends}{σ:St}{H:Hp}(q:tDS K (sx is f) E σ H):xz (tD K f) (zE K is.length (km is)) E σ H:=by
 obtain⟨B0,H0,ρ,r,⟨N,s⟩,e,p⟩:=q;obtain⟨x,ex,e⟩:=oX e;obtain⟨ds,es,e⟩:=oX e;obtain⟨ρ',eρ,e⟩:=oY e;subst e;refine⟨N,ρ,x.1,x.2,s.ext.nh,s.rep,ex,λv H1 N1 x1 i1 _=>?_⟩;obtain⟨k,a,vs,rfl,sq,il⟩:=Dy i1 es;have s1:=s.grow x1;refine⟨k,a,vs,rfl,sq.same x1.nh,by rw[il.length];exact ko eρ,?_⟩;by_cases hn:bd ds=true
 ·rw[if_pos hn]at eρ;exact kn s1 (s1.flats il hn) eρ λσ' s'=>p σ' H1 ⟨N1,s'⟩
 ·rw[if_neg hn]at eρ;exact kn s1.unown (il.mono λa o e=>by rw[cf kh];exact e) eρ λσ' s'=>p σ' H1 ⟨N1,s'⟩
theorem BZ {es:List Expr}{kt:Nat}{is:List Nat}{f:FE}{p2:Pos}(he:JE X e f)(hg:PG X (.Tuple es kt p2) (zE X.K is.length (km is)))(hs:swapsWithSole [.Tuple es kt p2] e pos.line X.env=pure false:=by rfl)(hw:swappedStores [.Tuple es kt p2] e X.env=pure none:=by rfl)
  (h1:(assignEach [.Tuple es kt p2] X.env).map (·.2)=[assign (.Tuple es kt p2) X.env]:=by rfl):JS X (.Assign [.Tuple es kt p2] e pos) (sx is f):=PS.to (yM he hg hs hw h1) λ_ _ _ q=>zF q
@[simp] noncomputable def xZ (i:Nat)(fk fv:FE):FS:=λρ=>match ρ[i]? with
 |some (some (.lst ds,true))=>(fv ρ).bind λv=>(fk ρ).bind λk=>match k.1 with
  |.int j=>(ixN ds.length j).bind λn=>if aZ v.1=true then some (.nx (ρ.set i (some (.lst (ds.set n v.1),true))))else none
  |_=>none
 |_=>none
theorem zG {i:Nat}{y:Str}{py pt:Pos}{k:Expr}{fk fv:FE}(hv:JE X e fv)(hk:JE X k fk)(hN:X.N[i]? = some y:=by rfl)(hvis:Vis X.env.scope y:=by first|exact Or.inl rfl|exact Or.inr (Or.inl rfl)|exact Or.inr (Or.inr rfl))(hd:(y == ("__debug__" : Str))=false:=by decide)
  (hcd:(y == ("__classdict__" : Str))=false:=by decide)
  (ha:∀v,assign (.Subscript (.Name y py) k pt) X.env v=(do
   let ov ←holding [v] (eval (.Name y py) X.env)
   let iv ←holding [v,ov] (eval k X.env)
   standAt pt
   holding [v,ov,iv] (setItem ov iv v)
   release [v,ov,iv] []):=by intro _;rfl)
  (hs:swapsWithSole [.Subscript (.Name y py) k pt] e pos.line X.env=pure false:=by rfl) (hw:swappedStores [.Subscript (.Name y py) k pt] e X.env=pure none:=by rfl)
  (h1:(assignEach [.Subscript (.Name y py) k pt] X.env).map (·.2)=[assign (.Subscript (.Name y py) k pt) X.env]:=by rfl):JS X (.Assign [.Subscript (.Name y py) k pt] e pos) (xZ i fk fv):=by
 refine PS.to (yM hv (Eb (lK hN hvis hd hcd) hk yV ha) hs hw h1) λE σ H q=>?_;obtain⟨B0,H0,ρ,r,⟨N,s⟩,ee,p⟩:=q;unfold xZ at ee;split at ee
 ·rename_i ds ei;obtain⟨v,ev,ee⟩:=oX ee;obtain⟨kk,ek,ee⟩:=oX ee;obtain⟨kd,kb⟩:=kk;cases kd with
  |int j=>
   dsimp only at ee;obtain⟨n,en,ee⟩:=oX ee;split at ee
   ·rename_i hn;cases ee
    refine⟨N,ρ,v.1,v.2,s.ext.nh,s.rep,ev,λv1 H1 N1 x1 i1 _=>?_⟩;have s1:=s.grow x1;obtain⟨l,vs,ds',z,h1,h2,h3,h4⟩:=s1.owL i _ ei;cases z
    refine⟨_,h1,N1,ρ,_,_,s1.ext.nh,s1.rep,ek,λkv H2 N2 x2 i2 _=>?_⟩;cases i2
    have s2:=s1.grow x2;obtain⟨l',vs',ds',z,k1,k2,k3,k4⟩:=s2.owL i _ ei;cases z
    rw[h1]at k1;cases k1;exact⟨l,vs',j,n,rfl,rfl,s2.ext.nh _ _ k2,by rw[k4.length];exact en,p σ _ ⟨_,s2.write ei h1 (IsL.set (s2.flat (i1.mono x2.bn) hn) n k4)⟩⟩
   ·cases ee
  |_=>cases ee
 ·cases ee
@[simp] noncomputable def Ie (i:Nat)(g:List D->Option (List D)):FS:=λρ=>match ρ[i]? with
 |some (some (.lst ds,true))=>(g ds).map λes=>.nx (ρ.set i (some (.lst es,true)))
 |_=>none
@[simp] noncomputable def Ig (i:Nat)(f:FE):FS:=λρ=>match ρ[i]? with
 |some (some (.lst ds,true))=>(f ρ).bind λx=>match x.1 with
  |.lst es=>if x.2=true/\bd es=true/\ds.length+es.length<=sizeLine then some (.nx (ρ.set i (some (.lst (ds++es),true))))else none
  |_=>none
 |_=>none
@[simp] noncomputable def qk:List D->Option (D×Bool)
 |[.int i]=>some (.int i,false)
 |[.bl b]=>some (.int (if b then 1 else 0),false)
 |_=>none
theorem D0:bB X (.type "int") (rDA X.K qk):=by
 refine bB.to xH λxs H Q q=>?_;obtain⟨B,ds,d,bb,sB,i,ee,q⟩:=q;cases i with
 |nil=>simp[qk]at ee
 |cons i1 i2=>
  cases i2 with
  |cons _ _=>cases i1<;>simp[qk]at ee
  |nil=>
   cases i1<;>try (simp[qk]at ee;done)
   ·simp only[qk]at ee;cases ee
    exact .inr ⟨_,rfl,q.one sB (.int _)⟩
   ·simp only[qk]at ee;cases ee
    exact .inl ⟨_,rfl,q.one sB (.int _)⟩
end
open AutoSeq1 (wpAny_loadPart')
set_option maxRecDepth 100000
noncomputable def sqT (k:Bool):String:=if k=true then "list" else "tuple"
theorem sy (k:Bool)(l:Addr)(items:Array Value)(n:Nat)(dct:Option Addr)(sl:Array (Option Value)):
  Meets (Builtin.«enumerate.__new__» ⟨[.type "enumerate",.ref l],[]⟩) (λ_ R s=>s.heap.get? l=some { cls:=.type (sqT k),dict:=dct,data:=.seq items n,slots:=sl } /\
   R (.ok (.ret (.ref (s.heap.push (itO k l)).objs.size))) { s with heap:=(s.heap.push (itO k l)).push { cls:=.type "enumerate",data:=.fields #[.none,.bool false,.ref s.heap.objs.size,rawInt 0,.none,.none] } }) :=
 .of_wp λprog w A R s hs=>by
  obtain⟨hp,g,d,tk,os⟩:=s;obtain⟨hl,hs⟩:=hs;have hsub:=sub_enumerate;have hL:KSq k (Shared.heap ⟨hp,g,d,tk,os⟩) l items:=by cases k<;>exact⟨_,hl,rfl,n,rfl⟩
  wp_walk using wpAny_loadPart' hl;refine wpAny_stack_any λst=>wY ?_;split
  ·rename_i c _ _ _ _ _;cases (c == Value.type "enumerate")
   ·wp_walk using wpAny_loadPart' hl,qi hL;exact⟨_,rfl,hs⟩
   ·wp_walk using wpAny_loadPart' hl,qi hL;exact⟨_,rfl,hs⟩
  ·wp_walk using wpAny_loadPart' hl,qi hL;exact⟨_,rfl,hs⟩
section
variable {prog:Program}{w:World}{A:Around}{E:Value->Shared->Prop}{s:Shared}
theorem zH {k:Bool}{l:Addr}{items:Array Value}{Q:Value->Shared->Prop}(hL:KSq k s.heap l items)
  (q:∀h',IsEnum h' (s.heap.objs.size+1) s.heap.objs.size 0 .none->KIt k h' s.heap.objs.size l 0->(∀b o,s.heap.get? b=some o->h'.get? b=some o)->Q (.ref (s.heap.objs.size+1)) { s with heap:=h' }):
  wpAny (model prog w) A (call (.type "enumerate") [.ref l]) Q E s:=by
 have hh:∃(dct:Option Addr)(sl:Array (Option Value))(n:Nat),s.heap.get? l=some { cls:=.type (sqT k),dict:=dct,data:=.seq items n,slots:=sl }:=by
  cases k<;>(obtain⟨⟨c,dct,dt,sl⟩,hl,hc,n,hd⟩:=hL;dsimp only at hc hd;subst hc;subst hd;exact⟨dct,sl,n,hl⟩)
 obtain⟨dct,sl,n,hl⟩:=hh;refine callType_new PySem.F.called_enumerate (by decide) (PySem.F.typeCall_enumerate_1 _) (PySem.F.newCall_enumerate_1 _) (λobj=>PySem.F.args_object_init_2 obj _) PySem.F.entry_enumerate_new (sy k l items n dct sl) ⟨hl,?_⟩;have n1:(s.heap.push (itO k l)).objs.size=s.heap.objs.size+1:=Heap.size_push ..;have g2:((s.heap.push (itO k l)).push { cls:=.type "enumerate",data:=.fields #[.none,.bool false,.ref s.heap.objs.size,rawInt 0,.none,.none] }).get? (s.heap.push (itO k l)).objs.size=some _:=Heap.get?_push_size _ rfl;have g1:((s.heap.push (itO k l)).push { cls:=.type "enumerate",data:=.fields #[.none,.bool false,.ref s.heap.objs.size,rawInt 0,.none,.none] }).get? s.heap.objs.size=some _:=Heap.get?_push_of_some _ (Heap.get?_push_size _ (by cases k<;>rfl))
 rw[n1]at g2;show _/\_;rw[n1];refine⟨⟨_,g2,rfl⟩,q _ g2 ?_ λb o e=>Heap.get?_push_of_some _ (Heap.get?_push_of_some _ e)⟩;cases k<;>exact⟨_,g1,rfl,rfl⟩
theorem EV (hA:A.handled=none){k:Bool}(it l:Addr)(hne:l≠it)(items:Array Value):Draws prog w A it [it,l] items.size (λi v=>items[i]? = some v) (λi h=>KIt k h it l i/\KSq k h l items) where
 live:=λi h st=>let ⟨o,e,_⟩:=st.1.ob;⟨o,e⟩
 frame:=λi h h' st kk=>⟨st.1.upon λo e=>kk it (by simp) o e,st.2.upon λo e=>kk l (by simp) o e⟩
 item:=λi s Q E hi st q=>xY st.1 st.2 (v:=items[i]) (by simp[hi]) λh' st' sb=>q _ h' s.toks (by simp[hi]) ⟨st',st.2.upon λo e=>sb.extBut _ _ hne e⟩ sb
 done:=λs Q E st q=>sw hA st.1 st.2 (by simp) q
theorem EW (hA:A.handled=none){k:Bool}(it l:Addr)(items:Array Value)(n:Nat)(hn:items[n]? = none):Draws prog w A it [it,l] n (λ_ _=>True) (λi h=>(KIt k h it l i/\KSq k h l items)/\i=n) where
 live:=λi h st=>let ⟨o,e,_⟩:=st.1.1.ob;⟨o,e⟩
 frame:=λi h h' st kk=>⟨⟨st.1.1.upon λo e=>kk it (by simp) o e,st.1.2.upon λo e=>kk l (by simp) o e⟩,st.2⟩
 item:=λi s Q E hi st q=>absurd st.2 (Nat.ne_of_lt hi)
 done:=λs Q E st q=>sw hA st.1.1 st.1.2 hn q
end
noncomputable def Ite (K:PySem.W.Frag)(k:Bool)(a:Addr):It :=
  ⟨λi H=>∃xs x,SqK k K H a xs/\xs[i]? = some x,
   λi H v H'=>∃T x,v=.ref T/\H T=none/\H'=upd H T (.tup [.int i,x])/\∀xs,SqK k K H a xs->xs[i]? = some x,
   λi H=>∃xs,SqK k K H a xs/\xs.length<=i⟩
theorem ya {P:Program}{w:World}{K:PySem.W.Frag}{es:List Expr}{kt:Nat}{pt:Pos}{k:Bool}{a e it:Addr}(hei:e≠it)(hae:a≠e)(hai:a≠it):
  Turn P w K (.Tuple es kt pt) (Ite K k a) [e,it] e (λi h=>(∃old,IsEnum h e it i old)/\KIt k h it a i) where
 mem:=by simp
 obj:=λi h st b hb=>by
  obtain⟨⟨old,he⟩,t1⟩:=st;simp at hb;rcases hb with rfl|rfl
  ·exact⟨_,he,λv z=>by cases z⟩
  ·exact t1.ob
 keep:=λi h h' st kk=>by
  obtain⟨⟨old,he⟩,t1⟩:=st;exact⟨⟨old,kk e (by simp) _ he⟩,t1.upon λo q=>kk it (by simp) o q⟩
 item:=by
  intro X hP hw hK hc i pins s σ H E I hf st hg;subst hP hw hK;obtain⟨⟨old,he⟩,t1⟩:=st;obtain⟨xs,x,q1,hx⟩:=hg;obtain⟨its,r1,p1,z1⟩:=q1.vals I;obtain⟨u,hu,ru⟩:=r1.get hx;have fresh:H s.heap.objs.size=none:=I.hok.fresh (Nat.le_refl _);have ilt:i<its.toArray.size:=by rw[List.size_toArray];exact(List.getElem?_eq_some_iff.mp hu).1
  have hel:e≠s.heap.objs.size:=Nat.ne_of_lt (Heap.lt_size he);have hil:it≠s.heap.objs.size:=by obtain⟨o,q,_⟩:=t1.ob;exact Nat.ne_of_lt (Heap.lt_size q)
  refine wpAny_pyNext_enum_itemD (EV (A:=X.A.in1) (I.ok.hd hc) it a hai its.toArray) he ⟨t1,p1⟩ ilt hei (by simp[hei,hae.symm]) λv h' tk hv ho st' hT hsz hk=>?_;have ev:v=u:=by
   have hv':its[i]? = some v:=by simpa using hv
   rw[hu]at hv';exact(Option.some.inj hv').symm
  subst ev;refine⟨_,rfl,wpAny_letOwnedTupleGo_enum (s:={ s with heap:=h',toks:=tk+1 }) ho λh2 he2 s2=>?_⟩;have s2':Heap.SameBut e h' h2:=s2;have kk:∀b o,b∉[e,it]->s.heap.get? b=some o->h2.get? b=some o:=λb o hb q=>s2'.extBut _ _ (λz=>hb (by simp[z])) (hk b o (λz=>hb (by simp[z])) (λz=>hb (by simp[z])) q);have new:bz X.prog X.w (upd H s.heap.objs.size (.tup [.int i,x])) h2 s.heap.objs.size (.tup [.int i,x]):=⟨by show 2<=sizeLine;decide,[.int i tk,v],.cons ⟨tk,rfl⟩ (.cons ru .nil),⟨_,s2'.extBut _ _ hel.symm hT,rfl,_,rfl⟩⟩;refine⟨.ref s.heap.objs.size,upd H s.heap.objs.size (.tup [.int i,x]),GH (s:=s) (t':=tk+1) I hf kk (Nat.le_refl _) new,rfl,⟨_,x,rfl,fresh,rfl,λzs hq=>by rw[SqK.inj I hq q1];exact hx⟩,?_,λb hb=>?_⟩
  ·exact⟨⟨_,by have:=he2;rw[show((i:Int)+1)=((i+1:Nat):Int) by omega]at this;exact this⟩,st'.1.upon λo q=>s2'.extBut _ _ hei.symm q⟩
  ·have hne:b≠s.heap.objs.size:=by
    simp at hb;rcases hb with rfl|rfl
    ·exact hel
    ·exact hil
   rw[aH hne];exact(hf b hb).1
 done:=by
  intro X hP hw hK hc i pins s σ H E I hf st hg;subst hP hw hK;obtain⟨⟨old,he⟩,t1⟩:=st;obtain⟨xs,q1,hl⟩:=hg;obtain⟨its,r1,p1,z1⟩:=q1.vals I;have n1:=r1.length;refine wpAny_pyNext_enum_endD (EW (A:=X.A.in1) (I.ok.hd hc) it a its.toArray i (by simp;omega)) he ⟨⟨t1,p1⟩,rfl⟩ λh' hk=>⟨rfl,?_⟩;exact qj (t':=s.toks) I hf λb o hb q=>hk b o (λz=>hb (by simp[z])) q
 self:=λ_ _ _ _ _ st h=>let ⟨⟨_,he⟩,_⟩:=st;wpAny_pyIter_enum he h
section
variable {X:Cx}{a b e:Expr}{pos:Pos}{p:Pos}
theorem sA:bootBuiltins "enumerate" = some (.type "enumerate"):=by decide +kernel
noncomputable def oQ (ds:List D):List D:=ds.mapIdx λi d=>.tup [.int i,d]
@[simp] noncomputable def zI (fa:FE):FA:=λρ=>(fa ρ).bind λx=>(f8 x.1).map oQ
theorem Ca {K:PySem.W.Frag}{N:Hp}{k:Bool}{l:Addr}{vs:List V}{ds:List D}(h1:SqK k K N l vs)(i1:IsL K N vs ds):nW K (Ite K k l) N (oQ ds):=by
 intro i H' sm;have n1:=i1.length;refine⟨λd ed=>?_,λhl=>⟨vs,h1.same sm,?_⟩⟩
 ·unfold oQ at ed;rw[List.getElem?_mapIdx]at ed;obtain⟨x,e1,rfl⟩:=oY ed;obtain⟨v,ev,iv⟩:=i1.get e1;refine⟨⟨vs,v,h1.same sm,ev⟩,λr H2 hy=>?_⟩;obtain⟨T,v',rfl,hT,rfl,f1⟩:=hy;have e3:=f1 vs (h1.same sm);rw[ev]at e3;cases e3;have xt:=Ext.laid (o:=.tup [.int i,v]) sm hT;exact⟨_,xt,.tup (SqT.of aF) (.cons (.int _) (.cons (iv.mono xt.bn) .nil))⟩
 ·unfold oQ at hl;rw[List.length_mapIdx]at hl;omega
theorem Cb {es:List Expr}{kt:Nat}{pt:Pos}{fa:FE}(hm:X.mg "enumerate" = none)(ha:JE X a fa)(hg:Gl X "enumerate":=by rfl)(hs:starEach [a] X.env=[(false,eval a X.env)]:=by rfl):
  JI X (.Tuple es kt pt) (.Call (.Name "enumerate" p) [a] [] pos) (zI fa):=by
 intro pins s σ H R I q;refine Call_ (ia I hg hm sA (PyProof.Rows.callWith_type1 (thn (aa ha af hs pos pins s σ H (λvs H1=>∃(k:Bool)(l:Addr)(us:List V),vs=[.ref l]/\SqK k X.K H1 l us/\R (Ite X.K k l) H1) I ?_) λus s1 ⟨vs,H1,I1,r1,q1⟩=>?_) hs rfl))
 ·obtain⟨B,ρ,ds,sB,r,ee,q⟩:=q;obtain⟨x1,ex,ee⟩:=oX ee;obtain⟨xs,exs,ee⟩:=oY ee;subst ee;refine⟨B,ρ,[x1.1],sB,r,by simp[ac,ah,ex],λvs H1 N1 xt i1=>?_⟩;cases i1 with
  |cons j1 j2=>
   cases j2
   obtain⟨k1,l1,us,rfl,s1,m1⟩:=Dy j1 exs;exact⟨k1,l1,us,rfl,s1.same xt.nh,q _ H1 N1 xt (Ca s1 m1)⟩
 ·obtain⟨k,l,ws,rfl,h1,q⟩:=q1;obtain⟨u1,rfl,ru1⟩:=r1.one;cases ru1
  obtain⟨its,v1,p1,z1⟩:=h1.vals I1;have lt1:=p1.lt;refine zH p1 λh' c1 c2 ck=>?_;refine wpAny_pyIter_enum c1 ⟨s1.heap.objs.size+1,[s1.heap.objs.size+1,s1.heap.objs.size],_,_,H1,rfl,I1.kept (t':=s1.toks) ck,
   ya (Nat.succ_ne_self _) (Nat.ne_of_lt (Nat.lt_succ_of_lt lt1)) (Nat.ne_of_lt lt1),⟨⟨_,c1⟩,c2⟩,λb hb=>?_,q⟩
  have hle:s1.heap.objs.size<=b:=by
   simp at hb;rcases hb with rfl|rfl
   ·exact Nat.le_succ _
   ·exact Nat.le_refl _
  exact I1.fpOk hle (I1.hok.fresh hle)
end
end DL
namespace DL
open PySem PySem.Spec PyProof.Rows
theorem yc (t:SetTable)(es:Array (Int×Value))(n:Nat):(relayAll t es n).2.1.led=t.led:=by
 unfold relayAll;split
 ·rename_i t' order h;unfold SetTable.relaid SetTable.laid at h;obtain⟨ow,_,h⟩:=oX h;cases h
  dsimp only;split<;>rfl
 ·rfl
theorem sC (t:SetTable)(es:Array (Int×Value))(n:Nat)(hp:t.plain=false):(relayAll t es n).2.1.plain=false:=by
 unfold relayAll;split
 ·rename_i t' order h;unfold SetTable.relaid SetTable.laid at h;obtain⟨ow,_,h⟩:=oX h;cases h
  dsimp only;split
  ·exact hp
  ·rfl
 ·rfl
theorem Cc (t:SetTable)(es:Array (Int×Value))(h:Int)(x:Value):(layNew t es h x).2.1.led=t.led:=by
 unfold layNew;split
 ·dsimp only[SetTable.put,SetTable.orStandIn];repeat' (first|rfl|split)
 ·rfl
structure TabT (w:World)(es:Array (Int×Value))(t:SetTable):Prop where
 fits:t.fits es.size=true
 led:t.led = !w.params.followText "set-order"
 plain:es.size≠0->t.plain=false
def gb (prog:Program)(w:World)(h:Heap)(a:Addr)(ts:List Str):Prop :=
 ∃o es ep t,h.get? a=some o/\o.ExactSet/\o.data=.set es ep t/\ElemsOf (PySem.strKind prog w) es.toList/\(es.toList.map (λe=>strOf e.2)).Perm ts/\ts.Nodup/\ts.length<scanBound/\TabT w es t
noncomputable def hZ (ts:List Str)(x:Str):List Str:=if x∈ts then ts else ts++[x]
theorem zJ (ts:List Str)(x:Str):(hZ ts x).length<=ts.length+1:=by unfold hZ;split<;>simp
theorem sD {k:Str}{v:Value}(h:Value.isStrOf k v=true):strOf v=k:=by obtain⟨t,rfl⟩:=Value.isStrOf_shape h;rfl
section
variable {prog:Program}{w:World}{A:Around}{E:Value->Shared->Prop}{s:Shared}
theorem oR {es:Array (Int×Value)}{ts:List Str}(hel:ElemsOf (PySem.strKind prog w) es.toList)(hp:(es.toList.map (λe=>strOf e.2)).Perm ts)(k:Str):k∈ts ↔ ∃e∈es.toList,(PySem.strKind prog w).is k e.2=true:=by
 rw[←hp.mem_iff,List.mem_map];constructor
 ·rintro⟨e,he,rfl⟩;obtain⟨⟨k',hk,_⟩,_⟩:=hel e he;have hk':Value.isStrOf k' e.2=true:=hk;refine⟨e,he,?_⟩;show Value.isStrOf (strOf e.2) e.2=true;rw[sD hk'];exact hk'
 ·rintro⟨e,he,hk⟩;exact⟨e,he,sD hk⟩
theorem oS {h:Heap}{a:Addr}{o:Obj}{es:Array (Int×Value)}{ep:Nat}{t:SetTable}(ho:h.get? a=some o)(hd:o.data=.set es ep t)(es':Array (Int×Value))(t':SetTable):
  (h.update a (Obj.putSet es' t')).get? a=some { o with data:=.set es' (ep+1) t' }:=by
 have:=Heap.get?_update_self (Obj.putSet es' t') ho (by rw[putSet_of es' t' hd];rfl);rw[putSet_of es' t' hd]at this;exact this
theorem sE {g:Bool->Sem Unit}(hg:∀(b:Bool)(s₁:Shared)(Q':Unit->Shared->Prop),Q' () s₁->wpAny (model prog w) A (g b) Q' E s₁)
  {a:Addr}{o:Obj}{es:Array (Int×Value)}{ep:Nat}{t:SetTable}(ho:s.heap.get? a=some o) (hex:o.ExactSet) (hd:o.data=.set es ep t)
  {es1:Array (Int×Value)}{t2:SetTable}{ts:List Str}(hel1:ElemsOf (PySem.strKind prog w) es1.toList) (hp1:(es1.toList.map (λe=>strOf e.2)).Perm ts) (nd:ts.Nodup)
  (hb1:ts.length<scanBound) (hf2:t2.fits es1.size=true) (hl2:t2.led = !w.params.followText "set-order") (hpl:t2.plain=false) {wasDummy:Bool}{R:Option Bool->Shared->Prop}
  (h:∀h',Heap.SameBut a s.heap h'->gb prog w h' a ts->R (some true) { s with heap:=h' }):
  wpAny (model prog w) A (do
    storeSet a es1 t2
    if(!wasDummy && t2.tooFull)=true then do
      g (relayAll t2 es1 (SetTable.grown es1.size)).2.2
      storeSet a (relayAll t2 es1 (SetTable.grown es1.size)).1 (relayAll t2 es1 (SetTable.grown es1.size)).2.1
      pure (some true)
     else pure (some true)) R E s:=by
 have sz1:es1.size=ts.length:=by rw[←hp1.length_eq,List.length_map,Array.length_toList]
 refine wX (wpAny_storeSet_of ho hd ?_ (fits_of_scanBound (by rw[sz1];exact hb1)));have ho1:=oS ho hd es1 t2;have hsb1:=Heap.SameBut.update s.heap a (Obj.putSet es1 t2);split
 ·have hp:=relayAll_perm t2 es1 (SetTable.grown es1.size);have hfr:=relayAll_fits t2 es1 (SetTable.grown es1.size);have hle:=yc t2 es1 (SetTable.grown es1.size);have hpa:=sC t2 es1 (SetTable.grown es1.size) hpl;generalize hRl:relayAll t2 es1 (SetTable.grown es1.size)=Rl at hp hfr hle hpa ⊢;obtain⟨es2,t3,gave2⟩:=Rl;dsimp only at hp hfr hle hpa ⊢;have hel2:ElemsOf (PySem.strKind prog w) es2.toList:=hel1.perm hp;have hsz:es2.size=es1.size:=by rw[←Array.length_toList,hp.length_eq,Array.length_toList]
  refine wX (hg _ _ _ ?_);refine wX (wpAny_storeSet_of ho1 rfl ?_ (fits_of_scanBound (by rw[hsz,sz1];exact hb1)));have ho2:=oS ho1 rfl es2 t3;exact wY (h _ (hsb1.trans (Heap.SameBut.update _ a _)) ⟨_,es2,_,t3,ho2,hex,rfl,hel2,(hp.map _).trans hp1,nd,hb1,hfr,hle.trans hl2,λ_=>hpa⟩)
 ·exact wY (h _ hsb1 ⟨_,es1,_,t2,ho1,hex,rfl,hel1,hp1,nd,hb1,hf2,hl2,λ_=>hpl⟩)
theorem uS {a:Addr}{ts:List Str}{k:Str}{tk:Tok}{Q:Bool->Shared->Prop}(hS:gb prog w s.heap a ts)(hroom:ts.length+1<scanBound)
  (h:∀b h',Heap.SameBut a s.heap h'->gb prog w h' a (hZ ts k)->Q b { s with heap:=h' }):
  wpAny (model prog w) A (setAddHashed a (.str k tk) ((PySem.strKind prog w).hash k)) Q E s:=by
 have hS0:=hS;obtain⟨o,es,ep,t,ho,hex,hd,hel,hperm0,nd,hb,hf,hled,hpl⟩:=hS;have hkey:(PySem.strKind prog w).is k (.str k tk)=true:=strKind_is prog w k tk;have sz:es.size=ts.length:=by rw[←hperm0.length_eq,List.length_map,Array.length_toList]
 unfold setAddHashed setAddHashedIn;refine wpAny_holding (wX (wpAny_setState_of ho hd hf ?_));dsimp only;rw[byScan_of (x:=.str k tk) rfl (by rw[sz];exact hb) hel];simp only[↓reduceIte];unfold setAddByScan;refine wX ?_;refine wX (wpAny_rule ?_);refine wX (wpAny_setScan_of hkey ho hd hf hel ?_);cases hr:List.findIdx? (λe=>(PySem.strKind prog w).is k e.2) es.toList with
 |some j=>
  dsimp only;obtain⟨hj,hpj,_⟩:=List.findIdx?_eq_some_iff_getElem.mp hr;have hm:k∈ts:=(oR hel hperm0 k).mpr ⟨es.toList[j],List.getElem_mem hj,hpj⟩;refine wY (wY ?_);have e:hZ ts k=ts:=by unfold hZ;rw[if_pos hm]
  exact h false s.heap (Heap.SameBut.refl a s.heap) (by rw[e];exact hS0)
 |none=>
  dsimp only;have hm:k∉ts:=λz=>by
   obtain⟨e,he,hp⟩:=(oR hel hperm0 k).mp z;have:=List.findIdx?_eq_none_iff.mp hr e he;rw[hp]at this;exact Bool.noConfusion this
  have ea:hZ ts k=ts++[k]:=by unfold hZ;rw[if_neg hm]
  have hgw:∀(b:Bool){s₁:Shared}{Q':Unit->Shared->Prop},Q' () s₁->wpAny (model prog w) A (match b with|true=>rule "set.scan.the-table-gave-way" | false=>pure ()) Q' E s₁ :=
   λb s₁ Q' hq=>by cases b<;>first|exact wY hq|exact wpAny_rule hq
  have hperm:=layNew_perm t es ((PySem.strKind prog w).hash k) (.str k tk);have hfits:=layNew_fits t es ((PySem.strKind prog w).hash k) (.str k tk);have hl1:=Cc t es ((PySem.strKind prog w).hash k) (.str k tk);generalize hL:layNew t es ((PySem.strKind prog w).hash k) (.str k tk)=L at hperm hfits hl1 ⊢;obtain⟨es1,t1,wasDummy,gave⟩:=L;dsimp only at hperm hfits hl1 ⊢;rw[Array.toList_push]at hperm;have hel1:ElemsOf (PySem.strKind prog w) es1.toList:=(hel.push hkey rfl).perm hperm;have hp1:(es1.toList.map (λe=>strOf e.2)).Perm (ts++[k]):=(hperm.map _).trans (by rw[List.map_append];exact hperm0.append_right _);have nd1:(ts++[k]).Nodup:=by
   rw[List.nodup_append];refine⟨nd,by simp,λx hx y hy=>?_⟩;rw[List.mem_singleton]at hy;subst hy;exact λz=>hm (z ▸ hx)
  have hb1:(ts++[k]).length<scanBound:=by rw[List.length_append];exact hroom
  refine wX (hgw _ ?_);have hend:∀h',Heap.SameBut a s.heap h'->gb prog w h' a (ts++[k])->Q true { s with heap:=h' }:=λh' hsb hS'=>h true h' hsb (by rw[ea];exact hS');split
  ·refine wX ?_;rw[hashByValue_scannable 8 (x:=.str k tk) rfl];refine wY ?_;refine sE ?_ ho hex hd hel1 hp1 nd1 hb1 ?_ ?_ ?_ ?_
   ·intro b s₁ Q' hq;cases b<;>first|exact wY hq|exact wpAny_rule hq
   ·exact SetTable.fits_plain_off hfits
   ·exact hl1.trans hled
   ·rfl
   ·intro h' hsb hS';dsimp only;exact wY (hend h' hsb hS')
  ·rename_i hnp;refine wX (wY ?_);simp only[↓reduceIte];refine sE ?_ ho hex hd hel1 hp1 nd1 hb1 hfits (hl1.trans hled) (by simpa using hnp) ?_
   ·intro b s₁ Q' hq;cases b<;>first|exact wY hq|exact wpAny_rule hq
   ·intro h' hsb hS';dsimp only;exact wY (hend h' hsb hS')
end
noncomputable def fO (ss:List Str):List Str:=ss.foldl hZ []
theorem uT {ts:List Str}(h:ts.Nodup)(x:Str):(hZ ts x).Nodup:=by
 unfold hZ;split
 ·exact h
 ·rename_i hm;rw[List.nodup_append];refine⟨h,by simp,λy hy z hz=>?_⟩;rw[List.mem_singleton]at hz;subst hz;exact λe=>hm (e ▸ hy)
theorem sF {ts:List Str}{x y:Str}:y∈hZ ts x↔y∈ts∨y=x:=by
 unfold hZ;split
 ·rename_i hm;exact⟨.inl,λz=>z.elim id λe=>e ▸ hm⟩
 ·simp
theorem ql (ss:List Str):∀ts:List Str,(ss.foldl hZ ts).length<=ts.length+ss.length:=by
 induction ss with
 |nil=>intro ts;simp
 |cons x r ih=>intro ts;rw[List.foldl_cons];have:=ih (hZ ts x);have:=zJ ts x;simp only[List.length_cons];omega
theorem lW (ss:List Str):(fO ss).length<=ss.length:=by have:=ql ss [];simpa [fO]using this
theorem ye (ss:List Str)(x:Str):fO (ss++[x])=hZ (fO ss) x:=by unfold fO;rw[List.foldl_append];rfl
theorem StrsAre.at:∀ {vs:List Value}{ss:List Str},StrsAre vs ss->∀(i:Nat)(v:Value),vs[i]? = some v->∃x t,v=.str x t/\ss[i]? = some x
 |_,_,.nil,i,v,h=>by simp at h
 |_,_,.cons x t hr,0,v,h=>by simp at h;exact⟨x,t,h.symm,rfl⟩
 |_,_,.cons x t hr,i+1,v,h=>by
  simp only[List.getElem?_cons_succ]at h;exact StrsAre.at hr i v h
theorem gb.at {prog:Program}{w:World}{h h':Heap}{a:Addr}{ts:List Str}(x:gb prog w h a ts)(k:∀o,h.get? a=some o->h'.get? a=some o):gb prog w h' a ts:=by
 obtain⟨o,es,ep,t,ho,r⟩:=x;exact⟨o,es,ep,t,k o ho,r⟩
section
variable {prog:Program}{w:World}{A:Around}{R:Result->Shared->Prop}{I:Addr}{fp wr:List Addr}{G:Array GenState->Array GenState->Prop}{n:Nat}{P:Nat->Value->Prop}{St:Nat->Shared->Prop}
theorem qm (W:WalksS prog w A.in1 I fp wr G n P St)(S:Addr)(hSf:S∉fp)(ss:List Str)(hn:ss.length=n)
  (hval:∀i v,P i v->∃x t,v=.str x t/\ss[i]? = some x) (hb:n+1<scanBound):
  ∀(k i:Nat)(s:Shared),n - i=k->i<=n->St i s->gb prog w s.heap S (fO (ss.take i)) ->
   (∀s',Moved (S::wr) G s s'->gb prog w s'.heap S (fO ss)->R (.ok (.ret .none)) s') ->
   codeAny (model prog w) A (.builtin "set.update.loop" ⟨[.ref S,.ref I],[]⟩) R s:=by
 have hSw:S∉wr:=λh=>hSf (W.sub _ h);have hsub:∀b∈wr,b∈S::wr:=λb hb=>mZ _ hb;intro k;induction k with
 |zero=>
  intro i s hk hi hst hS hR;have hin:i=n:=by omega
  subst hin;refine codeAny_builtin PyProof.Rows.F.entry_set_update_loop ?_;rw[Around.under_plainId PyProof.Rows.F.plain_set_update_loop _];show wpAny _ A.in1 (pyNext (.ref I)>>=_) _ _ s;refine wX (W.done s _ _ hst λs' hm=>?_);show wpAny _ A.in1 (ret Value.none) _ _ s';refine wY (hR s' (hm.mono hsub) ?_);rw[List.take_of_length_le (by omega)]at hS;exact hS.at λo e=>hm.heap S _ hSw e
 |succ k ih=>
  intro i s hk hi hst hS hR;have hlt:i<n:=by omega
  refine codeAny_builtin PyProof.Rows.F.entry_set_update_loop ?_;rw[Around.under_plainId PyProof.Rows.F.plain_set_update_loop _];show wpAny _ A.in1 (pyNext (.ref I)>>=_) _ _ s;refine wX (W.item i s _ _ hlt hst λv s' hP hst' hm=>?_);obtain⟨x,t,rfl,hx⟩:=hval i v hP;have hS':gb prog w s'.heap S (fO (ss.take i)):=hS.at λo e=>hm.heap S _ hSw e;show wpAny _ A.in1 (holding [Value.str x t] (setAdd S (.str x t))>>=_) _ _ s';refine wX (wpAny_holding ?_);unfold setAdd;refine wpAny_holding ?_;refine wX ((PySem.strKind prog w).pyHash (k:=x) (strKind_is prog w x t) ?_);have hl:(fO (ss.take i)).length+1<scanBound:=by have:=lW (ss.take i);rw[List.length_take]at this;omega
  refine uS (s:={ s' with toks:=s'.toks+1 }) hS' hl λb h' hsb hS2=>?_;have hS3:gb prog w h' S (fO (ss.take (i+1))):=by
   rw[List.take_add_one,hx,Option.toList_some,ye];exact hS2
  refine wY ⟨plainId_quiet PyProof.Rows.F.plain_set_update_loop _,ih (i+1) _ (by omega) hlt (W.frame _ s' _ _ hst' (Nat.le_succ _) λb hb o e=>?_) hS3 λs'' hm'' hS''=>?_⟩
  ·rw[hsb.2 b (λh:b=S=>hSf (by rw[←h];exact hb))];exact e
  ·refine hR s'' (Moved.trans W.gtrans ((hm.mono hsub).then_heap (Nat.le_succ _) λb o hb e=>?_) hm'') hS'';rw[hsb.2 b (λh:b=S=>hb (by rw[h];exact mX))];exact e
end
section
variable {prog:Program}{w:World}{A:Around}{E:Value->Shared->Prop}{s:Shared}
noncomputable abbrev di (w:World):Obj:={ cls:=.type "set",dict:=none,data:=.set #[] 0 (.fresh 0 0 (!w.params.followText "set-order")) }
theorem sG (a:Value){Q₁:Value->Shared->Prop}
  (h:Q₁ (.ref s.heap.objs.size) { s with heap:=s.heap.push (di w) }):
  codeAny (model prog w) A (.call (.builtin "set.__new__") ⟨[.type "set",a],[]⟩) (wants Q₁ E) s:=by
 refine codeAny_of_tree ?_;show wpAny _ A.in1 (do checkBuiltinCall "set.__new__" ⟨[.type "set",a],[]⟩;again (.builtin "set.__new__" ⟨[.type "set",a],[]⟩)) _ _ s;refine wX (wpAny_of_eq (PySem.F.newCall_set_1 a) (wY ⟨plainId_quiet PySem.F.plain_set_new _,codeAny_builtin PySem.F.entry_set_new ?_⟩));rw[Around.under_plainId PySem.F.plain_set_new _];unfold Builtin.«set.__new__» Builtin.Frozenset.newClass;have hsub:=sub_set_self;obtain⟨hp,g,d,tk,os⟩:=s;dsimp only;wp_walk;refine wpAny_askSetting (wY ?_);dsimp only;simp only[newObj];refine wX (wpAny_alloc (wY ?_));exact wY h
set_option maxHeartbeats 3200000 in
theorem lX {l:Addr}{items:Array Value}{ss:List Str}{Q:Value->Shared->Prop}
  (hh:A.handled=none) (hl:s.heap.IsList l items) (hi:StrsAre items.toList ss) (hb:items.size+1<scanBound)
  (h:∀(h':Heap)(tk:Nat),gb prog w h' s.heap.objs.size (fO ss) ->
   (∀b o,b<s.heap.objs.size->s.heap.get? b=some o->h'.get? b=some o)->Q (.ref s.heap.objs.size) { s with heap:=h',toks:=tk }):
  wpAny (model prog w) A (call (.type "set") [.ref l]) Q E s:=by
 obtain⟨c,tl,hmro⟩:=PySem.F.called_set.mro;have hmade:=PySem.F.called_set.made;have hsub:=PySem.F.called_set.sub;refine wpAny_call (codeAny_of_tree ?_);show wpAny _ _ (callAny (.type "set") _) _ _ _;refine wY ⟨Code.quiet_builtin _ (by decide +kernel),codeAny_builtin PySem.F.entry_type_call ?_⟩;rw[Around.under_plain (weight_type_call_type "set" [.ref l] []) rfl];have h1:=PySem.F.called_set.notType;have h2:=PySem.F.called_set.canCreate;have hct:=PySem.F.typeCall_set_1 (.ref l);have hlen:ss.length=items.size:=by have:=hi.strs;rw[←this,List.length_map,Array.length_toList]
 repeat (any_goals (first|assumption|wp_step))
 refine codeAny_mono (sG (.ref l) (E:=E) (Q₁:=λobj s₁=>obj=.ref s.heap.objs.size/\s₁={ s with heap:=s.heap.push (di w) }) ⟨rfl,rfl⟩) λr s₁ hr=>?_;cases r with
 |error e=>exact hr
 |ok fl=>
  cases fl with
  |ret obj=>
   obtain⟨rfl,rfl⟩:=hr;have hS:(s.heap.push (di w)).get? s.heap.objs.size=some (di w):=Heap.get?_push_size _ rfl;have hT:Shared.TypeIs { s with heap:=s.heap.push (di w) } (.ref s.heap.objs.size) "set":=⟨_,hS,rfl⟩;have hli:=PySem.F.called_set.init.lookup;have hbi:=PySem.F.called_set.init.bind (.ref s.heap.objs.size);repeat (any_goals (first|assumption|wp_step))
   refine codeAny_mono (codeAny_call_builtin (R:=wants (λr s₂=>r=.none/\∃h' tk,s₂={ s with heap:=h',toks:=tk } /\
     gb prog w h' s.heap.objs.size (fO ss) /\
     (∀b o,b<s.heap.objs.size->s.heap.get? b=some o->h'.get? b=some o)) E) PySem.F.called_set.init.plain PySem.F.entry_set_init (check_set_init_1 hT ?_)) λr₂ s₂ hr₂=>?_
   ·obtain⟨ol,hol,hcl,nl,hdl⟩:=hl;obtain⟨ocls,odict,odata,oslots⟩:=ol;simp only at hcl hdl;subst hcl;subst hdl;have hol':(s.heap.push (di w)).get? l=some { cls:=.type "list",dict:=odict,data:=.seq items nl,slots:=oslots }:=Heap.get?_push_of_some _ hol;have hsls:=PySem.F.sub_list_set;have hslf:=PySem.F.sub_list_frozenset;have hne:(Value.type "list" == Value.type "dict")=false:=by decide
    have hl1:(s.heap.push (di w)).IsList l items:=⟨_,hol',rfl,nl,rfl⟩;unfold Builtin.«set.__init__» noKeywords Builtin.Frozenset.updateFrom;generalize hPI:pyIter=PI;wp_walk;subst hPI;refine wpAny_pyIter_list hl1 ?_;refine wX (wpAny_runValue ?_);have hlS:l<s.heap.objs.size:=Heap.lt_size hol;have hh3:A.in1.in1.in1.handled=none:=by simp[hh]
    have hneI:l≠(s.heap.push (di w)).objs.size:=by
     rw[Heap.size_push];exact Nat.ne_of_lt (Nat.lt_succ_of_lt hlS)
    have hSf:s.heap.objs.size∉[(s.heap.push (di w)).objs.size,l]:=by
     rw[Heap.size_push];simp only[List.mem_cons,List.mem_singleton,List.not_mem_nil,or_false,not_or];exact⟨Nat.ne_of_lt (Nat.lt_succ_self _),Nat.ne_of_gt hlS⟩
    have hval:∀(i:Nat)(v:Value),items[i]? = some v->∃x t,v=.str x t/\ss[i]? = some x:=λi v hv=>
     StrsAre.at hi i v (by rw[Array.getElem?_toList];exact hv)
    refine qm ((Walks.list hh3 _ l hneI items).toS) s.heap.objs.size
     hSf ss hlen hval hb (items.size - 0) 0 _ (by omega) (Nat.zero_le _)
     ⟨⟨_,Heap.get?_push_size _ rfl,rfl,rfl⟩,(hl1.push _)⟩ ?hS0 ?hR
    case hS0=>
     have hget:((s.heap.push (di w)).push { cls:=.type "list_iterator",data:=.fields #[.ref l,.int 0 0] }).get? s.heap.objs.size
       = some (di w):=Heap.get?_push_of_some _ hS
     exact⟨_,#[],0,_,hget,⟨rfl,rfl,rfl⟩,rfl,λe he=>by simp at he,List.Perm.refl _,List.nodup_nil,(by show(0:Nat)<scanBound;decide),rfl,rfl,λz=>absurd rfl z⟩
    case hR=>
     intro s' hm hS'
     obtain⟨h',g',d',tk',os'⟩:=s'
     have eg:g'=s.gens:=hm.gens
     have ed:d'=s.drawn:=hm.drawn
     have eo:os'=s.os:=hm.os
     subst eg;subst ed;subst eo
     show wpAny _ _ _ _ _ _
     refine wY ?_
     show wpAny _ _ (ret Value.none) _ _ _
     refine wY ⟨rfl,h',tk',rfl,hS',λb o hb e=>?_⟩
     have hb1:b≠s.heap.objs.size:=Nat.ne_of_lt hb
     have hb2:b≠(s.heap.push (di w)).objs.size:=by
      rw[Heap.size_push];exact Nat.ne_of_lt (Nat.lt_succ_of_lt hb)
     exact hm.heap b o (by simp only[List.mem_cons,List.mem_singleton,List.not_mem_nil,or_false,not_or];exact⟨hb1,hb2⟩) (Heap.get?_push_of_some _ (Heap.get?_push_of_some _ e))
   ·cases r₂ with
    |error e=>exact hr₂
    |ok fl₂=>
     cases fl₂ with
     |ret r=>
      obtain⟨rfl,h',tk,rfl,hS',hk'⟩:=hr₂;repeat (any_goals (first|assumption|wp_step))
      exact h _ _ hS' hk'
     |_=>exact hr₂.elim
  |_=>exact hr.elim
end
open Sem (wp)
section
variable {M:Model}{A:Around}{E:Value->Shared->Prop}{s:Shared}
theorem Ce {src:Source}{n:Nat}{Q:Nat->Shared->Prop}(hn:n≠0)(h:∀k d,k<n->Q k { s with drawn:=d }):wpAny M A (choose src n) Q E s:=by
 intro Γ p hG;unfold choose;rw[Sem.wp_choose];refine⟨hn,?_⟩;have:=h _ (s.drawn.bump src) (Nat.mod_lt (M.w.draws src (s.drawn.get src)) (Nat.pos_of_ne_zero hn));simpa using this
end
theorem j7 {α:Type}:∀(l:List α)(i:Nat),i<l.length->(l.eraseIdx i).length=l.length - 1:=λl i h=>by rw[List.length_eraseIdx,if_pos h]
theorem jl {α:Type}:∀(l:List α)(i:Nat)(x:α),l[i]? = some x->(x::l.eraseIdx i).Perm l
 |[],i,x,h=>by simp at h
 |a::l,0,x,h=>by simp at h;subst h;exact List.Perm.refl _
 |a::l,i+1,x,h=>by
  rw[List.eraseIdx_cons_succ];simp only[List.getElem?_cons_succ]at h;exact(List.Perm.swap a x _).trans ((jl l i x h).cons a)
theorem wn {M:Model}{A:Around}{E:Value->Shared->Prop}{α:Type}:∀(n:Nat)(xs:List α)(s:Shared)(Q:List α->Shared->Prop),xs.length=n->(∀ys d,ys.Perm xs->Q ys { s with drawn:=d })->wpAny M A (drawOrder n xs) Q E s
 |0,xs,s,Q,hl,h=>by
  have:xs=[]:=List.eq_nil_of_length_eq_zero hl;subst this;exact wY (h [] s.drawn (List.Perm.refl _))
 |n+1,[],s,Q,hl,h=>by simp at hl
 |n+1,x::r,s,Q,hl,h=>by
  show wpAny M A (choose .order (x::r).length>>=λi=>match (x::r)[i]? with
   |some x'=>(do return x'::(←drawOrder n ((x::r).eraseIdx i)))
   |none=>unsupported "internal:drawOrder") Q E s
  refine wX (Ce (by simp) λk d hk=>?_);obtain⟨y,hy⟩:∃y,(x::r)[k]? = some y:=⟨_,List.getElem?_eq_getElem hk⟩;rw[hy];refine wX (wn n _ _ _ (by rw[j7 _ _ hk,hl];rfl) λys d' hp=>wY (h _ _ ((hp.cons y).trans (jl _ _ _ hy))))
theorem wo {α:Type}(next:Nat->Nat):∀(fuel k:Nat)(left:List α)(out:Array α),left.length=fuel->(pickOrder.go next fuel k left out).toList.Perm (out.toList++left)
 |0,k,left,out,hl=>by
  have:left=[]:=List.eq_nil_of_length_eq_zero hl;subst this;unfold pickOrder.go;simp
 |fuel+1,k,left,out,hl=>by
  unfold pickOrder.go;have hk:next k % left.length<left.length:=Nat.mod_lt _ (by omega);obtain⟨y,hy⟩:∃y,left[next k % left.length]? = some y:=⟨_,List.getElem?_eq_getElem hk⟩;rw[hy];dsimp only;refine(wo next fuel (k+1) _ _ (by rw[j7 _ _ hk];omega)).trans ?_;rw[Array.toList_push,List.append_assoc];exact(jl _ _ _ hy).append_left _
theorem yf {α:Type}(next:Nat->Nat)(xs:Array α):(pickOrder next xs).toList.Perm xs.toList:=by
 have:=wo next xs.size 0 xs.toList #[] (by simp);simpa [pickOrder]using this
theorem bi:Slot "set_iterator" "__next__" "set_iterator.__next__" :=
 .of (owner:="set_iterator") (n:="__next__") (by rw[typeLookup_type,builtinLookup_eq_fast];kernel_rfl) (by decide +kernel) (by decide +kernel) (by decide +kernel)
  (by first|exact .inl (by decide +kernel)|exact .inr (by decide +kernel)) (by rw[isSubtype_type];kernel_rfl)
theorem dC:entryFor table "set_iterator.__next__" = some Builtin.«set_iterator.__next__»:=entryFor_of_tree (by kernel_rfl)
theorem eC (a:Value):argsOk "set_iterator.__next__" ⟨[a],[]⟩:=by unfold argsOk;kernel_rfl
theorem iZ:Slot "set_iterator" "__iter__" "set_iterator.__iter__" :=
 .of (owner:="set_iterator") (n:="__iter__") (by rw[typeLookup_type,builtinLookup_eq_fast];kernel_rfl) (by decide +kernel) (by decide +kernel) (by decide +kernel)
  (by first|exact .inl (by decide +kernel)|exact .inr (by decide +kernel)) (by rw[isSubtype_type];kernel_rfl)
theorem lY:entryFor table "set_iterator.__iter__" = some Builtin.«dict_keyiterator.__iter__» :=
 entryFor_alias (id':="dict_keyiterator.__iter__") (by kernel_rfl) rfl (by decide +kernel) (by kernel_rfl)
theorem oh (a:Value):argsOk "set_iterator.__iter__" ⟨[a],[]⟩:=by unfold argsOk;kernel_rfl
theorem lx:entryFor table "set.__iter__" = some Builtin.«frozenset.__iter__» :=
 entryFor_alias (id':="frozenset.__iter__") (by kernel_rfl) rfl (by decide +kernel) (by kernel_rfl)
noncomputable abbrev jm (fst:Value)(i:Nat)(S:Addr)(n ep:Nat):Obj:={ cls:=.type "set_iterator",data:=.fields #[fst,.int i 0,.ref S,.int n 0,.int ep 0] }
section
variable {prog:Program}{w:World}{A:Around}{E:Value->Shared->Prop}{s:Shared}{it S:Addr}{i ep:Nat}{o:Obj}{es:Array (Int×Value)}{t:SetTable}
theorem cL {fst:Value}{n:Nat}(ho:s.heap.get? it=some (jm fst i S n ep)):s.TypeIs (.ref it) "set_iterator":=⟨_,ho,rfl⟩
theorem qo {k k':Nat}{x:Value}{Q:Option Value->Shared->Prop}(ho:s.heap.get? it=some (jm (.int k 0) i S es.size ep))
  (hS:s.heap.get? S=some o) (hd:o.data=.set es ep t) (hf:t.fits es.size=true)
  (hN:∀(A':Around)(E':Value->Shared->Prop)(Q':Option (Value×Nat)->Shared->Prop),Q' (some (x,k')) s->wpAny (model prog w) A' (setNext S k i ep) Q' E' s)
  (hQ:∀h',h'.get? it=some (jm (.int k' 0) (i+1) S es.size ep)->Heap.SameBut it s.heap h'->Q (some x) { s with heap:=h' }):
  wpAny (model prog w) A (pyNext (.ref it)) Q E s:=by
 unfold pyNext;refine wX (wpAny_attempt (wpAny_callSpecial?_slot (name:=Str.ofString "__next__") (cL ho) bi
  (wpAny_call_entry bi (cL ho) dC ?_ (eC _))))
 show wpAny _ _ (fieldsOf (.ref it)>>=_) _ _ s;refine wX (wpAny_fieldsOf ho rfl ?_);show wpAny _ _ (setEntries S>>=_) _ _ s;refine wX (wpAny_setEntries_of hS hd hf ?_);rw[if_neg (by simp)];show wpAny _ _ (setNext S _ _ _>>=_) _ _ s;simp only[Int.toNat_natCast];refine wX (hN _ _ _ ?_);dsimp only;refine wX (wpAny_setField_rec ho (by simp) λh1 e1 b1=>?_);refine wX (wpAny_setField_rec e1 (by simp) λh2 e2 b2=>?_);exact wY ⟨x,rfl,wY (hQ h2 (by simpa [rawInt,jm]using e2) (b1.trans b2))⟩
theorem qp {k:Nat}{Q:Option Value->Shared->Prop}(hh:A.handled=none)(ho:s.heap.get? it=some (jm (.int k 0) i S es.size ep))
  (hS:s.heap.get? S=some o) (hd:o.data=.set es ep t) (hf:t.fits es.size=true)
  (hN:∀(A':Around)(E':Value->Shared->Prop)(Q':Option (Value×Nat)->Shared->Prop),Q' none s->wpAny (model prog w) A' (setNext S k i ep) Q' E' s)
  (hQ:∀h',Heap.ExtBut it s.heap h'->Q none { s with heap:=h' }):
  wpAny (model prog w) A (pyNext (.ref it)) Q E s:=by
 unfold pyNext;refine wX (wpAny_attempt (wpAny_callSpecial?_slot (name:=Str.ofString "__next__") (cL ho) bi
  (wpAny_call_entry bi (cL ho) dC ?_ (eC _))))
 show wpAny _ _ (fieldsOf (.ref it)>>=_) _ _ s;refine wX (wpAny_fieldsOf ho rfl ?_);show wpAny _ _ (setEntries S>>=_) _ _ s;refine wX (wpAny_setEntries_of hS hd hf ?_);rw[if_neg (by simp)];show wpAny _ _ (setNext S _ _ _>>=_) _ _ s;simp only[Int.toNat_natCast];refine wX (hN _ _ _ ?_);dsimp only;refine wX (wpAny_setField_rec ho (by simp) λh1 e1 b1=>?_);refine wX ?_;simp only[newExc,newTuple];refine wX (wpAny_newObj_type ?_ (by size_fits));refine wX (m:=firstArgMember _ _) (wpAny_of_eq (a:=Value.none) (by first|rfl|(simp only[firstArgMember];rfl)) ?_);refine wpAny_newObj_type ?_ (by size_fits);simp only[raiseNew];refine wX (wpAny_handled ?_);rw[show A.in1.handled=none from hh];refine wX (wY (wpAny_throw ?_));refine wX (wpAny_isInstance (T:="StopIteration") (b:=true) ⟨_,Heap.get?_push_size _ rfl,rfl⟩ isSubtype_stop ?_);exact wY (hQ _ ((b1.extBut.push _).push _))
theorem oi {T:Addr}{pl:List Nat}{p:Nat}{x:Int×Value}{nt:Nat}{Q:Option Value->Shared->Prop}(ho:s.heap.get? it=some (jm (.ref T) i S es.size ep))
  (hT:s.heap.get? T=some (seqObj "tuple" (pl.map λ(p:Nat)=>Value.int p 0).toArray nt))
  (hS:s.heap.get? S=some o) (hd:o.data=.set es ep t) (hf:t.fits es.size=true) (hp:pl[i]? = some p) (hx:es[p]? = some x)
  (hQ:∀h',h'.get? it=some (jm (.ref T) (i+1) S es.size ep)->Heap.SameBut it s.heap h'->Q (some x.2) { s with heap:=h' }):
  wpAny (model prog w) A (pyNext (.ref it)) Q E s:=by
 unfold pyNext;refine wX (wpAny_attempt (wpAny_callSpecial?_slot (name:=Str.ofString "__next__") (cL ho) bi
  (wpAny_call_entry bi (cL ho) dC ?_ (eC _))))
 show wpAny _ _ (fieldsOf (.ref it)>>=_) _ _ s;refine wX (wpAny_fieldsOf ho rfl ?_);show wpAny _ _ (setEntries S>>=_) _ _ s;refine wX (wpAny_setEntries_of hS hd hf ?_);rw[if_neg (by simp)];show wpAny _ _ (seqItems? (.ref T)>>=_) _ _ s;refine wX (wpAny_seqItems hT rfl ?_);have e1:(pl.map λ(p:Nat)=>Value.int p 0).toArray[(i:Int).toNat]? = some (.int p 0):=by simp[hp]
 dsimp only;rw[e1];dsimp only;have e2:wpAny (model prog w) A.in1 (setNextDrawn S (p:Int).toNat (ep:Int).toNat) (λy s'=>y=x.2/\s'=s) (λ_ _=>False) s:=by
  unfold setNextDrawn;refine wX (wpAny_setState_of hS hd hf ?_);dsimp only;rw[if_neg (by simp)];simp only[Int.toNat_natCast,hx];exact wY ⟨rfl,rfl⟩
 refine wX (wpAny_mono e2 (λy s' hy=>?_) λ_ _ z=>z.elim);obtain⟨rfl,rfl⟩:=hy;refine wX (wpAny_setField_rec ho (by simp) λh1 e1 b1=>?_);exact wY ⟨_,rfl,wY (hQ h1 (by simpa [rawInt,jm]using e1) b1)⟩
theorem oj {T:Addr}{pl:List Nat}{nt:Nat}{Q:Option Value->Shared->Prop}(hh:A.handled=none)(ho:s.heap.get? it=some (jm (.ref T) i S es.size ep))
  (hT:s.heap.get? T=some (seqObj "tuple" (pl.map λ(p:Nat)=>Value.int p 0).toArray nt))
  (hS:s.heap.get? S=some o) (hd:o.data=.set es ep t) (hf:t.fits es.size=true) (hp:pl[i]? = none)
  (hQ:∀h',Heap.ExtBut it s.heap h'->Q none { s with heap:=h' }):
  wpAny (model prog w) A (pyNext (.ref it)) Q E s:=by
 unfold pyNext;refine wX (wpAny_attempt (wpAny_callSpecial?_slot (name:=Str.ofString "__next__") (cL ho) bi
  (wpAny_call_entry bi (cL ho) dC ?_ (eC _))))
 show wpAny _ _ (fieldsOf (.ref it)>>=_) _ _ s;refine wX (wpAny_fieldsOf ho rfl ?_);show wpAny _ _ (setEntries S>>=_) _ _ s;refine wX (wpAny_setEntries_of hS hd hf ?_);rw[if_neg (by simp)];show wpAny _ _ (seqItems? (.ref T)>>=_) _ _ s;refine wX (wpAny_seqItems hT rfl ?_);have e1:(pl.map λ(p:Nat)=>Value.int p 0).toArray[(i:Int).toNat]? = none:=by simpa using hp
 dsimp only;rw[e1];dsimp only;refine wX (wpAny_setField_rec ho (by simp) λh0 e0 b0=>?_);refine wX (wpAny_setField_rec e0 (by simp) λh1 e1 b1=>?_);refine wX ?_;simp only[newExc,newTuple];refine wX (wpAny_newObj_type ?_ (by size_fits));refine wX (m:=firstArgMember _ _) (wpAny_of_eq (a:=Value.none) (by first|rfl|(simp only[firstArgMember];rfl)) ?_);refine wpAny_newObj_type ?_ (by size_fits);simp only[raiseNew];refine wX (wpAny_handled ?_);rw[show A.in1.handled=none from hh];refine wX (wY (wpAny_throw ?_));refine wX (wpAny_isInstance (T:="StopIteration") (b:=true) ⟨_,Heap.get?_push_size _ rfl,rfl⟩ isSubtype_stop ?_);exact wY (hQ _ (((b0.trans b1).extBut.push _).push _))
theorem sI {fst:Value}{n:Nat}{Q:Value->Shared->Prop}(ho:s.heap.get? it=some (jm fst i S n ep))(h:Q (.ref it) s):wpAny (model prog w) A (pyIter (.ref it)) Q E s:=by
 refine wpAny_pyIter_slot (cL ho) iZ (wpAny_call_entry iZ (cL ho) lY ?_ (oh _));show wpAny _ _ (ret (.ref it)) _ _ s;exact wY ⟨_,rfl,"set_iterator",_,cL ho,bi.lookup,h⟩
end
section
variable {prog:Program}{w:World}{A:Around}{E:Value->Shared->Prop}{s:Shared}{it S:Addr}{i k ep:Nat}{o:Obj}{es:Array (Int×Value)}{t:SetTable}
theorem oU {Q:Option (Value×Nat)->Shared->Prop}(hS:s.heap.get? S=some o)(hd:o.data=.set es ep t)(hf:t.fits es.size=true)(hb:w.params.followText "set-order" = true)
  (h:Q (((pickOrder (w.params.setOrder S ep) es)[i]?).map λe=>(e.2,k)) s):wpAny (model prog w) A (setNext S k i ep) Q E s:=by
 unfold setNext;refine wX (wpAny_setState_of hS hd hf ?_);dsimp only;unfold setsByText;refine wX (wX (wpAny_askSetting (wY ?_)));show wpAny _ _ (if w.params.followText "set-order" = true then _ else _) _ _ _;rw[if_pos hb,if_neg (by simp)];unfold setWalk setsByText;refine wX (wX (wpAny_setState_of hS hd hf ?_));dsimp only;refine wX (wX (wpAny_askSetting (wY ?_)));show wpAny _ _ (if w.params.followText "set-order" = true then _ else _) _ _ _;rw[if_pos hb];refine wX (wpAny_askSetting (wY ?_));exact wY h
theorem lZ {Q:Option (Value×Nat)->Shared->Prop}(hS:s.heap.get? S=some o)(hd:o.data=.set es ep t)(hf:t.fits es.size=true)(hb:w.params.followText "set-order" = false)(hl:t.led=true)(hz:es.size<=1)
  (h:Q (match es[SetTable.below t.place k]?,t.place[SetTable.below t.place k]? with
   |some (_,x),some j=>some (x,j+1)
   |_,_=>none) s):wpAny (model prog w) A (setNext S k i ep) Q E s:=by
 unfold setNext;refine wX (wpAny_setState_of hS hd hf ?_);dsimp only;unfold setsByText;refine wX (wX (wpAny_askSetting (wY ?_)));show wpAny _ _ (if w.params.followText "set-order" = true then _ else _) _ _ _;rw[if_neg (by rw[hb];simp)];show wpAny _ _ (if(!t.plain && decide (es.size > 1))=true then _ else _) _ _ _;rw[if_neg (by rw[decide_eq_false (by omega)];simp)];show wpAny _ _ ((if(!t.led && !es.isEmpty)=true then unsupported "set:maker-not-led" else pure ())>>=_) _ _ _;rw[hl,if_neg (by simp)];refine wX (wY ?_);exact wY h
theorem oV (hh:A.handled=none)(hd:o.data=.set es ep t)(hf:t.fits es.size=true)(hne:S≠it)(vs:List Value)(hv:vs.length=es.size)(sl:Nat->Nat)
  (hN:∀i x,vs[i]? = some x->∀(A':Around)(E':Value->Shared->Prop)(s:Shared)(Q':Option (Value×Nat)->Shared->Prop),s.heap.get? S=some o->Q' (some (x,sl (i+1))) s->wpAny (model prog w) A' (setNext S (sl i) i ep) Q' E' s)
  (hE:∀(A':Around)(E':Value->Shared->Prop)(s:Shared)(Q':Option (Value×Nat)->Shared->Prop),s.heap.get? S=some o->Q' none s->wpAny (model prog w) A' (setNext S (sl es.size) es.size ep) Q' E' s):
  Walks prog w A it [it,S] [it] es.size (λi v=>vs[i]? = some v) (λi h=>h.get? it=some (jm (.int (sl i) 0) i S es.size ep)/\h.get? S=some o) where
 sub:=λb hb=>by simp at hb;simp[hb]
 frame:=λ_ _ _ st hk=>⟨hk it (by simp) _ st.1,hk S (by simp) _ st.2⟩
 item:=λi s Q E hi st hQ=>by
  obtain⟨x,hx⟩:∃x,vs[i]? = some x:=⟨_,List.getElem?_eq_getElem (by omega)⟩;refine qo st.1 st.2 hd hf (λA' E' Q' q=>hN i x hx A' E' s Q' st.2 q) λh' h1 h2=>?_;exact hQ x h' s.toks hx ⟨h1,h2.extBut S _ hne st.2⟩ λb u hb e=>h2.extBut b u (λz=>hb (by simp[z])) e
 done:=λs Q E st hQ=>qp hh st.1 st.2 hd hf (λA' E' Q' q=>hE A' E' s Q' st.2 q) λh' h1=>hQ h' s.toks λb u hb e=>h1 b u (λz=>hb (by simp[z])) e
 self:=λ_ _ _ _ st hQ=>sI st.1 hQ
theorem uU {T:Addr}{pl:List Nat}{nt:Nat}(hh:A.handled=none)(hd:o.data=.set es ep t)(hf:t.fits es.size=true)(hne:S≠it)(hnT:T≠it)(hp:pl.Perm (List.range es.size)):
  Walks prog w A it [it,S,T] [it] es.size (λi v=>(pl.map λp=>(es.getD p (0,.none)).2)[i]? = some v)
   (λi h=>h.get? it=some (jm (.ref T) i S es.size ep)/\h.get? S=some o/\h.get? T=some (seqObj "tuple" (pl.map λ(p:Nat)=>Value.int p 0).toArray nt)) where
 sub:=λb hb=>by simp at hb;simp[hb]
 frame:=λ_ _ _ st hk=>⟨hk it (by simp) _ st.1,hk S (by simp) _ st.2.1,hk T (by simp) _ st.2.2⟩
 item:=λi s Q E hi st hQ=>by
  have hlen:pl.length=es.size:=by rw[hp.length_eq,List.length_range]
  obtain⟨p,hx⟩:∃p,pl[i]? = some p:=⟨_,List.getElem?_eq_getElem (by omega)⟩;have hpm:p<es.size:=List.mem_range.mp (hp.mem_iff.mp (List.mem_of_getElem? hx));have he:es[p]? = some (es.getD p (0,.none)):=by rw[Array.getD_eq_getD_getElem?,Array.getElem?_eq_getElem hpm];rfl
  refine oi st.1 st.2.2 st.2.1 hd hf hx he λh' h1 h2=>?_;exact hQ _ h' s.toks (by simp[hx]) ⟨h1,h2.extBut S _ hne st.2.1,h2.extBut T _ hnT st.2.2⟩ λb u hb e=>h2.extBut b u (λz=>hb (by simp[z])) e
 done:=λs Q E st hQ=>by
  have hlen:pl.length=es.size:=by rw[hp.length_eq,List.length_range]
  exact oj hh st.1 st.2.2 st.2.1 hd hf (List.getElem?_eq_none (by omega)) λh' h1=>hQ h' s.toks λb u hb e=>h1 b u (λz=>hb (by simp[z])) e
 self:=λ_ _ _ _ st hQ=>sI st.1 hQ
end
theorem uV {α:Type}(es:Array α)(d:α):(List.range es.size).map (λp=>es.getD p d)=es.toList:=by
 apply List.ext_getElem?;intro i;by_cases h:i<es.size
 ·simp[h,Array.getD_eq_getD_getElem?]
 ·simp[h]
section
variable {prog:Program}{w:World}{A:Around}{E:Value->Shared->Prop}{s:Shared}
theorem oW {xs:Array Nat}{j k:Nat}(h:xs=#[j]):SetTable.below xs k=if j<k then 1 else 0:=by
 subst h;by_cases h:j<k
 ·simp[SetTable.below,SetTable.below.go,h]
 ·simp[SetTable.below,SetTable.below.go,h]
theorem zK {S:Addr}{ts:List Str}{Q:Value->Shared->Prop}(hS:gb prog w s.heap S ts)
  (hQ:∀(h':Heap)(d:Drawn)(it:Addr)(vs:List Value)(fp:List Addr)(St:Nat->Heap->Prop),(∀A',A'.handled=none->Walks prog w A' it fp [it] ts.length (λi v=>vs[i]? = some v) St)->St 0 h' ->
   (∀b u,s.heap.get? b=some u->h'.get? b=some u)->s.heap.objs.size<=it->(∀b∈fp,b=S∨s.heap.objs.size<=b)->vs.length=ts.length->(vs.map strOf).Perm ts->(∀v∈vs,∃x t,v=.str x t) ->
   Q (.ref it) { s with heap:=h',drawn:=d }):wpAny (model prog w) A (pyIter (.ref S)) Q E s:=by
 obtain⟨o,es,ep,t,ho,hex,hd,hel,hp,nd,hb,hf,hled,hpl⟩:=hS;have sz:es.size=ts.length:=by rw[←hp.length_eq,List.length_map,Array.length_toList]
 have hSlt:S<s.heap.objs.size:=Heap.lt_size ho;have hTy:s.TypeIs (.ref S) "set":=⟨_,ho,hex.1⟩;have hstrs:∀e∈es.toList,∃x t,e.2=.str x t:=λe he=>by
  obtain⟨⟨k,hk,_⟩,_⟩:=hel e he;obtain⟨t,q⟩:=Value.isStrOf_shape (show Value.isStrOf k e.2=true from hk);exact⟨k,t,q⟩
 refine wpAny_pyIter_slot hTy PySem.F.slot_set_iter (wpAny_call_entry PySem.F.slot_set_iter hTy lx ?_ (PySem.F.args_set_iter_1 _));show wpAny _ _ (Builtin.Frozenset.sizeOf S>>=_) _ _ s;unfold Builtin.Frozenset.sizeOf;refine wX (wX (wpAny_setEntries_of ho hd hf (wY ?_)));unfold setDrawn setsByText;refine wX (wX (wpAny_setState_of ho hd hf ?_));dsimp only;refine wX (wX (wpAny_askSetting (wY (wY ?_))));show wpAny _ _ (if(!w.params.followText "set-order" && (!t.plain && decide (es.size > 1)))=true then _ else _) _ _ _;have hmap:(es.toList.map (·.2)).map strOf=es.toList.map (λe=>strOf e.2):=by rw[List.map_map];rfl
 by_cases hbt:w.params.followText "set-order" = true
 ·rw[if_neg (by rw[hbt];simp)];refine wX (wY ?_);refine wX (wpAny_setEpoch_of ho hd hf ?_);have pp:=yf (w.params.setOrder S ep) es;have hlen:((pickOrder (w.params.setOrder S ep) es).toList.map (·.2)).length=es.size:=by rw[List.length_map,pp.length_eq,Array.length_toList]
  refine wX (wpAny_newObj_type (wY ⟨_,rfl,"set_iterator",_,⟨_,Heap.get?_push_size _ rfl,rfl⟩,bi.lookup,?_⟩));refine hQ _ s.drawn s.heap.objs.size ((pickOrder (w.params.setOrder S ep) es).toList.map (·.2)) [s.heap.objs.size,S] (λi h=>h.get? s.heap.objs.size=some (jm (.int ((λ_=>0:Nat->Nat) i:Nat) 0) i S es.size ep)/\h.get? S=some o) (λA' hA=>?_) ?_ (λb u e=>Heap.get?_push_of_some _ e) (Nat.le_refl _) (λb hb=>?_) (hlen.trans sz) ?_ ?_
  ·rw[←sz];exact oV hA hd hf (Nat.ne_of_lt hSlt) _ hlen (λ_=>0) (λi x hx A' E' s Q' h1 h2=>oU h1 hd hf hbt (by
    rw[List.getElem?_map,Array.getElem?_toList]at hx;obtain⟨e,he,rfl⟩:=oY hx;rw[he];exact h2)) (λA' E' s Q' h1 h2=>oU h1 hd hf hbt (by
    rw[Array.getElem?_eq_none (by rw[←Array.length_toList,pp.length_eq,Array.length_toList];exact Nat.le_refl _)];exact h2))
  ·exact⟨Heap.get?_push_size _ rfl,Heap.get?_push_of_some _ ho⟩
  ·simp only[List.mem_cons,List.not_mem_nil,or_false]at hb;rcases hb with rfl|rfl
   ·exact .inr (Nat.le_refl _)
   ·exact .inl rfl
  ·refine List.Perm.trans ?_ hp;rw[←hmap];exact(pp.map _).map _
  ·intro v hv;obtain⟨e,he,rfl⟩:=List.mem_map.mp hv;exact hstrs e (pp.mem_iff.mp he)
 ·rw[Bool.not_eq_true]at hbt;have hl:t.led=true:=by rw[hled,hbt];rfl
  by_cases h1:es.size<=1
  ·rw[if_neg (by rw[decide_eq_false (by omega)];simp)];refine wX (wY ?_);refine wX (wpAny_setEpoch_of ho hd hf ?_);refine wX (wpAny_newObj_type (wY ⟨_,rfl,"set_iterator",_,⟨_,Heap.get?_push_size _ rfl,rfl⟩,bi.lookup,?_⟩));have hpz:t.place.size=es.size:=by
    simp only[SetTable.fits,Bool.and_eq_true,beq_iff_eq,decide_eq_true_eq]at hf;exact hf.1
   refine hQ _ s.drawn s.heap.objs.size (es.toList.map (·.2)) [s.heap.objs.size,S] (λi h=>h.get? s.heap.objs.size=some (jm (.int ((λi=>if i=0 then 0 else t.place.getD 0 0+1:Nat->Nat) i:Nat) 0) i S es.size ep)/\h.get? S=some o) (λA' hA=>?_) ?_ (λb u e=>Heap.get?_push_of_some _ e) (Nat.le_refl _) (λb hb=>?_) (by rw[List.length_map,Array.length_toList,sz]) (by rw[hmap];exact hp) ?_
   ·rw[←sz];refine oV hA hd hf (Nat.ne_of_lt hSlt) _ (by simp) (λi=>if i=0 then 0 else t.place.getD 0 0+1) (λi x hx A' E' s Q' q1 q2=>lZ q1 hd hf hbt hl h1 ?_) (λA' E' s Q' q1 q2=>lZ q1 hd hf hbt hl h1 ?_)
    ·have hi:i<es.size:=by have:=(List.getElem?_eq_some_iff.mp hx).1;simpa using this
     have hi0:i=0:=by omega
     subst hi0;obtain⟨j,hj⟩:∃j,t.place=#[j]:=Array.size_eq_one_iff.mp (by omega);rw[if_pos rfl,oW hj,if_neg (by omega)];rw[List.getElem?_map,Array.getElem?_toList]at hx;obtain⟨e,he,rfl⟩:=oY hx;rw[he];simp only[hj]at q2 ⊢;simpa using q2
    ·by_cases h0:es.size=0
     ·have hp0:t.place=#[]:=Array.eq_empty_of_size_eq_zero (by omega);have he0:es=#[]:=Array.eq_empty_of_size_eq_zero h0;rw[hp0,he0];simpa using q2
     ·obtain⟨j,hj⟩:∃j,t.place=#[j]:=Array.size_eq_one_iff.mp (by omega);rw[if_neg h0,oW hj];have:t.place.getD 0 0=j:=by rw[hj];rfl
      rw[this,if_pos (by omega),Array.getElem?_eq_none (by omega)];exact q2
   ·exact⟨Heap.get?_push_size _ rfl,Heap.get?_push_of_some _ ho⟩
   ·simp only[List.mem_cons,List.not_mem_nil,or_false]at hb;rcases hb with rfl|rfl
    ·exact .inr (Nat.le_refl _)
    ·exact .inl rfl
   ·intro v hv;obtain⟨e,he,rfl⟩:=List.mem_map.mp hv;exact hstrs e he
  ·have hp0:t.plain=false:=hpl (by omega);rw[if_pos (by rw[hbt,hp0,decide_eq_true (by omega)];rfl)];refine wX (wn es.size (List.range es.size) _ _ (by simp) λpl d pp=>?_);refine wX (wpAny_newTuple ?_ (by rw[List.length_map,pp.length_eq,List.length_range,sz];exact fits_of_scanBound hb));refine wX (wpAny_setEpoch_of (Heap.get?_push_of_some _ ho) hd hf ?_);refine wX (wpAny_newObj_type (wY ⟨_,rfl,"set_iterator",_,⟨_,Heap.get?_push_size _ rfl,rfl⟩,bi.lookup,?_⟩));have hsz:(s.heap.push (seqObj "tuple" (pl.map λ(p:Nat)=>Value.int p 0).toArray 0)).objs.size=s.heap.objs.size+1:=size_push' _ _;have hperm:((pl.map λp=>(es.getD p (0,.none)).2)).Perm (es.toList.map (·.2)):=by
    have:=(pp.map λp=>es.getD p (0,Value.none)).map (·.2);rw[uV]at this;rw[List.map_map]at this;exact this
   refine hQ _ d _ (pl.map λp=>(es.getD p (0,.none)).2) [(s.heap.push (seqObj "tuple" (pl.map λ(p:Nat)=>Value.int p 0).toArray 0)).objs.size,S,s.heap.objs.size] (λi h=>h.get? (s.heap.push (seqObj "tuple" (pl.map λ(p:Nat)=>Value.int p 0).toArray 0)).objs.size=some (jm (.ref s.heap.objs.size) i S es.size ep)/\h.get? S=some o/\h.get? s.heap.objs.size=some (seqObj "tuple" (pl.map λ(p:Nat)=>Value.int p 0).toArray 0)) (λA' hA=>?_) ?_ (λb u e=>Heap.get?_push_of_some _ (Heap.get?_push_of_some _ e)) ?_ (λb hb=>?_) ?_ ?_ ?_
   ·rw[←sz];exact uU (nt:=0) hA hd hf (by show S≠(s.heap.push _).objs.size;rw[size_push'];exact Nat.ne_of_lt (Nat.lt_succ_of_lt hSlt)) (by show s.heap.objs.size≠(s.heap.push _).objs.size;rw[size_push'];exact Nat.ne_of_lt (Nat.lt_succ_self _)) pp
   ·exact⟨Heap.get?_push_size _ rfl,Heap.get?_push_of_some _ (Heap.get?_push_of_some _ ho),Heap.get?_push_of_some _ (Heap.get?_push_size _ rfl)⟩
   ·show s.heap.objs.size<=(s.heap.push _).objs.size;rw[size_push'];omega
   ·simp only[List.mem_cons,List.not_mem_nil,or_false]at hb;rcases hb with rfl|rfl|rfl
    ·refine .inr ?_;show s.heap.objs.size<=(s.heap.push _).objs.size;rw[size_push'];omega
    ·exact .inl rfl
    ·exact .inr (Nat.le_refl _)
   ·rw[hperm.length_eq,List.length_map,Array.length_toList,sz]
   ·exact((hperm.map strOf).trans (by rw[hmap])).trans hp
   ·intro v hv;obtain⟨e,he,rfl⟩:=List.mem_map.mp (hperm.mem_iff.mp hv);exact hstrs e he
end
theorem yg {vs:List Value}{acc:Array Value}(h:ItemsOf (λi v=>vs[i]? = some v) acc vs.length):acc.toList=vs:=by
 apply List.ext_getElem?;intro i;by_cases hi:i<acc.size
 ·have e:acc[i]? = some acc[i]:=Array.getElem?_eq_getElem hi;rw[Array.getElem?_toList,e,h.2 i _ e]
 ·rw[List.getElem?_eq_none (by rw[Array.length_toList];omega),List.getElem?_eq_none (by rw[←h.1];omega)]
section
variable {prog:Program}{w:World}{A:Around}{E:Value->Shared->Prop}{s:Shared}
theorem sJ {S:Addr}{ts:List Str}{Q:List Value->Shared->Prop}(hh:A.handled=none)(hS:gb prog w s.heap S ts)
  (hQ:∀s' vs,(∀b u,s.heap.get? b=some u->s'.heap.get? b=some u)->s'.gens=s.gens->s'.os=s.os->vs.length=ts.length->(vs.map strOf).Perm ts->(∀v∈vs,∃x t,v=.str x t)->Q vs s'):
  wpAny (model prog w) A (collect (.ref S)) Q E s:=by
 have hty:∀(s1:Shared),gb prog w s1.heap S ts->s1.TypeIs (.ref S) "set":=λs1 h=>by
  obtain⟨o,_,_,_,ho,hex,_⟩:=h;exact⟨o,ho,hex.1⟩
 have hlt:S<s.heap.objs.size:=by obtain⟨o,_,_,_,ho,_⟩:=hS;exact Heap.lt_size ho
 have hscan:ts.length<scanBound:=by obtain⟨_,_,_,_,_,_,_,_,_,_,h,_⟩:=hS;exact h
 unfold collect;refine wX (wpAny_runValue (codeAny_builtin PySem.F.entry_proto_collect ?_));rw[Around.under_plainId PySem.F.plain_proto_collect _];show wpAny _ A.in1 (newList []>>=λl=>again (.builtin "list.__iadd__" ⟨[l,.ref S],[]⟩)) _ _ s;refine wX (wpAny_newObj_type ?_);refine wY ⟨plainId_quiet PySem.F.plain_list_iadd _,codeAny_builtin PySem.F.entry_list_iadd ?_⟩;rw[Around.under_plainId PySem.F.plain_list_iadd _];show wpAny _ A.in1 (Builtin.List.listExtendWith (.ref s.heap.objs.size) (.ref S) (.ref s.heap.objs.size)) _ _ _;unfold Builtin.List.listExtendWith;have hS1:gb prog w (s.heap.push { cls:=.type "list",data:=.seq ([]:List Value).toArray }) S ts:=hS.at λo e=>Heap.get?_push_of_some _ e;refine wX (wpAny_typeOf (hty _ hS1) ?_);have hSI:s.heap.objs.size≠S:=Nat.ne_of_gt hlt;have h1:Builtin.List.listSameRef (.ref s.heap.objs.size) (.ref S)=false:=by simp[Builtin.List.listSameRef,hSI]
 have h2:(Value.type "set" == Value.type "list")=false:=by decide
 have h3:(Value.type "set" == Value.type "tuple")=false:=by decide
 simp only[h1,h2,h3,Bool.or_false,Bool.false_eq_true,if_false];refine wX (zK (s:={ s with heap:=s.heap.push { cls:=.type "list",data:=.seq ([]:List Value).toArray } }) hS1 λh' d it vs fp St W hst hk hit hfp hvl hperm hstr=>?_);have hS2:gb prog w h' S ts:=hS1.at λo e=>hk _ _ e;refine wX (wpAny_holding ?_);unfold Builtin.List.listLengthHint;refine wX (wpAny_specialOf (hty _ hS2) PySem.F.slot_set_len.lookup ?_);wp_delta;refine wX (wpAny_isInstance (hty _ hS2) sub_set_self ?_);show wpAny _ A.in1 (typeOf (Value.ref S)>>=_) _ _ _;refine wX (wpAny_typeOf (hty _ hS2) ?_);refine wY ?_;rw[if_pos (by decide)];refine wX (wpAny_rule ?_);refine wX ?_;have hsz0:(s.heap.push { cls:=.type "list",data:=.seq ([]:List Value).toArray }).objs.size=s.heap.objs.size+1:=size_push' _ _;have hL1:h'.get? s.heap.objs.size=some { cls:=.type "list",data:=.seq ([]:List Value).toArray }:=hk _ _ (Heap.get?_push_size _ rfl);show wpAny _ A.in1 (updateSeq s.heap.objs.size (·.push .none)>>=λ_=>updateSeq s.heap.objs.size (·.pop)) _ _ _;refine wX (wpAny_updateSeq hL1 rfl ?_);have hL2:=Heap.get?_update_self (Obj.mapSeq (·.push Value.none)) hL1 rfl;refine wpAny_updateSeq hL2 rfl ?_;have hL3:=Heap.get?_update_self (Obj.mapSeq (·.pop)) hL2 rfl;have hSf:s.heap.objs.size∉fp:=λhm=>by
  rcases hfp _ hm with z|z
  ·exact hSI z
  ·rw[hsz0]at z;exact absurd z (Nat.not_succ_le_self _)
 have oth:∀b u,b≠s.heap.objs.size->h'.get? b=some u ->
   ((h'.update s.heap.objs.size (Obj.mapSeq (·.push Value.none))).update s.heap.objs.size (Obj.mapSeq (·.pop))).get? b=some u :=
  λb u hb e=>(Heap.get?_update_other _ _ (Ne.symm hb)).trans ((Heap.get?_update_other _ _ (Ne.symm hb)).trans e)
 have W0:=W A.in1 hh;refine wY ⟨plainId_quiet PySem.F.plain_extend_loop _,codeAny_extend_loopS W0.toS (fits_of_scanBound hscan) _ hSf _ ts.length 0 _ _ _ rfl (Nat.zero_le _)
  (W0.frame 0 _ _ hst λb hb u e=>oth b u (λz=>hSf (z ▸ hb)) e) hL3 (ItemsOf.nil _) λs' acc' c' hm hL' hacc=>?_⟩
 show wpAny _ A (load s.heap.objs.size>>=_) _ _ s';refine wX (wpAny_load hL' ?_);rw[←hvl]at hacc;refine wY ?_;show Q acc'.toList s';rw[yg hacc];refine hQ s' vs (λb u e=>hm.heap b u (λhb=>?_) (oth b u (Nat.ne_of_lt (Heap.lt_size e)) (hk _ _ (Heap.get?_push_of_some _ e)))) hm.gens hm.os hvl hperm hstr;have hl:=Heap.lt_size e;simp only[List.mem_cons,List.not_mem_nil,or_false]at hb;rcases hb with rfl|rfl
 ·exact absurd hl (Nat.lt_irrefl _)
 ·rw[hsz0]at hit;exact absurd (Nat.lt_of_lt_of_le hl (Nat.le_of_succ_le hit)) (Nat.lt_irrefl _)
theorem uW {S:Addr}{ts:List Str}{Q:Value->Shared->Prop}(hh:A.handled=none)(hS:gb prog w s.heap S ts)(h64:ts.length<64)
  (hQ:∀(s1:Shared)(h':Heap)(a:Addr)(out:Array Value)(n:Nat)(ss':List Str),(∀b u,s.heap.get? b=some u->s1.heap.get? b=some u)->s1.os=s.os->s1.gens=s.gens->(∀b u,s1.heap.get? b=some u->h'.get? b=some u)->s1.heap.objs.size<=a->h'.get? a=some (seqObj "list" out n) ->
   StrsAre out.toList ss'->ss'.Perm ts->sortedS ss'=true->Q (.ref a) { s1 with heap:=h' }):
  wpAny (model prog w) A (call (.builtin "sorted") [.ref S]) Q E s:=by
 refine Calls.call_function_entry kind_sorted plain_sorted entry_sorted (args_sorted1 _) ?_;unfold Builtin.«sorted»;refine wX (m:=checkCount "sorted" 1 1 _) (wY ?_);refine wX (sJ (A:=A.in1) (by exact hh) hS λs1 vs hk hg hos hvl hperm hstr=>?_);have hst:StrsAre vs (vs.map strOf):=strsAre_map vs hstr;refine wX (wpAny_newList ?_ (by rw[hvl,sizeLine_eq];omega));have hoL:(s1.heap.push (seqObj "list" vs.toArray 0)).get? s1.heap.objs.size=some (seqObj "list" vs.toArray 0):=Heap.get?_push_size _ rfl;show wpAny _ _ _ _ _ { s1 with heap:=s1.heap.push (seqObj "list" vs.toArray 0) };refine wX (wpAny_holding (wpAny_call_entry slot_list_sort ⟨_,hoL,rfl⟩ entry_list_sort (list_sort_treeK strKind_oneLt hoL hst.keysOf (λv₁ v₂ au e=>keyKind_strs (by rw[←e];exact hst)) (by rw[hvl];exact h64) λst' a1 a2=>⟨_,rfl,?_⟩) (args_list_sort _)));obtain⟨ss',b1,b2,b3⟩:=sorted_out_str hst a1 a2;obtain⟨e,he⟩:=sortedHeap_at (out:=(arrOf st').map (·.2)) hoL;refine wY ⟨_,rfl,hQ s1 _ _ _ e ss' hk hos hg (λb u q=>?_) (Nat.le_refl _) he b1 (b2.trans hperm) b3⟩;have hl:=Heap.lt_size q;rw[sortedHeap_old (Nat.ne_of_lt hl) (by rw[size_push'];exact Nat.lt_succ_of_lt hl)];exact Heap.get?_push_of_some _ q
end
end DL
namespace DL
open PySem PySem.Spec PyProof.Rows L2
def leT (a b:Str):Prop:=¬b.cps.toList<a.cps.toList
theorem wq {a b:Str}:ltCps b.cps.toList a.cps.toList=false↔leT a b:=by rw[ltCps_eq,decide_eq_false_iff_not];rfl
theorem oZ {a b c:Str}(h:leT a b)(k:leT b c):leT a c:=by
 unfold leT at *;exact List.not_lt.mpr (List.le_trans (List.not_lt.mp h) (List.not_lt.mp k))
theorem zL {a b:Str}(h:leT a b)(k:leT b a):a=b:=by
 have e:a.cps.toList=b.cps.toList:=List.le_antisymm (List.not_lt.mp h) (List.not_lt.mp k);obtain⟨a⟩:=a;obtain⟨b⟩:=b;have:a=b:=Array.toList_inj.mp e;rw[this]
noncomputable def uX (x:Str):List Str->List Str
 |[]=>[x]
 |y::r=>if ltCps y.cps.toList x.cps.toList then y::uX x r else x::y::r
noncomputable def ja (l:List Str):List Str:=l.foldr uX []
theorem kq (x:Str):∀l,(uX x l).Perm (x::l)
 |[]=>List.Perm.refl _
 |y::r=>by
  unfold uX;split
  ·exact((kq x r).cons y).trans (List.Perm.swap x y r)
  ·exact List.Perm.refl _
theorem dU:∀l,(ja l).Perm l
 |[]=>List.Perm.refl _
 |x::l=>(kq x (ja l)).trans ((dU l).cons x)
theorem pb (x:Str):∀l,l.Pairwise leT->(uX x l).Pairwise leT
 |[],_=>by simp[uX]
 |y::r,h=>by
  obtain⟨h1,h2⟩:=List.pairwise_cons.mp h;unfold uX;split
  ·rename_i hl;refine List.pairwise_cons.mpr ⟨λz hz=>?_,pb x r h2⟩;rcases List.mem_cons.mp ((kq x r).mem_iff.mp hz)with rfl|hz
   ·rw[ltCps_eq,decide_eq_true_eq]at hl;exact λk=>List.lt_irrefl _ (List.lt_trans hl k)
   ·exact h1 z hz
  ·rename_i hl;rw[Bool.not_eq_true]at hl;have hxy:leT x y:=wq.mp hl;refine List.pairwise_cons.mpr ⟨λz hz=>?_,h⟩;rcases List.mem_cons.mp hz with rfl|hz
   ·exact hxy
   ·exact oZ hxy (h1 z hz)
theorem ma:∀l,(ja l).Pairwise leT
 |[]=>List.Pairwise.nil
 |x::l=>pb x _ (ma l)
theorem kQ:∀(l:List Str)(p:Str),risingS p l=true->(p::l).Pairwise leT
 |[],p,_=>List.pairwise_singleton _ _
 |x::r,p,h=>by
  have h':(!ltCps x.cps.toList p.cps.toList && risingS x r)=true:=h;rw[Bool.and_eq_true]at h';have hpx:leT p x:=wq.mp (by simpa using h'.1);have ih:=kQ r x h'.2;refine List.pairwise_cons.mpr ⟨λz hz=>?_,ih⟩;rcases List.mem_cons.mp hz with rfl|hz
  ·exact hpx
  ·exact oZ hpx ((List.pairwise_cons.mp ih).1 z hz)
theorem sK:∀(l:List Str),sortedS l=true->l.Pairwise leT
 |[],_=>List.Pairwise.nil
 |x::r,h=>kQ r x h
theorem sL (a:Str):leT a a:=List.lt_irrefl _
theorem md:∀(l1 l2:List Str),l1.Perm l2->l1.Pairwise leT->l2.Pairwise leT->l1=l2
 |[],l2,p,_,_=>(List.nil_perm.mp p).symm
 |x::r1,[],p,_,_=>absurd p.length_eq (by simp)
 |x::r1,y::r2,p,h1,h2=>by
  have hxy:leT x y:=by
   rcases List.mem_cons.mp (p.mem_iff.mpr (mX ..))with z|z
   ·rw[z];exact sL _
   ·exact(List.pairwise_cons.mp h1).1 y z
  have hyx:leT y x:=by
   rcases List.mem_cons.mp (p.mem_iff.mp (mX ..))with z|z
   ·rw[z];exact sL _
   ·exact(List.pairwise_cons.mp h2).1 x z
  have e:=zL hxy hyx;subst e;rw[md r1 r2 (List.Perm.cons_inv p) (List.pairwise_cons.mp h1).2 (List.pairwise_cons.mp h2).2]
theorem yh {l l':List Str}(p:l'.Perm l)(h:sortedS l'=true):l'=ja l:=md _ _ (p.trans (dU l).symm) (sK _ h) (ma l)
section
variable {X:Cx}
noncomputable def zM (X:Cx)(S:Addr)(ts:List Str):HO:=.ext λh=>gb X.prog X.w h S ts
theorem yi {pins:List (Addr×Obj)}{σ:St}{H:Hp}{s s1:Shared}(I:Inv X pins σ H s)(k:∀b u,s.heap.get? b=some u->s1.heap.get? b=some u)(ho:s1.os=s.os)(hg:s1.gens=s.gens):Inv X pins σ H s1:=by
 have I1:=I.step (g':=s.gens) (d':=s1.drawn) (t':=s1.toks) (h':=s1.heap) (H':=H) (ch:=[]) (λ_ z=>nomatch z) (λb o _ _ _ e _=>k b o e) (λb o _ _ _ e _=>⟨o.slots,k b o e⟩) (λ_ _ _ _ n=>n)
  (λb o _ e=>⟨o,k b o e⟩) (λ_ _ e=>e) (λ_ _ _ e=>e) (λ_ _ e=>e) (λm hm=>?_) (I.hok.kept k) I.bare
 ·obtain⟨h1,g1,d1,t1,o1⟩:=s1;cases ho;cases hg
  exact I1
 ·obtain⟨o,es,ep,ho,r⟩:=hm;exact⟨o,es,ep,k _ o ho,r⟩
theorem sM (hc:X.calm=true):bB X (.type "set") (λxs H Q=>∃p ys ss,xs=[.ref p]/\SqL X.K H p ys/\(∀its,aT ys its->StrsAre its ss)/\ss.length<4000/\∀S,H S=none->Q (.ref S) (upd H S (zM X S (fO ss)))):=by
 intro pins s σ H xs us Q I r h;obtain⟨p,ys,ss,rfl,hq,hs,h64,q⟩:=h;obtain⟨u,rfl,rx⟩:=ge r;cases rx
 obtain⟨its,r',pl,hz⟩:=I.list hq;have hst:=hs its r';have hlen:its.length=ss.length:=by rw[←hst.strs,List.length_map]
 refine lX (I.ok.hd hc) pl.isList (by simpa using hst) (by simp only[List.size_toArray];unfold scanBound;omega) λh' tk hS hk=>?_;refine⟨.ref s.heap.objs.size,_,I.laid (t':=tk) (λb u e=>hk b u (Heap.lt_size e) e) (Nat.le_refl _) ?_,rfl,q _ (I.hok.fresh (Nat.le_refl _))⟩;refine⟨hS,?_,λh1 h2 z k=>z.at k⟩;obtain⟨o,_,_,_,ho,_⟩:=hS;exact⟨o,ho⟩
theorem ly (hc:X.calm=true):bB X (.builtin "sorted") (λxs H Q=>∃S ts,xs=[.ref S]/\H S=some (zM X S ts)/\ts.length<64/\∀l,H l=none->Q (.ref l) (upd H l (.lst ((ja ts).map .str)))):=by
 intro pins s σ H xs us Q I r h;obtain⟨S,ts,rfl,hS,h64,q⟩:=h;obtain⟨u,rfl,rx⟩:=ge r;cases rx
 have hT:gb X.prog X.w s.heap S ts:=(I.hok S _ hS).1;refine uW (I.ok.hd hc) hT h64 λs1 h' a out n ss' k1 ho hg k2 hp he hst hperm hso=>?_;have e:=yh hperm hso;subst e;have I1:=yi I k1 ho hg;have hv:∀ {its:List Value}{zs:List Str},StrsAre its zs->aT (zs.map V.str) its:=λz=>by
  induction z with
  |nil=>exact .nil
  |cons x t _ ih=>exact .cons ⟨t,rfl⟩ ih
 refine⟨.ref a,_,I1.laid (t':=s1.toks) k2 hp (show bz X.prog X.w _ h' _ (.lst _)from ⟨?_,out.toList,n,hv hst,he⟩),rfl,q _ (I1.hok.fresh hp)⟩;rw[List.length_map,(dU ts).length_eq,sizeLine_eq];omega
end
@[simp] noncomputable def eM:D->Option (D×Bool)
 |.lst ds=>(fB ds).bind λss=>if ss.length<64 then some (.lst ((ja (fO ss)).map .str),true)else none
 |_=>none
@[simp] noncomputable def Hb:D->Option (D×Bool)
 |.lst ds=>(fB ds).bind λss=>if ss.length<4000 then some (.int ((fO ss).length:Nat),false)else none
 |_=>none
theorem zN:bootBuiltins "sorted" = some (.builtin "sorted"):=by decide +kernel
theorem GJ:bootBuiltins "set" = some (.type "set"):=by decide +kernel
theorem mf {K:PySem.W.Frag}{N:Hp}:∀(zs:List Str),IsL K N (zs.map V.str) (zs.map D.str)
 |[]=>.nil
 |z::zs=>.cons (.str z) (mf zs)
section
variable {X:Cx}{e:Expr}{pos pos2 p p2:Pos}
theorem mh {f:FE}(hc:X.calm=true)(m1:X.mg "sorted" = none)(m2:X.mg "set" = none)(he:JE X e f)(g1:Gl X "sorted":=by rfl)(g2:Gl X "set":=by rfl)
  (h1:starEach [e] X.env=(false,eval e X.env)::starEach [] X.env:=by rfl):JE X (.Call (.Name "sorted" p) [.Call (.Name "set" p2) [e] [] pos2] [] pos) (f1 eM f):=by
 refine PE.to (rE (ly hc) g1 m1 zN (fP (oD (sM hc) g2 m2 GJ (fP he ib h1) (he:=h1)) ib)) λσ H Q q=>?_;obtain⟨B,ρ,d',bb,sB,r,ee,q⟩:=q;obtain⟨x1,ex,ee⟩:=oX ee;refine⟨B,ρ,x1.1,x1.2,sB,r,ex,λv H1 N1 xt i1 fr=>?_⟩;obtain⟨xd,xb⟩:=x1;cases i1<;>try (simp[eM]at ee;done)
 rename_i l0 vs ds h hl;simp only[eM]at ee;obtain⟨ss,ez,ee⟩:=oX ee;split at ee
 ·rename_i h64;cases ee
  refine⟨_,_,ss,rfl,xt.nh.seq h,λits r'=>ir r' hl ez,by omega,λS hS=>⟨S,_,rfl,aF,Nat.lt_of_le_of_lt (lW ss) h64,λl hl'=>?_⟩⟩;have x2:=Ext.laid (o:=zM X S (fO ss)) xt.nh hS;have x3:=Ext.laid (o:=.lst ((ja (fO ss)).map V.str)) x2.nh hl';have hl0:H l=none:=((xt.trans x2).hh).free hl';exact q _ _ _ ((xt.trans x2).trans x3) (.lst (SqL.of aF) (mf _)) λ_=>⟨_,_,_,rfl,rfl,hl0,aF,mf _⟩
 ·cases ee
end
end DL
namespace DL
open PySem PySem.Spec PySem.W PyProof.Rows
inductive Run (n:Nat)(lt:Nat->Nat->Bool){α:Type}:KasT α->α->Prop where
 |ret (a:α):Run n lt (.ret a) a
 |ask {i j:Nat}{k:Bool->KasT α}{a:α}(hi:i<n) (hj:j<n) (h:Run n lt (k (lt i j)) a):Run n lt (.ask i j k) a
theorem Run.bind {n:Nat}{lt:Nat->Nat->Bool}{α β:Type}{t:KasT α}{f:α->KasT β}{a:α}{b:β}(h:Run n lt t a)(k:Run n lt (f a) b):Run n lt (t.bind f) b:=by
 induction h with
 |ret a=>exact k
 |ask hi hj _ ih=>exact .ask hi hj (ih k)
theorem Run.wp {n:Nat}{lt:Nat->Nat->Bool}{α:Type}{cmp:Nat->Nat->(Bool->Shared->Prop)->Shared->Prop}{Q:α->Shared->Prop}{t:KasT α}{a:α}(J:Shared->Prop)
  (hc:∀i j C s,i<n->j<n->J s->(∀s',J s'->C (lt i j) s')->cmp i j C s) (h:Run n lt t a):∀ {s:Shared},J s->(∀s',J s'->Q a s')->t.kasWp cmp Q s:=by
 induction h with
 |ret a=>intro s hJ hQ;exact hQ s hJ
 |ask hi hj _ ih=>intro s hJ hQ;exact hc _ _ _ _ hi hj hJ λs' hJ'=>ih hJ' hQ
section
variable {n:Nat}{rk:Nat->Int}
noncomputable abbrev ltR (rk:Nat->Int)(i j:Nat):Bool:=decide (rk i<rk j)
noncomputable def bN (rk:Nat->Int)(p:Array Nat)(k:Nat):Int:=rk (p.getD k 0)
structure Arr (n:Nat)(p:Array Nat):Prop where
 size:p.size=n
 perm:p.toList.Perm (List.range n)
theorem Arr.lt {p:Array Nat}(h:Arr n p){k:Nat}(hk:k<n):p.getD k 0<n:=by
 have hk':k<p.size:=by rw[h.size];exact hk
 have:p.getD k 0=p[k]:=by rw[Array.getD_eq_getD_getElem?,Array.getElem?_eq_getElem hk'];rfl
 rw[this];exact List.mem_range.mp (h.perm.mem_iff.mp (by simp))
theorem Arr.rev {p:Array Nat}(h:Arr n p)(i j:Nat):Arr n (kas_rev p i j) :=
 ⟨(mirror_size _ _ _ _).trans h.size,(Array.perm_iff_toList_perm.mp (mirror_perm p i j _)).trans h.perm⟩
theorem Arr.bub {p:Array Nat}(h:Arr n p)(k d:Nat):Arr n (bubble p k d) :=
 ⟨(bubble_size _ _ _).trans h.size,(Array.perm_iff_toList_perm.mp (bubble_perm p k d)).trans h.perm⟩
theorem qq {p:Array Nat}{i j:Nat}(hj:j<=p.size)(k:Nat):bN rk (kas_rev p i j) k=if i<=k/\k<j then bN rk p (i+j - 1 - k)else bN rk p k:=by
 unfold bN kas_rev;rw[Array.getD_eq_getD_getElem?,getElem?_mirror_all hj];split<;>rw[Array.getD_eq_getD_getElem?]
theorem zO {p:Array Nat}{src d:Nat}(hs:src<p.size)(hd:d<=src)(k:Nat):bN rk (bubble p src d) k=if k=src - d then bN rk p src else if src - d<k/\k<=src then bN rk p (k - 1)else bN rk p k:=by
 unfold bN;simp only[Array.getD_eq_getD_getElem?];rw[getElem?_bubble hs d hd];repeat' split
 all_goals rfl
def Up (rk:Nat->Int)(p:Array Nat)(m:Nat):Prop:=∀i j,i<=j->j<m->bN rk p i<=bN rk p j
def qr (rk:Nat->Int)(p:Array Nat)(m:Nat):Prop:=∀i j,i<=j->j<m->bN rk p j<=bN rk p i
theorem EX (p:Array Nat):Up rk p 1:=λi j h1 h2=>by
 have:i=j:=by omega
 subst this;exact Int.le_refl _
theorem qt {p:Array Nat}(h:Arr n p){r:Nat}(hr:r<=n):∀(f m:Nat),r - m=f->1<=m->m<=r->Up rk p m->∃m',Run n (ltR rk) (kas_asc p f m) m'/\m<=m'/\m'<=r/\Up rk p m'/\(m'<r->bN rk p m'<bN rk p (m' - 1))
 |0,m,hf,h1,hm,hu=>⟨m,.ret m,Nat.le_refl _,hm,hu,λz=>by omega⟩
 |f+1,m,hf,h1,hm,hu=>by
  have a1:=h.lt (k:=m) (by omega);have a2:=h.lt (k:=m - 1) (by omega);by_cases hc:bN rk p m<bN rk p (m - 1)
  ·refine⟨m,.ask a1 a2 ?_,Nat.le_refl _,hm,hu,λ_=>hc⟩;have:ltR rk (p.getD m 0) (p.getD (m - 1) 0)=true:=decide_eq_true hc;rw[this,if_pos rfl];exact .ret m
  ·have hu':Up rk p (m+1):=λi j hij hj=>by
    by_cases e:j=m
    ·subst e;by_cases e2:i=j
     ·subst e2;exact Int.le_refl _
     ·have:=hu i (j - 1) (by omega) (by omega);omega
    ·exact hu i j hij (by omega)
   obtain⟨m',q1,q2,q3,q4,q5⟩:=qt h hr f (m+1) (by omega) (by omega) (by omega) hu';refine⟨m',.ask a1 a2 ?_,by omega,q3,q4,q5⟩;have:ltR rk (p.getD m 0) (p.getD (m - 1) 0)=false:=decide_eq_false hc;rw[this,if_neg Bool.false_ne_true];exact q1
def Cf (rk:Nat->Int)(p:Array Nat)(m q:Nat):Prop:=q+1<=m/\∀k,m - (q+1)<=k->k<m->bN rk p k=bN rk p (m - 1)
theorem sO {p:Array Nat}{m q:Nat}(hs:m<=p.size)(hf:Cf rk p m q)(k:Nat):bN rk (kas_rev p (m - (q+1)) m) k=bN rk p k:=by
 rw[qq hs];split
 ·rename_i hk;have h0:=hf.1;rw[hf.2 k hk.1 hk.2,hf.2 _ (by omega) (by omega)]
 ·rfl
theorem wt {p p':Array Nat}{m:Nat}(e:∀k,bN rk p' k=bN rk p k)(h:qr rk p m):qr rk p' m:=λi j h1 h2=>by rw[e,e];exact h i j h1 h2
theorem ml (p:Array Nat){m:Nat}(h:1<=m):Cf rk p m 0:=⟨h,λk h1 h2=>by
 have:k=m - 1:=by omega
 rw[this]⟩
theorem j8 {r:Nat}(hr:r<=n):∀(f:Nat)(p:Array Nat)(m q:Nat),Arr n p->r - m=f->1<=m->m<=r->qr rk p m->Cf rk p m q->∃p' m' q',Run n (ltR rk) (kas_desc f p m q) (p',m',q')/\Arr n p'/\m<=m'/\m'<=r/\qr rk p' m'/\Cf rk p' m' q'
 |0,p,m,q,h,hf,h1,hm,hd,hq=>⟨p,m,q,.ret _,h,Nat.le_refl _,hm,hd,hq⟩
 |f+1,p,m,q,h,hf,h1,hm,hd,hq=>by
  have a1:=h.lt (k:=m) (by omega);have a2:=h.lt (k:=m - 1) (by omega);have step:∀p':Array Nat,(∀k,bN rk p' k=bN rk p k)->bN rk p m<=bN rk p (m - 1)->qr rk p' (m+1):=λp' e hle i j hij hj=>by
   rw[e,e];by_cases z:j=m
   ·subst z;by_cases z2:i=j
    ·subst z2;exact Int.le_refl _
    ·have:=hd i (j - 1) (by omega) (by omega);omega
   ·exact hd i j hij (by omega)
  by_cases hc:bN rk p m<bN rk p (m - 1)
  ·have hcl:ltR rk (p.getD m 0) (p.getD (m - 1) 0)=true:=decide_eq_true hc;by_cases hq0:q > 0
   ·have e:=sO (p:=p) (by rw[h.size];omega) hq;obtain⟨p',m',q',g1,g2,g3,g4,g5,g6⟩:=j8 hr f (kas_rev p (m - (q+1)) m) (m+1) 0 (h.rev _ _) (by omega) (by omega) (by omega) (step _ e (by omega)) (ml _ (by omega));refine⟨p',m',q',.ask a1 a2 ?_,g2,by omega,g4,g5,g6⟩;rw[hcl,if_pos rfl,if_pos hq0];exact g1
   ·obtain⟨p',m',q',g1,g2,g3,g4,g5,g6⟩:=j8 hr f p (m+1) 0 h (by omega) (by omega) (by omega) (step _ (λ_=>rfl) (by omega)) (ml _ (by omega));refine⟨p',m',q',.ask a1 a2 ?_,g2,by omega,g4,g5,g6⟩;rw[hcl,if_pos rfl,if_neg hq0];exact g1
  ·have hcl:ltR rk (p.getD m 0) (p.getD (m - 1) 0)=false:=decide_eq_false hc;by_cases hc2:bN rk p (m - 1)<bN rk p m
   ·have hcl2:ltR rk (p.getD (m - 1) 0) (p.getD m 0)=true:=decide_eq_true hc2;refine⟨p,m,q,.ask a1 a2 ?_,h,Nat.le_refl _,hm,hd,hq⟩;rw[hcl,if_neg Bool.false_ne_true];refine .ask a2 a1 ?_;rw[hcl2,if_pos rfl];exact .ret _
   ·have hcl2:ltR rk (p.getD (m - 1) 0) (p.getD m 0)=false:=decide_eq_false hc2;have he:bN rk p m=bN rk p (m - 1):=by omega
    obtain⟨p',m',q',g1,g2,g3,g4,g5,g6⟩:=j8 hr f p (m+1) (q+1) h (by omega) (by omega) (by omega) (step _ (λ_=>rfl) (by omega)) ⟨by have:=hq.1;omega,λk k1 k2=>by
     rw[Nat.add_sub_cancel];by_cases z:k=m
     ·rw[z]
     ·rw[hq.2 k (by omega) (by omega),he]⟩
    refine⟨p',m',q',.ask a1 a2 ?_,g2,by omega,g4,g5,g6⟩;rw[hcl,if_neg Bool.false_ne_true];refine .ask a2 a1 ?_;rw[hcl2,if_neg Bool.false_ne_true];exact g1
theorem sP {r:Nat}(hr:r<=n){p:Array Nat}(h:Arr n p){m:Nat}(h1:1<=m)(hm:m<=r)(hd:qr rk p m):∃m' p',Run n (ltR rk) (kas_tail3 m r p) (m',p')/\Arr n p'/\1<=m'/\m'<=r/\Up rk p' m':=by
 have hu:Up rk (kas_rev p 0 m) m:=λi j hij hj=>by
  rw[qq (by rw[h.size];omega),qq (by rw[h.size];omega),if_pos (by omega),if_pos (by omega)];exact hd _ _ (by omega) (by omega)
 obtain⟨m',q1,q2,q3,q4,_⟩:=qt (h.rev 0 m) hr (r - m) m rfl h1 hm hu;exact⟨m',_,q1.bind (.ret _),h.rev 0 m,by omega,q3,q4⟩
theorem sQ {r:Nat}(hr:r<=n){p:Array Nat}(h:Arr n p){m:Nat}(hm:m+1<=r)(hd:qr rk p (m+1)):∃m' p',Run n (ltR rk) (kas_descPart m r p) (m',p')/\Arr n p'/\1<=m'/\m'<=r/\Up rk p' m':=by
 obtain⟨p1,m1,q1,g1,g2,g3,g4,g5,g6⟩:=j8 hr (r - (m+1)) p (m+1) 0 h rfl (by omega) hm hd (ml _ (by omega));by_cases hq:q1 > 0
 ·obtain⟨m',p',k1,k2,k3,k4,k5⟩:=sP hr (g2.rev (m1 - (q1+1)) m1) (m:=m1) (by omega) g4 (wt (sO (by rw[g2.size];omega) g6) g5);exact⟨m',p',g1.bind (by dsimp only;rw[if_pos hq];exact k1),k2,k3,k4,k5⟩
 ·obtain⟨m',p',k1,k2,k3,k4,k5⟩:=sP hr g2 (m:=m1) (by omega) g4 g5;exact⟨m',p',g1.bind (by dsimp only;rw[if_neg hq];exact k1),k2,k3,k4,k5⟩
theorem yj {p:Array Nat}(h:Arr n p)(hn:1<=n):∃m' p',Run n (ltR rk) (kas_count n p) (m',p')/\Arr n p'/\1<=m'/\m'<=n/\Up rk p' m':=by
 obtain⟨m,q1,q2,q3,q4,q5⟩:=qt h (Nat.le_refl n) (n - 1) 1 rfl (Nat.le_refl 1) hn (EX (rk:=rk) p);by_cases e:m=n
 ·exact⟨m,p,q1.bind (by rw[if_pos (by simp[e])];exact .ret _),h,q2,q3,q4⟩
 ·have hlt:=q5 (by omega);have e1:¬(m == n)=true:=by simp[e]
  by_cases hm1:m > 1
  ·by_cases hc:bN rk p 0<bN rk p (m - 1)
   ·refine⟨m,p,q1.bind ?_,h,q2,q3,q4⟩;rw[if_neg e1,if_pos hm1];refine .ask (h.lt (by omega)) (h.lt (by omega)) ?_;have:ltR rk (p.getD 0 0) (p.getD (m - 1) 0)=true:=decide_eq_true hc;rw[this,if_pos rfl];exact .ret _
   ·have hall:∀k,k<m->bN rk p k=bN rk p 0:=λk hk=>by
     have z1:=q4 0 k (by omega) hk;have z2:=q4 k (m - 1) (by omega) (by omega);omega
    have er:∀k,bN rk (kas_rev p 0 m) k=bN rk p k:=λk=>by
     rw[qq (by rw[h.size];omega)];split
     ·rename_i z;rw[hall _ (by omega),hall k z.2]
     ·rfl
    have hd:qr rk p (m+1):=λi j hij hj=>by
     by_cases z:j=m
     ·subst z;by_cases z2:i=j
      ·subst z2;exact Int.le_refl _
      ·rw[hall i (by omega)];rw[hall (j - 1) (by omega)]at hlt;omega
     ·rw[hall i (by omega),hall j (by omega)];exact Int.le_refl _
    obtain⟨m',p',k1,k2,k3,k4,k5⟩:=sQ (Nat.le_refl n) (h.rev 0 m) (m:=m) (by omega) (wt er hd);refine⟨m',p',q1.bind ?_,k2,k3,k4,k5⟩;rw[if_neg e1,if_pos hm1];refine .ask (h.lt (by omega)) (h.lt (by omega)) ?_;have:ltR rk (p.getD 0 0) (p.getD (m - 1) 0)=false:=decide_eq_false hc;rw[this,if_neg Bool.false_ne_true];exact k1
  ·have em:m=1:=by omega
   subst em;have hd:qr rk p 2:=λi j hij hj=>by
    by_cases z2:i=j
    ·subst z2;exact Int.le_refl _
    ·have:i=0:=by omega
     have:j=1:=by omega
     subst_vars;have:=hlt;simp at this;omega
   obtain⟨m',p',k1,k2,k3,k4,k5⟩:=sQ (Nat.le_refl n) h (m:=1) (by omega) hd;refine⟨m',p',q1.bind ?_,k2,k3,k4,k5⟩;rw[if_neg e1,if_neg hm1];exact k1
theorem kx {p:Array Nat}(h:Arr n p){k:Nat}(hk:k<n)(hu:Up rk p k):∀(f l r:Nat),r - l<=f->l<=r->r<=k->(∀i,i<l->bN rk p i<=bN rk p k)->(∀i,r<=i->i<k->bN rk p k<bN rk p i) ->
  ∃l',Run n (ltR rk) (kas_place p k f l r) l'/\l'<=k/\(∀i,i<l'->bN rk p i<=bN rk p k)/\(∀i,l'<=i->i<k->bN rk p k<bN rk p i)
 |0,l,r,hf,hl,hr,h1,h2=>⟨l,.ret l,by omega,h1,λi a b=>h2 i (by omega) b⟩
 |f+1,l,r,hf,hl,hr,h1,h2=>by
  by_cases hge:l ≥ r
  ·refine⟨l,?_,by omega,h1,λi a b=>h2 i (by omega) b⟩;unfold kas_place;rw[if_pos hge];exact .ret l
  ·by_cases hc:bN rk p k<bN rk p ((l+r) / 2)
   ·obtain⟨l',q1,q2,q3,q4⟩:=kx h hk hu f l ((l+r) / 2) (by omega) (by omega) (by omega) h1 λi a b=>by
     have:=hu ((l+r) / 2) i a b;omega
    refine⟨l',?_,q2,q3,q4⟩;unfold kas_place;rw[if_neg hge];refine .ask (h.lt (by omega)) (h.lt (by omega)) ?_;have:ltR rk (p.getD k 0) (p.getD ((l+r) / 2) 0)=true:=decide_eq_true hc;rw[this,if_pos rfl];exact q1
   ·obtain⟨l',q1,q2,q3,q4⟩:=kx h hk hu f ((l+r) / 2+1) r (by omega) (by omega) hr (λi a=>by
     have:=hu i ((l+r) / 2) (by omega) (by omega);omega) h2
    refine⟨l',?_,q2,q3,q4⟩;unfold kas_place;rw[if_neg hge];refine .ask (h.lt (by omega)) (h.lt (by omega)) ?_;have:ltR rk (p.getD k 0) (p.getD ((l+r) / 2) 0)=false:=decide_eq_false hc;rw[this,if_neg Bool.false_ne_true];exact q1
theorem wu:∀(f:Nat)(p:Array Nat)(k:Nat),Arr n p->n - k=f->k<=n->Up rk p k->∃p',Run n (ltR rk) (kas_bin f p k) p'/\Arr n p'/\Up rk p' n
 |0,p,k,h,hf,hk,hu=>⟨p,.ret p,h,(show k=n by omega) ▸ hu⟩
 |f+1,p,k,h,hf,hk,hu=>by
  have hk':k<n:=by omega
  obtain⟨l,q1,q2,q3,q4⟩:=kx h hk' hu k 0 k (by omega) (by omega) (Nat.le_refl _) (λi z=>by omega) (λi a b=>by omega);have hsz:k<p.size:=by rw[h.size];exact hk'
  have hu':Up rk (bubble p k (k - l)) (k+1):=λi j hij hj=>by
   rw[zO hsz (by omega),zO hsz (by omega)];have e:k - (k - l)=l:=by omega
   rw[e];by_cases i1:i=l
   ·rw[if_pos i1];by_cases j1:j=l
    ·rw[if_pos j1];exact Int.le_refl _
    ·rw[if_neg j1,if_pos (by omega)];have:=q4 (j - 1) (by omega) (by omega);omega
   ·rw[if_neg i1];by_cases i2:l<i/\i<=k
    ·rw[if_pos i2,if_neg (by omega),if_pos (by omega)];exact hu _ _ (by omega) (by omega)
    ·rw[if_neg i2];by_cases j1:j=l
     ·rw[if_pos j1];exact q3 i (by omega)
     ·rw[if_neg j1];by_cases j2:l<j/\j<=k
      ·rw[if_pos j2];exact hu _ _ (by omega) (by omega)
      ·rw[if_neg j2];exact hu _ _ hij (by omega)
  obtain⟨p',k1,k2,k3⟩:=wu f (bubble p k (k - l)) (k+1) (h.bub _ _) (by omega) (by omega) hu';exact⟨p',q1.bind k1,k2,k3⟩
theorem zP (hn:1<=n):∃p,Run n (ltR rk) (kas_sort n) p/\Arr n p/\Up rk p n:=by
 have h0:Arr n (List.toArray (List.range n)):=⟨by simp,by simp⟩;obtain⟨m,p,q1,q2,q3,q4,q5⟩:=yj (rk:=rk) h0 hn;by_cases e:m<n
 ·have hmx:max m 1=m:=by omega
  obtain⟨p',k1,k2,k3⟩:=wu (n - max m 1) p (max m 1) q2 rfl (by omega) (by rw[hmx];exact q5);exact⟨p',q1.bind (by dsimp only;rw[if_pos e];exact k1),k2,k3⟩
 ·have:m=n:=by omega
  subst this;exact⟨p,q1.bind (by dsimp only;rw[if_neg e];exact .ret _),q2,q5⟩
end
theorem iK {a b c:List Int}(h:a<b)(k:b<c):a<c:=List.lt_trans h k
theorem yk {a b c:List Int}(h:¬b<a)(k:¬c<b):¬c<a:=List.not_lt.mpr (List.le_trans (List.not_lt.mp h) (List.not_lt.mp k))
theorem zQ {a b:List Int}(h:¬b<a)(k:¬a<b):a=b:=List.le_antisymm (List.not_lt.mp h) (List.not_lt.mp k)
section
variable {α:Type}(f:α->List Int)
def leF (a b:α):Prop:=¬f b<f a
noncomputable def uY (x:α):List α->List α
 |[]=>[x]
 |y::r=>if f y<f x then y::uY x r else x::y::r
noncomputable def eX (l:List α):List α:=l.foldr (uY f) []
theorem ky (x:α):∀l,(uY f x l).Perm (x::l)
 |[]=>List.Perm.refl _
 |y::r=>by
  unfold uY;split
  ·exact((ky x r).cons y).trans (List.Perm.swap x y r)
  ·exact List.Perm.refl _
theorem bK:∀l,(eX f l).Perm l
 |[]=>List.Perm.refl _
 |x::l=>(ky f x (eX f l)).trans ((bK l).cons x)
theorem pc (x:α):∀l,l.Pairwise (leF f)->(uY f x l).Pairwise (leF f)
 |[],_=>by simp[uY]
 |y::r,h=>by
  obtain⟨h1,h2⟩:=List.pairwise_cons.mp h;unfold uY;split
  ·rename_i hl;refine List.pairwise_cons.mpr ⟨λz hz=>?_,pc x r h2⟩;rcases List.mem_cons.mp ((ky f x r).mem_iff.mp hz)with rfl|hz
   ·exact λk=>List.lt_irrefl _ (iK hl k)
   ·exact h1 z hz
  ·rename_i hl;refine List.pairwise_cons.mpr ⟨λz hz=>?_,h⟩;rcases List.mem_cons.mp hz with rfl|hz
   ·exact hl
   ·exact yk hl (h1 z hz)
theorem dn:∀l,(eX f l).Pairwise (leF f)
 |[]=>List.Pairwise.nil
 |x::l=>pc f x _ (dn l)
theorem k6:∀(l1 l2:List α),(∀x∈l1,∀y∈l1,f x=f y->x=y)->l1.Perm l2->l1.Pairwise (leF f)->l2.Pairwise (leF f)->l1=l2
 |[],l2,_,p,_,_=>(List.nil_perm.mp p).symm
 |x::r1,[],_,p,_,_=>absurd p.length_eq (by simp)
 |x::r1,y::r2,hi,p,h1,h2=>by
  have hy:y∈x::r1:=p.mem_iff.mpr (mX ..);have hxy:leF f x y:=by
   rcases List.mem_cons.mp hy with z|z
   ·rw[z];exact List.lt_irrefl _
   ·exact(List.pairwise_cons.mp h1).1 y z
  have hyx:leF f y x:=by
   rcases List.mem_cons.mp (p.mem_iff.mp (mX ..))with z|z
   ·rw[z];exact List.lt_irrefl _
   ·exact(List.pairwise_cons.mp h2).1 x z
  have e:x=y:=hi x (mX ..) y hy (zQ hxy hyx);subst e;rw[k6 r1 r2 (λa ha b hb=>hi a (mZ _ ha) b (mZ _ hb)) (List.Perm.cons_inv p) (List.pairwise_cons.mp h1).2 (List.pairwise_cons.mp h2).2]
theorem j9 {l l':List α}(hi:∀x∈l,∀y∈l,f x=f y->x=y)(p:l'.Perm l)(h:l'.Pairwise (leF f)):l'=eX f l :=
 k6 f _ _ (λx hx y hy=>hi x (p.mem_iff.mp hx) y (p.mem_iff.mp hy)) (p.trans (bK f l).symm) h (dn f l)
end
theorem jn {α:Type}{p q:α->Bool}(h:∀x,p x=true->q x=true):∀l:List α,(l.filter p).length<=(l.filter q).length
 |[]=>Nat.le_refl _
 |x::l=>by
  have ih:=jn h l;rw[List.filter_cons,List.filter_cons];by_cases z:p x=true
  ·rw[if_pos z,if_pos (h x z)];simp only[List.length_cons];omega
  ·rw[if_neg z];split
   ·simp only[List.length_cons];omega
   ·exact ih
noncomputable def jA (cs:List (List Int))(c:List Int):Int:=((cs.filter λx=>decide (x<c)).length:Nat)
theorem Cg {cs:List (List Int)}{a b:List Int}(h:¬b<a):jA cs a<=jA cs b:=by
 unfold jA;refine Int.ofNat_le.mpr (jn (λx hx=>?_) cs);rw[decide_eq_true_eq]at hx ⊢;rcases List.le_iff_lt_or_eq.mp (List.not_lt.mp h)with z|z
 ·exact iK hx z
 ·rw[←z];exact hx
theorem ww {cs:List (List Int)}{a b:List Int}(ha:a∈cs)(h:a<b):jA cs a<jA cs b:=by
 unfold jA;apply Int.ofNat_lt.mpr;induction cs with
 |nil=>simp at ha
 |cons c cs ih=>
  have key:∀l:List (List Int),(l.filter λx=>decide (x<a)).length<=(l.filter λx=>decide (x<b)).length:=λl=>
   jn (λx hx=>by rw[decide_eq_true_eq]at hx ⊢;exact iK hx h) l
  rw[List.filter_cons,List.filter_cons];rcases List.mem_cons.mp ha with rfl|ha
  ·rw[if_neg (by simp[List.lt_irrefl]),if_pos (by simpa using h)];have:=key cs;simp only[List.length_cons];omega
  ·have:=ih ha;by_cases z:c<a
   ·rw[if_pos (by simpa using z),if_pos (by simpa using iK z h)];simp only[List.length_cons];omega
   ·rw[if_neg (by simpa using z)];split
    ·simp only[List.length_cons];omega
    ·exact this
theorem sR {cs:List (List Int)}{a b:List Int}(ha:a∈cs):decide (jA cs a<jA cs b)=decide (a<b):=by
 by_cases h:a<b
 ·rw[decide_eq_true h,decide_eq_true (ww ha h)]
 ·rw[decide_eq_false h,decide_eq_false];have:=Cg (cs:=cs) h;omega
inductive At where
 |i (n:Int)
 |s (z:Str)
noncomputable def enc:At->List Int
 |.i n=>[n]
 |.s z=>z.cps.toList.map (λ(c:Nat)=>(c:Int)+1)++[0]
noncomputable def bT (xs:List At):List Int:=xs.flatMap enc
noncomputable def aJ:List At->List At->Option Bool
 |[],ys=>some (!ys.isEmpty)
 |_::_,[]=>some false
 |.i a::xs,.i b::ys=>if a=b then aJ xs ys else some (decide (a<b))
 |.s a::xs,.s b::ys=>if a=b then aJ xs ys else some (decide (a.cps.toList<b.cps.toList))
 |_::_,_::_=>none
theorem qu:∀(a b:List Nat)(r r':List Int),(a.map (λ(c:Nat)=>(c:Int)+1)++0::r)<(b.map (λ(c:Nat)=>(c:Int)+1)++0::r')↔a<b∨(a=b/\r<r')
 |[],[],r,r'=>by simp[List.cons_lt_cons_iff]
 |[],y::b,r,r'=>by simp[List.cons_lt_cons_iff]
 |x::a,[],r,r'=>by simp[List.cons_lt_cons_iff];omega
 |x::a,y::b,r,r'=>by
  rw[List.map_cons,List.map_cons,List.cons_append,List.cons_append,List.cons_lt_cons_iff,qu a b r r',List.cons_lt_cons_iff];constructor
  ·rintro (h|⟨h,k|⟨k1,k2⟩⟩)
   ·exact .inl (.inl (by omega))
   ·exact .inl (.inr ⟨by omega,k⟩)
   ·exact .inr ⟨by rw[k1,show x=y by omega],k2⟩
  ·rintro ((h|⟨h,k⟩)|⟨h,k⟩)
   ·exact .inl (by omega)
   ·exact .inr ⟨by omega,.inl k⟩
   ·injection h with h1 h2;exact .inr ⟨by omega,.inr ⟨h2,k⟩⟩
theorem gq (x:At)(xs:List At):bT (x::xs)=enc x++bT xs:=by unfold bT;rw[List.flatMap_cons]
theorem EY (x:At):enc x≠[]:=by cases x<;>simp[enc]
theorem wx {a b:Str}:a.cps.toList=b.cps.toList↔a=b:=by
 constructor
 ·intro h;obtain⟨a⟩:=a;obtain⟨b⟩:=b;have:a=b:=Array.toList_inj.mp h;rw[this]
 ·rintro rfl;rfl
theorem jB:∀(xs ys:List At)(b:Bool),aJ xs ys=some b->b=decide (bT xs<bT ys)
 |[],[],b,h=>by simp[aJ]at h;subst h;simp[bT]
 |[],y::ys,b,h=>by
  simp[aJ]at h;subst h;rw[gq];cases e:enc y with
  |nil=>exact absurd e (EY y)
  |cons c cs=>simp[bT]
 |x::xs,[],b,h=>by simp[aJ]at h;subst h;simp[bT]
 |.i a::xs,.i c::ys,b,h=>by
  rw[aJ]at h;rw[gq,gq];show b=decide (a::bT xs<c::bT ys);split at h
  ·rename_i e;subst e;rw[jB xs ys b h];exact decide_eq_decide.mpr (by rw[List.cons_lt_cons_iff];simp)
  ·rename_i e;cases h
   exact decide_eq_decide.mpr (by rw[List.cons_lt_cons_iff];simp[e])
 |.s a::xs,.s c::ys,b,h=>by
  rw[aJ]at h;rw[gq,gq];have e0:∀(z:Str)(r:List Int),enc (.s z)++r=z.cps.toList.map (λ(c:Nat)=>(c:Int)+1)++0::r:=λz r=>by simp[enc]
  rw[e0,e0];split at h
  ·rename_i e;subst e;rw[jB xs ys b h];exact decide_eq_decide.mpr (by rw[qu];exact⟨λz=>.inr ⟨rfl,z⟩,λz=>z.elim (λq=>absurd q (List.lt_irrefl _)) (·.2)⟩)
  ·rename_i e;cases h
   exact decide_eq_decide.mpr (by rw[qu,wx];exact⟨.inl,λz=>z.elim id λq=>absurd q.1 e⟩)
 |.i _::_,.s _::_,b,h=>by simp[aJ]at h
 |.s _::_,.i _::_,b,h=>by simp[aJ]at h
theorem qw:∀(xs ys:List At),aJ xs ys=some false->aJ ys xs=some false->xs=ys
 |[],[],_,_=>rfl
 |[],y::ys,h,_=>by simp[aJ]at h
 |x::xs,[],_,h=>by simp[aJ]at h
 |.i a::xs,.i c::ys,h,k=>by
  rw[aJ]at h k;by_cases e:a=c
  ·subst e;rw[if_pos rfl]at h k;rw[qw xs ys h k]
  ·rw[if_neg e]at h;rw[if_neg (Ne.symm e)]at k;simp at h k;omega
 |.s a::xs,.s c::ys,h,k=>by
  rw[aJ]at h k;by_cases e:a=c
  ·subst e;rw[if_pos rfl]at h k;rw[qw xs ys h k]
  ·rw[if_neg e]at h;rw[if_neg (Ne.symm e)]at k;simp only[Option.some.injEq,decide_eq_false_iff_not]at h k;exact absurd (wx.mp (List.le_antisymm (List.not_lt.mp k) (List.not_lt.mp h))) e
 |.i _::_,.s _::_,h,_=>by simp[aJ]at h
 |.s _::_,.i _::_,h,_=>by simp[aJ]at h
noncomputable def da (ks:List (List At)):Bool:=ks.all λx=>ks.all λy=>(aJ x y).isSome
theorem fj {ks:List (List At)}(h:da ks=true){x y:List At}(hx:x∈ks)(hy:y∈ks):aJ x y=some (decide (bT x<bT y)):=by
 have:=List.all_eq_true.mp (List.all_eq_true.mp h x hx) y hy;obtain⟨b,e⟩:=Option.isSome_iff_exists.mp this;rw[e,jB _ _ _ e]
theorem k7 {ks:List (List At)}(h:da ks=true){x y:List At}(hx:x∈ks)(hy:y∈ks)(e:bT x=bT y):x=y:=by
 refine qw _ _ ?_ ?_
 ·rw[fj h hx hy,e,decide_eq_false (List.lt_irrefl _)]
 ·rw[fj h hy hx,e,decide_eq_false (List.lt_irrefl _)]
def atV:At->Value->Prop
 |.i n,v=>∃t,v=.int n t
 |.s z,v=>∃t,v=.str z t
def dM (h:Heap)(xs:List At)(v:Value):Prop:=∃a o its n,v=.ref a/\h.get? a=some o/\o.cls=.type "tuple"/\o.data=.seq its n/\Paired atV xs its.toList
noncomputable def dD (ks:List (List At)):Bool:=ks.all (λx=>match x with|.i _::_=>true|_=>false) || ks.all (λx=>match x with|.s _::_=>true|_=>false)
section
variable {prog:Program}{w:World}{A:Around}{E:Value->Shared->Prop}{s:Shared}
theorem mm {Q:Bool->Shared->Prop}{b:Bool}{fin:Bool}:∀(xs ys:List At)(its jts:List Value)(i:Nat),Paired atV xs its->Paired atV ys jts->aJ xs ys=some b->fin=decide (xs.length<ys.length)->Q b s->KatLex prog w A true fin Q (its.zip jts) i s
 |[],ys,_,jts,i,.nil,r2,h,hf,q=>by
  rw[List.zip_nil_left];refine kat_nil ?_;cases ys with
  |nil=>simp[aJ]at h;subst h;rw[hf];exact q
  |cons y ys=>simp[aJ]at h;subst h;rw[hf];simpa using q
 |x::xs,[],_,_,i,_,.nil,h,hf,q=>by
  rw[List.zip_nil_right];refine kat_nil ?_;simp[aJ]at h;subst h;rw[hf];simpa using q
 |.i a::xs,.i c::ys,_,_,i,.cons r1 r1',.cons r2 r2',h,hf,q=>by
  obtain⟨t,rfl⟩:=r1;obtain⟨u,rfl⟩:=r2;rw[List.zip_cons_cons];refine kat_cons (wpAny_eqBool_int ?_);rw[aJ]at h;by_cases e:a=c
  ·rw[if_pos e]at h;rw[show(a == c)=true by simp[e]];exact kat_yes (mm xs ys _ _ (i+1) r1' r2' h (by rw[hf];simp) q)
  ·rw[if_neg e]at h;cases h
   rw[show(a == c)=false by simp[e]];refine kat_no ?_;cases hb:(true && i == 0) with
   |true=>exact oneLt_int q
   |false=>exact kat_one _ _ (PyProof.Rows.lt_int q)
 |.s a::xs,.s c::ys,_,_,i,.cons r1 r1',.cons r2 r2',h,hf,q=>by
  obtain⟨t,rfl⟩:=r1;obtain⟨u,rfl⟩:=r2;rw[List.zip_cons_cons];refine kat_cons (wpAny_eqBool_str ?_);rw[aJ]at h;by_cases e:a=c
  ·rw[if_pos e]at h;rw[decide_eq_true e];exact kat_yes (mm xs ys _ _ (i+1) r1' r2' h (by rw[hf];simp) q)
  ·rw[if_neg e]at h;cases h
   rw[decide_eq_false e];refine kat_no ?_;cases hb:(true && i == 0) with
   |true=>exact oneLt_str q
   |false=>exact kat_one _ _ (PySem.P.lt_str q)
 |.i _::_,.s _::_,_,_,_,_,_,h,_,_=>by simp[aJ]at h
 |.s _::_,.i _::_,_,_,_,_,_,h,_,_=>by simp[aJ]at h
theorem dq {α β:Type}{F:α->β->Prop}:∀ {l₁:List α}{l₂:List β},Paired F l₁ l₂->l₁.length=l₂.length
 |_,_,.nil=>rfl
 |_,_,.cons _ t=>by simp[dq t]
theorem EZ {Q:Bool->Shared->Prop}{xs ys:List At}{x y:Value}{b:Bool}(hx:dM s.heap xs x)(hy:dM s.heap ys y)(h:aJ xs ys=some b)(q:Q b s):wpAny (model prog w) A (keyLt' (tuples' true) x y) Q E s:=by
 obtain⟨a,o,its,n,rfl,ho,_,hd,r⟩:=hx;obtain⟨a',o',its',n',rfl,ho',_,hd',r'⟩:=hy;refine kat_lt ho hd ho' hd' (mm xs ys _ _ 0 r r' h ?_ q);rw[←Array.length_toList,←Array.length_toList,dq r,dq r']
theorem kR {h:Heap}:∀ {ks:List (List At)}{vs:List Value},Paired (dM h) ks vs->(∀k∈ks,k≠[])->∃fs,KatTups h vs fs/\fs.length=ks.length/\∀v∈fs,∃k r,(k::r)∈ks/\atV k v
 |_,_,.nil,_=>⟨[],trivial,rfl,by simp⟩
 |k::ks,_,.cons x t,hne=>by
  obtain⟨fs,h1,h2,h3⟩:=kR t λz hz=>hne z (mZ _ hz);obtain⟨a,o,its,n,rfl,ho,hc,hd,r⟩:=x;cases r':its.toList with
  |nil=>
   rw[r']at r;cases r
   exact absurd rfl (hne [] (mX ..))
  |cons v vs=>
   rw[r']at r;obtain⟨p,r1⟩:∃p,its[0]? = some v:=⟨(),by rw[←Array.getElem?_toList,r'];rfl⟩;cases r with
   |cons q qs=>
    rename_i k0 kr;refine⟨v::fs,KatTups.cons ho hc hd r1 h1,by simp[h2],λu hu=>?_⟩;rcases List.mem_cons.mp hu with rfl|hu
    ·exact⟨k0,kr,mX ..,q⟩
    ·obtain⟨k1,r1,m1,m2⟩:=h3 u hu;exact⟨k1,r1,mZ _ m1,m2⟩
theorem zR {ks:List (List At)}{vs:List Value}{Q:SortKind->Shared->Prop}(hp:Paired (dM s.heap) ks vs)(hf:dD ks=true)(hn:0<ks.length)(q:Q (tuples' true) s):wpAny (model prog w) A (keyKind' vs.toArray) Q E s:=by
 have hne:∀k∈ks,k≠[]:=λk hk z=>by
  subst z;unfold dD at hf;rw[Bool.or_eq_true]at hf;rcases hf with hf|hf
  ·have:=List.all_eq_true.mp hf [] hk;simp at this
  ·have:=List.all_eq_true.mp hf [] hk;simp at this
 obtain⟨fs,h1,h2,h3⟩:=kR hp hne;unfold dD at hf;rw[Bool.or_eq_true]at hf;rcases hf with hf|hf
 ·refine kat_kind (T:=.type "int") h1 (by omega) (λv hv=>?_) (by decide) q;obtain⟨k,r,m,z⟩:=h3 v hv;have:=List.all_eq_true.mp hf _ m;cases k with
  |i n=>obtain⟨t,rfl⟩:=z;exact .now
  |s z'=>simp at this
 ·refine kat_kind (T:=.type "str") h1 (by omega) (λv hv=>?_) (by decide) q;obtain⟨k,r,m,z⟩:=h3 v hv;have:=List.all_eq_true.mp hf _ m;cases k with
  |s z'=>obtain⟨t,rfl⟩:=z;exact .now
  |i n=>simp at this
end
section
variable {prog:Program}{w:World}{A:Around}{E:Value->Shared->Prop}{s:Shared}
theorem dr {α β:Type}{F:α->β->Prop}(d:α)(e:β):∀ {l₁:List α}{l₂:List β},Paired F l₁ l₂->∀ {i:Nat},i<l₁.length->F (l₁.getD i d) (l₂.getD i e)
 |_,_,.cons r t,0,_=>r
 |_,_,.cons r t,i+1,h=>by
  simp only[List.getD_cons_succ];exact dr d e t (by simpa using h)
 |_,_,.nil,i,h=>by simp at h
noncomputable def rkK (ks:List (List At))(i:Nat):Int:=jA (ks.map bT) (bT (ks.getD i []))
theorem Ch {ks:List (List At)}{vs:List Value}(hc:da ks=true)(hp:Paired (dM s.heap) ks vs):∀(i j:Nat)(C:Bool->Shared->Prop)(s1:Shared),i<ks.length->j<ks.length->s1=s->(∀s',s'=s->C (ltR (rkK ks) i j) s')->kas_ask prog w A (tuples' true) vs i j C s1:=by
 intro i j C s1 hi hj e hC;subst e;unfold kas_ask;have mi:ks.getD i []∈ks:=by rw[List.getD_eq_getElem?_getD,List.getElem?_eq_getElem hi];exact List.getElem_mem hi
 have mj:ks.getD j []∈ks:=by rw[List.getD_eq_getElem?_getD,List.getElem?_eq_getElem hj];exact List.getElem_mem hj
 refine EZ (dr [] Value.none hp hi) (dr [] Value.none hp hj) (fj hc mi mj) ?_;have:=hC s1 rfl;unfold ltR rkK at this;rw[sR (List.mem_map.mpr ⟨_,mi,rfl⟩)]at this;exact this
end
end DL
namespace DL
open PySem PySem.Spec PySem.W PyProof.Rows L2
noncomputable def D1:D->Option At
 |.int n=>some (.i n)
 |.str z=>some (.s z)
 |_=>none
noncomputable def cM:List D->Option (List At)
 |[]=>some []
 |d::ds=>(D1 d).bind λa=>(cM ds).map (a :: ·)
noncomputable def sS:D->Option (List At)
 |.tup es=>cM es
 |_=>none
noncomputable def cN:List D->Option (List (List At))
 |[]=>some []
 |d::ds=>(sS d).bind λa=>(cN ds).map (a :: ·)
noncomputable def D2:List D->Option (List Int)
 |[]=>some []
 |.int n::ds=>(D2 ds).map (n :: ·)
 |_::_=>none
theorem gs:∀ {ds:List D}{ks:List (List At)},cN ds=some ks->ks.length=ds.length
 |[],_,h=>by simp only[cN]at h;cases h;rfl
 |d::ds,_,h=>by
  simp only[cN]at h;obtain⟨a,h1,h⟩:=oX h;obtain⟨r,h2,h⟩:=oY h;subst h;simp[gs h2]
theorem k8:∀ {ds:List D}{ks:List (List At)},cN ds=some ks->∀ {i:Nat},i<ds.length->sS (ds.getD i .non)=some (ks.getD i [])
 |[],_,h,i,hi=>by simp at hi
 |d::ds,_,h,0,hi=>by
  simp only[cN]at h;obtain⟨a,h1,h⟩:=oX h;obtain⟨r,h2,h⟩:=oY h;subst h;exact h1
 |d::ds,_,h,i+1,hi=>by
  simp only[cN]at h;obtain⟨a,h1,h⟩:=oX h;obtain⟨r,h2,h⟩:=oY h;subst h;simp only[List.getD_cons_succ];exact k8 h2 (by simpa using hi)
section
variable {X:Cx}
theorem sT {K:PySem.W.Frag}{B:Hp}:∀ {vs:List V}{es:List D}{k:List At}{its:List Value},aT vs its->IsL K B vs es->cM es=some k->Paired atV k its
 |_,_,_,_,.nil,.nil,h=>by simp only[cM]at h;cases h;exact .nil
 |_,_,_,_,.cons r rr,.cons i ii,h=>by
  simp only[cM]at h;obtain⟨a,h1,h⟩:=oX h;obtain⟨t,h2,h⟩:=oY h;subst h;refine .cons ?_ (sT rr ii h2);cases i<;>simp only[D1]at h1<;>cases h1
  ·exact r
  ·exact r
theorem lF {pins:List (Addr×Obj)}{σ:St}{H:Hp}{s:Shared}(I:Inv X pins σ H s):∀ {ys:List V}{ds:List D}{ks:List (List At)}{its:List Value},aT ys its->IsL X.K H ys ds->cN ds=some ks->Paired (dM s.heap) ks its
 |_,_,_,_,.nil,.nil,h=>by simp only[cN]at h;cases h;exact .nil
 |_,_,_,_,.cons r rr,.cons i ii,h=>by
  simp only[cN]at h;obtain⟨a,h1,h⟩:=oX h;obtain⟨t,h2,h⟩:=oY h;subst h;refine .cons ?_ (lF I rr ii h2);cases i<;>simp only[sS]at h1<;>try (cases h1;done)
  rename_i hq hl;cases r
  obtain⟨its',r',⟨o,ho,hc,n,hd⟩,_⟩:=I.tuple hq;exact⟨_,o,_,n,rfl,ho,hc,hd,by simpa using sT r' hl h1⟩
theorem wy {K:PySem.W.Frag}{B:Hp}:∀ {vs:List V}{ds:List D},IsL K B vs ds->∀ {i:Nat},i<ds.length->Is K B (vs.getD i .non) (ds.getD i .non)
 |_,_,.cons h _,0,_=>h
 |_,_,.cons _ t,i+1,hi=>by
  simp only[List.getD_cons_succ];exact wy t (by simpa using hi)
 |_,_,.nil,i,hi=>by simp at hi
theorem sU:∀ {vs:List V}{us:List Value},aT vs us->∀ {i:Nat},i<vs.length->aS (vs.getD i .non) (us.getD i Value.none)
 |_,_,.cons h _,0,_=>h
 |_,_,.cons _ t,i+1,hi=>by
  simp only[List.getD_cons_succ];exact sU t (by simpa using hi)
 |_,_,.nil,i,hi=>by simp at hi
theorem sV {K:PySem.W.Frag}{B:Hp}{vs:List V}{ds:List D}(h:IsL K B vs ds):∀(l:List Nat),(∀i∈l,i<ds.length)->IsL K B (l.map λi=>vs.getD i .non) (l.map λi=>ds.getD i .non)
 |[],_=>.nil
 |i::l,hl=>.cons (wy h (hl i (mX ..))) (sV h l λj hj=>hl j (mZ _ hj))
theorem pd {vs:List V}{us:List Value}(h:aT vs us):∀(l:List Nat),(∀i∈l,i<vs.length)->aT (l.map λi=>vs.getD i .non) (l.map λi=>us.getD i Value.none)
 |[],_=>.nil
 |i::l,hl=>.cons (sU h (hl i (mX ..))) (pd h l λj hj=>hl j (mZ _ hj))
end
section
variable {X:Cx}
theorem iH:∀ {its:List Value}{zs:List Int},IntsAre its zs->aT (zs.map V.int) its
 |_,_,.nil=>.nil
 |_,_,.cons x t r=>.cons ⟨t,rfl⟩ (iH r)
end
end DL
namespace DL
open PySem PySem.Spec PyProof.Rows L2
section
variable {X:Cx}{pos:Pos}
@[simp] noncomputable def Ih (i:Nat)(f:FE):FS:=λρ=>match ρ[i]? with
 |some (some (.lst ds,true))=>(f ρ).bind λx=>(D2 ds).bind λns=>match x.1 with
  |.int n=>if ns.findIdx (· == n)<ns.length then some (.nx (ρ.set i (some (.lst ((ns.eraseIdx (ns.findIdx (· == n))).map .int),true))))else none
  |_=>none
 |_=>none
end
section
variable {prog:Program}{w:World}{A:Around}{E:Value->Shared->Prop}{s:Shared}
theorem uZ {a:Addr}{o:Obj}{its:Array Value}{n:Nat}{x:Value}{e:Value->Bool}{j:Nat}{P:PySem.Fin->Shared->Prop}(ho:s.heap.get? a=some o)(hd:o.data=.seq its n)
  (he:∀y∈its,MeetsSeq.EqGives y x (e y)) (hj:j<its.size) (hit:e its[j]=true) (hno:∀m (hm:m<its.size),m<j->e its[m]=false)
  (h:P (.done (.ret (.int j s.toks))) { s with toks:=s.toks+1 }):wpAny (model prog w) A (Builtin.«tuple.index» ⟨[.ref a,x],[]⟩) P E s:=by
 show wpAny _ _ (Builtin.Tuple.tupleItemsOf (.ref a)>>=_) _ _ s;refine wX (wpAny_tupleItemsOf ho hd ?_);dsimp only;refine wX (wY (wX (wY (wX ?_))));rw[Std.Legacy.Range.forIn_eq_forIn_range'];refine wpAny_forIn_list _
  (λau r s'=>r.1=none/\s'=s/\∃i,i<=j/\au=List.range' i (its.size - i))
  _ ?_ ?_ _ _ ⟨rfl,rfl,0,Nat.zero_le _,?_⟩
 ·rintro k au r s' ⟨hr,rfl,i,hi,hz⟩;have hlt:i<its.size:=by omega
  obtain⟨m,hm⟩:∃m,its.size - i=m+1:=⟨its.size - i - 1,by omega⟩;rw[hm,List.range'_succ]at hz;injection hz with z1 z2;have z1:=z1.symm;subst z1;subst z2;have hg:its[i]? = some its[i]:=by simp[hlt]
  simp only[hg];refine wX (he _ (Array.getElem_mem hlt) prog w _ _ _ _ ?_);by_cases hij:i=j
  ·subst hij;rw[hit];simp only[if_true];refine wX ?_;show wpAny _ _ (mkInt (i:Int)>>=λv=>ret v) _ _ _;exact wX (wpAny_mkInt (wY (wY (wY h))))
  ·rw[hno i hlt (by omega)];simp only[Bool.false_eq_true,if_false];exact wY ⟨rfl,rfl,i+1,by omega,by rw[show its.size - (i+1)=m by omega]⟩
 ·rintro⟨r1,r2⟩ s' ⟨hr,rfl,i,hi,hz⟩;exfalso;have:(List.range' i (its.size - i)).length=0:=by rw[←hz];rfl
  rw[List.length_range']at this;omega
 ·simp
end
theorem CRows.findT {K:PySem.W.Frag}{P:Params}(y:Str){ds:List D}:∀ {es:List DictEntry}{kvs:List (Str×D)},CRows K P es kvs->kvs.lookup y=some (.tup ds) ->
  ∃e a its n osl,es.find? (λe=>Value.isStrOf y e.key)=some e/\e.val=.ref a/\K.lookup a=some ⟨.type "tuple",none,.seq its n,osl⟩/\gH its.toList ds=true
 |_,_,.nil,h=>by simp at h
 |_,_,.tup (x:=x) (t:=t) (a:=a) (ds:=ds') hh l f tl,h=>by
  by_cases e:y=x
  ·subst e;rw[List.lookup_cons_self]at h;cases h
   rw[Bool.and_eq_true]at f;exact⟨_,a,_,_,_,List.find?_cons_of_pos (by simp[Value.isStrOf]),rfl,l,f.2⟩
  ·rw[List.lookup_cons,beq_eq_false_iff_ne.mpr e]at h;have nf:Value.isStrOf y (Value.str x t)=false:=by
    rw[Bool.eq_false_iff];intro z;obtain⟨t',q⟩:=Value.isStrOf_shape z;injection q with q1;exact e q1.symm
   simp only[List.find?_cons,nf];exact tl.findT y h
 |_,_,.flat (x:=x) (t:=t) (u:=u) (d:=d) hh f tl,h=>by
  by_cases e:y=x
  ·subst e;rw[List.lookup_cons_self]at h;cases h
   cases u<;>simp[qh]at f
  ·rw[List.lookup_cons,beq_eq_false_iff_ne.mpr e]at h;have nf:Value.isStrOf y (Value.str x t)=false:=by
    rw[Bool.eq_false_iff];intro z;obtain⟨t',q⟩:=Value.isStrOf_shape z;injection q with q1;exact e q1.symm
   simp only[List.find?_cons,nf];exact tl.findT y h
section
variable {X:Cx}{b e:Expr}{pos:Pos}{x:Str}{p:Pos}
def HI (K:PySem.W.Frag):V->List V->Hp->VK->Prop:=λx xs H Q=>∃(a:Addr)(o:Obj)(its:Array Value)(n:Nat)(zs:List Str)(y:Str),x=.ref a/\xs=[.str y]/\K.lookup a=some o/\o.cls=.type "tuple"/\o.data=.seq its n/\StrsAre its.toList zs/\zs.findIdx (· == y)<zs.length/\Q (.int (zs.findIdx (· == y):Nat)) H
noncomputable def D3 (y:Str):Value->Bool
 |.str z _=>z == y
 |_=>false
theorem wz:∀ {its:List Value}{zs:List Str},StrsAre its zs->∀(i:Nat)(hi:i<its.length),∃(h:i<zs.length)(t:Tok),its[i]=.str zs[i] t
 |_,_,.cons z t h,0,_=>⟨by simp,t,rfl⟩
 |_,_,.cons z t h,i+1,hi=>by
  obtain⟨h',t',e⟩:=wz h i (by simpa using hi);exact⟨by simpa using h',t',by simpa using e⟩
 |_,_,.nil,i,hi=>by simp at hi
theorem sW:∀ {its:List Value}{zs:List Str},StrsAre its zs->its.length=zs.length
 |_,_,.nil=>rfl
 |_,_,.cons _ _ h=>by rw[List.length_cons,List.length_cons,sW h]
theorem zS:MtR X "tuple.index" (HI X.K):=by
 intro pins s σ H x xs v us Q I rx rv h;obtain⟨a,o,its,n,zs,y,rfl,rfl,lk,hc,hd,hz,hk,q⟩:=h;cases rx
 obtain⟨u,rfl,⟨t,rfl⟩⟩:=rv.one;have ho:=I.kIn a o lk;have hl:=sW hz;rw[Array.length_toList]at hl;have at':∀(i:Nat)(hi:i<its.size),∃(h:i<zs.length)(t:Tok),its[i]=.str zs[i] t:=λi hi=>by
  obtain⟨h',t',e⟩:=wz hz i (by simpa using hi);exact⟨h',t',by simpa using e⟩
 refine wpAny_call_entry PySem.F.slot_tuple_index ⟨o,ho,hc⟩ PySem.F.entry_tuple_index (uZ (e:=D3 y) (j:=zs.findIdx (· == y)) ho hd (λz hm=>?_) (by omega) ?_ (λm hm hlt=>?_) ⟨_,rfl,.int (zs.findIdx (· == y):Nat),H,I.tok _,⟨_,rfl⟩,q⟩) (PySem.F.args_tuple_index_2 _ _)
 ·obtain⟨i,hi,rfl⟩:=Array.mem_iff_getElem.mp hm;obtain⟨_,t',e'⟩:=at' i hi;rw[e'];exact eqGives_str _ _ _ _
 ·obtain⟨_,t',e'⟩:=at' (zs.findIdx (· == y)) (by omega);rw[e'];exact List.findIdx_getElem (p:=(· == y)) (w:=hk)
 ·obtain⟨_,t',e'⟩:=at' m hm;rw[e'];have:=List.not_of_lt_findIdx (p:=(· == y)) (xs:=zs) hlt;simpa [D3]using this
@[simp] noncomputable def lz (kvs:List (Str×D)):D->D->Option (D×Bool)
 |.str y,.str z=>match kvs.lookup y with
  |some (.tup ds)=>(fB ds).bind λzs=>if zs.findIdx (· == z)<zs.length then some (.int (zs.findIdx (· == z):Nat),false)else none
  |_=>none
 |_,_=>none
theorem Ci {kvs:List (Str×D)}{f g:FE}{apos cpos:Pos}(h:∃d,X.mg x=some (.ref d)/\oP X.K X.w.params d kvs)(hb:JE X b f)(he:JE X e g)(hg:Gl X x:=by rfl)(hdb:(x == ("__debug__" : Str))=false:=by decide)(hs:pM b:=by intro _ _;rfl)
  (hbase:attributeBase (.Subscript (.Name x p) b pos) "index" X.env (eval (.Subscript (.Name x p) b pos) X.env)=eval (.Subscript (.Name x p) b pos) X.env:=by rfl)
  (hfew:((backTo cpos (starEach [e] X.env)).all (λx=>!x.1) && (backToKw cpos (keywordEach [] X.env)).all (λx=>x.1.isSome)
   && decide ([e].length+([]:List Keyword).length+(if([]:List Keyword).isEmpty then 0 else 1)<30))=true:=by rfl)
  (hline:(apos.endLine == cpos.line)=true:=by rfl) (hst:starEach [e] X.env=[(false,eval e X.env)]:=by rfl):
  JE X (.Call (.Attribute (.Subscript (.Name x p) b pos) "index" apos) [e] [] cpos) (f2 (lz kvs) f g):=by
 obtain⟨d,hm,cd⟩:=h;have ix:IxR X (λx y H Q=>∃z ds,x=.ref d/\y=.str z/\kvs.lookup z=some (.tup ds)/\∀a its n osl,X.K.lookup a=some ⟨.type "tuple",none,.seq its n,osl⟩->gH its.toList ds=true->Q (.ref a) H):=by
  intro value slice pins s σ H x y v u Q I rx ry q hs;obtain⟨z,ds,rfl,rfl,el,q⟩:=q;cases rx
  obtain⟨t,rfl⟩:=ry;obtain⟨es,n,l,r,sm⟩:=cd;have hM:=PySem.W.mapOf_K (prog:=X.prog) (w:=X.w) I.kIn l r.lit;obtain⟨en,a,its,n',osl,e1,e2,e3,e4⟩:=r.findT z el;have ff:findBy Value.isStrOf es z=some (.ref a):=by
   unfold findBy;obtain⟨es⟩:=es;rw[List.find?_toArray,e1,←e2];rfl
  exact tail_any hM.typeIs slot_dict_getitem.lookup (wpAny_getItem_of (strKind_is X.prog X.w z t) hM ff ⟨.ref a,H,I.tok _,rfl,q a _ _ _ e3 e4⟩) hs
 refine PE.to (yY (T:="tuple") PySem.F.plainAttrs_tuple PySem.F.slot_tuple_index PySem.F.type_tuple_index zS (CW ix (vN (v:=.ref d) hg hm rfl hdb) hb hs) (fP he ib hst) hbase hfew hline hst rfl) λσ H Q q=>?_;obtain⟨B,ρ,d',bb,sB,r,ee,q⟩:=q;obtain⟨x1,ex,ee⟩:=oX ee;obtain⟨y1,ey,ee⟩:=oX ee;obtain⟨xd,xb⟩:=x1;obtain⟨yd,yb⟩:=y1;cases xd with
 |str z=>
  cases yd with
  |str y=>
   refine⟨B,ρ,_,xb,sB,r,ex,λv H1 N1 xt i1 _=>?_⟩;cases i1
   simp only[lz]at ee;split at ee
   ·rename_i ds el;obtain⟨zs,ez,ee⟩:=oX ee;split at ee
    ·rename_i hk;cases ee
     refine⟨z,ds,rfl,rfl,el,λa its n osl l fl=>⟨.inr (.inl ⟨rfl,_,l,rfl,rfl⟩),N1,ρ,_,yb,xt.nh,r.mono xt.bn,ey,λv2 H2 N2 xt2 i2 _=>?_⟩⟩;cases i2
     obtain⟨vs,rv,iv⟩:=gI (K:=X.K) fl;exact⟨a,_,its,n,zs,y,rfl,rfl,l,rfl,rfl,ir rv (iv N2) ez,hk,(q.into (xt.trans xt2)).one xt2.nh (.int _)⟩
    ·cases ee
   ·cases ee
  |_=>simp[lz]at ee
 |_=>simp[lz]at ee
end
open PySem.W (tabIn tabObj CodeHd kla_fn kla_obj kla_eval kla_makeFunction kla_makeFunctionHit kla_callFunE kla_codeExpr envX)
def GK (K:PySem.W.Frag)(c P:Addr):Prop:=∃o vs file tf flags tg inF text tt,K.lookup c=some o/\o.cls=.type "code"/\o.data=.fields vs/\vs[11]? = some (.ref P)/\vs.getD 11 .none=.ref P/\vs.getD 18 .none=.str file tf /\
 vs.getD 7 .none=.int flags tg/\vs.getD 9 .none=.bool inF/\vs.getD 10 .none=.int text tt/\c≠P
def mn (K:PySem.W.Frag)(x:Str):Prop:=∃c P,tabIn K x=some (c,P)/\GK K c P
def zT (H:Hp)(f:Addr)(q:Str)(params:Arguments)(body:Expr)(scope:Scope)(cl:List (Str×Addr)):Prop :=
 ∃pm c ctv u oc u' vs t,H f=some (.frz (kla_obj "<lambda>" q params body scope cl pm c ctv) u)/\H c=some (.frz oc u')/\oc.data=.fields vs/\vs[1]? = some (.str q t)
theorem zT.mono {H H':Hp}{f:Addr}{q:Str}{params:Arguments}{body:Expr}{scope:Scope}{cl:List (Str×Addr)}(h:zT H f q params body scope cl)(e:aQ H H'):zT H' f q params body scope cl :=
 let ⟨pm,c,ctv,u,oc,u',vs,t,h1,h2,h3,h4⟩:=h;⟨pm,c,ctv,u,oc,u',vs,t,e _ _ h1,e _ _ h2,h3,h4⟩
theorem lam_mk {K:PySem.W.Frag}{x:Str}{f c P:Addr}{oc:Value}{od od':Option Addr}{osl osl':Array (Option Value)}{fd:FuncData}{vs:Array Value}{file:Str}{tf tg tt:Tok}{flags text:Int}{inF:Bool}(e1:PySem.W.nsIn K mainGlobals x=some (some (.ref f)))(e2:K.lookup f=some ⟨oc,od,.func fd,osl⟩)
  (e3:fd.code=.ref c) (e4:K.lookup c=some ⟨.type "code",od',.fields vs,osl'⟩) (e5:vs[11]? = some (.ref P)) (e6:vs.getD 11 .none=.ref P) (e7:vs.getD 18 .none=.str file tf) (e8:vs.getD 7 .none=.int flags tg) (e9:vs.getD 9 .none=.bool inF) (e10:vs.getD 10 .none=.int text tt) (e11:(c == P)=false):mn K x :=
 ⟨c,P,tab_yes e1 e2 e3 e4 e5,_,vs,file,tf,flags,tg,inF,text,tt,e4,rfl,rfl,e5,e6,e7,e8,e9,e10,λz=>by rw[z]at e11;simp at e11⟩
theorem vc {pos:Pos}{a b:Int}{c cv:Value}(l:List Value)(h:TriplesOk l)(e:codeAmong pos (l++[rawInt a,rawInt b,c])=some cv):codeAmong pos l=some cv∨cv=c:=by
 fun_induction TriplesOk l with
 |case1=>
  simp only[List.nil_append,rawInt,codeAmong]at e;split at e
  ·cases e;exact .inr rfl
  ·cases e
 |case2 a' t b' u x au ih=>
  simp only[List.cons_append,codeAmong]at e ⊢;split at e
  ·rename_i hc;rw[if_pos hc];exact .inl e
  ·rename_i hc;rw[if_neg hc];exact ih h e
 |case3 l h1 h2=>exact h.elim
section
variable {X:Cx}{pins:List (Addr×Obj)}{σ:St}{H:Hp}{s:Shared}
theorem zU {x:Str}{params:Arguments}{body:Expr}{scope:Scope}{pos:Pos}{cl:List (Str×Addr)}{Q:Value->Shared->Prop}{E:Value->Shared->Prop}
  (hx:x∈j0) (L:mn X.K x) (hc:∀c P,tabIn X.K x=some (c,P)->X.env.code=.ref c) (hq:X.env.qual ++ "<lambda>" = lN x) (hdef:defaultsOf params X.env=([],[])) (hcl:closureFor scope X.env=pure cl)
  (I:Inv X pins σ H s) (tb:Tb X.K H) (k:∀f H' s',Inv X pins σ H' s'->aQ H H'->zT H' f (lN x) params body scope cl->Q (.ref f) s'):
  wpAny (model X.prog X.w) X.A (eval (.Lambda params body scope pos) X.env) Q E s:=by
 refine kla_eval hdef ?_;rw[hq];obtain⟨c,P,ht,o,vs,file,tf,flags,tg,inF,text,tt,lk,ck⟩:=L;have hcode:=hc c P ht;have hP:=tb x hx c P ht;obtain⟨ps,e,tr,co⟩:=I.hok P _ hP;have C:CodeHd s.heap c P:=⟨o,vs,file,tf,flags,tg,inF,text,tt,I.kIn c o lk,ck⟩;have hg:s.heap.Ns mainGlobals X.mg:=I.mod.glob.keeps I.bk;have nP:∀b,H b=none->b≠P:=λb n z=>by rw[z,hP]at n;cases n
 have hgP:mainGlobals≠P:=by
  obtain⟨og,_,_,eg,_⟩:=I.mod.glob;exact nP _ (I.bs _ _ eg).2
 have hb:s.heap.BuiltinsAt X.mg P:=by
  obtain⟨bm,ob,b1,b2,b3,b4,b5,b6⟩:=I.mod.bmain;refine⟨bm,ob,b1,b2,λz=>?_,nP _ (I.bs _ _ b3).2,I.bk _ _ b3,b4,b5,b6⟩;obtain⟨og,es,ep,eg,dg,_⟩:=I.mod.glob;rw[z,eg]at b3;cases b3;rw[dg]at b6;cases b6
 cases hf:codeAmong pos ps.toList with
 |some cv=>
  obtain⟨c',oc,u,ws,t,rfl,hH,hd,hv⟩:=co pos cv hf;refine kla_makeFunctionHit (mg:=X.mg) hcl I.ok.glob hg hcode C e tr hf hb λctv h' tk hk hsz=>?_;have hn:H h'.objs.size=none:=I.hok.fresh hsz;have sm:aQ H (upd H h'.objs.size (.frz (kla_obj "<lambda>" (lN x) params body scope cl ((X.mg "__name__").getD .none) c' ctv) (.own h'.objs.size))):=λb u q=>by rw[aH (aR q hn)];exact q
  refine k _ _ _ (I.laid (t':=tk) (λb u q=>Heap.get?_push_of_some _ (hk b u q)) hsz (show bz X.prog X.w _ _ _ (.frz _ (.own h'.objs.size))from ⟨Heap.get?_push_size _ rfl,_,Heap.get?_push_size _ rfl⟩)) sm ?_;exact⟨_,c',ctv,_,oc,u,ws,t,aF,sm _ _ hH,hd,hv⟩
 |none=>
  refine kla_makeFunction (mg:=X.mg) hcl I.ok.glob hg hcode C e tr hf hgP hb λc' ctv h' tk hx' hge hlt hrec htb=>?_;obtain⟨c2,oc,ws,t,e2,hoc,hd,hv⟩:=hrec;cases e2
  have hnc:H c'=none:=I.hok.fresh hge;have hsz:s.heap.objs.size<=h'.objs.size:=Nat.le_trans hge (Nat.le_of_lt hlt);have hnf:H h'.objs.size=none:=I.hok.fresh hsz;have ncf:c'≠h'.objs.size:=Nat.ne_of_lt hlt;let fo:Obj:=kla_obj "<lambda>" (lN x) params body scope cl ((X.mg "__name__").getD .none) c' ctv;let H1:Hp:=upd (upd H c' (.frz oc (.own c'))) h'.objs.size (.frz fo (.own h'.objs.size));have sm:aQ H H1:=λb u q=>by
   show upd _ _ _ b=_;rw[aH (aR q hnf),aH (aR q hnc)];exact q
  have H1c:H1 c'=some (.frz oc (.own c')):=by show upd _ _ _ c'=_;rw[aH ncf,aF]
  have keep:∀b u,b≠P->s.heap.get? b=some u->(h'.push fo).get? b=some u:=λb u n q=>Heap.get?_push_of_some _ (hx' b u n q);have lt:∀b u,s.heap.get? b=some u->b≠c'/\b≠h'.objs.size:=λb u q=>⟨Nat.ne_of_lt (Nat.lt_of_lt_of_le (Heap.lt_size q) hge),Nat.ne_of_lt (Nat.lt_of_lt_of_le (Heap.lt_size q) hsz)⟩;have htb':(h'.push fo).get? P=some (tabObj (ps++#[rawInt pos.line,rawInt pos.col,.ref c'])):=Heap.get?_push_of_some _ htb;refine k _ H1 _ (I.un (t':=tk) (h':=h'.push fo) ⟨λb u q n _ _=>keep b u (nP b n) q,λb u q n _ _=>⟨u.slots,keep b u (nP b n) q⟩,λb u q n _=>?_,λb u q _=>?_,λb xs q=>sm _ _ q,λb ob u q=>sm _ _ q,λb u q=>sm _ _ q⟩ λb u q=>?_) sm ⟨_,c',ctv,_,oc,_,ws,t,aF,H1c,hd,hv⟩
  ·show upd _ _ _ b=_;rw[aH (lt b u q).2,aH (lt b u q).1];exact n
  ·by_cases z:b=P
   ·subst z;exact⟨_,htb'⟩
   ·exact⟨u,keep b u z q⟩
  ·by_cases z1:b=h'.objs.size
   ·subst z1;have q':some (HO.frz fo (.own h'.objs.size))=some u:=by rw[←q];exact aF.symm
    cases q'
    exact⟨Heap.get?_push_size _ rfl,_,Heap.get?_push_size _ rfl⟩
   ·by_cases z2:b=c'
    ·subst z2;rw[H1c]at q;cases q;exact⟨Heap.get?_push_of_some _ hoc,_,Heap.get?_push_of_some _ hoc⟩
    ·have q':H b=some u:=by
      have:H1 b=H b:=by show upd _ _ _ b=_;rw[aH z1,aH z2]
      rw[←this];exact q
     by_cases z3:b=P
     ·subst z3;rw[hP]at q';cases q';refine⟨_,htb',?_,λpos' cv' ea=>?_⟩
      ·rw[Array.toList_append];exact TriplesOk_snoc _ _ _ _ tr
      ·rw[Array.toList_append]at ea;rcases vc _ tr ea with ea|rfl
       ·obtain⟨c3,oc3,u3,vs3,t3,y1,y2,y3⟩:=co pos' cv' ea;exact⟨c3,oc3,u3,vs3,t3,y1,sm _ _ y2,y3⟩
       ·exact⟨c',oc,_,ws,t,rfl,H1c,hd,hv⟩
     ·refine(I.hok b u q').stay (λd v hd' r=>keep d v ?_ r) (λd r=>sm _ _ r) (λd xs r=>sm _ _ r) λd ob v r=>sm _ _ r;rcases hd' with rfl|r
      ·exact z3
      ·intro z;rw[z,hP]at r;cases r
end
section
variable {P:Program}{w:World}{K:PySem.W.Frag}{mg:Str->Option Value}{base:Heap}
theorem Def.fnL {x:Str}{st:Stmt}{N ps:List Str}{k:Nat}{g:FS}{h:Heap}(F:Def K x st)(X:K.In h)(G:h.Ns mainGlobals mg)(S:FnScope N ps (aN st))
  (hbd:∀(kV doc pm:Value)(an:Option Addr)(cdv ct:Value)(us:List Value),us.length=ps.length->bindArgs (PySem.W.fnOf x x (eB st) (bW st) (aN st) .none kV doc pm an cdv ct) ⟨us,[]⟩=pure (ps.zip us))
  (hb:∀(f:Addr)(cdv:Value)(A:Around)(outer:List PySem.Env)(s:Shared)(H:Hp)(E:XK),(∀c P,tabIn K x=some (c,P)->cdv=.ref c)->Room k (A.deeper (envOfC x (aN st) s.heap.objs.size f cdv))->JSs (lu CX0 P w K mg base N x (aN st) f cdv A outer s H E).nox (bW st) g):
  Fn P w K mg base (k+1) x (aO g ps.length (N.length - ps.length)):=by
 obtain⟨f,fd,F1,a⟩:=F;have F2:=F1;obtain⟨oc,od,kV,doc,pm,an,cdv,ct,osl,rfl,lk,hcd⟩:=F2.ex;have hc:∀c P,tabIn K x=some (c,P)->cdv=.ref c:=λc P e=>by
  unfold tabIn at e;simp only[a,lk]at e;split at e
  ·rename_i c' _;split at e
   ·split at e
    ·cases e;rfl
    ·cases e
   ·cases e
  ·cases e
 have len:∀vs H Q E,spD K (aO g ps.length (N.length - ps.length)) vs H Q E->vs.length=ps.length:=λvs H Q E h=>by
  obtain⟨B,ds,d,b,sB,i,e,q⟩:=h;unfold aO at e;split at e
  ·rename_i hl;rw[i.length];exact hl
  ·cases e
 refine⟨f,_,ps,CV lk hcd S len λA outer s H vs Q E hr h=>⟨_,PSs.nox (hb f cdv A outer s H E hc hr),?_⟩,PySem.W.mg_of X G a,F1.kp,F1.binds hbd⟩;have hlen:=len vs H Q E h;obtain⟨B,ds,d,b,sB,i,e,q⟩:=h;unfold aO at e;rw[if_pos (by rw[←i.length];exact hlen)]at e;have s0:=rO (N:=N) sB.1 sB.2 i;rw[hlen]at s0;split at e
 ·rename_i d' b' eg;cases e
  exact⟨B,H,_,_,⟨B,s0⟩,eg,λv H' N' x' i' f'=>q v H' N' x' i' f'⟩
 ·rename_i ρ' eg;cases e
  exact⟨B,H,_,_,⟨B,s0⟩,eg,λσ' H' ⟨N',s'⟩=>q .non H' N' s'.ext .non (by simp)⟩
 ·cases e
end
inductive LCaps (X:Cx)(N':List Str)(scope:Scope)(cl:List (Str×Addr)):Nat->List Nat->Prop where
 |nil {j:Nat}(h:N'.length=j):LCaps X N' scope cl j []
 |cons {j i:Nat}{r:List Nat}{x:Str}(h1:N'[j]? = some x) (h2:X.N[i]? = some x) (h3:X.env.kindOf x=some .cell∨X.env.kindOf x=some .free)
   (h4:scope.names.lookup x=some .free) (h5:cl.lookup x=X.env.cells.lookup x) (t:LCaps X N' scope cl (j+1) r):LCaps X N' scope cl j (i::r)
theorem LCaps.len {X:Cx}{N':List Str}{scope:Scope}{cl:List (Str×Addr)}:∀ {j:Nat}{cap:List Nat},LCaps X N' scope cl j cap->N'.length=j+cap.length
 |_,_,.nil h=>by rw[h];rfl
 |j,i::r,.cons _ _ _ _ _ t=>by rw[t.len,List.length_cons];omega
theorem LCaps.get {X:Cx}{N':List Str}{scope:Scope}{cl:List (Str×Addr)}:∀ {j:Nat}{cap:List Nat}{k i:Nat},LCaps X N' scope cl j cap->cap[k]? = some i->∃x,N'[j+k]? = some x/\X.N[i]? = some x/\(X.env.kindOf x=some .cell∨X.env.kindOf x=some .free) /\
  scope.names.lookup x=some .free/\cl.lookup x=X.env.cells.lookup x
 |_,_,_,_,.nil _,e=>by simp at e
 |j,_,0,_,.cons h1 h2 h3 h4 h5 _,e=>by simp at e;subst e;exact⟨_,h1,h2,h3,h4,h5⟩
 |j,_,k+1,i,.cons _ _ _ _ _ t,e=>by
  obtain⟨x,q,r⟩:=t.get (k:=k) (i:=i) (by simpa using e);exact⟨x,by rw[show j+(k+1)=j+1+k by omega];exact q,r⟩
noncomputable abbrev sX (X:Cx)(N':List Str)(scope:Scope)(cl:List (Str×Addr))(q:Str)(A:Around)(f c:Addr)(s:Shared)(H:Hp):Cx :=
 { X with A:=A.deeper (envX q scope s.heap.objs.size f (.ref c) cl),N:=N',s₀:=s,H₀:=H,env:=envX q scope s.heap.objs.size f (.ref c) cl,outer:=X.stack,stack:=envX q scope s.heap.objs.size f (.ref c) cl::X.stack,ex:=[],fn:=λ_=>false,calm:=true,pn:=[],xe:=λ_ _=>False }
structure LamSc (X:Cx)(scope:Scope)(cl:List (Str×Addr))(y:Str):Prop where
 clos:closureFor scope X.env=pure cl
 nocell:∀z∈scope.names,z.2≠.cell
 kind:scope.kind=.function
 co:scope.isCoroutine=false
 gen:scope.isGenerator=false
 par:scope.names.lookup y=some .local
 sub:∀x c,cl.lookup x=some c->X.env.cells.lookup x=some c
 has:∀x,scope.names.lookup x=some .free->∃c,cl.lookup x=some c
theorem w4 {X:Cx}{scope:Scope}{y:Str}(h1:∀z∈scope.names,z.2≠.cell)(h2:scope.kind=.function)(h3:scope.isCoroutine=false)(h3':scope.isGenerator=false)(hp:scope.names.lookup y=some .local)
  (h4':(scope.names.all λz=>!(z.2 == NameKind.free) || (X.env.cells.lookup z.1).isSome)=true):LamSc X scope (cJ scope.names X.env.cells []) y:=by
 have h4:∀z∈scope.names,z.2=.free->(X.env.cells.lookup z.1).isSome=true:=λz hz e=>by
  have:=List.all_eq_true.mp h4' z hz;rw[e]at this;simpa using this
 exact⟨oJ scope.names [] h4,h1,h2,h3,h3',hp,λx c e=>j4 scope.names [] (λy d q=>by cases q) e,λx h=>by
  have:=j5 (x:=x) scope.names [] (dQ h) (h4 _ (dQ h) rfl);exact Option.isSome_iff_exists.mp this⟩
section
variable {X:Cx}{pins:List (Addr×Obj)}{σ:St}{H:Hp}{s:Shared}{A:Around}{N':List Str}{scope:Scope}{cl:List (Str×Addr)}{q y:Str}{cap:List Nat}
theorem Cj {f c:Addr}{v:V}{u:Value}{h₁:Heap}{tk:Nat}(S:LamSc X scope cl y)(N0:N'[0]? = some y)(cp:LCaps X N' scope cl 1 cap)(I:Inv X pins σ H s)(hA:A.frames=some X.stack)(hh:A.handled=none)(r:aS v u)
  (hns:h₁.Ns s.heap.objs.size (λx=>[(y,u)].reverse.lookup x)) (hk:∀b o,s.heap.get? b=some o->h₁.get? b=some o):
  Inv (sX X N' scope cl q A f c s H) [] (some v::nX 0 cap σ) H { s with heap:=h₁,toks:=tk }:=by
 have noA:∀b:Addr,b∉(sX X N' scope cl q A f c s H).ex:=λb z=>absurd (show b∈([]:List Addr)from z) (by simp);refine⟨⟨I.ok.mod,S.kind,rfl,rfl,Nat.le_refl _,λx z d e1 e2=>I.ok.inj x z d (S.sub _ _ e1) (S.sub _ _ e2),λx hx=>?_,(λx d e=>by cases e),λ_=>hh,Around.frames_deeper hA,.inr ⟨rfl,rfl⟩,λb z=>absurd z (noA b),I.bs,Nat.le_trans I.ok.bsz I.sz,λb _ _=>noA b,λb z=>absurd z (noA b),I.stack,I.stkFree⟩,
  rfl,I.bare,Un.kept hk,⟨_,hns,λi x v' e1 e2 e3=>?_⟩,λx d e=>?_,I.hok.fresh (Nat.le_refl _),λx d e=>I.freeC x d (S.sub _ _ e),λp hp=>absurd (show p∈([]:List (Addr×Obj))from hp) (by simp),I.hok.kept hk,?_⟩
 ·have hx':scope.names.lookup x=some .cell∨scope.names.lookup x=some .free:=hx;rcases hx' with hx'|hx'
  ·exact absurd rfl (S.nocell _ (dQ hx'))
  ·exact S.has x hx'
 ·cases i with
  |zero=>
   have e1':N'[0]? = some x:=e1;rw[N0]at e1';cases e1';have e2':some v=some v':=by simpa using e2
   cases e2'
   exact⟨u,r,.inl ⟨S.par,by simp⟩⟩
  |succ k=>
   have e2':(nX 0 cap σ)[k]? = some (some v'):=by simpa using e2
   obtain⟨k',i',hk',g1,g2⟩:=pX e2';have:k=k':=by omega
   subst this;obtain⟨x',n1,n2,n3,n4,n5⟩:=cp.get g1;have:x'=x:=by
    have e1':N'[k+1]? = some x:=e1;rw[show 1+k=k+1 by omega]at n1;rw[n1]at e1';exact Option.some.inj e1'
   subst this;have g2':σ[i']? = some (some v'):=by
    cases z:σ[i']? with
    |none=>rw[z]at g2;cases g2
    |some w=>rw[z]at g2;cases w with
     |none=>cases g2
     |some w=>cases g2;rfl
   obtain⟨m,_,hl⟩:=I.loc;obtain⟨u',ru,lk⟩:=hl i' x' v' n2 g2' (by
    rcases n3 with n3|n3
    ·exact .inr (.inl n3)
    ·exact .inr (.inr n3))
   refine⟨u',ru,.inr ⟨.inr n4,?_⟩⟩;rcases lk with⟨l1,_⟩|⟨_,d,l2,l3⟩
   ·rcases n3 with n3|n3<;>(rw[l1]at n3;cases n3)
   ·obtain⟨ob,ho,hd⟩:=l3;exact⟨d,by show cl.lookup x'=_;rw[n5];exact l2,ob,hk _ _ ho,hd⟩
 ·obtain⟨w,ob,ho,hd⟩:=I.cell x d (S.sub _ _ e);exact⟨w,ob,hk _ _ ho,hd⟩
 ·have:=cp.len;show(some v::nX 0 cap σ).length=N'.length;unfold nX;rw[this];simp;omega
theorem Ck {f:Addr}{params:Arguments}{body:Expr}{fb:FE}{B:Hp}{ρ:Env}{v:V}{u:Value}{d d':D}{b':Bool}{Q:VK}(S:LamSc X scope cl y)(N0:N'[0]? = some y)(cp:LCaps X N' scope cl 1 cap)(I:Inv X pins σ H s)
  (hA:A.frames=some X.stack) (hh:A.handled=none) (hroom:A.depth<recursionLimit) (lv:zT H f q params body scope cl)
  (hbind:∀pm c ctv u,bindArgs (kla_fn "<lambda>" q params body scope cl pm (.ref c) ctv) ⟨[u],[]⟩=pure [(y,u)])
  (hb:∀(f c:Addr)(s:Shared)(H:Hp),JE (sX X N' scope cl q A f c s H) body fb)
  (rep:RepE X.K B σ ρ) (sB:aQ B H) (r:aS v u) (i:Is X.K B v d) (e:fb (some (d,false)::bP 0 cap ρ)=some (d',b')) (qf:Fin X.K B H d' b' Q):
  wpAny (model X.prog X.w) A (call (.ref f) [u]) (EP X pins σ Q) (λ_ _=>False) s:=by
 obtain⟨pm,c,ctv,uf,oc,u',ws,t,hf,hc,hd,hv⟩:=lv;have ho:=(I.hok f _ hf).1;have hoc:=(I.hok c _ hc).1;refine wpAny_call (codeAny_mono (R:=λr s'=>CR CX0 X.stack X.prog X.w H s Q (λ_ _ _=>False) r s') ?_ λr s' hq=>?_)
 ·refine kla_callFunE hroom ho rfl S.co S.gen rfl ⟨c,oc,ws,t,rfl,hoc,hd,hv⟩ ?_;rw[hbind];refine wY (wpAny_newFunctionEnv S.nocell (λz hz=>by rw[List.mem_singleton.mp hz];exact S.par) (λh₁ hns hsb=>⟨I.nolimit.fresh _ hsb,?_⟩) S.kind);have hk₁:∀b o,s.heap.get? b=some o->h₁.get? b=some o:=λb o e=>hsb.extBut b o (Nat.ne_of_lt (Heap.lt_size e)) (Heap.get?_push_of_some _ e);have J:=Cj (f:=f) (c:=c) (q:=q) (tk:=s.toks+1) S N0 cp I hA hh r hns hk₁;refine kla_codeExpr (wpAny_mono (hb f c s H [] _ _ H Q J ⟨B,_,d',b',sB,⟨rep.tb,λj e0 b0 z=>?_⟩,e,qf⟩) (λw s' hw=>?_) λ_ _ z=>z.elim)
  ·cases j with
   |zero=>
    have z':some (d,false)=some (e0,b0):=by simpa using z
    cases z'
    exact⟨v,rfl,i⟩
   |succ j=>
    obtain⟨w,h1,h2⟩:=(rep.caps (nT:=0) (cap:=cap)).at' j e0 b0 (by simpa using z);exact⟨w,by simpa using h1,h2⟩
  ·obtain⟨v',H',J',rv,qv⟩:=hw;exact⟨v',H',J'.os,J'.bare,J'.base,J'.hok,rv,qv⟩
 ·cases r with
  |error e=>exact False.elim hq
  |ok fl=>
   cases fl with
   |ret w=>exact I.after hq
   |next=>exact False.elim hq
   |brk=>exact False.elim hq
   |cont=>exact False.elim hq
end
end DL
namespace DL
open PySem PySem.Spec PySem.W PyProof.Rows L2
section
variable {X:Cx}{pins:List (Addr×Obj)}{σ:St}{H:Hp}{s:Shared}{h':Heap}{t':Nat}
theorem k9 {p:Addr}{o:Obj}(I:Inv X ((p,o)::pins) σ H s):∀x c,X.env.cells.lookup x=some c->c≠p:=λx c e z=>by
 have pf:=I.pin (p,o) (mY _ mX);obtain⟨v,ob,ho,hd⟩:=I.cell x c e;rw[z,pf.1]at ho;cases ho;exact pf.2.2.2.2 v hd
theorem iu {p:Addr×Obj}(I:Inv X (p::pins) σ H s):Inv X pins σ H s:=I.pins_of λq hq=>I.pin q (mY _ (mZ _ hq))
theorem eN {p:Addr}{o o':Obj}(I:Inv X ((p,o)::pins) σ H s)(h0:X.s₀.heap.objs.size<=p)(hp:∀q∈X.pn++pins,q.1≠p)(k:∀b u,b≠p->s.heap.get? b=some u->h'.get? b=some u)(e':h'.get? p=some o')(nc:∀v,o'.data≠.cell v):
  Inv X ((p,o')::pins) σ H { s with heap:=h',toks:=t' }:=by
 have pf:=I.pin (p,o) (mY _ mX);have J:=(iu I).turned (t':=t') k pf.2.1 pf.2.2.1 (.inr h0) (k9 I) hp;refine J.pins_of λq hq=>?_;rcases List.mem_cons.mp hq with rfl|hq
 ·exact⟨e',pf.2.1,pf.2.2.1,pf.2.2.2.1,nc⟩
 ·exact J.pin q (mY _ hq)
theorem lG {p:Addr}{o:Obj}(I:Inv X pins σ H s)(k:∀b u,s.heap.get? b=some u->h'.get? b=some u)(hs:s.heap.objs.size<=p)(e':h'.get? p=some o)(nc:∀v,o.data≠.cell v):Inv X ((p,o)::pins) σ H { s with heap:=h',toks:=t' }:=by
 have J:=I.kept (t':=t') k;refine J.pins_of λq hq=>?_;rcases List.mem_cons.mp hq with rfl|hq
 ·exact⟨e',I.hok.fresh hs,Nat.ne_of_gt (Nat.lt_of_lt_of_le I.lt hs),I.nofs hs,nc⟩
 ·exact J.pin q (mY _ hq)
theorem Cm {p:Addr}{o:Obj}{ob:HO}(I:Inv X ((p,o)::pins) σ H s)(h0:X.s₀.heap.objs.size<=p)(hp:∀q∈X.pn++pins,q.1≠p)(k:∀b u,b≠p->s.heap.get? b=some u->h'.get? b=some u)(eo:∃u,h'.get? p=some u)
  (new:bz X.prog X.w (upd H p ob) h' p ob):Inv X pins σ (upd H p ob) { s with heap:=h',toks:=t' }:=by
 have pf:=I.pin (p,o) (mY _ mX);have hn:=pf.2.1;have hn:H p=none:=hn;have cs:=k9 I;refine(iu I).step (g':=s.gens) (d':=s.drawn) (ch:=[p]) (λb hb=>?_) (λb u _ _ hc e _=>k b u (λz=>hc (by simp[z])) e) (λb u _ _ hc e _=>⟨u.slots,k b u (λz=>hc (by simp[z])) e⟩) (λb u hc _ n=>by rw[aH (λz=>hc (by simp[z]))];exact n)
  (λb u hc e=>⟨u,k b u (λz=>hc (by simp[z])) e⟩) (λb xs e=>by rw[aH (aR e hn)];exact e) (λb u w e=>by rw[aH (aR e hn)];exact e) (λb q e=>by rw[aH (aR e hn)];exact e) (λm hm=>?_) (λb u e=>?_) I.bare
 ·have z:b=p:=by simpa using hb
  subst z;exact⟨.inr h0,pf.2.2.1,cs,hp⟩
 ·obtain⟨ol,es,ep,ho,r⟩:=hm;exact⟨ol,es,ep,k _ ol (λz=>pf.2.2.1 z.symm) ho,r⟩
 ·by_cases z:b=p
  ·subst z;rw[aF]at e;cases e;exact new
  ·rw[aH z]at e;refine(I.hok b u e).stay (λc v hc q=>k c v ?_ q) (λc q=>?_) (λc xs q=>?_) λc w xs q=>?_
   ·rcases hc with rfl|hc
    ·exact z
    ·exact aR hc hn
   ·rw[aH (aR q hn)];exact q
   ·rw[aH (aR q hn)];exact q
   ·rw[aH (aR q hn)];exact q
end
def zV (X:Cx)(A:Around)(σ:St)(qv:Value)(B H1:Hp)(kf:D->Option D):Prop :=
 ∀(pins:List (Addr×Obj))(s:Shared)(H N:Hp)(v:V)(u:Value)(d d':D),Inv X pins σ H s->aQ H1 H->aQ B N->aQ N H->Is X.K N v d->aS v u->kf d=some d' ->
  wpAny (model X.prog X.w) A (call qv [u]) (EP X pins σ λv' H'=>∃N',Ext N N' H H'/\Is X.K N' v' d') (λ_ _=>False) s
def JK (X:Cx)(A:Around)(e:Expr)(kf:Env->D->Option D):Prop:=∀(pins:List (Addr×Obj))(s:Shared)(σ:St)(H B:Hp)(ρ:Env)(Q:Value->Shared->Prop)(E:Value->Shared->Prop),Inv X pins σ H s->aQ B H->RepE X.K B σ ρ ->
 (∀qa H1 s1,Inv X pins σ H1 s1->aQ H H1->zV X A σ (.ref qa) B H1 (kf ρ)->Q (.ref qa) s1)->wpAny (model X.prog X.w) X.A (eval e X.env) Q E s
section
variable {X:Cx}{A:Around}
@[simp] noncomputable def mo (cap:List Nat)(fb:FE):Env->D->Option D:=λρ d=>(fb (some (d,false)::bP 0 cap ρ)).map (·.1)
theorem qx {x y:Str}{params:Arguments}{body:Expr}{scope:Scope}{pos:Pos}{N':List Str}{cap:List Nat}{fb:FE}(hx:x∈j0)(L:mn X.K x)(hc:∀c P,tabIn X.K x=some (c,P)->X.env.code=.ref c)(hq:X.env.qual ++ "<lambda>" = lN x)
  (hdef:defaultsOf params X.env=([],[])) (S:LamSc X scope (cJ scope.names X.env.cells []) y) (N0:N'[0]? = some y) (cp:LCaps X N' scope (cJ scope.names X.env.cells []) 1 cap) {k:Nat}(hA:A.frames=X.A.frames) (hr:Room (k+1) A)
  (hbind:∀pm c ctv u,bindArgs (kla_fn "<lambda>" (lN x) params body scope (cJ scope.names X.env.cells []) pm (.ref c) ctv) ⟨[u],[]⟩=pure [(y,u)])
  (hb:∀(f c:Addr)(s:Shared)(H:Hp),Room k (sX X N' scope (cJ scope.names X.env.cells []) (lN x) A f c s H).A->JE (sX X N' scope (cJ scope.names X.env.cells []) (lN x) A f c s H) body fb):JK X A (.Lambda params body scope pos) (mo cap fb):=by
 intro pins s σ H B ρ Q E I sB rep kk;refine zU hx L hc hq hdef S.clos I (rep.tb.mono sB) λf H1 s1 I1 sm lv=>kk f H1 s1 I1 sm ?_;intro pins' s' H' N v u d d' I' m1 m2 m3 iv r e;simp only[mo]at e;obtain⟨⟨d2,b2⟩,e1,e2⟩:=oY e;cases e2
 exact Ck S N0 cp I' (hA.trans I'.ok.frames) hr.hd hr.depth (lv.mono m1) hbind (λf c s H=>hb f c s H (hr.deeper _)) (rep.mono m2) m3 r iv e1 λv' H2 N2 x2 i2 _=>⟨N2,x2,i2⟩
@[simp] noncomputable def om (g:List D->Option (D×Bool)):Env->D->Option D:=λ_ d=>(g [d]).map (·.1)
theorem w6 {k:Nat}{x:Str}{g:List D->Option (D×Bool)}{p:Pos}(F:Fn X.prog X.w X.K X.mg X.base k x g)(hr:Room k A)(hA:A.frames=X.A.frames)(hg:Gl X x:=by rfl)(hdb:(x == ("__debug__" : Str))=false:=by decide):JK X A (.Name x p) (om g):=by
 intro pins s σ H B ρ Q E I sB rep kk;obtain⟨ad,fd,ps,F1,hm,hk,hb⟩:=F.ex;refine pK I hg hm ?_ hdb;refine kk ad H s I (.refl H) ?_;intro pins' s' H' N v u d d' I' m1 m2 m3 iv r e;simp only[om]at e;obtain⟨⟨d2,b2⟩,e1,e2⟩:=oY e;cases e2
 have sp:spD X.K g [v] H' (λv' H2=>∃N',Ext N N' H' H2/\Is X.K N' v' d2) (λ_ _ _=>False):=⟨N,[d],d2,b2,⟨m3,rep.tb.mono m2⟩,.cons iv .nil,e1,λv' H2 N2 x2 i2 _=>⟨N2,x2,i2⟩⟩;have hl:[u].length=ps.length:=by have:=F1.len _ _ _ _ sp;simpa using this
 have e0:=I'.env0;have bb:=hb s' [u] I'.kIn (by simpa using hl);rw[List.append_nil]at bb;refine wpAny_call (codeAny_mono (F1.run A X.stack s' H' ⟨[u],[]⟩ [u] [v] _ (λ_ _ _=>False) hr ⟨hA.trans e0.frames,e0.mod,e0.bs,e0.bsz,e0.funs,e0.frf,e0.hok,e0.bare⟩ bb (.cons r .nil) sp) λr s' hq=>?_);cases r with
 |error e=>exact False.elim hq
 |ok fl=>
  cases fl with
  |ret w=>exact I'.after hq
  |next=>exact False.elim hq
  |brk=>exact False.elim hq
  |cont=>exact False.elim hq
end
noncomputable def gK (f:D->Option D):List D->Option (List D)
 |[]=>some []
 |d::ds=>(f d).bind λx=>(gK f ds).map (x :: ·)
theorem fE {f:D->Option D}:∀ {ds ks:List D},gK f ds=some ks->ks.length=ds.length
 |[],_,h=>by simp only[gK]at h;cases h;rfl
 |d::ds,_,h=>by
  simp only[gK]at h;obtain⟨a,h1,h⟩:=oX h;obtain⟨r,h2,h⟩:=oY h;subst h;simp[fE h2]
theorem jC {f:D->Option D}:∀ {ds ks:List D},gK f ds=some ks->∀ {i:Nat}{d:D},ds[i]? = some d->∃k,ks[i]? = some k/\f d=some k
 |[],_,h,i,d,e=>by simp at e
 |d::ds,_,h,0,e,q=>by
  simp only[gK]at h;obtain⟨a,h1,h⟩:=oX h;obtain⟨r,h2,h⟩:=oY h;subst h;simp at q;subst q;exact⟨a,by simp,h1⟩
 |d::ds,_,h,i+1,e,q=>by
  simp only[gK]at h;obtain⟨a,h1,h⟩:=oX h;obtain⟨r,h2,h⟩:=oY h;subst h;obtain⟨k,z1,z2⟩:=jC h2 (i:=i) (d:=e) (by simpa using q);exact⟨k,by simpa using z1,z2⟩
structure KK (X:Cx)(A:Around)(kd:List D->Option (List (List At)))(ok:List (List At)->Bool):Prop where
 len:∀ {ds:List D}{ks:List (List At)},kd ds=some ks->ks.length=ds.length
 ask:∀ {pins:List (Addr×Obj)}{σ:St}{H:Hp}{s:Shared}(_:Inv X pins σ H s) {ys:List V}{ds:List D}{ks:List (List At)}{its:List Value},aT ys its->IsL X.K H ys ds->kd ds=some ks->ok ks=true->da ks=true ->
  (0<ks.length->∀ {E:Value->Shared->Prop}{Q:SortKind->Shared->Prop},Q (tuples' true) s->wpAny (model X.prog X.w) A (keyKind' its.toArray) Q E s) /\
  ∀(i j:Nat)(C:Bool->Shared->Prop)(s1:Shared),i<ks.length->j<ks.length->s1=s->(∀s',s'=s->C (ltR (rkK ks) i j) s')->kas_ask X.prog X.w A (tuples' true) its i j C s1
theorem zW {X:Cx}{A:Around}:KK X A cN dD:=⟨gs,λI _ _ _ _ r i e hf hc=>have hp:=lF I r i e;⟨λhn _ _ q=>zR hp hf hn q,Ch hc hp⟩⟩
section
variable {X:Cx}{pins:List (Addr×Obj)}{σ:St}{s:Shared}
theorem pe {x:V}{u:Value}(r:aS x u):∀ {vs:List V}{us:List Value},aT vs us->aT (vs++[x]) (us++[u])
 |_,_,.nil=>.cons r .nil
 |_,_,.cons h t=>.cons h (pe r t)
theorem c7 {c:Value}{od:Option Addr}{its:Array Value}{n:Nat}{sl:Array (Option Value)}:∀v,(Obj.mk c od (.seq its n) sl).data≠.cell v:=λv z=>by cases z
theorem ve {A:Around}{E:Value->Shared->Prop}{a:Addr}{n:Nat}{qv:Value}{its:List Value}{vs:List V}{ds kds:List D}{ks:List (List At)}{B H:Hp}{kf:D->Option D}{P:PySem.Fin->Shared->Prop}
  (I:Inv X ((a,seqObj "list" its.toArray n)::pins) σ H s) (h0:X.s₀.heap.objs.size<=a) (hp:∀q∈X.pn++pins,q.1≠a) (kfn:zV X A σ qv B H kf) (rv:aT vs its) (iv:IsL X.K B vs ds) (sB:aQ B H)
  {kd:List D->Option (List (List At))}{ok:List (List At)->Bool}(M:KK X A kd ok) (em:gK kf ds=some kds) (ek:kd kds=some ks) (hc:da ks=true) (hf:ok ks=true) (h64:its.length<64)
  (h:∀(p:Array Nat)(s':Shared)(H' N:Hp),Arr its.length p->Up (rkK ks) p its.length->Inv X pins σ (upd H' a (.lst (p.toList.map λi=>vs.getD i .non))) s'->Ext B N H H'->H' a=none->P (.done (.ret .none)) s'):
  wpAny (model X.prog X.w) A (ksk_tree a qv false) P E s:=by
 have pa:=I.pin (a,seqObj "list" its.toArray n) (mY _ mX)
 have hvl:vs.length=its.length:=rv.length
 have hdl:ds.length=vs.length:=iv.length.symm
 have hkd:kds.length=ds.length:=fE em
 have hks:ks.length=kds.length:=M.len ek
 have hz:its.length<=sizeLine:=by rw[sizeLine_eq];omega
 have hna:H a=none:=pa.2.1
 obtain⟨e1,ho1⟩:∃e1,(s.heap.update a (Obj.mapSeq λ_=>(#[]:Array Value))).get? a=some (seqObj "list" #[] e1):=⟨_,get?_update_seq pa.1 λ_=>#[]⟩
 have u1:=Heap.SameBut.update s.heap a (Obj.mapSeq λ_=>(#[]:Array Value))
 have I1:Inv X ((a,seqObj "list" #[] e1)::pins) σ H { s with heap:=s.heap.update a (Obj.mapSeq λ_=>(#[]:Array Value)) }:=eN (t':=s.toks) I h0 hp (λb u n q=>(u1.2 b n).trans q) ho1 c7
 let h2:Heap:=(s.heap.update a (Obj.mapSeq λ_=>(#[]:Array Value))).push (seqObj "tuple" its.toArray 0)
 have I2:Inv X ((a,seqObj "list" #[] e1)::pins) σ H { s with heap:=h2 }:=I1.kept (t':=s.toks) λb u q=>Heap.get?_push_of_some _ q
 let kS:Addr:=h2.objs.size
 have I3:Inv X ((kS,seqObj "list" #[] 0)::(a,seqObj "list" #[] e1)::pins) σ H { s with heap:=h2.push (seqObj "list" #[] 0) }:=lG (s:={ s with heap:=h2 }) (t':=s.toks) I2 (λb u q=>Heap.get?_push_of_some _ q) (Nat.le_refl _) (Heap.get?_push_size _ rfl) c7
 have k0:X.s₀.heap.objs.size<=kS:=I2.sz
 have kp:∀q∈X.pn++((a,seqObj "list" #[] e1)::pins),q.1≠kS:=λq hq=>Nat.ne_of_lt (Heap.lt_size (I2.pin q hq).1)
 have kna:kS≠a:=λz=>kp (a,seqObj "list" #[] e1) (mY _ mX) z.symm
 unfold ksk_tree
 refine wX (listItems_at pa.1 rfl ?_)
 refine wX (listUpdate_at pa.1 rfl ?_ (by simpa using hz) (Nat.zero_le _))
 refine wX (seqEpoch_at ho1 rfl ?_)
 refine wX (wpAny_newTuple ?_ (by show its.length<=sizeLine;exact hz))
 refine wX (wpAny_newList ?_ (Nat.zero_le _))
 refine wpAny_holding ?_
 show wpAny (model X.prog X.w) A (ksk_rest a qv false its.toArray e1 (.ref kS)) P E { s with heap:=h2.push (seqObj "list" #[] 0) }
 unfold ksk_rest
 refine wX (wpAny_rule ?_)
 rw[List.forIn_toArray]
 refine wX (ksk_fold (λi s'=>∃(H' N:Hp)(kA:Array Value)(e:Nat)(kvs:List V),Inv X ((kS,seqObj "list" kA e)::(a,seqObj "list" #[] e1)::pins) σ H' s'/\Ext B N H H'/\aT kvs kA.toList/\IsL X.K N kvs (kds.take i)) its 0 _
  ⟨H,B,#[],0,[],I3,.refl sB,.nil,by simpa using IsL.nil⟩ ?step ?done)
 case step=>
  rintro j u s' hu ⟨H',N,kA,e,kvs,J,x1,rk,ik⟩
  simp only[Nat.zero_add]at ik ⊢
  have hj:j<its.length:=(List.getElem?_eq_some_iff.mp hu).1
  obtain⟨d,hd⟩:∃d,ds[j]? = some d:=⟨_,List.getElem?_eq_getElem (by omega)⟩
  obtain⟨v,hv,iv'⟩:=iv.get hd
  obtain⟨kd,hkj,hkf⟩:=jC em hd
  obtain⟨u',hu',ru⟩:=rv.get hv
  rw[hu]at hu';cases hu'
  have kl:kA.size=j:=by
   have z1:=rk.length
   have z2:=ik.length
   rw[List.length_take]at z2
   rw[Array.length_toList]at z1
   exact z1.symm.trans (z2.trans (Nat.min_eq_left (by omega)))
  refine wX (wpAny_attempt (wpAny_mono (kfn _ s' H' N v u d kd J x1.hh x1.bn x1.nh (iv'.mono x1.bn) ru hkf) (λw s'' hw=>?_) λ_ _ hF=>hF.elim))
  obtain⟨v',H'',J',rv',N',x2,i2⟩:=hw
  have pk:=J'.pin (kS,seqObj "list" kA e) (mY _ mX)
  obtain⟨c2,hc2⟩:∃c2,(s''.heap.update kS (Obj.mapSeq (·.push w))).get? kS=some (seqObj "list" (kA.push w) c2):=⟨_,get?_update_seq pk.1 (·.push w)⟩
  have u2:=Heap.SameBut.update s''.heap kS (Obj.mapSeq (·.push w))
  refine wX (listUpdate_at pk.1 rfl ?_ (by rw[sizeLine_eq];omega) (Nat.le_trans (Nat.le_of_eq (Array.size_push ..)) (by rw[sizeLine_eq];omega)))
  refine wY ⟨rfl,H'',N',kA.push w,c2,kvs++[v'],eN (t':=s''.toks) J' k0 kp (λb q n z=>(u2.2 b n).trans z) hc2 c7,x1.trans x2,?_,?_⟩
  ·rw[Array.toList_push];exact pe rv' rk
  ·rw[List.take_add_one,hkj];exact(ik.mono x2.bn).append (.cons i2 .nil)
 case done=>
  rintro s' ⟨H',N,kA,e,kvs,J,x1,rk,ik⟩
  have ik':IsL X.K N kvs kds:=by
   have z:kds.take (0+its.length)=kds:=List.take_of_length_le (by omega)
   rw[z]at ik;exact ik
  have pk:=J.pin (kS,seqObj "list" kA e) (mY _ mX)
  have pa':=J.pin (a,seqObj "list" #[] e1) (mY _ (mZ _ mX))
  have hn':H' a=none:=pa'.2.1
  have kz:kA.toList.length=its.length:=by rw[←rk.length,ik'.length];omega
  have kz':kA.size=its.length:=by rw[←Array.length_toList];exact kz
  refine wX (listItems_at pk.1 rfl ?_)
  have hkp:=M.ask J rk (ik'.mono x1.nh) ek hf hc
  -- the end of the sort,for a permutation p
  have ends:∀(st:SortSt)(p:Array Nat),arrOf st=p.map (kas_item (kA.toList.toArray.zip its.toArray))->failedOf st=none->Arr its.length p->Up (rkK ks) p its.length ->
    wpAny (model X.prog X.w) A (ksk_tail a false e1 (.ref kS) st) P E s':=λst p ea ef ap up=>by
   have eo:(arrOf st).map (·.2)=List.toArray (p.toList.map λi=>its.getD i Value.none):=kat_snds kz ea
   have hin:∀i∈p.toList,i<vs.length:=λi hi=>by
    have:=List.mem_range.mp (ap.perm.mem_iff.mp hi)
    omega
   obtain⟨c3,hc3⟩:∃c3,(s'.heap.update kS (Obj.mapSeq λ_=>(#[]:Array Value))).get? kS=some (seqObj "list" #[] c3):=⟨_,get?_update_seq pk.1 λ_=>#[]⟩
   have u3:=Heap.SameBut.update s'.heap kS (Obj.mapSeq λ_=>(#[]:Array Value))
   have J3:=iu (eN (t':=s'.toks) J k0 kp (λb q n z=>(u3.2 b n).trans z) hc3 c7)
   have pa3:=J3.pin (a,seqObj "list" #[] e1) (mY _ mX)
   obtain⟨c4,hc4⟩:∃c4,((s'.heap.update kS (Obj.mapSeq λ_=>(#[]:Array Value))).update a (Obj.mapSeq λ_=>(arrOf st).map (·.2))).get? a=some (seqObj "list" ((arrOf st).map (·.2)) c4):=⟨_,get?_update_seq pa3.1 λ_=>(arrOf st).map (·.2)⟩
   have u4:=Heap.SameBut.update (s'.heap.update kS (Obj.mapSeq λ_=>(#[]:Array Value))) a (Obj.mapSeq λ_=>(arrOf st).map (·.2))
   have so:((arrOf st).map (·.2)).size=its.length:=by rw[eo];simp only[List.size_toArray,List.length_map,Array.length_toList,ap.size]
   unfold ksk_tail
   try dsimp only
   refine wX (listUpdate_at pk.1 rfl ?_ (by rw[kz',sizeLine_eq];omega) (Nat.zero_le _))
   refine wX (wpAny_letGo ?_)
   refine wX (seqEpoch_at pa3.1 rfl ?_)
   refine wX (listUpdate_at pa3.1 rfl ?_ (Nat.zero_le _) (by simp only[Bool.false_eq_true,if_false];rw[so,sizeLine_eq];omega))
   rw[ef]
   simp only[bne_self_eq_false,Bool.false_eq_true,if_false]
   refine wY (h p _ H' N ap up (Cm (s:={ s' with heap:=s'.heap.update kS (Obj.mapSeq λ_=>(#[]:Array Value)) }) (t':=s'.toks) J3 h0 hp (λb q n z=>(u4.2 b n).trans z) ⟨_,hc4⟩ ?_) x1 hn')
   refine⟨by rw[List.length_map,Array.length_toList,ap.size];exact hz,p.toList.map λi=>its.getD i Value.none,c4,pd rv p.toList hin,?_⟩
   rw[←eo];exact hc4
  unfold ksk_end
  try dsimp only
  simp only[Bool.false_eq_true,if_false]
  have ekA:kA=kA.toList.toArray:=by simp
  by_cases h2':its.toArray.size<2
  ·rw[if_pos h2',if_pos h2']
   refine wX (wY ?_)
   rw[StateT.run_pure]
   refine wX (wY ?_)
   have hsm:its.length<2:=by simpa using h2'
   refine ends _ (List.toArray (List.range its.length)) ?_ rfl ⟨by simp,by simp⟩ ?_
   ·show kA.zip its.toArray=_
    have:=kas_range (kA.toList.toArray.zip its.toArray)
    rw[show(kA.toList.toArray.zip its.toArray).size=its.length by simp[kz']]at this
    rw[this]
   ·intro i j hij hj
    have:i=j:=by omega
    subst this;exact Int.le_refl _
  ·rw[if_neg h2',if_neg h2']
   have h2'':2<=its.length:=by simp at h2';omega
   rw[ekA]
   refine wX (hkp.1 (by omega) ?_)
   obtain⟨p,r1,r2,r3⟩:=zP (n:=its.length) (rk:=rkK ks) (by omega)
   refine wX (wpAny_mono (kat_run (E:=E) (ks:=kA.toList) (vs:=its) (κ:=tuples' true) (s:=s') (Q:=λst' s2=>s2=s'/\arrOf st'=p.map (kas_item (kA.toList.toArray.zip its.toArray))/\failedOf st'=none)
    (G:=λp' s2=>p'=p/\s2=s') kz h2'' h64 (λp' st' s2 _ e2 e3 e4=>by
     obtain⟨rfl,rfl⟩:=e4
     exact⟨rfl,e2,e3⟩) (Run.wp (λs2=>s2=s') (λi j C s2 hi hj e hC=>hkp.2 i j C s2 (by omega) (by omega) e hC) r1 rfl λs2 e=>⟨rfl,e⟩)) (λr s2 hr=>?_) λ_ _ z=>z)
   obtain⟨⟨⟩,st'⟩:=r
   obtain⟨rfl,e2,e3⟩:=hr
   exact ends st' p e2 e3 r2 r3
end
theorem sY {α β:Type}{f:α->β}:∀ {l:List α},(l.map f).Nodup->l.Nodup
 |[],_=>List.nodup_nil
 |a::l,h=>by
  rw[List.map_cons,List.nodup_cons]at h;exact List.nodup_cons.mpr ⟨λz=>h.1 (List.mem_map.mpr ⟨a,z,rfl⟩),sY h.2⟩
noncomputable def gt (ks:List (List At))(ds:List D):List D:=(eX (λp:List At×D=>bT p.1) (ks.zip ds)).map (·.2)
theorem zX {α β:Type}(d:α)(e:β):∀ {l₁:List α}{l₂:List β},l₁.length=l₂.length->(List.range l₂.length).map (λi=>(l₁.getD i d,l₂.getD i e))=l₁.zip l₂:=λ{l₁ l₂} h=>by
 apply List.ext_getElem?;intro i;by_cases hi:i<l₂.length
 ·have hi':i<l₁.length:=by omega
  have:=(List.getElem?_zip_eq_some (z:=(l₁[i],l₂[i]))).mpr ⟨List.getElem?_eq_getElem hi',List.getElem?_eq_getElem hi⟩;rw[this];simp[hi,hi']
 ·simp[hi,h]
theorem Cn {α β:Type}{l₁:List α}{l₂:List β}(nd:l₁.Nodup){a:α}{b c:β}(h1:(a,b)∈l₁.zip l₂)(h2:(a,c)∈l₁.zip l₂):b=c:=by
 obtain⟨i,hi⟩:=List.mem_iff_getElem?.mp h1;obtain⟨j,hj⟩:=List.mem_iff_getElem?.mp h2;obtain⟨i1,i2⟩:=List.getElem?_zip_eq_some.mp hi;obtain⟨j1,j2⟩:=List.getElem?_zip_eq_some.mp hj;obtain⟨li,ei⟩:=List.getElem?_eq_some_iff.mp i1;obtain⟨lj,ej⟩:=List.getElem?_eq_some_iff.mp j1;have:i=j:=(List.getElem_inj nd).mp (ei.trans ej.symm);subst this;rw[i2]at j2;exact Option.some.inj j2
theorem vg {ds:List D}{ks:List (List At)}{p:Array Nat}(hl:ks.length=ds.length)(hc:da ks=true)(nd:ks.Nodup)(ap:Arr ds.length p)(up:Up (rkK ks) p ds.length):p.toList.map (λi=>ds.getD i .non)=gt ks ds:=by
 unfold gt;have e:p.toList.map (λi=>(ks.getD i [],ds.getD i .non))=eX (λp:List At×D=>bT p.1) (ks.zip ds):=by
  apply j9
  ·intro x hx y hy e;have mx:=(List.of_mem_zip hx).1;have my:=(List.of_mem_zip hy).1;have:=k7 hc mx my e;obtain⟨k1,d1⟩:=x;obtain⟨k2,d2⟩:=y;have z:k1=k2:=this;subst z;rw[Cn nd hx hy]
  ·have:=ap.perm.map (λi=>(ks.getD i [],ds.getD i D.non));rw[zX [] D.non hl]at this;exact this
  ·rw[List.pairwise_iff_getElem];intro i j hi hj hij;have hsz:=ap.size;have hi':i<p.size:=by simpa using hi
   have hj':j<p.size:=by simpa using hj
   have:=up i j (Nat.le_of_lt hij) (by omega);unfold bN rkK at this;have gi:p.getD i 0=p[i]:=by rw[Array.getD_eq_getD_getElem?,Array.getElem?_eq_getElem hi'];rfl
   have gj:p.getD j 0=p[j]:=by rw[Array.getD_eq_getD_getElem?,Array.getElem?_eq_getElem hj'];rfl
   have lj:=ap.lt (k:=j) (by omega);have mj:ks.getD (p.getD j 0) []∈ks:=by
    have h':p.getD j 0<ks.length:=by omega
    rw[List.getD_eq_getElem?_getD,List.getElem?_eq_getElem h'];exact List.getElem_mem h'
   have nl:¬bT (ks.getD (p.getD j 0) [])<bT (ks.getD (p.getD i 0) []):=λz=>by
    have:=ww (cs:=ks.map bT) (List.mem_map.mpr ⟨_,mj,rfl⟩) z;omega
   simp only[List.getElem_map,Array.getElem_toList];unfold leF;rw[←gi,←gj];exact nl
 rw[←e,List.map_map];rfl
@[simp] noncomputable def qy (kd:List D->Option (List (List At)))(ok:List (List At)->Bool)(f:FE)(kf:Env->D->Option D):FE:=λρ=>(f ρ).bind λx=>match x.1 with
 |.lst ds=>(gK (kf ρ) ds).bind λkds=>(kd kds).bind λks=>if ks.length<64/\da ks=true/\ok ks=true/\(ks.map bT).Nodup then some (.lst (gt ks ds),true)else none
 |_=>none
@[simp] noncomputable abbrev mq:FE->(Env->D->Option D)->FE:=qy cN dD
section
variable {X:Cx}{e ke:Expr}{p pos kp:Pos}
theorem zY {kd:List D->Option (List (List At))}{ok:List (List At)->Bool}(M:KK X X.A.in1.in1 kd ok){f:FE}{kf:Env->D->Option D}(hm:X.mg "sorted" = none)(he:JE X e f)(hk:JK X X.A.in1.in1 ke kf)(hg:Gl X "sorted":=by rfl)
  (hes:starEach [e] X.env=[(false,eval e X.env)]:=by rfl) (heb:backTo pos (starEach [e] X.env)=(false,eval e X.env)::backTo pos (starEach [] X.env):=by rfl) (hpl:(backTo pos (starEach [e] X.env)).any (·.1)=false:=by rfl)
  (hall:(backToKw pos (keywordEach [⟨some "key",ke,kp⟩] X.env)).all (·.1.isSome)=true:=by rfl) (hkw:(backToKw pos (keywordEach [⟨some "key",ke,kp⟩] X.env)).any (·.1.isNone)=false:=by rfl)
  (hnm:(backToKw pos (keywordEach [⟨some "key",ke,kp⟩] X.env)).filterMap (·.1)=[("key" : Str)]:=by rfl):
  JE X (.Call (.Name "sorted" p) [e] [⟨some "key",ke,kp⟩] pos) (qy kd ok f kf):=by
 intro pins s σ H Q I h;obtain⟨B,ρ,d,b,sB,rep,ee,q⟩:=h;obtain⟨⟨xd,xb⟩,ex,ee⟩:=oX ee;cases xd<;>try (cases ee;done)
 rename_i ds;obtain⟨kds,em,ee⟩:=oX ee;obtain⟨ks,ek,ee⟩:=oX ee;split at ee
 ·rename_i hh;obtain⟨h64,hc,hf,nd⟩:=hh;cases ee
  refine wpAny_Call_Name_kw (ia I hg hm (u:=.builtin "sorted") rfl ?_);refine callWith_kw (thn ((fP he ib hes) pos pins s σ H (λvs H1=>∃v N,vs=[v]/\Ext B N H H1/\Is X.K N v (.lst ds)) I ⟨B,ρ,_,_,sB,rep,ex,λv H1 N x1 i1 _=>⟨v,N,rfl,x1,i1⟩⟩) λus s1 hA=>?_) heb hpl hall hkw;obtain⟨vs1,H1,I1,r1,v,N,rfl,x1,i1⟩:=hA;obtain⟨u,rfl,ru⟩:=ge r1;refine kws_cons (hk pins s1 σ H1 N ρ _ _ I1 x1.nh (rep.mono x1.bn) λqa H2 s2 I2 m2 kfn=>kws_nil ?_);rw[hnm];show wpAny _ _ (call (.builtin "sorted") [u] [(("key" : Str),.ref qa)]) _ _ _;cases i1
  rename_i l vs hq il;cases ru
  have sN:aQ N H2:=x1.nh.trans m2;obtain⟨its,rv,pl,hz⟩:=I2.list (sN.seq hq);have hvl:vs.length=its.length:=rv.length;have hdl:ds.length=vs.length:=il.length.symm;have hkd:kds.length=ds.length:=fE em;have hks:ks.length=kds.length:=M.len ek;have h64':its.length<64:=by omega
  refine call_function_entry_kw kind_sorted plain_sorted entry_sorted (ksk_s1 _ _) ?_;unfold Builtin.«sorted»;refine wX (m:=checkCount "sorted" 1 1 _) (wY (wX (collect_list pl.isList (wX (wpAny_newList ?_ (by rw[sizeLine_eq];omega))) (by rw[sizeLine_eq];omega))));let h1:Heap:=(s2.heap.push (seqObj "list" #[] 0)).update s2.heap.objs.size (Obj.mapSeq (· ++ its.toArray));have hsz:h1.objs.size=s2.heap.objs.size+1:=by show(Heap.update _ _ _).objs.size=_;rw[Heap.size_update,size_push']
  have keep1:∀b o,s2.heap.get? b=some o->h1.get? b=some o:=λb o q=>(Heap.get?_update_ne _ _ _ _ (Nat.ne_of_lt (Heap.lt_size q))).trans (Heap.get?_push_of_some _ q);have I3:Inv X ((h1.objs.size,seqObj "list" its.toArray 0)::pins) σ H2 { s2 with heap:=h1.push (seqObj "list" its.toArray 0) } :=
   lG (t':=s2.toks) I2 (λb u q=>Heap.get?_push_of_some _ (keep1 b u q)) (by rw[hsz];exact Nat.le_succ _) (Heap.get?_push_size _ rfl) c7
  have p3:=I3.pin (h1.objs.size,seqObj "list" its.toArray 0) (mY _ mX);show wpAny (model X.prog X.w) X.A.in1 (holding [.ref h1.objs.size] (call (.builtin "list.sort") [.ref h1.objs.size] [(("key" : Str),.ref qa)])>>=_) _ _ { s2 with heap:=h1.push (seqObj "list" its.toArray 0) };refine wX (wpAny_holding (wpAny_call_entry_kw slot_list_sort ⟨_,p3.1,rfl⟩ entry_list_sort ?_ (ksk_l1 _ _)));show wpAny (model X.prog X.w) X.A.in1.in1 (Builtin.«list.sort» ⟨[.ref h1.objs.size],[(Str.ofString "key",.ref qa)]⟩) _ _ _;rw[ksk_t1];refine ve I3 (Nat.le_trans I2.sz (by rw[hsz];exact Nat.le_succ _)) (λq hq=>by rw[hsz];exact Nat.ne_of_lt (Nat.lt_succ_of_lt (Heap.lt_size (I2.pin q hq).1))) kfn rv il sN M em ek hc hf h64' λpm s' H' N' ap up J x3 hn=>⟨_,rfl,wY ⟨_,rfl,?_⟩⟩;have hpl:its.length=ds.length:=by omega
  rw[hpl]at ap up;have er:=vg (by omega) hc (sY nd) ap up;have hin:∀i∈pm.toList,i<ds.length:=λi hi=>List.mem_range.mp (ap.perm.mem_iff.mp hi);have ip:=sV (il.mono x3.bn) pm.toList hin;rw[er]at ip;have x4:Ext B N' H H':=(x1.trans (.grow x1.nh m2)).trans x3;have hN:N' h1.objs.size=none:=x3.nh.free hn;have x5:=x4.trans (Ext.laid (o:=.lst (pm.toList.map λi=>vs.getD i .non)) x3.nh hn);exact⟨.ref h1.objs.size,_,J,rfl,q _ _ _ x5 (.lst (SqL.of aF) (ip.mono (Ext.laid (o:=.lst (pm.toList.map λi=>vs.getD i .non)) x3.nh hn).bn)) λ_=>⟨_,_,_,rfl,rfl,x4.hh.free hn,aF,ip.mono (Ext.laid (o:=.lst (pm.toList.map λi=>vs.getD i .non)) x3.nh hn).bn⟩⟩
 ·cases ee
end
section
variable {prog:Program}{w:World}{A:Around}{E:Value->Shared->Prop}{s:Shared}
theorem dM.type {xs:List At}{v:Value}(h:dM s.heap xs v):s.TypeIs v "tuple":=by
 obtain⟨a,o,its,n,rfl,ho,hc,_⟩:=h;exact⟨o,ho,hc⟩
theorem zZ {xs ys:List At}{a b:Addr}{r:Bool}{P:PySem.Fin->Shared->Prop}(hx:dM s.heap xs (.ref a))(hy:dM s.heap ys (.ref b))(h:aJ xs ys=some r)(q:P (.done (.ret (.bool r))) s):wpAny (model prog w) A (Builtin.«tuple.__lt__» ⟨[.ref a,.ref b],[]⟩) P E s:=by
 have hTb:=hy.type;obtain⟨a',oa,its,na,ea,hoa,_,hda,ra⟩:=hx;obtain⟨b',ob,jts,nb,eb,hob,_,hdb,rb⟩:=hy;cases ea
 cases eb
 show wpAny _ _ (isInstance (.ref _) (.type "tuple")>>=_) _ _ s;refine wX (wpAny_isInstance hTb isSubtype_tuple_tuple ?_);simp only[Bool.not_true,Bool.false_eq_true,if_false];refine wX (wpAny_tupleItemsOf hoa hda ?_);refine wX (wpAny_tupleItemsOf hob hdb ?_);refine wX ?_;refine wpAny_forIn_list _
  (λau z s'=>z.1=none/\s'=s/\∃xs' ys' its' jts' n,au=List.zip its' jts'/\Paired atV xs' its'/\Paired atV ys' jts'/\aJ xs' ys'=some r/\its'.length+n=its.size/\jts'.length+n=jts.size)
  _ ?_ ?_ _ _ ⟨rfl,rfl,xs,ys,its.toList,jts.toList,0,rfl,ra,rb,h,by simp,by simp⟩
 ·rintro⟨u,v⟩ au z s' ⟨hz,rfl,xs',ys',its',jts',n,e,p1,p2,hl,n1,n2⟩;cases p1 with
  |nil=>simp at e
  |@cons x u' xs'' its'' r1 p1'=>
   cases p2 with
   |nil=>simp at e
   |@cons y v' ys'' jts'' r2 p2'=>
    simp only[List.zip_cons_cons,List.cons.injEq,Prod.mk.injEq]at e;obtain⟨⟨rfl,rfl⟩,rfl⟩:=e;cases x with
    |i i=>
     cases y with
     |s j=>simp[aJ]at hl
     |i j=>
      obtain⟨t,rfl⟩:=r1;obtain⟨t',rfl⟩:=r2;rw[aJ]at hl;refine wX (wpAny_eqBool_int ?_);by_cases hk:i=j
      ·rw[if_pos hk]at hl;rw[show(i == j)=true by simp[hk]];simp only[Bool.not_true,Bool.false_eq_true,if_false];exact wY ⟨rfl,rfl,xs'',ys'',its'',jts'',n+1,rfl,p1',p2',hl,by rw[←n1,List.length_cons];omega,by rw[←n2,List.length_cons];omega⟩
      ·rw[if_neg hk]at hl;cases hl
       rw[show(i == j)=false by simp[hk]];simp only[Bool.not_false,if_true];refine wX (wpAny_rule (wX (m:=richCompare .Lt (.int i t) (.int j t')) (wpAny_mono (show wpAny _ _ (richCompare .Lt (.int i t) (.int j t')) (λv s''=>v=.bool (decide (i<j))/\s''=s') E s' from PyProof.Rows.lt_int ⟨rfl,rfl⟩) (λv s'' hv=>?_) λ_ _ z=>z)));obtain⟨rfl,rfl⟩:=hv;exact wX (wY (wY (wY q)))
    |s i=>
     cases y with
     |i j=>simp[aJ]at hl
     |s j=>
      obtain⟨t,rfl⟩:=r1;obtain⟨t',rfl⟩:=r2;rw[aJ]at hl;refine wX (wpAny_eqBool_str ?_);by_cases hk:i=j
      ·rw[if_pos hk]at hl;rw[decide_eq_true hk];simp only[Bool.not_true,Bool.false_eq_true,if_false];exact wY ⟨rfl,rfl,xs'',ys'',its'',jts'',n+1,rfl,p1',p2',hl,by rw[←n1,List.length_cons];omega,by rw[←n2,List.length_cons];omega⟩
      ·rw[if_neg hk]at hl;cases hl
       rw[decide_eq_false hk];simp only[Bool.not_false,if_true];refine wX (wpAny_rule (wX (m:=richCompare .Lt (.str i t) (.str j t')) (wpAny_mono (show wpAny _ _ (richCompare .Lt (.str i t) (.str j t')) (λv s''=>v=.bool (decide (i.cps.toList<j.cps.toList))/\s''=s') E s' from PySem.P.lt_str ⟨rfl,rfl⟩) (λv s'' hv=>?_) λ_ _ z=>z)));obtain⟨rfl,rfl⟩:=hv;exact wX (wY (wY (wY q)))
 ·rintro⟨z1,z2⟩ s' ⟨hz,rfl,xs',ys',its',jts',n,e,p1,p2,hl,n1,n2⟩;simp only at hz;subst hz;refine wY ?_;have:decide (its.size<jts.size)=r:=by
   cases p1 with
   |nil=>
    cases p2 with
    |nil=>simp[aJ]at hl;subst hl;simp at n1 n2;simp;omega
    |cons _ _=>simp[aJ]at hl;subst hl;simp at n1 n2;simp;omega
   |cons _ _=>
    cases p2 with
    |nil=>simp[aJ]at hl;subst hl;simp at n1 n2;simp;omega
    |cons _ _=>simp at e
  show P (.done (.ret (.bool (decide (its.size<jts.size))))) s';rw[this];exact q
theorem Aa {xs ys:List At}{a b:Addr}{r:Bool}{P:PySem.Fin->Shared->Prop}(hx:dM s.heap xs (.ref a))(hy:dM s.heap ys (.ref b))(h:aJ ys xs=some r)(q:P (.done (.ret (.bool r))) s):wpAny (model prog w) A (Builtin.«tuple.__gt__» ⟨[.ref a,.ref b],[]⟩) P E s:=by
 have hTb:=hy.type;obtain⟨a',oa,its,na,ea,hoa,_,hda,ra⟩:=hx;obtain⟨b',ob,jts,nb,eb,hob,_,hdb,rb⟩:=hy;cases ea
 cases eb
 show wpAny _ _ (isInstance (.ref _) (.type "tuple")>>=_) _ _ s;refine wX (wpAny_isInstance hTb isSubtype_tuple_tuple ?_);simp only[Bool.not_true,Bool.false_eq_true,if_false];refine wX (wpAny_tupleItemsOf hoa hda ?_);refine wX (wpAny_tupleItemsOf hob hdb ?_);refine wX ?_;refine wpAny_forIn_list _
  (λau z s'=>z.1=none/\s'=s/\∃xs' ys' its' jts' n,au=List.zip its' jts'/\Paired atV xs' its'/\Paired atV ys' jts'/\aJ ys' xs'=some r/\its'.length+n=its.size/\jts'.length+n=jts.size)
  _ ?_ ?_ _ _ ⟨rfl,rfl,xs,ys,its.toList,jts.toList,0,rfl,ra,rb,h,by simp,by simp⟩
 ·rintro⟨u,v⟩ au z s' ⟨hz,rfl,xs',ys',its',jts',n,e,p1,p2,hl,n1,n2⟩;cases p1 with
  |nil=>simp at e
  |@cons x u' xs'' its'' r1 p1'=>
   cases p2 with
   |nil=>simp at e
   |@cons y v' ys'' jts'' r2 p2'=>
    simp only[List.zip_cons_cons,List.cons.injEq,Prod.mk.injEq]at e;obtain⟨⟨rfl,rfl⟩,rfl⟩:=e;cases x with
    |i i=>
     cases y with
     |s j=>simp[aJ]at hl
     |i j=>
      obtain⟨t,rfl⟩:=r1;obtain⟨t',rfl⟩:=r2;rw[aJ]at hl;refine wX (wpAny_eqBool_int ?_);by_cases hk:j=i
      ·rw[if_pos hk]at hl;rw[show(i == j)=true by simp[hk]];simp only[Bool.not_true,Bool.false_eq_true,if_false];exact wY ⟨rfl,rfl,xs'',ys'',its'',jts'',n+1,rfl,p1',p2',hl,by rw[←n1,List.length_cons];omega,by rw[←n2,List.length_cons];omega⟩
      ·rw[if_neg hk]at hl;cases hl
       rw[show(i == j)=false by simp;exact λz=>hk z.symm];simp only[Bool.not_false,if_true];refine wX (wpAny_rule (wX (m:=richCompare .Gt (.int i t) (.int j t')) (wpAny_mono (show wpAny _ _ (richCompare .Gt (.int i t) (.int j t')) (λv s''=>v=.bool (decide (j<i))/\s''=s') E s' from PyProof.Rows.gt_int ⟨rfl,rfl⟩) (λv s'' hv=>?_) λ_ _ z=>z)));obtain⟨rfl,rfl⟩:=hv;exact wX (wY (wY (wY q)))
    |s i=>
     cases y with
     |i j=>simp[aJ]at hl
     |s j=>
      obtain⟨t,rfl⟩:=r1;obtain⟨t',rfl⟩:=r2;rw[aJ]at hl;refine wX (wpAny_eqBool_str ?_);by_cases hk:j=i
      ·rw[if_pos hk]at hl;rw[decide_eq_true hk.symm];simp only[Bool.not_true,Bool.false_eq_true,if_false];exact wY ⟨rfl,rfl,xs'',ys'',its'',jts'',n+1,rfl,p1',p2',hl,by rw[←n1,List.length_cons];omega,by rw[←n2,List.length_cons];omega⟩
      ·rw[if_neg hk]at hl;cases hl
       rw[decide_eq_false λz=>hk z.symm];simp only[Bool.not_false,if_true];refine wX (wpAny_rule (wX (m:=richCompare .Gt (.str i t) (.str j t')) (wpAny_mono (show wpAny _ _ (richCompare .Gt (.str i t) (.str j t')) (λv s''=>v=.bool (decide (j.cps.toList<i.cps.toList))/\s''=s') E s' from PySem.P.gt_str ⟨rfl,rfl⟩) (λv s'' hv=>?_) λ_ _ z=>z)));obtain⟨rfl,rfl⟩:=hv;exact wX (wY (wY (wY q)))
 ·rintro⟨z1,z2⟩ s' ⟨hz,rfl,xs',ys',its',jts',n,e,p1,p2,hl,n1,n2⟩;simp only at hz;subst hz;refine wY ?_;have:decide (jts.size<its.size)=r:=by
   cases p1 with
   |nil=>
    cases p2 with
    |nil=>simp[aJ]at hl;subst hl;simp at n1 n2;simp;omega
    |cons _ _=>simp[aJ]at hl;subst hl;simp at n1 n2;simp;omega
   |cons _ _=>
    cases p2 with
    |nil=>simp[aJ]at hl;subst hl;simp at n1 n2;simp;omega
    |cons _ _=>simp at e
  show P (.done (.ret (.bool (decide (jts.size<its.size))))) s';rw[this];exact q
theorem Ab {xs ys:List At}{x y:Value}{r:Bool}{Q:Value->Shared->Prop}(hx:dM s.heap xs x)(hy:dM s.heap ys y)(h:aJ xs ys=some r)(hu:A.units<cLine)(q:Q (.bool r) s):wpAny (model prog w) A (richCompare .Lt x y) Q E s:=by
 have tx:=hx.type;have ty:=hy.type;obtain⟨a,_,_,_,rfl,_⟩:=id hx;obtain⟨b,_,_,_,rfl,_⟩:=id hy;exact wpAny_richCompare_same_room (op:=.Lt) tx ty PySem.F.slot_tuple_lt (wpAny_call_entry PySem.F.slot_tuple_lt tx PySem.F.entry_tuple_lt (zZ hx hy h ⟨_,rfl,(λe=>nomatch e),q⟩) (PySem.F.args_tuple_lt_2 _ _)) hu
theorem GL {xs ys:List At}{x y:Value}{r:Bool}{Q:Value->Shared->Prop}(hx:dM s.heap xs x)(hy:dM s.heap ys y)(h:aJ ys xs=some r)(hu:A.units<cLine)(q:Q (.bool r) s):wpAny (model prog w) A (richCompare .Gt x y) Q E s:=by
 have tx:=hx.type;have ty:=hy.type;obtain⟨a,_,_,_,rfl,_⟩:=id hx;obtain⟨b,_,_,_,rfl,_⟩:=id hy;exact wpAny_richCompare_same_room (op:=.Gt) tx ty PySem.F.slot_tuple_gt (wpAny_call_entry PySem.F.slot_tuple_gt tx PySem.F.entry_tuple_gt (Aa hx hy h ⟨_,rfl,(λe=>nomatch e),q⟩) (PySem.F.args_tuple_gt_2 _ _)) hu
end
noncomputable def jD:List At×D->List (List At×D)->D
 |b,[]=>b.2
 |b,x::r=>if aJ b.1 x.1=some true then jD x r else jD b r
noncomputable def jb:List At×D->List (List At×D)->D
 |b,[]=>b.2
 |b,x::r=>if aJ x.1 b.1=some true then jb x r else jb b r
noncomputable def mmP {f:String->CmpOp->Builtin}(_:f "max" .Gt=Builtin.«max.loop»):=f
noncomputable def mmL:String->CmpOp->Builtin:=mmP rfl
noncomputable def mmQ {f:String->Builtin}(_:f "max" = Builtin.«max»):=f
noncomputable def mmF:String->Builtin:=mmQ rfl
structure MM (nm lp:String)(ns:Str)(op:CmpOp)(lt:List At->List At->Option Bool)(go:List At×D->List (List At×D)->D):Prop where
 hn:(toString nm++toString ".loop" : String)=lp
 en:entryFor table lp=some (mmL nm op)
 pl:plainId lp=true
 k2:builtinKind nm=none
 p2:plainId nm=true
 e2:entryFor table nm=some (mmF nm)
 ka:∀a v:Value,argsOk nm ⟨[a],[(Str.ofString "key",v)]⟩
 bt:bootBuiltins ns=some (.builtin nm)
 n1:ns ≠ "__name__"
 n2:(ns == ("__debug__" : Str))=false
 g0:∀b,go b []=b.2
 g1:∀b x r,go b (x::r)=if lt b.1 x.1=some true then go x r else go b r
 cg:∀ {ks:List (List At)},da ks=true->∀ {a b},a∈ks->b∈ks->∃r,lt a b=some r
 rc:∀ {prog:Program}{w:World}{A:Around}{E:Value->Shared->Prop}{s:Shared}{xs ys:List At}{x y:Value}{r:Bool}{Q:Value->Shared->Prop},dM s.heap xs x->dM s.heap ys y->lt ys xs=some r->A.units<cLine->Q (.bool r) s->wpAny (model prog w) A (richCompare op x y) Q E s
theorem mmx:MM "max" "max.loop" "max" .Gt aJ jD :=
 ⟨by decide,PySem.F.entry_max_loop,PySem.F.plain_max_loop,PySem.F.kind_max,PySem.F.plain_max,PySem.F.entry_max,λ_ _=>by unfold argsOk;kernel_rfl,rfl,by decide,by decide,λ_=>rfl,λ_ _ _=>rfl,λh _ _ a b=>⟨_,fj h a b⟩,GL⟩
theorem mmn:MM "min" "min.loop" "min" .Lt (λa b=>aJ b a) jb :=
 ⟨by decide,PySem.F.entry_min_loop,PySem.F.plain_min_loop,PySem.F.kind_min,PySem.F.plain_min,PySem.F.entry_min,λ_ _=>by unfold argsOk;kernel_rfl,rfl,by decide,by decide,λ_=>rfl,λ_ _ _=>rfl,λh _ _ a b=>⟨_,fj h b a⟩,Ab⟩
section
variable {X:Cx}{pins:List (Addr×Obj)}{σ:St}
theorem mr {o1 o2:Obj}{H':Hp}{s':Shared}{a1 a2:Addr}(J:Inv X ((a1,o1)::(a2,o2)::pins) σ H' s'):Inv X ((a2,o2)::(a1,o1)::pins) σ H' s' :=
 J.pins_of λq hq=>J.pin q (by
  rcases List.mem_cons.mp hq with rfl|hq
  ·exact mY _ (mZ _ mX)
  ·rcases List.mem_cons.mp hq with rfl|hq
   ·exact mY _ mX
   ·exact mY _ (mZ _ (mZ _ hq)))
theorem mv {S a:Addr}{o:Obj}(hp:∀q∈X.pn++pins,q.1≠a)(h:S≠a):∀q∈X.pn++((S,o)::pins),q.1≠a:=λq hq=>by
 rcases List.mem_append.mp hq with hq|hq
 ·exact hp q (List.mem_append_left _ hq)
 ·rcases List.mem_cons.mp hq with rfl|hq
  ·exact h
  ·exact hp q (mY _ hq)
theorem lH {pins:List (Addr×Obj)}{H:Hp}{s:Shared}{v:V}{u:Value}{d:D}{k:List At}(I:Inv X pins σ H s)(r:aS v u)(i:Is X.K H v d)(e:sS d=some k):dM s.heap k u:=by
 have:=lF I (ys:=[v]) (ds:=[d]) (ks:=[k]) (its:=[u]) (.cons r .nil) (.cons i .nil) (by simp only[cN,e];rfl);cases this;assumption
theorem Co {nm lp:String}{ns:Str}{op:CmpOp}{lt:List At->List At->Option Bool}{go:List At×D->List (List At×D)->D}(M:MM nm lp ns op lt go){qv:Value}{l S It:Addr}{vs:List V}{ds kds:List D}{ks:List (List At)}{B H1:Hp}{kf:D->Option D}{d0:D}{R:Result->Shared->Prop}(hh:X.A.handled=none)(hu:X.A.in1.units<cLine)(kfn:zV X X.A.in1 σ qv B H1 kf)(hqv:∃a,qv=.ref a)(hq:SqL X.K B l vs)(iv:IsL X.K B vs ds)
  (em:gK kf ds=some kds) (ek:cN kds=some ks) (hc:da ks=true) (S0:X.s₀.heap.objs.size<=S) (I0:X.s₀.heap.objs.size<=It) (hSp:∀q∈X.pn++pins,q.1≠S) (hIp:∀q∈X.pn++pins,q.1≠It) (hSI:S≠It) (hSl:S≠l) (hIl:l≠It)
  (hR:∀(s':Shared)(H' N:Hp)(v:V)(u:Value),Inv X pins σ H' s'->Ext B N H1 H'->aS v u->Is X.K N v d0->R (.ok (.ret u)) s'):
  ∀(r j:Nat)(s:Shared)(H N:Hp)(ub kub:Value)(vb kvb:V)(db kdb:D)(kb:List At)(c:Nat)(oI:Obj),vs.length - j=r->j<=vs.length->Inv X ((S,seqObj "list" #[ub,kub] c)::(It,oI)::pins) σ H s->s.heap.IsListIter It l j->Ext B N H1 H ->
   aS vb ub->Is X.K N vb db->aS kvb kub->Is X.K N kvb kdb->sS kdb=some kb->kb∈ks->go (kb,db) ((ks.zip ds).drop j)=d0 ->
   codeAny (model X.prog X.w) X.A (.builtin lp ⟨[.ref It,qv,.ref S],[]⟩) R s:=by
 obtain⟨qa,rfl⟩:=hqv;intro r;induction r with
 |zero=>
  intro j s H N ub kub vb kvb db kdb kb c oI hr hj I hit x1 r1 i1 r2 i2 ekb mk hd;have pS:=I.pin (S,seqObj "list" #[ub,kub] c) (mY _ mX);have sB:aQ B H:=x1.bn.trans x1.nh;obtain⟨its,rv,pl,_⟩:=I.list (sB.seq hq);have hl:=pl.isList;have W:=Walks.list (prog:=X.prog) (w:=X.w) (A:=X.A.in1) hh It l hIl its.toArray;have hsz:its.toArray.size=its.length:=List.size_toArray ..;have hvl:vs.length=its.length:=rv.length;have hdl:ds.length=its.length:=by rw[←iv.length];exact rv.length
  have hkl:ks.length=ds.length:=by rw[gs ek,fE em]
  have hd':db=d0:=by
   rw[List.drop_of_length_le (by rw[List.length_zip];omega)]at hd;rw[M.g0]at hd;exact hd
  subst hd';refine codeAny_builtin M.en ?_;rw[Around.under_plainId M.pl _];show wpAny _ X.A.in1 (seqItems? (.ref S)>>=_) _ _ _;refine wX (wpAny_seqItems pS.1 rfl ?_);show wpAny _ X.A.in1 (tryCatch (pyNext (.ref It)) _>>=_) _ _ _;refine wX (wpAny_tryCatch (W.done _ _ _ ⟨by rw[hsz,show its.length=j by omega];exact hit,hl⟩ λh' tk' hk'=>?_));have J1:Inv X ((It,oI)::(S,seqObj "list" #[ub,kub] c)::pins) σ H s:=mr I;have hIp':∀q∈X.pn++((S,seqObj "list" #[ub,kub] c)::pins),q.1≠It:=mv hIp hSI;have J2:Inv X ((S,seqObj "list" #[ub,kub] c)::pins) σ H { s with heap:=h',toks:=tk' } :=
   (iu J1).turned (t':=tk') (λb o n e=>hk' b o (by simpa using n) e) (J1.pin (It,oI) (mY _ mX)).2.1 (J1.pin (It,oI) (mY _ mX)).2.2.1 (.inr I0) (k9 J1) hIp'
  have pS2:=J2.pin (S,seqObj "list" #[ub,kub] c) (mY _ mX);obtain⟨c2,hc2⟩:∃c2,(h'.update S (Obj.mapSeq λ_=>(#[]:Array Value))).get? S=some (seqObj "list" #[] c2):=⟨_,get?_update_seq pS2.1 λ_=>#[]⟩;have u2:=Heap.SameBut.update h' S (Obj.mapSeq λ_=>(#[]:Array Value));show wpAny _ X.A.in1 (updateSeq S (λ_=>#[])>>=_) _ _ _;refine wX ?_;refine wpAny_updateSeq pS2.1 rfl (wX (wpAny_letGo (wY ?_)));exact hR _ H N vb ub (iu (eN (t':=tk') J2 S0 hSp (λb o n e=>(u2.2 b n).trans e) hc2 c7)) x1 r1 i1
 |succ r ih=>
  intro j s H N ub kub vb kvb db kdb kb c oI hr hj I hit x1 r1 i1 r2 i2 ekb mk hd;have hlt:j<vs.length:=by omega
  have pS:=I.pin (S,seqObj "list" #[ub,kub] c) (mY _ mX);have sB:aQ B H:=x1.bn.trans x1.nh;obtain⟨its,rv,pl,_⟩:=I.list (sB.seq hq);have hl:=pl.isList;have W:=Walks.list (prog:=X.prog) (w:=X.w) (A:=X.A.in1) hh It l hIl its.toArray;have hsz:its.toArray.size=its.length:=List.size_toArray ..;have hvl:vs.length=its.length:=rv.length;have hdl:ds.length=its.length:=by rw[←iv.length];exact rv.length
  have hkl:ks.length=ds.length:=by rw[gs ek,fE em]
  refine codeAny_builtin M.en ?_;rw[Around.under_plainId M.pl _];show wpAny _ X.A.in1 (seqItems? (.ref S)>>=_) _ _ _;refine wX (wpAny_seqItems pS.1 rfl ?_);show wpAny _ X.A.in1 (tryCatch (pyNext (.ref It)) _>>=_) _ _ _;refine wX (wpAny_tryCatch (W.item j _ _ _ (by rw[hsz];omega) ⟨hit,hl⟩ λu h' tk' hP hst' hk'=>?_));have hu':its[j]? = some u:=by simpa using hP
  obtain⟨d,hdj⟩:∃d,ds[j]? = some d:=⟨_,List.getElem?_eq_getElem (by omega)⟩;obtain⟨v,hv,iv'⟩:=iv.get hdj;obtain⟨kd,hkj,hkf⟩:=jC em hdj;obtain⟨u2,hu2,ru⟩:=rv.get hv;rw[hu']at hu2;cases hu2;obtain⟨k,hk1⟩:∃k,ks[j]? = some k:=⟨_,List.getElem?_eq_getElem (by omega)⟩;have ekd:sS kd=some k:=by
   have:=k8 ek (i:=j) (by rw[fE em];omega);rw[List.getD_eq_getElem?_getD,hkj,List.getD_eq_getElem?_getD,hk1]at this;exact this
  have hm:k∈ks:=List.mem_of_getElem? hk1;obtain⟨oI',hoI',hoc,hod⟩:=id hst'.1;have J1:Inv X ((It,oI)::(S,seqObj "list" #[ub,kub] c)::pins) σ H s:=mr I;have hIp':∀q∈X.pn++((S,seqObj "list" #[ub,kub] c)::pins),q.1≠It:=mv hIp hSI;have hSp':∀q∈X.pn++((It,oI')::pins),q.1≠S:=mv hSp hSI.symm;have J2:Inv X ((It,oI')::(S,seqObj "list" #[ub,kub] c)::pins) σ H { s with heap:=h',toks:=tk' } :=
   eN (t':=tk') J1 I0 hIp' (λb o n e=>hk' b o (by simpa using n) e) hoI' (λv z=>by rw[hod]at z;cases z)
  have J3:Inv X ((S,seqObj "list" #[ub,kub] c)::(It,oI')::pins) σ H { s with heap:=h',toks:=tk' }:=mr J2;show wpAny _ X.A.in1 (tryCatch (holding [u] (call (.ref qa) [u])) _>>=_) _ _ _;refine wX (wpAny_tryCatch (wpAny_holding (wpAny_mono (kfn _ _ H N v u d kd J3 x1.hh x1.bn x1.nh (iv'.mono x1.bn) ru hkf) (λku s2 he=>?_) λ_ _ hF=>hF.elim)));obtain⟨kv,H2,J4,rk,N2,x2,ik⟩:=he;have pI4:=J4.pin (It,oI') (mY _ (mZ _ mX));have pS4:=J4.pin (S,seqObj "list" #[ub,kub] c) (mY _ mX);have hit2:s2.heap.IsListIter It l (j+1):=⟨oI',pI4.1,hoc,hod⟩;have t1:=lH J4 rk (ik.mono x2.nh) ekd;have t2:=lH J4 r2 (i2.mono (x2.bn.trans x2.nh)) ekb;have hz:(ks.zip ds).drop j=(k,d)::(ks.zip ds).drop (j+1):=by
   have hj':j<(ks.zip ds).length:=by rw[List.length_zip];omega
   rw[List.drop_eq_getElem_cons hj'];have:(ks.zip ds)[j]? = some (k,d):=List.getElem?_zip_eq_some.mpr ⟨hk1,hdj⟩;rw[List.getElem?_eq_getElem hj']at this;rw[Option.some.inj this]
  rw[hz,M.g1]at hd;obtain⟨r,hlx⟩:=M.cg hc mk hm;show wpAny _ X.A.in1 (tryCatch (holding [u,ku] (richCompare op ku kub>>=_)) _>>=_) _ _ _;refine wX (wpAny_tryCatch (wpAny_holding (wX (M.rc t1 t2 hlx hu ?_))));refine wX (wpAny_holding (wpAny_truthy_bool ?_));refine wX (wpAny_letGo (wY ?_));cases r with
  |true=>
   rw[if_pos hlx]at hd;obtain⟨c2,hc2⟩:∃c2,(s2.heap.update S (Obj.mapSeq λ_=>#[u,ku])).get? S=some (seqObj "list" #[u,ku] c2):=⟨_,get?_update_seq pS4.1 λ_=>#[u,ku]⟩;have u2:=Heap.SameBut.update s2.heap S (Obj.mapSeq λ_=>#[u,ku]);simp only[if_true];refine wX ?_;refine wpAny_updateSeq pS4.1 rfl (wX (wpAny_letGo ?_));rw[M.hn];exact wY ⟨plainId_quiet M.pl _,ih (j+1) _ H2 N2 u ku v kv d kd k c2 oI' (by omega) hlt (eN (t':=s2.toks) J4 S0 hSp' (λb o n e=>(u2.2 b n).trans e) hc2 c7) ⟨oI',(u2.2 It hSI.symm).trans pI4.1,hoc,hod⟩ (x1.trans x2) ru (iv'.mono (x1.bn.trans x2.bn)) rk ik ekd hm hd⟩
  |false=>
   rw[if_neg (by rw[hlx];simp)]at hd;simp only[Bool.false_eq_true,if_false];refine wX (wpAny_letGo ?_);rw[M.hn];exact wY ⟨plainId_quiet M.pl _,ih (j+1) _ H2 N2 ub kub vb kvb db kdb kb c oI' (by omega) hlt J4 hit2 (x1.trans x2) r1 (i1.mono x2.bn) r2 (i2.mono x2.bn) ekb mk hd⟩
end
@[simp] noncomputable def fKK (go:List At×D->List (List At×D)->D)(f:FE)(kf:Env->D->Option D):FE:=λρ=>(f ρ).bind λx=>match x.1 with
 |.lst ds=>(gK (kf ρ) ds).bind λkds=>(cN kds).bind λks=>if da ks=true then match ks.zip ds with
  |[]=>none
  |y::r=>some (go y r,false)
  else none
 |_=>none
@[simp] noncomputable def ph:=fKK jD
@[simp] noncomputable def pi:=fKK jb
section
variable {X:Cx}{e ke:Expr}{p pos kp:Pos}
theorem sZ {nm lp:String}{ns:Str}{op:CmpOp}{lt:List At->List At->Option Bool}{go:List At×D->List (List At×D)->D}(M:MM nm lp ns op lt go){f:FE}{kf:Env->D->Option D}{k:Nat}(hm:X.mg ns=none)(he:JE X e f)(hk:JK X X.A.in1 ke kf)(hr:Room k X.A)(hg:Gl X ns:=by rfl)
  (hes:starEach [e] X.env=[(false,eval e X.env)]:=by rfl) (heb:backTo pos (starEach [e] X.env)=(false,eval e X.env)::backTo pos (starEach [] X.env):=by rfl) (hpl:(backTo pos (starEach [e] X.env)).any (·.1)=false:=by rfl)
  (hall:(backToKw pos (keywordEach [⟨some "key",ke,kp⟩] X.env)).all (·.1.isSome)=true:=by rfl) (hkw:(backToKw pos (keywordEach [⟨some "key",ke,kp⟩] X.env)).any (·.1.isNone)=false:=by rfl)
  (hnm:(backToKw pos (keywordEach [⟨some "key",ke,kp⟩] X.env)).filterMap (·.1)=[("key" : Str)]:=by rfl):
  JE X (.Call (.Name ns p) [e] [⟨some "key",ke,kp⟩] pos) (fKK go f kf):=by
 intro pins s σ H Q I h;obtain⟨B,ρ,d,b,sB,rep,ee,q⟩:=h;obtain⟨⟨xd,xb⟩,ex,ee⟩:=oX ee;cases xd<;>try (cases ee;done)
 rename_i ds;obtain⟨kds,em,ee⟩:=oX ee;obtain⟨ks,ek,ee⟩:=oX ee;split at ee
 ·rename_i hc;split at ee
  ·cases ee
  ·rename_i y au ez;cases ee
   refine wpAny_Call_Name_kw (ia I hg hm M.bt ?_ M.n1 M.n2);refine callWith_kw (thn ((fP he ib hes) pos pins s σ H (λvs H1=>∃v N,vs=[v]/\Ext B N H H1/\Is X.K N v (.lst ds)) I ⟨B,ρ,_,_,sB,rep,ex,λv H1 N x1 i1 _=>⟨v,N,rfl,x1,i1⟩⟩) λus s1 hA=>?_) heb hpl hall hkw;obtain⟨vs1,H1,I1,r1,v,N,rfl,x1,i1⟩:=hA;obtain⟨u,rfl,ru⟩:=ge r1;refine kws_cons (hk pins s1 σ H1 N ρ _ _ I1 x1.nh (rep.mono x1.bn) λqa H2 s2 I2 m2 kfn=>kws_nil ?_);rw[hnm];show wpAny _ _ (call (.builtin nm) [u] [(("key" : Str),.ref qa)]) _ _ _;cases i1
   rename_i l vs hq il;cases ru
   have sN:aQ N H2:=x1.nh.trans m2;obtain⟨its,rv,pl,hz⟩:=I2.list (sN.seq hq);have hvl:vs.length=its.length:=rv.length;have hdl:ds.length=vs.length:=il.length.symm;have hkd:kds.length=ds.length:=fE em;have hks:ks.length=kds.length:=gs ek;have hll:l<s2.heap.objs.size:=by
    obtain⟨ol,hol,_⟩:=pl.isList;exact Heap.lt_size hol
   -- the first item
   obtain⟨k0,d0⟩:=y;have hne:0<its.length:=by
    have:=congrArg List.length ez;rw[List.length_zip,List.length_cons]at this;omega
   have z0:(ks.zip ds)[0]? = some (k0,d0):=by rw[ez];rfl
   obtain⟨hk0,hd0⟩:=List.getElem?_zip_eq_some.mp z0;have hrest:(ks.zip ds).drop 1=au:=by rw[ez];rfl
   refine kmk_tree M.k2 M.p2 M.e2 (M.ka _ _) ?_;show wpAny _ X.A.in1 (Builtin.Builtins.bindParams nm ["key","default"] 0 ⟨[],[(Str.ofString "key",.ref qa)]⟩>>=_) _ _ s2;refine wX (wpAny_of_eq (show Builtin.Builtins.bindParams nm ["key","default"] 0 ⟨[],[(Str.ofString "key",.ref qa)]⟩=pure [some (.ref qa),none]from rfl) ?_);refine wX (wY ?_);refine wX (wpAny_pyIter_list pl.isList ?_);refine wX (wpAny_newList ?_ (Nat.zero_le _));rw[M.hn];let It:Addr:=s2.heap.objs.size;let oI:Obj:={ cls:=.type "list_iterator",data:=.fields #[.ref l,.int 0 0] };let S:Addr:=(s2.heap.push oI).objs.size;have hS:S=s2.heap.objs.size+1:=size_push' ..;have hSI:S≠It:=by rw[hS];exact Nat.ne_of_gt (Nat.lt_succ_self _)
   have J1:Inv X ((It,oI)::pins) σ H2 { s2 with heap:=s2.heap.push oI }:=lG (t':=s2.toks) I2 (λb u q=>Heap.get?_push_of_some _ q) (Nat.le_refl _) (Heap.get?_push_size _ rfl) (λv z=>by cases z);have J2:Inv X ((S,seqObj "list" #[] 0)::(It,oI)::pins) σ H2 { s2 with heap:=(s2.heap.push oI).push (seqObj "list" #[] 0) }:=lG (s:={ s2 with heap:=s2.heap.push oI }) (t':=s2.toks) J1 (λb u q=>Heap.get?_push_of_some _ q) (Nat.le_refl _) (Heap.get?_push_size _ rfl) c7;have I0:X.s₀.heap.objs.size<=It:=I2.sz;have S0:X.s₀.heap.objs.size<=S:=by rw[hS];exact Nat.le_succ_of_le I2.sz
   have hIp:∀q∈X.pn++pins,q.1≠It:=λq hq=>Nat.ne_of_lt (Heap.lt_size (I2.pin q hq).1);have hSp:∀q∈X.pn++pins,q.1≠S:=λq hq=>by rw[hS];exact Nat.ne_of_lt (Nat.lt_succ_of_lt (Heap.lt_size (I2.pin q hq).1))
   have hIl:l≠It:=Nat.ne_of_lt hll;have hSl:S≠l:=by rw[hS];exact Nat.ne_of_gt (Nat.lt_succ_of_lt hll)
   have hh:X.A.handled=none:=hr.hd;have hu:X.A.in1.units<cLine:=by have:=hr.un;show X.A.units+1<cLine;omega
   have pS:=J2.pin (S,seqObj "list" #[] 0) (mY _ mX);have pI:=J2.pin (It,oI) (mY _ (mZ _ mX));obtain⟨its2,rv2,pl2,_⟩:=J2.list (sN.seq hq);have hv2:vs.length=its2.length:=rv2.length;have W:=Walks.list (prog:=X.prog) (w:=X.w) (A:=X.A.in1) hh It l hIl its2.toArray;have hsz:its2.toArray.size=its2.length:=List.size_toArray ..;refine wY ⟨plainId_quiet M.pl _,?_⟩;refine codeAny_builtin M.en ?_;rw[Around.under_plainId M.pl _];show wpAny _ X.A.in1 (seqItems? (.ref S)>>=_) _ _ { s2 with heap:=(s2.heap.push oI).push (seqObj "list" #[] 0) };refine wX (wpAny_seqItems pS.1 rfl ?_);show wpAny _ X.A.in1 (tryCatch (pyNext (.ref It)) _>>=_) _ _ _;refine wX (wpAny_tryCatch (W.item 0 _ _ _ (by rw[hsz];omega) ⟨⟨oI,pI.1,rfl,rfl⟩,pl2.isList⟩ λu h' tk' hP hst' hk'=>?_));have hu':its2[0]? = some u:=by simpa using hP
   obtain⟨v,hv,iv'⟩:=il.get hd0;obtain⟨kd,hkj,hkf⟩:=jC em hd0;obtain⟨u2,hu2,ru⟩:=rv2.get hv;rw[hu']at hu2;cases hu2;have ekd:sS kd=some k0:=by
    have:=k8 ek (i:=0) (by omega);rw[List.getD_eq_getElem?_getD,hkj,List.getD_eq_getElem?_getD,hk0]at this;exact this
   obtain⟨oI',hoI',hoc,hod⟩:=id hst'.1;have hIp':∀q∈X.pn++((S,seqObj "list" #[] 0)::pins),q.1≠It:=mv hIp hSI;have hSp':∀q∈X.pn++((It,oI')::pins),q.1≠S:=mv hSp hSI.symm;have J3:=mr (eN (t':=tk') (mr J2) I0 hIp' (λb o n e=>hk' b o (by simpa using n) e) hoI' (λv z=>by rw[hod]at z;cases z));show wpAny _ X.A.in1 (tryCatch (holding [u] (call (.ref qa) [u])) _>>=_) _ _ _;refine wX (wpAny_tryCatch (wpAny_holding (wpAny_mono (kfn _ _ H2 N v u d0 kd J3 (.refl _) (.refl _) sN iv' ru hkf) (λku s3 he=>?_) λ_ _ hF=>hF.elim)));obtain⟨kv,H3,J4,rk,N3,x3,ik⟩:=he;have pI4:=J4.pin (It,oI') (mY _ (mZ _ mX));have pS4:=J4.pin (S,seqObj "list" #[] 0) (mY _ mX);obtain⟨c2,hc2⟩:∃c2,(s3.heap.update S (Obj.mapSeq λ_=>#[u,ku])).get? S=some (seqObj "list" #[u,ku] c2):=⟨_,get?_update_seq pS4.1 λ_=>#[u,ku]⟩;have u2:=Heap.SameBut.update s3.heap S (Obj.mapSeq λ_=>#[u,ku]);show wpAny _ X.A.in1 (updateSeq S (λ_=>#[u,ku])>>=_) _ _ _;refine wX ?_;refine wpAny_updateSeq pS4.1 rfl ?_;rw[M.hn];have xx:Ext B N H H2:=x1.trans (.grow x1.nh m2);refine wY ⟨plainId_quiet M.pl _,Co M (S:=S) (It:=It) hh hu kfn ⟨qa,rfl⟩ hq il em ek hc S0 I0 hSp hIp hSI hSl hIl (λs' H' N' v' u' J' x' r' i'=>⟨v',H',J',r',q _ _ _ (xx.trans x') i' (by simp)⟩) _ 1 _ H3 N3 u ku v kv d0 kd k0 c2 oI' rfl (by omega)
    (eN (t':=s3.toks) J4 S0 hSp' (λb o n e=>(u2.2 b n).trans e) hc2 c7) ⟨oI',(u2.2 It hSI.symm).trans pI4.1,hoc,hod⟩ x3 ru (iv'.mono x3.bn) rk ik ekd (List.mem_of_getElem? hk0) (by rw[hrest])⟩
 ·cases ee
end
section
variable {X:Cx}
@[simp] noncomputable def tLt:D->D->Option (D×Bool)
 |.tup xs,.tup ys=>(cM xs).bind λas=>(cM ys).bind λbs=>(aJ as bs).map λr=>(.bl r,false)
 |_,_=>none
@[simp] noncomputable def tGt:D->D->Option (D×Bool)
 |.tup xs,.tup ys=>(cM xs).bind λas=>(cM ys).bind λbs=>(aJ bs as).map λr=>(.bl r,false)
 |_,_=>none
theorem D4 (hu:X.A.units+40<cLine):OpR X (compareOp .Lt) (rD X.K tLt):=by
 intro pins s σ H x y v u Q I rx ry q;obtain⟨B,dx,dy,d,b,sB,ix,iy,e,q⟩:=q;cases dx<;>try (simp[tLt]at e;done)
 cases dy<;>try (simp[tLt]at e;done)
 simp only[tLt]at e;obtain⟨as,e1,e⟩:=oX e;obtain⟨bs,e2,e⟩:=oX e;obtain⟨r,e3,e⟩:=oY e;cases e
 show wpAny _ _ (richCompare .Lt v u) _ _ _;exact Ab (lH I rx (ix.mono sB) e1) (lH I ry (iy.mono sB) e2) e3 (by omega) ⟨.bl r,H,I,rfl,q.one sB (.bl r)⟩
end
section
variable {X:Cx}{a b:Expr}{p pos:Pos}
@[simp] noncomputable def lI (f g:FE):FA:=λρ=>(f ρ).bind λx=>(g ρ).bind λy=>match x.1,y.1 with
 |.int i,.int j=>if -1000<=i/\i<=1000/\-1000<=j/\j<=1000 then some (de i (j - i).toNat)else none
 |_,_=>none
theorem ym {tg:Expr}{f g:FE}(hm:X.mg "range" = none)(h:JE X a f)(h':JE X b g)(hg:Gl X "range":=by rfl)(hs:starEach [a,b] X.env=[(false,eval a X.env),(false,eval b X.env)]:=by rfl)(hs2:starEach [b] X.env=[(false,eval b X.env)]:=by rfl):PI X tg (.Call (.Name "range" p) [a,b] [] pos) (tDR X.K (lI f g)):=by
 refine PI.to (xC hg hm (aa h (aa h' af hs2) (by rw[hs,hs2])) hs hs2) λσ H R q=>?_;obtain⟨B,ρ,ds,sB,r,e',q⟩:=q;obtain⟨⟨x,xb⟩,ex,e'⟩:=oX e';obtain⟨⟨y,yb⟩,ey,e'⟩:=oX e';match x,y,ex,ey,e' with
 |.int i,.int j,ex,ey,e'=>
  dsimp only at e';split at e'
  ·rename_i hj;cases e'
   refine⟨B,ρ,[.int i,.int j],sB,r,by simp[ac,ah,ex,ey],λvs H1 N1 x1 i1=>?_⟩;cases i1 with
   |cons i1 i2=>
    cases i1
    cases i2 with
    |cons i2 i3=>
     cases i2;cases i3
     exact⟨i,j,rfl,by omega,q _ H1 N1 x1 λ_=>sk i (j - i).toNat⟩
  ·cases e'
end
@[simp] noncomputable def HW:List D->Option (D×Bool)
 |[.tup xs,.tup ys]=>(cM xs).bind λas=>(cM ys).bind λbs=>(aJ as bs).map λr=>(if r=true then .tup ys else .tup xs,false)
 |_=>none
end DL
namespace DL
open PySem PySem.Spec PyProof.Rows L2
section
variable {X:Cx}
noncomputable def mw:D->D->Option (D×Bool)
 |.tup xs,.tup ys=>if xs.isEmpty=true then some (.tup ys,false)else none
 |_,_=>none
theorem Cp:OpR X (binaryOp .Add) (rD X.K mw):=by
 intro pins s σ H x y v u Q I rx ry q;obtain⟨B,dx,dy,d,bb,sB,ix,iy,ee,q⟩:=q;cases ix<;>cases iy<;>try (simp[mw]at ee;done)
 rename_i l vs ds h hl l' ws es h' hl';simp only[mw]at ee;split at ee
 ·rename_i hz;cases ee
  cases rx
  cases ry
  obtain⟨its,r1,p1,_⟩:=I.tuple (aY sB h);obtain⟨its2,r2,p2,_⟩:=I.tuple (aY sB h');have he:its.toArray.isEmpty=true:=by
   have e1:=hl.length;have e2:=r1.length;have e3:=List.isEmpty_iff.mp hz;rw[e3]at e1;cases its with
   |nil=>rfl
   |cons a b=>rw[e1]at e2;simp at e2
  obtain⟨⟨cls,dd,data,sl⟩,ho,hc,n,hd⟩:=id p1;obtain⟨⟨cls2,dd2,data2,sl2⟩,ho2,hc2,n2,hd2⟩:=id p2;dsimp only at hc hd hc2 hd2;subst hc;subst hd;subst hc2;subst hd2;exact concat_meets ⟨_,ho,rfl⟩ ⟨_,ho2,rfl⟩ noFill_tuple_add seq_tuple_add PySem.F.slot_tuple_add PySem.F.entry_tuple_add (PySem.F.args_tuple_add_2 _ _)
   (tuple_addW0 l l' its.toArray its2.toArray n n2 dd dd2 sl sl2 he) ⟨ho,ho2,⟨.ref l',H,I,rfl,q.one sB (.tup h' hl')⟩⟩
 ·cases ee
@[simp] noncomputable def wA:D->D->Option (D×Bool)
 |.tup xs,.tup ys=>if xs.length+ys.length<=sizeLine then some (.tup (xs++ys),false)else none
 |_,_=>none
theorem Cq (xs ys:List D)(z:xs.length+ys.length<=sizeLine):orD lV mw (.tup xs) (.tup ys)=some (.tup (xs++ys),false):=by
 cases xs with
 |nil=>
  have:lV (.tup []) (.tup ys)=none:=if_neg (λh=>by cases h.2);show(match lV (.tup []) (.tup ys) with|some z=>some z|none=>mw (.tup []) (.tup ys))=_;rw[this];rfl
 |cons a l=>
  have:lV (.tup (a::l)) (.tup ys)=some (.tup (a::l++ys),false):=if_pos ⟨z,rfl⟩;show(match lV (.tup (a::l)) (.tup ys) with|some z=>some z|none=>mw (.tup (a::l)) (.tup ys))=_;rw[this]
theorem Ac:OpR X (binaryOp .Add) (rD X.K wA):=by
 refine ga (r:=rD X.K (orD lV mw)) (kj z8 Cp) λx y H Q q=>?_;obtain⟨B,dx,dy,d,bb,sB,ix,iy,ee,q⟩:=q;refine⟨B,dx,dy,d,bb,sB,ix,iy,?_,q⟩;cases ix<;>try (cases ee;done)
 cases iy<;>try (cases ee;done)
 rename_i l vs ds h hl l' ws es h' hl';simp only[wA]at ee;split at ee
 ·rename_i hz;rw[Cq _ _ hz];exact ee
 ·cases ee
end
section
variable {X:Cx}
@[simp] noncomputable def Hd:List D->Option (D×Bool)
 |[d,.tup [.ty n,.ty m]]=>if G9 d=true then none else if n = "list"/\m = "tuple" then some (.bl (im d == "list" || im d == "tuple"),false)else none
 |_=>none
end
@[simp] noncomputable def jE:D->Option Key
 |.int i=>some (.inl i)
 |.str x=>some (.inr x)
 |_=>none
theorem Ad {K:PySem.W.Frag}{B:Hp}{v:V}{d:D}{k:Key}(i:Is K B v d)(e:jE d=some k):v=kV k:=by
 cases i<;>simp only[jE]at e<;>cases e<;>rfl
noncomputable def cw {κ:Type}[DecidableEq κ]:List κ->List D->κ->Option D
 |k'::ks,d::ds,k=>if k'=k then some d else cw ks ds k
 |_,_,_=>none
theorem vh {κ:Type}[DecidableEq κ]{K:PySem.W.Frag}{B:Hp}(k:κ):∀ {ks:List κ}{vs:List V}{ds:List D},ks.length=vs.length->IsL K B vs ds ->
  (∃v d,jh (ks.zip vs) k=some v/\cw ks ds k=some d/\Is K B v d)∨(jh (ks.zip vs) k=none/\cw ks ds k=none)
 |[],vs,ds,_,_=>.inr ⟨by cases vs<;>rfl,by cases ds<;>rfl⟩
 |k'::ks,[],_,h,_=>by simp at h
 |k'::ks,v::vs,_,h,.cons i is=>by
  rw[List.zip_cons_cons];unfold cw;by_cases e:k'=k
  ·rw[if_pos e];exact .inl ⟨v,_,jy (p:=(k',v)) e,rfl,i⟩
  ·rw[if_neg e,jz (p:=(k',v)) e];exact vh k (by simpa using h) is
section
variable {X:Cx}{o e i:Expr}{pos:Pos}
@[simp] noncomputable def Ae:D->D->Option (D×Bool)
 |.dk ks vs,y=>(jE y).map λk=>((cw ks vs k).getD .non,false)
 |_,_=>none
theorem Af {apos cpos:Pos}{fo fe:FE}(hu:X.A.units+1<cLine)(ho:JE X o fo)(he:JE X e fe)(m:M1 X o "get" apos e cpos):JE X (.Call (.Attribute o "get" apos) [e] [] cpos) (f2 Ae fo fe):=by
 refine PE.to (rJ hu ho he m) λσ H Q q=>?_;obtain⟨B,ρ,d,bb,sB,r,ee,q⟩:=q;obtain⟨x,ex,ee⟩:=oX ee;obtain⟨y,ey,ee⟩:=oX ee;refine⟨B,ρ,x.1,x.2,sB,r,ex,λv H1 N1 x1 i1 ff=>?_⟩;obtain⟨xd,xb⟩:=x;cases i1 with
 |@dk a ks vs ds ob h hl hs=>
  simp only[Ae]at ee;obtain⟨k,hk,ee⟩:=oY ee;cases ee
  refine⟨a,rfl,.inl ⟨_,_,.inl (x1.nh _ _ h)⟩,N1,ρ,y.1,y.2,x1.nh,r.mono x1.bn,ey,λv2 H2 N2 x2 i2 _=>?_⟩;have hv:=Ad i2 hk;subst hv;refine⟨jh (ks.zip vs) k,.inl ⟨_,k,_,.inl (x2.nh _ _ (x2.bn _ _ h)),rfl,rfl⟩,?_⟩;have hs2:=hs.mono x2.bn;rcases vh k hl hs2 with⟨v,d',e1,e2,i3⟩|⟨e1,e2⟩
  ·rw[e1];rw[e2]at q;exact(q.into (x1.trans x2)).one x2.nh i3
  ·rw[e1];rw[e2]at q;exact(q.into (x1.trans x2)).one x2.nh .non
 |_=>simp[Ae]at ee
@[simp] noncomputable def ixK:D->D->Option (D×Bool)
 |.dk ks vs,y=>(jE y).bind λk=>(cw ks vs k).map λd=>(d,false)
 |_,_=>none
@[simp] noncomputable def inK:D->D->Option (D×Bool)
 |y,.dk ks vs=>(jE y).map λk=>(.bl (cw ks vs k).isSome,false)
 |_,_=>none
@[simp] noncomputable def HJ:D->D->Option (D×Bool)
 |y,.dk ks vs=>(jE y).map λk=>(.bl (!(cw ks vs k).isSome),false)
 |_,_=>none
end
noncomputable def dO {κ:Type}[DecidableEq κ](ks:List κ)(k:κ):List κ:=if k∈ks then ks else ks++[k]
noncomputable def dP {κ α:Type}[DecidableEq κ](ks:List κ)(xs:List α)(k:κ)(x:α):List α:=if k∈ks then List.zipWith (λk' x'=>if k'=k then x else x') ks xs else xs++[x]
theorem wB {κ:Type}[DecidableEq κ](k:κ):∀ {ks:List κ}{vs:List V},ks.length=vs.length->((ks.zip vs).any λkv=>decide (kv.1=k))=decide (k∈ks)
 |[],_,_=>by simp
 |k'::ks,[],h=>by simp at h
 |k'::ks,v::vs,h=>by
  have ih:=wB k (ks:=ks) (vs:=vs) (by simpa using h);rw[List.zip_cons_cons,List.any_cons,ih];by_cases e:k'=k
  ·simp[e]
  ·have e':¬k=k':=λz=>e z.symm;simp[e,e']
theorem wC {κ:Type}[DecidableEq κ](k:κ)(v:V):∀(ks:List κ)(vs:List V),(ks.zip vs).map (λkv=>if kv.1=k then (kv.1,v)else kv)=ks.zip (List.zipWith (λk' x'=>if k'=k then v else x') ks vs)
 |[],_=>by simp
 |_::_,[]=>by simp
 |k'::ks,w::vs=>by
  rw[List.zip_cons_cons,List.map_cons,wC k v ks vs,List.zipWith_cons_cons,List.zip_cons_cons];by_cases e:k'=k
  ·simp[e]
  ·simp[e]
theorem wD {κ:Type}[DecidableEq κ]{ks:List κ}{vs:List V}(hl:ks.length=vs.length)(k:κ)(v:V):jx (ks.zip vs) k v=(dO ks k).zip (dP ks vs k v):=by
 unfold jx dO dP;rw[wB k hl];by_cases h:k∈ks
 ·rw[if_pos (decide_eq_true h),if_pos h,if_pos h,wC]
 ·rw[if_neg (by simpa using h),if_neg h,if_neg h,List.zip_append hl];rfl
theorem qz {κ α:Type}[DecidableEq κ]{ks:List κ}{xs:List α}(hl:ks.length=xs.length)(k:κ)(x:α):(dO ks k).length=(dP ks xs k x).length:=by
 unfold dO dP;split<;>simp[hl]
theorem IsL.zipWith {κ:Type}[DecidableEq κ]{K:PySem.W.Frag}{B:Hp}{k:κ}{v:V}{d:D}(i:Is K B v d):∀ {ks:List κ}{vs:List V}{ds:List D},IsL K B vs ds->IsL K B (List.zipWith (λk' x'=>if k'=k then v else x') ks vs) (List.zipWith (λk' x'=>if k'=k then d else x') ks ds)
 |[],_,_,_=>by simpa using IsL.nil
 |_::_,_,_,.nil=>by simpa using IsL.nil
 |k'::ks,_,_,.cons h t=>by
  rw[List.zipWith_cons_cons,List.zipWith_cons_cons];refine .cons ?_ (IsL.zipWith i t);by_cases e:k'=k
  ·rw[if_pos e,if_pos e];exact i
  ·rw[if_neg e,if_neg e];exact h
theorem IsL.put {κ:Type}[DecidableEq κ]{K:PySem.W.Frag}{B:Hp}{k:κ}{v:V}{d:D}(i:Is K B v d){ks:List κ}{vs:List V}{ds:List D}(h:IsL K B vs ds):IsL K B (dP ks vs k v) (dP ks ds k d):=by
 unfold dP;split
 ·exact h.zipWith i
 ·exact h.append (.cons i .nil)
section
variable {K:PySem.W.Frag}{E:Ends}{σ:St}{H:Hp}
noncomputable def Ag (i:Nat):FS:=λρ=>some (.nx (ρ.set i (some (.dt [] [],true))))
theorem StN.newBox {B0 H0 N:Hp}{ρ:Env}(s:StN K B0 H0 N H σ ρ){p:Addr}{ob:HO}{dd:D}(i:Nat)(hp:H p=none)(hb:∀C,Bx K C ob dd):StN K B0 H0 (upd N p ob) (upd H p ob) (σ.set i (some (.ref p))) (ρ.set i (some (dd,true))):=by
 have x:=Ext.laid (o:=ob) s.ext.nh hp;have s1:=s.grow x;have hNp:N p=none:=s.ext.nh.free hp;have hop:¬own σ ρ p:=λz=>by obtain⟨ws,⟨q,_⟩,_⟩:=s.owned z;rw[hNp]at q;cases q
 have c:aQ (cut N (own σ ρ)) (cut (upd N p ob) (λb=>own σ ρ b∨b=p)):=d7 λb u e q=>⟨x.bn _ _ e,λz=>z.elim q λz=>by subst z;rw[hNp]at e;cases e⟩;refine s1.bindOwn aF (s.ext.hh.free hp) (λj e q z=>hop ⟨j,e,q,z⟩) (λj e _ q=>?_) (λj e _ q=>?_) (hb _)
 ·obtain⟨w,h1,h2⟩:=s.sh j e q;exact⟨w,h1,h2.mono c⟩
 ·obtain⟨a',o',h1,h2,_,h4⟩:=s.ow j e q;exact⟨a',o',h1,x.bn _ _ h2,h4.mono c⟩
theorem Ah {i:Nat}(q:tDS K (Ag i) E σ H):xz zf (iU i) E σ H:=by
 obtain⟨B0,H0,ρ,r,⟨N,s⟩,e,p⟩:=q;cases e
 exact λa ha=>p _ _ ⟨_,s.newBox i ha λ_=>.dt (ks:=[]) (vs:=[]) rfl .nil⟩
end
section
variable {X:Cx}{pos:Pos}{e k:Expr}
theorem Cr {i:Nat}{x:Str}{p dp:Pos}(hN:X.N.Nodup)(hi:X.N[i]? = some x:=by rfl)(hx:Loc X.env.scope x:=by first|exact Or.inl rfl|exact Or.inr rfl)(hs:swapsWith (.Dict [] [] dp) (some (.Name x p)) pos.line X.env=pure false:=by rfl)
  (hf:X.fn x=true∨X.env.scope.names.lookup x=some .local:=by first|exact .inl rfl|exact .inr rfl):JS X (.Assign [.Name x p] (.Dict [] [] dp) pos) (Ag i):=PS.to (yN hN hi hx zg hs hf) λ_ _ _ q=>Ah q
end
section
variable {prog:Program}{w:World}{A:Around}{E:Value->Shared->Prop}{s:Shared}
abbrev Fa (h:Heap)(z TI TO T0:Addr)(f:Bool):Prop:=h.get? z=some { cls:=.type "zip",dict:=none,data:=.fields #[rawInt T0,.bool f,.bool false,.ref TI,.ref TO],slots:=#[] }
end
def ZSt (k1 k2:Bool)(z TI TO i1 i2 l1 l2 S:Addr)(i:Nat)(h:Heap):Prop :=
 IsPair h TI (.ref i1) (.ref i2)/\KIt k1 h i1 l1 i/\KIt k2 h i2 l2 i/\((IsZip h z TI TO .none/\∃a b,IsPair h TO a b)∨∃T0 f oT oO,Fa h z TI TO T0 f/\h.get? T0=some oT/\T0∉[z,TI,TO,i1,i2]/\T0≠S/\h.get? TO=some oO)
section
variable {prog:Program}{w:World}{A:Around}{E:Value->Shared->Prop}{s:Shared}{k1 k2:Bool}{z TI TO i1 i2 l1 l2 S:Addr}{j:Nat}{xs ys:Array Value}
theorem ZSt.ty {h:Heap}(st:ZSt k1 k2 z TI TO i1 i2 l1 l2 S j h):∃o,h.get? z=some o/\o.cls=.type "zip":=by
 obtain⟨_,_,_,a4⟩:=st;rcases a4 with⟨b1,_⟩|⟨T0,f,oT,oO,b1,_⟩
 ·exact⟨_,b1,rfl⟩
 ·exact⟨_,b1,rfl⟩
end
theorem mz {H:Hp}{a:Addr}{o:HO}(h:H a=none):aQ H (upd H a o):=λb u e=>by rw[aH (aR e h)];exact e
@[simp] noncomputable def fLZ (fa fb:FE):FE:=λρ=>(HE fa fb ρ).map λds=>(.lst ds,true)
end DL
namespace DL
open PySem PySem.Spec PyProof.Rows
theorem q8:typeLookup (.type "list") "keys" = pure none:=by rw[typeLookup_type,builtinLookup_eq_fast];kernel_rfl
theorem yn {prog:Program}{w:World}{A:Around}{E:Value->Shared->Prop}{s:Shared}{a:Addr}{xs:Array Value}{k:Nat}{sl:Array (Option Value)}{Q:Option Value->Shared->Prop}
  (hx:s.heap.get? a=some { cls:=.type "list",dict:=none,data:=.seq xs k,slots:=sl }) (hA:A.handled=none)
  (h:∀h' tk,(∀b o,s.heap.get? b=some o->h'.get? b=some o)->Q none { s with heap:=h',toks:=tk }):
  wpAny (model prog w) A (getAttr? (.ref a) "keys") Q E s:=by
 obtain⟨hp,g,d,tk,os⟩:=s;have hT:∀tk',(⟨hp,g,d,tk',os⟩:Shared).TypeIs (.ref a) "list":=λ_=>⟨_,hx,rfl⟩;have f1:=sub_AttributeError;have f3:=PySem.F.slot_list_getattribute.lookup;have f4:=PySem.F.slot_list_getattribute.bind (.ref a);have f5:=am_list_getattr_none;unfold getAttr? getAttrBy? getAttrBy;repeat (any_goals (first|assumption|exact hT _|((with_reducible show wpAny _ _ (call (Value.builtin "list.__getattribute__") _ _) _ _ _);refine call_meets PySem.F.slot_list_getattribute (hT _) am_entry_list_getattribute (PySem.F.args_list_getattribute_2 _ _) (meets_getattribute_miss_list a xs k sl "keys" _ q8 (by decide) (by decide)) ⟨hx,hA,λh' tk' e hx'=>?_⟩)|wp_step))
 obtain⟨t',u',he⟩:=hx'.there;show wpAny _ _ (getattributeRaised _ _ _ _ _ _ _) _ _ _;unfold getattributeRaised;repeat (any_goals (first|assumption|wp_step))
 exact h _ _ hx'.of.keeps
end DL
namespace DL
open PySem PySem.Spec PyProof.Rows L2
noncomputable def gc:List D->Option (List (Key×D))
 |[]=>some []
 |.tup [k,v]::r=>(jE k).bind λkk=>(gc r).map λl=>(kk,v)::l
 |_=>none
noncomputable def m4 (a:List Key×List D)(p:Key×D):List Key×List D:=(dO a.1 p.1,dP a.1 a.2 p.1 p.2)
noncomputable def b7 (l:List (Key×D)):List Key×List D:=l.foldl m4 ([],[])
theorem m5 (l:List (Key×D))(p:Key×D):b7 (l++[p])=m4 (b7 l) p:=by unfold b7;rw[List.foldl_append];rfl
theorem m6:∀ {ds:List D}{l:List (Key×D)},gc ds=some l->l.length=ds.length
 |[],l,h=>by simp[gc]at h;subst h;rfl
 |d::r,l,h=>by
  unfold gc at h;split at h
  ·rename_i h0;cases h0
  ·rename_i k v r' h0;cases h0
   obtain⟨kk,_,h⟩:=oX h;obtain⟨l',h1,rfl⟩:=oY h;simp[m6 h1]
  ·cases h
theorem m7:∀ {ds:List D}{l:List (Key×D)}{i:Nat}{d:D},gc ds=some l->ds[i]? = some d->∃k v kk,d=.tup [k,v]/\jE k=some kk/\l[i]? = some (kk,v)
 |[],l,i,d,_,h=>by simp at h
 |d0::r,l,i,d,h,hi=>by
  unfold gc at h;split at h
  ·rename_i h0;cases h0
  ·rename_i k v r' h0;cases h0
   obtain⟨kk,h2,h⟩:=oX h;obtain⟨l',h1,rfl⟩:=oY h;cases i with
   |zero=>simp at hi;subst hi;exact⟨k,v,kk,rfl,h2,rfl⟩
   |succ i=>simp only[List.getElem?_cons_succ]at hi ⊢;exact m7 h1 hi
  ·cases h
theorem Ai (l:List (Key×D)):∀a:List Key×List D,a.1.length=a.2.length->(l.foldl m4 a).1.length=(l.foldl m4 a).2.length/\(l.foldl m4 a).1.length<=a.1.length+l.length:=by
 induction l with
 |nil=>intro a h;exact⟨h,Nat.le_refl _⟩
 |cons p l ih=>
  intro a h;have h1:(m4 a p).1.length<=a.1.length+1:=by
   show(dO _ _).length<=_;unfold dO;split<;>simp
  have:=ih (m4 a p) (qz h _ _);rw[List.foldl_cons,List.length_cons];exact⟨this.1,by omega⟩
theorem yo (l:List (Key×D)):(b7 l).1.length=(b7 l).2.length/\(b7 l).1.length<=l.length:=by
 have:=Ai l ([],[]) rfl;exact⟨this.1,Nat.le_trans this.2 (by simp)⟩
theorem pj:entryFor table "dict.update.loop" = some Builtin.«dict.update.loop»:=entryFor_of_tree (by kernel_rfl)
theorem iL:plainId "dict.update.loop" = true:=by decide +kernel
section
variable {X:Cx}{pins:List (Addr×Obj)}{σ:St}{B H0:Hp}{A:Around}{R:Result->Shared->Prop}{it l d:Addr}{us:List V}{ds:List D}{kds:List (Key×D)}
theorem vi (hA:A.handled=none)(nl:l≠it)(nd:d≠it)(hl:SqL X.K B l us)(il:IsL X.K B us ds)(hp:gc ds=some kds)
  (hR:∀Hc N vs ob s',Inv X pins σ (upd Hc d (.dK ((b7 kds).1.zip vs) ob)) s'->Hc d=none->Ext B N H0 Hc->(b7 kds).1.length=vs.length->IsL X.K N vs (b7 kds).2->R (.ok (.ret .none)) s'):
  ∀(k i:Nat)(tk:Nat)(s:Shared)(Hc N:Hp)(vs:List V)(ob:Obj),ds.length - i=k->i<=ds.length->Inv X pins σ (upd Hc d (.dK ((b7 (kds.take i)).1.zip vs) ob)) s->Hc d=none->Ext B N H0 Hc->jZ X pins (upd Hc d (.dK ((b7 (kds.take i)).1.zip vs) ob)) it ->
   s.heap.IsListIter it l i->(b7 (kds.take i)).1.length=vs.length->IsL X.K N vs (b7 (kds.take i)).2 ->
   codeAny (model X.prog X.w) A (.builtin "dict.update.loop" ⟨[.ref d,.ref it,.int i tk,.none],[]⟩) R s:=by
 have n1:=il.length;have n2:=m6 hp;intro k;induction k with
 |zero=>
  intro i tk s Hc N vs ob hk hi I hc xt fp st hz hv;have hin:i=ds.length:=by omega
  have sm:aQ B (upd Hc d (.dK ((b7 (kds.take i)).1.zip vs) ob)):=(xt.bn.trans xt.nh).trans (mz hc);obtain⟨its,r1,p1,z1⟩:=I.list (sm.seq hl);have e1:=r1.length;refine codeAny_builtin pj ?_;rw[Around.under_plainId iL _];show wpAny _ A.in1 (pyNext (.ref it)>>=_) _ _ s;refine wX (wpAny_pyNext_list_end (A:=A.in1) hA st p1.isList (by simp;omega) λh' hk'=>?_);show wpAny _ _ (Builtin.Dict.addKeywords d []>>=_) _ _ _;refine wX (wY (wY ?_));have I1:=qj (t':=s.toks) (h':=h') (ch:=[it]) I (λb hb=>by rw[List.mem_singleton.mp hb];exact fp) λb o hb e=>hk' b o (λq=>hb (by simp[q])) e;rw[hin,←n2,List.take_length]at I1 hz hv;exact hR Hc N vs ob _ I1 hc xt hz hv
 |succ k ih=>
  intro i tk s Hc N vs ob hk hi I hc xt fp st hz hv;have hlt:i<ds.length:=by omega
  have sm:aQ B (upd Hc d (.dK ((b7 (kds.take i)).1.zip vs) ob)):=(xt.bn.trans xt.nh).trans (mz hc);obtain⟨its,r1,p1,z1⟩:=I.list (sm.seq hl);obtain⟨kd,vd,kk,ed,ek,el⟩:=m7 hp (List.getElem?_eq_getElem hlt);obtain⟨x,hx,ix⟩:=il.get (List.getElem?_eq_getElem hlt);rw[ed]at ix;cases ix with
  |@tup T xs _ hT hxs=>
   cases hxs with
   |cons ik r=>
    cases r with
    |cons iv r=>
     cases r
     rename_i xk xv;have exk:=Ad ik ek;subst exk;obtain⟨u,hu,ru⟩:=r1.get hx;cases (show u=Value.ref T from ru)
     refine codeAny_builtin pj ?_;rw[Around.under_plainId iL _];show wpAny _ A.in1 (pyNext (.ref it)>>=_) _ _ s;refine wX (wpAny_pyNext_list_item (A:=A.in1) st p1.isList (x:=.ref T) (by simpa using hu) λh' st' hs=>?_);have I1:=qj (t':=s.toks) (h':=h') (ch:=[it]) I (λb hb=>by rw[List.mem_singleton.mp hb];exact fp) λb o hb e=>hs.extBut b o (λq=>hb (by simp[q])) e;obtain⟨ps,r2,p2,z2⟩:=I1.tuple (aY sm hT);obtain⟨uk,uv,rfl,rk,rv⟩:=r2.two;have hpr:Shared.TypeIs { s with heap:=h' } (.ref T) "tuple":=by obtain⟨o,e,c,_⟩:=p2;exact⟨o,e,c⟩
     dsimp only;refine wX (wpAny_holding (wX (wpAny_tryCatch ?_)));unfold Builtin.Dict.pairItems;refine wX (wpAny_typeOf hpr ?_);obtain⟨oT,eT,cT,nT,dT⟩:=p2;rw[if_pos (by decide)];refine wX (wpAny_seqItems eT dT (wY ?_));show wpAny _ _ (holding [uk,uv] (dictSet d uk uv)) _ _ _;obtain⟨zz,hsm,vs0,rel,dd⟩:=rH I1.hok (a:=d) aF;have hz0:vs0.length<=sizeLine:=by rw[←rel.length];exact zz
     have nk:((b7 (kds.take i)).1.zip vs).length<sizeLine:=by
      have a1:=(yo (kds.take i)).2;have a2:=z1;rw[List.length_take]at a1;rw[List.length_zip];omega
     refine wpAny_holding (wpAny_dictSet_pairs (hsz:=hz0) (vU rk) dd λh2 dd2 hs2=>?_);have hl2:(jx ((b7 (kds.take i)).1.zip vs) kk xv).length<=sizeLine:=by have:=ig ((b7 (kds.take i)).1.zip vs) kk xv;omega
     obtain⟨ob2,he2⟩:∃q,h2.get? d=some q:=let ⟨q,_,_,hq,_⟩:=dd2;⟨q,hq⟩;have I2:=pU (t':=s.toks+1) I1 (a:=d) (ob:=.dK (jx ((b7 (kds.take i)).1.zip vs) kk xv) ob2) (by rw[aF];exact True.intro) hs2 ⟨_,he2⟩ (zc hl2 hsm (rel.put kk rv) dd2 he2);rw[Be,wD hz]at I2;have et:kds.take (i+1)=kds.take i++[(kk,vd)]:=by rw[List.take_add_one,el];rfl
     have ed1:(b7 (kds.take (i+1))).1=dO (b7 (kds.take i)).1 kk:=by rw[et,m5];rfl
     have ed2:(b7 (kds.take (i+1))).2=dP (b7 (kds.take i)).1 (b7 (kds.take i)).2 kk vd:=by rw[et,m5];rfl
     refine wY ⟨plainId_quiet iL _,?_⟩;refine ih (i+1) 0 _ Hc N (dP (b7 (kds.take i)).1 vs kk xv) ob2 (by omega) hlt (by rw[ed1];exact I2) hc xt ?_ ?_ ?_ ?_
     ·obtain⟨f0,f1⟩:=fp;refine⟨?_,f1⟩;rw[aH nd.symm]at f0 ⊢;exact f0
     ·exact st'.at λo e=>(hs2.2 it nd.symm).trans e
     ·rw[ed1];exact qz hz _ _
     ·rw[ed2];exact hv.put (iv.mono xt.bn)
end
@[simp] noncomputable def gL:List D->Option (D×Bool)
 |[.lst ds]=>(gc ds).map λkds=>(.dk (b7 kds).1 (b7 kds).2,false)
 |_=>none
theorem Fb:bootBuiltins "dict" = some (.type "dict"):=by decide +kernel
section
variable {X:Cx}
theorem Fc (hcal:X.calm=true):bB X (.type "dict") (rDA X.K gL):=by
 intro pins s σ H xs us Q I r h;obtain⟨B,dds,d0,bb,sB,i0,ee,q⟩:=h;cases i0 with
 |nil=>simp[gL]at ee
 |cons i1 i2=>
  cases i2 with
  |cons _ _=>cases i1<;>simp[gL]at ee
  |nil=>
   cases i1<;>try (simp[gL]at ee;done)
   rename_i l ws ds hl il;simp only[gL]at ee;obtain⟨kds,hp,ee⟩:=oY ee;cases ee
   obtain⟨u,rfl,rx⟩:=ge r;cases rx
   have hA:X.A.handled=none:=I.ok.hd hcal;refine callType_codes (Q₁:=λobj s₁=>obj=.ref s.heap.objs.size/\s₁={ s with heap:=s.heap.push { cls:=.type "dict",data:=.dict #[] } }) PySem.F.kt_called_dict (PySem.F.kt_typeCall_dict_1 _) PySem.F.entry_dict_init (kt_code_dict_new _ ⟨rfl,rfl⟩) ?_;rintro obj s₁ ⟨rfl,rfl⟩;have I1:Inv X pins σ (upd H s.heap.objs.size (.dK [] { cls:=.type "dict",data:=.dict #[] })) { s with heap:=s.heap.push { cls:=.type "dict",data:=.dict #[] } }:=I.laid (t':=s.toks) (λb o e=>Heap.get?_push_of_some _ e) (Nat.le_refl _) (zd s.heap I.big);have hc0:H s.heap.objs.size=none:=I.fresh;have hT:Shared.TypeIs { s with heap:=s.heap.push { cls:=.type "dict",data:=.dict #[] } } (.ref s.heap.objs.size) "dict":=⟨_,Heap.get?_push_size _ rfl,rfl⟩;refine⟨hT,PySem.F.args_dict_init_2 _ _,?_⟩;unfold Builtin.«dict.__init__»;refine wX ?_;unfold Builtin.Dict.selfAndRest;refine wX (wpAny_notOrdered_dict hT ?_);show wpAny _ _ (pure (s.heap.objs.size,[Value.ref l])) _ _ _;refine wY ?_;show wpAny _ _ (Builtin.Dict.updateFrom "dict.__init__" s.heap.objs.size (.ref l) [] .none) _ _ _;unfold Builtin.Dict.updateFrom;have sm:aQ B (upd H s.heap.objs.size (.dK [] { cls:=.type "dict",data:=.dict #[] })):=sB.trans (mz hc0);obtain⟨its,r1,p1,z1⟩:=I1.list (sm.seq hl);have pl:=p1.isList;obtain⟨ol,nl,eol,cl,ddl,dl⟩:=p1;have hTl:Shared.TypeIs { s with heap:=s.heap.push { cls:=.type "dict",data:=.dict #[] } } (.ref l) "list":=⟨ol,eol,cl⟩;refine wX (wpAny_typeOf hTl ?_);rw[if_pos (by decide)];obtain⟨oc,od,oo,os⟩:=ol;simp only at cl ddl dl;subst cl ddl dl;refine wX (yn eol (by exact hA) λh' tk hk=>?_);dsimp only[Option.isNone_none];rw[if_pos rfl];have I2:Inv X pins σ (upd H s.heap.objs.size (.dK [] { cls:=.type "dict",data:=.dict #[] })) { s with heap:=h',toks:=tk }:=I1.kept (t':=tk) hk;refine wX (wpAny_rule ?_);refine wX (wpAny_pyIter_list (items:=its.toArray) ⟨_,hk _ _ eol,rfl,nl,rfl⟩ ?_);have I3:Inv X pins σ (upd H s.heap.objs.size (.dK [] { cls:=.type "dict",data:=.dict #[] })) { s with heap:=h'.push { cls:=.type "list_iterator",data:=.fields #[.ref l,.int 0 0] },toks:=tk }:=I2.kept (t':=tk) λb o e=>Heap.get?_push_of_some _ e;have ld:s.heap.objs.size<h'.objs.size:=Heap.lt_size (hk _ _ (Heap.get?_push_size _ rfl));have ll:l<h'.objs.size:=Heap.lt_size (hk _ _ eol);refine wY ⟨plainId_quiet iL _,vi (A:=X.A.in1) (B:=B) (H0:=H) (l:=l) (d:=s.heap.objs.size) (it:=h'.objs.size) hA (Nat.ne_of_lt ll) (Nat.ne_of_lt ld) hl il hp (λHc N vs ob s' I' hc' xt hz hv=>?_) _ 0 0 _ H B [] _ rfl (Nat.zero_le _) I3 hc0 (Ext.refl sB) (I2.fpOk (Nat.le_refl _) (I2.hok.fresh (Nat.le_refl _))) ⟨_,Heap.get?_push_size _ rfl,rfl,rfl⟩ rfl .nil⟩;refine⟨rfl,.ref s.heap.objs.size,_,I',rfl,?_⟩;have x3:=xt.trans (Ext.laid (o:=.dK ((b7 kds).1.zip vs) ob) xt.nh hc');exact q _ _ _ x3 (.dk aF hz (hv.mono (Ext.laid (o:=.dK ((b7 kds).1.zip vs) ob) xt.nh hc').bn)) (by simp)
end
@[simp] noncomputable def HX:FE:=λ_=>none
@[simp] noncomputable def HY:FA:=λ_=>none
theorem hu1 {n:Nat}(h:n+40<cLine):n+1<cLine:=by omega
@[simp] noncomputable def Fd:D->D->Option (D×Bool)
 |.lst ds,.int k=>if 0<=k/\ds.length*k.toNat<=1000/\k<=1000 then some (.lst (List.replicate k.toNat ds).flatten,true)else none
 |_,_=>none
@[simp] noncomputable def yp (fa fb:FE):FE:=λρ=>(fa ρ).bind λx=>if x.2=true then (fb ρ).bind λy=>Fd x.1 y.1 else none
theorem IsL.rep {K:PySem.W.Frag}{H:Hp}{vs:List V}{ds:List D}(h:IsL K H vs ds):∀k:Nat,IsL K H (List.replicate k vs).flatten (List.replicate k ds).flatten
 |0=>.nil
 |k+1=>by rw[List.replicate_succ,List.replicate_succ,List.flatten_cons,List.flatten_cons];exact h.append (IsL.rep h k)
section
variable {X:Cx}{a b:Expr}{pos:Pos}
theorem Aj {fa fb:FE}(ha:JE X a fa)(hb:JE X b fb):JE X (.BinOp a .Mult b pos) (yp fa fb):=by
 refine PE.to (CS Eu ha hb) λσ H Q q=>?_;obtain⟨B,ρ,d,bb,sB,r,ee,q⟩:=q;obtain⟨x,ex,ee⟩:=oX ee;split at ee
 ·rename_i hx;obtain⟨⟨yd,yb⟩,ey,ee⟩:=oX ee;refine⟨B,ρ,x.1,x.2,sB,r,ex,λv H1 N1 x1 i1 fr=>⟨N1,ρ,yd,yb,x1.nh,r.mono x1.bn,ey,λu H2 N2 x2 i2 hfr=>?_⟩⟩;obtain⟨a0,vs,ds,rfl,e1,h0,h1,il⟩:=fr hx;rw[e1]at ee;clear hfr;cases i2<;>try (simp[Fd]at ee;done)
  rename_i k;simp only[Fd]at ee;split at ee
  ·rename_i hk;cases ee
   have hl:=il.length;refine⟨a0,k,vs,rfl,rfl,x2.nh _ _ (x2.bn _ _ h1),by omega,by omega,by rw[hl];exact Nat.le_trans hk.2.1 (by decide:(1000:Nat)<=sizeLine),λp hp=>?_⟩;have x3:=Ext.laid (o:=.lst (List.replicate k.toNat vs).flatten) x2.nh hp;have il3:=((il.mono x2.bn).mono x3.bn).rep k.toNat;exact q _ _ _ ((x1.trans x2).trans x3) (.lst (SqL.of aF) il3) λ_=>⟨_,_,_,rfl,rfl,(x1.trans x2).hh.free hp,aF,il3⟩
  ·cases ee
 ·cases ee
end
noncomputable def fR:List D->Option (List Key)
 |[]=>some []
 |d::ds=>(jE d).bind λk=>(fR ds).map (k :: ·)
theorem vj {K:PySem.W.Frag}{B:Hp}:∀ {vs:List V}{ds:List D}{ks:List Key},IsL K B vs ds->fR ds=some ks->vs=ks.map kV
 |_,_,ks,.nil,e=>by simp[fR]at e;subst e;rfl
 |_,_,ks,.cons i is,e=>by
  simp only[fR]at e;obtain⟨k,h1,e⟩:=oX e;obtain⟨r,h2,rfl⟩:=oY e;rw[Ad i h1,vj is h2];rfl
@[simp] noncomputable def Ak (fo:FE)(fa:FA):FE:=λρ=>(fo ρ).bind λx=>(fa ρ).bind λds=>match x.1 with
 |.dt kss vs=>if ds.length<=sizeLine then (fR ds).map λk=>((cw kss vs k).getD .non,false)else none
 |_=>none
section
variable {X:Cx}{o:Expr}{es:List Expr}{pos:Pos}
theorem Al {apos cpos tpos:Pos}{x1:Nat}{fo:FE}{fa:FA}(hu:X.A.units+1<cLine)(ho:JE X o fo)(ha:JA X es fa)(m:M1 X o "get" apos (.Tuple es x1 tpos) cpos):JE X (.Call (.Attribute o "get" apos) [.Tuple es x1 tpos] [] cpos) (Ak fo fa):=by
 refine PE.to (rJ hu ho (uz ha) m) λσ H Q q=>?_;obtain⟨B,ρ,d,bb,sB,r,ee,q⟩:=q;obtain⟨x,ex,ee⟩:=oX ee;obtain⟨ds,ey,ee⟩:=oX ee;refine⟨B,ρ,x.1,x.2,sB,r,ex,λv H1 N1 x1 i1 ff=>?_⟩;obtain⟨xd,xb⟩:=x;cases i1 with
 |@dt a ks vs dvs h hl hs=>
  simp only at ee;split at ee
  ·rename_i hz;obtain⟨k,hk,ee⟩:=oY ee;cases ee
   refine⟨a,rfl,.inr ⟨_,.inl (x1.nh _ _ h)⟩,N1,ρ,ds,x1.nh,r.mono x1.bn,ey,λus H2 N2 x2 i2=>?_⟩;have hv:=vj i2 hk;have hul:us.length<=sizeLine:=by rw[i2.length];exact hz
   refine⟨hul,λp hp=>?_⟩;have x3:=Ext.laid (o:=.tup us) x2.nh hp;have ha2:N2 a=some (.dT (ks.zip vs)):=x2.bn _ _ h;refine⟨jh (ks.zip vs) k,.inr ⟨_,k,p,.inl (x3.nh _ _ (x3.bn _ _ ha2)),rfl,by rw[aF,hv],rfl⟩,?_⟩;have hs2:=(hs.mono x2.bn).mono x3.bn;rcases vh k hl hs2 with⟨v,d',e1,e2,i3⟩|⟨e1,e2⟩
   ·rw[e1];rw[e2]at q;exact(q.into ((x1.trans x2).trans x3)).one x3.nh i3
   ·rw[e1];rw[e2]at q;exact(q.into ((x1.trans x2).trans x3)).one x3.nh .non
  ·cases ee
 |_=>simp at ee
end
section
variable {K:PySem.W.Frag}{E:Ends}{σ:St}{H:Hp}
noncomputable def pq (i:Nat)(fk:FA)(fv:FE):FS:=λρ=>match ρ[i]? with
 |some (some (.dt ks vs,true))=>(fv ρ).bind λv=>(fk ρ).bind λkd=>(fR kd).bind λkk=>if aZ v.1=true/\ks.length<sizeLine/\kd.length<=sizeLine then some (.nx (ρ.set i (some (.dt (dO ks kk) (dP ks vs kk v.1),true))))else none
 |_=>none
theorem Am {i:Nat}{fk:FA}{fv:FE}(q:tDS K (pq i fk fv) E σ H):CZ (DO i) (Gi (tDA K fk)) (tD K fv) E σ H:=by
 obtain⟨B0,H0,ρ,r,⟨N,s⟩,e,p⟩:=q;unfold pq at e;split at e
 ·rename_i ks ds ei;obtain⟨v,ev,e⟩:=oX e;obtain⟨kd,ek,e⟩:=oX e;obtain⟨kk,hk,e⟩:=oX e;split at e
  ·rename_i hx;cases e
   refine⟨N,ρ,v.1,v.2,s.ext.nh,s.rep,ev,λv1 H1 N1 x1 i1 _=>?_⟩;have s1:=s.grow x1;obtain⟨a,o,h1,h2,h3,h4⟩:=s1.ow i _ ei;refine⟨.ref a,h1,N1,ρ,kd,s1.ext.nh,s1.rep,ek,λus H2 N2 x2 i2=>?_⟩;have s2:=s1.grow x2;have hv:=vj i2 hk;refine⟨by rw[i2.length];exact hx.2.2,λpp hp=>?_⟩;have x3:=Ext.laid (o:=.tup us) s2.ext.nh hp;have s3:=s2.grow x3;obtain⟨a',o',k1,k2,k3,k4⟩:=s3.ow i _ ei;rw[h1]at k1;cases k1
   cases k4 with
   |@dt ks vs ds hl h5=>
    refine⟨a,rfl,.inr ⟨_,kk,pp,s3.ext.nh _ _ k2,rfl,by rw[aF,hv],?_,?_⟩⟩
    ·rw[List.length_zip];omega
    ·rw[wD hl];exact p σ _ ⟨_,s3.writeB ei h1 (.dt (qz hl _ _) (h5.put (s3.flat ((i1.mono x2.bn).mono x3.bn) hx.1)))⟩
  ·cases e
 ·cases e
end
section
variable {X:Cx}{pos:Pos}{e:Expr}{es:List Expr}
theorem Cs {i:Nat}{y:Str}{py pt tpos:Pos}{x1:Nat}{fk:FA}{fv:FE}(hu:X.A.units+1<cLine)(hv:JE X e fv)(hk:JA X es fk)(hN:X.N[i]? = some y:=by rfl)(hvis:Vis X.env.scope y:=by first|exact Or.inl rfl|exact Or.inr (Or.inl rfl)|exact Or.inr (Or.inr rfl))(hd:(y == ("__debug__" : Str))=false:=by decide)
  (hcd:(y == ("__classdict__" : Str))=false:=by decide) (hs:swapsWith e (some (.Subscript (.Name y py) (.Tuple es x1 tpos) pt)) pos.line X.env=pure false:=by rfl):JS X (.Assign [.Subscript (.Name y py) (.Tuple es x1 tpos) pt] e pos) (pq i fk fv) :=
 PS.to (B7 hu (lK hN hvis hd hcd) (uz hk) hv hs) λ_ _ _ q=>Am q
end
end DL
namespace DL
open PySem PySem.Spec PySem.W PyProof.Rows L2
section
variable {X:Cx}{a b c:Expr}{p pos:Pos}
noncomputable def Fe (lo c:Int)(n:Nat):List D:=(List.range n).map λ(k:Nat)=>.int (lo+(k:Int)*c)
@[simp] noncomputable def He (f g h:FE):FA:=λρ=>(f ρ).bind λx=>(g ρ).bind λy=>(h ρ).bind λz=>match x.1,y.1,z.1 with
 |.int i,.int j,.int c=>if(-1000<=i/\i<=1000/\-1000<=j/\j<=1000)/\(c=1∨c=2∨c=3)then some (Fe i c (Builtin.Range.rangeSize i j c).toNat)else none
 |_,_,_=>none
end
end DL
namespace L2
open PySem PySem.Spec PyProof.Rows
noncomputable def ItV (a:Addr)(kvs:List (Key×V))(ob:Obj):It:=⟨λi H=>H a=some (.dK kvs ob)/\i<kvs.length,λi H x H'=>H'=H/\∃k,kvs[i]? = some (k,x),λi H=>H a=some (.dK kvs ob)/\kvs.length<=i⟩
theorem KV.get {kvs:List (Key×V)}{vs:List (Key×Value)}(r:KV kvs vs){i:Nat}{k:Key}{x:V}(h:kvs[i]? = some (k,x)):∃u,vs[i]? = some (k,u)/\aS x u:=by
 unfold KV at r;induction r generalizing i with
 |nil=>simp at h
 |@cons p q ps qs hq t ih=>
  cases i with
  |zero=>
   cases (show p=(k,x)from Option.some.inj h)
   obtain⟨q1,q2⟩:=q;exact⟨q2,by rw[show k=q1 from hq.1];rfl,hq.2⟩
  |succ i=>exact ih h
section
variable {P:Program}{w:World}{H:Hp}{h:Heap}{a:Addr}
theorem An {kvs:List (Key×V)}{ob:Obj}{es:Array DictEntry}{ep:Nat}(ok:HOk P w H h)(e:H a=some (.dK kvs ob))(hd:ob.data=.dict es ep):∃vs,KV kvs vs/\h.DictAt (bV P w) a vs ep:=by
 obtain⟨_,_,vs,r,o,es',ep',h1,h2,h3,h4⟩:=rH ok e;rw[uC ok e]at h1;cases h1
 rw[hd]at h3;cases h3
 exact⟨vs,r,ob,es,uC ok e,h2,hd,h4⟩
theorem Ct {kvs:List (Key×V)}{ob:Obj}(ok:HOk P w H h)(e:H a=some (.dK kvs ob)):∃es ep,ob.data=.dict es ep:=by
 obtain⟨_,_,vs,r,o,es',ep',h1,h2,h3,h4⟩:=rH ok e;rw[uC ok e]at h1;cases h1
 exact⟨es',ep',h3⟩
end
theorem yq {P:Program}{w:World}{K:PySem.W.Frag}{tg:Expr}(a it:Addr)(kvs:List (Key×V))(ob:Obj){es:Array DictEntry}{ep:Nat}(hd:ob.data=.dict es ep):Turn P w K tg (ItV a kvs ob) [it] it (λi h=>h.IsValIter it a i kvs.length ep) where
 mem:=by simp
 obj:=λi h st b hb=>by
  have e:b=it:=by simpa using hb
  subst e;obtain⟨o,e,c,d⟩:=st;exact⟨o,e,λv z=>by rw[d]at z;cases z⟩
 keep:=λi h h' st k=>st.at λo e=>k it (by simp) o e
 item:=by
  intro X hP hw hK hc i pins s σ H E I hf st hg;subst hP hw hK;obtain⟨hH,hlt⟩:=hg;obtain⟨vs,r,m⟩:=An I.hok hH hd;obtain⟨f0,f1,f2,f3,f4,f5⟩:=hf it (by simp);have hl:vs.length=kvs.length:=(Paired.length r).symm;obtain⟨u,hu,ru⟩:=r.get (k:=kvs[i].1) (x:=kvs[i].2) (List.getElem?_eq_getElem hlt);refine wpAny_pyNext_values_item (by rw[hl];exact st) m hu λh' st' sb=>?_;rw[hl]at st';have I1:Inv X pins σ H { s with heap:=h' }:=I.turned (t':=s.toks) (λb o hb e=>(sb.2 b hb).trans e) f0 f1 f3 f4 f5;obtain⟨o,e,c,d⟩:=id st';exact⟨u,rfl,o7 (s:={ s with heap:=h' }) e c d (by decide) ⟨kvs[i].2,H,I1,ru,⟨rfl,kvs[i].1,List.getElem?_eq_getElem hlt⟩,st',λb hb=>(hf b hb).1⟩⟩
 done:=by
  intro X hP hw hK hc i pins s σ H E I hf st hg;subst hP hw hK;obtain⟨hH,hle⟩:=hg;obtain⟨vs,r,m⟩:=An I.hok hH hd;obtain⟨f0,f1,f2,f3,f4,f5⟩:=hf it (by simp);have hl:vs.length=kvs.length:=(Paired.length r).symm;exact wpAny_pyNext_values_end (I.ok.hd hc) (by rw[hl];exact st) m (List.getElem?_eq_none (by omega)) λh' eb=>⟨rfl,I.turned (t':=s.toks) (λb o hb e=>eb b o hb e) f0 f1 f3 f4 f5⟩
 self:=λ_ _ _ _ _ st h=>wpAny_pyIter_valiter st h
section
variable {X:Cx}{tg:Expr}
def GM (td:TE):TI:=λσ H R=>td σ H λx H1=>∃a kvs ob,x=.ref a/\H1 a=some (.dK kvs ob)/\R (ItV a kvs ob) H1
theorem Cu {o:Expr}{td:TE}{apos cpos:Pos}(ho:PE X o td)(hbase:attributeBase o "values" X.env (eval o X.env)=eval o X.env:=by rfl)(hline:(apos.endLine == cpos.line)=true:=by rfl):PI X tg (.Call (.Attribute o "values" apos) [] [] cpos) (GM td):=by
 intro pins s σ H R I h;refine wpAny_Call_method0_late hbase hline (thn (ho pins s σ H _ I h) λv s1 ⟨x,H1,I1,r1,a,kvs,ob,ex,hH,q⟩=>?_);subst ex;obtain⟨h1,h2⟩:=yX I1 r1 (T:="dict") (.inr (.inr (.inl ⟨rfl,.inl ⟨kvs,ob,hH⟩⟩)));cases r1
 obtain⟨es,ep,hd⟩:=Ct I1.hok hH;obtain⟨vs,r,m⟩:=An I1.hok hH hd;have hl:vs.length=kvs.length:=(Paired.length r).symm;refine⟨"dict","dict.values",PySem.F.plainAttrs_dict,PySem.F.slot_dict_values,PySem.F.type_dict_values,h1,h2,Calls.callWith_builtin rfl (PySem.evalArgs_none ?_)⟩;refine call_meetsIn PySem.F.slot_dict_values h1 PySem.F.entry_dict_values (PySem.F.args_dict_values_1 _) (meets_dict_values (bV X.prog X.w) a (rH I1.hok hH).2.1) ⟨⟨vs,m.dictOf⟩,?_⟩;have I2:Inv X pins σ H1 { s1 with heap:=s1.heap.push { cls:=.type "dict_values",data:=.fields #[.ref a] } }:=I1.kept (t':=s1.toks) λb o e=>Heap.get?_push_of_some _ e;refine wpAny_pyIter_values (v:=s1.heap.objs.size) ⟨_,Heap.get?_push_size _ rfl,rfl,rfl⟩ (m.keep λb o e=>Heap.get?_push_of_some _ e) ?_;rw[hl];refine⟨(s1.heap.push { cls:=.type "dict_values",data:=.fields #[.ref a] }).objs.size,[(s1.heap.push { cls:=.type "dict_values",data:=.fields #[.ref a] }).objs.size],_,_,H1,rfl,I2.kept (t':=s1.toks) λb o e=>Heap.get?_push_of_some _ e,yq a _ kvs ob hd,⟨_,Heap.get?_push_size _ rfl,rfl,rfl⟩,λb hb=>?_,q⟩;have e:b=(s1.heap.push { cls:=.type "dict_values",data:=.fields #[.ref a] }).objs.size:=by simpa using hb
 subst e;exact I2.fpOk (Nat.le_refl _) (I2.hok.fresh (Nat.le_refl _))
end
end L2
namespace DL
open PySem PySem.Spec PySem.W PyProof.Rows L2
noncomputable def kD:Key->D
 |.inl i=>.int i
 |.inr z=>.str z
section
variable {K:PySem.W.Frag}{B:Hp}
theorem Cv {a:Addr}{ks:List Key}{vs:List V}{ds:List D}{ob:Obj}(h:B a=some (.dK (ks.zip vs) ob))(hl:ks.length=vs.length)(hs:IsL K B vs ds):nW K (ItV a (ks.zip vs) ob) B ds:=by
 intro i H s;have hz:(ks.zip vs).length=vs.length:=by rw[List.length_zip];omega
 refine⟨λd ed=>?_,λhlen=>⟨s _ _ h,by rw[hz,hs.length];exact hlen⟩⟩;obtain⟨v,ev,iv⟩:=hs.get ed;have hlt:i<vs.length:=(List.getElem?_eq_some_iff.mp ev).1;refine⟨⟨s _ _ h,by rw[hz];exact hlt⟩,λy H3 hy=>?_⟩;obtain⟨rfl,k,e⟩:=hy;have:=(List.getElem?_zip_eq_some.mp e).2;rw[ev]at this;cases this
 exact⟨B,.refl s,iv⟩
end
section
variable {X:Cx}{e:Expr}{tg:Expr}
@[simp] noncomputable def vk (f:FE):FA:=λρ=>(f ρ).bind λx=>match x.1 with|.dk _ ds=>some ds|_=>none
@[simp] noncomputable def HK (f:FE):FA:=λρ=>(f ρ).bind λx=>match x.1 with|.dk ks _=>some (ks.map kD)|_=>none
theorem Cw {f:FE}{apos cpos:Pos}(h:JE X e f)(hbase:attributeBase e "values" X.env (eval e X.env)=eval e X.env:=by rfl)(hline:(apos.endLine == cpos.line)=true:=by rfl):JI X tg (.Call (.Attribute e "values" apos) [] [] cpos) (vk f):=by
 intro pins s σ H R I q;obtain⟨B,ρ,ds,sB,r,e',q⟩:=q;obtain⟨⟨xd,xb⟩,ex,es⟩:=oX e';cases xd<;>try (cases es;done)
 cases es
 refine Cu h hbase hline pins s σ H R I ⟨B,ρ,_,_,sB,r,ex,λv H1 N1 x1 i1 _=>?_⟩;cases i1 with
 |@dk a ks vs ds ob hd hl hs=>exact⟨a,_,ob,rfl,x1.nh _ _ hd,q _ H1 N1 x1 (Cv hd hl hs)⟩
end
end DL
namespace DL
open PySem PySem.Spec PyProof.Rows L2
@[simp] noncomputable abbrev ixV (i:Nat)(j:Int):FE:=f2 ixD (ae i) (fC (.int j))
theorem av {X:Cx}{k j:Nat}{x:Str}{f:List D->Option (D×Bool)}{fa:FA}{e:Expr}{es:List Expr}{p pos:Pos}(F:Fn X.prog X.w X.K X.mg X.base k x f)(hr:Room j X.A)(ha:JA X (e::es) fa)(hj:k<=j:=by decide)(hg:Gl X x:=by rfl)(hdb:(x == ("__debug__" : Str))=false:=by decide)(he:starEach (e::es) X.env=(false,eval e X.env)::starEach es X.env:=by rfl)(hpl:(backTo pos (starEach es X.env)).any (·.1)=false:=by rfl):JE X (.Call (.Name x p) (e::es) [] pos) (fA f fa):=BN F (hr.mono hj) ha hg hdb he hpl
theorem GN {X:Cx}{scope:Scope}(h1:∀y∈scope.names,y.2≠.cell:=by decide +kernel)(h2:scope.kind=.function:=by rfl)(h3:∀y∈scope.names,y.2=.local->scope.names.lookup y.1=some .local:=by decide +kernel)(h4':(scope.names.all λy=>!(y.2 == NameKind.free) || (X.env.cells.lookup y.1).isSome)=true:=by rfl):CompSc X scope (cJ scope.names X.env.cells []):=E3 h1 h2 h3 h4'
theorem cpC {X:Cx}{N':List Str}{scope:Scope}{j i:Nat}{r:List Nat}{x:Str}(h1:N'[j]? = some x)(h2:X.N[i]? = some x)(t:Caps X N' scope (cJ scope.names X.env.cells []) (j+1) r)(h3:X.env.kindOf x=some .cell∨X.env.kindOf x=some .free:=by exact Or.inl rfl)(h4:(relabel scope X.env).names.lookup x=some .cell∨(relabel scope X.env).names.lookup x=some .free:=by exact Or.inl rfl)(hf:(x,NameKind.free)∈scope.names:=by decide +kernel)(hc:(X.env.cells.lookup x).isSome=true:=by rfl):Caps X N' scope (cJ scope.names X.env.cells []) j (i::r):=.cons h1 h2 h3 h4 (lB hf hc) t
end DL
namespace DL
open PySem PySem.Spec PySem.W PyProof.Rows L2
noncomputable def atD:At->D
 |.i n=>.int n
 |.s z=>.str z
section
variable {prog:Program}{w:World}{A:Around}{E:Value->Shared->Prop}{s:Shared}
theorem GO {x y:At}{u v:Value}(hx:atV x u)(hy:atV y v):SeqAt.EqAt A s u v (eqD (atD x) (atD y)):=by
 cases x with
 |i a=>
  obtain⟨t,rfl⟩:=hx;cases y with
  |i c=>obtain⟨t',rfl⟩:=hy;simp only[atD,eqD];exact SeqAt.EqAt.int_int _ _ _ _
  |s c=>obtain⟨t',rfl⟩:=hy;simp only[atD,eqD];exact SeqAt.EqAt.int_str _ _ _ _
 |s a=>
  obtain⟨t,rfl⟩:=hx;cases y with
  |i c=>obtain⟨t',rfl⟩:=hy;simp only[atD,eqD];exact SeqAt.EqAt.str_int _ _ _ _
  |s c=>obtain⟨t',rfl⟩:=hy;simp only[atD,eqD];exact SeqAt.EqAt.str_str _ _ _ _
theorem wE:∀ {xs ys:List At}{vs:List Value},Paired atV xs vs->Paired atV ys vs->xs=ys
 |_,_,_,.nil,.nil=>rfl
 |x::xs,y::ys,_,.cons p ps,.cons q qs=>by
  rw[wE ps qs];congr 1;cases x with
  |i a=>
   obtain⟨t,rfl⟩:=p;cases y with
   |i c=>obtain⟨t',e⟩:=q;cases e;rfl
   |s c=>obtain⟨t',e⟩:=q;cases e
  |s a=>
   obtain⟨t,rfl⟩:=p;cases y with
   |i c=>obtain⟨t',e⟩:=q;cases e
   |s c=>obtain⟨t',e⟩:=q;cases e;rfl
theorem Ff (x y:At):eqD (atD x) (atD y)=true↔x=y:=by
 cases x<;>cases y<;>simp[atD]
theorem iM:∀xs ys:List At,cz (xs.map atD) (ys.map atD)=true↔xs=ys
 |[],[]=>by simp[cz]
 |[],_::_=>by simp[cz]
 |_::_,[]=>by simp[cz]
 |x::xs,y::ys=>by
  rw[List.map_cons,List.map_cons,cz,Bool.and_eq_true,Ff,iM xs ys];simp
theorem Ao {xs ys:List At}{x y:Value}(hx:dM s.heap xs x)(hy:dM s.heap ys y)(hu:A.units<cLine):SeqAt.EqAt A s x y (cz (xs.map atD) (ys.map atD)):=by
 obtain⟨a,o,its,n,rfl,ho,hc,hd,r⟩:=hx;obtain⟨b,o',jts,m,rfl,ho',hc',hd',r'⟩:=hy;by_cases hab:a=b
 ·subst hab;rw[ho]at ho';cases ho';rw[hd]at hd';cases hd';rw[wE r r',(iM ys ys).mpr rfl];exact SeqAt.EqAt.same _
 ·have t1:s.heap.IsTuple a its:=⟨o,ho,hc,n,hd⟩;have t2:s.heap.IsTuple b jts:=⟨o',ho',hc',m,hd'⟩;have l1:xs.length=its.size:=by rw[←Array.length_toList];exact dq r
  have l2:ys.length=jts.size:=by rw[←Array.length_toList];exact dq r'
  have he:∀j (h1:j<its.size) (h2:j<jts.size),SeqAt.EqAt A.in1 s its[j] jts[j] (eqD ((xs.map atD).getD j .non) ((ys.map atD).getD j .non)):=λj h1 h2=>by
   have p:=dr (.i 0) Value.none r (i:=j) (by omega);have q:=dr (.i 0) Value.none r' (i:=j) (by omega);have e1:its.toList.getD j Value.none=its[j]:=by rw[List.getD_eq_getElem?_getD,Array.getElem?_toList,Array.getElem?_eq_getElem h1];rfl
   have e2:jts.toList.getD j Value.none=jts[j]:=by rw[List.getD_eq_getElem?_getD,Array.getElem?_toList,Array.getElem?_eq_getElem h2];rfl
   rw[e1]at p;rw[e2]at q;have e3:(xs.map atD).getD j .non=atD (xs.getD j (.i 0)):=by simp[List.getD_eq_getElem?_getD,show j<xs.length by omega]
   have e4:(ys.map atD).getD j .non=atD (ys.getD j (.i 0)):=by simp[List.getD_eq_getElem?_getD,show j<ys.length by omega]
   rw[e3,e4];exact GO p q
  have rc:=SeqAt.RcAt.tuples t1 t2 hu he;have eqv:((List.range (min its.size jts.size)).all (λj=>eqD ((xs.map atD).getD j .non) ((ys.map atD).getD j .non)) && its.size == jts.size)=cz (xs.map atD) (ys.map atD):=by
   rw[←l1,←l2];by_cases hl:xs.length=ys.length
   ·rw[←hl,Nat.min_self,beq_self_eq_true,Bool.and_true];have:=gG (λj=>eqD ((xs.map atD).getD j .non) ((ys.map atD).getD j .non)) (xs:=xs.map atD) (ys:=ys.map atD) (by simpa using hl) λj x y e1 e2=>pZ j x y e1 e2;rwa [List.length_map]at this
   ·rw[pY (by simpa using hl),beq_eq_false_iff_ne.mpr hl,Bool.and_false]
  rw[eqv]at rc;exact SeqAt.EqAt.of_refs hab rc
theorem pr (xs:List At):aJ xs xs=some false:=by
 induction xs with
 |nil=>rfl
 |cons x xs ih=>cases x<;>rw[aJ,if_pos rfl,ih]
theorem Ap {Q:Bool->Shared->Prop}{n m:Int}{xs ys:List At}{t t':Bool}{x y:Value}{b:Bool}(hx:dM s.heap xs x)(hy:dM s.heap ys y)(h:aJ (.i n::xs) (.i m::ys)=some b)(hu:A.units<cLine)(q:Q b s){u v:Value}(hn:atV (.i n) u)(hm:atV (.i m) v):KatLex prog w A true false Q [(u,v),(x,y)] 0 s:=by
 obtain⟨t,rfl⟩:=hn;obtain⟨t',rfl⟩:=hm;refine kat_cons (wpAny_eqBool_int ?_);rw[aJ]at h;by_cases e:n=m
 ·rw[if_pos e]at h;rw[show(n == m)=true by simp[e]];refine kat_yes (kat_cons (Ao hx hy hu _ _ _ _ ?_));by_cases e2:xs=ys
  ·rw[(iM xs ys).mpr e2];rw[e2,pr]at h;cases h
   exact kat_yes (kat_nil q)
  ·rw[Bool.eq_false_iff.mpr λz=>e2 ((iM xs ys).mp z)];refine kat_no (kat_one _ _ ?_);show wpAny _ _ (richCompare .Lt x y) _ _ _;exact Ab (Q:=W.BoolBack Q) hx hy h hu (by first|exact q|exact⟨b,rfl,q⟩)
 ·rw[if_neg e]at h;cases h
  rw[show(n == m)=false by simp[e]];exact kat_no (oneLt_int q)
end
def vn (h:Heap)(xs:List At)(v:Value):Prop:=∃n k a o its m u x,xs=.i n::k/\v=.ref a/\h.get? a=some o/\o.cls=.type "tuple"/\o.data=.seq its m/\its.toList=[u,x]/\atV (.i n) u/\dM h k x
section
variable {prog:Program}{w:World}{A:Around}{E:Value->Shared->Prop}{s:Shared}
theorem Cy {Q:Bool->Shared->Prop}{xs ys:List At}{x y:Value}{b:Bool}(hx:vn s.heap xs x)(hy:vn s.heap ys y)(h:aJ xs ys=some b)(hu:A.units<cLine)(q:Q b s):wpAny (model prog w) A (keyLt' (tuples' true) x y) Q E s:=by
 obtain⟨n,k,a,o,its,m,u,x',rfl,rfl,ho,_,hd,ei,an,tx⟩:=hx;obtain⟨n',k',a',o',its',m',u',y',rfl,rfl,ho',_,hd',ei',an',ty⟩:=hy;refine kat_lt ho hd ho' hd' ?_;rw[ei,ei'];have hf:decide (its.size<its'.size)=false:=by
  rw[←Array.length_toList,←Array.length_toList,ei,ei'];rfl
 rw[hf];exact Ap (t:=true) (t':=true) tx ty h hu q an an'
theorem kT {h:Heap}:∀ {ks:List (List At)}{vs:List Value},Paired (vn h) ks vs->∃fs,KatTups h vs fs/\fs.length=ks.length/\∀v∈fs,∃n,atV (.i n) v
 |_,_,.nil=>⟨[],trivial,rfl,by simp⟩
 |k::ks,_,.cons x t=>by
  obtain⟨fs,h1,h2,h3⟩:=kT t;obtain⟨n,k,a,o,its,m,u,x',rfl,rfl,ho,hc,hd,ei,an,_⟩:=x;refine⟨u::fs,KatTups.cons ho hc hd (by rw[←Array.getElem?_toList,ei];rfl) h1,by simp[h2],λv hv=>?_⟩;rcases List.mem_cons.mp hv with rfl|hv
  ·exact⟨n,an⟩
  ·exact h3 v hv
theorem yr {ks:List (List At)}{vs:List Value}{Q:SortKind->Shared->Prop}(hp:Paired (vn s.heap) ks vs)(hn:0<ks.length)(q:Q (tuples' true) s):wpAny (model prog w) A (keyKind' vs.toArray) Q E s:=by
 obtain⟨fs,h1,h2,h3⟩:=kT hp;refine kat_kind (T:=.type "int") h1 (by omega) (λv hv=>?_) (by decide) q;obtain⟨n,t,rfl⟩:=h3 v hv;exact .now
theorem Aq {ks:List (List At)}{vs:List Value}(hc:da ks=true)(hu:A.units<cLine)(hp:Paired (vn s.heap) ks vs):∀(i j:Nat)(C:Bool->Shared->Prop)(s1:Shared),i<ks.length->j<ks.length->s1=s->(∀s',s'=s->C (ltR (rkK ks) i j) s')->kas_ask prog w A (tuples' true) vs i j C s1:=by
 intro i j C s1 hi hj e hC;subst e;unfold kas_ask;have mi:ks.getD i []∈ks:=by rw[List.getD_eq_getElem?_getD,List.getElem?_eq_getElem hi];exact List.getElem_mem hi
 have mj:ks.getD j []∈ks:=by rw[List.getD_eq_getElem?_getD,List.getElem?_eq_getElem hj];exact List.getElem_mem hj
 refine Cy (dr [] Value.none hp hi) (dr [] Value.none hp hj) (fj hc mi mj) hu ?_;have:=hC s1 rfl;unfold ltR rkK at this;rw[sR (List.mem_map.mpr ⟨_,mi,rfl⟩)]at this;exact this
end
noncomputable def Cz:D->Option (List At)
 |.tup [.int n,.tup es]=>(cM es).map (.i n :: ·)
 |_=>none
noncomputable def fS:List D->Option (List (List At))
 |[]=>some []
 |d::ds=>(Cz d).bind λa=>(fS ds).map (a :: ·)
theorem pv:∀ {ds:List D}{ks:List (List At)},fS ds=some ks->ks.length=ds.length
 |[],_,h=>by simp only[fS]at h;cases h;rfl
 |d::ds,_,h=>by
  simp only[fS]at h;obtain⟨a,h1,h⟩:=oX h;obtain⟨r,h2,h⟩:=oY h;subst h;simp[pv h2]
theorem m8 {X:Cx}{pins:List (Addr×Obj)}{σ:St}{H:Hp}{s:Shared}(I:Inv X pins σ H s):∀ {ys:List V}{ds:List D}{ks:List (List At)}{its:List Value},aT ys its->IsL X.K H ys ds->fS ds=some ks->Paired (vn s.heap) ks its
 |_,_,_,_,.nil,.nil,h=>by simp only[fS]at h;cases h;exact .nil
 |_,_,_,_,.cons r rr,.cons i ii,h=>by
  simp only[fS]at h;obtain⟨a,h1,h⟩:=oX h;obtain⟨t,h2,h⟩:=oY h;subst h;refine .cons ?_ (m8 I rr ii h2);unfold Cz at h1;split at h1
  ·rename_i n es;obtain⟨k,hk1,rfl⟩:=oY h1;cases i with
   |tup hq hl=>
    cases r
    obtain⟨its',r',⟨o,ho,hc,m,hd⟩,_⟩:=I.tuple hq;cases hl with
    |cons i1 hl=>
     cases hl with
     |cons i2 hl=>
      cases hl
      cases r' with
      |cons r1 r'=>
       cases r' with
       |cons r2 r'=>
        cases r'
        cases i1
        have hk:cN [D.tup es]=some [k]:=by show(cM es).bind _=_;rw[hk1];rfl
        have ht:=lF I (.cons r2 .nil) (.cons i2 .nil) hk;cases ht with
        |cons ht _=>exact⟨n,k,_,o,_,m,_,_,rfl,rfl,ho,hc,hd,rfl,r1,ht⟩
  ·cases h1
theorem C0 {X:Cx}{A:Around}(hu:A.units<cLine):KK X A fS λ_=>true:=⟨pv,λI _ _ _ _ r i e _ hc=>have hp:=m8 I r i e;⟨λhn _ _ q=>yr hp hn q,Aq hc hu hp⟩⟩
theorem Ar {X:Cx}(hu:X.A.units+40<cLine):KK X X.A.in1.in1 fS λ_=>true:=C0 (show X.A.units+1+1<cLine by omega)
@[simp] noncomputable abbrev vp:FE->(Env->D->Option D)->FE:=qy fS λ_=>true
end DL
namespace DL
open PySem PySem.Spec PyProof.Rows L2
section
variable {P:Program}{w:World}{K:PySem.W.Frag}{mg:Str->Option Value}{base:Heap}
theorem Def.fq {x:Str}{st:Stmt}{k:Nat}{g:FS}{h:Heap}(F:Def K x st)(X:K.In h)(G:h.Ns mainGlobals mg)(N:List Str)(n:Nat)
  (hb:N.Nodup->∀(f:Addr)(cdv:Value)(A:Around)(outer:List PySem.Env)(s:Shared)(H:Hp)(E:XK),Room k (A.deeper (envOfC x (aN st) s.heap.objs.size f cdv))->(A.deeper (envOfC x (aN st) s.heap.objs.size f cdv)).units+40<cLine->JSs (lu CX0 P w K mg base N x (aN st) f cdv A outer s H E).nox (bW st) g)
  (S:FnScope N (N.take n) (aN st):=by refine⟨rfl,rfl,rfl,?_,rfl,?_,?_⟩<;>decide +kernel)
  (hbd:∀(kV doc pm:Value)(an:Option Addr)(cdv ct:Value)(us:List Value),us.length=(N.take n).length->bindArgs (PySem.W.fnOf x x (eB st) (bW st) (aN st) .none kV doc pm an cdv ct) ⟨us,[]⟩=pure ((N.take n).zip us):=by
   intro _ _ _ _ _ _ us hl;first
    | (have hl:us.length=1:=hl;exact match us,hl with|[_],_=>rfl)
    | (have hl:us.length=2:=hl;exact match us,hl with|[_,_],_=>rfl)
    | (have hl:us.length=3:=hl;exact match us,hl with|[_,_,_],_=>rfl)
    | (have hl:us.length=4:=hl;exact match us,hl with|[_,_,_,_],_=>rfl)
    | (have hl:us.length=5:=hl;exact match us,hl with|[_,_,_,_,_],_=>rfl)
    | (have hl:us.length=6:=hl;exact match us,hl with|[_,_,_,_,_,_],_=>rfl)
    | (have hl:us.length=7:=hl;exact match us,hl with|[_,_,_,_,_,_,_],_=>rfl)):
  Fn P w K mg base (k+1) x (aO g (N.take n).length (N.length - (N.take n).length)):=F.fn X G S hbd λf cdv A outer s H E hr=>hb S.nd f cdv A outer s H E hr (uO hr)
theorem Def.fqL {x:Str}{st:Stmt}{k:Nat}{g:FS}{h:Heap}(F:Def K x st)(X:K.In h)(G:h.Ns mainGlobals mg)(N:List Str)(n:Nat)
  (hb:N.Nodup->∀(f:Addr)(cdv:Value)(A:Around)(outer:List PySem.Env)(s:Shared)(H:Hp)(E:XK),(∀c P,PySem.W.tabIn K x=some (c,P)->cdv=.ref c)->Room k (A.deeper (envOfC x (aN st) s.heap.objs.size f cdv))->(A.deeper (envOfC x (aN st) s.heap.objs.size f cdv)).units+40<cLine->JSs (lu CX0 P w K mg base N x (aN st) f cdv A outer s H E).nox (bW st) g)
  (S:FnScope N (N.take n) (aN st):=by refine⟨rfl,rfl,rfl,?_,rfl,?_,?_⟩<;>decide +kernel)
  (hbd:∀(kV doc pm:Value)(an:Option Addr)(cdv ct:Value)(us:List Value),us.length=(N.take n).length->bindArgs (PySem.W.fnOf x x (eB st) (bW st) (aN st) .none kV doc pm an cdv ct) ⟨us,[]⟩=pure ((N.take n).zip us):=by
   intro _ _ _ _ _ _ us hl;first
    | (have hl:us.length=2:=hl;exact match us,hl with|[_,_],_=>rfl)
    | (have hl:us.length=3:=hl;exact match us,hl with|[_,_,_],_=>rfl)
    | (have hl:us.length=4:=hl;exact match us,hl with|[_,_,_,_],_=>rfl)):
  Fn P w K mg base (k+1) x (aO g (N.take n).length (N.length - (N.take n).length)):=F.fnL X G S hbd λf cdv A outer s H E hc hr=>hb S.nd f cdv A outer s H E hc hr (uO hr)
end
section
variable {X:Cx}{x:Str}{pos:Pos}
theorem pgV (i:Nat)(hN:X.N.Nodup)(hi:X.N[i]? = some x:=by rfl)(hx:Loc X.env.scope x:=by first|exact Or.inl rfl|exact Or.inr rfl)(hf:X.fn x=true∨X.env.scope.names.lookup x=some .local:=by first|exact .inl rfl|exact .inr rfl):PG X (.Name x pos) (iU i):=vO hN hi hx hf
theorem pgC {N':List Str}{scope:Scope}{cl:List (Str×Addr)}{C:Addr}{s:Shared}{H:Hp}{fp}(i:Nat)(hN:N'.Nodup:=by decide +kernel)(hi:(d9 X N' scope cl C s H fp).N[i]? = some x:=by rfl)(hx:Loc (d9 X N' scope cl C s H fp).env.scope x:=by exact Or.inl rfl)(hf:(d9 X N' scope cl C s H fp).fn x=true∨(d9 X N' scope cl C s H fp).env.scope.names.lookup x=some .local:=by first|exact .inl rfl|exact .inr rfl):PG (d9 X N' scope cl C s H fp) (.Name x pos) (iU i):=vO hN hi hx hf
theorem iw {tg iter elt:Expr}{ifs:List Expr}{scope:Scope}(N':List Str){nT:Nat}{cap:List Nat}{fi:FA}{tgF:FG}{g:TG}{fc:FT}{fe:FE}
  (cp:Caps X N' scope (cJ scope.names X.env.cells []) nT cap) (hi:JI X tg iter fi)
  (hg:∀C s H fp,PG (d9 X N' scope (cJ scope.names X.env.cells []) C s H fp) tg g) (htg:TGE X.K nT tgF g) (hc:∀C s H fp,JC (d9 X N' scope (cJ scope.names X.env.cells []) C s H fp) ifs fc) (he:∀C s H fp,JE (d9 X N' scope (cJ scope.names X.env.cells []) C s H fp) elt fe)
  (S:CompSc X scope (cJ scope.names X.env.cells []):=by exact GN) (hcalm:X.calm=true:=by rfl)
  (hs:∀x,foldedSetIterable iter X.env x=pure x:=by intro _;rfl):
  JE X (.ListComp elt [⟨tg,iter,ifs,0⟩] scope pos) (bQ fi nT cap tgF fc fe):=BG hcalm S cp hi hg htg hc he hs
theorem m9 {tg iter elt:Expr}{ifs:List Expr}{scope:Scope}{spos py:Pos}(N':List Str){nT:Nat}{cap:List Nat}{fi:FA}{tgF:FG}{g:TG}{fc:FT}{fe:FE}{y:Str}{i:Nat}(hN:X.N.Nodup)
  (cp:Caps X N' scope (cJ scope.names X.env.cells []) nT cap) (hi:JI X tg iter fi)
  (hg:∀C s H fp,PG (d9 X N' scope (cJ scope.names X.env.cells []) C s H fp) tg g) (htg:TGE X.K nT tgF g) (hc:∀C s H fp,JC (d9 X N' scope (cJ scope.names X.env.cells []) C s H fp) ifs fc) (he:∀C s H fp,JE (d9 X N' scope (cJ scope.names X.env.cells []) C s H fp) elt fe)
  (hi':X.N[i]? = some y:=by rfl) (hy:X.env.kindOf y=some .local:=by rfl)
  (hsw:swapsWith (.ListComp elt [⟨tg,iter,ifs,0⟩] scope pos) (some (.Name y py)) spos.line X.env=pure true:=by rfl)
  (S:CompSc X scope (cJ scope.names X.env.cells []):=by exact GN) (hcalm:X.calm=true:=by rfl)
  (hs:∀x,foldedSetIterable iter X.env x=pure x:=by intro _;rfl):
  JS X (.Assign [.Name y py] (.ListComp elt [⟨tg,iter,ifs,0⟩] scope pos) spos) (aP i (bQ fi nT cap tgF fc fe)):=BH hcalm hN hi' hy hsw S cp hi hg htg hc he hs
theorem As {tg iter:Expr}{body:List Stmt}{fi:FA}{tgF:FG}{t:TG}{g:FS}(hi:JI X tg iter fi)(hg:PG X tg t)(ht:tDG X.K tgF t)(hb:JSs X body g)(hp:PassesOwn (model X.prog X.w) X.A X.env X.xe:=by exact PassesOwn.never)(hc:X.calm=true:=by rfl)
  (hs:∀x,foldedSetIterable iter X.env x=pure x:=by intro _;rfl):JS X (.For tg iter body [] pos) (rL fi tgF g):=EA hp hc hi hg ht hb hs
theorem pw {tg iter:Expr}{body:List Stmt}{fi:FA}{tgF:FG}{t:TG}{g:FS}(hi:PI X tg iter (tDR X.K fi))(hg:PG X tg t)(ht:tDG X.K tgF t)(hb:JSs X body g)(hp:PassesOwn (model X.prog X.w) X.A X.env X.xe:=by exact PassesOwn.never)(hc:X.calm=true:=by rfl)
  (hs:∀x,foldedSetIterable iter X.env x=pure x:=by intro _;rfl):JS X (.For tg iter body [] pos) (gZ fi tgF g):=BM hp hc hi hg ht hb hs
end
end DL
namespace DL
open PySem PySem.Spec PySem.W PyProof.Rows L2
section
variable {prog:Program}{w:World}{A:Around}{E:Value->Shared->Prop}{s:Shared}
inductive GeW (prog:Program)(w:World)(A:Around)(s:Shared)(fin r:Bool):List (Value×Value)->Prop
 |nil (h:fin=r):GeW prog w A s fin r []
 |eq {u v:Value}{l:List (Value×Value)}(h:SeqAt.EqAt A s u v true) (t:GeW prog w A s fin r l):GeW prog w A s fin r ((u,v)::l)
 |ne {u v:Value}{l:List (Value×Value)}(h:SeqAt.EqAt A s u v false) (t:∀(Q E:Value->Shared->Prop),Q (.bool r) s->wpAny (model prog w) A (richCompare .GtE u v) Q E s):GeW prog w A s fin r ((u,v)::l)
theorem Au {a b:Addr}{oa ob:Obj}{its jts:Array Value}{na nb:Nat}{r:Bool}{P:PySem.Fin->Shared->Prop}(hTb:s.TypeIs (.ref b) "tuple")(hoa:s.heap.get? a=some oa)(hda:oa.data=.seq its na)(hob:s.heap.get? b=some ob)(hdb:ob.data=.seq jts nb)
  (W:GeW prog w A s (decide (jts.size<=its.size)) r (its.toList.zip jts.toList)) (q:P (.done (.ret (.bool r))) s):wpAny (model prog w) A (Builtin.«tuple.__ge__» ⟨[.ref a,.ref b],[]⟩) P E s:=by
 show wpAny _ _ (isInstance (.ref _) (.type "tuple")>>=_) _ _ s;refine wX (wpAny_isInstance hTb isSubtype_tuple_tuple ?_);simp only[Bool.not_true,Bool.false_eq_true,if_false];refine wX (wpAny_tupleItemsOf hoa hda ?_);refine wX (wpAny_tupleItemsOf hob hdb ?_);refine wX ?_;refine wpAny_forIn_list _ (λau z s'=>z.1=none/\s'=s/\GeW prog w A s (decide (jts.size<=its.size)) r au) _ ?_ ?_ _ _ ⟨rfl,rfl,W⟩
 ·rintro⟨u,v⟩ au z s' ⟨hz,rfl,W⟩;cases W with
  |eq h t=>
   refine wX (h _ _ _ _ ?_);simp only[Bool.not_true,Bool.false_eq_true,if_false];exact wY ⟨rfl,rfl,t⟩
  |ne h t=>
   refine wX (h _ _ _ _ ?_);simp only[Bool.not_false,if_true];refine wX (wpAny_rule (wX (m:=richCompare .GtE u v) (wpAny_mono (t (λv s''=>v=.bool r/\s''=s') E ⟨rfl,rfl⟩) (λv s'' hv=>?_) λ_ _ z=>z)));obtain⟨rfl,rfl⟩:=hv;exact wX (wY (wY (wY q)))
 ·rintro⟨z1,z2⟩ s' ⟨hz,rfl,W⟩;simp only at hz;subst hz;refine wY ?_;cases W with
  |nil h=>
   show P (.done (.ret (.bool (decide (jts.size<=its.size))))) s';rw[h];exact q
theorem D5 {a b:Addr}{oa ob:Obj}{its jts:Array Value}{na nb:Nat}{r:Bool}{Q:Value->Shared->Prop}(ta:s.TypeIs (.ref a) "tuple")(tb:s.TypeIs (.ref b) "tuple")(hoa:s.heap.get? a=some oa)(hda:oa.data=.seq its na)(hob:s.heap.get? b=some ob)(hdb:ob.data=.seq jts nb)
  (W:GeW prog w A.in1 s (decide (jts.size<=its.size)) r (its.toList.zip jts.toList)) (hu:A.units<cLine) (q:Q (.bool r) s):wpAny (model prog w) A (richCompare .GtE (.ref a) (.ref b)) Q E s :=
 wpAny_richCompare_same_room (op:=.GtE) ta tb PySem.F.slot_tuple_ge (wpAny_call_entry PySem.F.slot_tuple_ge ta PySem.F.entry_tuple_ge (Au tb hoa hda hob hdb W ⟨_,rfl,(λe=>nomatch e),q⟩) (PySem.F.args_tuple_ge_2 _ _)) hu
theorem mB {b fin:Bool}:∀(xs ys:List At)(its jts:List Value),Paired atV xs its->Paired atV ys jts->aJ xs ys=some b->fin=(!decide (xs.length<ys.length))->GeW prog w A s fin (!b) (its.zip jts)
 |[],[],_,_,.nil,.nil,h,hf=>.nil (by simp[aJ]at h;subst h;rw[hf];rfl)
 |[],_::_,_,_,.nil,_,h,hf=>by
  rw[List.zip_nil_left];exact .nil (by simp[aJ]at h;subst h;rw[hf];simp)
 |_::_,[],_,_,_,.nil,h,hf=>by
  rw[List.zip_nil_right];exact .nil (by simp[aJ]at h;subst h;rw[hf];simp)
 |.i _::_,.s _::_,_,_,_,_,h,_=>by simp[aJ]at h
 |.s _::_,.i _::_,_,_,_,_,h,_=>by simp[aJ]at h
 |.i a::xs,.i c::ys,_,_,.cons r1 r1',.cons r2 r2',h,hf=>by
  obtain⟨t,rfl⟩:=r1;obtain⟨u,rfl⟩:=r2;rw[List.zip_cons_cons];rw[aJ]at h;have he:=SeqAt.EqAt.int_int (A:=A) (s:=s) a t c u;by_cases e:a=c
  ·rw[if_pos e]at h;rw[show(a == c)=true by simp[e]]at he;exact .eq he (mB xs ys _ _ r1' r2' h (by rw[hf];simp))
  ·rw[if_neg e]at h;cases h
   rw[show(a == c)=false by simp[e]]at he;exact .ne he λQ E q=>PyProof.Rows.ge_int (by rw[show decide (c<=a) = !decide (a<c) by rw[←decide_not];congr 1;rw[Int.not_lt]];exact q)
 |.s a::xs,.s c::ys,_,_,.cons r1 r1',.cons r2 r2',h,hf=>by
  obtain⟨t,rfl⟩:=r1;obtain⟨u,rfl⟩:=r2;rw[List.zip_cons_cons];rw[aJ]at h;have he:=SeqAt.EqAt.str_str (A:=A) (s:=s) a t c u;by_cases e:a=c
  ·rw[if_pos e]at h;rw[show(a == c)=true by simp[e]]at he;exact .eq he (mB xs ys _ _ r1' r2' h (by rw[hf];simp))
  ·rw[if_neg e]at h;cases h
   rw[show(a == c)=false by simp[e]]at he;exact .ne he λQ E q=>PySem.P.ge_str q
theorem Fg {xs ys:List At}{x y:Value}{r:Bool}{Q:Value->Shared->Prop}(hx:dM s.heap xs x)(hy:dM s.heap ys y)(h:aJ xs ys=some r)(hu:A.units<cLine)(q:Q (.bool (!r)) s):wpAny (model prog w) A (richCompare .GtE x y) Q E s:=by
 obtain⟨a,o,its,n,rfl,ho,hc,hd,p⟩:=hx;obtain⟨b,o',jts,m,rfl,ho',hc',hd',p'⟩:=hy;refine D5 ⟨o,ho,hc⟩ ⟨o',ho',hc'⟩ ho hd ho' hd' (mB _ _ _ _ p p' h ?_) hu q;have l1:xs.length=its.size:=by rw[←Array.length_toList];exact dq p
 have l2:ys.length=jts.size:=by rw[←Array.length_toList];exact dq p'
 rw[l1,l2,←decide_not];congr 1;rw[Nat.not_lt]
theorem C1 {n m:Int}{xs ys:List At}{x y u v:Value}{r:Bool}(hx:dM s.heap xs x)(hy:dM s.heap ys y)(h:aJ (.i n::xs) (.i m::ys)=some r)(hu:A.units<cLine)(hn:atV (.i n) u)(hm:atV (.i m) v):GeW prog w A s true (!r) [(u,v),(x,y)]:=by
 obtain⟨t,rfl⟩:=hn;obtain⟨t',rfl⟩:=hm;have he:=SeqAt.EqAt.int_int (A:=A) (s:=s) n t m t';rw[aJ]at h;by_cases e:n=m
 ·rw[if_pos e]at h;rw[show(n == m)=true by simp[e]]at he;have ht:=Ao hx hy hu;refine .eq he ?_;by_cases e2:xs=ys
  ·rw[(iM xs ys).mpr e2]at ht;rw[e2,pr]at h;cases h
   exact .eq ht (.nil rfl)
  ·rw[Bool.eq_false_iff.mpr λz=>e2 ((iM xs ys).mp z)]at ht;exact .ne ht λQ E q=>Fg hx hy h hu q
 ·rw[if_neg e]at h;cases h
  rw[show(n == m)=false by simp[e]]at he;exact .ne he λQ E q=>PyProof.Rows.ge_int (by rw[show decide (m<=n) = !decide (n<m) by rw[←decide_not];congr 1;rw[Int.not_lt]];exact q)
end
section
variable {X:Cx}
@[simp] noncomputable def nGe:D->D->Option (D×Bool)
 |.tup [.int n,.tup xs],.tup [.int m,.tup ys]=>(cM xs).bind λas=>(cM ys).bind λbs=>(aJ (.i n::as) (.i m::bs)).map λr=>(.bl (!r),false)
 |_,_=>none
theorem tm {pins:List (Addr×Obj)}{σ:St}{H:Hp}{s:Shared}{v:V}{u:Value}{d:D}{k:List At}(I:Inv X pins σ H s)(r:aS v u)(i:Is X.K H v d)(e:Cz d=some k):vn s.heap k u:=by
 have:=m8 I (ys:=[v]) (ds:=[d]) (ks:=[k]) (its:=[u]) (.cons r .nil) (.cons i .nil) (by simp only[fS,e];rfl);cases this;assumption
theorem GP (hu:X.A.units+40<cLine):OpR X (compareOp .GtE) (rD X.K nGe):=by
 intro pins s σ H x y v u Q I rx ry q;obtain⟨B,dx,dy,d,b,sB,ix,iy,e,q⟩:=q;unfold nGe at e;split at e
 ·rename_i n xs m ys;obtain⟨as,e1,e⟩:=oX e;obtain⟨bs,e2,e⟩:=oX e;obtain⟨r,e3,e⟩:=oY e;cases e
  obtain⟨n1,k1,a1,o1,i1,c1,u1,x1,z1,rfl,ho1,hc1,hd1,ei1,an1,tx1⟩:=tm I rx (ix.mono sB) (k:=.i n::as) (by show(cM xs).map _=_;rw[e1];rfl);obtain⟨n2,k2,a2,o2,i2,c2,u2,x2,z2,rfl,ho2,hc2,hd2,ei2,an2,tx2⟩:=tm I ry (iy.mono sB) (k:=.i m::bs) (by show(cM ys).map _=_;rw[e2];rfl);cases z1
  cases z2
  show wpAny _ _ (richCompare .GtE (.ref _) (.ref _)) _ _ _;refine D5 ⟨o1,ho1,hc1⟩ ⟨o2,ho2,hc2⟩ ho1 hd1 ho2 hd2 ?_ (by omega) ⟨.bl (!r),H,I,rfl,q.one sB (.bl (!r))⟩;have l1:i1.size=2:=by rw[←Array.length_toList,ei1];rfl
  have l2:i2.size=2:=by rw[←Array.length_toList,ei2];rfl
  rw[l1,l2,ei1,ei2];exact C1 tx1 tx2 e3 (by show X.A.units+1<cLine;omega) an1 an2
 ·cases e
end
end DL
namespace DL
open PySem L2
theorem iz {tg:FG}{g:FS}(I:Nat->Env->Prop)(ds:List D)(ρ0:Env)(h0:I 0 ρ0)
  (step:∀i d ρ,ds[i]? = some d->I i ρ->∃ρ1 ρ',tg d ρ=some ρ1/\(g ρ1=some (.nx ρ')∨g ρ1=some (.ct ρ'))/\I (i+1) ρ'):
  ∃ρ',fY tg g ds ρ0=some (.nx ρ')/\I ds.length ρ':=by
 have key:∀(es:List D)(i:Nat)(ρ:Env),ds.drop i=es->i+es.length=ds.length->I i ρ->∃ρ',fY tg g es ρ=some (.nx ρ')/\I ds.length ρ':=by
  intro es;induction es with
  |nil=>intro i ρ e hl h;refine⟨ρ,by rw[zm],?_⟩;rw[←hl];exact h
  |cons d es ih=>
   intro i ρ e hl h;have hd:ds[i]? = some d:=by
    have:(ds.drop i)[0]? = some d:=by rw[e];rfl
    rwa [List.getElem?_drop,Nat.add_zero]at this
   obtain⟨ρ1,ρ',h1,h2,h3⟩:=step i d ρ hd h;have he:ds.drop (i+1)=es:=by rw[←List.drop_drop,e];rfl
   obtain⟨ρ2,k1,k2⟩:=ih (i+1) ρ' he (by simp at hl;omega) h3;refine⟨ρ2,?_,k2⟩;rw[xO,h1];rcases h2 with h2|h2<;>simp only[Option.bind_some,h2]<;>exact k1
 exact key ds 0 ρ0 (by simp) (by simp) h0
theorem i6 {tg:FG}{g:FS}(n:Nat)(I:Nat->Env->Prop)(ρ0:Env)(h0:I 0 ρ0)
  (step:∀(i:Nat) ρ,i<n->I i ρ->∃ρ1 ρ',tg (.int (i:Int)) ρ=some ρ1/\(g ρ1=some (.nx ρ')∨g ρ1=some (.ct ρ'))/\I (i+1) ρ'):
  ∃ρ',fY tg g (de 0 n) ρ0=some (.nx ρ')/\I n ρ':=by
 have hl:(de 0 n).length=n:=by simp[de]
 obtain⟨ρ',h1,h2⟩:=iz (tg:=tg) (g:=g) I (de 0 n) ρ0 h0 λi d ρ hd h=>by
  unfold de at hd;rw[List.getElem?_map]at hd;obtain⟨k,hk,hd⟩:=oY hd;obtain⟨hlt,hk⟩:=List.getElem?_eq_some_iff.mp hk;rw[List.length_range]at hlt;rw[List.getElem_range]at hk;subst hk;rw[Int.zero_add]at hd;subst hd;exact step i ρ hlt h
 rw[hl]at h2;exact⟨ρ',h1,h2⟩
theorem i7 {α:Type}{xs:List α}{j:Nat}(h:j<xs.length):atI xs (j:Int)=some xs[j]:=B1 (by simp[h])
theorem qA {α:Type}{xs:List α}{i:Int}(h0:0<=i)(h:i.toNat<xs.length):atI xs i=some xs[i.toNat]:=by
 have:=i7 h;rwa [Int.toNat_of_nonneg h0]at this
@[simp] theorem D6 (xs:List Int):bd (xs.map D.int)=true:=by
 induction xs with
 |nil=>simp
 |cons x xs ih=>simp[ih]
@[simp] theorem Bd (n:Nat)(xs:List Int):(xs.map D.int).all (aj n)=true:=by
 induction xs with
 |nil=>simp
 |cons x xs ih=>simpa using ih
@[simp] theorem C2 (xs:List Int):(xs.map D.int).all eW=true:=by
 induction xs with
 |nil=>simp
 |cons x xs ih=>simpa using ih
theorem yt (n:Nat):de 0 n=((List.range n).map λ(k:Nat)=>(k:Int)).map D.int:=by
 unfold de;rw[List.map_map];apply List.map_congr_left;intro k _;simp
mutual
noncomputable def jF:D->D->Bool
 |.non,.non=>true
 |.bl a,.bl b=>a == b
 |.int a,.int b=>decide (a=b)
 |.str a,.str b=>decide (a=b)
 |.ty a,.ty b=>decide (a=b)
 |.tup xs,.tup ys=>mC xs ys
 |.lst xs,.lst ys=>mC xs ys
 |_,_=>false
noncomputable def mC:List D->List D->Bool
 |[],[]=>true
 |x::xs,y::ys=>jF x y && mC xs ys
 |_,_=>false
end
mutual
theorem wF:∀ {x y:D},jF x y=true->x=y
 |.non,.non,_=>rfl
 |.bl a,.bl b,h=>by simp[jF]at h;rw[h]
 |.int a,.int b,h=>by simp[jF]at h;rw[h]
 |.str a,.str b,h=>by simp[jF]at h;rw[h]
 |.ty a,.ty b,h=>by simp[jF]at h;rw[h]
 |.tup xs,.tup ys,h=>by rw[jF]at h;rw[mD h]
 |.lst xs,.lst ys,h=>by rw[jF]at h;rw[mD h]
theorem mD:∀ {xs ys:List D},mC xs ys=true->xs=ys
 |[],[],_=>rfl
 |x::xs,y::ys,h=>by
  rw[mC,Bool.and_eq_true]at h;rw[wF h.1,mD h.2]
end
noncomputable def isR (r:Option (D×Bool))(d:D)(b:Bool):Bool:=match r with
 |some (e,c)=>jF e d && c == b
 |none=>false
theorem aW {r:Option (D×Bool)}{d:D}{b:Bool}(h:isR r d b=true):r=some (d,b):=by
 unfold isR at h;split at h
 ·rw[Bool.and_eq_true]at h;rw[wF h.1,eq_of_beq h.2]
 ·cases h
section
variable {f:FE}{c:FT}{g g' h:FS}{ρ ρ':Env}{i:Nat}{d:D}{b:Bool}{r:Option Res}{ds:List D}
theorem ay {n k:Nat}(hl:ds.length=n)(e:g (ds.map (λd=>some (d,false))++List.replicate k none)=some (.rt d b)):aO g n k ds=some (d,b):=by
 unfold aO;rw[if_pos hl,e]
theorem px (n:aZ d=true):setE ρ i d b=ρ.set i (some (d,false)):=by unfold setE;rw[if_pos n]
theorem tp (n:bd ds=true):setE ρ i (.lst ds) true=ρ.set i (some (.lst ds,true)):=by
 unfold setE;rw[if_neg (by simp),if_pos ⟨rfl,by simpa using n⟩]
theorem D7 (e:f ρ=some (d,b))(k:h (setE ρ i d b)=r):aA (aP i f) h ρ=r:=by simp[e];exact k
theorem Fh (e:f ρ=some (d,b))(n:aZ d=true)(k:h (ρ.set i (some (d,false)))=r):aA (aP i f) h ρ=r:=D7 e (by rw[px n];exact k)
theorem bX (e:f ρ=some (.lst ds,true))(n:bd ds=true)(k:h (ρ.set i (some (.lst ds,true)))=r):aA (aP i f) h ρ=r:=D7 e (by rw[tp n];exact k)
theorem d3 (e:g ρ=some (.nx ρ'))(k:h ρ'=r):aA g h ρ=r:=by unfold aA;rw[e];exact k
theorem HL (e:g ρ=some (.rt d b)):aA g h ρ=some (.rt d b):=by unfold aA;rw[e]
theorem HM (e:g ρ=some (.ct ρ')):aA g h ρ=some (.ct ρ'):=by unfold aA;rw[e]
theorem iR (e:c ρ=some true)(k:g ρ=r):gIf c g g' ρ=r:=by unfold gIf;rw[e];exact k
theorem jo (e:c ρ=some false)(k:g' ρ=r):gIf c g g' ρ=r:=by unfold gIf;rw[e];exact k
theorem bw (e:c ρ=some true)(k:g ρ=some (.rt d b)):aA (gIf c g g') h ρ=some (.rt d b):=HL (iR e k)
theorem aB (e:c ρ=some false)(k:h ρ=r):aA (gIf c g ba) h ρ=r:=d3 (jo e rfl) k
theorem a9 (e:f ρ=some (d,b)):aV f ρ=some (.rt d b):=by simp[e]
theorem jG (e:ρ[i]? = some (some (d,b)))(hb:Db d=false:=by rfl):j3 i ρ=some (.rt d b):=by simp only[j3,e,hb];simp
theorem mE (e:f ρ=some (d,b))(n:aZ d=true):aP i f ρ=some (.nx (ρ.set i (some (d,false)))):=by
 show(f ρ).map _=_;rw[e,Option.map_some,px n]
theorem qB (e:f ρ=some (.lst ds,true))(n:bd ds=true):aP i f ρ=some (.nx (ρ.set i (some (.lst ds,true)))):=by
 show(f ρ).map _=_;rw[e,Option.map_some,tp n]
theorem gd (e:ρ[i]? = some (some (.lst ds,true)))(ef:f ρ=some (d,b))(n:aZ d=true)(l:ds.length<sizeLine):gF i f ρ=some (.nx (ρ.set i (some (.lst (ds++[d]),true)))):=by
 simp[e,ef,n,l]
theorem D8 (e:ρ[i]? = some (some (.lst ds,true)))(ef:f ρ=some (d,b))(n:aZ d=true)(l:ds.length<sizeLine)(k:h (ρ.set i (some (.lst (ds++[d]),true)))=r):aA (gF i f) h ρ=r:=d3 (gd e ef n l) k
theorem gu {fi:FA}{tg:FG}{ds:List D}(e:fi ρ=some ds)(k:fY tg g ds ρ=some (.nx ρ')):gZ fi tg g ρ=some (.nx ρ'):=by unfold gZ;rw[e];exact k
theorem qC {fi:FA}{tg:FG}{ds:List D}(e:fi (rK ρ)=some ds)(k:fY tg g ds ρ=some (.nx ρ')):rL fi tg g ρ=some (.nx ρ'):=by unfold rL;rw[e];exact k
theorem fm {f:FE}{j:Nat}(e:f ρ=some (.int j,b))(hj:j<=1000):dB f ρ=some (de 0 j):=by
 unfold dB;rw[e];simp only[];rw[if_pos (by omega)];simp
theorem vq {x:Bool}(e:f ρ=some (.bl x,b)):tOf f ρ=some x:=by unfold tOf;rw[e]
theorem wG {F:List D->Option (D×Bool)}{fa:FA}{x:Option (D×Bool)}(e:fa ρ=some ds)(k:F ds=x):fA F fa ρ=x:=by unfold fA;rw[e,Option.bind_some];exact k
theorem Av {f1 g1:D->D->Option (D×Bool)}{fa fb fc:FE}{x y z:D}{b1 b2 b3 b4 p q:Bool}(ea:fa ρ=some (x,b1))(eb:fb ρ=some (y,b2))(ec:fc ρ=some (z,b3))(e1:f1 x y=some (.bl p,b4))(e2:p=true->g1 y z=some (.bl q,false)):ki f1 g1 fa fb fc ρ=some (.bl (p && q),false):=by
 unfold ki;rw[ea,eb,ec];simp only[Option.bind_some,e1];cases p
 ·rfl
 ·exact e2 rfl
theorem du {f1 f2:FE}{p q b1:Bool}(e1:f1 ρ=some (.bl p,b1))(e2:p=true->f2 ρ=some (.bl q,false)):hX f1 f2 ρ=some (.bl (p && q),false):=by
 unfold hX;rw[e1];cases p
 ·rfl
 ·exact e2 rfl
theorem wH {f1 f2:FE}{p q b1:Bool}(e1:f1 ρ=some (.bl p,b1))(e2:p=false->f2 ρ=some (.bl q,false)):fOr f1 f2 ρ=some (.bl (p || q),false):=by
 unfold fOr;rw[e1];cases p
 ·exact e2 rfl
 ·rfl
theorem aE {fr:FA}{xs:List D}(e1:f ρ=some (d,b))(e2:fr ρ=some xs):ac f fr ρ=some (d::xs):=by
 unfold ac;rw[e1,Option.bind_some,e2,Option.bind_some]
theorem gw {op:D->D->Option (D×Bool)}{fa fb:FE}{x y:D}{b1 b2:Bool}{z:Option (D×Bool)}(e1:fa ρ=some (x,b1))(e2:fb ρ=some (y,b2))(e3:op x y=z):f2 op fa fb ρ=z:=by
 unfold f2;rw[e1,Option.bind_some,e2,Option.bind_some];exact e3
theorem dj {c1 c2:FT}{p q:Bool}(e1:c1 ρ=some p)(e2:p=true->c2 ρ=some q):cB c1 c2 ρ=some (p && q):=by
 unfold cB;rw[e1];cases p
 ·rfl
 ·exact e2 rfl
theorem cH {c1 c2:FT}{p q:Bool}(e1:c1 ρ=some p)(e2:p=false->c2 ρ=some q):hW c1 c2 ρ=some (p || q):=by
 unfold hW;rw[e1];cases p
 ·exact e2 rfl
 ·rfl
theorem ci {c1:FT}{p:Bool}(e1:c1 ρ=some p):dN c1 ρ=some (!p):=by
 unfold dN;rw[e1];rfl
end
theorem lt1 (a c:Nat):decide ([a]<[c])=decide (a<c):=by
 congr 1;rw[List.cons_lt_cons_iff];simp
@[simp] theorem Hf (a c:Nat):dLe (.str ⟨#[a]⟩) (.str ⟨#[c]⟩)=some (.bl (decide (a<=c)),false):=by
 unfold dLe;show some (D.bl (!decide ([c]<[a])),false)=_;rw[lt1];congr 3;by_cases h:c<a
 ·rw[decide_eq_true h,decide_eq_false (by omega)];rfl
 ·rw[decide_eq_false h,decide_eq_true (by omega)];rfl
theorem b8 {n:Nat}(h:n<=100000):n<sizeLine:=Nat.lt_of_le_of_lt h (by decide)
theorem cO {n:Nat}(h:n<=100000):n<=sizeLine:=Nat.le_of_lt (b8 h)
theorem gz {α:Type}{fi:FA}{nT:Nat}{cap:List Nat}{tg:FG}{c:FT}{fe:FE}{ρ:DL.Env}(l:List α)(g:α->D)(p:α->Bool)(h:α->D)(e:fi ρ=some (l.map g))(hl:l.length<=100000)
  (k:∀x∈l,∃ρ1,tg (g x) (bP nT cap ρ)=some ρ1/\c ρ1=some (p x)/\(p x=true->∃b,fe ρ1=some (h x,b))):bQ fi nT cap tg c fe ρ=some (.lst ((l.filter p).map h),true):=by
 have key:∀l':List α,(∀x∈l',x∈l)->fw tg c fe (bP nT cap ρ) (l'.map g)=some ((l'.filter p).map h):=by
  intro l';induction l' with
  |nil=>intro _;simp
  |cons x l' ih=>
   intro hm;obtain⟨ρ1,h1,h2,h3⟩:=k x (hm x mX);have ih:=ih λy hy=>hm y (mZ _ hy);rw[List.map_cons,uH,h1,Option.bind_some,h2,Option.bind_some];cases hp:p x with
   |false=>simp[hp,ih]
   |true=>
    obtain⟨b,h4⟩:=h3 hp;simp[hp,ih,h4]
 unfold bQ;rw[e,Option.bind_some,if_pos (cO (by simpa using hl)),key l λ_ h=>h,Option.map_some]
theorem tq {α:Type}{fi:FA}{nT:Nat}{cap:List Nat}{tg:FG}{fe:FE}{ρ:DL.Env}(l:List α)(g:α->D)(h:α->D)(e:fi ρ=some (l.map g))(hl:l.length<=100000)
  (k:∀x∈l,∃ρ1,tg (g x) (bP nT cap ρ)=some ρ1/\∃b,fe ρ1=some (h x,b)):bQ fi nT cap tg iW fe ρ=some (.lst (l.map h),true):=by
 have:=gz (c:=iW) (fe:=fe) l g (λ_=>true) h e hl λx hx=>by
  obtain⟨ρ1,h1,h2⟩:=k x hx;exact⟨ρ1,h1,rfl,λ_=>h2⟩
 rw[List.filter_eq_self.mpr λ_ _=>rfl]at this;exact this
@[simp] theorem GQ {α:Type}(f:α->Bool)(l:List α):sr (l.map λx=>.bl (f x))=some (l.map f):=by
 induction l with
 |nil=>rfl
 |cons x l ih=>simp[ih]
theorem uA {z:Str}{i:Int}(h0:0<=i)(h:i.toNat<z.cps.size)(hz:z.length<=100000):ixD (.str z) (.int i)=some (.str ⟨#[z.cps.toList.getD i.toNat 0]⟩,false):=by
 have hh:i.toNat<z.cps.toList.length:=by simpa using h
 simp only[ixD];rw[if_pos (cO hz),qA h0 hh];simp[List.getD,h]
theorem mF {ds:List D}{i:Int}(h0:0<=i)(h:i.toNat<ds.length):ixD (.lst ds) (.int i)=some (ds.getD i.toNat .non,false):=by
 simp only[ixD];rw[qA h0 h];simp[List.getD,h]
theorem pN {ds:List D}{i:Int}(h0:0<=i)(h:i.toNat<ds.length):ixD (.tup ds) (.int i)=some (ds.getD i.toNat .non,false):=by
 simp only[ixD];rw[qA h0 h];simp[List.getD,h]
theorem wI {xs:List Int}{i:Int}(h0:0<=i)(h:i.toNat<xs.length):ixD (.lst (xs.map .int)) (.int i)=some (.int (xs.getD i.toNat 0),false):=by
 rw[mF h0 (by simpa using h)];simp[List.getD,h]
theorem mod_lt {x m:Int}(hm:0<m):0<=x % m/\x % m<m:=⟨Int.emod_nonneg _ (by omega),Int.emod_lt_of_pos _ hm⟩
theorem C3 {ds:List D}:eI [.lst ds]=some (.int ds.length,false):=rfl
theorem wJ {i j:Int}:dEq (.int i) (.int j)=some (.bl (decide (i=j)),false):=by simp
theorem eoF {ρ:Env}{op:D->D->Option (D×Bool)}{fa fb:FE}(x y:D){z:Option (D×Bool)}(e1:fa ρ=some (x,false))(e2:fb ρ=some (y,false))(e3:op x y=z):f2 op fa fb ρ=z:=gw e1 e2 e3
theorem tkF {ρ:Env}{f:FE}{x:Bool}(e:f ρ=some (.bl x,false)):tOf f ρ=some x:=vq e
theorem acF {ρ:Env}{f:FE}{d:D}{fr:FA}{xs:List D}(e1:f ρ=some (d,false))(e2:fr ρ=some xs):ac f fr ρ=some (d::xs):=aE e1 e2
theorem cdD {ρ:Env}{F:List D->Option (D×Bool)}{fa:FA}{x:Option (D×Bool)}(ds:List D)(e:fa ρ=some ds)(k:F ds=x):fA F fa ρ=x:=wG e k
theorem rfF {ρ:Env}{f:FE}{h:FS}{i:Nat}{r:Option Res}(d:D)(e:f ρ=some (d,false))(n:aZ d=true)(k:h (ρ.set i (some (d,false)))=r):aA (aP i f) h ρ=r:=Fh e n k
@[simp] noncomputable abbrev rkE (rows:List D)(known:Int)(t:Env):Env:=some (.tup rows,false)::some (.int known,false)::t
@[simp] noncomputable abbrev eR (ns:List Int)(zs:List Str)(ms:Int)(offs:List Str)(R:List D)(a b:Option (D×Bool))(t:Env):Env:=some (.lst (ns.map .int),false)::some (.lst (zs.map .str),false)::some (.int ms,false)::a::some (.lst (offs.map .str),true)::some (.lst R,true)::b::t
end DL
namespace Lw
open PySem DL
noncomputable def mG:D:=(.tup [(.str "paper"),(.str "like"),(.str "copy")])
noncomputable def eD:List (PySem.Str×D):=[(("root" : Str),(.tup [(.str "office"),(.str "matters"),(.str "further"),(.str "rule")])),(("named" : Str),(.tup [(.str "day"),(.str "office"),(.str "person")])),(("chosen" : Str),(.tup [(.str "day"),(.str "by"),(.str "office"),(.str "person"),(.str "since")])),(("heir" : Str),(.tup [(.str "day"),(.str "by"),(.str "office"),(.str "person")])),(("death" : Str),(.tup [(.str "day"),(.str "person")])),(("lost" : Str),(.tup [(.str "day"),(.str "person")])),(("found" : Str),(.tup [(.str "day"),(.str "person")])),(("leave" : Str),(.tup [(.str "day"),(.str "by"),(.str "person"),(.str "matters"),(.str "stretch"),(.str "further")])),(("paper" : Str),(.tup [(.str "day"),(.str "by"),(.str "matters"),(.str "stretch"),(.str "whom"),(.str "pieces")])),(("like" : Str),(.tup [(.str "day"),(.str "by"),(.str "matters"),(.str "stretch"),(.str "whom"),(.str "of"),(.str "changes")])),(("copy" : Str),(.tup [(.str "day"),(.str "by"),(.str "of")])),(("call" : Str),(.tup [(.str "day"),(.str "by"),(.str "of")]))]
noncomputable def dW:D:=(.tup [(.str "chosen"),(.str "heir"),(.str "leave"),(.str "paper"),(.str "like"),(.str "copy"),(.str "call")])
noncomputable def pz:FS :=
  (aV (f2 ixD (ixV 0 1) (fC (.int 0))))
noncomputable def aC:=aO pz 1 0
noncomputable def p0:FS :=
  (aV (f2 ixD (ixV 0 1) (f2 bv (fC (.int 1)) (f2 (lz eD) (fA aC (ac (ae 0) ah)) (ae 1)))))
noncomputable def ai:=aO p0 2 0
noncomputable def tu:FS :=
  (aA (gIf (tOf (f2 dEq (fA aC (ac (ae 0) ah)) (fC (.str "root")))) (aV (fC .non)) ba)
  (aV (fA ai (ac (ae 0) (ac (fC (.str "day")) ah)))))
noncomputable def aK:=aO tu 1 0
noncomputable def wK:FS :=
  (aV (bQ (zI (ae 0)) 2 [1] (tgT [0,1]) (tOf (f2 dLe (ixV 1 0) (ae 2))) (ae 0)))
noncomputable def bO:=aO wK 2 0
noncomputable def Aw:FS :=
  (aV (fA aL (ac (fA aK (ac (f2 ixD (ae 0) (ae 1)) ah)) (ac (ae 1) ah))))
noncomputable def c8:=aO Aw 2 0
noncomputable def mH:FS :=
  (aA (aP 2 (bQ (cG (fA bO (ac (ae 0) (ac (ae 1) ah)))) 1 [0] (tgN 0) (tOf (f2 ij (fA aK (ac (f2 ixD (ae 1) (ae 0)) ah)) (fC .non))) (ae 0)))
  (aV (mq (ae 2) (mo [0] (fA c8 (ac (ae 1) (ac (ae 0) ah)))))))
noncomputable def dX:=aO mH 2 1
noncomputable def kU:FS :=
  (aV (fA aL (ac (ixV 0 0) (ac (ixV 0 2) (ac (ixV 0 4) ah)))))
noncomputable def d4:=aO kU 1 0
noncomputable def wL:FS :=
  (aA (aP 2 (bQ (cG (fA bO (ac (ae 0) (ac (ae 1) ah)))) 1 [0] (tgN 0) iW (f2 ixD (ae 1) (ae 0))))
  (aV (fA gL (ac (bQ (cG (ae 2)) 1 [] (tgN 0) (tOf (f2 dEq (fA aC (ac (ae 0) ah)) (fC (.str "root")))) (fA aL (ac (fA ai (ac (ae 0) (ac (fC (.str "office")) ah))) (ac (ae 0) ah)))) ah))))
noncomputable def eY:=aO wL 2 1
noncomputable def mI:FS :=
  (aV (hX (ki dLe dLt (fC (.int 0)) (ae 2) (fA eI (ac (ae 0) ah))) (f2 dLe (f2 ixD (f2 ixD (ae 0) (ae 2)) (fC (.int 0))) (ae 1))))
noncomputable def bR:=aO mI 3 0
noncomputable def wM:FS :=
  (aV (hX (f2 dIn (fA aC (ac (ae 0) ah)) (ae 1)) (hX (f2 dEq (fA ai (ac (ae 0) (ac (fC (.str "person")) ah))) (ae 2)) (f2 dLe (fA aK (ac (ae 0) ah)) (ae 3)))))
noncomputable def jH:=aO wM 4 0
noncomputable def p4:FS :=
  (aV (bQ (cG (fA bO (ac (ae 0) (ac (ae 1) ah)))) 1 [2,3,4,0] (tgN 0) (tOf (fA jH (ac (f2 ixD (ae 4) (ae 0)) (ac (ae 1) (ac (ae 2) (ac (ae 3) ah)))))) (ae 0)))
noncomputable def cY:=aO p4 5 0
noncomputable def wN:FS :=
  (aV (f2 dEq (fA eI (ac (fA cY (ac (ae 0) (ac (ae 1) (ac (fA aL (ac (fC (.str "death")) ah)) (ac (ae 2) (ac (ae 3) ah)))))) ah)) (fC (.int 0))))
noncomputable def gM:=aO wN 4 0
noncomputable def mJ:FS :=
  (aA (aP 4 (fA cY (ac (ae 0) (ac (ae 1) (ac (fA aL (ac (fC (.str "lost")) (ac (fC (.str "found")) ah))) (ac (ae 2) (ac (ae 3) ah)))))))
  (aA (gIf (tOf (f2 dEq (fA eI (ac (ae 4) ah)) (fC (.int 0)))) (aV (fC (.bl true))) ba)
  (aV (f2 dEq (fA aC (ac (f2 ixD (ae 0) (ph (ae 4) (mo [0] (fA c8 (ac (ae 1) (ac (ae 0) ah)))))) ah)) (fC (.str "found"))))))
noncomputable def gN:=aO mJ 4 1
noncomputable def mK:FS :=
  (aA (gIf (hW (dN (tOf (fA bR (ac (ae 0) (ac (ae 1) (ac (ae 2) ah)))))) (tOf (f2 f9 (fA aC (ac (f2 ixD (ae 0) (ae 2)) ah)) (fC dW)))) (aV (fC (.bl false))) ba)
  (aA (aP 3 (fA ai (ac (f2 ixD (ae 0) (ae 2)) (ac (fC (.str "by")) ah))))
  (aA (aP 4 (fA aK (ac (f2 ixD (ae 0) (ae 2)) ah)))
  (aV (hX (fA gM (ac (ae 0) (ac (ae 1) (ac (ae 3) (ac (ae 4) ah))))) (fA gN (ac (ae 0) (ac (ae 1) (ac (ae 3) (ac (ae 4) ah))))))))))
noncomputable def gO:=aO mK 3 2
noncomputable def p5:FS :=
  (aV (hX (f2 dLe (ixV 1 0) (ae 0)) (fOr (f2 dIs (ixV 1 1) (fC .non)) (f2 dLt (ae 0) (ixV 1 1)))))
noncomputable def dY:=aO p5 2 0
noncomputable def mL:FS :=
  (aV (fA dY (ac (ae 1) (ac (fA aL (ac (ixV 0 2) (ac (ixV 0 3) ah))) ah))))
noncomputable def b9:=aO mL 2 0
noncomputable def mM:FS :=
  (aV (fA aL (ac (ixV 0 2) (ac (ixV 0 4) ah))))
noncomputable def bS:=aO mM 1 0
noncomputable def mN:FS :=
  (aA (gIf (tOf (f2 dEq (ae 1) (fC (.str "last")))) (aV (f2 ixD (ph (ae 0) (om bS)) (fC (.int 1)))) ba)
  (aV (f2 ixD (pi (ae 0) (om bS)) (fC (.int 1)))))
noncomputable def gP:=aO mN 2 0
noncomputable def kW:FS :=
  (aA (aP 3 (bQ (cG (ae 0)) 1 [2,1] (tgN 0) (cB (tOf (f2 dEq (ixV 0 0) (fA ai (ac (ae 2) (ac (fC (.str "office")) ah))))) (tOf (fA b9 (ac (ae 0) (ac (ae 1) ah))))) (ae 0)))
  (aA (aP 4 (f1 eM (bQ (cG (ae 3)) 1 [] (tgN 0) iW (ixV 0 1))))
  (aA (gIf (tOf (f2 dEq (fA eI (ac (ae 4) ah)) (fC (.int 0)))) (aV (fA aL (ac (fC (.str "none")) ah))) ba)
  (aA (gIf (cB (tOf (f2 iGt (fA eI (ac (ae 4) ah)) (fC (.int 1)))) (tOf (f2 dEq (fA ai (ac (ae 1) (ac (fC (.str "rule")) ah))) (fC (.str "open"))))) (aV (fA aL (ac (fC (.str "parted")) (ac (ae 4) ah)))) ba)
  (aA (aP 5 (fA gP (ac (ae 3) (ac (fA ai (ac (ae 1) (ac (fC (.str "rule")) ah))) ah))))
  (aA (aP 6 (pi (bQ (cG (ae 3)) 1 [5] (tgN 0) (tOf (f2 dEq (ixV 0 1) (ae 1))) (ae 0)) (om bS)))
  (aV (fA aL (ac (fC (.str "one")) (ac (ae 5) (ac (ixV 6 4) ah)))))))))))
noncomputable def bY:=aO kW 3 4
noncomputable def jI:FS :=
  (aV (f2 dEq (fSl (fA bY (ac (ae 0) (ac (ae 1) (ac (ae 3) ah)))) zy (wb (fC (.int 2)))) (fA aL (ac (fC (.str "one")) (ac (ae 2) ah)))))
noncomputable def bZ:=aO jI 4 0
noncomputable def g7:FS :=
  (aA (aP 3 (f2 ixD (ae 0) (ae 2)))
  (aA (aP 4 (fA cY (ac (ae 0) (ac (ae 1) (ac (fA aL (ac (fC (.str "death")) ah)) (ac (fA ai (ac (ae 3) (ac (fC (.str "person")) ah))) (ac (fA aK (ac (ae 3) ah)) ah)))))))
  (aV (f2 dEq (pi (ae 4) (mo [0] (fA c8 (ac (ae 1) (ac (ae 0) ah))))) (ae 2)))))
noncomputable def cZ:=aO g7 3 2
noncomputable def tw:FS :=
  (aA (aP 4 (f2 ixD (ae 0) (ae 3)))
  (aA (gIf (tOf (f2 dEq (fA aC (ac (ae 4) ah)) (fC (.str "death")))) (aV (fA cZ (ac (ae 0) (ac (ae 1) (ac (ae 3) ah))))) ba)
  (aA (gIf (tOf (f2 f9 (fA aC (ac (ae 4) ah)) (fA aL (ac (fC (.str "named")) (ac (fC (.str "chosen")) (ac (fC (.str "heir")) ah)))))) (aV (fC (.bl false))) ba)
  (aA (aP 5 (f2 Ae (fA eY (ac (ae 0) (ac (ae 1) ah))) (fA ai (ac (ae 4) (ac (fC (.str "office")) ah)))))
  (aA (gIf (tOf (f2 dIs (ae 5) (fC .non))) (aV (fC (.bl false))) ba)
  (aA (gIf (tOf (f2 dEq (fA aC (ac (ae 4) ah)) (fC (.str "named")))) (aV (fC (.bl true))) ba)
  (aV (hX (fA gO (ac (ae 0) (ac (ae 1) (ac (ae 3) ah)))) (fA bZ (ac (ae 2) (ac (ae 5) (ac (fA ai (ac (ae 4) (ac (fC (.str "by")) ah))) (ac (fA aK (ac (ae 4) ah)) ah)))))))))))))
noncomputable def iA:=aO tw 4 2
noncomputable def kX:FS :=
  (aV (fA aL (ac (fA ai (ac (ae 0) (ac (fC (.str "office")) ah))) (ac (fA ai (ac (ae 0) (ac (fC (.str "person")) ah))) (ac (ae 1) (ac (fC .non) (ac (ae 2) ah)))))))
noncomputable def cP:=aO kX 3 0
noncomputable def mO:FS :=
  (gIf (hW (tOf (f2 f9 (ixV 5 0) (ae 1))) (hW (tOf (f2 dNe (ixV 5 1) (ae 2))) (dN (hW (tOf (fA b9 (ac (ae 5) (ac (ae 3) ah)))) (tOf (f2 iGt (ixV 5 2) (ae 3))))))) (gF 4 (ae 5)) (gIf (tOf (f2 dLt (ixV 5 2) (ae 3))) (gF 4 (fA aL (ac (ixV 5 0) (ac (ae 2) (ac (ixV 5 2) (ac (ae 3) (ac (ixV 5 4) ah))))))) ba))
noncomputable def wO:FS :=
  (aA (aP 4 (fA bp ah))
  (aA (rL (cG (ae 0)) (tgN 5) mO)
  (j3 4)))
noncomputable def iN:=aO wO 4 2
noncomputable def iB:FS :=
  (aA (aP 3 (fA ai (ac (ae 1) (ac (fC (.str "since")) ah))))
  (aA (aP 4 (fA iN (ac (ae 0) (ac (fA bp (ac (fA ai (ac (ae 1) (ac (fC (.str "office")) ah))) ah)) (ac (fA ai (ac (ae 1) (ac (fC (.str "by")) ah))) (ac (ae 3) ah))))))
  (aV (f2 bv (ae 4) (fA bp (ac (fA cP (ac (ae 1) (ac (ae 3) (ac (ae 2) ah)))) ah))))))
noncomputable def dE:=aO iB 3 2
noncomputable def eZ:FS :=
  (aA (aP 9 (Ak (ae 3) (ac (ae 8) (ac (ae 5) ah))))
  (gIf (cB (tOf (f2 ij (ae 9) (fC .non))) (tOf (fA gM (ac (ae 0) (ac (ae 1) (ac (ae 9) (ac (ae 6) ah))))))) (gF 7 (fA aL (ac (ae 8) (ac (ae 9) (ac (ae 6) (ac (fC .non) (ac (ae 4) ah))))))) ba))
noncomputable def kY:FS :=
  (aA (aP 5 (fA ai (ac (f2 ixD (ae 0) (ae 4)) (ac (fC (.str "person")) ah))))
  (aA (aP 6 (fA aK (ac (f2 ixD (ae 0) (ae 4)) ah)))
  (aA (aP 7 (fA bp ah))
  (aA (gUn [5,6] (rL (cG (f1 eM (bQ (cG (ae 2)) 1 [5,6] (tgN 0) (cB (tOf (f2 dEq (ixV 0 1) (ae 1))) (tOf (fA b9 (ac (ae 0) (ac (ae 2) ah))))) (ixV 0 0)))) (tgN 8) eZ))
  (j3 7)))))
noncomputable def fT:=aO kY 5 5
noncomputable def jc:FS :=
  (aA (aP 5 (bQ (cG (ae 2)) 1 [] (tgN 0) iW (ixV 0 0)))
  (aA (aP 6 (fA iN (ac (ae 2) (ac (ae 5) (ac (fA ai (ac (f2 ixD (ae 0) (ae 4)) (ac (fC (.str "person")) ah))) (ac (fA aK (ac (f2 ixD (ae 0) (ae 4)) ah)) ah))))))
  (aV (f2 bv (ae 6) (fA fT (ac (ae 0) (ac (ae 1) (ac (ae 2) (ac (ae 3) (ac (ae 4) ah))))))))))
noncomputable def eE:=aO jc 5 2
noncomputable def iO:FS :=
  (aA (aP 5 (f2 ixD (ae 0) (ae 4)))
  (aA (gIf (dN (tOf (fA iA (ac (ae 0) (ac (ae 1) (ac (ae 2) (ac (ae 4) ah))))))) Dz ba)
  (gIf (tOf (f2 dEq (fA aC (ac (ae 5) ah)) (fC (.str "named")))) (aP 2 (f2 bv (ae 2) (fA bp (ac (fA cP (ac (ae 5) (ac (fA aK (ac (ae 5) ah)) (ac (ae 4) ah)))) ah)))) (gIf (tOf (f2 dEq (fA aC (ac (ae 5) ah)) (fC (.str "chosen")))) (aP 2 (fA dE (ac (ae 2) (ac (ae 5) (ac (ae 4) ah))))) (gIf (tOf (f2 dEq (fA aC (ac (ae 5) ah)) (fC (.str "heir")))) (pq 3 (ac (fA ai (ac (ae 5) (ac (fC (.str "office")) ah))) (ac (fA ai (ac (ae 5) (ac (fC (.str "by")) ah))) ah)) (fA ai (ac (ae 5) (ac (fC (.str "person")) ah)))) (aP 2 (fA eE (ac (ae 0) (ac (ae 1) (ac (ae 2) (ac (ae 3) (ac (ae 4) ah))))))))))))
noncomputable def tz:FS :=
  (aA (aP 2 (fA bp ah))
  (aA (Ag 3)
  (aA (rL (cG (fA dX (ac (ae 0) (ac (ae 1) ah)))) (tgN 4) iO)
  (aV (mq (ae 2) (om d4))))))
noncomputable def jJ:=aO tz 2 4
noncomputable def mP:FS :=
  (aV (hX (fA bR (ac (ae 0) (ac (ae 1) (ac (ae 2) ah)))) (f2 dIn (fA aC (ac (f2 ixD (ae 0) (ae 2)) ah)) (fC mG))))
noncomputable def dZ:=aO mP 3 0
noncomputable def mQ:FS :=
  (aV (hX (fA bR (ac (ae 0) (ac (ae 1) (ac (ae 2) ah)))) (f2 dEq (fA aC (ac (f2 ixD (ae 0) (ae 2)) ah)) (fC (.str "leave")))))
noncomputable def dw:=aO mQ 3 0
noncomputable def mR:FS :=
  (aV (fOr (fA dw (ac (ae 0) (ac (ae 1) (ac (ae 2) ah)))) (fA dZ (ac (ae 0) (ac (ae 1) (ac (ae 2) ah))))))
noncomputable def gQ:=aO mR 3 0
noncomputable def mS:FS :=
  (aV (f2 dEq (f2 BL (ae 0) (ae 1)) (ae 1)))
noncomputable def g8:=aO mS 2 0
noncomputable def kZ:FS :=
  (aA (gIf (dN (tOf (fA g8 (ac (fA ai (ac (ae 1) (ac (fC (.str "matters")) ah))) (ac (fA ai (ac (ae 0) (ac (fC (.str "matters")) ah))) ah))))) (aV (fC (.str "matters"))) ba)
  (aA (gIf (cB (tOf (f2 dEq (fA aC (ac (ae 0) ah)) (fC (.str "leave")))) (tOf (f2 iGe (fA ai (ac (ae 0) (ac (fC (.str "further")) ah))) (fA ai (ac (ae 1) (ac (fC (.str "further")) ah)))))) (aV (fC (.str "further"))) ba)
  (aV (fC .non))))
noncomputable def d5:=aO kZ 2 0
noncomputable def jK:FS :=
  (aA (gIf (dN (tOf (fA bZ (ac (ae 0) (ac (ae 2) (ac (fA ai (ac (ae 1) (ac (fC (.str "by")) ah))) (ac (fA aK (ac (ae 1) ah)) ah))))))) (aV (fC (.str "holder"))) ba)
  (aV (fA d5 (ac (ae 1) (ac (ae 2) ah)))))
noncomputable def dF:=aO jK 3 0
noncomputable def iC:FS :=
  (aA (aP 4 (f2 ixD (ae 0) (ae 3)))
  (aA (aP 5 (bQ (vk (fA eY (ac (ae 0) (ac (ae 1) ah)))) 1 [2,4] (tgN 0) (tOf (f2 dIs (fA dF (ac (ae 1) (ac (ae 2) (ac (ae 0) ah)))) (fC .non))) (ae 0)))
  (aV (bQ (cG (ae 5)) 1 [2,4] (tgN 0) iW (fA aL (ac (fC (.str "office")) (ac (fA ai (ac (ae 0) (ac (fC (.str "office")) ah))) (ac (f2 ixD (fA bY (ac (ae 1) (ac (ae 0) (ac (fA aK (ac (ae 2) ah)) ah)))) (fC (.int 2))) ah))))))))
noncomputable def dG:=aO iC 4 2
noncomputable def jd:FS :=
  (aA (gIf (tOf (f2 dIs (ae 1) (fC .non))) (aV (fC (.bl true))) ba)
  (aV (hX (f2 ij (ae 0) (fC .non)) (f2 dLe (ae 0) (ae 1)))))
noncomputable def eF:=aO jd 2 0
noncomputable def la:FS :=
  (aV (hX (f2 dLe (ixV 1 0) (ixV 0 0)) (fA eF (ac (ixV 0 1) (ac (ixV 1 1) ah)))))
noncomputable def eO:=aO la 2 0
noncomputable def mT:FS :=
  (aV (f2 tLt (fA c8 (ac (ae 0) (ac (ae 1) ah))) (fA c8 (ac (ae 0) (ac (ae 2) ah)))))
noncomputable def dz:=aO mT 3 0
noncomputable def lb:FS :=
  (aA (aP 3 (f2 ixD (ae 0) (ae 1)))
  (aA (aP 4 (fA ai (ac (f2 ixD (ae 0) (ae 2)) (ac (fC (.str "stretch")) ah))))
  (aA (gIf (dN (tOf (fA dz (ac (ae 0) (ac (ae 2) (ac (ae 1) ah)))))) (aV (fC (.str "order"))) ba)
  (aA (gIf (hW (dN (tOf (fA dY (ac (fA aK (ac (ae 3) ah)) (ac (ae 4) ah))))) (dN (tOf (fA eO (ac (fA ai (ac (ae 3) (ac (fC (.str "stretch")) ah))) (ac (ae 4) ah)))))) (aV (fC (.str "days"))) ba)
  (aV (fA d5 (ac (ae 3) (ac (f2 ixD (ae 0) (ae 2)) ah))))))))
noncomputable def eP:=aO lb 3 2
noncomputable def lf:FS :=
  (aA (aP 3 (bQ (cG (fA bO (ac (ae 0) (ac (ae 1) ah)))) 1 [0,1] (tgN 0) (tOf (fA dw (ac (ae 1) (ac (ae 2) (ac (ae 0) ah))))) (ae 0)))
  (aV (bQ (cG (ae 3)) 1 [2,0] (tgN 0) (tOf (f2 dEq (fA ai (ac (f2 ixD (ae 2) (ae 0)) (ac (fC (.str "person")) ah))) (ae 1))) (ae 0))))
noncomputable def fU:=aO lf 3 1
noncomputable def je:FS :=
  (aA (aP 3 (fA fU (ac (ae 0) (ac (ae 1) (ac (fA ai (ac (f2 ixD (ae 0) (ae 2)) (ac (fC (.str "by")) ah))) ah)))))
  (aV (bQ (cG (ae 3)) 1 [0,2] (tgN 0) (tOf (f2 dIs (fA eP (ac (ae 1) (ac (ae 2) (ac (ae 0) ah)))) (fC .non))) (fA aL (ac (fC (.str "leave")) (ac (ae 0) ah))))))
noncomputable def eG:=aO je 3 1
noncomputable def jL:FS :=
  (aA (aP 3 (fA ai (ac (f2 ixD (ae 0) (ae 2)) (ac (fC (.str "of")) ah))))
  (aA (gIf (cB (tOf (fA dZ (ac (ae 0) (ac (ae 1) (ac (ae 3) ah))))) (tOf (fA dz (ac (ae 0) (ac (ae 3) (ac (ae 2) ah)))))) (aV (fA bp (ac (fA aL (ac (fC (.str "copy")) (ac (ae 3) ah))) ah))) ba)
  (aV (fA bp ah))))
noncomputable def gR:=aO jL 3 1
noncomputable def mU:FS :=
  (aA (gIf (dN (tOf (fA gQ (ac (ae 0) (ac (ae 1) (ac (ae 3) ah)))))) (aV (fA bp ah)) ba)
  (aA (gIf (tOf (f2 dEq (fA aC (ac (f2 ixD (ae 0) (ae 3)) ah)) (fC (.str "copy")))) (aV (fA gR (ac (ae 0) (ac (ae 1) (ac (ae 3) ah))))) ba)
  (aA (aP 4 (f2 bv (fA dG (ac (ae 0) (ac (ae 1) (ac (ae 2) (ac (ae 3) ah))))) (fA eG (ac (ae 0) (ac (ae 1) (ac (ae 3) ah))))))
  (aV (vp (ae 4) (mo [] (fA aL (ac (f2 ixD (ae 0) (f1 oe (fC (.int 1)))) (ac (ae 0) ah)))))))))
noncomputable def gS:=aO mU 4 1
noncomputable def wP:FS :=
  (aV (fA gS (ac (ae 0) (ac (ae 1) (ac (fA jJ (ac (ae 0) (ac (ae 1) ah))) (ac (ae 2) ah))))))
noncomputable def qD:=aO wP 3 0
noncomputable def t6:FS :=
  (aA (aP 2 (fC (.int 5)))
  (aA (gIf (tOf (f2 iGt (fA eI (ac (ae 0) ah)) (fC (.int 0)))) (aP 2 (f2 ixD (ae 0) (f2 bj (ae 1) (fA eI (ac (ae 0) ah))))) ba)
  (aA (aP 2 (f2 bj (f2 eS (f2 bv (f2 bv (f2 bj (ae 2) (fC (.int 2147483629))) (f2 eS (fC (.int 6151)) (ae 1))) (fC (.int 1))) (fC (.int 48271))) (fC (.int 2147483647))))
  (aV (f2 bj (f2 eS (ae 2) (f2 bv (f2 bv (f2 bj (ae 2) (fC (.int 65519))) (ae 1)) (fC (.int 2)))) (fC (.int 2147483629)))))))
noncomputable def cC:=aO t6 2 1
noncomputable def jp:FS :=
  (aA (aP 6 (fA gJ (ac (ae 2) ah)))
  (aA (xZ 6 (ae 3) (f2 ixD (ae 1) (f2 bj (f2 bv (f2 cm (ae 0) (fC (.int 64))) (f2 eS (fC (.int 3)) (ae 5))) (fC (.int 26)))))
  (gF 4 (f2 kP (fC (.str "")) (ae 6)))))
noncomputable def p6:FS :=
  (aA (aP 1 (fC (.str "abcdefghijklmnopqrstuvwxyz")))
  (aA (aP 2 (bQ (dB (f2 bv (fC (.int 1)) (f2 bj (ae 0) (fC (.int 8))))) 1 [1,0] (tgN 0) iW (f2 ixD (ae 1) (f2 bj (f2 cm (ae 2) (f2 bv (fC (.int 3)) (f2 eS (fC (.int 4)) (ae 0)))) (fC (.int 26))))))
  (aA (aP 3 (f2 bj (f2 cm (ae 0) (fC (.int 8))) (fA eI (ac (ae 2) ah))))
  (aA (aP 4 (fA bp ah))
  (aA (gZ (dB (fC (.int 7))) (tgN 5) jp)
  (aA (gIf (tOf (f2 dEq (f2 bj (f2 cm (ae 0) (fC (.int 1000))) (fC (.int 8))) (fC (.int 1)))) (xZ 4 (fC (.int 5)) (ixV 4 0)) ba)
  (j3 4)))))))
noncomputable def kB:=aO p6 1 6
noncomputable def lg:FS :=
  (aA (aP 3 (fA bp (ac (fA aL (ac (fC (.int 0)) (ac (fC .non) ah))) (ac (fA aL (ac (ae 1) (ac (fC .non) ah))) (ac (fA aL (ac (ae 1) (ac (f2 bv (ae 1) (f2 eS (fC (.int 3)) (ae 2))) ah))) (ac (fA aL (ac (fC (.int 0)) (ac (f2 bv (ae 1) (f2 eS (fC (.int 2)) (ae 2))) ah))) (ac (fA aL (ac (fC (.int 0)) (ac (f2 eS (fC (.int 9)) (ae 2)) ah))) ah)))))))
  (aA (aP 3 (f2 bv (ae 3) (fA bp (ac (fA aL (ac (f2 bv (ae 1) (ae 2)) (ac (f2 bv (ae 1) (f2 eS (fC (.int 4)) (ae 2))) ah))) (ac (fA aL (ac (f2 cm (ae 1) (fC (.int 2))) (ac (f2 bv (ae 1) (f2 eS (fC (.int 6)) (ae 2))) ah))) (ac (fA aL (ac (fC (.int 0)) (ac (fC .non) ah))) ah))))))
  (aV (f2 ixD (ae 3) (f2 bj (ae 0) (fC (.int 8)))))))
noncomputable def d6:=aO lg 3 1
noncomputable def t7:FS :=
  (aA (aP 7 (f2 bv (f2 bv (yp (fA bp (ac (fC (.str "leave")) ah)) (fC (.int 5))) (yp (fA bp (ac (fC (.str "paper")) ah)) (fC (.int 2)))) (fA bp (ac (fC (.str "like")) (ac (fC (.str "copy")) (ac (fC (.str "copy")) (ac (fC (.str "call")) (ac (fC (.str "call")) ah))))))))
  (aA (aP 7 (f2 bv (ae 7) (fA bp (ac (fC (.str "named")) (ac (fC (.str "death")) (ac (fC (.str "lost")) (ac (fC (.str "found")) (ac (fC (.str "chosen")) (ac (fC (.str "heir")) ah)))))))))
  (aA (aP 8 (f2 ixD (ae 7) (f2 bj (ae 1) (fC (.int 18)))))
  (aA (aP 9 (f2 ixD (ae 5) (f2 nY (f1 oe (fC (.int 1))) (f2 bj (f2 cm (ae 1) (fC (.int 18))) (fA BT (ac (fC (.int 3)) (ac (fA eI (ac (ae 5) ah)) ah)))))))
  (aA (gIf (tOf (f2 dEq (f2 bj (f2 cm (ae 1) (fC (.int 54))) (fC (.int 6))) (fC (.int 1)))) (aP 9 (f2 ixD (ae 3) (f2 bj (f2 cm (ae 1) (fC (.int 324))) (fC (.int 5))))) ba)
  (aA (aP 10 (f2 ixD (ae 3) (f2 bj (f2 cm (ae 1) (fC (.int 1620))) (fC (.int 5)))))
  (aA (aP 11 (fA BS (ac (fC (.int 0)) (ac (f2 nY (f2 nY (ae 0) (fC (.int 1))) (f2 bj (ae 2) (fC (.int 4)))) ah))))
  (aA (gIf (tOf (f2 dEq (f2 bj (f2 cm (ae 2) (fC (.int 4))) (fC (.int 8))) (fC (.int 1)))) (aP 11 (f2 bj (f2 cm (ae 2) (fC (.int 32))) (fC (.int 60)))) ba)
  (aA (gIf (tOf (f2 dEq (ae 8) (fC (.str "leave")))) (aA (aP 12 (f2 ixD (fA bp (ac (fC (.int 3)) (ac (fC (.int 1)) (ac (fC (.int 7)) (ac (fC (.int 2)) (ac (fC (.int 255)) (ac (fC (.int 5)) (ac (fC (.int 1)) (ac (fC (.int 3)) ah))))))))) (f2 bj (f2 cm (ae 1) (fC (.int 8100))) (fC (.int 8)))))
  (aA (aP 13 (f2 bj (f2 cm (ae 2) (fC (.int 256))) (f2 ixD (fA bp (ac (fC (.int 5)) (ac (fC (.int 5)) (ac (fC (.int 5)) (ac (fC (.int 10)) ah))))) (f2 bj (f2 cm (ae 2) (fC (.int 2560))) (fC (.int 4))))))
  (aV (fA aL (ac (ae 8) (ac (ae 4) (ac (ae 9) (ac (ae 10) (ac (ae 12) (ac (fA d6 (ac (f2 cm (ae 2) (fC (.int 32))) (ac (ae 4) (ac (ae 6) ah)))) (ac (ae 13) ah))))))))))) ba)
  (aA (gIf (hW (tOf (f2 dEq (ae 8) (fC (.str "paper")))) (tOf (f2 dEq (ae 8) (fC (.str "like"))))) (aA (aP 12 (f2 ixD (fA bp (ac (fC (.int 1)) (ac (fC (.int 1)) (ac (fC (.int 3)) (ac (fC (.int 2)) (ac (fC (.int 4)) (ac (fC (.int 5)) (ac (fC (.int 128)) (ac (fC (.int 7)) ah))))))))) (f2 bj (f2 cm (ae 1) (fC (.int 8100))) (fC (.int 8)))))
  (aA (aP 14 (fA aL (ac (ae 8) (ac (ae 4) (ac (ae 9) (ac (ae 12) (ac (fA d6 (ac (f2 cm (ae 2) (fC (.int 32))) (ac (ae 4) (ac (ae 6) ah)))) (ac (f2 ixD (fA bp (ac (fC .non) (ac (ae 10) ah))) (f2 bj (f2 cm (ae 2) (fC (.int 256))) (fC (.int 2)))) ah))))))))
  (aA (gIf (tOf (f2 dEq (ae 8) (fC (.str "like")))) (aV (f2 wA (ae 14) (fA aL (ac (ae 11) (ac (fA aL (ac (fA aL (ac (fC (.int 0)) (ac (ae 10) ah))) ah)) ah))))) ba)
  (aV (f2 wA (ae 14) (fA aL (ac (fA aL (ac (ae 10) ah)) ah))))))) ba)
  (aA (gIf (tOf (f2 dIn (ae 8) (fA aL (ac (fC (.str "copy")) (ac (fC (.str "call")) ah))))) (aV (fA aL (ac (ae 8) (ac (ae 4) (ac (ae 9) (ac (ae 11) ah)))))) ba)
  (aA (gIf (tOf (f2 dEq (ae 8) (fC (.str "named")))) (aV (fA aL (ac (ae 8) (ac (ae 4) (ac (f2 ixD (ae 3) (f2 bv (fC (.int 5)) (f2 bj (ae 2) (fC (.int 2))))) (ac (ae 10) ah)))))) ba)
  (aA (gIf (tOf (f2 dEq (ae 8) (fC (.str "chosen")))) (aV (fA aL (ac (ae 8) (ac (ae 4) (ac (ae 9) (ac (f2 ixD (ae 3) (f2 bv (fC (.int 5)) (f2 bj (ae 2) (fC (.int 2))))) (ac (ae 10) (ac (f2 bv (ae 4) (f2 eS (f2 bj (f2 cm (ae 2) (fC (.int 32))) (fC (.int 3))) (ae 6))) ah)))))))) ba)
  (aA (gIf (tOf (f2 dEq (ae 8) (fC (.str "heir")))) (aV (fA aL (ac (ae 8) (ac (ae 4) (ac (ae 9) (ac (f2 ixD (ae 3) (f2 bv (fC (.int 5)) (f2 bj (ae 2) (fC (.int 2))))) (ac (ae 10) ah))))))) ba)
  (aV (fA aL (ac (ae 8) (ac (ae 4) (ac (ae 9) ah)))))))))))))))))))
noncomputable def jM:=aO t7 7 8
noncomputable def kE:FS :=
  (aA (aP 8 (f2 ixD (fA bp (ac (fC (.str "open")) (ac (fC (.str "first")) (ac (fC (.str "last")) ah)))) (f2 bj (f2 cm (ae 4) (f2 bv (fC (.int 64)) (f2 eS (fC (.int 9)) (ae 7)))) (fC (.int 3)))))
  (aA (aP 9 (f2 ixD (fA bp (ac (fC (.int 7)) (ac (fC (.int 255)) (ac (fC (.int 3)) (ac (fC (.int 15)) ah))))) (f2 bj (f2 cm (ae 4) (f2 bv (fC (.int 2)) (f2 eS (fC (.int 8)) (ae 7)))) (fC (.int 4)))))
  (aA (aP 10 (f2 eS (f2 eS (fA qk (ac (f2 dEq (f2 bj (f2 cm (ae 4) (f2 bv (fC (.int 512)) (ae 7))) (fC (.int 8))) (fC (.int 1))) ah)) (fC (.int 4))) (ae 2)))
  (aA (aP 11 (f2 bj (f2 cm (ae 4) (f2 bv (fC (.int 1024)) (f2 eS (fC (.int 5)) (ae 7)))) (f2 ixD (fA bp (ac (fC (.int 5)) (ac (fC (.int 5)) (ac (fC (.int 10)) ah)))) (f2 bj (f2 cm (ae 4) (f2 bv (fC (.int 31)) (ae 7))) (fC (.int 3))))))
  (aA (gF 5 (fA aL (ac (ae 10) (ac (fA aL (ac (fC (.str "root")) (ac (f2 ixD (ae 1) (f2 bv (fC (.int 5)) (ae 7))) (ac (ae 9) (ac (ae 11) (ac (ae 8) ah)))))) ah))))
  (aA (gF 5 (fA aL (ac (fC (.int 0)) (ac (fA aL (ac (fC (.str "named")) (ac (fC (.int 0)) (ac (f2 ixD (ae 1) (f2 bv (fC (.int 5)) (ae 7))) (ac (f2 ixD (ae 1) (ae 7)) ah))))) ah))))
  (gF 6 (f2 ixD (ae 1) (ae 7)))))))))
noncomputable def kF:FS :=
  (aA (aP 12 (fA cC (ac (ae 0) (ac (f2 bv (fC (.int 5)) (ae 7)) ah))))
  (aA (aP 13 (f2 eS (f2 bv (f2 cm (ae 7) (fC (.int 2))) (f2 bj (f2 cm (ae 12) (fC (.int 7))) (fC (.int 3)))) (ae 2)))
  (aA (aP 14 (fA jM (ac (fA eI (ac (ae 5) ah)) (ac (fA cC (ac (ae 0) (ac (f2 bv (fC (.int 30)) (ae 7)) ah))) (ac (fA cC (ac (ae 0) (ac (f2 bv (fC (.int 60)) (ae 7)) ah))) (ac (ae 1) (ac (ae 13) (ac (ae 6) (ac (ae 2) ah)))))))))
  (aA (gIf (tOf (f2 dIn (ixV 14 0) (fA aL (ac (fC (.str "leave")) (ac (fC (.str "named")) ah))))) (gF 6 (ixV 14 3)) ba)
  (aA (gIf (tOf (f2 dEq (ixV 14 0) (fC (.str "chosen")))) (gF 6 (ixV 14 4)) ba)
  (gF 5 (fA aL (ac (f2 bv (ae 13) (f2 eS (f2 ixD (fA bp (ac (fC (.int 0)) (ac (fC (.int 0)) (ac (fC (.int 0)) (ac (fC (.int 0)) (ac (fC (.int 1)) (ac (fC (.int 4)) ah))))))) (f2 bj (f2 cm (ae 12) (fC (.int 21))) (fC (.int 6)))) (ae 2))) (ac (ae 14) ah)))))))))
noncomputable def t8:FS :=
  (aA (aP 4 (fA cC (ac (ae 0) (ac (fC (.int 1)) ah))))
  (aA (aP 5 (fA bp ah))
  (aA (aP 6 (fA bp ah))
  (aA (gZ (dB (f2 bv (fC (.int 1)) (f2 bj (ae 4) (fC (.int 2))))) (tgN 7) kE)
  (aA (gZ (dB (f2 bv (fC (.int 3)) (f2 bj (fA cC (ac (ae 0) (ac (fC (.int 2)) ah))) (ae 3)))) (tgN 7) kF)
  (aV (fA fD (ac (ae 5) ah))))))))
noncomputable def mV:=aO t8 4 11
noncomputable def mW:FS :=
  (aV (fA GC (ac (bQ (dB (fC (.int 8))) 1 [0,1] (tgN 0) (tOf (f2 dEq (f2 BL (f2 E7 (ae 2) (ae 0)) (fC (.int 1))) (fC (.int 1)))) (f2 dEq (f2 BL (f2 E7 (ae 1) (ae 0)) (fC (.int 1))) (fC (.int 1)))) ah)))
noncomputable def fF:=aO mW 2 0
noncomputable def jN:FS :=
  (aA (gIf (hW (tOf (f2 dLt (ae 0) (ixV 2 0))) (tOf (f2 dLt (ixV 1 0) (ixV 2 0)))) (aV (fC (.bl false))) ba)
  (aA (gIf (tOf (f2 dIs (ixV 2 1) (fC .non))) (aV (fC (.bl true))) ba)
  (aV (hX (f2 dLt (ae 0) (ixV 2 1)) (hX (f2 ij (ixV 1 1) (fC .non)) (f2 dLe (ixV 1 1) (ixV 2 1)))))))
noncomputable def dH:=aO jN 3 0
noncomputable def p7:FS :=
  (aA (aP 2 (fA qk (ac (f2 dEq (ixV 1 0) (fC (.str "leave"))) ah)))
  (aA (gIf (hW (tOf (f2 dNe (ixV 0 0) (fC (.str "leave")))) (hW (tOf (f2 dNe (ixV 0 3) (ixV 1 2))) (dN (tOf (fA dH (ac (ixV 1 1) (ac (f2 ixD (ae 1) (f2 bv (fC (.int 4)) (ae 2))) (ac (ixV 0 5) ah)))))))) (aV (fC (.bl false))) ba)
  (aV (hX (fA fF (ac (ixV 0 4) (ac (f2 ixD (ae 1) (f2 bv (fC (.int 3)) (ae 2))) ah))) (fOr (f2 dEq (ae 2) (fC (.int 0))) (f2 dLt (ixV 1 6) (ixV 0 6)))))))
noncomputable def ft:=aO p7 2 1
noncomputable def t9:FS :=
  (aA (sx [6,7] (f2 ixD (ae 0) (ae 5)))
  (gIf (cB (tOf (f2 dLe (ae 6) (ae 1))) (cB (tOf (f2 dEq (ixV 7 0) (fC (.str "leave")))) (cB (tOf (f2 tLt (fA aL (ac (ixV 7 1) (ac (ae 5) ah))) (fA aL (ac (ixV 3 1) (ac (ae 2) ah))))) (tOf (fA ft (ac (ae 7) (ac (ae 3) ah))))))) (gF 4 (fA aL (ac (fC (.str "leave")) (ac (ae 5) ah)))) ba))
noncomputable def wQ:FS :=
  (aA (aP 3 (f2 ixD (f2 ixD (ae 0) (ae 2)) (fC (.int 1))))
  (aA (aP 4 (fA bp ah))
  (aA (gZ (dB (fA eI (ac (ae 0) ah))) (tgN 5) t9)
  (j3 4))))
noncomputable def qE:=aO wQ 3 5
noncomputable def vt:FS :=
  (gIf (tOf (f2 nGe (fA aL (ac (f2 ixD (f2 ixD (ae 6) (f2 nY (ae 7) (fC (.int 1)))) (f1 oe (fC (.int 1)))) (ac (f2 ixD (ae 6) (f2 nY (ae 7) (fC (.int 1)))) ah))) (fA aL (ac (f2 ixD (f2 ixD (ae 6) (ae 7)) (f1 oe (fC (.int 1)))) (ac (f2 ixD (ae 6) (ae 7)) ah))))) (aV (fC (.bl false))) ba)
noncomputable def Ax:FS :=
  (gIf (cB (tOf (f2 dLe (f2 ixD (f2 ixD (ae 3) (ae 5)) (fC (.int 0))) (ae 4))) (tOf (f2 dIn (f2 ixD (f2 ixD (f2 ixD (ae 3) (ae 5)) (fC (.int 1))) (fC (.int 0))) (fA aL (ac (fC (.str "leave")) (ac (fC (.str "paper")) (ac (fC (.str "like")) ah))))))) (aA (aP 6 (fA qD (ac (ae 3) (ac (ae 4) (ac (ae 5) ah)))))
  (aA (gIf (dN (tOf (fA io (ac (ae 6) (ac (fC (.ty "list")) ah))))) (aV (fC (.bl false))) ba)
  (aA (gIf (tOf (f2 dNe (bQ (cG (ae 6)) 1 [] (tgN 0) (tOf (f2 dNe (ixV 0 0) (fC (.str "office")))) (ae 0)) (fA qE (ac (ae 3) (ac (ae 4) (ac (ae 5) ah)))))) (aV (fC (.bl false))) ba)
  (gZ (lI (fC (.int 1)) (fA eI (ac (ae 6) ah))) (tgN 7) vt)))) ba)
noncomputable def D9:FS :=
  (aA (aP 1 (fA kB (ac (fA cC (ac (ae 0) (ac (fC (.int 0)) ah))) ah)))
  (aA (aP 2 (f2 ixD (fA bp (ac (fC (.int 1)) (ac (fC (.int 1)) (ac (fC (.int 500)) ah)))) (f2 bj (fA cC (ac (ae 0) (ac (fC (.int 3)) ah))) (fC (.int 3)))))
  (aA (aP 3 (fA mV (ac (ae 0) (ac (ae 1) (ac (ae 2) (ac (fC (.int 14)) ah))))))
  (aA (aP 4 (f2 ixD (fA bp (ac (fC (.int 9999)) (ac (f2 eS (f2 bj (f2 cm (fA cC (ac (ae 0) (ac (fC (.int 3)) ah))) (fC (.int 3))) (fC (.int 13))) (ae 2)) ah))) (f2 cm (f2 bj (fA cC (ac (ae 0) (ac (fC (.int 4)) ah))) (fC (.int 3))) (fC (.int 2)))))
  (aA (gZ (dB (fA eI (ac (ae 3) ah))) (tgN 5) Ax)
  (aV (fC (.bl true))))))))
noncomputable def F_law:=aO D9 1 7
end Lw
namespace DL
open PySem L2
theorem gT:∀(n m:Nat)(d:D),n<=m->aj n d=true->aj m d=true
 |n,m,.non,_,_=>by simp
 |n,m,.bl _,_,_=>by simp
 |n,m,.int _,_,_=>by simp
 |n,m,.str _,_,_=>by simp
 |n,m,.ty _,_,h=>by cases n<;>simp[aj]at h
 |n,m,.dk _ _,_,h=>by simp at h
 |n,m,.dt _ _,_,h=>by simp at h
 |0,m,.tup _,_,h=>by simp[aj]at h
 |0,m,.lst _,_,h=>by simp[aj]at h
 |n+1,0,_,h,_=>by omega
 |n+1,m+1,.tup ds,hl,h=>by
  simp only[aj,List.all_eq_true]at h ⊢;exact λd hd=>gT n m d (by omega) (h d hd)
 |n+1,m+1,.lst ds,hl,h=>by
  simp only[aj,List.all_eq_true]at h ⊢;exact λd hd=>gT n m d (by omega) (h d hd)
theorem kG:∀(ds:List D),(∀d∈ds,eqD d d=true)->cz ds ds=true
 |[],_=>by simp only[cz]
 |d::ds,h=>by
  simp only[cz,h d mX,Bool.true_and];exact kG ds λe he=>h e (mZ _ he)
theorem ng:∀(n:Nat)(d:D),aj n d=true->eqD d d=true
 |n,.non,_=>by simp
 |n,.bl _,_=>by simp
 |n,.int _,_=>by simp
 |n,.str _,_=>by simp
 |n,.ty _,h=>by cases n<;>simp[aj]at h
 |n,.dk _ _,h=>by simp at h
 |n,.dt _ _,h=>by simp at h
 |0,.tup _,h=>by simp[aj]at h
 |0,.lst _,h=>by simp[aj]at h
 |n+1,.tup ds,h=>by
  simp only[aj,List.all_eq_true]at h;simp only[eqD];exact kG ds λd hd=>ng n d (h d hd)
 |n+1,.lst ds,h=>by
  simp only[aj,List.all_eq_true]at h;simp only[eqD];exact kG ds λd hd=>ng n d (h d hd)
end DL
namespace Lw
open PySem DL L2
theorem at0 (d:D)(r:List D):atI (d::r) 0=some d:=by have:=i7 (xs:=d::r) (j:=0) (by simp);simpa using this
theorem at1 (d e:D)(r:List D):atI (d::e::r) 1=some e:=by have:=i7 (xs:=d::e::r) (j:=1) (by simp);simpa using this
theorem at2 (d e f:D)(r:List D):atI (d::e::f::r) 2=some f:=by have:=i7 (xs:=d::e::f::r) (j:=2) (by simp);simpa using this
noncomputable def cj (k:Str):Bool:=decide (k=("death" : Str)) || decide (k=("lost" : Str)) || decide (k=("found" : Str))
noncomputable def cQ (k:Str):Bool:=decide (k=("chosen" : Str)) || decide (k=("heir" : Str)) || decide (k=("leave" : Str)) || decide (k=("paper" : Str)) || decide (k=("like" : Str)) || decide (k=("copy" : Str)) || decide (k=("call" : Str))
structure DeedP (kind:Str)(au:List D):Prop where
 flat:bd au=true
 plain:au.all (aj 5)=true
 three:cj kind=true->∃(day:Int)(p:Str),au=[.int day,.str p]
 slg:cQ kind=true->∃(day:Int)(p:Str)(r:List D),au=.int day::.str p::r
noncomputable def row (h:Int)(kind:Str)(au:List D):D:=.tup [.int h,.tup (.str kind::au)]
def kH (r:D):Prop:=∃h kind au,r=row h kind au/\DeedP kind au
theorem kH.flat {r:D}(h:kH r):aZ r=true:=by obtain⟨a,k,au,rfl,dp⟩:=h;simp[row,dp.flat]
theorem kH.plain {r:D}(h:kH r):aj 39 r=true:=by
 obtain⟨a,k,au,rfl,dp⟩:=h;refine gT 7 39 _ (by decide) ?_;have:=dp.plain;simp only[row,aj,List.all_cons,List.all_nil,Bool.and_true,Bool.true_and];exact this
theorem bL {ds:List D}(h:∀d∈ds,aZ d=true):bd ds=true:=by
 induction ds with
 |nil=>rfl
 |cons d r ih=>simp[h d (by simp),ih λe he=>h e (by simp[he])]
theorem cR (zs:List Str):bd (zs.map D.str)=true:=by
 induction zs with
 |nil=>rfl
 |cons a l ih=>simp[ih]
noncomputable def bE:D->Int
 |.tup (.int h::_)=>h
 |_=>0
noncomputable def kindOf:D->Str
 |.tup [_,.tup (.str k::_)]=>k
 |_=>("" : Str)
noncomputable def aG:D->Int
 |.tup [_,.tup (_::.int d::_)]=>d
 |_=>0
noncomputable def p8 (p:Str)(day:Int):List D->Bool
 |[.int d,.str q]=>decide (q=p) && decide (d<=day)
 |_=>false
noncomputable def told (ws:List Str)(p:Str)(day:Int):D->Bool
 |.tup [_,.tup (.str kind::au)]=>decide (kind∈ws) && p8 p day au
 |_=>false
theorem fV (h:Int)(kind:Str)(au:List D):aC [row h kind au]=some (.str kind,false):=ay rfl (a9 (by simp[row,at1,at0]))
theorem iD {k:Str}(h:cj k=true):k=("death" : Str)∨k=("lost" : Str)∨k=("found" : Str):=by
 unfold cj at h;simp only[Bool.or_eq_true,decide_eq_true_eq]at h;rcases h with (h|h)|h
 ·exact .inl h
 ·exact .inr (.inl h)
 ·exact .inr (.inr h)
theorem jq {k:Str}(h:cQ k=true):k=("chosen" : Str)∨k=("heir" : Str)∨k=("leave" : Str)∨k=("paper" : Str)∨k=("like" : Str)∨k=("copy" : Str)∨k=("call" : Str):=by
 unfold cQ at h;simp only[Bool.or_eq_true,decide_eq_true_eq]at h;rcases h with (((((h|h)|h)|h)|h)|h)|h
 ·exact .inl h
 ·exact .inr (.inl h)
 ·exact .inr (.inr (.inl h))
 ·exact .inr (.inr (.inr (.inl h)))
 ·exact .inr (.inr (.inr (.inr (.inl h))))
 ·exact .inr (.inr (.inr (.inr (.inr (.inl h)))))
 ·exact .inr (.inr (.inr (.inr (.inr (.inr h)))))
theorem C4 {k:Str}(h:cj k=true∨cQ k=true):lz eD (.str k) (.str "day")=some (.int 0,false):=by
 rcases h with h|h
 ·rcases iD h with rfl|rfl|rfl<;>exact aW (by decide +kernel)
 ·rcases jq h with rfl|rfl|rfl|rfl|rfl|rfl|rfl<;>exact aW (by decide +kernel)
theorem vv {k:Str}(h:cj k=true):lz eD (.str k) (.str "person")=some (.int 1,false):=by
 rcases iD h with rfl|rfl|rfl<;>exact aW (by decide +kernel)
theorem Ay {k:Str}(h:cj k=true∨cQ k=true):dEq (.str k) (.str "root")=some (.bl false,false):=by
 rcases h with h|h
 ·rcases iD h with rfl|rfl|rfl<;>exact aW (by decide +kernel)
 ·rcases jq h with rfl|rfl|rfl|rfl|rfl|rfl|rfl<;>exact aW (by decide +kernel)
theorem bc {h:Int}{k:Str}{au:List D}{part:Str}{i:Nat}{d:D}(hi:lz eD (.str k) (.str part)=some (.int i,false))(hd:au[i]? = some d):ai [row h k au,.str part]=some (d,false):=by
 refine ay rfl (a9 ?_);refine eoF (.tup (.str k::au)) (.int (1+i)) (by simp[row,at1]) (eoF (.int 1) (.int i) rfl (eoF (.str k) (.str part) (cdD [row h k au] rfl (fV _ _ _)) rfl hi) (by simp)) ?_;have hlt:i<au.length:=(List.getElem?_eq_some_iff.mp hd).1;have:atI (.str k::au) (1+(i:Int))=some d:=by
  have:=i7 (xs:=(.str k:D)::au) (j:=i+1) (by simp;omega);rw[show(1+(i:Int))=((i+1:Nat):Int) by omega,this];simp only[List.getElem_cons_succ];rw[List.getElem?_eq_getElem hlt]at hd;exact hd
 simp[this]
theorem g9 {h:Int}{k:Str}{au:List D}{d:Int}{r:List D}(hk:cj k=true∨cQ k=true)(hr:au=.int d::r):aK [row h k au]=some (.int d,false):=by
 subst hr;refine ay rfl (aB (tkF (eoF (.str k) (.str "root") (cdD [row h k (.int d::r)] rfl (fV _ _ _)) rfl (Ay hk))) (a9 (cdD [row h k (.int d::r),.str "day"] rfl (bc (i:=0) (C4 hk) rfl))))
theorem ni (k:Str)(ws:List Str):inD (.str k) (ws.map .str)=decide (k∈ws):=by
 induction ws with
 |nil=>simp[inD]
 |cons w ws ih=>
  have:inD (.str k) ((w::ws).map .str)=(eqD (.str w) (.str k) || inD (.str k) (ws.map .str)):=rfl;rw[this,ih,kO];by_cases e:w=k
  ·simp[e]
  ·have e':¬k=w:=λz=>e z.symm;simp[e,e']
theorem kI (ws:List Str):(ws.map D.str).all eW=true:=by
 induction ws with
 |nil=>rfl
 |cons w ws ih=>simp[eW]
theorem iE (k:Str)(ws:List Str):dIn (.str k) (.tup (ws.map .str))=some (.bl (decide (k∈ws)),false):=by
 simp only[dIn,f8,Option.bind_some,ni];rw[if_pos ⟨rfl,kI ws⟩]
theorem Az {r:D}(hr:kH r)(ws:List Str)(hw:∀w∈ws,cj w=true)(p:Str)(day:Int):jH [r,.tup (ws.map .str),.str p,.int day]=some (.bl (told ws p day r),false):=by
 obtain⟨h,kind,au,rfl,dp⟩:=hr;have hin:f2 dIn (fA aC (ac (ae 0) ah)) (ae 1) [some (row h kind au,false),some (.tup (ws.map .str),false),some (.str p,false),some (.int day,false)]=some (.bl (decide (kind∈ws)),false) :=
  eoF (.str kind) (.tup (ws.map .str)) (cdD [row h kind au] rfl (fV _ _ _)) rfl (iE kind ws)
 have ht:told ws p day (row h kind au)=(decide (kind∈ws) && p8 p day au):=rfl;rw[ht];refine ay rfl (a9 (du (b1:=false) hin λhk=>?_));have h3:=hw kind (of_decide_eq_true hk);obtain⟨d,q,rfl⟩:=dp.three h3;show hX _ _ _=some (.bl (decide (q=p) && decide (d<=day)),false);refine du (b1:=false) ?_ λ_=>?_
 ·exact eoF (.str q) (.str p) (cdD [row h kind [.int d,.str q],.str "person"] rfl (bc (i:=1) (vv h3) rfl)) rfl (by simp)
 ·exact eoF (.int d) (.int day) (cdD [row h kind [.int d,.str q]] rfl (g9 (.inl h3) rfl)) rfl (by simp)
theorem A0 (ds:List D):oQ ds=ds.zipIdx.map λx=>.tup [.int x.2,x.1]:=by
 unfold oQ;apply List.ext_getElem?;intro i;simp[List.getElem?_mapIdx,List.getElem?_zipIdx];cases ds[i]?<;>simp
noncomputable def am (rows:List D)(known:Int):List (D×Nat):=rows.zipIdx.filter λx=>decide (bE x.1<=known)
theorem jO (rows:List D)(hr:∀r∈rows,kH r)(hl:rows.length<=1000)(known:Int):bO [.tup rows,.int known]=some (.lst ((am rows known).map λx=>.int x.2),true):=by
 have hc:=gz (fi:=zI (ae 0)) (nT:=2) (cap:=[1]) (tg:=tgT [0,1]) (c:=tOf (f2 dLe (ixV 1 0) (ae 2))) (fe:=ae 0) (ρ:=[some (.tup rows,false),some (.int known,false)]) rows.zipIdx (λx=>.tup [.int x.2,x.1]) (λx=>decide (bE x.1<=known)) (λx=>.int x.2)
  (by simp[A0]) (by simp;omega) λx hx=>by
   obtain⟨h,kind,au,e,_⟩:=hr x.1 (List.fst_mem_of_mem_zipIdx hx);refine⟨_,rfl,tkF ?_,λ_=>⟨false,by simp[bP]⟩⟩;simp[bP,e,row,at0,bE]
 exact ay rfl (a9 hc)
noncomputable def l5 (rows:List D)(known:Int)(ws:List Str)(p:Str)(day:Int):List (D×Nat):=(am rows known).filter λx=>told ws p day x.1
theorem wR {rows:List D}{known:Int}{ws:List Str}{p:Str}{day:Int}{x:D×Nat}(h:x∈l5 rows known ws p day):rows[x.2]? = some x.1/\told ws p day x.1=true:=by
 obtain⟨h1,h2⟩:=List.mem_filter.mp h;exact⟨(List.mk_mem_zipIdx_iff_getElem? (x:=x.1) (i:=x.2)).mp (List.mem_filter.mp h1).1,h2⟩
theorem cq {rows:List D}{i:Nat}{r:D}(h:rows[i]? = some r):atI rows (i:Int)=some r:=by
 obtain⟨hlt,e⟩:=List.getElem?_eq_some_iff.mp h;rw[i7 hlt,e]
theorem C5 (rows:List D)(known:Int)(ws:List Str)(p:Str)(day:Int):(l5 rows known ws p day).length<=rows.length:=by
 have h1:=List.length_filter_le (λx:D×Nat=>told ws p day x.1) (am rows known);have h2:=List.length_filter_le (λx:D×Nat=>decide (bE x.1<=known)) rows.zipIdx;rw[List.length_zipIdx]at h2;exact Nat.le_trans h1 h2
theorem qF (rows:List D)(hr:∀r∈rows,kH r)(hl:rows.length<=1000)(known:Int)(ws:List Str)(hw:∀w∈ws,cj w=true)(p:Str)(day:Int):
  cY [.tup rows,.int known,.tup (ws.map .str),.str p,.int day]=some (.lst ((l5 rows known ws p day).map λx=>.int x.2),true):=by
 have hc:=gz (fi:=cG (fA bO (ac (ae 0) (ac (ae 1) ah)))) (nT:=1) (cap:=[2,3,4,0]) (tg:=tgN 0) (c:=tOf (fA jH (ac (f2 ixD (ae 4) (ae 0)) (ac (ae 1) (ac (ae 2) (ac (ae 3) ah)))))) (fe:=ae 0)
  (ρ:=[some (.tup rows,false),some (.int known,false),some (.tup (ws.map .str),false),some (.str p,false),some (.int day,false)]) (am rows known) (λx=>.int x.2) (λx=>told ws p day x.1) (λx=>.int x.2)
  (by
   show(fA bO (ac (ae 0) (ac (ae 1) ah)) _).bind _=_;rw[cdD [.tup rows,.int known] rfl (jO rows hr hl known)];rfl) (by have:=List.length_filter_le (λx:D×Nat=>decide (bE x.1<=known)) rows.zipIdx;rw[List.length_zipIdx]at this;exact Nat.le_trans this (by omega)) λx hx=>by
   have hg:rows[x.2]? = some x.1:=(List.mk_mem_zipIdx_iff_getElem? (x:=x.1) (i:=x.2)).mp (List.mem_filter.mp hx).1;refine⟨_,rfl,tkF (cdD [x.1,.tup (ws.map .str),.str p,.int day] ?_ (Az (hr _ (List.mem_of_getElem? hg)) ws hw p day)),λ_=>⟨false,by simp[bP]⟩⟩;have ha:=cq hg;simp[bP,ha]
 exact ay rfl (a9 hc)
noncomputable def kA (x:D×Nat):List At:=[.i (aG x.1),.i x.2]
noncomputable def dc (a b:D×Nat):Bool:=decide (aG a.1<aG b.1∨(aG a.1=aG b.1/\(a.2:Int)<b.2))
noncomputable def eU:D×Nat->List (D×Nat)->D×Nat
 |b,[]=>b
 |b,x::r=>if dc b x=true then eU x r else eU b r
noncomputable def DA:List (D×Nat)->Option (D×Nat)
 |[]=>none
 |x::r=>some (eU x r)
theorem Fi (a b c d:Int):aJ [.i a,.i b] [.i c,.i d]=some (decide (a<c∨(a=c/\b<d))):=by
 rw[aJ];by_cases h:a=c
 ·rw[if_pos h,aJ];by_cases h2:b=d
  ·rw[if_pos h2,aJ];simp[h,h2]
  ·rw[if_neg h2];simp[h]
 ·rw[if_neg h];simp[h]
theorem vw (a b:D×Nat):aJ (kA a) (kA b)=some (dc a b):=Fi _ _ _ _
theorem qG (l:List (D×Nat)):da (l.map kA)=true:=by
 unfold da;simp[List.all_eq_true,vw]
theorem kJ:∀(r:List (D×Nat))(b:D×Nat),jD (kA b,.int b.2) (r.map λx=>(kA x,D.int x.2))=.int (eU b r).2
 |[],b=>rfl
 |x::r,b=>by
  rw[List.map_cons,jD,eU];show(if aJ (kA b) (kA x)=some true then _ else _)=_;rw[vw];by_cases h:dc b x=true
  ·rw[if_pos h,if_pos (by rw[h])];exact kJ r x
  ·rw[if_neg h,if_neg (by simpa using h)];exact kJ r b
theorem nj:∀(r:List (D×Nat))(b:D×Nat),eU b r∈b::r
 |[],b=>by simp[eU]
 |x::r,b=>by
  rw[eU];split
  ·exact mZ _ (nj r x)
  ·rcases List.mem_cons.mp (nj r b)with h|h
   ·rw[h];exact mX
   ·exact mZ _ (mZ _ h)
theorem fG {α:Type}{f:D->Option D}{g h:α->D}:∀(l:List α),(∀x∈l,f (g x)=some (h x))->gK f (l.map g)=some (l.map h)
 |[],_=>rfl
 |x::l,hx=>by
  rw[List.map_cons,gK,hx x mX,Option.bind_some,fG l λy hy=>hx y (mZ _ hy)];rfl
theorem fu {α:Type}{g:α->D}{h:α->List At}:∀(l:List α),(∀x∈l,sS (g x)=some (h x))->cN (l.map g)=some (l.map h)
 |[],_=>rfl
 |x::l,hx=>by
  rw[List.map_cons,cN,hx x mX,Option.bind_some,fu l λy hy=>hx y (mZ _ hy)];rfl
noncomputable def jP:List Str:=[("lost" : Str),("found" : Str)]
theorem lh:∀w∈jP,cj w=true:=by
 intro w hw;rcases List.mem_cons.mp hw with rfl|hw
 ·decide +kernel
 ·rcases List.mem_cons.mp hw with rfl|hw
  ·decide +kernel
  ·cases hw
noncomputable def tE (rows:List D)(known:Int)(p:Str)(day:Int):Bool:=match DA (l5 rows known jP p day) with
 |none=>true
 |some b=>decide (kindOf b.1=("found" : Str))
theorem nn {ws:List Str}(hw:∀w∈ws,cj w=true){p:Str}{day:Int}{r:D}(hr:kH r)(ht:told ws p day r=true):∃h k d,r=row h k [.int d,.str p]/\cj k=true/\k∈ws/\d<=day:=by
 obtain⟨h,kind,au,rfl,dp⟩:=hr;have ht':(decide (kind∈ws) && p8 p day au)=true:=ht;rw[Bool.and_eq_true]at ht';have hm:=of_decide_eq_true ht'.1;obtain⟨d,q,rfl⟩:=dp.three (hw _ hm);have hq:(decide (q=p) && decide (d<=day))=true:=ht'.2;rw[Bool.and_eq_true]at hq;have:=of_decide_eq_true hq.1;subst this;exact⟨h,kind,d,rfl,hw _ hm,hm,of_decide_eq_true hq.2⟩
theorem wS {rows:List D}{i:Nat}{h d:Int}{k p:Str}(hg:rows[i]? = some (row h k [.int d,.str p]))(h3:cj k=true):c8 [.tup rows,.int i]=some (.tup [.int d,.int i],false):=by
 have ha:=cq hg;refine ay rfl (a9 (cdD [.int d,.int i] (aE (d:=.int d) (b:=false) (cdD [row h k [.int d,.str p]] (by simp[ha]) (g9 (.inl h3) rfl)) rfl) (by simp[sizeLine])))
theorem C6 (rows:List D)(hr:∀r∈rows,kH r)(hl:rows.length<=1000)(known:Int)(p:Str)(day:Int):gN [.tup rows,.int known,.str p,.int day]=some (.bl (tE rows known p day),false):=by
 have ht:=qF rows hr hl known jP lh p day;have hsl:=C5 rows known jP p day;have key:∀x∈l5 rows known jP p day,∃h k d,rows[x.2]? = some (row h k [.int d,.str p])/\x.1=row h k [.int d,.str p]/\cj k=true:=λx hx=>by
  obtain⟨hg,htl⟩:=wR hx;obtain⟨h,k,d,e,h3,_⟩:=nn lh (hr _ (List.mem_of_getElem? hg)) htl;exact⟨h,k,d,by rw[hg,e],e,h3⟩
 unfold tE;generalize hsel:l5 rows known jP p day=sel at ht key hsl ⊢;have hset:fA cY (ac (ae 0) (ac (ae 1) (ac (fA aL (ac (fC (.str "lost")) (ac (fC (.str "found")) ah))) (ac (ae 2) (ac (ae 3) ah))))) [some (.tup rows,false),some (.int known,false),some (.str p,false),some (.int day,false),none]=some (.lst (sel.map λx=>.int x.2),true) :=
  cdD [.tup rows,.int known,.tup (jP.map .str),.str p,.int day] (by simp[jP,sizeLine]) ht
 have hnl:bd (sel.map λx=>D.int x.2)=true:=bL λd hd=>by obtain⟨x,_,rfl⟩:=List.mem_map.mp hd;rfl
 cases sel with
 |nil=>exact ay rfl (bX hset hnl (bw (tkF (by simp)) (a9 rfl)))
 |cons x r=>
  refine ay rfl (bX hset hnl (aB (tkF (by simp;omega)) (a9 ?_)));obtain⟨h,k,d,hg,e,h3⟩:=key (eU x r) (nj r x);have hb:kindOf (eU x r).1=k:=by rw[e];rfl
  show _=some (D.bl (decide (kindOf (eU x r).1=("found" : Str))),false);rw[hb];refine eoF (.str k) (.str "found") (cdD [row h k [.int d,.str p]] (aE (d:=row h k [.int d,.str p]) (b:=false) (eoF (.tup rows) (.int (eU x r).2) rfl ?_ (by simp[cq hg])) rfl) (fV _ _ _)) rfl (by simp);have hm:∀ρ:DL.Env,ρ[0]? = some (some (.tup rows,false))->gK (mo [0] (fA c8 (ac (ae 1) (ac (ae 0) ah))) ρ) ((x::r).map λx=>D.int x.2)=some ((x::r).map λx=>.tup [.int (aG x.1),.int x.2]):=λρ h0=>
   fG (x::r) λy hy=>by
    obtain⟨h,k,d,hg,e,h3⟩:=key y hy;have hd:aG y.1=d:=by rw[e];rfl
    rw[hd];show(fA c8 _ _).map _=_;rw[cdD [.tup rows,.int y.2] (by simp[bP,h0]) (wS hg h3)];rfl
  have hk:cN ((x::r).map λx=>D.tup [.int (aG x.1),.int x.2])=some ((x::r).map kA):=fu (x::r) λy _=>rfl;have hz:((x::r).map kA).zip ((x::r).map λx=>D.int x.2)=(kA x,.int x.2)::r.map λx=>(kA x,D.int x.2):=by
   rw[List.zip_map'];rfl
  show(ph (ae 4) _ _)=_;unfold ph fKK;show((some (D.lst ((x::r).map λx=>D.int x.2),false)).bind _)=_;simp only[Option.bind_some];rw[hm _ rfl];simp only[Option.bind_some];rw[hk];simp only[Option.bind_some];rw[if_pos (qG _),hz];simp only[kJ]
noncomputable def cS:List Str:=[("death" : Str)]
theorem gU:∀w∈cS,cj w=true:=by
 intro w hw;rcases List.mem_cons.mp hw with rfl|hw
 ·decide +kernel
 ·cases hw
noncomputable def kK (rows:List D)(known:Int)(p:Str)(day:Int):Bool:=(l5 rows known cS p day).isEmpty
theorem tF (rows:List D)(hr:∀r∈rows,kH r)(hl:rows.length<=1000)(known:Int)(p:Str)(day:Int):gM [.tup rows,.int known,.str p,.int day]=some (.bl (kK rows known p day),false):=by
 have ht:=qF rows hr hl known cS gU p day;unfold kK;generalize l5 rows known cS p day=sel at ht ⊢;refine ay rfl (a9 (eoF (.int ((sel.map λx=>D.int x.2).length:Nat)) (.int 0) ?_ rfl ?_))
 ·exact cdD [.lst (sel.map λx=>.int x.2)] (aE (d:=.lst (sel.map λx=>.int x.2)) (b:=true) (cdD [.tup rows,.int known,.tup (cS.map .str),.str p,.int day] (by simp[sizeLine,cS]) ht) rfl) C3
 ·rw[wJ];cases sel<;>simp
  omega
noncomputable def df:D->Str
 |.tup [_,.tup (_::_::.str p::_)]=>p
 |_=>("" : Str)
noncomputable def tG:List Str:=[("chosen" : Str),("heir" : Str),("leave" : Str),("paper" : Str),("like" : Str),("copy" : Str),("call" : Str)]
theorem np (k:Str):cQ k=decide (k∈tG):=by
 unfold cQ tG;simp[List.mem_cons,Bool.or_assoc]
theorem vx:dW=.tup (tG.map .str):=rfl
theorem lm (k:Str)(ws:List Str):f9 (.str k) (.tup (ws.map .str))=some (.bl (!decide (k∈ws)),false):=by
 simp only[f9,f8,Option.bind_some,ni];rw[if_pos ⟨rfl,kI ws⟩]
theorem A1 {k:Str}(h:cQ k=true):lz eD (.str k) (.str "by")=some (.int 1,false):=by
 rcases jq h with rfl|rfl|rfl|rfl|rfl|rfl|rfl<;>exact aW (by decide +kernel)
noncomputable def qH (rows:List D)(known:Int)(r:D):Bool:=(decide (bE r<=known) && cQ (kindOf r)) && (kK rows known (df r) (aG r) && tE rows known (df r) (aG r))
theorem nq {rows:List D}{i:Nat}{h:Int}{kind:Str}{au:List D}(hg:rows[i]? = some (row h kind au))(known:Int):bR [.tup rows,.int known,.int i]=some (.bl (decide (h<=known)),false):=by
 have hlt:i<rows.length:=(List.getElem?_eq_some_iff.mp hg).1;have ha:=cq hg;refine ay rfl (a9 ?_);have:=du (f1:=ki dLe dLt (fC (.int 0)) (ae 2) (fA eI (ac (ae 0) ah))) (f2:=f2 dLe (f2 ixD (f2 ixD (ae 0) (ae 2)) (fC (.int 0))) (ae 1)) (ρ:=[some (.tup rows,false),some (.int known,false),some (.int i,false)]) (p:=true) (q:=decide (h<=known)) (b1:=false)
  (by
   refine(Av (x:=.int 0) (y:=.int i) (z:=.int rows.length) (b1:=false) (b2:=false) (b3:=false) (b4:=false) (p:=true) (q:=true) rfl rfl (by simp) (by simp) λ_=>?_).trans rfl;simp;omega) λ_=>by simp[ha,row,at0]
 exact this
theorem A2 (rows:List D)(hr:∀r∈rows,kH r)(hl:rows.length<=1000)(known:Int){i:Nat}{r:D}(hg:rows[i]? = some r):gO [.tup rows,.int known,.int i]=some (.bl (qH rows known r),false):=by
 obtain⟨h,kind,au,rfl,dp⟩:=hr r (List.mem_of_getElem? hg);have hk:=nq hg known;have ha:=cq hg;have hword:∀(ρ:DL.Env),f2 ixD (ae 0) (ae 2) ρ=some (row h kind au,false)->fA aC (ac (f2 ixD (ae 0) (ae 2)) ah) ρ=some (.str kind,false):=λρ e=>cdD [row h kind au] (aE e rfl) (fV _ _ _);have hrow:f2 ixD (ae 0) (ae 2) [some (.tup rows,false),some (.int known,false),some (.int i,false),none,none]=some (row h kind au,false):=by simp[ha]
 have hc:(hW (dN (tOf (fA bR (ac (ae 0) (ac (ae 1) (ac (ae 2) ah)))))) (tOf (f2 f9 (fA aC (ac (f2 ixD (ae 0) (ae 2)) ah)) (fC dW)))) [some (.tup rows,false),some (.int known,false),some (.int i,false),none,none]=some (!decide (h<=known) || !cQ kind):=by
  refine cH (ci (tkF (cdD [.tup rows,.int known,.int i] rfl hk))) λ_=>tkF (eoF (.str kind) dW (hword _ hrow) rfl ?_);rw[vx,np];exact lm kind tG
 have hs:qH rows known (row h kind au)=((decide (h<=known) && cQ kind) && (kK rows known (df (row h kind au)) (aG (row h kind au)) && tE rows known (df (row h kind au)) (aG (row h kind au)))):=rfl;cases hb:(decide (h<=known) && cQ kind) with
 |false=>
  rw[hs,hb];refine ay rfl (bw (hc.trans ?_) (a9 rfl));rw[←Bool.not_and,hb];rfl
 |true=>
  rw[hs,hb];rw[Bool.and_eq_true]at hb;obtain⟨day,p,r',rfl⟩:=dp.slg hb.2;show _=some (D.bl (true && (kK rows known p day && tE rows known p day)),false);rw[Bool.true_and];refine ay rfl (aB (hc.trans (by rw[hb.1,hb.2];rfl)) (rfF (.str p) (cdD [row h kind (.int day::.str p::r'),.str "by"] (aE hrow rfl) (bc (i:=1) (A1 hb.2) rfl)) rfl (rfF (.int day) (cdD [row h kind (.int day::.str p::r')] (aE (d:=row h kind (.int day::.str p::r')) (b:=false) (by simp[ha]) rfl) (g9 (.inr hb.2) rfl)) rfl (a9 ?_))));exact du (b1:=false) (cdD [.tup rows,.int known,.str p,.int day] (by simp) (tF rows hr hl known p day)) λ_=>cdD [.tup rows,.int known,.str p,.int day] (by simp) (C6 rows hr hl known p day)
inductive Cd:Str->List D->Prop
 |root (o r:Str) (m f:Int):Cd ("root" : Str) [.str o,.int m,.int f,.str r]
 |named (d:Int) (o p:Str):Cd ("named" : Str) [.int d,.str o,.str p]
 |chosen (d:Int) (b o p:Str) (s:Int):Cd ("chosen" : Str) [.int d,.str b,.str o,.str p,.int s]
 |heir (d:Int) (b o p:Str):Cd ("heir" : Str) [.int d,.str b,.str o,.str p]
 |three (k:Str) (hk:k=("death" : Str)∨k=("lost" : Str)∨k=("found" : Str)) (d:Int) (p:Str):Cd k [.int d,.str p]
 |other (k:Str) (hk:k=("leave" : Str)∨k=("paper" : Str)∨k=("like" : Str)∨k=("copy" : Str)∨k=("call" : Str)) (d:Int) (b:Str) (r:List D) (hf:bd r=true) (hp:r.all (aj 5)=true):Cd k (.int d::.str b::r)
theorem Cd.deed {k:Str}{r:List D}(h:Cd k r):DeedP k r:=by
 cases h with
 |root o rl m f=>exact⟨rfl,by simp,λh=>absurd h (by decide +kernel),λh=>absurd h (by decide +kernel)⟩
 |named d o p=>exact⟨rfl,by simp,λh=>absurd h (by decide +kernel),λh=>absurd h (by decide +kernel)⟩
 |chosen d b o p s=>exact⟨rfl,by simp,λh=>absurd h (by decide +kernel),λ_=>⟨d,b,_,rfl⟩⟩
 |heir d b o p=>exact⟨rfl,by simp,λh=>absurd h (by decide +kernel),λ_=>⟨d,b,_,rfl⟩⟩
 |three k hk d p=>exact⟨rfl,by simp,λ_=>⟨d,p,rfl⟩,λh=>by rcases hk with rfl|rfl|rfl<;>exact absurd h (by decide +kernel)⟩
 |other k hk d b r hf hp=>exact⟨by simp[hf],by simp only[List.all_cons,hp,aj,Bool.and_true],λh=>by rcases hk with rfl|rfl|rfl|rfl|rfl<;>exact absurd h (by decide +kernel),λ_=>⟨d,b,r,rfl⟩⟩
def qI (r:D):Prop:=∃h k au,r=row h k au/\Cd k au
theorem qI.rp {r:D}(h:qI r):kH r:=by obtain⟨a,k,au,rfl,d⟩:=h;exact⟨a,k,au,rfl,d.deed⟩
noncomputable def bf (r:D):Bool:=decide (kindOf r=("root" : Str))
theorem Cd.day {k:Str}{r:List D}(h:Cd k r)(hk:k≠("root" : Str)):∃d q,r=.int d::q:=by
 cases h with
 |root=>exact absurd rfl hk
 |named d=>exact⟨d,_,rfl⟩
 |chosen d=>exact⟨d,_,rfl⟩
 |heir d=>exact⟨d,_,rfl⟩
 |three _ _ d=>exact⟨d,_,rfl⟩
 |other _ _ d=>exact⟨d,_,rfl⟩
theorem Cd.day_idx {k:Str}{r:List D}(h:Cd k r)(hk:k≠("root" : Str)):lz eD (.str k) (.str "day")=some (.int 0,false):=by
 cases h with
 |root=>exact absurd rfl hk
 |named=>exact aW (by decide +kernel)
 |chosen=>exact aW (by decide +kernel)
 |heir=>exact aW (by decide +kernel)
 |three _ hh=>rcases hh with rfl|rfl|rfl<;>exact aW (by decide +kernel)
 |other _ hh=>rcases hh with rfl|rfl|rfl|rfl|rfl<;>exact aW (by decide +kernel)
theorem bx {f:FE}{ρ:DL.Env}{a b:Str}{x:Bool}{bb:Bool}(e:f ρ=some (.str a,bb))(h:decide (a=b)=x):tOf (f2 dEq f (fC (.str b))) ρ=some x:=tkF (gw (x:=.str a) (y:=.str b) (b1:=bb) (b2:=false) e rfl (by rw[←h];simp))
noncomputable def tH (r:D):D:=if bf r=true then .non else .int (aG r)
theorem kL {r:D}(g:qI r):aC [r]=some (.str (kindOf r),false):=by
 obtain⟨h,k,au,rfl,_⟩:=g;exact fV h k au
theorem tI {r:D}(g:qI r):aK [r]=some (tH r,false):=by
 obtain⟨h,k,au,rfl,d⟩:=g;unfold tH;by_cases hk:k=("root" : Str)
 ·have:bf (row h k au)=true:=decide_eq_true hk;rw[if_pos this];exact ay rfl (bw (bx (a:=k) (bb:=false) (cdD [row h k au] rfl (fV _ _ _)) (decide_eq_true hk)) (a9 rfl))
 ·have:bf (row h k au)=false:=decide_eq_false hk;rw[if_neg (by rw[this];decide)];obtain⟨dd,q,rfl⟩:=d.day hk;exact ay rfl (aB (bx (a:=k) (bb:=false) (cdD [row h k (.int dd::q)] rfl (fV _ _ _)) (decide_eq_false hk)) (a9 (cdD [row h k (.int dd::q),.str "day"] rfl (bc (i:=0) (d.day_idx hk) rfl))))
def fH (rows:List D):Prop:=rows.length<=60/\∀r∈rows,qI r
theorem fH.rp {rows:List D}(g:fH rows):∀r∈rows,kH r:=λr hr=>(g.2 r hr).rp
theorem fH.le {rows:List D}(g:fH rows):rows.length<=1000:=Nat.le_trans g.1 (by decide)
theorem bu {rows:List D}{known:Int}{x:D×Nat}(h:x∈am rows known):rows[x.2]? = some x.1:=by
 obtain⟨h1,_⟩:=List.mem_filter.mp h;exact List.mem_zipIdx_iff_getElem?.mp h1
theorem cU (rows:List D)(known:Int):(am rows known).length<=rows.length:=by
 have:=List.length_filter_le (λx:D×Nat=>decide (bE x.1<=known)) rows.zipIdx;rw[List.length_zipIdx]at this;exact this
theorem gV (rows:List D)(known:Int):((am rows known).map (·.2)).Nodup:=by
 have h1:(rows.zipIdx.map (·.2)).Nodup:=by rw[List.zipIdx_map_snd];exact List.nodup_range'
 exact List.Nodup.sublist (List.Sublist.map _ (List.filter_sublist)) h1
noncomputable def cr (rows:List D)(known:Int):List (D×Nat):=(am rows known).filter λx=>!bf x.1
noncomputable def GR (rows:List D)(known:Int):List (D×Nat):=eX (λx=>bT (kA x)) (cr rows known)
theorem A3 {a b:D×Nat}(h:bT (kA a)=bT (kA b)):a.2=b.2:=by
 have h:[aG a.1,(a.2:Int)]=[aG b.1,(b.2:Int)]:=h;injection h with _ h;injection h with h;omega
theorem C7 {rows:List D}{known:Int}{a b:D×Nat}(ha:a∈am rows known)(hb:b∈am rows known)(h:a.2=b.2):a=b:=by
 have h1:=bu ha;have h2:=bu hb;rw[h,h2]at h1;exact Prod.ext (Option.some.inj h1).symm h
theorem tJ {rows:List D}(g:fH rows)(known:Int):dX [.tup rows,.int known]=some (.lst ((GR rows known).map λx=>.int x.2),true):=by
 have hl:=g.1;have hll:=cU rows known;have hrow:∀x∈am rows known,atI rows (x.2:Int)=some x.1/\qI x.1:=λx hx=>⟨cq (bu hx),g.2 _ (List.mem_of_getElem? (bu hx))⟩;have hc:=gz (fi:=cG (fA bO (ac (ae 0) (ac (ae 1) ah)))) (nT:=1) (cap:=[0]) (tg:=tgN 0) (c:=tOf (f2 ij (fA aK (ac (f2 ixD (ae 1) (ae 0)) ah)) (fC .non))) (fe:=ae 0) (ρ:=[some (.tup rows,false),some (.int known,false),none]) (am rows known) (λx=>.int x.2) (λx=>!bf x.1) (λx=>.int x.2)
  (by
   show(fA bO (ac (ae 0) (ac (ae 1) ah)) _).bind _=_;rw[cdD [.tup rows,.int known] rfl (jO rows g.rp g.le known)];rfl) (by omega) λx hx=>by
   obtain⟨ha,gx⟩:=hrow x hx;refine⟨_,rfl,tkF (eoF (tH x.1) .non (cdD [x.1] (by simp[bP,ha]) (tI gx)) rfl ?_),λ_=>⟨false,by simp[bP]⟩⟩;unfold tH;cases bf x.1<;>simp[xR]
 have hc':bQ (cG (fA bO (ac (ae 0) (ac (ae 1) ah)))) 1 [0] (tgN 0) (tOf (f2 ij (fA aK (ac (f2 ixD (ae 1) (ae 0)) ah)) (fC .non))) (ae 0) [some (.tup rows,false),some (.int known,false),none]=some (.lst ((cr rows known).map λx=>.int x.2),true):=hc;have hfl:bd ((cr rows known).map λx=>D.int x.2)=true:=bL λd hd=>by obtain⟨x,_,rfl⟩:=List.mem_map.mp hd;rfl
 have hdl:(cr rows known).length<=60:=Nat.le_trans (List.length_filter_le _ _) (by omega);have hmem:∀x∈cr rows known,x∈am rows known/\bf x.1=false:=λx hx=>by
  obtain⟨h1,h2⟩:=List.mem_filter.mp hx;exact⟨h1,by simpa using h2⟩
 have hm:∀ρ:DL.Env,ρ[0]? = some (some (.tup rows,false))->gK (mo [0] (fA c8 (ac (ae 1) (ac (ae 0) ah))) ρ) ((cr rows known).map λx=>.int x.2)=some ((cr rows known).map λx=>.tup [.int (aG x.1),.int x.2]):=λρ h0=>
  fG (cr rows known) λx hx=>by
   obtain⟨h1,h2⟩:=hmem x hx;obtain⟨ha,gx⟩:=hrow x h1;have hd:=tI gx;unfold tH at hd;rw[h2,if_neg (by decide)]at hd;have hr:c8 [.tup rows,.int x.2]=some (.tup [.int (aG x.1),.int x.2],false):=ay rfl (a9 (cdD [.int (aG x.1),.int x.2] (aE (d:=.int (aG x.1)) (b:=false) (cdD [x.1] (by simp[ha]) hd) rfl) (by simp[sizeLine])));show(fA c8 _ _).map _=_;rw[cdD [.tup rows,.int x.2] (by simp[bP,h0]) hr];rfl
 have hk:cN ((cr rows known).map λx=>D.tup [.int (aG x.1),.int x.2])=some ((cr rows known).map kA):=fu _ λx _=>rfl;have hz:((cr rows known).map kA).zip ((cr rows known).map λx=>D.int x.2)=(cr rows known).map λx=>(kA x,D.int x.2):=by rw[List.zip_map']
 have hnd:((cr rows known).map (·.2)).Nodup:=List.Nodup.sublist (List.Sublist.map _ (List.filter_sublist)) (gV rows known);have hcond:((cr rows known).map kA).length<64/\da ((cr rows known).map kA)=true/\dD ((cr rows known).map kA)=true/\(((cr rows known).map kA).map bT).Nodup:=by
  refine⟨by rw[List.length_map];omega,qG _,?_,?_⟩
  ·unfold dD;rw[Bool.or_eq_true];left;simp[List.all_eq_true,kA]
  ·rw[List.map_map];exact List.Pairwise.map _ (λa b h e=>h (A3 e)) (List.pairwise_map.mp hnd)
 refine ay rfl (bX hc' hfl (a9 ?_));show(mq (ae 2) _ _)=_;unfold mq;show((some (D.lst ((cr rows known).map λx=>D.int x.2),false)).bind _)=_;simp only[Option.bind_some];rw[hm _ rfl];simp only[Option.bind_some];rw[hk];simp only[Option.bind_some];rw[if_pos hcond];unfold gt;rw[hz];have key:((GR rows known).map λx=>(kA x,D.int x.2))=eX (λp:List At×D=>bT p.1) ((cr rows known).map λx=>(kA x,D.int x.2)):=by
  refine j9 _ (λx hx y hy e=>?_) ((bK _ _).map _) ?_
  ·obtain⟨a,ha,rfl⟩:=List.mem_map.mp hx;obtain⟨b,hb,rfl⟩:=List.mem_map.mp hy;rw[C7 (hmem a ha).1 (hmem b hb).1 (A3 e)]
  ·exact List.pairwise_map.mpr (dn _ _)
 rw[←key,List.map_map];rfl
structure Cl where
 o:Str
 p:Str
 s:Int
 u:Option Int
 n:Nat
noncomputable def uD:Option Int->D
 |none=>.non
 |some x=>.int x
noncomputable def clD (c:Cl):D:=.tup [.str c.o,.str c.p,.int c.s,uD c.u,.int c.n]
theorem wT (u:Option Int):aZ (uD u)=true:=by cases u<;>rfl
theorem jQ (c:Cl):aZ (clD c)=true:=by simp[clD,wT]
theorem gA (cs:List Cl):bd (cs.map clD)=true:=bL λd hd=>by obtain⟨c,_,rfl⟩:=List.mem_map.mp hd;exact jQ c
noncomputable def fJ (c:Cl)(day:Int):Bool:=decide (c.s<=day) && (match c.u with|none=>true|some x=>decide (day<x))
theorem at3 (d e f g:D)(r:List D):atI (d::e::f::g::r) 3=some g:=by have:=i7 (xs:=d::e::f::g::r) (j:=3) (by simp);simpa using this
theorem at4 (d e f g h:D)(r:List D):atI (d::e::f::g::h::r) 4=some h:=by have:=i7 (xs:=d::e::f::g::h::r) (j:=4) (by simp);simpa using this
theorem cl0 (c:Cl):ixD (clD c) (.int 0)=some (.str c.o,false):=by simp[clD,at0]
theorem cl1 (c:Cl):ixD (clD c) (.int 1)=some (.str c.p,false):=by simp[clD,at1]
theorem cl2 (c:Cl):ixD (clD c) (.int 2)=some (.int c.s,false):=by simp[clD,at2]
theorem cl3 (c:Cl):ixD (clD c) (.int 3)=some (uD c.u,false):=by simp[clD,at3]
theorem cl4 (c:Cl):ixD (clD c) (.int 4)=some (.int c.n,false):=by simp[clD,at4]
theorem bC (ds:List D)(h:ds.length<=100):aL ds=some (.tup ds,false):=if_pos (cO (by omega))
theorem jr (ds:List D)(h:ds.length<=100):bp ds=some (.lst ds,true):=if_pos (cO (by omega))
theorem wU (s day:Int)(u:Option Int):dY [.int day,.tup [.int s,uD u]]=some (.bl (decide (s<=day) && (match u with|none=>true|some x=>decide (day<x))),false):=by
 refine ay rfl (a9 (du (b1:=false) (by simp[at0]) λ_=>?_));cases u with
 |none=>exact wH (p:=true) (q:=true) (b1:=false) (by simp[at1,uD]) (by simp)
 |some x=>exact wH (p:=false) (q:=decide (day<x)) (b1:=false) (by simp[at1,uD]) λ_=>by simp[at1,uD]
theorem nu (c:Cl)(day:Int):b9 [clD c,.int day]=some (.bl (fJ c day),false) :=
 ay rfl (a9 (cdD [.int day,.tup [.int c.s,uD c.u]] (acF rfl (acF (cdD [.int c.s,uD c.u] (aE (eoF (clD c) (.int 2) rfl rfl (cl2 c)) (aE (eoF (clD c) (.int 3) rfl rfl (cl3 c)) rfl)) (bC _ (by simp))) rfl)) (wU c.s day c.u)))
theorem tK (c:Cl):bS [clD c]=some (.tup [.int c.s,.int c.n],false) :=
 ay rfl (a9 (cdD [.int c.s,.int c.n] (aE (eoF (clD c) (.int 2) rfl rfl (cl2 c)) (aE (eoF (clD c) (.int 4) rfl rfl (cl4 c)) rfl)) (bC _ (by simp))))
theorem qJ (c:Cl):d4 [clD c]=some (.tup [.str c.o,.int c.s,.int c.n],false) :=
 ay rfl (a9 (cdD [.str c.o,.int c.s,.int c.n] (aE (eoF (clD c) (.int 0) rfl rfl (cl0 c)) (aE (eoF (clD c) (.int 2) rfl rfl (cl2 c)) (aE (eoF (clD c) (.int 4) rfl rfl (cl4 c)) rfl))) (bC _ (by simp))))
noncomputable def kS (c:Cl):List At:=[.i c.s,.i c.n]
noncomputable def jR:Cl->List Cl->Cl
 |b,[]=>b
 |b,x::r=>if aJ (kS x) (kS b)=some true then jR x r else jR b r
noncomputable def oq:Cl->List Cl->Cl
 |b,[]=>b
 |b,x::r=>if aJ (kS b) (kS x)=some true then oq x r else oq b r
theorem nv:∀(r:List Cl)(b:Cl),jb (kS b,clD b) (r.map λx=>(kS x,clD x))=clD (jR b r)
 |[],b=>rfl
 |x::r,b=>by
  rw[List.map_cons,jb,jR];split
  ·exact nv r x
  ·exact nv r b
theorem nw:∀(r:List Cl)(b:Cl),jD (kS b,clD b) (r.map λx=>(kS x,clD x))=clD (oq b r)
 |[],b=>rfl
 |x::r,b=>by
  rw[List.map_cons,jD,oq];split
  ·exact nw r x
  ·exact nw r b
theorem wV (cs:List Cl):da (cs.map kS)=true:=by
 unfold da;simp[List.all_eq_true,kS,Fi]
theorem nz (ρ:DL.Env)(cs:List Cl):gK (om bS ρ) (cs.map clD)=some (cs.map λc=>.tup [.int c.s,.int c.n]):=fG cs λc _=>by
 show(bS [clD c]).map _=_;rw[tK];rfl
theorem ln (cs:List Cl):cN (cs.map λc=>D.tup [.int c.s,.int c.n])=some (cs.map kS):=fu cs λc _=>rfl
theorem A4 {f:FE}{ρ:DL.Env}{b:Cl}{r:List Cl}{bb:Bool}(e:f ρ=some (.lst ((b::r).map clD),bb)):pi f (om bS) ρ=some (clD (jR b r),false):=by
 unfold pi fKK;rw[e,Option.bind_some];dsimp only;rw[nz,Option.bind_some,ln,Option.bind_some,if_pos (wV _)];have:((b::r).map kS).zip ((b::r).map clD)=(kS b,clD b)::r.map λx=>(kS x,clD x):=by rw[List.zip_map'];rfl
 rw[this];show some (jb _ _,false)=_;rw[nv]
theorem Fj {f:FE}{ρ:DL.Env}{b:Cl}{r:List Cl}{bb:Bool}(e:f ρ=some (.lst ((b::r).map clD),bb)):ph f (om bS) ρ=some (clD (oq b r),false):=by
 unfold ph fKK;rw[e,Option.bind_some];dsimp only;rw[nz,Option.bind_some,ln,Option.bind_some,if_pos (wV _)];have:((b::r).map kS).zip ((b::r).map clD)=(kS b,clD b)::r.map λx=>(kS x,clD x):=by rw[List.zip_map'];rfl
 rw[this];show some (jD _ _,false)=_;rw[nw]
noncomputable def fK (rl:Str)(b:Cl)(r:List Cl):Cl:=if rl=("last" : Str)then oq b r else jR b r
theorem A5 (rl:Str)(b:Cl)(r:List Cl):gP [.lst ((b::r).map clD),.str rl]=some (.str (fK rl b r).p,false):=by
 unfold fK;by_cases h:rl=("last" : Str)
 ·rw[if_pos h];exact ay rfl (bw (bx (a:=rl) (bb:=false) rfl (decide_eq_true h)) (a9 (eoF (clD (oq b r)) (.int 1) (Fj (bb:=false) rfl) rfl (cl1 _))))
 ·rw[if_neg h];exact ay rfl (aB (bx (a:=rl) (bb:=false) rfl (decide_eq_false h)) (a9 (eoF (clD (jR b r)) (.int 1) (A4 (bb:=false) rfl) rfl (cl1 _))))
theorem n0:∀(r:List Cl)(b:Cl),jR b r∈b::r
 |[],b=>by simp[jR]
 |x::r,b=>by
  rw[jR];split
  ·exact mZ _ (n0 r x)
  ·rcases List.mem_cons.mp (n0 r b)with h|h
   ·rw[h];exact mX
   ·exact mZ _ (mZ _ h)
theorem n6:∀(r:List Cl)(b:Cl),oq b r∈b::r
 |[],b=>by simp[oq]
 |x::r,b=>by
  rw[oq];split
  ·exact mZ _ (n6 r x)
  ·rcases List.mem_cons.mp (n6 r b)with h|h
   ·rw[h];exact mX
   ·exact mZ _ (mZ _ h)
theorem yu (rl:Str)(b:Cl)(r:List Cl):fK rl b r∈b::r:=by
 unfold fK;split
 ·exact n6 r b
 ·exact n0 r b
noncomputable def alL (cs:List Cl)(o:Str)(day:Int):List Cl:=cs.filter λc=>decide (c.o=o) && fJ c day
noncomputable def js (cs:List Cl):List Str:=ja (fO (cs.map (·.p)))
noncomputable def GS:List Cl->Nat
 |[]=>0
 |b::r=>(jR b r).n
noncomputable def lq (rl:Str):List Cl->D
 |[]=>.tup [.str "none"]
 |b::r=>if 1<(js (b::r)).length/\rl=("open" : Str)then .tup [.str "parted",.lst ((js (b::r)).map .str)]
  else .tup [.str "one",.str (fK rl b r).p,.int (GS ((b::r).filter λc=>decide (c.p=(fK rl b r).p)))]
noncomputable def hU (cs:List Cl)(o rl:Str)(day:Int):D:=lq rl (alL cs o day)
theorem C8 {z:Str}{zs:List Str}:fO (z::zs)≠[]:=by
 have:∀(ss:List Str)(ts:List Str),z∈ts->z∈ss.foldl hZ ts:=λss=>by
  induction ss with
  |nil=>intro ts h;exact h
  |cons a l ih=>intro ts h;exact ih _ (sF.mpr (.inl h))
 have h:=this zs (hZ [] z) (sF.mpr (.inr rfl));intro e;unfold fO at e;rw[List.foldl_cons]at e;rw[e]at h;cases h
theorem iF {h:Int}{o rl:Str}{m f:Int}:ai [row h ("root" : Str) [.str o,.int m,.int f,.str rl],.str "office"]=some (.str o,false):=bc (i:=0) (aW (by decide +kernel)) rfl
theorem yv {h:Int}{o rl:Str}{m f:Int}:ai [row h ("root" : Str) [.str o,.int m,.int f,.str rl],.str "rule"]=some (.str rl,false):=bc (i:=3) (aW (by decide +kernel)) rfl
theorem n8 (zs:List Str):fB (zs.map .str)=some zs:=by
 induction zs with
 |nil=>rfl
 |cons z zs ih=>simp[ih]
theorem jS (cs:List Cl)(hl:cs.length<=60){h:Int}{o rl:Str}{m f:Int}(day:Int):bY [.lst (cs.map clD),row h ("root" : Str) [.str o,.int m,.int f,.str rl],.int day]=some (hU cs o rl day,false):=by
 let rt:D:=row h ("root" : Str) [.str o,.int m,.int f,.str rl];have h1:=gz (fi:=cG (ae 0)) (nT:=1) (cap:=[2,1]) (tg:=tgN 0) (c:=cB (tOf (f2 dEq (ixV 0 0) (fA ai (ac (ae 2) (ac (fC (.str "office")) ah))))) (tOf (fA b9 (ac (ae 0) (ac (ae 1) ah))))) (fe:=ae 0)
  (ρ:=[some (.lst (cs.map clD),false),some (rt,false),some (.int day,false),none,none,none,none]) cs clD (λc=>decide (c.o=o) && fJ c day) clD (by simp) (by omega) λc hc=>by
   refine⟨_,rfl,dj (tkF (eoF (.str c.o) (.str o) (eoF (clD c) (.int 0) (by simp[bP]) rfl (cl0 c)) (cdD [rt,.str "office"] (by simp[bP]) iF) (by simp))) λ_=>tkF (cdD [clD c,.int day] (by simp[bP]) (nu c day)),λ_=>⟨false,by simp[bP]⟩⟩
 have h1':bQ (cG (ae 0)) 1 [2,1] (tgN 0) (cB (tOf (f2 dEq (ixV 0 0) (fA ai (ac (ae 2) (ac (fC (.str "office")) ah))))) (tOf (fA b9 (ac (ae 0) (ac (ae 1) ah))))) (ae 0) [some (.lst (cs.map clD),false),some (rt,false),some (.int day,false),none,none,none,none]=some (.lst ((alL cs o day).map clD),true):=h1;have hal:(alL cs o day).length<=60:=Nat.le_trans (List.length_filter_le _ _) hl;unfold hU;generalize alL cs o day=al at h1' hal;have h2:∀ρ:DL.Env,ρ[3]? = some (some (.lst (al.map clD),true))->f1 eM (bQ (cG (ae 3)) 1 [] (tgN 0) iW (ixV 0 1)) ρ=some (.lst ((js al).map .str),true):=λρ h3=>by
  have hc:=tq (fi:=cG (ae 3)) (nT:=1) (cap:=[]) (tg:=tgN 0) (fe:=ixV 0 1) (ρ:=ρ) al clD (λc=>.str c.p) (by simp[h3]) (by omega) λc hc=>⟨_,rfl,false,eoF (clD c) (.int 1) (by simp[bP]) rfl (cl1 c)⟩;have e2:al.map (λc=>D.str c.p)=(al.map (·.p)).map .str:=by rw[List.map_map];rfl
  rw[e2]at hc;unfold f1;rw[hc,Option.bind_some];show(fB ((al.map (·.p)).map .str)).bind _=_;rw[n8,Option.bind_some,if_pos (by rw[List.length_map];omega)];rfl
 have hpl:bd ((js al).map D.str)=true:=cR _;refine ay rfl (bX (ds:=al.map clD) h1' (gA al) (bX (ds:=(js al).map .str) (h2 _ rfl) hpl ?_));cases al with
 |nil=>exact bw (tkF (by simp[js,fO,ja])) (a9 (cdD [.str "none"] rfl (bC _ (by simp))))
 |cons b r=>
  have hne:(js (b::r)).length≠0:=by
   unfold js;rw[(dU _).length_eq];intro e;exact C8 (List.length_eq_zero_iff.mp e)
  refine aB (tkF (by simp[hne])) ?_;have hrule:∀ρ:DL.Env,ρ[1]? = some (some (rt,false))->fA ai (ac (ae 1) (ac (fC (.str "rule")) ah)) ρ=some (.str rl,false):=λρ q1=>cdD [rt,.str "rule"] (by simp[q1]) yv;by_cases hp:1<(js (b::r)).length/\rl=("open" : Str)
  ·have:lq rl (b::r)=.tup [.str "parted",.lst ((js (b::r)).map .str)]:=by rw[lq,if_pos hp]
   rw[this];exact bw (dj (p:=true) (q:=true) (tkF (by simp;omega)) λ_=>bx (bb:=false) (hrule _ rfl) (decide_eq_true hp.2)) (a9 (cdD [.str "parted",.lst ((js (b::r)).map .str)] (by simp) (bC _ (by simp))))
  ·have:lq rl (b::r)=.tup [.str "one",.str (fK rl b r).p,.int (GS ((b::r).filter λc=>decide (c.p=(fK rl b r).p)))]:=by rw[lq,if_neg hp]
   rw[this];have hcond:cB (tOf (f2 iGt (fA eI (ac (ae 4) ah)) (fC (.int 1)))) (tOf (f2 dEq (fA ai (ac (ae 1) (ac (fC (.str "rule")) ah))) (fC (.str "open")))) [some (.lst (cs.map clD),false),some (rt,false),some (.int day,false),some (.lst ((b::r).map clD),true),some (.lst ((js (b::r)).map .str),true),none,none]=some false:=by
    by_cases h5:1<(js (b::r)).length
    ·exact dj (p:=true) (q:=false) (tkF (by simp;omega)) λ_=>bx (bb:=false) (hrule _ rfl) (decide_eq_false λe=>hp ⟨h5,e⟩)
    ·exact dj (p:=false) (q:=false) (tkF (by simp;omega)) (by simp)
   have hmem:=yu rl b r;let ch:=fK rl b r;have h6:=gz (fi:=cG (ae 3)) (nT:=1) (cap:=[5]) (tg:=tgN 0) (c:=tOf (f2 dEq (ixV 0 1) (ae 1))) (fe:=ae 0) (ρ:=[some (.lst (cs.map clD),false),some (rt,false),some (.int day,false),some (.lst ((b::r).map clD),true),some (.lst ((js (b::r)).map .str),true),some (.str ch.p,false),none]) (b::r) clD (λc=>decide (c.p=ch.p)) clD (by simp) (by omega) λc hc=>⟨_,rfl,tkF (eoF (.str c.p) (.str ch.p) (eoF (clD c) (.int 1) (by simp[bP]) rfl (cl1 c)) (by simp[bP]) (by simp)),λ_=>⟨false,by simp[bP]⟩⟩;obtain⟨b2,r2,hf⟩:∃b2 r2,(b::r).filter (λc=>decide (c.p=ch.p))=b2::r2:=by
    cases hq:(b::r).filter (λc=>decide (c.p=ch.p)) with
    |nil=>
     have:=List.filter_eq_nil_iff.mp hq _ hmem;simp[ch]at this
    |cons b2 r2=>exact⟨b2,r2,rfl⟩
   rw[hf]at h6 ⊢;refine aB hcond (rfF (.str ch.p) (cdD [.lst ((b::r).map clD),.str rl] (acF (by simp) (aE (hrule _ rfl) rfl)) (A5 rl b r)) rfl (rfF (clD (jR b2 r2)) (A4 (bb:=true) h6) (jQ _) (a9 (cdD [.str "one",.str ch.p,.int (jR b2 r2).n] (acF rfl (acF rfl (aE (eoF (clD (jR b2 r2)) (.int 4) rfl rfl (cl4 _)) rfl))) (bC _ (by simp))))))
noncomputable def DB:D->D
 |.tup ds=>.tup (nZ ds none (some 2))
 |d=>d
noncomputable def hV (cs:List Cl)(o rl p:Str)(day:Int):Bool:=eqD (DB (hU cs o rl day)) (.tup [.str "one",.str p])
theorem vy (n:Nat)(zs:List Str):(zs.map D.str).all (aj n)=true:=by
 induction zs with
 |nil=>rfl
 |cons a l ih=>simp
theorem yw (rl:Str)(al:List Cl):∃ds,lq rl al=.tup ds/\ds.all (aj 5)=true:=by
 cases al with
 |nil=>exact⟨_,rfl,by simp⟩
 |cons b r=>
  rw[lq];split
  ·exact⟨_,rfl,by simp only[List.all_cons,List.all_nil,aj,Bool.and_true,Bool.true_and];exact vy _ _⟩
  ·exact⟨_,rfl,by simp⟩
theorem A6 {ds:List D}{lo hi:Option Int}(h:ds.all (aj 5)=true):(nZ ds lo hi).all (aj 5)=true:=by
 rw[List.all_eq_true]at h ⊢;exact λd hd=>h d (List.mem_of_mem_drop (List.mem_of_mem_take hd))
theorem p9 {ds:List D}(h:ds.all (aj 5)=true):aj 40 (.tup ds)=true:=gT 6 40 _ (by decide) (by simpa only[aj]using h)
theorem wW (cs:List Cl)(hl:cs.length<=60){h:Int}{o rl:Str}{m f:Int}(p:Str)(day:Int):bZ [.lst (cs.map clD),row h ("root" : Str) [.str o,.int m,.int f,.str rl],.str p,.int day]=some (.bl (hV cs o rl p day),false):=by
 have hb:=jS cs hl (h:=h) (o:=o) (rl:=rl) (m:=m) (f:=f) day;obtain⟨ds,e,hd⟩:=yw rl (alL cs o day);have e':hU cs o rl day=.tup ds:=e;refine ay rfl (a9 (eoF (DB (hU cs o rl day)) (.tup [.str "one",.str p]) ?_ (by simp[sizeLine]) ?_))
 ·have hc:=wG (F:=bY) (fa:=ac (ae 0) (ac (ae 1) (ac (ae 3) ah))) (ρ:=[some (.lst (cs.map clD),false),some (row h ("root" : Str) [.str o,.int m,.int f,.str rl],false),some (.str p,false),some (.int day,false)]) (ds:=[.lst (cs.map clD),row h ("root" : Str) [.str o,.int m,.int f,.str rl],.int day]) rfl hb;rw[e']at hc ⊢;show fSl (fA bY (ac (ae 0) (ac (ae 1) (ac (ae 3) ah)))) zy (wb (fC (.int 2))) _=_;unfold fSl;rw[show(List.map (λd=>some (d,false)) [D.lst (cs.map clD),row h ("root" : Str) [.str o,.int m,.int f,.str rl],.str p,.int day]++List.replicate 0 none:DL.Env)=[some (.lst (cs.map clD),false),some (row h ("root" : Str) [.str o,.int m,.int f,.str rl],false),some (.str p,false),some (.int day,false)]from rfl,hc];rfl
 ·unfold hV dEq;rw[if_pos];rw[e'];exact⟨p9 (A6 hd),p9 (by simp)⟩
noncomputable def a7 (j:Nat):D->Str
 |.tup [_,.tup (_::au)]=>match au[j]? with
  |some (.str s)=>s
  |_=>("" : Str)
 |_=>("" : Str)
noncomputable def jf (j:Nat):D->Int
 |.tup [_,.tup (_::au)]=>match au[j]? with
  |some (.int s)=>s
  |_=>0
 |_=>0
theorem Cd.root_of {r:List D}(h:Cd ("root" : Str) r):∃o rl,∃m f:Int,r=[.str o,.int m,.int f,.str rl]:=by
 generalize hk:("root" : Str)=k at h;cases h with
 |root o rl m f=>exact⟨o,rl,m,f,rfl⟩
 |named=>exact absurd hk (by decide +kernel)
 |chosen=>exact absurd hk (by decide +kernel)
 |heir=>exact absurd hk (by decide +kernel)
 |three _ hh=>rcases hh with rfl|rfl|rfl<;>exact absurd hk (by decide +kernel)
 |other _ hh=>rcases hh with rfl|rfl|rfl|rfl|rfl<;>exact absurd hk (by decide +kernel)
theorem pA {κ α:Type}[DecidableEq κ]{ks:List κ}{k:κ}{x y:α}:∀ {xs:List α},y∈dP ks xs k x->y=x∨y∈xs:=by
 intro xs h;unfold dP at h;split at h
 ·rename_i hk0;clear hk0;induction ks generalizing xs with
  |nil=>simp at h
  |cons a ks ih=>
   cases xs with
   |nil=>simp at h
   |cons b xs=>
    rw[List.zipWith_cons_cons,List.mem_cons]at h;rcases h with h|h
    ·split at h
     ·exact .inl h
     ·exact .inr (by rw[h];exact mX)
    ·rcases ih h with h|h
     ·exact .inl h
     ·exact .inr (mZ _ h)
 ·rcases List.mem_append.mp h with h|h
  ·exact .inr h
  ·exact .inl (List.mem_singleton.mp h)
theorem pB:∀(l:List (Key×D))(a:List Key×List D)(y:D),y∈(l.foldl m4 a).2->y∈a.2∨∃p∈l,p.2=y
 |[],a,y,h=>.inl h
 |p::l,a,y,h=>by
  rw[List.foldl_cons]at h;rcases pB l _ y h with h|⟨q,hq,e⟩
  ·rcases pA (show y∈dP a.1 a.2 p.1 p.2 from h)with h|h
   ·exact .inr ⟨p,mX,h.symm⟩
   ·exact .inl h
  ·exact .inr ⟨q,mZ _ hq,e⟩
theorem pC {α:Type}(f:α->Str)(g:α->D):∀(l:List α),gc (l.map λx=>D.tup [.str (f x),g x])=some (l.map λx=>(.inr (f x),g x))
 |[]=>rfl
 |x::l=>by
  rw[List.map_cons,gc,pC f g l];rfl
theorem nA {κ:Type}[DecidableEq κ]:∀ {ks:List κ}{vs:List D}{k:κ}{v:D},cw ks vs k=some v->v∈vs
 |k'::ks,d::ds,k,v,h=>by
  unfold cw at h;split at h
  ·cases h;exact mX
  ·exact mZ _ (nA h)
 |[],_,_,_,h=>by simp[cw]at h
 |_::_,[],_,_,h=>by simp[cw]at h
noncomputable def jT (KL:List (D×Nat)):List (Key×D):=(KL.filter λx=>bf x.1).map λx=>(.inr (a7 0 x.1),x.1)
noncomputable def wZ (KL:List (D×Nat))(o:Str):Option D:=cw (b7 (jT KL)).1 (b7 (jT KL)).2 (.inr o)
theorem nB {r:D}(g:qI r)(h:bf r=true):∃a o rl,∃m f:Int,r=row a ("root" : Str) [.str o,.int m,.int f,.str rl]:=by
 obtain⟨a,k,au,rfl,d⟩:=g;have hk:k=("root" : Str):=of_decide_eq_true h;subst hk;obtain⟨o,rl,m,f,rfl⟩:=d.root_of;exact⟨a,o,rl,m,f,rfl⟩
theorem cE {rows:List D}(g:fH rows){known:Int}{x:D×Nat}(hx:x∈am rows known):atI rows (x.2:Int)=some x.1/\qI x.1:=⟨cq (bu hx),g.2 _ (List.mem_of_getElem? (bu hx))⟩
theorem tL {rows:List D}(g:fH rows){known:Int}{o:Str}{v:D}(h:wZ (am rows known) o=some v):∃a o2 rl,∃m f:Int,v=row a ("root" : Str) [.str o2,.int m,.int f,.str rl]:=by
 have hv:=nA h;rcases pB _ ([],[]) v hv with h|⟨p,hp,e⟩
 ·cases h
 ·obtain⟨x,hx,rfl⟩:=List.mem_map.mp hp;obtain⟨h1,h2⟩:=List.mem_filter.mp hx;rw[←e];exact nB (cE g h1).2 h2
theorem tM {rows:List D}(g:fH rows)(known:Int):eY [.tup rows,.int known]=some (.dk (b7 (jT (am rows known))).1 (b7 (jT (am rows known))).2,false):=by
 have hl:=cU rows known;have hl2:=g.1;have h1:=tq (fi:=cG (fA bO (ac (ae 0) (ac (ae 1) ah)))) (nT:=1) (cap:=[0]) (tg:=tgN 0) (fe:=f2 ixD (ae 1) (ae 0)) (ρ:=[some (.tup rows,false),some (.int known,false),none]) (am rows known) (λx=>.int x.2) Prod.fst
  (by
   show(fA bO (ac (ae 0) (ac (ae 1) ah)) _).bind _=_;rw[cdD [.tup rows,.int known] rfl (jO rows g.rp g.le known)];rfl) (by omega) λx hx=>by
   have ha:=(cE g hx).1;exact⟨_,rfl,false,by simp[bP,ha]⟩
 have hn:bd ((am rows known).map Prod.fst)=true:=bL λd hd=>by
  obtain⟨x,hx,rfl⟩:=List.mem_map.mp hd;exact(cE g hx).2.rp.flat
 have h2:=gz (fi:=cG (ae 2)) (nT:=1) (cap:=[]) (tg:=tgN 0) (c:=tOf (f2 dEq (fA aC (ac (ae 0) ah)) (fC (.str "root")))) (fe:=fA aL (ac (fA ai (ac (ae 0) (ac (fC (.str "office")) ah))) (ac (ae 0) ah)))
  (ρ:=[some (.tup rows,false),some (.int known,false),some (.lst ((am rows known).map Prod.fst),true)]) (am rows known) Prod.fst (λx=>bf x.1) (λx=>.tup [.str (a7 0 x.1),x.1]) (by simp) (by omega) λx hx=>by
   have gr:=(cE g hx).2;refine⟨_,rfl,bx (a:=kindOf x.1) (bb:=false) (cdD [x.1] rfl (kL gr)) rfl,λhp=>⟨false,?_⟩⟩;obtain⟨a,o,rl,m,f,e⟩:=nB gr hp;refine cdD [.str (a7 0 x.1),x.1] (acF (cdD [x.1,.str "office"] rfl ?_) rfl) (bC _ (by simp));rw[e];exact iF
 refine ay rfl (bX (ds:=(am rows known).map Prod.fst) h1 hn (a9 (cdD [.lst (((am rows known).filter λx:D×Nat=>bf x.1).map λx:D×Nat=>D.tup [.str (a7 0 x.1),x.1])] (aE h2 rfl) ?_)));rw[gL,pC (λx:D×Nat=>a7 0 x.1) Prod.fst];rfl
noncomputable def l7:D×Nat->List (D×Nat)->D×Nat
 |b,[]=>b
 |b,x::r=>if aJ (kA x) (kA b)=some true then l7 x r else l7 b r
theorem qK:∀(r:List (D×Nat))(b:D×Nat),jb (kA b,.int b.2) (r.map λx=>(kA x,D.int x.2))=.int (l7 b r).2
 |[],b=>rfl
 |x::r,b=>by
  rw[List.map_cons,jb,l7];split
  ·exact qK r x
  ·exact qK r b
noncomputable def fL (KL:List (D×Nat))(p:Str)(day:Int)(i:Nat):Bool:=match KL.filter (λx=>told cS p day x.1) with
 |[]=>false
 |b::r=>decide ((l7 b r).2=i)
theorem A7 {rows:List D}(g:fH rows)(known:Int){x:D×Nat}(hx:x∈am rows known){a d:Int}{p:Str}(e:x.1=row a ("death" : Str) [.int d,.str p]):cZ [.tup rows,.int known,.int x.2]=some (.bl (fL (am rows known) p d x.2),false):=by
 have ha:=(cE g hx).1;have gx:=(cE g hx).2;have ht:=qF rows g.rp g.le known cS gU p d;have hpart:ai [x.1,.str "person"]=some (.str p,false):=by rw[e];exact bc (i:=1) (aW (by decide +kernel)) rfl
 have hday:aK [x.1]=some (.int d,false):=by rw[e];exact g9 (.inl (by decide +kernel)) rfl
 have hmem:x∈l5 rows known cS p d:=List.mem_filter.mpr ⟨hx,by rw[e];simp[told,row,cS,p8]⟩;have hfv:fL (am rows known) p d x.2=match l5 rows known cS p d with|[]=>false|b::r=>decide ((l7 b r).2=x.2):=rfl
 have key:∀y∈l5 rows known cS p d,∃h k dd,rows[y.2]? = some (row h k [.int dd,.str p])/\y.1=row h k [.int dd,.str p]/\cj k=true:=λy hy=>by
  obtain⟨hg,htl⟩:=wR hy;obtain⟨h,k,dd,e2,h3,_⟩:=nn gU (g.rp _ (List.mem_of_getElem? hg)) htl;exact⟨h,k,dd,by rw[hg,e2],e2,h3⟩
 rw[hfv];cases hs:l5 rows known cS p d with
 |nil=>rw[hs]at hmem;cases hmem
 |cons b r=>
  rw[hs]at ht key;have hm:∀ρ:DL.Env,ρ[0]? = some (some (.tup rows,false))->gK (mo [0] (fA c8 (ac (ae 1) (ac (ae 0) ah))) ρ) ((b::r).map λy=>.int y.2)=some ((b::r).map λy=>.tup [.int (aG y.1),.int y.2]):=λρ h0=>
   fG (b::r) λy hy=>by
    obtain⟨h,k,dd,hg,e2,h3⟩:=key y hy;show(fA c8 _ _).map _=_;rw[cdD [.tup rows,.int y.2] (by simp[bP,h0]) (wS hg h3),e2];rfl
  have hk:cN ((b::r).map λy=>D.tup [.int (aG y.1),.int y.2])=some ((b::r).map kA):=fu _ λy _=>rfl;have hz:((b::r).map kA).zip ((b::r).map λy=>D.int y.2)=(kA b,D.int b.2)::r.map λy=>(kA y,D.int y.2):=by rw[List.zip_map'];rfl
  have hfl:bd ((b::r).map λy=>D.int y.2)=true:=bL λd hd=>by obtain⟨y,_,rfl⟩:=List.mem_map.mp hd;rfl
  refine ay rfl (rfF x.1 (by simp[ha]) gx.rp.flat (bX (ds:=(b::r).map λy=>.int y.2) (cdD [.tup rows,.int known,.tup (cS.map .str),.str p,.int d] (acF rfl (acF rfl (acF (cdD [.str "death"] rfl (bC _ (by simp))) (aE (cdD [x.1,.str "person"] rfl hpart) (aE (cdD [x.1] rfl hday) rfl))))) ht) hfl (a9 (eoF (.int (l7 b r).2) (.int x.2) ?_ rfl ?_))))
  ·unfold pi fKK;show((some (D.lst ((b::r).map λy=>D.int y.2),false)).bind _)=_;rw[Option.bind_some];dsimp only;rw[hm _ rfl,Option.bind_some,hk,Option.bind_some,if_pos (qG _),hz];show some (jb _ _,false)=_;rw[qK]
  ·rw[wJ];congr 3;apply decide_eq_decide.mpr;omega
abbrev KL:=List (D×Nat)
noncomputable def nD (K:KL)(p:Str)(day:Int):Bool:=(K.filter λx=>told cS p day x.1).isEmpty
noncomputable def GT (K:KL)(p:Str)(day:Int):Bool:=match DA (K.filter λx=>told jP p day x.1) with
 |none=>true
 |some x=>decide (kindOf x.1=("found" : Str))
noncomputable def qL (K:KL)(r:D):Bool:=cQ (kindOf r) && (nD K (df r) (aG r) && GT K (df r) (aG r))
noncomputable def A8 (r:D):Str:=if kindOf r=("named" : Str)then a7 1 r else a7 2 r
noncomputable def qM:List Str:=[("named" : Str),("chosen" : Str),("heir" : Str)]
noncomputable def ce (K:KL)(so:List Cl)(x:D×Nat):Bool :=
 if kindOf x.1=("death" : Str)then fL K (a7 1 x.1) (aG x.1) x.2
 else if kindOf x.1∈qM then match wZ K (A8 x.1) with
  |none=>false
  |some v=>if kindOf x.1=("named" : Str)then true else qL K x.1 && hV so (a7 0 v) (a7 3 v) (a7 1 x.1) (aG x.1)
 else false
theorem C9 (rows:List D)(known:Int)(p:Str)(day:Int):kK rows known p day=nD (am rows known) p day:=rfl
theorem CA {rows:List D}{known:Int}{r:D}(h:bE r<=known):qH rows known r=qL (am rows known) r:=by
 unfold qH qL;rw[decide_eq_true h,Bool.true_and];rfl
theorem yx {rows:List D}(g:fH rows)(known:Int)(so:List Cl)(hso:so.length<=60){x:D×Nat}(hx:x∈am rows known)(hnr:bf x.1=false):iA [.tup rows,.int known,.lst (so.map clD),.int x.2]=some (.bl (ce (am rows known) so x),false):=by
 obtain⟨ha,gx⟩:=cE g hx;have hh:bE x.1<=known:=of_decide_eq_true (List.mem_filter.mp hx).2;have hf:aZ x.1=true:=gx.rp.flat;have hw:∀ρ:DL.Env,ρ[4]? = some (some (x.1,false))->fA aC (ac (ae 4) ah) ρ=some (.str (kindOf x.1),false):=λρ h4=>cdD [x.1] (by simp[h4]) (kL gx);have hni:∀ρ:DL.Env,ρ[4]? = some (some (x.1,false))->tOf (f2 f9 (fA aC (ac (ae 4) ah)) (fA aL (ac (fC (.str "named")) (ac (fC (.str "chosen")) (ac (fC (.str "heir")) ah))))) ρ=some (!decide (kindOf x.1∈qM)):=λρ h4=>
  tkF (eoF (.str (kindOf x.1)) (.tup (qM.map .str)) (hw ρ h4) (by simp[sizeLine,qM]) (lm _ _))
 by_cases hd:kindOf x.1=("death" : Str)
 ·obtain⟨a,k,au,e,d⟩:=gx;have hk:k=("death" : Str):=by rw[e]at hd;exact hd
  subst hk;obtain⟨dd,p,rfl⟩:=d.deed.three (by decide +kernel);have hc:ce (am rows known) so x=fL (am rows known) p dd x.2:=by
   unfold ce;rw[if_pos hd,e];rfl
  rw[hc];exact ay rfl (rfF x.1 (by simp[ha]) hf (bw (bx (bb:=false) (hw _ rfl) (decide_eq_true hd)) (a9 (cdD [.tup rows,.int known,.int x.2] rfl (A7 g known hx e)))))
 ·by_cases h3:kindOf x.1∈qM
  ·have hoff:ai [x.1,.str "office"]=some (.str (A8 x.1),false):=by
    obtain⟨a,k,au,e,d⟩:=gx;rw[e]at h3 hd hnr ⊢;replace h3:k∈qM:=h3;clear hd hnr;cases d with
    |root=>exact absurd h3 (by decide +kernel)
    |named d o p=>exact bc (i:=1) (aW (by decide +kernel)) rfl
    |chosen d b o p s=>exact bc (i:=2) (aW (by decide +kernel)) rfl
    |heir d b o p=>exact bc (i:=2) (aW (by decide +kernel)) rfl
    |three _ hk=>rcases hk with rfl|rfl|rfl<;>exact absurd h3 (by decide +kernel)
    |other _ hk=>rcases hk with rfl|rfl|rfl|rfl|rfl<;>exact absurd h3 (by decide +kernel)
   have e5:∀ρ:DL.Env,ρ[0]? = some (some (.tup rows,false))->ρ[1]? = some (some (.int known,false))->ρ[4]? = some (some (x.1,false))->f2 Ae (fA eY (ac (ae 0) (ac (ae 1) ah))) (fA ai (ac (ae 4) (ac (fC (.str "office")) ah))) ρ=some ((wZ (am rows known) (A8 x.1)).getD .non,false):=λρ q0 q1 q4=>
    eoF (.dk (b7 (jT (am rows known))).1 (b7 (jT (am rows known))).2) (.str (A8 x.1)) (cdD [.tup rows,.int known] (by simp[q0,q1]) (tM g known)) (cdD [x.1,.str "office"] (by simp[q4]) hoff) rfl
   cases hr:wZ (am rows known) (A8 x.1) with
   |none=>
    rw[hr]at e5;have hc:ce (am rows known) so x=false:=by unfold ce;rw[if_neg hd,if_pos h3,hr]
    rw[hc];exact ay rfl (rfF x.1 (by simp[ha]) hf (aB (bx (bb:=false) (hw _ rfl) (decide_eq_false hd)) (aB (by rw[hni _ rfl,decide_eq_true h3];rfl) (rfF .non (e5 _ rfl rfl rfl) rfl (bw (tkF (eoF .non .non rfl rfl (by simp))) (a9 rfl))))))
   |some v=>
    rw[hr]at e5;obtain⟨va,vo,vrl,vm,vf,ev⟩:=tL g hr;have hvf:aZ v=true:=by rw[ev];rfl
    have hvn:dIs v .non=some (.bl false,false):=by rw[ev];simp[row]
    by_cases hn:kindOf x.1=("named" : Str)
    ·have hc:ce (am rows known) so x=true:=by unfold ce;rw[if_neg hd,if_pos h3,hr];dsimp only;rw[if_pos hn]
     rw[hc];exact ay rfl (rfF x.1 (by simp[ha]) hf (aB (bx (bb:=false) (hw _ rfl) (decide_eq_false hd)) (aB (by rw[hni _ rfl,decide_eq_true h3];rfl) (rfF v (e5 _ rfl rfl rfl) hvf (aB (tkF (eoF v .non rfl rfl hvn)) (bw (bx (bb:=false) (hw _ rfl) (decide_eq_true hn)) (a9 rfl)))))))
    ·have hc:ce (am rows known) so x=(qL (am rows known) x.1 && hV so (a7 0 v) (a7 3 v) (a7 1 x.1) (aG x.1)):=by unfold ce;rw[if_neg hd,if_pos h3,hr];dsimp only;rw[if_neg hn]
     have hby:ai [x.1,.str "by"]=some (.str (a7 1 x.1),false)/\aK [x.1]=some (.int (aG x.1),false):=by
      refine⟨?_,by rw[tI gx];unfold tH;rw[hnr];rfl⟩;obtain⟨a,k,au,e,d⟩:=gx;rw[e]at h3 hn ⊢;replace h3:k∈qM:=h3;cases d with
      |root=>exact absurd h3 (by decide +kernel)
      |named=>exact absurd rfl hn
      |chosen d b o p s=>exact bc (i:=1) (aW (by decide +kernel)) rfl
      |heir d b o p=>exact bc (i:=1) (aW (by decide +kernel)) rfl
      |three _ hk=>rcases hk with rfl|rfl|rfl<;>exact absurd h3 (by decide +kernel)
      |other _ hk=>rcases hk with rfl|rfl|rfl|rfl|rfl<;>exact absurd h3 (by decide +kernel)
     have hs:=A2 rows g.rp g.le known (bu hx);rw[CA hh]at hs;have hheld:bZ [.lst (so.map clD),v,.str (a7 1 x.1),.int (aG x.1)]=some (.bl (hV so (a7 0 v) (a7 3 v) (a7 1 x.1) (aG x.1)),false):=by
      rw[ev];exact wW so hso _ _
     rw[hc];refine ay rfl (rfF x.1 (by simp[ha]) hf (aB (bx (bb:=false) (hw _ rfl) (decide_eq_false hd)) (aB (by rw[hni _ rfl,decide_eq_true h3];rfl) (rfF v (e5 _ rfl rfl rfl) hvf (aB (tkF (eoF v .non rfl rfl hvn)) (aB (bx (bb:=false) (hw _ rfl) (decide_eq_false hn)) (a9 ?_)))))));exact du (b1:=false) (cdD [.tup rows,.int known,.int x.2] rfl hs) λ_=>cdD [.lst (so.map clD),v,.str (a7 1 x.1),.int (aG x.1)] (acF rfl (acF rfl (aE (cdD [x.1,.str "by"] rfl hby.1) (aE (cdD [x.1] rfl hby.2) rfl)))) hheld
  ·have hc:ce (am rows known) so x=false:=by unfold ce;rw[if_neg hd,if_neg h3]
   rw[hc];exact ay rfl (rfF x.1 (by simp[ha]) hf (aB (bx (bb:=false) (hw _ rfl) (decide_eq_false hd)) (bw (by rw[hni _ rfl,decide_eq_false h3];rfl) (a9 rfl))))
noncomputable def eu (offs:List Str)(p:Str)(day:Int)(c:Cl):List Cl :=
 if(!decide (c.o∈offs) || (!decide (c.p=p) || !(fJ c day || decide (day<c.s))))=true then [c]else if c.s<day then [⟨c.o,p,c.s,some day,c.n⟩]else []
noncomputable def bA (so:List Cl)(offs:List Str)(p:Str)(day:Int):List Cl:=so.flatMap (eu offs p day)
theorem eA (offs:List Str)(p:Str)(day:Int):∀so:List Cl,(bA so offs p day).length<=so.length
 |[]=>Nat.le_refl _
 |c::so=>by
  unfold bA;rw[List.flatMap_cons,List.length_append,List.length_cons];have h1:=eA offs p day so;have h2:(eu offs p day c).length<=1:=by
   unfold eu;split
   ·simp
   ·split<;>simp
  unfold bA at h1;omega
theorem vz (k:Str)(ws:List Str):f9 (.str k) (.lst (ws.map .str))=some (.bl (!decide (k∈ws)),false):=by
 simp only[f9,f8,Option.bind_some,ni];rw[if_pos ⟨rfl,kI ws⟩]
theorem tN (so:List Cl)(hso:so.length<=60)(offs:List Str)(p:Str)(day:Int):iN [.lst (so.map clD),.lst (offs.map .str),.str p,.int day]=some (.lst ((bA so offs p day).map clD),true):=by
 obtain⟨ρ',e,v5,rfl⟩:=iz (tg:=tgN 5) (g:=mO) (λj ρ=>∃v5:Option (D×Bool),ρ=[some (.lst (so.map clD),false),some (.lst (offs.map .str),false),some (.str p,false),some (.int day,false),some (.lst ((bA (so.take j) offs p day).map clD),true),v5]) (so.map clD)
  [some (.lst (so.map clD),false),some (.lst (offs.map .str),false),some (.str p,false),some (.int day,false),some (.lst [],true),none] ⟨none,rfl⟩ (by
   rintro j d ρ hd ⟨v5,rfl⟩;rw[List.getElem?_map]at hd;obtain⟨c,hc,rfl⟩:=oY hd;have hj:j<so.length:=(List.getElem?_eq_some_iff.mp hc).1;have et:bA (so.take (j+1)) offs p day=bA (so.take j) offs p day++eu offs p day c:=by
    unfold bA;rw[List.take_add_one,hc,Option.toList_some,List.flatMap_append,List.flatMap_cons,List.flatMap_nil,List.append_nil]
   have hlen:(bA (so.take j) offs p day).length<=60:=Nat.le_trans (eA offs p day _) (by rw[List.length_take];omega);let ρ1:DL.Env:=[some (.lst (so.map clD),false),some (.lst (offs.map .str),false),some (.str p,false),some (.int day,false),some (.lst ((bA (so.take j) offs p day).map clD),true),some (clD c,false)];have q0:ixV 5 0 ρ1=some (.str c.o,false):=eoF (clD c) (.int 0) rfl rfl (cl0 c);have q1:ixV 5 1 ρ1=some (.str c.p,false):=eoF (clD c) (.int 1) rfl rfl (cl1 c);have q2:ixV 5 2 ρ1=some (.int c.s,false):=eoF (clD c) (.int 2) rfl rfl (cl2 c);have q4:ixV 5 4 ρ1=some (.int c.n,false):=eoF (clD c) (.int 4) rfl rfl (cl4 c);have hcond:hW (tOf (f2 f9 (ixV 5 0) (ae 1))) (hW (tOf (f2 dNe (ixV 5 1) (ae 2))) (dN (hW (tOf (fA b9 (ac (ae 5) (ac (ae 3) ah)))) (tOf (f2 iGt (ixV 5 2) (ae 3)))))) ρ1=some (!decide (c.o∈offs) || (!decide (c.p=p) || !(fJ c day || decide (day<c.s)))) :=
    cH (tkF (eoF (.str c.o) (.lst (offs.map .str)) q0 rfl (vz _ _))) λ_=>cH (tkF (eoF (.str c.p) (.str p) q1 rfl (by simp))) λ_=>ci (cH (tkF (cdD [clD c,.int day] rfl (nu c day))) λ_=>tkF (eoF (.int c.s) (.int day) q2 rfl (by simp)))
   by_cases h1:(!decide (c.o∈offs) || (!decide (c.p=p) || !(fJ c day || decide (day<c.s))))=true
   ·have eo:eu offs p day c=[c]:=by unfold eu;rw[if_pos h1]
    rw[h1]at hcond;refine⟨_,_,rfl,.inl (iR hcond (gd (ds:=(bA (so.take j) offs p day).map clD) (d:=clD c) (b:=false) rfl rfl (jQ c) (b8 (by simp;omega)))),some (clD c,false),?_⟩;rw[et,eo,List.map_append];rfl
   ·rw[Bool.not_eq_true]at h1;rw[h1]at hcond;by_cases h2:c.s<day
    ·have eo:eu offs p day c=[⟨c.o,p,c.s,some day,c.n⟩]:=by unfold eu;rw[if_neg (by rw[h1];decide),if_pos h2]
     refine⟨_,_,rfl,.inl (jo hcond (iR (tkF (eoF (.int c.s) (.int day) q2 rfl (by simp[h2]))) (gd (ds:=(bA (so.take j) offs p day).map clD) (d:=clD ⟨c.o,p,c.s,some day,c.n⟩) (b:=false) rfl (cdD [.str c.o,.str p,.int c.s,.int day,.int c.n] (aE q0 (acF rfl (aE q2 (acF rfl (aE q4 rfl))))) (bC _ (by simp))) (jQ _) (b8 (by simp;omega))))),some (clD c,false),?_⟩;rw[et,eo,List.map_append];rfl
    ·have eo:eu offs p day c=[]:=by unfold eu;rw[if_neg (by rw[h1];decide),if_neg h2]
     refine⟨_,_,rfl,.inl (jo hcond (jo (tkF (eoF (.int c.s) (.int day) q2 rfl (by simp;omega))) rfl)),some (clD c,false),?_⟩;rw[et,eo,List.append_nil];rfl)
 have e':fY (tgN 5) mO (so.map clD) [some (.lst (so.map clD),false),some (.lst (offs.map .str),false),some (.str p,false),some (.int day,false),some (.lst [],true),none]=some (.nx [some (.lst (so.map clD),false),some (.lst (offs.map .str),false),some (.str p,false),some (.int day,false),some (.lst ((bA so offs p day).map clD),true),v5]):=by
  rw[e];have:so.take (so.map clD).length=so:=by rw[List.length_map,List.take_length]
  rw[this]
 exact ay rfl (bX (ds:=[]) (by simp[sizeLine]) rfl (d3 (qC (ds:=so.map clD) (by simp[rK]) e') (jG rfl)))
theorem DC {r:D}{o p:Str}(ho:ai [r,.str "office"]=some (.str o,false))(hp:ai [r,.str "person"]=some (.str p,false))(s:Int)(n:Nat):cP [r,.int s,.int n]=some (clD ⟨o,p,s,none,n⟩,false) :=
 ay rfl (a9 (cdD [.str o,.str p,.int s,.non,.int n] (aE (cdD [r,.str "office"] rfl ho) (aE (cdD [r,.str "person"] rfl hp) rfl)) (bC _ (by simp))))
theorem yy (so:List Cl)(hso:so.length<=60){a d s:Int}{b o p:Str}(n:Nat):dE [.lst (so.map clD),row a ("chosen" : Str) [.int d,.str b,.str o,.str p,.int s],.int n]=some (.lst ((bA so [o] b s++[(⟨o,p,s,none,n⟩:Cl)]).map clD),true):=by
 let r:D:=row a ("chosen" : Str) [.int d,.str b,.str o,.str p,.int s];have ho:ai [r,.str "office"]=some (.str o,false):=bc (i:=2) (aW (by decide +kernel)) rfl;have hp:ai [r,.str "person"]=some (.str p,false):=bc (i:=3) (aW (by decide +kernel)) rfl;have hb:ai [r,.str "by"]=some (.str b,false):=bc (i:=1) (aW (by decide +kernel)) rfl;have hs:ai [r,.str "since"]=some (.int s,false):=bc (i:=4) (aW (by decide +kernel)) rfl;have hl:=eA [o] b s so;refine ay rfl (rfF (.int s) (cdD [r,.str "since"] rfl hs) rfl (bX (ds:=(bA so [o] b s).map clD) (cdD [.lst (so.map clD),.lst ([o].map .str),.str b,.int s] (acF rfl (aE (b:=true) (cdD [.str o] (aE (cdD [r,.str "office"] rfl ho) rfl) (jr _ (by simp))) (aE (cdD [r,.str "by"] rfl hb) rfl))) (tN so hso [o] b s)) (gA _) (a9 ?_)));refine gw (x:=.lst ((bA so [o] b s).map clD)) (y:=.lst [clD ⟨o,p,s,none,n⟩]) (b1:=false) (b2:=true) rfl (cdD [clD ⟨o,p,s,none,n⟩] (aE (cdD [r,.int s,.int n] rfl (DC ho hp s n)) rfl) (jr _ (by simp))) ?_;rw[List.map_append];exact if_pos (cO (by rw[List.length_map,List.length_singleton];omega))
noncomputable def tO (hk:List (List Key))(hv:List D)(o p:Str):Option Str:=match cw hk hv [.inr o,.inr p] with
 |some (.str h)=>some h
 |_=>none
noncomputable def cV (K:KL)(hk:List (List Key))(hv:List D)(p:Str)(day:Int)(n:Nat)(o:Str):List Cl:=match tO hk hv o p with
 |some h=>if nD K h day=true then [⟨o,h,day,none,n⟩]else []
 |none=>[]
noncomputable def c9 (so:List Cl)(p:Str)(day:Int):List Str:=ja (fO ((so.filter λc=>decide (c.p=p) && fJ c day).map (·.o)))
noncomputable def nE (K:KL)(so:List Cl)(hk:List (List Key))(hv:List D)(p:Str)(day:Int)(n:Nat):List Cl:=(c9 so p day).flatMap (cV K hk hv p day n)
theorem jt (K:KL)(hk:List (List Key))(hv:List D)(p:Str)(day:Int)(n:Nat)(o:Str):(cV K hk hv p day n o).length<=1:=by
 unfold cV;split
 ·split<;>simp
 ·simp
theorem nF {α β:Type}(f:α->List β)(h:∀a,(f a).length<=1):∀l:List α,(l.flatMap f).length<=l.length
 |[]=>Nat.le_refl _
 |a::l=>by
  rw[List.flatMap_cons,List.length_append,List.length_cons];have:=h a;have:=nF f h l;omega
theorem tP (so:List Cl)(p:Str)(day:Int):(c9 so p day).length<=so.length:=by
 unfold c9;rw[(dU _).length_eq];refine Nat.le_trans (lW _) ?_;rw[List.length_map];exact List.length_filter_le _ _
theorem qN {rows:List D}(g:fH rows)(known:Int)(so:List Cl)(hso:so.length<=60)(hk:List (List Key))(hv:List D)(hhv:∀v∈hv,∃s,v=.str s){x:D×Nat}(hx:x∈am rows known){a d:Int}{p:Str}(e:x.1=row a ("death" : Str) [.int d,.str p]):
  fT [.tup rows,.int known,.lst (so.map clD),.dt hk hv,.int x.2]=some (.lst ((nE (am rows known) so hk hv p d x.2).map clD),true):=by
 have ha:=(cE g hx).1;have hpart:ai [x.1,.str "person"]=some (.str p,false):=by rw[e];exact bc (i:=1) (aW (by decide +kernel)) rfl
 have hday:aK [x.1]=some (.int d,false):=by rw[e];exact g9 (.inl (by decide +kernel)) rfl
 have holen:=tP so p d;have hstep:∀(o:Str)(l:List Cl)(v9:Option (D×Bool)),l.length<=60->eZ [some (.tup rows,false),some (.int known,false),some (.lst (so.map clD),false),some (.dt hk hv,false),some (.int x.2,false),some (.str p,false),some (.int d,false),some (.lst (l.map clD),true),some (.str o,false),v9]=some (.nx [some (.tup rows,false),some (.int known,false),some (.lst (so.map clD),false),some (.dt hk hv,false),some (.int x.2,false),some (.str p,false),some (.int d,false),some (.lst ((l++cV (am rows known) hk hv p d x.2 o).map clD),true),some (.str o,false),some ((cw hk hv [.inr o,.inr p]).getD .non,false)]):=λo l v9 hl=>by
  have eg:Ak (ae 3) (ac (ae 8) (ac (ae 5) ah)) [some (.tup rows,false),some (.int known,false),some (.lst (so.map clD),false),some (.dt hk hv,false),some (.int x.2,false),some (.str p,false),some (.int d,false),some (.lst (l.map clD),true),some (.str o,false),v9]=some ((cw hk hv [.inr o,.inr p]).getD .non,false):=by
   simp[fR,sizeLine]
  cases hlk:cw hk hv [.inr o,.inr p] with
  |none=>
   rw[hlk]at eg;have ei:cV (am rows known) hk hv p d x.2 o=[]:=by unfold cV tO;rw[hlk]
   rw[ei,List.append_nil];exact rfF .non eg rfl (jo (dj (p:=false) (q:=false) (tkF (by simp)) (by simp)) rfl)
  |some v=>
   obtain⟨h,rfl⟩:=hhv v (nA hlk);rw[hlk]at eg;have hlv:=tF rows g.rp g.le known h d;rw[C9]at hlv;have hand:∀ρ:DL.Env,ρ[0]? = some (some (.tup rows,false))->ρ[1]? = some (some (.int known,false))->ρ[6]? = some (some (.int d,false))->ρ[9]? = some (some (.str h,false))->cB (tOf (f2 ij (ae 9) (fC .non))) (tOf (fA gM (ac (ae 0) (ac (ae 1) (ac (ae 9) (ac (ae 6) ah)))))) ρ=some (true && nD (am rows known) h d):=λρ q0 q1 q6 q9=>
    dj (tkF (by simp[q9])) λ_=>tkF (cdD [.tup rows,.int known,.str h,.int d] (by simp[q0,q1,q6,q9]) hlv)
   cases hl2:nD (am rows known) h d with
   |false=>
    have ei:cV (am rows known) hk hv p d x.2 o=[]:=by unfold cV tO;rw[hlk];dsimp only;rw[hl2];rfl
    rw[ei,List.append_nil];exact rfF (.str h) eg rfl (jo (by rw[hand _ rfl rfl rfl rfl,hl2];rfl) rfl)
   |true=>
    have ei:cV (am rows known) hk hv p d x.2 o=[⟨o,h,d,none,x.2⟩]:=by unfold cV tO;rw[hlk];dsimp only;rw[hl2];rfl
    rw[ei,List.map_append];exact rfF (.str h) eg rfl (iR (by rw[hand _ rfl rfl rfl rfl,hl2];rfl) (gd (ds:=l.map clD) (d:=clD ⟨o,h,d,none,x.2⟩) (b:=false) rfl (cdD [.str o,.str h,.int d,.non,.int x.2] rfl (bC _ (by simp))) rfl (b8 (by simp;omega))))
 obtain⟨ρ',el,v8,v9,rfl⟩:=iz (tg:=tgN 8) (g:=eZ) (λj ρ=>∃v8 v9:Option (D×Bool),ρ=[some (.tup rows,false),some (.int known,false),some (.lst (so.map clD),false),some (.dt hk hv,false),some (.int x.2,false),some (.str p,false),some (.int d,false),some (.lst ((((c9 so p d).take j).flatMap (cV (am rows known) hk hv p d x.2)).map clD),true),v8,v9]) ((c9 so p d).map .str)
  [some (.tup rows,false),some (.int known,false),some (.lst (so.map clD),false),some (.dt hk hv,false),some (.int x.2,false),some (.str p,false),some (.int d,false),some (.lst [],true),none,none] ⟨none,none,rfl⟩ (by
   rintro j dd ρ hd ⟨v8,v9,rfl⟩;rw[List.getElem?_map]at hd;obtain⟨o,ho,rfl⟩:=oY hd;have hl:(((c9 so p d).take j).flatMap (cV (am rows known) hk hv p d x.2)).length<=60:=Nat.le_trans (nF _ (jt _ _ _ _ _ _) _) (by rw[List.length_take];omega);refine⟨_,_,rfl,.inl (hstep o _ v9 hl),some (.str o,false),some ((cw hk hv [.inr o,.inr p]).getD .non,false),?_⟩;rw[List.take_add_one,ho,Option.toList_some,List.flatMap_append,List.flatMap_cons,List.flatMap_nil,List.append_nil])
 have e':fY (tgN 8) eZ ((c9 so p d).map .str) [some (.tup rows,false),some (.int known,false),some (.lst (so.map clD),false),some (.dt hk hv,false),some (.int x.2,false),some (.str p,false),some (.int d,false),some (.lst [],true),none,none]=some (.nx [some (.tup rows,false),some (.int known,false),some (.lst (so.map clD),false),some (.dt hk hv,false),some (.int x.2,false),some (.str p,false),some (.int d,false),some (.lst ((nE (am rows known) so hk hv p d x.2).map clD),true),v8,v9]):=by
  rw[el];have:(c9 so p d).take ((c9 so p d).map D.str).length=c9 so p d:=by rw[List.length_map,List.take_length]
  rw[this];rfl
 have hset:∀ρ:DL.Env,ρ[2]? = some (some (.lst (so.map clD),false))->ρ[5]? = some (some (.str p,false))->ρ[6]? = some (some (.int d,false))->cG (f1 eM (bQ (cG (ae 2)) 1 [5,6] (tgN 0) (cB (tOf (f2 dEq (ixV 0 1) (ae 1))) (tOf (fA b9 (ac (ae 0) (ac (ae 2) ah))))) (ixV 0 0))) ρ=some ((c9 so p d).map .str):=λρ q2 q5 q6=>by
  have hc:=gz (fi:=cG (ae 2)) (nT:=1) (cap:=[5,6]) (tg:=tgN 0) (c:=cB (tOf (f2 dEq (ixV 0 1) (ae 1))) (tOf (fA b9 (ac (ae 0) (ac (ae 2) ah))))) (fe:=ixV 0 0) (ρ:=ρ) so clD (λc=>decide (c.p=p) && fJ c d) (λc=>.str c.o) (by simp[q2]) (by omega) λc hc=>
   ⟨_,rfl,dj (tkF (eoF (.str c.p) (.str p) (eoF (clD c) (.int 1) (by simp[bP]) rfl (cl1 c)) (by simp[bP,q5]) (by simp))) λ_=>tkF (cdD [clD c,.int d] (by simp[bP,q6]) (nu c d)),λ_=>⟨false,eoF (clD c) (.int 0) (by simp[bP]) rfl (cl0 c)⟩⟩
  have e2:(so.filter λc=>decide (c.p=p) && fJ c d).map (λc=>D.str c.o)=((so.filter λc=>decide (c.p=p) && fJ c d).map (·.o)).map .str:=by rw[List.map_map];rfl
  rw[e2]at hc;show(f1 eM _ ρ).bind _=_;unfold f1;rw[hc,Option.bind_some];have hln:((so.filter λc=>decide (c.p=p) && fJ c d).map (·.o)).length<64:=by rw[List.length_map];exact Nat.lt_of_le_of_lt (List.length_filter_le _ _) (by omega)
  show((fB _).bind _).bind _=_;rw[n8,Option.bind_some,if_pos hln];rfl
 refine ay rfl (rfF (.str p) (cdD [x.1,.str "person"] (by simp[ha]) hpart) rfl (rfF (.int d) (cdD [x.1] (by simp[ha]) hday) rfl (bX (ds:=[]) (by simp[sizeLine]) rfl (d3 (ρ':=[some (.tup rows,false),some (.int known,false),some (.lst (so.map clD),false),some (.dt hk hv,false),some (.int x.2,false),some (.str p,false),some (.int d,false),some (.lst ((nE (am rows known) so hk hv p d x.2).map clD),true),v8,v9]) ?_ (jG rfl)))));exact qC (ρ:=[some (.tup rows,false),some (.int known,false),some (.lst (so.map clD),false),some (.dt hk hv,false),some (.int x.2,false),some (.str p,false),some (.int d,false),some (.lst [],true),none,none]) (hset _ rfl rfl rfl) e'
theorem A9 {rows:List D}(g:fH rows)(known:Int)(so:List Cl)(hso:so.length<=60)(hk:List (List Key))(hv:List D)(hhv:∀v∈hv,∃s,v=.str s){x:D×Nat}(hx:x∈am rows known){a d:Int}{p:Str}(e:x.1=row a ("death" : Str) [.int d,.str p]):
  eE [.tup rows,.int known,.lst (so.map clD),.dt hk hv,.int x.2]=some (.lst ((bA so (so.map Cl.o) p d++nE (am rows known) so hk hv p d x.2).map clD),true):=by
 have ha:=(cE g hx).1;have hpart:ai [x.1,.str "person"]=some (.str p,false):=by rw[e];exact bc (i:=1) (aW (by decide +kernel)) rfl
 have hday:aK [x.1]=some (.int d,false):=by rw[e];exact g9 (.inl (by decide +kernel)) rfl
 have h1:=tq (fi:=cG (ae 2)) (nT:=1) (cap:=[]) (tg:=tgN 0) (fe:=ixV 0 0) (ρ:=[some (.tup rows,false),some (.int known,false),some (.lst (so.map clD),false),some (.dt hk hv,false),some (.int x.2,false),none,none]) so clD (λc=>.str c.o) (by simp) (by omega) λc hc=>⟨_,rfl,false,eoF (clD c) (.int 0) (by simp[bP]) rfl (cl0 c)⟩;have e2:so.map (λc=>D.str c.o)=(so.map Cl.o).map .str:=by rw[List.map_map];rfl
 rw[e2]at h1;have hl1:=eA (so.map Cl.o) p d so;have hl2:(nE (am rows known) so hk hv p d x.2).length<=60:=Nat.le_trans (nF _ (jt _ _ _ _ _ _) _) (Nat.le_trans (tP so p d) hso);refine ay rfl (bX (ds:=(so.map Cl.o).map .str) h1 (cR _) (bX (ds:=(bA so (so.map Cl.o) p d).map clD) (cdD [.lst (so.map clD),.lst ((so.map Cl.o).map .str),.str p,.int d] (acF rfl (acF rfl (acF (cdD [x.1,.str "person"] (by simp[ha]) hpart) (acF (cdD [x.1] (by simp[ha]) hday) rfl)))) (tN so hso _ p d)) (gA _) (a9 ?_)));refine gw (x:=.lst ((bA so (so.map Cl.o) p d).map clD)) (y:=.lst ((nE (am rows known) so hk hv p d x.2).map clD)) (b1:=false) (b2:=true) rfl (cdD [.tup rows,.int known,.lst (so.map clD),.dt hk hv,.int x.2] rfl (qN g known so hso hk hv hhv hx e)) ?_;rw[List.map_append];exact if_pos (cO (by rw[List.length_map,List.length_map];omega))
abbrev St3:=List Cl×List (List Key)×List D
noncomputable def dh (K:KL)(st:St3)(x:D×Nat):St3 :=
 if ce K st.1 x=true then
  if kindOf x.1=("named" : Str)then (st.1++[⟨a7 1 x.1,a7 2 x.1,aG x.1,none,x.2⟩],st.2)
  else if kindOf x.1=("chosen" : Str)then (bA st.1 [a7 2 x.1] (a7 1 x.1) (jf 4 x.1)++[⟨a7 2 x.1,a7 3 x.1,jf 4 x.1,none,x.2⟩],st.2)
  else if kindOf x.1=("heir" : Str)then (st.1,dO st.2.1 [.inr (a7 2 x.1),.inr (a7 1 x.1)],dP st.2.1 st.2.2 [.inr (a7 2 x.1),.inr (a7 1 x.1)] (.str (a7 3 x.1)))
  else (bA st.1 (st.1.map Cl.o) (a7 1 x.1) (aG x.1)++nE K st.1 st.2.1 st.2.2 (a7 1 x.1) (aG x.1) x.2,st.2)
 else st
noncomputable def eV (K:KL):KL:=eX (λx=>bT (kA x)) (K.filter λx=>!bf x.1)
noncomputable def jU (K:KL)(l:KL):St3:=l.foldl (dh K) ([],[],[])
noncomputable def kC (c:Cl):List At:=[.s c.o,.i c.s,.i c.n]
noncomputable def dI (K:KL):List Cl:=eX (λc=>bT (kC c)) (jU K (eV K)).1
noncomputable def vA:List Key->Str
 |[_,.inr p]=>p
 |_=>("" : Str)
noncomputable def lvK (dd:List Str)(ks:List (List Key)):Nat:=(ks.filter λk=>decide (vA k∉dd)).length
structure SoOk (K l:KL)(dd:List Str)(st:St3):Prop where
 len:st.1.length+lvK dd st.2.1<=l.length
 ded:∀q∈dd,∃y∈l,fL K q (aG y.1) y.2=true
 nod:(st.1.map λc=>(c.o,c.n)).Nodup
 num:∀c∈st.1,c.n∈l.map (·.2)
 hs:∀v∈st.2.2,∃s,v=D.str s
 hk:st.2.1.length<=l.length
theorem xc {ws:List Str}{p:Str}{d:Int}{r:D}(h:told ws p d r=true):aG r<=d/\∀d',aG r<=d'->told ws p d' r=true:=by
 unfold told at h;split at h
 ·rename_i k au;rw[Bool.and_eq_true]at h;obtain⟨h1,h2⟩:=h;unfold p8 at h2;split at h2
  ·rename_i dd q;rw[Bool.and_eq_true]at h2;refine⟨of_decide_eq_true h2.2,λd' hd=>?_⟩;unfold told;rw[Bool.and_eq_true];refine⟨h1,?_⟩;unfold p8;rw[Bool.and_eq_true];exact⟨h2.1,decide_eq_true hd⟩
  ·cases h2
 ·cases h
theorem nG:∀(r:KL)(b:D×Nat),l7 b r∈b::r/\∀y∈b::r,dc y (l7 b r)=false
 |[],b=>⟨by simp[l7],λy hy=>by rw[List.mem_singleton.mp hy];simp[l7,dc]⟩
 |x::r,b=>by
  rw[l7,vw];by_cases h:dc x b=true
  ·rw[if_pos (by rw[h])];obtain⟨h1,h2⟩:=nG r x;refine⟨mZ _ h1,λy hy=>?_⟩;rcases List.mem_cons.mp hy with rfl|hy
   ·have:=h2 x mX;unfold dc at *;simp at *;omega
   ·exact h2 y hy
  ·rw[if_neg (by simpa using h)];obtain⟨h1,h2⟩:=nG r b;refine⟨?_,λy hy=>?_⟩
   ·rcases List.mem_cons.mp h1 with e|e
    ·rw[e];exact mX
    ·exact mZ _ (mZ _ e)
   ·rcases List.mem_cons.mp hy with rfl|hy
    ·exact h2 _ mX
    ·rcases List.mem_cons.mp hy with rfl|hy
     ·have:=h2 b mX;unfold dc at *;simp at *;omega
     ·exact h2 y (mZ _ hy)
theorem nH {K:KL}{p:Str}{d:Int}{i:Nat}(h:fL K p d i=true):∃m∈K,told cS p d m.1=true/\m.2=i/\∀y∈K,told cS p d y.1=true->dc y m=false:=by
 unfold fL at h;split at h
 ·cases h
 ·rename_i b r e;obtain⟨h1,h2⟩:=nG r b;rw[←e]at h1 h2;obtain⟨h3,h4⟩:=List.mem_filter.mp h1;exact⟨_,h3,h4,of_decide_eq_true h,λy hy ht=>h2 y (List.mem_filter.mpr ⟨hy,ht⟩)⟩
theorem vB {K:KL}{p:Str}{d1 d2:Int}{i1 i2:Nat}(h1:fL K p d1 i1=true)(h2:fL K p d2 i2=true):i1=i2:=by
 obtain⟨m1,k1,t1,e1,q1⟩:=nH h1;obtain⟨m2,k2,t2,e2,q2⟩:=nH h2;have a1:=xc t1;have a2:=xc t2;by_cases hd:d1<=d2
 ·have z1:=q2 m1 k1 (a1.2 d2 (by omega));have hm:aG m2.1<=aG m1.1:=by unfold dc at z1;simp at z1;omega
  have z2:=q1 m2 k2 (a2.2 d1 (by omega));unfold dc at z1 z2;simp at z1 z2;omega
 ·have z1:=q1 m2 k2 (a2.2 d1 (by omega));have hm:aG m1.1<=aG m2.1:=by unfold dc at z1;simp at z1;omega
  have z2:=q2 m1 k1 (a1.2 d2 (by omega));unfold dc at z1 z2;simp at z1 z2;omega
theorem tQ {κ:Type}[DecidableEq κ]:∀ {ks:List κ}{vs:List D}{k:κ}{v:D},cw ks vs k=some v->k∈ks
 |k'::ks,d::ds,k,v,h=>by
  unfold cw at h;split at h
  ·rename_i e;rw[←e];exact mX
  ·exact mZ _ (tQ h)
 |[],_,_,_,h=>by simp[cw]at h
 |_::_,[],_,_,h=>by simp[cw]at h
theorem nI (p:Str)(dd:List Str)(hp:p∉dd):∀ks:List (List Key),lvK dd ks=lvK (p::dd) ks+(ks.filter λk=>decide (vA k=p)).length
 |[]=>rfl
 |k::ks=>by
  have ih:=nI p dd hp ks;unfold lvK at ih ⊢;by_cases e:vA k=p
  ·rw[List.filter_cons_of_pos (by simpa [e]using hp),List.filter_cons_of_neg (by simp[e]),List.filter_cons_of_pos (by simp[e]),List.length_cons,List.length_cons];omega
  ·by_cases h:vA k∈dd
   ·rw[List.filter_cons_of_neg (by simp[h]),List.filter_cons_of_neg (by simp[h]),List.filter_cons_of_neg (by simp[e])];exact ih
   ·rw[List.filter_cons_of_pos (by simp[h]),List.filter_cons_of_pos (by simp[h,e]),List.filter_cons_of_neg (by simp[e]),List.length_cons,List.length_cons];omega
theorem iP (offs:List Str)(p:Str)(day:Int):∀so:List Cl,((bA so offs p day).map λc=>(c.o,c.n)).Sublist (so.map λc=>(c.o,c.n))
 |[]=>List.Sublist.slnil
 |c::so=>by
  have ih:=iP offs p day so;unfold bA at ih ⊢;rw[List.flatMap_cons,List.map_append,List.map_cons];have:((eu offs p day c).map λc=>(c.o,c.n))=[(c.o,c.n)]∨((eu offs p day c).map λc=>(c.o,c.n))=[]:=by
   unfold eu;split
   ·exact .inl rfl
   ·split
    ·exact .inl rfl
    ·exact .inr rfl
  rcases this with h|h
  ·rw[h];exact ih.cons₂ _
  ·rw[h];exact ih.cons _
theorem iQ {offs:List Str}{p:Str}{day:Int}{so:List Cl}{c:Cl}(h:c∈bA so offs p day):∃c'∈so,c'.o=c.o/\c'.n=c.n:=by
 have:=(iP offs p day so).subset (List.mem_map.mpr ⟨c,h,rfl⟩);obtain⟨c',h1,h2⟩:=List.mem_map.mp this;injection h2 with h3 h4;exact⟨c',h1,h3,h4⟩
theorem gB:∀(ss ts:List Str),ts.Nodup->(ss.foldl hZ ts).Nodup
 |[],_,h=>h
 |s::ss,ts,h=>gB ss _ (uT h s)
theorem nJ (so:List Cl)(p:Str)(day:Int):(c9 so p day).Nodup:=(dU _).nodup_iff.mpr (gB _ [] List.nodup_nil)
theorem tR (K:KL)(hk:List (List Key))(hv:List D)(p:Str)(day:Int)(n:Nat):∀os:List Str,((os.flatMap (cV K hk hv p day n)).map λc=>(c.o,c.n)).Sublist (os.map λo=>(o,n))
 |[]=>List.Sublist.slnil
 |o::os=>by
  have ih:=tR K hk hv p day n os;rw[List.flatMap_cons,List.map_append,List.map_cons];have:((cV K hk hv p day n o).map λc=>(c.o,c.n))=[(o,n)]∨((cV K hk hv p day n o).map λc=>(c.o,c.n))=[]:=by
   unfold cV;split
   ·split
    ·exact .inl rfl
    ·exact .inr rfl
   ·exact .inr rfl
  rcases this with h|h
  ·rw[h];exact ih.cons₂ _
  ·rw[h];exact ih.cons _
theorem pD {α:Type}[DecidableEq α]:∀(l m:List α),l.Nodup->(∀x∈l,x∈m)->l.length<=m.length
 |[],_,_,_=>Nat.zero_le _
 |x::l,m,h,s=>by
  rw[List.nodup_cons]at h;have hx:=s x mX;have:=pD l (m.erase x) h.2 λy hy=>(List.mem_erase_of_ne (a:=y) (b:=x) (λe=>h.1 (by rw[←e];exact hy))).mpr (s y (mZ _ hy));rw[List.length_erase_of_mem hx]at this;have:0<m.length:=List.length_pos_of_mem hx;rw[List.length_cons];omega
theorem pE {α β:Type}(f:α->List β)(q:α->Bool)(h:∀a,(f a).length<=1/\(q a=false->f a=[])):∀l:List α,(l.flatMap f).length<=(l.filter q).length
 |[]=>Nat.le_refl _
 |a::l=>by
  have ih:=pE f q h l;rw[List.flatMap_cons,List.length_append];cases hq:q a with
  |true=>rw[List.filter_cons_of_pos hq,List.length_cons];have:=(h a).1;omega
  |false=>rw[List.filter_cons_of_neg (by rw[hq];decide),(h a).2 hq];simpa using ih
theorem CB (K:KL)(so:List Cl)(hk:List (List Key))(hv:List D)(p:Str)(day:Int)(n:Nat):(nE K so hk hv p day n).length<=(hk.filter λk=>decide (vA k=p)).length:=by
 refine Nat.le_trans (pE _ (λo=>(cw hk hv [.inr o,.inr p]).isSome) (λo=>⟨jt _ _ _ _ _ _ _,λh=>?_⟩) _) ?_
 ·have hl:cw hk hv [.inr o,.inr p]=none:=by simpa using h
  unfold cV tO;rw[hl]
 ·have hnd:(((c9 so p day).filter λo=>(cw hk hv [.inr o,.inr p]).isSome).map λo=>([.inr o,.inr p]:List Key)).Nodup:=List.Pairwise.map _ (λa b hab e=>hab (by injection e with e _;injection e)) ((nJ so p day).filter _);have:=pD _ (hk.filter λk=>decide (vA k=p)) hnd λk hm=>by
   obtain⟨o,ho,rfl⟩:=List.mem_map.mp hm;obtain⟨v,hv⟩:=Option.isSome_iff_exists.mp (List.mem_filter.mp ho).2;exact List.mem_filter.mpr ⟨tQ hv,decide_eq_true rfl⟩
  rwa [List.length_map]at this
theorem SoOk.step {K l:KL}{dd:List Str}{st:St3}(h:SoOk K l dd st){x:D×Nat}(hx:x.2∉l.map (·.2)):∃dd',SoOk K (l++[x]) dd' (dh K st x):=by
 have up:∀ {n:Nat},n∈l.map (·.2)->n∈(l++[x]).map (·.2):=λh=>by rw[List.map_append];exact List.mem_append_left _ h
 have me:x.2∈(l++[x]).map (·.2):=by simp
 have ll:(l++[x]).length=l.length+1:=by simp
 have dup:∀q∈dd,∃y∈l++[x],fL K q (aG y.1) y.2=true:=λq hq=>by
  obtain⟨y,h1,h2⟩:=h.ded q hq;exact⟨y,List.mem_append_left _ h1,h2⟩
 have wk:SoOk K (l++[x]) dd st:=⟨by have:=h.len;omega,dup,h.nod,λc hc=>up (h.num c hc),h.hs,by have:=h.hk;omega⟩;have hlen:=h.len;unfold dh;split
 ·rename_i hcount;split
  ·refine⟨dd,by simp;omega,dup,?_,λc hc=>?_,h.hs,by rw[ll];exact Nat.le_succ_of_le h.hk⟩
   ·rw[List.map_append,List.nodup_append];refine⟨h.nod,by simp,λa ha b hb e=>?_⟩;obtain⟨c,hc,rfl⟩:=List.mem_map.mp ha;simp at hb;subst hb;injection e with _ e2;exact hx (e2 ▸ h.num c hc)
   ·rcases List.mem_append.mp hc with hc|hc
    ·exact up (h.num c hc)
    ·rw[List.mem_singleton.mp hc];exact me
  ·split
   ·have hl:=eA [a7 2 x.1] (a7 1 x.1) (jf 4 x.1) st.1;refine⟨dd,by simp;omega,dup,?_,λc hc=>?_,h.hs,by rw[ll];exact Nat.le_succ_of_le h.hk⟩
    ·rw[List.map_append,List.nodup_append];refine⟨h.nod.sublist (iP _ _ _ _),by simp,λa ha b hb e=>?_⟩;obtain⟨c,hc,rfl⟩:=List.mem_map.mp ha;simp at hb;subst hb;injection e with _ e2;obtain⟨c',h1,_,h3⟩:=iQ hc;exact hx (e2 ▸ h3 ▸ h.num c' h1)
    ·rcases List.mem_append.mp hc with hc|hc
     ·obtain⟨c',h1,_,h3⟩:=iQ hc;rw[←h3];exact up (h.num c' h1)
     ·rw[List.mem_singleton.mp hc];exact me
   ·split
    ·have hp:∀k:List Key,lvK dd (dO st.2.1 k)<=lvK dd st.2.1+1/\(dO st.2.1 k).length<=st.2.1.length+1:=λk=>by
      unfold dO;split
      ·omega
      ·have:([k].filter λk=>decide (vA k∉dd)).length<=1:=List.length_filter_le _ _;unfold lvK;rw[List.filter_append,List.length_append,List.length_append,List.length_singleton];omega
     refine⟨dd,?_,dup,wk.nod,wk.num,λv hv=>?_,?_⟩
     ·have:=(hp [.inr (a7 2 x.1),.inr (a7 1 x.1)]).1;rw[ll];show st.1.length+lvK dd (dO st.2.1 [.inr (a7 2 x.1),.inr (a7 1 x.1)])<=_;omega
     ·rcases pA hv with hv|hv
      ·exact⟨_,hv⟩
      ·exact h.hs v hv
     ·have:=(hp [.inr (a7 2 x.1),.inr (a7 1 x.1)]).2;have:=h.hk;rw[ll];show(dO _ _).length<=_;omega
    ·rename_i n1 n2 n3;have hd:kindOf x.1=("death" : Str):=by
      unfold ce at hcount;by_cases hd:kindOf x.1=("death" : Str)
      ·exact hd
      ·rw[if_neg hd,if_neg (by simp[qM,n1,n2,n3])]at hcount;cases hcount
     have hf:fL K (a7 1 x.1) (aG x.1) x.2=true:=by unfold ce at hcount;rwa [if_pos hd]at hcount
     have hnp:a7 1 x.1∉dd:=λhm=>by
      obtain⟨y,h1,h2⟩:=h.ded _ hm;exact hx (by rw[←vB h2 hf];exact List.mem_map.mpr ⟨y,h1,rfl⟩)
     have hl:=eA (st.1.map Cl.o) (a7 1 x.1) (aG x.1) st.1;have hio:=CB K st.1 st.2.1 st.2.2 (a7 1 x.1) (aG x.1) x.2;have hks:=nI (a7 1 x.1) dd hnp st.2.1;have hik:=tR K st.2.1 st.2.2 (a7 1 x.1) (aG x.1) x.2 (c9 st.1 (a7 1 x.1) (aG x.1));have him:∀c∈nE K st.1 st.2.1 st.2.2 (a7 1 x.1) (aG x.1) x.2,c.o∈c9 st.1 (a7 1 x.1) (aG x.1)/\c.n=x.2:=λc hc=>by
      have:=hik.subset (List.mem_map.mpr ⟨c,hc,rfl⟩);obtain⟨o,h1,h2⟩:=List.mem_map.mp this;injection h2 with h3 h4;exact⟨h3 ▸ h1,h4.symm⟩
     refine⟨a7 1 x.1::dd,?_,λq hq=>?_,?_,λc hc=>?_,h.hs,by rw[ll];exact Nat.le_succ_of_le h.hk⟩
     ·rw[ll];show(bA st.1 (st.1.map Cl.o) (a7 1 x.1) (aG x.1)++nE K st.1 st.2.1 st.2.2 (a7 1 x.1) (aG x.1) x.2).length+lvK _ st.2.1<=_;rw[List.length_append];omega
     ·rcases List.mem_cons.mp hq with rfl|hq
      ·exact⟨x,by simp,hf⟩
      ·exact dup q hq
     ·rw[List.map_append,List.nodup_append];refine⟨h.nod.sublist (iP _ _ _ _),List.Nodup.sublist hik (List.Pairwise.map _ (λa b hab e=>hab (by injection e)) (nJ _ _ _)),λa ha b hb e=>?_⟩;obtain⟨c,hc,rfl⟩:=List.mem_map.mp ha;obtain⟨c2,hc2,rfl⟩:=List.mem_map.mp hb;injection e with _ e2;obtain⟨c',h1,_,h3⟩:=iQ hc;exact hx ((him c2 hc2).2 ▸ e2 ▸ h3 ▸ h.num c' h1)
     ·rcases List.mem_append.mp hc with hc|hc
      ·obtain⟨c',h1,_,h3⟩:=iQ hc;rw[←h3];exact up (h.num c' h1)
      ·rw[(him c hc).2];exact me
 ·exact⟨dd,wk⟩
theorem CC {ρ:DL.Env}{i:Nat}{ks:List (List Key)}{vs:List D}{fk:FA}{fv:FE}{d:D}{b:Bool}{kd:List D}{kk:List Key}(e:ρ[i]? = some (some (.dt ks vs,true)))(ev:fv ρ=some (d,b))(ek:fk ρ=some kd)(hk:fR kd=some kk)(hf:aZ d=true)(h1:ks.length<=1000)(h2:kd.length<=1000):pq i fk fv ρ=some (.nx (ρ.set i (some (.dt (dO ks kk) (dP ks vs kk d),true)))):=by
 unfold pq;rw[e];dsimp only;rw[ev,Option.bind_some,ek,Option.bind_some,hk,Option.bind_some,if_pos ⟨hf,b8 (by omega),cO (by omega)⟩]
theorem HN (a b:Cl):(aJ (kC a) (kC b)).isSome=true:=by
 unfold kC;rw[aJ];split
 ·rw[aJ];split
  ·rw[aJ];split
   ·rw[aJ];rfl
   ·rfl
  ·rfl
 ·rfl
theorem xf (cs:List Cl):da (cs.map kC)=true:=by
 unfold da;simp[List.all_eq_true,HN]
theorem pF {α β:Type}(f:α->β):∀ {l:List α},(l.map f).Nodup->∀ {a b:α},a∈l->b∈l->f a=f b->a=b
 |[],_,_,_,ha,_,_=>by cases ha
 |c::l,h,a,b,ha,hb,e=>by
  rw[List.map_cons,List.nodup_cons]at h;rcases List.mem_cons.mp ha with ea|ha1
  ·rcases List.mem_cons.mp hb with eb|hb1
   ·rw[ea,eb]
   ·exact absurd (List.mem_map.mpr ⟨b,hb1,by rw[←e,ea]⟩) h.1
  ·rcases List.mem_cons.mp hb with eb|hb1
   ·exact absurd (List.mem_map.mpr ⟨a,ha1,by rw[e,eb]⟩) h.1
   ·exact pF f h.2 ha1 hb1 e
theorem AA {cs:List Cl}{a b:Cl}(ha:a∈cs)(hb:b∈cs)(e:bT (kC a)=bT (kC b)):(a.o,a.n)=(b.o,b.n):=by
 have h:=k7 (xf cs) (List.mem_map.mpr ⟨a,ha,rfl⟩) (List.mem_map.mpr ⟨b,hb,rfl⟩) e;unfold kC at h;injection h with h1 h2;injection h1 with h1;injection h2 with _ h3;injection h3 with h3 _;injection h3 with h3;rw[h1,show a.n=b.n by omega]
theorem CD {rows:List D}(g:fH rows)(known:Int){l:KL}{dd:List Str}{st:St3}(h:SoOk (am rows known) l dd st)(hj:l.length<=60){x:D×Nat}(hx:x∈am rows known)(hnr:bf x.1=false)(v5:Option (D×Bool)):
  ∃w5,(iO [some (.tup rows,false),some (.int known,false),some (.lst (st.1.map clD),true),some (.dt st.2.1 st.2.2,true),some (.int x.2,false),v5]=some (.nx [some (.tup rows,false),some (.int known,false),some (.lst ((dh (am rows known) st x).1.map clD),true),some (.dt (dh (am rows known) st x).2.1 (dh (am rows known) st x).2.2,true),some (.int x.2,false),w5])
   ∨ iO [some (.tup rows,false),some (.int known,false),some (.lst (st.1.map clD),true),some (.dt st.2.1 st.2.2,true),some (.int x.2,false),v5]=some (.ct [some (.tup rows,false),some (.int known,false),some (.lst ((dh (am rows known) st x).1.map clD),true),some (.dt (dh (am rows known) st x).2.1 (dh (am rows known) st x).2.2,true),some (.int x.2,false),w5])):=by
 obtain⟨ha,gx⟩:=cE g hx;have hso:st.1.length<=60:=by have:=h.len;omega
 have hf:aZ x.1=true:=gx.rp.flat;have ec:=yx g known st.1 hso hx hnr;have ecall:dN (tOf (fA iA (ac (ae 0) (ac (ae 1) (ac (ae 2) (ac (ae 4) ah)))))) [some (.tup rows,false),some (.int known,false),some (.lst (st.1.map clD),true),some (.dt st.2.1 st.2.2,true),some (.int x.2,false),some (x.1,false)]=some (!ce (am rows known) st.1 x) :=
  ci (tkF (cdD [.tup rows,.int known,.lst (st.1.map clD),.int x.2] (by simp) ec))
 have hw:fA aC (ac (ae 5) ah) [some (.tup rows,false),some (.int known,false),some (.lst (st.1.map clD),true),some (.dt st.2.1 st.2.2,true),some (.int x.2,false),some (x.1,false)]=some (.str (kindOf x.1),false):=cdD [x.1] rfl (kL gx);refine⟨some (x.1,false),?_⟩;cases hc:ce (am rows known) st.1 x with
 |false=>
  rw[hc]at ecall;have es:dh (am rows known) st x=st:=by unfold dh;rw[hc];rfl
  rw[es];exact .inr (rfF x.1 (by simp[ha]) hf (HM (iR ecall rfl)))
 |true=>
  rw[hc]at ecall;left;refine rfF x.1 (by simp[ha]) hf (d3 (jo ecall rfl) ?_);by_cases hn:kindOf x.1=("named" : Str)
  ·have es:dh (am rows known) st x=(st.1++[⟨a7 1 x.1,a7 2 x.1,aG x.1,none,x.2⟩],st.2):=by unfold dh;rw[hc,if_pos rfl,if_pos hn]
   rw[es];refine iR (bx (bb:=false) hw (decide_eq_true hn)) ?_;have hpo:ai [x.1,.str "office"]=some (.str (a7 1 x.1),false)/\ai [x.1,.str "person"]=some (.str (a7 2 x.1),false):=by
    obtain⟨a,k,au,e,d⟩:=gx;rw[e]at hn ⊢;replace hn:k=("named" : Str):=hn;cases d with
    |named d o p=>exact⟨bc (i:=1) (aW (by decide +kernel)) rfl,bc (i:=2) (aW (by decide +kernel)) rfl⟩
    |root=>exact absurd hn (by decide +kernel)
    |chosen=>exact absurd hn (by decide +kernel)
    |heir=>exact absurd hn (by decide +kernel)
    |three _ hk=>rcases hk with rfl|rfl|rfl<;>exact absurd hn (by decide +kernel)
    |other _ hk=>rcases hk with rfl|rfl|rfl|rfl|rfl<;>exact absurd hn (by decide +kernel)
   have hday:aK [x.1]=some (.int (aG x.1),false):=by rw[tI gx];unfold tH;rw[hnr];rfl
   have e2:f2 bv (ae 2) (fA bp (ac (fA cP (ac (ae 5) (ac (fA aK (ac (ae 5) ah)) (ac (ae 4) ah)))) ah)) [some (.tup rows,false),some (.int known,false),some (.lst (st.1.map clD),true),some (.dt st.2.1 st.2.2,true),some (.int x.2,false),some (x.1,false)]=some (.lst (st.1.map clD++[clD ⟨a7 1 x.1,a7 2 x.1,aG x.1,none,x.2⟩]),true):=by
    refine gw (x:=.lst (st.1.map clD)) (y:=.lst [clD ⟨a7 1 x.1,a7 2 x.1,aG x.1,none,x.2⟩]) (b1:=false) (b2:=true) rfl ?_ (if_pos (cO (by rw[List.length_map,List.length_singleton];omega)));exact cdD [clD ⟨a7 1 x.1,a7 2 x.1,aG x.1,none,x.2⟩] (aE (cdD [x.1,.int (aG x.1),.int x.2] (acF rfl (acF (cdD [x.1] rfl hday) rfl)) (DC hpo.1 hpo.2 _ _)) rfl) (jr _ (by simp))
   have:=qB (i:=2) e2 (by have hq:=gA (st.1++[(⟨a7 1 x.1,a7 2 x.1,aG x.1,none,x.2⟩:Cl)]);rwa [List.map_append]at hq);rw[List.map_append];exact this
  ·refine jo (bx (bb:=false) hw (decide_eq_false hn)) ?_;by_cases hch:kindOf x.1=("chosen" : Str)
   ·have es:dh (am rows known) st x=(bA st.1 [a7 2 x.1] (a7 1 x.1) (jf 4 x.1)++[⟨a7 2 x.1,a7 3 x.1,jf 4 x.1,none,x.2⟩],st.2):=by unfold dh;rw[hc,if_pos rfl,if_neg hn,if_pos hch]
    rw[es];refine iR (bx (bb:=false) hw (decide_eq_true hch)) (qB (i:=2) (cdD [.lst (st.1.map clD),x.1,.int x.2] rfl ?_) (gA _));obtain⟨a,k,au,e,d⟩:=gx;rw[e]at hch ⊢;replace hch:k=("chosen" : Str):=hch;cases d with
    |chosen d b o p s=>exact yy st.1 hso x.2
    |root=>exact absurd hch (by decide +kernel)
    |named=>exact absurd hch (by decide +kernel)
    |heir=>exact absurd hch (by decide +kernel)
    |three _ hk=>rcases hk with rfl|rfl|rfl<;>exact absurd hch (by decide +kernel)
    |other _ hk=>rcases hk with rfl|rfl|rfl|rfl|rfl<;>exact absurd hch (by decide +kernel)
   ·refine jo (bx (bb:=false) hw (decide_eq_false hch)) ?_;by_cases hh:kindOf x.1=("heir" : Str)
    ·have es:dh (am rows known) st x=(st.1,dO st.2.1 [.inr (a7 2 x.1),.inr (a7 1 x.1)],dP st.2.1 st.2.2 [.inr (a7 2 x.1),.inr (a7 1 x.1)] (.str (a7 3 x.1))):=by unfold dh;rw[hc,if_pos rfl,if_neg hn,if_neg hch,if_pos hh]
     rw[es];have hpo:ai [x.1,.str "office"]=some (.str (a7 2 x.1),false)/\ai [x.1,.str "by"]=some (.str (a7 1 x.1),false)/\ai [x.1,.str "person"]=some (.str (a7 3 x.1),false):=by
      obtain⟨a,k,au,e,d⟩:=gx;rw[e]at hh ⊢;replace hh:k=("heir" : Str):=hh;cases d with
      |heir d b o p=>exact⟨bc (i:=2) (aW (by decide +kernel)) rfl,bc (i:=1) (aW (by decide +kernel)) rfl,bc (i:=3) (aW (by decide +kernel)) rfl⟩
      |root=>exact absurd hh (by decide +kernel)
      |named=>exact absurd hh (by decide +kernel)
      |chosen=>exact absurd hh (by decide +kernel)
      |three _ hk=>rcases hk with rfl|rfl|rfl<;>exact absurd hh (by decide +kernel)
      |other _ hk=>rcases hk with rfl|rfl|rfl|rfl|rfl<;>exact absurd hh (by decide +kernel)
     exact iR (bx (bb:=false) hw (decide_eq_true hh)) (CC (ks:=st.2.1) (vs:=st.2.2) (kd:=[.str (a7 2 x.1),.str (a7 1 x.1)]) (b:=false) rfl (cdD [x.1,.str "person"] rfl hpo.2.2) (aE (cdD [x.1,.str "office"] rfl hpo.1) (aE (cdD [x.1,.str "by"] rfl hpo.2.1) rfl)) rfl rfl (by have:=h.hk;omega) (by simp))
    ·refine jo (bx (bb:=false) hw (decide_eq_false hh)) ?_;have es:dh (am rows known) st x=(bA st.1 (st.1.map Cl.o) (a7 1 x.1) (aG x.1)++nE (am rows known) st.1 st.2.1 st.2.2 (a7 1 x.1) (aG x.1) x.2,st.2):=by unfold dh;rw[hc,if_pos rfl,if_neg hn,if_neg hch,if_neg hh]
     rw[es];have hd:kindOf x.1=("death" : Str):=by
      unfold ce at hc;by_cases hd:kindOf x.1=("death" : Str)
      ·exact hd
      ·rw[if_neg hd,if_neg (by simp[qM,hn,hch,hh])]at hc;cases hc
     refine qB (i:=2) (cdD [.tup rows,.int known,.lst (st.1.map clD),.dt st.2.1 st.2.2,.int x.2] (by simp) ?_) (gA _);obtain⟨a,k,au,e,d⟩:=gx;have hk:k=("death" : Str):=by rw[e]at hd;exact hd
     subst hk;obtain⟨dd,p,rfl⟩:=d.deed.three (by decide +kernel);have:=A9 g known st.1 hso st.2.1 st.2.2 h.hs hx e;rw[this,e];rfl
theorem xg (K:KL):∀(l l0:KL)(st:St3)(dd:List Str),SoOk K l0 dd st->((l0++l).map (·.2)).Nodup->∃dd',SoOk K (l0++l) dd' (l.foldl (dh K) st)
 |[],l0,st,dd,h,_=>⟨dd,by rw[List.append_nil];exact h⟩
 |x::l,l0,st,dd,h,hn=>by
  have hx:x.2∉l0.map (·.2):=λhm=>by
   rw[List.map_append,List.nodup_append]at hn;exact hn.2.2 _ hm x.2 (by simp) rfl
  obtain⟨dd',h'⟩:=h.step hx;have e:l0++x::l=(l0++[x])++l:=by simp
  rw[e]at hn ⊢;exact xg K l _ _ _ h' hn
theorem xh (K l:KL)(h:(l.map (·.2)).Nodup):∃dd,SoOk K l dd (jU K l):=by
 have:=xg K l [] ([],[],[]) [] ⟨Nat.zero_le _,by simp,by simp,by simp,by simp,Nat.zero_le _⟩ h;exact this
theorem yz {K:KL}(h:(K.map (·.2)).Nodup):((eV K).map (·.2)).Nodup:=((bK _ _).map _).nodup_iff.mpr (List.Nodup.sublist (List.Sublist.map _ List.filter_sublist) h)
theorem y0 {rows:List D}(g:fH rows)(known:Int)(hlen:(eV (am rows known)).length<=60):jJ [.tup rows,.int known]=some (.lst ((dI (am rows known)).map clD),true)/\(dI (am rows known)).length<=60:=by
 have eL:dX [.tup rows,.int known]=some (.lst ((eV (am rows known)).map λx=>.int x.2),true):=tJ g known;generalize hK:am rows known=K at hlen eL ⊢;have hmem:∀x∈eV K,x∈K/\bf x.1=false:=λx hx=>by
  obtain⟨h1,h2⟩:=List.mem_filter.mp ((bK _ _).mem_iff.mp hx);exact⟨h1,by simpa using h2⟩
 have hnd:((eV K).map (·.2)).Nodup:=yz (by rw[←hK];exact gV rows known);obtain⟨ρ',e,v4,v5,rfl⟩:=iz (tg:=tgN 4) (g:=iO) (λj ρ=>∃v4 v5:Option (D×Bool),ρ=[some (.tup rows,false),some (.int known,false),some (.lst ((jU K ((eV K).take j)).1.map clD),true),some (.dt (jU K ((eV K).take j)).2.1 (jU K ((eV K).take j)).2.2,true),v4,v5]) ((eV K).map λx=>.int x.2)
  [some (.tup rows,false),some (.int known,false),some (.lst [],true),some (.dt [] [],true),none,none] ⟨none,none,rfl⟩ (by
   rintro j d ρ hd ⟨v4,v5,rfl⟩;rw[List.getElem?_map]at hd;obtain⟨x,hx,rfl⟩:=oY hd;have hjl:j<(eV K).length:=(List.getElem?_eq_some_iff.mp hx).1;have et:(eV K).take (j+1)=(eV K).take j++[x]:=by rw[List.take_add_one,hx];rfl
   have ef:jU K ((eV K).take (j+1))=dh K (jU K ((eV K).take j)) x:=by rw[et];unfold jU;rw[List.foldl_append];rfl
   obtain⟨hxK,hxr⟩:=hmem x (List.mem_of_getElem? hx);obtain⟨dd,h⟩:=xh K ((eV K).take j) (List.Nodup.sublist (List.Sublist.map _ (List.take_sublist _ _)) hnd);rw[←hK]at h;have hst:=CD g known h (by rw[hK,List.length_take];omega) (x:=x) (by rw[hK];exact hxK) hxr v5;rw[hK]at hst;obtain⟨w5,hst⟩:=hst;exact⟨_,_,rfl,hst,some (.int x.2,false),w5,by rw[ef]⟩)
 have hall:(eV K).take ((eV K).map λx=>D.int x.2).length=eV K:=by rw[List.length_map,List.take_length]
 rw[hall]at e;obtain⟨dd,hso⟩:=xh K (eV K) hnd;generalize hcs:(jU K (eV K))=st at e hso;have hcl:st.1.length<=60:=by have:=hso.len;omega
 have hCk:dI K=eX (λc=>bT (kC c)) st.1:=by unfold dI;rw[hcs]
 have hm:∀ρ:DL.Env,gK (om d4 ρ) (st.1.map clD)=some (st.1.map λc=>.tup [.str c.o,.int c.s,.int c.n]):=λρ=>fG st.1 λc _=>by
  show(d4 [clD c]).map _=_;rw[qJ];rfl
 have hk:cN (st.1.map λc=>D.tup [.str c.o,.int c.s,.int c.n])=some (st.1.map kC):=fu st.1 λc _=>rfl;have hcond:(st.1.map kC).length<64/\da (st.1.map kC)=true/\dD (st.1.map kC)=true/\((st.1.map kC).map bT).Nodup:=by
  refine⟨by rw[List.length_map];omega,xf _,?_,?_⟩
  ·unfold dD;rw[Bool.or_eq_true];right;simp[List.all_eq_true,kC]
  ·rw[List.map_map];have h1:st.1.Pairwise λa b=>(a.o,a.n)≠(b.o,b.n):=List.pairwise_map.mp hso.nod;have h2:st.1.Pairwise λa b=>bT (kC a)≠bT (kC b):=by
    refine List.Pairwise.imp_of_mem ?_ h1;intro a b ha hb hne e;exact hne (AA ha hb e)
   exact List.pairwise_map.mpr h2
 have hz:(st.1.map kC).zip (st.1.map clD)=st.1.map λc=>(kC c,clD c):=by rw[List.zip_map']
 have key:((dI K).map λc=>(kC c,clD c))=eX (λp:List At×D=>bT p.1) (st.1.map λc=>(kC c,clD c)):=by
  rw[hCk];refine j9 _ (λx hx y hy e=>?_) ((bK _ _).map _) ?_
  ·obtain⟨a,ha,rfl⟩:=List.mem_map.mp hx;obtain⟨b,hb,rfl⟩:=List.mem_map.mp hy;rw[pF (λc:Cl=>(c.o,c.n)) hso.nod ha hb (AA ha hb e)]
  ·exact List.pairwise_map.mpr (dn _ _)
 refine⟨ay rfl (bX (ds:=[]) (by simp[sizeLine]) rfl (d3 (ρ':=[some (.tup rows,false),some (.int known,false),some (.lst [],true),some (.dt [] [],true),none,none]) rfl (d3 (qC (ds:=(eV K).map λx=>.int x.2) ?_ e) (a9 ?_)))),by rw[hCk,(bK _ _).length_eq];exact hcl⟩
 ·show(fA dX (ac (ae 0) (ac (ae 1) ah)) _).bind _=_;rw[cdD [.tup rows,.int known] rfl eL];rfl
 ·unfold mq;show((some (D.lst (st.1.map clD),false)).bind _)=_;simp only[Option.bind_some];rw[hm];simp only[Option.bind_some];rw[hk];simp only[Option.bind_some];rw[if_pos hcond];unfold gt;rw[hz,←key,List.map_map];rfl
end Lw
namespace Lw
open PySem PySem.Spec DL L2
theorem tS (ns:List Int)(k:Nat)(x:Int):∃c:Int,(aA (aP 2 (f2 bj (f2 eS (f2 bv (f2 bv (f2 bj (ae 2) (fC (.int 2147483629))) (f2 eS (fC (.int 6151)) (ae 1))) (fC (.int 1))) (fC (.int 48271))) (fC (.int 2147483647))))
  (aV (f2 bj (f2 eS (ae 2) (f2 bv (f2 bv (f2 bj (ae 2) (fC (.int 65519))) (ae 1)) (fC (.int 2)))) (fC (.int 2147483629))))) [some (.lst (ns.map .int),false),some (.int k,false),some (.int x,false)]=some (.rt (.int c) false)/\0<=c:=by
 obtain⟨y,hy⟩:∃y,((x % 2147483629+6151*k+1)*48271) % 2147483647=y:=⟨_,rfl⟩;have hb:0<=y/\y<2147483647:=by rw[←hy];exact mod_lt (by decide)
 have hc : -18446744073709551616<y/\y<18446744073709551616:=by omega
 exact⟨(y*(y % 65519+k+2)) % 2147483629,rfF (.int y) (by simp[hy]) rfl (a9 (by simp[hc])),(mod_lt (by decide)).1⟩
theorem fW (ns:List Int)(k:Nat):∃c:Int,cC [.lst (ns.map .int),.int k]=some (.int c,false)/\0<=c:=by
 by_cases h:ns.length=0
 ·have e:ns=[]:=List.length_eq_zero_iff.mp h;subst e;obtain⟨c,h1,h2⟩:=tS [] k 5;exact⟨c,ay rfl (rfF (.int 5) rfl rfl (aB (tkF (by simp)) h1)),h2⟩
 ·have hm:=mod_lt (x:=(k:Int)) (m:=ns.length) (by omega);obtain⟨c,h1,h2⟩:=tS ns k (ns.getD ((k:Int) % ns.length).toNat 0);refine⟨c,ay rfl (rfF (.int 5) rfl rfl (d3 (iR (tkF (by simp;omega)) (mE (d:=.int (ns.getD ((k:Int) % ns.length).toNat 0)) (b:=false) ?_ rfl)) h1)),h2⟩;refine eoF (.lst (ns.map .int)) (.int ((k:Int) % ns.length)) rfl ?_ (wI hm.1 (by omega));refine eoF (.int k) (.int ns.length) rfl (by simp) ?_;have hne:¬ns=[]:=λe=>h (by rw[e];rfl);simp[bj,hne]
theorem AB {ρ:DL.Env}{i n:Nat}{ds:List D}{fk fv:FE}{d:D}{b b':Bool}(e:ρ[i]? = some (some (.lst ds,true)))(ev:fv ρ=some (d,b))(ek:fk ρ=some (.int n,b'))(hn:n<ds.length)(hf:aZ d=true):xZ i fk fv ρ=some (.nx (ρ.set i (some (.lst (ds.set n d),true)))):=by
 have hx:ixN ds.length (n:Int)=some n:=by
  unfold ixN;rw[if_pos (by omega)];simp[hn]
 simp only[xZ,e,ev,ek,Option.bind_some,hx,if_pos hf]
theorem xi:∀(zs:List Str),(∀z∈zs,z.length=1)->(zs.map (·.length)).sum=zs.length
 |[],_=>rfl
 |z::zs,h=>by
  rw[List.map_cons,List.sum_cons,xi zs λy hy=>h y (mZ _ hy),h z mX,List.length_cons];omega
theorem xj (x:Int):0<=x % 26/\x % 26<26:=mod_lt (by decide)
noncomputable def jV:PySem.Str:="abcdefghijklmnopqrstuvwxyz"
theorem y4:jV.cps.size=26:=by decide +kernel
noncomputable def ltr (x:Int):Str:=⟨#[jV.cps.toList.getD (x % 26).toNat 0]⟩
theorem AC (x:Int):ixD (.str jV) (.int (x % 26))=some (.str (ltr x),false):=DL.uA (xj x).1 (by rw[y4];have:=xj x;omega) (by decide +kernel)
theorem tT:∀(zs:List Str)(y:Str),(Str.join ("" : Str) (y::zs)).cps.toList=(y::zs).flatMap λz=>z.cps.toList
 |[],y=>by rw[List.flatMap_cons,List.flatMap_nil,List.append_nil];rfl
 |z::r,y=>by
  have e3:∀a b:Str,(a++b).cps.toList=a.cps.toList++b.cps.toList:=λa b=>by show(a.cps++b.cps).toList=_;simp
  show(y++("" : Str)++Str.join ("" : Str) (z::r)).cps.toList=_;rw[e3,e3,tT r z,show("" : Str).cps.toList=[]from rfl,List.append_nil];rfl
theorem AD {zs:List Str}(h:zs≠[]):(Txt.join ("" : Str) zs).cps.toList=zs.flatMap λz=>z.cps.toList:=by
 cases zs with
 |nil=>exact absurd rfl h
 |cons y zs=>
  unfold Txt.join;rw[StrLaws.glued_eq_join];exact tT zs y
theorem jW (x y:Nat):∀(bs:List Str)(a:Nat),a<bs.length->(∀z∈bs,∃c,z.cps.toList=[c])->((bs.set a ⟨#[x]⟩).flatMap λz=>z.cps.toList)=((bs.set a ⟨#[y]⟩).flatMap λz=>z.cps.toList)->x=y
 |b::bs,0,_,_,h=>by
  rw[List.set_cons_zero,List.set_cons_zero,List.flatMap_cons,List.flatMap_cons]at h;exact(List.cons.inj h).1
 |b::bs,a+1,hl,hb,h=>by
  rw[List.set_cons_succ,List.set_cons_succ,List.flatMap_cons,List.flatMap_cons]at h;exact jW x y bs a (by simpa using hl) (λz hz=>hb z (mZ _ hz)) (List.append_cancel_left h)
theorem AE:∀i j:Fin 26,jV.cps.toList.getD i.val 0=jV.cps.toList.getD j.val 0->i=j:=by decide +kernel
noncomputable def tU (bs:List Str)(a:Nat)(c:Int)(i:Nat):Str:=Txt.join ("" : Str) (bs.set a (ltr (c / 64+3*(i:Int))))
theorem DD {bs:List Str}{a:Nat}{c:Int}{i j:Nat}(ha:a<bs.length)(hb:∀z∈bs,∃c,z.cps.toList=[c])(hij:(3*(i:Int) - 3*(j:Int)) % 26≠0):tU bs a c i≠tU bs a c j:=by
 intro e;have e:=congrArg (λs:Str=>s.cps.toList) e;unfold tU at e;have hne:∀x,bs.set a x≠[]:=λx z=>by have:=congrArg List.length z;rw[List.length_set,List.length_nil]at this;omega
 simp only[AD (hne _)]at e;have:=jW _ _ bs a ha hb e;have h1:=xj (c / 64+3*(i:Int));have h2:=xj (c / 64+3*(j:Int));have:=AE ⟨((c / 64+3*(i:Int)) % 26).toNat,by omega⟩ ⟨((c / 64+3*(j:Int)) % 26).toNat,by omega⟩ this;have:=congrArg Fin.val this;simp only at this;omega
theorem AF (c:Int)(hc:0<=c):∃zs:List Str,kB [.int c]=some (.lst (zs.map .str),true)/\zs.length=7/\∀x y,zs[5]? = some x->zs[6]? = some y->x≠y:=by
 have h8:=mod_lt (x:=c) (m:=8) (by decide);obtain⟨n,hn⟩:∃n:Nat,1+c % 8=n:=⟨(1+c % 8).toNat,by omega⟩;have hn1:1<=n:=by omega
 have hn8:n<=8:=by omega
 let bs:List Str:=(List.range n).map λ(k:Nat)=>ltr (c / (3+4*k));have hbl:bs.length=n:=by simp[bs]
 have hb:=tq (fi:=dB (f2 bv (fC (.int 1)) (f2 bj (ae 0) (fC (.int 8))))) (nT:=1) (cap:=[1,0]) (tg:=tgN 0) (fe:=f2 ixD (ae 1) (f2 bj (f2 cm (ae 2) (f2 bv (fC (.int 3)) (f2 eS (fC (.int 4)) (ae 0)))) (fC (.int 26))))
  (ρ:=[some (.int c,false),some (.str jV,false),none,none,none,none,none]) (List.range n) (λ(k:Nat)=>.int k) (λ(k:Nat)=>.str (ltr (c / (3+4*k))))
  (by rw[fm (j:=n) (b:=false) (by simp;omega) (by omega),yt];simp) (by simp;omega) λk hk=>by
   have hk:=List.mem_range.mp hk;refine⟨_,rfl,false,eoF (.str jV) (.int (c / (3+4*k) % 26)) (by simp[bP]) ?_ (AC _)⟩;have h1:(0:Int)<3+4*k:=by omega
   have h2:(3:Int)+4*k<1073741824:=by omega
   simp[bP,h1,h2]
 have hb':bQ (dB (f2 bv (fC (.int 1)) (f2 bj (ae 0) (fC (.int 8))))) 1 [1,0] (tgN 0) iW (f2 ixD (ae 1) (f2 bj (f2 cm (ae 2) (f2 bv (fC (.int 3)) (f2 eS (fC (.int 4)) (ae 0)))) (fC (.int 26)))) [some (.int c,false),some (.str jV,false),none,none,none,none,none]=some (.lst (bs.map .str),true):=by
  rw[hb];simp[bs]
 have hat:=mod_lt (x:=c / 8) (m:=n) (by omega);obtain⟨a,ha⟩:∃a:Nat,c / 8 % n=a:=⟨(c / 8 % n).toNat,by omega⟩;obtain⟨zs,v5,v6,e,hz,hzz⟩:∃(zs:List Str)(v5 v6:Option (D×Bool)),fY (tgN 5) jp (de 0 7) [some (.int c,false),some (.str jV,false),some (.lst (bs.map .str),true),some (.int (c / 8 % n),false),some (.lst [],true),none,none]=some (.nx [some (.int c,false),some (.str jV,false),some (.lst (bs.map .str),true),some (.int (c / 8 % n),false),some (.lst (zs.map .str),true),v5,v6])/\zs.length=7/\zs=(List.range 7).map (tU bs a c):=by
  obtain⟨ρ',e,zs,v5,v6,rfl,hz,hzz⟩:=i6 (tg:=tgN 5) (g:=jp) 7 (λi ρ=>∃(zs:List Str)(v5 v6:Option (D×Bool)),ρ=[some (.int c,false),some (.str jV,false),some (.lst (bs.map .str),true),some (.int (c / 8 % n),false),some (.lst (zs.map .str),true),v5,v6]/\zs.length=i/\zs=(List.range i).map (tU bs a c))
   [some (.int c,false),some (.str jV,false),some (.lst (bs.map .str),true),some (.int (c / 8 % n),false),some (.lst [],true),none,none] ⟨[],none,none,rfl,rfl,rfl⟩ (by
    rintro i ρ hi ⟨zs,v5,v6,rfl,hz,hzz⟩;let l:=ltr (c / 64+3*i);let nm:=bs.set a l;have h1:∀z∈nm,z.length=1:=λz hz=>by
     rcases List.mem_or_eq_of_mem_set hz with h|h
     ·obtain⟨k,_,rfl⟩:=List.mem_map.mp h;rfl
     ·rw[h];rfl
    have hnl:nm.length=n:=by simp[nm,hbl]
    refine⟨_,_,rfl,.inl (bX (ds:=bs.map .str) (by simp) (cR _) (d3 (AB (n:=a) (ds:=bs.map .str) (d:=.str l) (b:=false) (b':=false) rfl ?_ ?_ (by simp[hbl];omega) rfl) (gd (ds:=zs.map .str) (d:=.str (Txt.join ("" : Str) nm)) (b:=false) rfl ?_ rfl (b8 (by simp;omega))))),zs++[Txt.join ("" : Str) nm],some (.int i,false),some (.lst (nm.map .str),true),?_,by simp[hz],by rw[hzz,List.range_succ,List.map_append];rfl⟩
    ·exact eoF (.str jV) (.int ((c / 64+3*i) % 26)) rfl (by simp) (AC _)
    ·simp[ha]
    ·refine eoF (.str "") (.lst (nm.map .str)) rfl (by simp[nm]) ?_;show(fB (nm.map .str)).bind _=_;rw[n8];have:=xi nm h1;have h0:("" : Str).length=0:=rfl;show(if _ then _ else _)=_;rw[if_pos (by rw[this,h0,hnl];omega)]
    ·simp[nm])
  exact⟨zs,v5,v6,e,hz,hzz⟩
 have hsz:(bs.length:Int)=n:=by omega
 refine⟨if c / 1000 % 8=1 then zs.set 5 (zs.getD 0 ⟨#[]⟩)else zs,?_,by split<;>simp[hz],?_⟩
 refine ay rfl (rfF (.str jV) rfl rfl (bX (ds:=bs.map .str) hb' (cR _) (rfF (.int (c / 8 % n)) ?_ rfl (bX (ds:=[]) (by simp[sizeLine]) (by simp) (d3 (gu (fm (j:=7) (b:=false) rfl (by decide)) e) ?_)))))
 ·have:(bs.length:Int)≠0:=by omega
  refine eoF (.int (c / 8)) (.int n) (by simp) (by simp[hbl]) ?_;have h1:(0:Int)<n:=by omega
  show(if decide ((0:Int)<n)=true then _ else _)=_;rw[if_pos (decide_eq_true h1)]
 ·by_cases h:c / 1000 % 8=1
  ·rw[if_pos h];have h5:5<(zs.map D.str).length:=by simp[hz]
   obtain⟨z0,zr,rfl⟩:∃z0 zr,zs=z0::zr:=by cases zs with|nil=>simp at hz|cons a b=>exact⟨a,b,rfl⟩
   refine d3 (iR (tkF (by simp[h])) (AB (n:=5) (ds:=(z0::zr).map .str) (d:=.str z0) (b:=false) (b':=false) rfl ?_ rfl h5 rfl)) (jG ?_)
   ·exact eoF (.lst ((z0::zr).map .str)) (.int 0) rfl rfl (by simp[at0])
   ·simp
  ·rw[if_neg h];exact aB (tkF (by simp[h])) (jG rfl)
 ·have hal:a<bs.length:=by omega
  have hbc:∀z∈bs,∃c,z.cps.toList=[c]:=λz hz=>by obtain⟨k,_,rfl⟩:=List.mem_map.mp hz;exact⟨_,rfl⟩
  intro x y hx hy;have h0:zs[0]? = some (tU bs a c 0):=by rw[hzz];rfl
  have h5:zs[5]? = some (tU bs a c 5):=by rw[hzz];rfl
  have h6:zs[6]? = some (tU bs a c 6):=by rw[hzz];rfl
  split at hx
  ·rename_i hc8;rw[if_pos hc8,List.getElem?_set_ne (by decide),h6]at hy;rw[List.getElem?_set_self (by omega),List.getD_eq_getElem?_getD,h0]at hx;cases hx;cases hy
   exact DD hal hbc (by decide)
  ·rename_i hc8;rw[if_neg hc8,h6]at hy;rw[h5]at hx;cases hx;cases hy
   exact DD hal hbc (by decide)
noncomputable def stD (x:Int×Option Int):D:=.tup [.int x.1,uD x.2]
theorem gD (x:Int×Option Int):aZ (stD x)=true:=by simp[stD,wT]
theorem pG (x:Int×Option Int):aj 5 (stD x)=true:=by obtain⟨s,u⟩:=x;cases u<;>simp[stD,uD]
theorem vC (a d m:Int):∃x,d6 [.int a,.int d,.int m]=some (stD x,false):=by
 have h8:=mod_lt (x:=a) (m:=8) (by decide);let L1:List (Int×Option Int):=[(0,none),(d,none),(d,some (d+3*m)),(0,some (d+2*m)),(0,some (9*m))];let L2:List (Int×Option Int):=[(d+m,some (d+4*m)),(d / 2,some (d+6*m)),(0,none)];have hfl:∀L:List (Int×Option Int),bd (L.map stD)=true:=λL=>bL λd hd=>by obtain⟨x,_,rfl⟩:=List.mem_map.mp hd;exact gD x
 have hi:(a % 8).toNat<((L1++L2).map stD).length:=by show _<8;omega
 refine⟨(L1++L2).getD (a % 8).toNat (0,none),ay rfl (bX (ds:=L1.map stD) (by simp[L1,stD,uD,sizeLine]) (hfl _) (bX (ds:=(L1++L2).map stD) ?_ (hfl _) (a9 (eoF (.lst ((L1++L2).map stD)) (.int (a % 8)) rfl (by simp) ((mF h8.1 hi).trans ?_)))))⟩
 ·refine gw (x:=.lst (L1.map stD)) (y:=.lst (L2.map stD)) (b1:=false) (b2:=true) rfl (by simp[L2,stD,uD,sizeLine]) ?_;simp[L1,L2,sizeLine]
 ·rw[List.getD_eq_getElem?_getD,List.getElem?_map,List.getD_eq_getElem?_getD];rw[List.length_map]at hi;rw[List.getElem?_eq_getElem hi];rfl
theorem iG {zs:List Str}{i:Int}(h1 : -(zs.length:Int)<=i)(h2:i<zs.length):∃z∈zs,ixD (.lst (zs.map .str)) (.int i)=some (.str z,false):=by
 obtain⟨j,hj,hl⟩:∃j,ixN (zs.map D.str).length i=some j/\j<zs.length:=by
  unfold ixN;rw[List.length_map];by_cases h0:0<=i
  ·rw[if_pos h0,if_pos h2];exact⟨_,rfl,by omega⟩
  ·rw[if_neg h0,if_pos (by omega)];exact⟨_,rfl,by omega⟩
 refine⟨zs[j],List.getElem_mem hl,?_⟩;have:atI (zs.map D.str) i=some (.str zs[j]):=by unfold atI;rw[hj,Option.bind_some,List.getElem?_map,List.getElem?_eq_getElem hl];rfl
 simp[this]
noncomputable def MR:List Nat:=[7,255,3,15]
noncomputable def MS:List Nat:=[1,2,3,4,5,7,128,255]
inductive Dd:Str->List D->Prop
 |root (o r:Str) (m:Nat) (hm:m∈MR) (f:Int):Dd ("root" : Str) [.str o,.int m,.int f,.str r]
 |named (d:Int) (o p:Str):Dd ("named" : Str) [.int d,.str o,.str p]
 |chosen (d:Int) (b o p:Str) (s:Int):Dd ("chosen" : Str) [.int d,.str b,.str o,.str p,.int s]
 |heir (d:Int) (b o p:Str):Dd ("heir" : Str) [.int d,.str b,.str o,.str p]
 |three (k:Str) (hk:k=("death" : Str)∨k=("lost" : Str)∨k=("found" : Str)) (d:Int) (p:Str):Dd k [.int d,.str p]
 |leave (d:Int) (b p:Str) (m:Nat) (hm:m∈MS) (x:Int×Option Int) (f:Int):Dd ("leave" : Str) [.int d,.str b,.str p,.int m,stD x,.int f]
 |paper (k:Str) (hk:k=("paper" : Str)∨k=("like" : Str)) (d:Int) (b:Str) (m:Nat) (hm:m∈MS) (x:Int×Option Int) (r:List D) (hf:bd r=true) (hp:r.all (aj 5)=true):Dd k (.int d::.str b::.int m::stD x::r)
 |copy (k:Str) (hk:k=("copy" : Str)∨k=("call" : Str)) (d:Int) (b:Str) (n:Nat):Dd k [.int d,.str b,.int n]
theorem Dd.cd {k:Str}{r:List D}(h:Dd k r):Cd k r:=by
 cases h with
 |root o r m hm f=>exact .root _ _ _ _
 |named d o p=>exact .named _ _ _
 |chosen d b o p s=>exact .chosen _ _ _ _ _
 |heir d b o p=>exact .heir _ _ _ _
 |three k hk d p=>exact .three _ hk _ _
 |leave d b p m hm x f=>exact .other _ (.inl rfl) _ _ _ (by simp[gD]) (by simp only[List.all_cons,List.all_nil,pG,aj,Bool.and_true])
 |paper k hk d b m hm x r hf hp=>exact .other _ (hk.elim (λh=>.inr (.inl h)) λh=>.inr (.inr (.inl h))) _ _ _ (by simp[hf,gD]) (by simp only[List.all_cons,hp,pG,aj,Bool.and_true])
 |copy k hk d b n=>exact .other _ (hk.elim (λh=>.inr (.inr (.inr (.inl h)))) λh=>.inr (.inr (.inr (.inr h)))) _ _ _ rfl (by simp)
theorem Dd.had3 {k:Str}{r:List D}(h:Dd k r)(hk:k=("leave" : Str)∨k=("named" : Str)):∃p,r[2]? = some (.str p):=by
 have hk:k∈[("leave" : Str),("named" : Str)]:=by simpa using hk
 cases h with
 |named d o p=>exact⟨p,rfl⟩
 |leave d b p=>exact⟨p,rfl⟩
 |root=>exact absurd hk (by decide +kernel)
 |chosen=>exact absurd hk (by decide +kernel)
 |heir=>exact absurd hk (by decide +kernel)
 |three k hk'=>rcases hk' with rfl|rfl|rfl<;>exact absurd hk (by decide +kernel)
 |paper k hk'=>rcases hk' with rfl|rfl<;>exact absurd hk (by decide +kernel)
 |copy k hk'=>rcases hk' with rfl|rfl<;>exact absurd hk (by decide +kernel)
theorem Dd.had4 {k:Str}{r:List D}(h:Dd k r)(hk:k=("chosen" : Str)):∃p,r[3]? = some (.str p):=by
 cases h with
 |chosen d b o p=>exact⟨p,rfl⟩
 |root=>exact absurd hk (by decide +kernel)
 |named=>exact absurd hk (by decide +kernel)
 |leave=>exact absurd hk (by decide +kernel)
 |heir=>exact absurd hk (by decide +kernel)
 |three k hk'=>rcases hk' with rfl|rfl|rfl<;>exact absurd hk (by decide +kernel)
 |paper k hk'=>rcases hk' with rfl|rfl<;>exact absurd hk (by decide +kernel)
 |copy k hk'=>rcases hk' with rfl|rfl<;>exact absurd hk (by decide +kernel)
theorem Dd.flat {k:Str}{r:List D}(h:Dd k r):bd r=true:=h.cd.deed.flat
noncomputable def dJ:List Str:=[("leave" : Str),("leave" : Str),("leave" : Str),("leave" : Str),("leave" : Str),("paper" : Str),("paper" : Str),("like" : Str),("copy" : Str),("copy" : Str),("call" : Str),("call" : Str),("named" : Str),("death" : Str),("lost" : Str),("found" : Str),("chosen" : Str),("heir" : Str)]
theorem y6 {w:Str}(h:w∈dJ):w=("leave" : Str)∨w=("paper" : Str)∨w=("like" : Str)∨w=("copy" : Str)∨w=("call" : Str)∨w=("named" : Str)∨w=("death" : Str)∨w=("lost" : Str)∨w=("found" : Str)∨w=("chosen" : Str)∨w=("heir" : Str):=by
 simp only[dJ,List.mem_cons,List.not_mem_nil,or_false]at h;rcases h with rfl|rfl|rfl|rfl|rfl|rfl|rfl|rfl|rfl|rfl|rfl|rfl|rfl|rfl|rfl|rfl|rfl|rfl<;>simp
theorem AG (many c o day m:Int)(zs had:List Str)(hz:zs.length=7)(hh:had≠[]):
  ∃(w by_ p:Str)(ofn:Nat),w∈dJ/\∀(h:FS)(r:Option Res),h [some (.int many,false),some (.int c,false),some (.int o,false),some (.lst (zs.map .str),false),some (.int day,false),some (.lst (had.map .str),false),some (.int m,false),some (.lst (dJ.map .str),true),some (.str w,false),some (.str by_,false),some (.str p,false),some (.int ofn,false),none,none,none]=r ->
   (aA (aP 7 (f2 bv (f2 bv (yp (fA bp (ac (fC (.str "leave")) ah)) (fC (.int 5))) (yp (fA bp (ac (fC (.str "paper")) ah)) (fC (.int 2)))) (fA bp (ac (fC (.str "like")) (ac (fC (.str "copy")) (ac (fC (.str "copy")) (ac (fC (.str "call")) (ac (fC (.str "call")) ah)))))))) (aA (aP 7 (f2 bv (ae 7) (fA bp (ac (fC (.str "named")) (ac (fC (.str "death")) (ac (fC (.str "lost")) (ac (fC (.str "found")) (ac (fC (.str "chosen")) (ac (fC (.str "heir")) ah))))))))) (aA (aP 8 (f2 ixD (ae 7) (f2 bj (ae 1) (fC (.int 18))))) (aA (aP 9 (f2 ixD (ae 5) (f2 nY (f1 oe (fC (.int 1))) (f2 bj (f2 cm (ae 1) (fC (.int 18))) (fA BT (ac (fC (.int 3)) (ac (fA eI (ac (ae 5) ah)) ah))))))) (aA (gIf (tOf (f2 dEq (f2 bj (f2 cm (ae 1) (fC (.int 54))) (fC (.int 6))) (fC (.int 1)))) (aP 9 (f2 ixD (ae 3) (f2 bj (f2 cm (ae 1) (fC (.int 324))) (fC (.int 5))))) ba) (aA (aP 10 (f2 ixD (ae 3) (f2 bj (f2 cm (ae 1) (fC (.int 1620))) (fC (.int 5))))) (aA (aP 11 (fA BS (ac (fC (.int 0)) (ac (f2 nY (f2 nY (ae 0) (fC (.int 1))) (f2 bj (ae 2) (fC (.int 4)))) ah)))) (aA (gIf (tOf (f2 dEq (f2 bj (f2 cm (ae 2) (fC (.int 4))) (fC (.int 8))) (fC (.int 1)))) (aP 11 (f2 bj (f2 cm (ae 2) (fC (.int 32))) (fC (.int 60)))) ba) h)))))))) [some (.int many,false),some (.int c,false),some (.int o,false),some (.lst (zs.map .str),false),some (.int day,false),some (.lst (had.map .str),false),some (.int m,false),none,none,none,none,none,none,none,none]=r:=by
 have h18:=mod_lt (x:=c) (m:=18) (by decide);obtain⟨w,hw,ew⟩:=iG (zs:=dJ) (i:=c % 18) (by simp[dJ];omega) (by simp[dJ];omega);obtain⟨n,hn,hn1,hn3⟩:∃n:Int,(if(had.length:Int)<3 then (had.length:Int)else 3)=n/\0<n/\n<=had.length:=by
  have:0<had.length:=List.length_pos_iff.mpr hh;split
  ·exact⟨_,rfl,by omega,by omega⟩
  ·exact⟨_,rfl,by omega,by omega⟩
 have hmn:=mod_lt (x:=c / 18) (m:=n) hn1;obtain⟨b0,_,eb0⟩:=iG (zs:=had) (i:=-1 - c / 18 % n) (by omega) (by omega);have h5:=mod_lt (x:=c / 324) (m:=5) (by decide);obtain⟨b1,_,eb1⟩:=iG (zs:=zs) (i:=c / 324 % 5) (by omega) (by omega);have h5':=mod_lt (x:=c / 1620) (m:=5) (by decide);obtain⟨p,_,ep⟩:=iG (zs:=zs) (i:=c / 1620 % 5) (by omega) (by omega);have h60:=mod_lt (x:=o / 32) (m:=60) (by decide);obtain⟨f0,hf0⟩:∃f0:Nat,(if many - 1 - o % 4 > 0 then many - 1 - o % 4 else 0)=(f0:Int):=by
  split
  ·exact⟨(many - 1 - o % 4).toNat,by omega⟩
  ·exact⟨0,rfl⟩
 obtain⟨f1,hf1⟩:∃f1:Nat,o / 32 % 60=(f1:Int):=⟨(o / 32 % 60).toNat,by omega⟩;refine⟨w,if c / 54 % 6=1 then b1 else b0,p,if o / 4 % 8=1 then f1 else f0,hw,λh r hr=>?_⟩;refine bX (ds:=(dJ.take 12).map .str) ?_ (cR _) (bX (ds:=dJ.map .str) ?_ (cR _) (rfF (.str w) (eoF (.lst (dJ.map .str)) (.int (c % 18)) rfl (by simp) ew) rfl (rfF (.str b0) ?_ rfl (d3 (ρ':=[some (.int many,false),some (.int c,false),some (.int o,false),some (.lst (zs.map .str),false),some (.int day,false),some (.lst (had.map .str),false),some (.int m,false),some (.lst (dJ.map .str),true),some (.str w,false),some (.str (if c / 54 % 6=1 then b1 else b0),false),none,none,none,none,none]) ?_ (rfF (.str p) ?_ rfl (rfF (.int f0) ?_ rfl (d3 ?_ hr)))))))
 ·have e1:∀(s:Str)(k:Nat),k<=100->yp (fA bp (ac (fC (.str s)) ah)) (fC (.int k)) [some (.int many,false),some (.int c,false),some (.int o,false),some (.lst (zs.map .str),false),some (.int day,false),some (.lst (had.map .str),false),some (.int m,false),none,none,none,none,none,none,none,none]=some (.lst (List.replicate k (.str s)),true):=λs k hk=>by
   have h1:(k:Int)<=1000:=by omega
   have h2:k<=1000:=by omega
   have h3:∀n:Nat,(List.replicate n [D.str s]).flatten=List.replicate n (.str s):=λn=>by
    induction n with
    |zero=>rfl
    |succ n ih=>rw[List.replicate_succ,List.flatten_cons,ih,List.replicate_succ];rfl
   simp[sizeLine,h1,h2,h3]
  have z:∀n:Nat,n<=100->n<=sizeLine:=λn h=>cO (by omega);refine gw (x:=.lst ((dJ.take 7).map .str)) (y:=.lst (((dJ.drop 7).take 5).map .str)) (b1:=true) (b2:=true) (gw (x:=.lst ((dJ.take 5).map .str)) (y:=.lst (List.replicate 2 (.str "paper"))) (b1:=true) (b2:=true) (e1 _ 5 (by decide)) (e1 _ 2 (by decide)) ?_) (cdD (((dJ.drop 7).take 5).map .str) rfl (jr _ (by simp[dJ]))) ?_
  ·refine(if_pos (c:=7<=sizeLine) (e:=none) (z 7 (by decide))).trans ?_;rfl
  ·refine(if_pos (c:=12<=sizeLine) (e:=none) (z 12 (by decide))).trans ?_;rfl
 ·refine gw (x:=.lst ((dJ.take 12).map .str)) (y:=.lst ((dJ.drop 12).map .str)) (b1:=false) (b2:=true) rfl (cdD ((dJ.drop 12).map .str) rfl (jr _ (by decide))) ?_;refine(if_pos (c:=18<=sizeLine) (e:=none) (cO (by decide))).trans ?_;rfl
 ·refine eoF (.lst (had.map .str)) (.int (-1 - c / 18 % n)) rfl ?_ eb0;refine eoF (.int (-1)) (.int (c / 18 % n)) rfl ?_ rfl;refine eoF (.int (c / 18)) (.int n) (by simp) (by simp[hn]) ?_;show(if decide ((0:Int)<n)=true then _ else _)=_;rw[if_pos (decide_eq_true hn1)]
 ·by_cases hx:c / 54 % 6=1
  ·rw[if_pos hx];exact iR (tkF (by simp[hx])) (mE (d:=.str b1) (b:=false) (eoF (.lst (zs.map .str)) (.int (c / 324 % 5)) rfl (by simp) eb1) rfl)
  ·rw[if_neg hx];exact jo (tkF (by simp[hx])) rfl
 ·exact eoF (.lst (zs.map .str)) (.int (c / 1620 % 5)) rfl (by simp) ep
 ·show some (D.int (if many - 1 - o % 4 > 0 then many - 1 - o % 4 else 0),false)=_;rw[hf0]
 ·by_cases hx:o / 4 % 8=1
  ·simp only[if_pos hx];exact iR (tkF (by simp[hx])) (mE (d:=.int f1) (b:=false) (by simp[hf1]) rfl)
  ·simp only[if_neg hx];exact jo (tkF (by simp[hx])) rfl
theorem lr {ns:List Int}{i:Int}(h1:0<=i)(h2:i<ns.length):∃m∈ns,ixD (.lst (ns.map .int)) (.int i)=some (.int m,false):=by
 have h:i.toNat<ns.length:=by omega
 refine⟨ns.getD i.toNat 0,?_,wI h1 h⟩;rw[List.getD_eq_getElem?_getD,List.getElem?_eq_getElem h];exact List.getElem_mem h
theorem nK {a b:Int}(h : -1000<=a/\a<=1000):E6 (.int a) (.int b)=some (.int (a*b),false):=by
 have : -18446744073709551616<a/\a<18446744073709551616:=by omega
 simp[this]
theorem cu {ρ:DL.Env}{i:Nat}{a b:Str}(e:ρ[i]? = some (some (.str a,false)))(h:decide (a=b)=false:=by decide +kernel):tOf (f2 dEq (ae i) (fC (.str b))) ρ=some false:=bx (a:=a) (bb:=false) (by simp[e]) h
theorem vD {ρ:DL.Env}{i:Nat}{a b:Str}(e:ρ[i]? = some (some (.str a,false)))(h:decide (a=b)=true:=by decide +kernel):tOf (f2 dEq (ae i) (fC (.str b))) ρ=some true:=bx (a:=a) (bb:=false) (by simp[e]) h
theorem tV {ρ:DL.Env}{i:Nat}{a b c:Str}(x:Bool)(e:ρ[i]? = some (some (.str a,false)))(h:decide (a∈[b,c])=x:=by decide +kernel):tOf (f2 dIn (ae i) (fA aL (ac (fC (.str b)) (ac (fC (.str c)) ah)))) ρ=some x:=tkF (eoF (.str a) (.tup ([b,c].map .str)) (by simp[e]) (by simp[sizeLine]) (by rw[iE,h]))
theorem DE {l:List Int}{x:Int}(h:x∈l)(hl:l.all (λy=>decide (0<=y/\y.toNat∈MS))=true):∃m:Nat,x=m/\m∈MS:=by
 have:=of_decide_eq_true (List.all_eq_true.mp hl x h);exact⟨x.toNat,by omega,this.2⟩
theorem CF (many c o day m:Int)(zs had:List Str)(hz:zs.length=7)(hh:had≠[]):
  ∃k r,jM [.int many,.int c,.int o,.lst (zs.map .str),.int day,.lst (had.map .str),.int m]=some (.tup (.str k::r),false)/\Dd k r/\k≠("root" : Str):=by
 obtain⟨w,by_,p,ofn,hw,pre⟩:=AG many c o day m zs had hz hh;obtain⟨s,es⟩:=vC (o / 32) day m;have h8:=mod_lt (x:=c / 8100) (m:=8) (by decide);obtain⟨m1i,hm1i,em1⟩:=lr (ns:=[3,1,7,2,255,5,1,3]) (i:=c / 8100 % 8) h8.1 h8.2;obtain⟨m2i,hm2i,em2⟩:=lr (ns:=[1,1,3,2,4,5,128,7]) (i:=c / 8100 % 8) h8.1 h8.2;obtain⟨m1,rfl,hm1⟩:=DE hm1i (by decide);obtain⟨m2,rfl,hm2⟩:=DE hm2i (by decide);have h4:=mod_lt (x:=o / 2560) (m:=4) (by decide);obtain⟨dv,hdv,ed⟩:=lr (ns:=[5,5,5,10]) (i:=o / 2560 % 4) h4.1 h4.2;have hd0:0<dv:=by simp only[List.mem_cons,List.not_mem_nil,or_false]at hdv;omega
 have h2:=mod_lt (x:=o / 256) (m:=2) (by decide);obtain⟨wv,ewv,hwv,hwp⟩:∃wv,ixD (.lst [.non,.str p]) (.int (o / 256 % 2))=some (wv,false)/\aZ wv=true/\aj 5 wv=true:=by
  rcases (show o / 256 % 2=0∨o / 256 % 2=1 by omega)with h|h
  ·rw[h];exact⟨.non,by simp[at0],rfl,by simp⟩
  ·rw[h];exact⟨.str p,by simp[at1],rfl,by simp⟩
 have h2':=mod_lt (x:=o) (m:=2) (by decide);have h4':=mod_lt (x:=o) (m:=2) (by decide);obtain⟨off,_,eo⟩:=iG (zs:=zs) (i:=5+o % 2) (by omega) (by omega);obtain⟨off4,_,eo4⟩:=iG (zs:=zs) (i:=5+o % 2) (by omega) (by omega);have h3o:=mod_lt (x:=o / 32) (m:=3) (by decide);have stq:∀(ρ:DL.Env),ρ[2]? = some (some (.int o,false))->ρ[4]? = some (some (.int day,false))->ρ[6]? = some (some (.int m,false))->fA d6 (ac (f2 cm (ae 2) (fC (.int 32))) (ac (ae 4) (ac (ae 6) ah))) ρ=some (stD s,false):=λρ q1 q2 q3=>
  cdD [.int (o / 32),.int day,.int m] (by simp[q1,q2,q3]) es
 have offq:∀(ρ:DL.Env),ρ[2]? = some (some (.int o,false))->ρ[3]? = some (some (.lst (zs.map .str),false))->f2 ixD (ae 3) (f2 bv (fC (.int 5)) (f2 bj (ae 2) (fC (.int 2)))) ρ=some (.str off,false):=λρ q1 q2=>eoF (.lst (zs.map .str)) (.int (5+o % 2)) (by simp[q2]) (by simp[q1]) eo;have mtq:∀(ns:List Int)(M:Nat)(ρ:DL.Env)(fl:FE),fl ρ=some (.lst (ns.map .int),true)->ρ[1]? = some (some (.int c,false))->ixD (.lst (ns.map .int)) (.int (c / 8100 % 8))=some (.int M,false)->f2 ixD fl (f2 bj (f2 cm (ae 1) (fC (.int 8100))) (fC (.int 8))) ρ=some (.int M,false):=λns M ρ fl e1 q e=>gw (x:=.lst (ns.map .int)) (y:=.int (c / 8100 % 8)) (b1:=true) (b2:=false) e1 (by simp[q]) e;have whq:∀(ρ:DL.Env),ρ[2]? = some (some (.int o,false))->ρ[10]? = some (some (.str p,false))->f2 ixD (fA bp (ac (fC .non) (ac (ae 10) ah))) (f2 bj (f2 cm (ae 2) (fC (.int 256))) (fC (.int 2))) ρ=some (wv,false):=λρ q1 q2=>gw (x:=.lst [.non,.str p]) (y:=.int (o / 256 % 2)) (b1:=true) (b2:=false) (by simp[sizeLine,q2]) (by simp[q1]) ewv;rcases y6 hw with rfl|rfl|rfl|rfl|rfl|rfl|rfl|rfl|rfl|rfl|rfl
 ·refine⟨_,[.int day,.str by_,.str p,.int m1,stD s,.int (o / 256 % dv)],ay rfl (pre _ _ ?_),.leave _ _ _ _ hm1 _ _,by decide +kernel⟩;refine bw (vD rfl) (rfF (.int m1) (mtq [3,1,7,2,255,5,1,3] _ _ _ (by simp[sizeLine]) rfl em1) rfl (rfF (.int (o / 256 % dv)) ?_ rfl (a9 (cdD [.str "leave",.int day,.str by_,.str p,.int m1,stD s,.int (o / 256 % dv)] (acF rfl (acF rfl (acF rfl (acF rfl (acF rfl (aE (stq _ rfl rfl rfl) (acF rfl rfl))))))) (bC _ (by simp))))));refine eoF (.int (o / 256)) (.int dv) (by simp) (gw (x:=.lst (([5,5,5,10]:List Int).map .int)) (y:=.int (o / 2560 % 4)) (b1:=true) (b2:=false) (by simp[sizeLine]) (by simp) ed) ?_;show(if decide ((0:Int)<dv)=true then _ else _)=_;rw[if_pos (decide_eq_true hd0)]
 ·refine⟨_,[.int day,.str by_,.int m2,stD s,wv,.tup [.str p]],ay rfl (pre _ _ ?_),.paper _ (.inl rfl) _ _ _ hm2 _ _ (by simp[hwv]) (by simp[hwp]),by decide +kernel⟩;exact aB (cu rfl) (bw (cH (p:=true) (q:=false) (vD rfl) λ_=>cu rfl) (rfF (.int m2) (mtq [1,1,3,2,4,5,128,7] _ _ _ (by simp[sizeLine]) rfl em2) rfl (rfF (.tup [.str "paper",.int day,.str by_,.int m2,stD s,wv]) (cdD [.str "paper",.int day,.str by_,.int m2,stD s,wv] (acF rfl (acF rfl (acF rfl (acF rfl (aE (stq _ rfl rfl rfl) (aE (whq _ rfl rfl) rfl)))))) (bC _ (by simp))) (by simp[gD,hwv]) (aB (cu rfl) (a9 (eoF (.tup [.str "paper",.int day,.str by_,.int m2,stD s,wv]) (.tup [.tup [.str p]]) rfl (by simp[sizeLine]) (by simp[sizeLine])))))))
 ·refine⟨_,[.int day,.str by_,.int m2,stD s,wv,.int ofn,.tup [.tup [.int 0,.str p]]],ay rfl (pre _ _ ?_),.paper _ (.inr rfl) _ _ _ hm2 _ _ (by simp[hwv]) (by simp[hwp]),by decide +kernel⟩;exact aB (cu rfl) (bw (cH (p:=false) (q:=true) (cu rfl) λ_=>vD rfl) (rfF (.int m2) (mtq [1,1,3,2,4,5,128,7] _ _ _ (by simp[sizeLine]) rfl em2) rfl (rfF (.tup [.str "like",.int day,.str by_,.int m2,stD s,wv]) (cdD [.str "like",.int day,.str by_,.int m2,stD s,wv] (acF rfl (acF rfl (acF rfl (acF rfl (aE (stq _ rfl rfl rfl) (aE (whq _ rfl rfl) rfl)))))) (bC _ (by simp))) (by simp[gD,hwv]) (bw (vD rfl) (a9 (eoF (.tup [.str "like",.int day,.str by_,.int m2,stD s,wv]) (.tup [.int ofn,.tup [.tup [.int 0,.str p]]]) rfl (by simp[sizeLine]) (by simp[sizeLine])))))))
 ·exact⟨_,[.int day,.str by_,.int ofn],ay rfl (pre _ _ (aB (cu rfl) (aB (cH (p:=false) (q:=false) (cu rfl) λ_=>cu rfl) (bw (tV true rfl) (a9 (cdD [.str "copy",.int day,.str by_,.int ofn] rfl (bC _ (by simp)))))))),.copy _ (.inl rfl) _ _ _,by decide +kernel⟩
 ·exact⟨_,[.int day,.str by_,.int ofn],ay rfl (pre _ _ (aB (cu rfl) (aB (cH (p:=false) (q:=false) (cu rfl) λ_=>cu rfl) (bw (tV true rfl) (a9 (cdD [.str "call",.int day,.str by_,.int ofn] rfl (bC _ (by simp)))))))),.copy _ (.inr rfl) _ _ _,by decide +kernel⟩
 ·exact⟨_,[.int day,.str off,.str p],ay rfl (pre _ _ (aB (cu rfl) (aB (cH (p:=false) (q:=false) (cu rfl) λ_=>cu rfl) (aB (tV false rfl) (bw (vD rfl) (a9 (cdD [.str "named",.int day,.str off,.str p] (acF rfl (acF rfl (aE (offq _ rfl rfl) (acF rfl rfl)))) (bC _ (by simp))))))))),.named _ _ _,by decide +kernel⟩
 ·exact⟨_,[.int day,.str by_],ay rfl (pre _ _ (aB (cu rfl) (aB (cH (p:=false) (q:=false) (cu rfl) λ_=>cu rfl) (aB (tV false rfl) (aB (cu rfl) (aB (cu rfl) (aB (cu rfl) (a9 (cdD [.str "death",.int day,.str by_] rfl (bC _ (by simp))))))))))),.three _ (.inl rfl) _ _,by decide +kernel⟩
 ·exact⟨_,[.int day,.str by_],ay rfl (pre _ _ (aB (cu rfl) (aB (cH (p:=false) (q:=false) (cu rfl) λ_=>cu rfl) (aB (tV false rfl) (aB (cu rfl) (aB (cu rfl) (aB (cu rfl) (a9 (cdD [.str "lost",.int day,.str by_] rfl (bC _ (by simp))))))))))),.three _ (.inr (.inl rfl)) _ _,by decide +kernel⟩
 ·exact⟨_,[.int day,.str by_],ay rfl (pre _ _ (aB (cu rfl) (aB (cH (p:=false) (q:=false) (cu rfl) λ_=>cu rfl) (aB (tV false rfl) (aB (cu rfl) (aB (cu rfl) (aB (cu rfl) (a9 (cdD [.str "found",.int day,.str by_] rfl (bC _ (by simp))))))))))),.three _ (.inr (.inr rfl)) _ _,by decide +kernel⟩
 ·refine⟨_,[.int day,.str by_,.str off4,.str p,.int (day+o / 32 % 3*m)],ay rfl (pre _ _ (aB (cu rfl) (aB (cH (p:=false) (q:=false) (cu rfl) λ_=>cu rfl) (aB (tV false rfl) (aB (cu rfl) (bw (vD rfl) (a9 (cdD [.str "chosen",.int day,.str by_,.str off4,.str p,.int (day+o / 32 % 3*m)] ?_ (bC _ (by simp)))))))))),.chosen _ _ _ _ _,by decide +kernel⟩;exact acF rfl (acF rfl (acF rfl (aE (eoF (.lst (zs.map .str)) (.int (5+o % 2)) rfl (by simp) eo4) (acF rfl (acF (eoF (.int day) (.int (o / 32 % 3*m)) rfl (eoF (.int (o / 32 % 3)) (.int m) (by simp) rfl (nK (by omega))) rfl) rfl)))))
 ·exact⟨_,[.int day,.str by_,.str off,.str p],ay rfl (pre _ _ (aB (cu rfl) (aB (cH (p:=false) (q:=false) (cu rfl) λ_=>cu rfl) (aB (tV false rfl) (aB (cu rfl) (aB (cu rfl) (bw (vD rfl) (a9 (cdD [.str "heir",.int day,.str by_,.str off,.str p] (acF rfl (acF rfl (acF rfl (aE (offq _ rfl rfl) (acF rfl rfl))))) (bC _ (by simp))))))))))),.heir _ _ _ _,by decide +kernel⟩
def cI (r:D):Prop:=∃h k au,r=row h k au/\Dd k au
theorem cI.c {r:D}(g:cI r):qI r:=by obtain⟨h,k,au,e,d⟩:=g;exact⟨h,k,au,e,d.cd⟩
theorem cI.flat {r:D}(g:cI r):aZ r=true:=g.c.rp.flat
theorem GU (c1 m most:Int)(xs zs had:List Str)(ns:List Int)(rows:List D)(hz:zs.length=7)(i:Nat)(hi:i<2)(hr:rows.length<=100)(hh:had.length<=100)(v8 v9 v10 v11:Option (D×Bool)):
  ∃r1 r2 p w8 w9 w10 w11,(cI r1/\bf r1=true/\zs[5+i]? = some (a7 0 r1))/\(cI r2/\bf r2=false)/\kE [some (.lst (ns.map .int),false),some (.lst (zs.map .str),false),some (.int m,false),some (.int most,false),some (.int c1,false),some (.lst rows,true),some (.lst (had.map .str),true),some (.int i,false),v8,v9,v10,v11,none,none,none]
   = some (.nx [some (.lst (ns.map .int),false),some (.lst (zs.map .str),false),some (.int m,false),some (.int most,false),some (.int c1,false),some (.lst (rows++[r1]++[r2]),true),some (.lst ((had++[p]).map .str),true),some (.int i,false),w8,w9,w10,w11,none,none,none]):=by
 have h3:=mod_lt (x:=c1 / (64+9*i)) (m:=3) (by decide);obtain⟨rl,_,erl⟩:=iG (zs:=[("open" : Str),("first" : Str),("last" : Str)]) (i:=c1 / (64+9*i) % 3) (by simp;omega) (by simp;omega);have h4:=mod_lt (x:=c1 / (2+8*i)) (m:=4) (by decide);obtain⟨mti,hmti,emti⟩:=lr (ns:=[7,255,3,15]) (i:=c1 / (2+8*i) % 4) h4.1 h4.2;obtain⟨mt,emt',hmt⟩:∃mt:Nat,mti=mt/\mt∈MR:=by
  simp only[List.mem_cons,List.not_mem_nil,or_false]at hmti;rcases hmti with rfl|rfl|rfl|rfl<;>first|exact⟨7,rfl,by decide⟩|exact⟨255,rfl,by decide⟩|exact⟨3,rfl,by decide⟩|exact⟨15,rfl,by decide⟩
 have emt:=emti;rw[emt']at emt;have h3':=mod_lt (x:=c1 / (31+i)) (m:=3) (by decide);obtain⟨dv,hdv,ed⟩:=lr (ns:=[5,5,10]) (i:=c1 / (31+i) % 3) h3'.1 h3'.2;have hd0:0<dv:=by simp only[List.mem_cons,List.not_mem_nil,or_false]at hdv;omega
 obtain⟨of,hof,eof⟩:∃of,zs[5+i]? = some of/\ixD (.lst (zs.map .str)) (.int (5+i))=some (.str of,false):=by
  have hl:5+i<zs.length:=by omega
  refine⟨zs[5+i],List.getElem?_eq_getElem hl,?_⟩;have hl2:((5:Int)+i).toNat<(zs.map D.str).length:=by rw[List.length_map];omega
  rw[DL.mF (by omega) hl2,show((5:Int)+i).toNat=5+i by omega,List.getD_eq_getElem?_getD,List.getElem?_map,List.getElem?_eq_getElem hl];rfl
 obtain⟨pn,_,epn⟩:=iG (zs:=zs) (i:=i) (by omega) (by omega);have b64:(0:Int)<64+9*i/\(64:Int)+9*i<1073741824:=by omega
 have b2:(0:Int)<2+8*i/\(2:Int)+8*i<1073741824:=by omega
 have b512:(0:Int)<512+i/\(512:Int)+i<1073741824:=by omega
 have b1024:(0:Int)<1024+5*i/\(1024:Int)+5*i<1073741824:=by omega
 have b31:(0:Int)<31+i/\(31:Int)+i<1073741824:=by omega
 let t:Int:=if c1 / (512+i) % 8=1 then 1 else 0;have ht:0<=t/\t<=1:=by show 0<=(if _ then (1:Int)else 0)/\(if _ then (1:Int)else 0)<=1;split<;>omega
 refine⟨row (t*4*m) ("root" : Str) [.str of,.int mt,.int (c1 / (1024+5*i) % dv),.str rl],row 0 ("named" : Str) [.int 0,.str of,.str pn],pn,some (.str rl,false),some (.int mt,false),some (.int (t*4*m),false),some (.int (c1 / (1024+5*i) % dv),false),⟨⟨_,_,_,rfl,.root _ _ _ hmt _⟩,decide_eq_true rfl,hof⟩,⟨⟨_,_,_,rfl,.named _ _ _⟩,show decide (("named" : Str)=("root" : Str))=false by decide +kernel⟩,?_⟩;refine rfF (.str rl) ?_ rfl (rfF (.int mt) ?_ rfl (rfF (.int (t*4*m)) ?_ rfl (rfF (.int (c1 / (1024+5*i) % dv)) ?_ rfl (D8 (ds:=rows) (d:=row (t*4*m) ("root" : Str) [.str of,.int mt,.int (c1 / (1024+5*i) % dv),.str rl]) (b:=false) rfl ?_ rfl (b8 (by omega)) (D8 (ds:=rows++[row (t*4*m) ("root" : Str) [.str of,.int mt,.int (c1 / (1024+5*i) % dv),.str rl]]) (d:=row 0 ("named" : Str) [.int 0,.str of,.str pn]) (b:=false) rfl ?_ rfl (b8 (by simp;omega)) ((gd (ds:=had.map .str) (d:=.str pn) (b:=false) rfl ?_ rfl (b8 (by simp;omega))).trans ?_))))))
 ·exact gw (x:=.lst (([("open" : Str),("first" : Str),("last" : Str)]:List Str).map .str)) (y:=.int (c1 / (64+9*i) % 3)) (b1:=true) (b2:=false) (by simp[sizeLine]) (by simp[b64]) erl
 ·exact gw (x:=.lst (([7,255,3,15]:List Int).map .int)) (y:=.int (c1 / (2+8*i) % 4)) (b1:=true) (b2:=false) (by simp[sizeLine]) (by simp[b2]) emt
 ·refine eoF (.int (t*4)) (.int m) (eoF (.int t) (.int 4) ?_ rfl (by simp)) rfl (nK (by omega));refine cdD [.bl (decide (c1 / (512+i) % 8=1))] (acF (eoF (.int (c1 / (512+i) % 8)) (.int 1) (by simp[b512]) rfl (by simp)) rfl) ?_;simp[t]
 ·refine eoF (.int (c1 / (1024+5*i))) (.int dv) (by simp[b1024]) (gw (x:=.lst (([5,5,10]:List Int).map .int)) (y:=.int (c1 / (31+i) % 3)) (b1:=true) (b2:=false) (by simp[sizeLine]) (by simp[b31]) ed) ?_;show(if decide ((0:Int)<dv)=true then _ else _)=_;rw[if_pos (decide_eq_true hd0)]
 ·refine cdD [.int (t*4*m),.tup [.str "root",.str of,.int mt,.int (c1 / (1024+5*i) % dv),.str rl]] (acF rfl (acF (cdD [.str "root",.str of,.int mt,.int (c1 / (1024+5*i) % dv),.str rl] (acF rfl (aE (eoF (.lst (zs.map .str)) (.int (5+i)) rfl (by simp) eof) (acF rfl (acF rfl (acF rfl rfl))))) (bC _ (by simp))) rfl)) (bC _ (by simp))
 ·refine cdD [.int 0,.tup [.str "named",.int 0,.str of,.str pn]] (acF rfl (acF (cdD [.str "named",.int 0,.str of,.str pn] (acF rfl (acF rfl (aE (eoF (.lst (zs.map .str)) (.int (5+i)) rfl (by simp) eof) (aE (eoF (.lst (zs.map .str)) (.int i) rfl rfl epn) rfl)))) (bC _ (by simp))) rfl)) (bC _ (by simp))
 ·exact eoF (.lst (zs.map .str)) (.int i) rfl rfl epn
 ·simp
noncomputable def jg (rows:List D):List Str:=(rows.filter bf).map (a7 0)
theorem kM (rows:List D)(r:D):jg (rows++[r])=jg rows++if bf r=true then [a7 0 r]else []:=by
 unfold jg;rw[List.filter_append,List.map_append,List.filter_cons];split
 ·rename_i h;rfl
 ·rename_i h;rfl
theorem GV (c1 m most:Int)(zs had:List Str)(ns:List Int)(rows:List D)(hz:zs.length=7)(i:Nat)(hi:i<100)(hr:rows.length<=200)(hh:had≠[])(hh2:had.length<=200)(v8 v9 v10 v11 v12 v13 v14:Option (D×Bool)):
  ∃r1 had' w12 w13 w14,(cI r1/\bf r1=false)/\had'≠[]/\had'.length<=had.length+1/\kF [some (.lst (ns.map .int),false),some (.lst (zs.map .str),false),some (.int m,false),some (.int most,false),some (.int c1,false),some (.lst rows,true),some (.lst (had.map .str),true),some (.int i,false),v8,v9,v10,v11,v12,v13,v14]
   = some (.nx [some (.lst (ns.map .int),false),some (.lst (zs.map .str),false),some (.int m,false),some (.int most,false),some (.int c1,false),some (.lst (rows++[r1]),true),some (.lst (had'.map .str),true),some (.int i,false),v8,v9,v10,v11,w12,w13,w14]):=by
 obtain⟨ca,eca,ca0⟩:=fW ns (5+i);obtain⟨cb,ecb,cb0⟩:=fW ns (30+i);obtain⟨cc,ecc,cc0⟩:=fW ns (60+i);have h3:=mod_lt (x:=ca / 7) (m:=3) (by decide);obtain⟨day,hday⟩:∃day:Int,((i:Int) / 2+ca / 7 % 3)*m=day:=⟨_,rfl⟩;obtain⟨k,r,ed,hD,hk1⟩:=CF rows.length cb cc day m zs had hz hh;have hk3:=λh=>hD.had3 h;have hk4:=λh=>hD.had4 h;have h6:=mod_lt (x:=ca / 21) (m:=6) (by decide);obtain⟨tv,htv,etv⟩:=lr (ns:=[0,0,0,0,1,4]) (i:=ca / 21 % 6) h6.1 h6.2;have htb : -1000<=tv/\tv<=1000:=by simp only[List.mem_cons,List.not_mem_nil,or_false]at htv;omega
 have hdf:aZ (.tup (.str k::r))=true:=by simp[hD.flat]
 have e4:∀(ρ:DL.Env),ρ[14]? = some (some (.tup (.str k::r),false))->ixV 14 0 ρ=some (.str k,false):=λρ h=>eoF (.tup (.str k::r)) (.int 0) (by simp[h]) rfl (by simp[at0]);have e1:∀(b:Bool),decide (k=("leave" : Str)∨k=("named" : Str))=b->tOf (f2 dIn (ixV 14 0) (fA aL (ac (fC (.str "leave")) (ac (fC (.str "named")) ah)))) [some (.lst (ns.map .int),false),some (.lst (zs.map .str),false),some (.int m,false),some (.int most,false),some (.int c1,false),some (.lst rows,true),some (.lst (had.map .str),true),some (.int i,false),v8,v9,v10,v11,some (.int ca,false),some (.int day,false),some (.tup (.str k::r),false)]=some b:=λb hb=>tkF (eoF (.str k) (.tup (([("leave" : Str),("named" : Str)]:List Str).map .str)) (e4 _ rfl) (by simp[sizeLine]) (by rw[iE,←hb];simp));have at_:∀(j:Nat)(p:Str),r[j]? = some (.str p)->∀ρ:DL.Env,ρ[14]? = some (some (.tup (.str k::r),false))->f2 ixD (ae 14) (fC (.int ((j+1:Nat):Int))) ρ=some (.str p,false):=λj p hp ρ hρ=>by
  have hl:j<r.length:=(List.getElem?_eq_some_iff.mp hp).1;refine eoF (.tup (.str k::r)) (.int ((j+1:Nat):Int)) (by simp[hρ]) rfl ?_;rw[DL.pN (by omega) (by simp;omega),show((j+1:Nat):Int).toNat=j+1 by omega,List.getD_eq_getElem?_getD];show some ((r[j]?).getD .non,false)=_;rw[hp];rfl
 obtain⟨had',hne',hlen',hgo⟩:∃had':List Str,had'≠[]/\had'.length<=had.length+1/\∀(h:FS)(rr:Option Res),h [some (.lst (ns.map .int),false),some (.lst (zs.map .str),false),some (.int m,false),some (.int most,false),some (.int c1,false),some (.lst rows,true),some (.lst (had'.map .str),true),some (.int i,false),v8,v9,v10,v11,some (.int ca,false),some (.int day,false),some (.tup (.str k::r),false)]=rr->aA (gIf (tOf (f2 dIn (ixV 14 0) (fA aL (ac (fC (.str "leave")) (ac (fC (.str "named")) ah))))) (gF 6 (ixV 14 3)) ba) (aA (gIf (tOf (f2 dEq (ixV 14 0) (fC (.str "chosen")))) (gF 6 (ixV 14 4)) ba) h) [some (.lst (ns.map .int),false),some (.lst (zs.map .str),false),some (.int m,false),some (.int most,false),some (.int c1,false),some (.lst rows,true),some (.lst (had.map .str),true),some (.int i,false),v8,v9,v10,v11,some (.int ca,false),some (.int day,false),some (.tup (.str k::r),false)]=rr:=by
  by_cases hx:k=("leave" : Str)∨k=("named" : Str)
  ·obtain⟨p,hp⟩:=hk3 hx;have hnc:k≠("chosen" : Str):=by rcases hx with rfl|rfl<;>decide +kernel
   refine⟨had++[p],by simp,by simp,λh rr hr=>d3 (iR (e1 true (decide_eq_true hx)) (gd (ds:=had.map .str) (d:=.str p) (b:=false) rfl (at_ 2 p hp _ rfl) rfl (b8 (by simp;omega)))) (aB (bx (a:=k) (bb:=false) (e4 _ rfl) (decide_eq_false hnc)) ?_)⟩;rw[List.map_append]at hr;exact hr
  ·by_cases hy:k=("chosen" : Str)
   ·obtain⟨p,hp⟩:=hk4 hy;refine⟨had++[p],by simp,by simp,λh rr hr=>aB (e1 false (decide_eq_false hx)) (d3 (iR (bx (a:=k) (bb:=false) (e4 _ rfl) (decide_eq_true hy)) (gd (ds:=had.map .str) (d:=.str p) (b:=false) rfl (at_ 3 p hp _ rfl) rfl (b8 (by simp;omega)))) ?_)⟩;rw[List.map_append]at hr;exact hr
   ·exact⟨had,hh,by omega,λh rr hr=>aB (e1 false (decide_eq_false hx)) (aB (bx (a:=k) (bb:=false) (e4 _ rfl) (decide_eq_false hy)) hr)⟩
 refine⟨row (day+tv*m) k r,had',some (.int ca,false),some (.int day,false),some (.tup (.str k::r),false),⟨⟨_,_,_,rfl,hD⟩,decide_eq_false hk1⟩,hne',hlen',?_⟩;refine rfF (.int ca) (cdD [.lst (ns.map .int),.int ((5+i:Nat):Int)] (by simp) eca) rfl (rfF (.int day) ?_ rfl (rfF (.tup (.str k::r)) ?_ hdf (hgo _ _ ((gd (ds:=rows) (d:=row (day+tv*m) k r) (b:=false) rfl ?_ (by simp[row,hD.flat]) (b8 (by omega))).trans ?_))))
 ·refine eoF (.int ((i:Int) / 2+ca / 7 % 3)) (.int m) (by simp) rfl ?_;rw[←hday];exact nK (by omega)
 ·refine cdD [.int rows.length,.int cb,.int cc,.lst (zs.map .str),.int day,.lst (had.map .str),.int m] (acF (by simp) (aE (cdD [.lst (ns.map .int),.int ((30+i:Nat):Int)] (by simp) ecb) (aE (cdD [.lst (ns.map .int),.int ((60+i:Nat):Int)] (by simp) ecc) (acF rfl (acF rfl (acF rfl (acF rfl rfl))))))) ed
 ·refine cdD [.int (day+tv*m),.tup (.str k::r)] (acF (eoF (.int day) (.int (tv*m)) rfl (eoF (.int tv) (.int m) (gw (x:=.lst (([0,0,0,0,1,4]:List Int).map .int)) (y:=.int (ca / 21 % 6)) (b1:=true) (b2:=false) (by simp[sizeLine]) (by simp) etv) rfl (nK htb)) rfl) (acF rfl rfl)) (bC _ (by simp))
 ·simp
theorem CG (ns:List Int)(zs:List Str)(hz:zs.length=7)(m:Int):∃rows:List D,mV [.lst (ns.map .int),.lst (zs.map .str),.int m,.int 14]=some (.tup rows,false)/\(∀r∈rows,cI r)/\rows.length<=20/\jg rows=(zs.drop 5).take (jg rows).length:=by
 obtain⟨c1,e1,h1⟩:=fW ns 1;obtain⟨c2,e2,h2⟩:=fW ns 2;have hm1:=mod_lt (x:=c1) (m:=2) (by decide);have hm2:=mod_lt (x:=c2) (m:=14) (by decide);obtain⟨n1,hn1⟩:∃n1:Nat,1+c1 % 2=n1:=⟨(1+c1 % 2).toNat,by omega⟩;obtain⟨n2,hn2⟩:∃n2:Nat,3+c2 % 14=n2:=⟨(3+c2 % 14).toNat,by omega⟩;obtain⟨ρ1,f1,rows1,had1,u7,u8,u9,u10,u11,rfl,g1,l1,k1,o1⟩:=i6 (tg:=tgN 7) (g:=kE) n1 (λi ρ=>∃(rows:List D)(had:List Str)(v7 v8 v9 v10 v11:Option (D×Bool)),ρ=[some (.lst (ns.map .int),false),some (.lst (zs.map .str),false),some (.int m,false),some (.int 14,false),some (.int c1,false),some (.lst rows,true),some (.lst (had.map .str),true),v7,v8,v9,v10,v11,none,none,none]/\(∀r∈rows,cI r)/\rows.length=2*i/\had.length=i/\jg rows=(zs.drop 5).take i)
  [some (.lst (ns.map .int),false),some (.lst (zs.map .str),false),some (.int m,false),some (.int 14,false),some (.int c1,false),some (.lst [],true),some (.lst [],true),none,none,none,none,none,none,none,none] ⟨[],[],none,none,none,none,none,rfl,by simp,rfl,rfl,rfl⟩ (by
   rintro i ρ hi ⟨rows,had,v7,v8,v9,v10,v11,rfl,g,l,k,o⟩;obtain⟨r1,r2,p,w8,w9,w10,w11,q1,q2,e⟩:=GU c1 m 14 [] zs had ns rows hz i (by omega) (by omega) (by omega) v8 v9 v10 v11;refine⟨_,_,rfl,.inl e,rows++[r1]++[r2],had++[p],_,w8,w9,w10,w11,rfl,?_,by simp;omega,by simp[k],by rw[kM,kM,if_pos q1.2.1,if_neg (by rw[q2.2];decide),List.append_nil,o,List.take_add_one,List.getElem?_drop,q1.2.2];rfl⟩;intro r hr;simp only[List.mem_append,List.mem_singleton]at hr;rcases hr with (hr|rfl)|rfl
   ·exact g r hr
   ·exact q1.1
   ·exact q2.1)
 obtain⟨ρ2,f2',rows2,had2,w7,w12,w13,w14,rfl,g2,l2,k2,k3,o2⟩:=i6 (tg:=tgN 7) (g:=kF) n2 (λi ρ=>∃(rows:List D)(had:List Str)(v7 v12 v13 v14:Option (D×Bool)),ρ=[some (.lst (ns.map .int),false),some (.lst (zs.map .str),false),some (.int m,false),some (.int 14,false),some (.int c1,false),some (.lst rows,true),some (.lst (had.map .str),true),v7,u8,u9,u10,u11,v12,v13,v14]/\(∀r∈rows,cI r)/\rows.length=2*n1+i/\had≠[]/\had.length<=n1+i/\jg rows=(zs.drop 5).take n1)
  [some (.lst (ns.map .int),false),some (.lst (zs.map .str),false),some (.int m,false),some (.int 14,false),some (.int c1,false),some (.lst rows1,true),some (.lst (had1.map .str),true),u7,u8,u9,u10,u11,none,none,none] ⟨rows1,had1,u7,none,none,none,rfl,g1,by omega,λe=>by rw[e]at k1;simp at k1;omega,by omega,o1⟩ (by
   rintro i ρ hi ⟨rows,had,v7,v12,v13,v14,rfl,g,l,k,k',o⟩;obtain⟨r1,had',w12,w13,w14,q1,q2,q3,e⟩:=GV c1 m 14 zs had ns rows hz i (by omega) (by omega) k (by omega) u8 u9 u10 u11 v12 v13 v14;refine⟨_,_,rfl,.inl e,rows++[r1],had',_,w12,w13,w14,rfl,?_,by simp;omega,q2,by omega,by rw[kM,if_neg (by rw[q1.2];decide),List.append_nil,o]⟩;intro r hr;simp only[List.mem_append,List.mem_singleton]at hr;rcases hr with hr|rfl
   ·exact g r hr
   ·exact q1.1)
 refine⟨rows2,ay rfl (rfF (.int c1) (cdD [.lst (ns.map .int),.int ((1:Nat):Int)] (by simp) e1) rfl (bX (ds:=[]) (by simp[sizeLine]) rfl (bX (ds:=[]) (by simp[sizeLine]) rfl (d3 (gu (fm (j:=n1) (b:=false) (by simp;omega) (by omega)) f1) (d3 (gu (fm (j:=n2) (b:=false) ?_ (by omega)) f2') (a9 (by simp))))))),g2,by omega,?_⟩
 ·refine eoF (.int 3) (.int (c2 % 14)) rfl (eoF (.int c2) (.int 14) (cdD [.lst (ns.map .int),.int ((2:Nat):Int)] (by simp) e2) rfl (by simp)) ?_;rw[←hn2];rfl
 ·have hl:(jg rows2).length<=n1:=by rw[o2,List.length_take];omega
  rw[o2,List.length_take];congr 1;rw[List.length_drop];omega
theorem y7 (a b:Nat):g8 [.int a,.int b]=some (.bl (decide (a &&& b=b)),false):=by
 have:Builtin.bitAnd (a:Int) (b:Int)=((a &&& b:Nat):Int):=by simp[Builtin.bitAnd]
 simp[g8,mS,this];omega
theorem vE:∀a∈MS,∀b∈MS,isR (fF [.int (a:Int),.int (b:Int)]) (.bl (decide (a &&& b=b))) false=true:=by decide +kernel
theorem y8 {a b:Nat}(ha:a∈MS)(hb:b∈MS):fF [.int a,.int b]=some (.bl (decide (a &&& b=b)),false):=aW (vE a ha b hb)
noncomputable def mAt (r:D):Nat:=(if kindOf r=("root" : Str)then jf 1 r else if kindOf r=("leave" : Str)then jf 3 r else jf 2 r).toNat
theorem cW (a:Int)(k:Str)(au:List D):kindOf (row a k au)=k:=rfl
noncomputable def cD:List Str:=[("leave" : Str),("paper" : Str),("like" : Str)]
theorem qO {r:D}(g:cI r)(h:bf r=true):∃a o rl,∃m:Nat,∃f:Int,r=row a ("root" : Str) [.str o,.int m,.int f,.str rl]/\m∈MR/\mAt r=m:=by
 obtain⟨a,k,au,rfl,d⟩:=g;have hk:k=("root" : Str):=of_decide_eq_true h;clear h;cases d with
 |root o rl m hm f=>exact⟨a,o,rl,m,f,rfl,hm,by unfold mAt;rw[cW,if_pos rfl];rfl⟩
 |named=>exact absurd hk (by decide +kernel)
 |chosen=>exact absurd hk (by decide +kernel)
 |heir=>exact absurd hk (by decide +kernel)
 |three k hk'=>rcases hk' with rfl|rfl|rfl<;>exact absurd hk (by decide +kernel)
 |leave=>exact absurd hk (by decide +kernel)
 |paper k hk'=>rcases hk' with rfl|rfl<;>exact absurd hk (by decide +kernel)
 |copy k hk'=>rcases hk' with rfl|rfl<;>exact absurd hk (by decide +kernel)
theorem CH {r:D}(g:cI r)(h:bf r=true):ai [r,.str "matters"]=some (.int (mAt r),false):=by
 obtain⟨a,o,rl,m,f,rfl,_,e⟩:=qO g h;rw[e];exact bc (i:=1) (aW (by decide +kernel)) rfl
theorem AH {a:Int}{k:Str}{au:List D}(d:Dd k au)(h:k∈cD):mAt (row a k au)∈MS/\(∃i:Nat,lz eD (.str k) (.str "matters")=some (.int i,false)/\au[i]? = some (.int (mAt (row a k au))))/\(D.str k::au).getD (3+if k=("leave" : Str)then 1 else 0) .non=.int (mAt (row a k au))/\(3+if k=("leave" : Str)then 1 else 0)<(D.str k::au).length:=by
 cases d with
 |leave d b p m hm x f=>
  have e:mAt (row a ("leave" : Str) [.int d,.str b,.str p,.int m,stD x,.int f])=m:=by unfold mAt;rw[cW,if_neg (by decide +kernel),if_pos rfl];rfl
  rw[e];refine⟨hm,⟨3,aW (by decide +kernel),rfl⟩,?_,?_⟩
  ·rw[if_pos rfl];rfl
  ·rw[if_pos rfl];simp
 |paper k hk d b m hm x r hf hp=>
  have hl:k≠("leave" : Str):=by rcases hk with rfl|rfl<;>decide +kernel
  have hr:k≠("root" : Str):=by rcases hk with rfl|rfl<;>decide +kernel
  have e:mAt (row a k (.int d::.str b::.int m::stD x::r))=m:=by unfold mAt;rw[cW,if_neg hr,if_neg hl];rfl
  rw[e];refine⟨hm,⟨2,by rcases hk with rfl|rfl<;>exact aW (by decide +kernel),rfl⟩,?_,?_⟩
  ·rw[if_neg hl];rfl
  ·rw[if_neg hl];simp
 |root=>exact absurd h (by decide +kernel)
 |named=>exact absurd h (by decide +kernel)
 |chosen=>exact absurd h (by decide +kernel)
 |heir=>exact absurd h (by decide +kernel)
 |three k hk'=>rcases hk' with rfl|rfl|rfl<;>exact absurd h (by decide +kernel)
 |copy k hk'=>rcases hk' with rfl|rfl<;>exact absurd h (by decide +kernel)
theorem xl {r:D}(g:cI r)(h:kindOf r∈cD):ai [r,.str "matters"]=some (.int (mAt r),false):=by
 obtain⟨a,k,au,rfl,d⟩:=g;obtain⟨_,⟨i,h1,h2⟩,_⟩:=AH (a:=a) d h;exact bc h1 h2
noncomputable def qP:List Str:=[("leave" : Str),("paper" : Str),("like" : Str),("copy" : Str)]
theorem gW {k:Str}(h:k∈qP∨k=("call" : Str)):cQ k=true:=by
 rw[np];refine decide_eq_true ?_;rcases h with h|rfl
 ·have:∀k∈qP,k∈tG:=by decide +kernel
  exact this k h
 ·decide +kernel
theorem qQ {k:Str}{au:List D}(d:Dd k au)(h:cQ k=true):∃(dd:Int)(b:Str)(r:List D),au=.int dd::.str b::r:=d.cd.deed.slg h
theorem DF {r:D}(g:cI r)(h:cQ (kindOf r)=true):ai [r,.str "by"]=some (.str (df r),false):=by
 obtain⟨a,k,au,rfl,d⟩:=g;obtain⟨dd,b,q,rfl⟩:=qQ d h;exact bc (i:=1) (A1 h) rfl
noncomputable def cx (K:KL):List D:=(K.filter λx=>bf x.1).map (·.1)
theorem tW:∀(l:List (Key×D))(a:List Key×List D),(a.1++l.map (·.1)).Nodup->l.foldl m4 a=(a.1++l.map (·.1),a.2++l.map (·.2))
 |[],a,_=>by simp
 |p::l,a,h=>by
  have hn:p.1∉a.1:=by
   rw[List.map_cons,List.nodup_append]at h;exact λz=>h.2.2 _ z _ mX rfl
  have e:m4 a p=(a.1++[p.1],a.2++[p.2]):=by unfold m4 dO dP;rw[if_neg hn,if_neg hn]
  rw[List.foldl_cons,e,tW l _ (by rw[List.append_assoc];exact h)];simp
section
variable {K:KL}(hn:((cx K).map (a7 0)).Nodup)
include hn
theorem vF:b7 (jT K)=((cx K).map λv=>(.inr (a7 0 v):Key),cx K):=by
 have e:jT K=(cx K).map λv=>((.inr (a7 0 v):Key),v):=by unfold jT cx;rw[List.map_map];rfl
 have hn2:((cx K).map λv=>(.inr (a7 0 v):Key)).Nodup:=by
  refine List.pairwise_map.mpr ((List.pairwise_map.mp hn).imp λh z=>h (Sum.inr.inj z))
 rw[e];unfold b7;rw[tW _ _ (by rw[List.map_map];exact hn2),List.map_map,List.map_map];simp only[List.nil_append];congr 1;exact List.map_id _
end
noncomputable def CI (j:Nat):D->Int×Option Int
 |.tup [_,.tup (_::au)]=>match au[j]? with
  |some (.tup [.int s,.int u])=>(s,some u)
  |some (.tup [.int s,.non])=>(s,none)
  |_=>(0,none)
 |_=>(0,none)
theorem qR {h:Int}{k:Str}{au:List D}{j:Nat}{x:Int×Option Int}(e:au[j]? = some (stD x)):CI j (row h k au)=x:=by
 unfold CI row;simp only[e];obtain⟨s,u⟩:=x;cases u<;>rfl
noncomputable def cA (r:D):Int×Option Int:=if kindOf r=("leave" : Str)then CI 4 r else CI 3 r
noncomputable def dL (r:D):Int:=if kindOf r=("root" : Str)then jf 2 r else jf 5 r
noncomputable def iS (r:D):Bool:=decide (kindOf r=("leave" : Str))
theorem eQ {r:D}(g:cI r)(h:kindOf r=("leave" : Str)):∃a d b p,∃m:Nat,∃x f,r=row a ("leave" : Str) [.int d,.str b,.str p,.int m,stD x,.int f]/\m∈MS/\mAt r=m/\cA r=x/\dL r=f:=by
 obtain⟨a,k,au,rfl,d⟩:=g;have hk:k=("leave" : Str):=h;clear h;cases d with
 |leave d b p m hm x f=>exact⟨a,d,b,p,m,x,f,rfl,hm,by unfold mAt;rw[cW,if_neg (by decide +kernel),if_pos rfl];rfl,by unfold cA;rw[cW,if_pos rfl];exact qR rfl,by unfold dL;rw[cW,if_neg (by decide +kernel)];rfl⟩
 |root=>exact absurd hk (by decide +kernel)
 |named=>exact absurd hk (by decide +kernel)
 |chosen=>exact absurd hk (by decide +kernel)
 |heir=>exact absurd hk (by decide +kernel)
 |three k hk'=>rcases hk' with rfl|rfl|rfl<;>exact absurd hk (by decide +kernel)
 |paper k hk'=>rcases hk' with rfl|rfl<;>exact absurd hk (by decide +kernel)
 |copy k hk'=>rcases hk' with rfl|rfl<;>exact absurd hk (by decide +kernel)
theorem xm {a:Int}{k:Str}{au:List D}(d:Dd k au)(h:k∈cD):(∃i:Nat,lz eD (.str k) (.str "stretch")=some (.int i,false)/\au[i]? = some (stD (cA (row a k au))))/\(D.str k::au).getD (4+if k=("leave" : Str)then 1 else 0) .non=stD (cA (row a k au))/\(4+if k=("leave" : Str)then 1 else 0)<(D.str k::au).length:=by
 cases d with
 |leave d b p m hm x f=>
  have e:cA (row a ("leave" : Str) [.int d,.str b,.str p,.int m,stD x,.int f])=x:=by unfold cA;rw[cW,if_pos rfl];exact qR rfl
  rw[e,if_pos rfl];exact⟨⟨4,aW (by decide +kernel),rfl⟩,rfl,by simp⟩
 |paper k hk d b m hm x r hf hp=>
  have hl:k≠("leave" : Str):=by rcases hk with rfl|rfl<;>decide +kernel
  have e:cA (row a k (.int d::.str b::.int m::stD x::r))=x:=by unfold cA;rw[cW,if_neg hl];exact qR rfl
  rw[e,if_neg hl];exact⟨⟨3,by rcases hk with rfl|rfl<;>exact aW (by decide +kernel),rfl⟩,rfl,by simp⟩
 |root=>exact absurd h (by decide +kernel)
 |named=>exact absurd h (by decide +kernel)
 |chosen=>exact absurd h (by decide +kernel)
 |heir=>exact absurd h (by decide +kernel)
 |three k hk'=>rcases hk' with rfl|rfl|rfl<;>exact absurd h (by decide +kernel)
 |copy k hk'=>rcases hk' with rfl|rfl<;>exact absurd h (by decide +kernel)
theorem xn {r:D}(g:cI r)(h:kindOf r∈cD):ai [r,.str "stretch"]=some (stD (cA r),false):=by
 obtain⟨a,k,au,rfl,d⟩:=g;obtain⟨⟨i,h1,h2⟩,_⟩:=xm (a:=a) d h;exact bc h1 h2
theorem qS {r:D}(h:kindOf r=("leave" : Str)):kindOf r∈cD:=by rw[h];decide +kernel
theorem DG {r:D}(g:cI r)(h:bf r=true∨kindOf r=("leave" : Str)):ai [r,.str "further"]=some (.int (dL r),false):=by
 rcases h with h|h
 ·obtain⟨a,o,rl,m,f,rfl,_,_⟩:=qO g h;rw[show dL (row a ("root" : Str) [.str o,.int m,.int f,.str rl])=f by unfold dL;rw[cW,if_pos rfl];rfl];exact bc (i:=2) (aW (by decide +kernel)) rfl
 ·obtain⟨a,d,b,p,m,x,f,e,_,_,_,ef⟩:=eQ g h;rw[ef,e];exact bc (i:=5) (aW (by decide +kernel)) rfl
noncomputable def fM (r v:D):Bool:=decide (mAt v &&& mAt r=mAt r) && !(iS r && decide (dL v<=dL r))
theorem tX {r v:D}(gr:cI r)(gv:cI v)(kr:kindOf r∈cD)(kv:bf v=true∨kindOf v=("leave" : Str)):∃d,d5 [r,v]=some (d,false)/\dIs d .non=some (.bl (fM r v),false):=by
 have pmv:ai [v,.str "matters"]=some (.int (mAt v),false):=kv.elim (CH gv) λh=>xl gv (qS h);have t1:tOf (fA g8 (ac (fA ai (ac (ae 1) (ac (fC (.str "matters")) ah))) (ac (fA ai (ac (ae 0) (ac (fC (.str "matters")) ah))) ah))) [some (r,false),some (v,false)]=some (decide (mAt v &&& mAt r=mAt r)):=tkF (cdD [.int (mAt v),.int (mAt r)] (aE (cdD [v,.str "matters"] rfl pmv) (aE (cdD [r,.str "matters"] rfl (xl gr kr)) rfl)) (y7 _ _));have t2:tOf (f2 dEq (fA aC (ac (ae 0) ah)) (fC (.str "leave"))) [some (r,false),some (v,false)]=some (iS r):=bx (a:=kindOf r) (bb:=false) (cdD [r] rfl (kL gr.c)) rfl;have t3:iS r=true->tOf (f2 iGe (fA ai (ac (ae 0) (ac (fC (.str "further")) ah))) (fA ai (ac (ae 1) (ac (fC (.str "further")) ah)))) [some (r,false),some (v,false)]=some (decide (dL v<=dL r)):=λh=>tkF (eoF (.int (dL r)) (.int (dL v)) (cdD [r,.str "further"] rfl (DG gr (.inr (of_decide_eq_true h)))) (cdD [v,.str "further"] rfl (DG gv kv)) rfl);have t4:=dj t2 t3;unfold fM;cases hA:decide (mAt v &&& mAt r=mAt r) with
 |false=>exact⟨.str "matters",ay rfl (bw (ci (p:=false) (t1.trans (by rw[hA]))) (a9 rfl)),rfl⟩
 |true=>
  cases hB:(iS r && decide (dL v<=dL r)) with
  |true=>exact⟨.str "further",ay rfl (aB (ci (p:=true) (t1.trans (by rw[hA]))) (bw (t4.trans (by rw[hB])) (a9 rfl))),rfl⟩
  |false=>exact⟨.non,ay rfl (aB (ci (p:=true) (t1.trans (by rw[hA]))) (aB (t4.trans (by rw[hB])) (a9 rfl))),rfl⟩
theorem gX {k:Str}(h:k∈cD):k∈qP:=by
 have:∀k∈cD,k∈qP:=by decide +kernel
 exact this k h
theorem fX {r:D}(h:kindOf r∈cD):bf r=false:=by
 have:∀k∈cD,decide (k=("root" : Str))=false:=by decide +kernel
 exact this _ h
theorem qT {r:D}(g:cI r)(h:bf r=false):aK [r]=some (.int (aG r),false):=by
 have:=tI g.c;unfold tH at this;rwa [h,if_neg (by decide)]at this
noncomputable def ot (cs:List Cl)(r v:D):Bool:=hV cs (a7 0 v) (a7 3 v) (df r) (aG r) && fM r v
theorem CJ (cs:List Cl)(hcs:cs.length<=60){r v:D}(gr:cI r)(gv:cI v)(kr:kindOf r∈cD)(hv:bf v=true):∃d,dF [.lst (cs.map clD),r,v]=some (d,false)/\dIs d .non=some (.bl (ot cs r v),false):=by
 obtain⟨d,e1,e2⟩:=tX gr gv kr (.inl hv);have t1:tOf (fA bZ (ac (ae 0) (ac (ae 2) (ac (fA ai (ac (ae 1) (ac (fC (.str "by")) ah))) (ac (fA aK (ac (ae 1) ah)) ah))))) [some (.lst (cs.map clD),false),some (r,false),some (v,false)]=some (hV cs (a7 0 v) (a7 3 v) (df r) (aG r)):=by
  refine tkF (cdD [.lst (cs.map clD),v,.str (df r),.int (aG r)] (acF rfl (acF rfl (aE (cdD [r,.str "by"] rfl (DF gr (gW (.inl (gX kr))))) (aE (cdD [r] rfl (qT gr (fX kr))) rfl)))) ?_);obtain⟨a,o,rl,m,f,rfl,_,_⟩:=qO gv hv;exact wW cs hcs _ _
 unfold ot;cases hA:hV cs (a7 0 v) (a7 3 v) (df r) (aG r) with
 |false=>exact⟨.str "holder",ay rfl (bw (ci (p:=false) (t1.trans (by rw[hA]))) (a9 rfl)),rfl⟩
 |true=>exact⟨d,ay rfl (aB (ci (p:=true) (t1.trans (by rw[hA]))) (a9 (cdD [r,v] rfl e1))),e2⟩
noncomputable def AI (cs:List Cl)(r v:D):Int:=match hU cs (a7 0 v) (a7 3 v) (aG r) with
 |.tup [_,_,.int n]=>n
 |_=>0
theorem AJ {cs:List Cl}{o rl p:Str}{day:Int}(h:hV cs o rl p day=true):∃n:Int,hU cs o rl day=.tup [.str "one",.str p,.int n]:=by
 unfold hV hU at h;unfold hU;generalize alL cs o day=al at h ⊢;cases al with
 |nil=>
  have h:eqD (.tup [.str "none"]) (.tup [.str "one",.str p])=true:=h;simp[cz]at h
 |cons b r=>
  rw[lq]at h ⊢;split at h
  ·have h:eqD (.tup [.str "parted",.lst ((js (b::r)).map .str)]) (.tup [.str "one",.str p])=true:=h;simp[cz]at h
  ·rename_i hn;rw[if_neg hn];have h:eqD (.tup [.str "one",.str (fK rl b r).p]) (.tup [.str "one",.str p])=true:=h;have h:(fK rl b r).p=p:=by simpa [cz]using h
   exact⟨_,by rw[h]⟩
theorem CK {cs:List Cl}{r v:D}(h:hV cs (a7 0 v) (a7 3 v) (df r) (aG r)=true):hU cs (a7 0 v) (a7 3 v) (aG r)=.tup [.str "one",.str (df r),.int (AI cs r v)]:=by
 obtain⟨n,e⟩:=AJ h;unfold AI;rw[e]
noncomputable def Fk (cs:List Cl)(r v:D):D:=.tup [.str "office",.str (a7 0 v),.int (AI cs r v)]
theorem nL {rows:List D}(g:∀r∈rows,cI r){known:Int}{v:D}(hv:v∈cx (am rows known)):cI v/\bf v=true:=by
 obtain⟨x,hx,rfl⟩:=List.mem_map.mp hv;obtain⟨h1,h2⟩:=List.mem_filter.mp hx;exact⟨g _ (List.mem_of_getElem? (bu h1)),h2⟩
theorem AK {rows:List D}(hl:rows.length<=60)(known:Int):(cx (am rows known)).length<=60:=by
 unfold cx;rw[List.length_map];exact Nat.le_trans (List.length_filter_le _ _) (Nat.le_trans (cU rows known) hl)
theorem y9 {rows:List D}(g:∀r∈rows,cI r)(hl:rows.length<=60)(known:Int)(hn:((cx (am rows known)).map (a7 0)).Nodup)(cs:List Cl)(hcs:cs.length<=60){ri:Nat}{r:D}(hr:rows[ri]? = some r)(kr:kindOf r∈cD):
  dG [.tup rows,.int known,.lst (cs.map clD),.int ri]=some (.lst (((cx (am rows known)).filter (ot cs r)).map (Fk cs r)),true):=by
 have gC:fH rows:=⟨hl,λr hr=>(g r hr).c⟩;have gr:=g r (List.mem_of_getElem? hr);have hrl:=AK hl known;have h1:=gz (fi:=vk (fA eY (ac (ae 0) (ac (ae 1) ah)))) (nT:=1) (cap:=[2,4]) (tg:=tgN 0) (c:=tOf (f2 dIs (fA dF (ac (ae 1) (ac (ae 2) (ac (ae 0) ah)))) (fC .non))) (fe:=ae 0)
  (ρ:=[some (.tup rows,false),some (.int known,false),some (.lst (cs.map clD),false),some (.int ri,false),some (r,false),none]) (cx (am rows known)) id (ot cs r) id
  (by show(fA eY _ _).bind _=_;rw[cdD [.tup rows,.int known] rfl (tM gC known),vF hn];simp) (by omega) λv hv=>by
   obtain⟨gv,hv2⟩:=nL g hv;obtain⟨d,e1,e2⟩:=CJ cs hcs gr gv kr hv2;exact⟨[some (v,false),some (.lst (cs.map clD),false),some (r,false)],rfl,tkF (eoF d .non (cdD [.lst (cs.map clD),r,v] rfl e1) rfl e2),λ_=>⟨false,rfl⟩⟩
 rw[List.map_id]at h1;have hfl:bd ((cx (am rows known)).filter (ot cs r))=true:=bL λv hv=>(nL g (List.mem_filter.mp hv).1).1.flat;refine ay rfl (rfF r (eoF (.tup rows) (.int ri) rfl rfl (by simp[cq hr])) gr.flat (bX h1 hfl (a9 ?_)));refine tq (fi:=cG (ae 5)) (nT:=1) (cap:=[2,4]) (tg:=tgN 0) (fe:=fA aL (ac (fC (.str "office")) (ac (fA ai (ac (ae 0) (ac (fC (.str "office")) ah))) (ac (f2 ixD (fA bY (ac (ae 1) (ac (ae 0) (ac (fA aK (ac (ae 2) ah)) ah)))) (fC (.int 2))) ah))))
  (ρ:=[some (.tup rows,false),some (.int known,false),some (.lst (cs.map clD),false),some (.int ri,false),some (r,false),some (.lst ((cx (am rows known)).filter (ot cs r)),true)]) ((cx (am rows known)).filter (ot cs r)) id (Fk cs r) (by simp) (Nat.le_trans (List.length_filter_le _ _) (by omega)) λv hv=>?_
 obtain⟨hv1,hv3⟩:=List.mem_filter.mp hv;obtain⟨gv,hv2⟩:=nL g hv1;have hv4:(hV cs (a7 0 v) (a7 3 v) (df r) (aG r) && fM r v)=true:=hv3;rw[Bool.and_eq_true]at hv4;have hh:=CK hv4.1;refine⟨[some (v,false),some (.lst (cs.map clD),false),some (r,false)],rfl,false,?_⟩;obtain⟨a,o,rl,m,f,rfl,_,_⟩:=qO gv hv2;refine cdD [.str "office",.str o,.int (AI cs r _)] (acF rfl (aE (cdD [row a ("root" : Str) [.str o,.int m,.int f,.str rl],.str "office"] rfl iF) (acF (eoF (hU cs o rl (aG r)) (.int 2) (cdD [.lst (cs.map clD),row a ("root" : Str) [.str o,.int m,.int f,.str rl],.int (aG r)] (acF rfl (acF rfl (aE (cdD [r] rfl (qT gr (fX kr))) rfl))) (jS cs hcs _)) rfl ?_) rfl))) (bC _ (by simp));have hh:hU cs o rl (aG r)=_:=hh;rw[hh];simp[at2]
noncomputable def fN (day:Int)(x:Int×Option Int):Bool:=decide (x.1<=day) && (match x.2 with|none=>true|some u=>decide (day<u))
noncomputable def Fl:Option Int->Option Int->Bool
 |_,none=>true
 |none,some _=>false
 |some x,some y=>decide (x<=y)
theorem CL (a b:Option Int):eF [uD a,uD b]=some (.bl (Fl a b),false):=by
 cases b with
 |none=>exact ay rfl (bw (tkF (by simp[uD])) (a9 (by cases a<;>rfl)))
 |some y=>
  refine ay rfl (aB (tkF (by simp[uD])) (a9 ?_));cases a with
  |none=>exact du (p:=false) (q:=false) (b1:=false) (by simp[uD]) (by simp)
  |some x=>exact du (p:=true) (q:=decide (x<=y)) (b1:=false) (by simp[uD]) λ_=>by simp[uD]
noncomputable def iT (a b:Int×Option Int):Bool:=decide (b.1<=a.1) && Fl a.2 b.2
theorem Fm (a b:Int×Option Int):eO [stD a,stD b]=some (.bl (iT a b),false) :=
 ay rfl (a9 (du (b1:=false) (by simp[stD,at0]) λ_=>cdD [uD a.2,uD b.2] (acF (by simp[stD,at1]) (acF (by simp[stD,at1]) rfl)) (CL _ _)))
theorem DH {rows:List D}{i:Nat}{r:D}(hr:rows[i]? = some r)(g:cI r)(h:bf r=false):c8 [.tup rows,.int i]=some (.tup [.int (aG r),.int i],false) :=
 ay rfl (a9 (cdD [.int (aG r),.int i] (acF (cdD [r] (by simp[cq hr]) (qT g h)) rfl) (by simp[sizeLine])))
theorem GW (a b c d:Int):tLt (.tup [.int a,.int b]) (.tup [.int c,.int d])=some (.bl (decide (a<c∨(a=c/\b<d))),false):=by
 show(aJ [.i a,.i b] [.i c,.i d]).map _=_;rw[Fi];rfl
theorem AL {rows:List D}{i j:Nat}{x y:D}(hx:rows[i]? = some x)(hy:rows[j]? = some y)(gx:cI x)(gy:cI y)(nx:bf x=false)(ny:bf y=false):dz [.tup rows,.int i,.int j]=some (.bl (dc (x,i) (y,j)),false) :=
 ay rfl (a9 (eoF (.tup [.int (aG x),.int i]) (.tup [.int (aG y),.int j]) (cdD [.tup rows,.int i] rfl (DH hx gx nx)) (cdD [.tup rows,.int j] rfl (DH hy gy ny)) (GW _ _ _ _)))
noncomputable def ou (r:D)(ri:Nat)(x:D×Nat):Bool:=dc x (r,ri) && ((fN (aG r) (cA x.1) && iT (cA r) (cA x.1)) && fM r x.1)
theorem CM {rows:List D}{ri li:Nat}{r l:D}(hr:rows[ri]? = some r)(hl:rows[li]? = some l)(gr:cI r)(gl:cI l)(kr:kindOf r∈cD)(kl:kindOf l=("leave" : Str)):∃d,eP [.tup rows,.int ri,.int li]=some (d,false)/\dIs d .non=some (.bl (ou r ri (l,li)),false):=by
 have nr:=fX kr;have nl:=fX (qS kl);obtain⟨d,e1,e2⟩:=tX gr gl kr (.inr kl);let E:DL.Env:=[some (.tup rows,false),some (.int ri,false),some (.int li,false),some (r,false),some (stD (cA l),false)];have al:∀ρ:DL.Env,ρ[0]? = some (some (.tup rows,false))->ρ[2]? = some (some (.int li,false))->f2 ixD (ae 0) (ae 2) ρ=some (l,false):=λρ h0 h2=>eoF (.tup rows) (.int li) (by simp[h0]) (by simp[h2]) (by simp[cq hl]);have t1:tOf (fA dz (ac (ae 0) (ac (ae 2) (ac (ae 1) ah)))) E=some (dc (l,li) (r,ri)):=tkF (cdD [.tup rows,.int li,.int ri] rfl (AL hl hr gl gr nl nr));have t2:tOf (fA dY (ac (fA aK (ac (ae 3) ah)) (ac (ae 4) ah))) E=some (fN (aG r) (cA l)):=tkF (cdD [.int (aG r),stD (cA l)] (aE (cdD [r] rfl (qT gr nr)) (acF rfl rfl)) (wU _ _ _));have t3:tOf (fA eO (ac (fA ai (ac (ae 3) (ac (fC (.str "stretch")) ah))) (ac (ae 4) ah))) E=some (iT (cA r) (cA l)):=tkF (cdD [stD (cA r),stD (cA l)] (aE (cdD [r,.str "stretch"] rfl (xn gr kr)) (acF rfl rfl)) (Fm _ _));have t4:=cH (ci t2) λ_=>ci t3;have go:∀(h:FS)(res:Option Res),h E=res->aA (aP 3 (f2 ixD (ae 0) (ae 1))) (aA (aP 4 (fA ai (ac (f2 ixD (ae 0) (ae 2)) (ac (fC (.str "stretch")) ah)))) h) [some (.tup rows,false),some (.int ri,false),some (.int li,false),none,none]=res:=λh res k=>
  rfF r (eoF (.tup rows) (.int ri) rfl rfl (by simp[cq hr])) gr.flat (rfF (stD (cA l)) (cdD [l,.str "stretch"] (aE (al _ rfl rfl) rfl) (xn gl (qS kl))) (gD _) k)
 unfold ou;cases hA:dc (l,li) (r,ri) with
 |false=>exact⟨.str "order",ay rfl (go _ _ (bw (ci (p:=false) (t1.trans (by rw[hA]))) (a9 rfl))),rfl⟩
 |true=>
  cases hB:(fN (aG r) (cA l) && iT (cA r) (cA l)) with
  |false=>exact⟨.str "days",ay rfl (go _ _ (aB (ci (p:=true) (t1.trans (by rw[hA]))) (bw (t4.trans (by rw[←Bool.not_and,hB];rfl)) (a9 rfl)))),rfl⟩
  |true=>exact⟨d,ay rfl (go _ _ (aB (ci (p:=true) (t1.trans (by rw[hA]))) (aB (t4.trans (by rw[←Bool.not_and,hB];rfl)) (a9 (cdD [r,l] (acF rfl (aE (al _ rfl rfl) rfl)) e1))))),e2⟩
theorem nM {rows:List D}{known:Int}{i:Nat}{r:D}(hr:rows[i]? = some r)(g:cI r):dw [.tup rows,.int known,.int i]=some (.bl (decide (bE r<=known) && iS r),false):=by
 have hkn:bR [.tup rows,.int known,.int i]=some (.bl (decide (bE r<=known)),false):=by
  obtain⟨a,k,au,rfl,d⟩:=g;exact nq hr known
 exact ay rfl (a9 (du (cdD [.tup rows,.int known,.int i] rfl hkn) λ_=>eoF (.str (kindOf r)) (.str "leave") (cdD [r] (acF (eoF (.tup rows) (.int i) rfl rfl (by simp[cq hr])) rfl) (kL g.c)) rfl (by simp[iS])))
noncomputable def jX (K:KL)(p:Str):KL:=(K.filter λx=>iS x.1).filter λx=>decide (a7 2 x.1=p)
theorem AM {rows:List D}(g:∀r∈rows,cI r){known:Int}{p:Str}{x:D×Nat}(h:x∈jX (am rows known) p):rows[x.2]? = some x.1/\cI x.1/\kindOf x.1=("leave" : Str):=by
 obtain⟨h1,_⟩:=List.mem_filter.mp h;obtain⟨h2,h3⟩:=List.mem_filter.mp h1;exact⟨bu h2,g _ (List.mem_of_getElem? (bu h2)),of_decide_eq_true h3⟩
theorem yA {rows:List D}(g:∀r∈rows,cI r)(hl:rows.length<=60)(known:Int)(p:Str):fU [.tup rows,.int known,.str p]=some (.lst ((jX (am rows known) p).map λx=>.int x.2),true):=by
 have hll:=cU rows known;have h1:=gz (fi:=cG (fA bO (ac (ae 0) (ac (ae 1) ah)))) (nT:=1) (cap:=[0,1]) (tg:=tgN 0) (c:=tOf (fA dw (ac (ae 1) (ac (ae 2) (ac (ae 0) ah))))) (fe:=ae 0)
  (ρ:=[some (.tup rows,false),some (.int known,false),some (.str p,false),none]) (am rows known) (λx=>.int x.2) (λx=>iS x.1) (λx=>.int x.2)
  (by show(fA bO _ _).bind _=_;rw[cdD [.tup rows,.int known] rfl (jO rows (λr hr=>(g r hr).c.rp) (by omega) known)];rfl) (by omega) λx hx=>by
   have hk:decide (bE x.1<=known)=true:=(List.mem_filter.mp hx).2;have:=nM (known:=known) (bu hx) (g _ (List.mem_of_getElem? (bu hx)));rw[hk,Bool.true_and]at this;exact⟨_,rfl,tkF (cdD [.tup rows,.int known,.int x.2] rfl this),λ_=>⟨false,rfl⟩⟩
 have hfl:bd (((am rows known).filter λx=>iS x.1).map λx=>D.int x.2)=true:=bL λd hd=>by obtain⟨x,_,rfl⟩:=List.mem_map.mp hd;rfl
 refine ay rfl (bX h1 hfl (a9 ?_));refine gz (fi:=cG (ae 3)) (nT:=1) (cap:=[2,0]) (tg:=tgN 0) (c:=tOf (f2 dEq (fA ai (ac (f2 ixD (ae 2) (ae 0)) (ac (fC (.str "person")) ah))) (ae 1))) (fe:=ae 0)
  (ρ:=[some (.tup rows,false),some (.int known,false),some (.str p,false),some (.lst (((am rows known).filter λx=>iS x.1).map λx=>.int x.2),true)]) ((am rows known).filter λx=>iS x.1) (λx=>.int x.2) (λx=>decide (a7 2 x.1=p)) (λx=>.int x.2) (by simp) (Nat.le_trans (List.length_filter_le _ _) (by omega)) λx hx=>?_
 obtain⟨h2,h3⟩:=List.mem_filter.mp hx;obtain⟨a,d,b,q,m,st,f,e,_⟩:=eQ (g _ (List.mem_of_getElem? (bu h2))) (of_decide_eq_true h3);refine⟨[some (.int x.2,false),some (.str p,false),some (.tup rows,false)],rfl,tkF (eoF (.str (a7 2 x.1)) (.str p) (cdD [x.1,.str "person"] (acF (eoF (.tup rows) (.int x.2) rfl rfl (by simp[cq (bu h2)])) rfl) ?_) rfl (by simp)),λ_=>⟨false,rfl⟩⟩;rw[e];exact bc (i:=2) (aW (by decide +kernel)) rfl
theorem yB {rows:List D}(g:∀r∈rows,cI r)(hl:rows.length<=60)(known:Int){ri:Nat}{r:D}(hr:rows[ri]? = some r)(kr:kindOf r∈cD):
  eG [.tup rows,.int known,.int ri]=some (.lst (((jX (am rows known) (df r)).filter (ou r ri)).map λx=>.tup [.str "leave",.int x.2]),true):=by
 have gr:=g r (List.mem_of_getElem? hr);have hll:=cU rows known;have hlv:(jX (am rows known) (df r)).length<=60:=Nat.le_trans (List.length_filter_le _ _) (Nat.le_trans (List.length_filter_le _ _) (by omega));have hfl:bd ((jX (am rows known) (df r)).map λx=>D.int x.2)=true:=bL λd hd=>by obtain⟨x,_,rfl⟩:=List.mem_map.mp hd;rfl
 refine ay rfl (bX (ds:=(jX (am rows known) (df r)).map λx=>.int x.2) (cdD [.tup rows,.int known,.str (df r)] (acF rfl (acF rfl (aE (cdD [r,.str "by"] (acF (eoF (.tup rows) (.int ri) rfl rfl (by simp[cq hr])) rfl) (DF gr (gW (.inl (gX kr))))) rfl))) (yA g hl known _)) hfl (a9 ?_));refine gz (fi:=cG (ae 3)) (nT:=1) (cap:=[0,2]) (tg:=tgN 0) (c:=tOf (f2 dIs (fA eP (ac (ae 1) (ac (ae 2) (ac (ae 0) ah)))) (fC .non))) (fe:=fA aL (ac (fC (.str "leave")) (ac (ae 0) ah)))
  (ρ:=[some (.tup rows,false),some (.int known,false),some (.int ri,false),some (.lst ((jX (am rows known) (df r)).map λx=>.int x.2),true)]) (jX (am rows known) (df r)) (λx=>.int x.2) (ou r ri) (λx=>.tup [.str "leave",.int x.2]) (by simp) (by omega) λx hx=>?_
 obtain⟨h1,h2,h3⟩:=AM g hx;obtain⟨d,e1,e2⟩:=CM hr h1 gr h2 kr h3;exact⟨[some (.int x.2,false),some (.tup rows,false),some (.int ri,false)],rfl,tkF (eoF d .non (cdD [.tup rows,.int ri,.int x.2] rfl e1) rfl e2),λ_=>⟨false,cdD [.str "leave",.int x.2] rfl (bC _ (by simp))⟩⟩
abbrev Bs:=Option Str×Int
noncomputable def bsD:Bs->D
 | (some o,n)=>.tup [.str "office",.str o,.int n]
 | (none,n)=>.tup [.str "leave",.int n]
noncomputable def bsK:Bs->List At
 | (some o,n)=>[.i n,.s ("office" : Str),.s o,.i n]
 | (none,n)=>[.i n,.s ("leave" : Str),.i n]
theorem tY (b:Bs):aZ (bsD b)=true:=by rcases b with⟨_|o,n⟩<;>rfl
theorem yC (b:Bs):aj 39 (bsD b)=true:=by rcases b with⟨_|o,n⟩<;>simp[bsD]
theorem qU (b:Bs):ixD (bsD b) (.int (-1))=some (.int b.2,false):=by rcases b with⟨_|o,n⟩<;>rfl
theorem nN (a b:Bs):(aJ (bsK a) (bsK b)).isSome=true:=by
 have hol:("office" : Str)≠("leave" : Str):=by decide +kernel
 rcases a with⟨_|o,n⟩<;>rcases b with⟨_|o',n'⟩
 ·show(aJ [.i n,.s ("leave" : Str),.i n] [.i n',.s ("leave" : Str),.i n']).isSome=true;rw[aJ];split
  ·rw[aJ,if_pos rfl,aJ];split
   ·rw[aJ];rfl
   ·rfl
  ·rfl
 ·show(aJ [.i n,.s ("leave" : Str),.i n] [.i n',.s ("office" : Str),.s o',.i n']).isSome=true;rw[aJ];split
  ·rw[aJ,if_neg (Ne.symm hol)];rfl
  ·rfl
 ·show(aJ [.i n,.s ("office" : Str),.s o,.i n] [.i n',.s ("leave" : Str),.i n']).isSome=true;rw[aJ];split
  ·rw[aJ,if_neg hol];rfl
  ·rfl
 ·show(aJ [.i n,.s ("office" : Str),.s o,.i n] [.i n',.s ("office" : Str),.s o',.i n']).isSome=true;rw[aJ];split
  ·rw[aJ,if_pos rfl,aJ];split
   ·rw[aJ];split
    ·rw[aJ];rfl
    ·rfl
   ·rfl
  ·rfl
theorem xo {a b:Bs}(h:bsK a=bsK b):a=b:=by
 rcases a with⟨_|o,n⟩<;>rcases b with⟨_|o',n'⟩<;>simp[bsK]at h
 ·rw[h]
 ·rw[h.1,h.2.1]
theorem xp (l:List Bs):da (l.map bsK)=true:=by
 unfold da;simp[List.all_eq_true,nN]
theorem vG {a b:Bs}(e:bT (bsK a)=bT (bsK b)):a=b:=xo (k7 (xp [a,b]) (by simp) (by simp) e)
noncomputable def toB (cs:List Cl)(r v:D):Bs:=(some (a7 0 v),AI cs r v)
noncomputable def oy (K:KL)(cs:List Cl)(r:D)(ri:Nat):List Bs:=((cx K).filter (ot cs r)).map (toB cs r)++((jX K (df r)).filter (ou r ri)).map λx=>(none,(x.2:Int))
noncomputable def qV (K:KL)(cs:List Cl)(r:D)(ri:Nat):List Bs:=eX (λb=>bT (bsK b)) (oy K cs r ri)
theorem pH {rows:List D}{known:Int}(hn:((cx (am rows known)).map (a7 0)).Nodup)(cs:List Cl)(r:D)(ri:Nat):(oy (am rows known) cs r ri).Nodup:=by
 unfold oy;rw[List.nodup_append];refine⟨?_,?_,?_⟩
 ·exact List.pairwise_map.mpr ((List.Pairwise.sublist List.filter_sublist (List.pairwise_map.mp hn)).imp λh e=>h (Option.some.inj (Prod.mk.inj e).1))
 ·refine List.pairwise_map.mpr ((List.Pairwise.sublist (List.filter_sublist.trans (List.filter_sublist.trans List.filter_sublist)) (List.pairwise_map.mp (gV rows known))).imp λh e=>h ?_);have:=(Prod.mk.inj e).2;omega
 ·intro a ha b hb e;obtain⟨v,_,rfl⟩:=List.mem_map.mp ha;obtain⟨x,_,rfl⟩:=List.mem_map.mp hb;cases (Prod.mk.inj e).1
theorem pJ {α:Type}{g:α->D}{h:α->List At}:∀(l:List α),(∀x∈l,Cz (g x)=some (h x))->fS (l.map g)=some (l.map h)
 |[],_=>rfl
 |x::l,k=>by
  rw[List.map_cons,fS,k x mX,Option.bind_some,pJ l λy hy=>k y (mZ _ hy)];rfl
theorem xq {rows:List D}(hl:rows.length<=30)(known:Int)(cs:List Cl)(r:D)(ri:Nat):(oy (am rows known) cs r ri).length<=60:=by
 have h1:((cx (am rows known)).filter (ot cs r)).length<=30:=by
  refine Nat.le_trans (List.length_filter_le _ _) ?_;unfold cx;rw[List.length_map];exact Nat.le_trans (List.length_filter_le _ _) (Nat.le_trans (cU rows known) hl)
 have h2:((jX (am rows known) (df r)).filter (ou r ri)).length<=30:=Nat.le_trans (List.length_filter_le _ _) (Nat.le_trans (List.length_filter_le _ _) (Nat.le_trans (List.length_filter_le _ _) (Nat.le_trans (cU rows known) hl)));unfold oy;rw[List.length_append,List.length_map,List.length_map];omega
theorem AN {f:FE}{ρ:DL.Env}{b:Bool}(l:List Bs)(hl:l.length<=60)(hn:l.Nodup)(e:f ρ=some (.lst (l.map bsD),b)):vp f (mo [] (fA aL (ac (f2 ixD (ae 0) (f1 oe (fC (.int 1)))) (ac (ae 0) ah)))) ρ=some (.lst ((eX (λb=>bT (bsK b)) l).map bsD),true):=by
 have hm:gK (mo [] (fA aL (ac (f2 ixD (ae 0) (f1 oe (fC (.int 1)))) (ac (ae 0) ah))) ρ) (l.map bsD)=some (l.map λb=>.tup [.int b.2,bsD b]):=fG l λb _=>by
  show(fA aL _ _).map _=_;rw[cdD [.int b.2,bsD b] (acF (eoF (bsD b) (.int (-1)) rfl rfl (qU b)) (acF rfl rfl)) (bC _ (by simp))];rfl
 have hk:fS (l.map λb=>D.tup [.int b.2,bsD b])=some (l.map bsK):=pJ l λb _=>by rcases b with⟨_|o,n⟩<;>rfl
 have hcond:(l.map bsK).length<64/\da (l.map bsK)=true/\True/\((l.map bsK).map bT).Nodup:=by
  refine⟨by rw[List.length_map];omega,xp l,trivial,?_⟩;rw[List.map_map];exact List.pairwise_map.mpr (List.Pairwise.imp (λh e=>h (vG e)) hn)
 unfold vp qy;rw[e];simp only[Option.bind_some];rw[hm];simp only[Option.bind_some];rw[hk];simp only[Option.bind_some];rw[if_pos hcond];unfold gt;have key:((eX (λb=>bT (bsK b)) l).map λb=>(bsK b,bsD b))=eX (λp:List At×D=>bT p.1) (l.map λb=>(bsK b,bsD b)):=by
  refine j9 _ (λx hx y hy e=>?_) ((bK _ _).map _) ?_
  ·obtain⟨a,_,rfl⟩:=List.mem_map.mp hx;obtain⟨b,_,rfl⟩:=List.mem_map.mp hy;rw[vG e]
  ·exact List.pairwise_map.mpr (dn _ _)
 rw[List.zip_map',←key,List.map_map];rfl
section
variable {rows:List D}(g:∀r∈rows,cI r) (hl:rows.length<=30) (known:Int) (hn:((cx (am rows known)).map (a7 0)).Nodup)
include g hl hn
theorem tZ (cs:List Cl)(hcs:cs.length<=60){ri:Nat}{r:D}(hr:rows[ri]? = some r)(kr:kindOf r∈cD)(hk:bE r<=known):gS [.tup rows,.int known,.lst (cs.map clD),.int ri]=some (.lst ((qV (am rows known) cs r ri).map bsD),true):=by
 have gr:=g r (List.mem_of_getElem? hr);have wd:∀(ρ:DL.Env)(j:Nat),ρ[0]? = some (some (.tup rows,false))->ρ[j]? = some (some (.int ri,false))->fA aC (ac (f2 ixD (ae 0) (ae j)) ah) ρ=some (.str (kindOf r),false):=λρ j h0 h2=>cdD [r] (acF (eoF (.tup rows) (.int ri) (by simp[h0]) (by simp[h2]) (by simp[cq hr])) rfl) (kL gr.c);have hkn:bR [.tup rows,.int known,.int ri]=some (.bl true,false):=by
  obtain⟨a,k,au,rfl,d⟩:=id gr;rw[nq hr known,decide_eq_true (show a<=known from hk)]
 have hpp:dZ [.tup rows,.int known,.int ri]=some (.bl (decide (kindOf r∈[("paper" : Str),("like" : Str),("copy" : Str)])),false):=ay rfl (a9 (du (p:=true) (cdD [.tup rows,.int known,.int ri] rfl hkn) λ_=>eoF (.str (kindOf r)) (.tup ([("paper" : Str),("like" : Str),("copy" : Str)].map .str)) (wd _ 2 rfl rfl) rfl (iE _ _)));have hb:gQ [.tup rows,.int known,.int ri]=some (.bl true,false):=by
  refine(ay rfl (a9 (wH (cdD [.tup rows,.int known,.int ri] rfl (nM hr gr)) λ_=>cdD [.tup rows,.int known,.int ri] rfl hpp))).trans ?_;rw[decide_eq_true hk,Bool.true_and];have:∀k∈cD,(decide (k=("leave" : Str)) || decide (k∈[("paper" : Str),("like" : Str),("copy" : Str)]))=true:=by decide +kernel
  unfold iS;rw[this _ kr]
 have hnc:decide (kindOf r=("copy" : Str))=false:=by
  have:∀k∈cD,decide (k=("copy" : Str))=false:=by decide +kernel
  exact this _ kr
 have hbl:=xq hl known cs r ri;have hfl:bd ((oy (am rows known) cs r ri).map bsD)=true:=bL λd hd=>by obtain⟨b,_,rfl⟩:=List.mem_map.mp hd;exact tY b
 refine ay rfl (aB (ci (p:=true) (tkF (cdD [.tup rows,.int known,.int ri] rfl hb))) (aB (bx (a:=kindOf r) (bb:=false) (wd _ 3 rfl rfl) hnc) (bX (ds:=(oy (am rows known) cs r ri).map bsD) ?_ hfl (a9 (AN (b:=false) _ hbl (pH hn cs r ri) rfl)))));have ho:=y9 g (by omega) known hn cs hcs hr kr;have hv:=yB g (by omega) known hr kr;refine gw (x:=.lst (((cx (am rows known)).filter (ot cs r)).map (Fk cs r))) (y:=.lst (((jX (am rows known) (df r)).filter (ou r ri)).map λx=>.tup [.str "leave",.int x.2])) (b1:=true) (b2:=true) (cdD [.tup rows,.int known,.lst (cs.map clD),.int ri] rfl ho) (cdD [.tup rows,.int known,.int ri] rfl hv) ?_;have hbl':=hbl;unfold oy at hbl' ⊢;rw[List.length_append,List.length_map,List.length_map]at hbl';refine(if_pos (cO (by rw[List.length_map,List.length_map];omega))).trans ?_;rw[List.map_append,List.map_map,List.map_map];rfl
theorem AO (ho:(eV (am rows known)).length<=60){ri:Nat}{r:D}(hr:rows[ri]? = some r)(kr:kindOf r∈cD)(hk:bE r<=known):qD [.tup rows,.int known,.int ri]=some (.lst ((qV (am rows known) (dI (am rows known)) r ri).map bsD),true):=by
 obtain⟨ec,hcl⟩:=y0 (rows:=rows) ⟨by omega,λr hr=>(g r hr).c⟩ known ho;exact ay rfl (a9 (cdD [.tup rows,.int known,.lst ((dI (am rows known)).map clD),.int ri] (acF rfl (acF rfl (aE (cdD [.tup rows,.int known] rfl ec) (acF rfl rfl)))) (tZ g hl known hn _ hcl hr kr hk)))
end
theorem Fo {i j:Nat}{f:FE}{ρ:DL.Env}{x y:D}{b:Bool}{h:FS}{r:Option Res}(e:f ρ=some (.tup [x,y],b))(hx:aZ x=true)(hy:aZ y=true)(k:h ((ρ.set i (some (x,false))).set j (some (y,false)))=r):aA (sx [i,j] f) h ρ=r:=by
 refine d3 (ρ':=(ρ.set i (some (x,false))).set j (some (y,false))) ?_ k;have hn:bd [x,y]=true:=by simp[hx,hy]
 simp only[sx,e,Option.bind_some,f8,hn,if_true];simp[eK]
theorem Fp (day:Int)(a b:Int×Option Int):dH [.int day,stD a,stD b]=some (.bl (fN day b && iT a b),false):=by
 let E:DL.Env:=[some (.int day,false),some (stD a,false),some (stD b,false)];have t1:tOf (f2 dLt (ae 0) (ixV 2 0)) E=some (decide (day<b.1)):=tkF (by simp[E,stD,at0]);have t2:tOf (f2 dLt (ixV 1 0) (ixV 2 0)) E=some (decide (a.1<b.1)):=tkF (by simp[E,stD,at0]);have t12:=cH t1 λ_=>t2;cases h12:(decide (day<b.1) || decide (a.1<b.1)) with
 |true=>
  rw[h12]at t12;have:(fN day b && iT a b)=false:=by
   unfold fN iT;rw[Bool.or_eq_true]at h12;rcases h12 with h|h
   ·have h:=of_decide_eq_true h;rw[decide_eq_false (show ¬b.1<=day by omega),Bool.false_and,Bool.false_and]
   ·have h:=of_decide_eq_true h;rw[decide_eq_false (show ¬b.1<=a.1 by omega),Bool.false_and,Bool.and_false]
  rw[this];exact ay rfl (bw t12 (a9 rfl))
 |false=>
  rw[h12]at t12;rw[Bool.or_eq_false_iff]at h12;have g1:b.1<=day:=by have:=of_decide_eq_false h12.1;omega
  have g2:b.1<=a.1:=by have:=of_decide_eq_false h12.2;omega
  have e:(fN day b && iT a b)=((match b.2 with|none=>true|some u=>decide (day<u)) && Fl a.2 b.2):=by
   unfold fN iT;rw[decide_eq_true g1,decide_eq_true g2,Bool.true_and,Bool.true_and]<;>cases b.2<;>rfl
  rw[e];refine ay rfl (aB t12 ?_);obtain⟨a1,a2⟩:=a;obtain⟨b1,b2⟩:=b;cases b2 with
  |none=>exact bw (tkF (by simp[stD,uD,at1])) (a9 (by cases a2<;>rfl))
  |some y=>
   refine aB (tkF (by simp[stD,uD,at1])) (a9 (du (p:=decide (day<y)) (b1:=false) (by simp[stD,uD,at1]) λ_=>?_));cases a2 with
   |none=>exact du (p:=false) (q:=false) (b1:=false) (by simp[stD,uD,at1]) (by simp)
   |some x=>exact du (p:=true) (q:=decide (x<=y)) (b1:=false) (by simp[stD,uD,at1]) λ_=>by simp[stD,uD,at1]
theorem DI {k:Str}{au:List D}{ρ:DL.Env}{j:Nat}{d:D}(h1:ρ[1]? = some (some (.tup (.str k::au),false)))(h2:ρ[2]? = some (some (.int (if k=("leave" : Str)then 1 else 0),false)))(hg:(D.str k::au).getD (j+if k=("leave" : Str)then 1 else 0) .non=d)(hl:(j+if k=("leave" : Str)then 1 else 0)<(D.str k::au).length):
  f2 ixD (ae 1) (f2 bv (fC (.int j)) (ae 2)) ρ=some (d,false):=by
 refine eoF (.tup (.str k::au)) (.int ((j+if k=("leave" : Str)then 1 else 0:Nat):Int)) (by simp[h1]) (eoF (.int j) (.int (if k=("leave" : Str)then 1 else 0)) rfl (by simp[h2]) ?_) ?_
 ·by_cases hh:k=("leave" : Str)
  ·rw[if_pos hh,if_pos hh];rfl
  ·rw[if_neg hh,if_neg hh];rfl
 ·rw[DL.pN (by omega) (by omega),Int.toNat_natCast,hg]
theorem AQ {a a' d':Int}{b' p':Str}{m':Nat}{x':Int×Option Int}{f':Int}{k:Str}{au:List D}(hm':m'∈MS)(dk:Dd k au)(kr:k∈cD):
  ft [.tup [.str "leave",.int d',.str b',.str p',.int m',stD x',.int f'],.tup (.str k::au)]=some (.bl (decide (p'=df (row a k au)) && ((fN (aG (row a k au)) x' && iT (cA (row a k au)) x') && fM (row a k au) (row a' ("leave" : Str) [.int d',.str b',.str p',.int m',stD x',.int f']))),false):=by
 obtain⟨dd,b2,q,er⟩:=qQ dk (gW (.inl (gX kr)));obtain⟨hms,_,hmi,hmil⟩:=AH (a:=a) dk kr;obtain⟨_,hsi,hsil⟩:=xm (a:=a) dk kr;have ebd:df (row a k au)=b2/\aG (row a k au)=dd:=by rw[er];exact⟨rfl,rfl⟩
 have ekr:iS (row a k au)=decide (k=("leave" : Str)):=rfl;have efr:k=("leave" : Str)->ixD (.tup (.str k::au)) (.int 6)=some (.int (dL (row a k au)),false):=λh=>by
  obtain⟨a',d',b',p',m',x',f',e',_,_,_,ef⟩:=eQ (r:=row a k au) ⟨_,_,_,rfl,dk⟩ h;unfold row at e';injection e' with e';injection e' with _ e';injection e' with e' _;injection e' with e';injection e' with _ e';rw[ef,e'];rfl
 obtain⟨_,_,_,_,_,_,_,el,_,em,_,efl⟩:=eQ (r:=row a' ("leave" : Str) [.int d',.str b',.str p',.int m',stD x',.int f']) ⟨_,_,_,rfl,.leave _ _ _ _ hm' _ _⟩ rfl;have em:mAt (row a' ("leave" : Str) [.int d',.str b',.str p',.int m',stD x',.int f'])=m':=by unfold mAt;rw[cW,if_neg (by decide +kernel),if_pos rfl];rfl
 have efl:dL (row a' ("leave" : Str) [.int d',.str b',.str p',.int m',stD x',.int f'])=f':=by unfold dL;rw[cW,if_neg (by decide +kernel)];rfl
 unfold fM;rw[em,efl];generalize row a k au=R at hms hmi hsi ebd ekr efr ⊢;obtain⟨eb,ed⟩:=ebd;let L:D:=.tup [.str "leave",.int d',.str b',.str p',.int m',stD x',.int f'];let E:DL.Env:=[some (L,false),some (.tup (.str k::au),false),some (.int (if k=("leave" : Str)then 1 else 0),false)];have x1:∀(ρ:DL.Env)(j:Nat)(d:D),ρ[1]? = some (some (.tup (.str k::au),false))->(D.str k::au)[j]? = some d->f2 ixD (ae 1) (fC (.int j)) ρ=some (d,false):=λρ j d h2 hj=>eoF (.tup (.str k::au)) (.int j) (by simp[h2]) rfl (by simp[cq hj]);have x0:∀(j:Nat)(d:D),[D.str "leave",.int d',.str b',.str p',.int m',stD x',.int f'][j]? = some d->f2 ixD (ae 0) (fC (.int j)) E=some (d,false):=λj d hj=>eoF L (.int j) rfl rfl (by simp[L,cq hj]);have r1:(D.str k::au)[1]? = some (.int dd):=by rw[er];rfl
 have r2:(D.str k::au)[2]? = some (.str b2):=by rw[er];rfl
 have t1:tOf (f2 dNe (ixV 0 0) (fC (.str "leave"))) E=some false:=tkF (eoF (.str "leave") (.str "leave") (x0 0 _ rfl) rfl (by simp));have t2:tOf (f2 dNe (ixV 0 3) (ixV 1 2)) E=some (!decide (p'=b2)):=tkF (eoF (.str p') (.str b2) (x0 3 _ rfl) (x1 _ 2 _ rfl r2) (by simp));have t3:tOf (fA dH (ac (ixV 1 1) (ac (f2 ixD (ae 1) (f2 bv (fC (.int 4)) (ae 2))) (ac (ixV 0 5) ah)))) E=some (fN dd x' && iT (cA R) x'):=tkF (cdD [.int dd,stD (cA R),stD x'] (aE (x1 _ 1 _ rfl r1) (aE (DI (j:=4) rfl rfl hsi hsil) (aE (x0 5 _ rfl) rfl))) (Fp _ _ _));have t23:=cH t2 λ_=>ci t3;have tt:=cH t1 λ_=>t23;rw[Bool.false_or]at tt;have go:∀(h:FS)(res:Option Res),h E=res->aA (aP 2 (fA qk (ac (f2 dEq (ixV 1 0) (fC (.str "leave"))) ah))) h [some (L,false),some (.tup (.str k::au),false),none]=res:=λh res kk=>by
  refine rfF (.int (if k=("leave" : Str)then 1 else 0)) (cdD [.bl (decide (k=("leave" : Str)))] (acF (eoF (.str k) (.str "leave") (x1 _ 0 _ rfl rfl) rfl (by simp)) rfl) ?_) rfl kk;show some (D.int (if decide (k=("leave" : Str))=true then 1 else 0),false)=_;simp only[decide_eq_true_eq]
 rw[eb,ed];refine ay rfl (go _ _ ?_);cases hA:(decide (p'=b2) && (fN dd x' && iT (cA R) x')) with
 |false=>
  rw[←Bool.not_and,hA]at tt;rw[←Bool.and_assoc,hA,Bool.false_and];exact bw tt (a9 rfl)
 |true=>
  rw[←Bool.not_and,hA]at tt;rw[←Bool.and_assoc,hA,Bool.true_and,ekr,Bool.not_and];refine aB tt (a9 (du (cdD [.int m',.int (mAt R)] (aE (x0 4 _ rfl) (aE (DI (j:=3) rfl rfl hmi hmil) rfl)) (y8 hm' hms)) λ_=>?_));have hor:∀z:Bool,(!decide (k=("leave" : Str)) || z)=(decide ((if k=("leave" : Str)then (1:Int)else 0)=0) || z):=λz=>by
   by_cases h:k=("leave" : Str)
   ·rw[decide_eq_true h,if_pos h];rfl
   ·rw[decide_eq_false h,if_neg h];rfl
  rw[show(!decide (f'<=dL R))=decide (dL R<f') by rw[←decide_not];congr 1;rw[Int.not_le],hor];refine wH (b1:=false) (eoF (.int (if k=("leave" : Str)then 1 else 0)) (.int 0) rfl rfl (by simp)) λh=>?_;have hk:k=("leave" : Str):=by
   by_cases h':k=("leave" : Str)
   ·exact h'
   ·rw[if_neg h']at h;simp at h
  exact eoF (.int (dL R)) (.int f') (eoF (.tup (.str k::au)) (.int 6) rfl rfl (efr hk)) (x0 6 _ rfl) (by simp)
noncomputable def lvP (known:Int)(r:D)(ri:Nat)(x:D×Nat):Bool:=decide (bE x.1<=known) && (iS x.1 && (dc x (r,ri) && (decide (a7 2 x.1=df r) && ((fN (aG r) (cA x.1) && iT (cA r) (cA x.1)) && fM r x.1))))
theorem Fq (rows:List D)(known:Int)(r:D)(ri:Nat):(jX (am rows known) (df r)).filter (ou r ri)=rows.zipIdx.filter (lvP known r ri):=by
 unfold jX am;rw[List.filter_filter,List.filter_filter,List.filter_filter];congr 1;funext x;unfold lvP ou;generalize ((fN (aG r) (cA x.1) && iT (cA r) (cA x.1)) && fM r x.1)=z;cases decide (bE x.1<=known)<;>cases iS x.1<;>cases dc x (r,ri)<;>cases decide (a7 2 x.1=df r)<;>cases z<;>rfl
noncomputable def lvB (x:D×Nat):Bs:=(none,(x.2:Int))
theorem GX (m n:Int)(xs ys:List At):aJ (.i m::xs) (.i n::ys)=if m=n then aJ xs ys else some (decide (m<n)):=by rw[aJ]
theorem Fr (rows:List D):rows.zipIdx.Pairwise λa b=>a.2<b.2:=by
 have:(rows.zipIdx.map (·.2)).Pairwise (· < ·):=by rw[List.zipIdx_map_snd];exact List.pairwise_lt_range'
 exact List.pairwise_map.mp this
theorem AR {rows:List D}{known:Int}(cs:List Cl)(r:D)(ri:Nat):((qV (am rows known) cs r ri).filter λb=>b.1.isNone)=(rows.zipIdx.filter (lvP known r ri)).map lvB:=by
 refine k6 (λb=>bT (bsK b)) _ _ (λx _ y _ e=>vG e) ?_ (List.Pairwise.filter _ (dn _ _)) (List.pairwise_map.mpr ((List.Pairwise.sublist List.filter_sublist (Fr rows)).imp λ{a b} h z=>?_))
 ·refine((bK _ _).filter _).trans ?_;have e:((oy (am rows known) cs r ri).filter λb=>b.1.isNone)=((jX (am rows known) (df r)).filter (ou r ri)).map lvB:=by
   have h1:∀l:List D,((l.map (toB cs r)).filter λb=>b.1.isNone)=[]:=λl=>List.filter_eq_nil_iff.mpr λb hb=>by
    obtain⟨v,_,rfl⟩:=List.mem_map.mp hb;simp[toB]
   have h2:∀l:KL,((l.map lvB).filter λb=>b.1.isNone)=l.map lvB:=λl=>List.filter_eq_self.mpr λb hb=>by
    obtain⟨x,_,rfl⟩:=List.mem_map.mp hb;rfl
   unfold oy;rw[List.filter_append,h1,List.nil_append];exact h2 _
  rw[e,Fq]
 ·have e:aJ (bsK (lvB b)) (bsK (lvB a))=some false:=by
   show aJ [.i (b.2:Int),.s ("leave" : Str),.i (b.2:Int)] [.i (a.2:Int),.s ("leave" : Str),.i (a.2:Int)]=some false;rw[GX,if_neg (by omega),decide_eq_false (by omega)]
  have:=jB _ _ _ e;rw[eq_comm,decide_eq_false_iff_not]at this;exact this z
theorem GY {a b:Bs}(h:leF (λb=>bT (bsK b)) a b)(hne:a≠b):aJ (bsK a) (bsK b)=some true:=by
 obtain⟨z,e⟩:=Option.isSome_iff_exists.mp (nN a b);obtain⟨z',e'⟩:=Option.isSome_iff_exists.mp (nN b a);have h2:=jB _ _ _ e';have hz:z'=false:=by rw[h2];exact decide_eq_false h
 cases z with
 |true=>exact e
 |false=>exact absurd (xo (qw _ _ e (hz ▸ e'))) hne
theorem Fs {rows:List D}{known:Int}(hn:((cx (am rows known)).map (a7 0)).Nodup)(cs:List Cl)(r:D)(ri:Nat):(qV (am rows known) cs r ri).Pairwise λa b=>aJ (bsK a) (bsK b)=some true:=by
 have h1:(qV (am rows known) cs r ri).Pairwise (leF λb=>bT (bsK b)):=dn _ _;have h2:(qV (am rows known) cs r ri).Pairwise (· ≠ ·):=(bK _ _).nodup_iff.mpr (pH hn cs r ri);exact(h1.and h2).imp λh=>GY h.1 h.2
theorem Ft {a b:Bs}(h:aJ (bsK a) (bsK b)=some true):nGe (.tup [.int a.2,bsD a]) (.tup [.int b.2,bsD b])=some (.bl false,false):=by
 rcases a with⟨_|o,n⟩<;>rcases b with⟨_|o',n'⟩
 ·show(aJ (bsK (none,n)) (bsK (none,n'))).map (λr=>(D.bl (!r),false))=_;rw[h];rfl
 ·show(aJ (bsK (none,n)) (bsK (some o',n'))).map (λr=>(D.bl (!r),false))=_;rw[h];rfl
 ·show(aJ (bsK (some o,n)) (bsK (none,n'))).map (λr=>(D.bl (!r),false))=_;rw[h];rfl
 ·show(aJ (bsK (some o,n)) (bsK (some o',n'))).map (λr=>(D.bl (!r),false))=_;rw[h];rfl
theorem Fu {rows:List D}(g:∀r∈rows,cI r)(hl:rows.length<=30)(known:Int){ri:Nat}{a:Int}{k:Str}{au:List D}(hr:rows[ri]? = some (row a k au))(kr:k∈cD):qE [.tup rows,.int known,.int ri]=some (.lst (((rows.zipIdx.filter (lvP known (row a k au) ri)).map lvB).map bsD),true):=by
 obtain⟨a0,k0,r0,e0,dk0⟩:=g _ (List.mem_of_getElem? hr);have dk:Dd k au:=by
  unfold row at e0;injection e0 with e0;injection e0 with _ e0;injection e0 with e0 _;injection e0 with e0;injection e0 with e1 e0;injection e1 with e1;rw[e1,e0];exact dk0
 obtain⟨dd,b2,q,er⟩:=qQ dk (gW (.inl (gX kr)));have ed:aG (row a k au)=dd:=by rw[er];rfl
 have hfl:aZ (.tup (.str k::au))=true:=by simp[dk.flat]
 let P:=lvP known (row a k au) ri;let E:KL->Option (D×Bool)->Option (D×Bool)->Option (D×Bool)->DL.Env:=λL v5 v6 v7=>[some (.tup rows,false),some (.int known,false),some (.int ri,false),some (.tup (.str k::au),false),some (.lst ((L.map lvB).map bsD),true),v5,v6,v7];obtain⟨ρ',e,v5,v6,v7,rfl⟩:=i6 (tg:=tgN 5) (g:=t9) rows.length (λi ρ=>∃v5 v6 v7,ρ=E ((rows.zipIdx.take i).filter P) v5 v6 v7) (E [] none none none) ⟨none,none,none,rfl⟩ (by
  rintro i ρ hi ⟨v5,v6,v7,rfl⟩;have hx:rows[i]? = some rows[i]:=List.getElem?_eq_getElem hi;generalize rows[i]=x at hx;have gx:=g x (List.mem_of_getElem? hx);obtain⟨xa,xk,xr,ex,xd⟩:=id gx;have et:(rows.zipIdx.take (i+1)).filter P=(rows.zipIdx.take i).filter P++if P (x,i)=true then [(x,i)]else []:=by
   rw[List.take_add_one,List.getElem?_zipIdx,hx,List.filter_append];show _++List.filter P [(x,0+i)]=_;rw[Nat.zero_add,List.filter_cons];split<;>rfl
  generalize hL:(rows.zipIdx.take i).filter P=L at et;have hLl:L.length<=30:=by rw[←hL];exact Nat.le_trans (List.length_filter_le _ _) (Nat.le_trans (List.length_take_le' _ _) (by rw[List.length_zipIdx];exact hl))
  have hxf:aZ (.tup (.str xk::xr))=true:=by simp[xd.flat]
  have hxa:bE x=xa:=by rw[ex];rfl
  have hxk:iS x=decide (xk=("leave" : Str)):=by rw[ex];rfl
  let F:DL.Env:=E L (some (.int i,false)) (some (.int xa,false)) (some (.tup (.str xk::xr),false));have c1:tOf (f2 dLe (ae 6) (ae 1)) F=some (decide (xa<=known)):=tkF (by simp[F,E]);have c2:tOf (f2 dEq (ixV 7 0) (fC (.str "leave"))) F=some (decide (xk=("leave" : Str))):=bx (a:=xk) (bb:=false) (eoF (.tup (.str xk::xr)) (.int 0) rfl rfl (by simp[at0])) rfl;have c34:xk=("leave" : Str)->cB (tOf (f2 tLt (fA aL (ac (ixV 7 1) (ac (ae 5) ah))) (fA aL (ac (ixV 3 1) (ac (ae 2) ah))))) (tOf (fA ft (ac (ae 7) (ac (ae 3) ah)))) F=some (dc (x,i) (row a k au,ri) && (decide (a7 2 x=df (row a k au)) && ((fN (aG (row a k au)) (cA x) && iT (cA (row a k au)) (cA x)) && fM (row a k au) x))):=λh=>by
   obtain⟨a',d',b',p',m',x',f',e',hm,_,es,_⟩:=eQ gx (by rw[ex];exact h);have exr:(.str xk::xr:List D)=[.str "leave",.int d',.str b',.str p',.int m',stD x',.int f']:=by
    have e':=ex.symm.trans e';unfold row at e';injection e' with e';injection e' with _ e';injection e' with e' _;injection e' with e'
   refine dj (tkF (eoF (.tup [.int d',.int i]) (.tup [.int dd,.int ri]) (cdD [.int d',.int i] (acF (eoF (.tup (.str xk::xr)) (.int 1) rfl rfl (by rw[exr];simp[at1])) (acF rfl rfl)) (bC _ (by simp))) (cdD [.int dd,.int ri] (acF (eoF (.tup (.str k::au)) (.int 1) rfl rfl (by rw[er];simp[at1])) (acF rfl rfl)) (bC _ (by simp))) ((GW _ _ _ _).trans ?_))) λ_=>tkF (cdD [.tup (.str xk::xr),.tup (.str k::au)] rfl ?_)
   ·unfold dc;rw[ed,show aG x=d' by rw[e'];rfl]
   ·rw[exr,es,show a7 2 x=p' by rw[e'];rfl,e'];exact AQ hm dk kr
  have key:gIf (cB (tOf (f2 dLe (ae 6) (ae 1))) (cB (tOf (f2 dEq (ixV 7 0) (fC (.str "leave")))) (cB (tOf (f2 tLt (fA aL (ac (ixV 7 1) (ac (ae 5) ah))) (fA aL (ac (ixV 3 1) (ac (ae 2) ah))))) (tOf (fA ft (ac (ae 7) (ac (ae 3) ah))))))) (gF 4 (fA aL (ac (fC (.str "leave")) (ac (ae 5) ah)))) ba F=some (.nx (E (L++if P (x,i)=true then [(x,i)]else []) (some (.int i,false)) (some (.int xa,false)) (some (.tup (.str xk::xr),false)))):=by
   have tt:=dj c1 λ_=>dj c2 λh=>c34 (of_decide_eq_true h);have hP:P (x,i)=(decide (xa<=known) && (decide (xk=("leave" : Str)) && (dc (x,i) (row a k au,ri) && (decide (a7 2 x=df (row a k au)) && ((fN (aG (row a k au)) (cA x) && iT (cA (row a k au)) (cA x)) && fM (row a k au) x))))):=by
    show lvP known (row a k au) ri (x,i)=_;unfold lvP;rw[hxa,hxk]
   rw[←hP]at tt;cases hA:P (x,i) with
   |false=>
    rw[hA]at tt;rw[if_neg (by decide),List.append_nil];exact jo tt rfl
   |true=>
    rw[hA]at tt;rw[if_pos rfl];refine iR tt ((gd (ds:=(L.map lvB).map bsD) (d:=.tup [.str "leave",.int i]) (b:=false) rfl (cdD [.str "leave",.int i] rfl (bC _ (by simp))) rfl (b8 (by rw[List.length_map,List.length_map];omega))).trans ?_);show _=some (Res.nx (E (L++[(x,i)]) _ _ _));simp[E,F,lvB,bsD]
  refine⟨_,_,rfl,.inl (Fo (x:=.int xa) (y:=.tup (.str xk::xr)) (b:=false) (eoF (.tup rows) (.int i) rfl rfl ?_) rfl hxf key),_,_,_,by rw[et]⟩;have ax:=cq hx;rw[show x=.tup [.int xa,.tup (.str xk::xr)]from ex]at ax;simp[ax])
 rw[show rows.zipIdx.take rows.length=rows.zipIdx from List.take_of_length_le (by rw[List.length_zipIdx];exact Nat.le_refl _)]at e;refine ay rfl (rfF (.tup (.str k::au)) (eoF (row a k au) (.int 1) (eoF (.tup rows) (.int ri) rfl rfl (by simp[cq hr])) rfl (by unfold row;simp[at1])) hfl (bX (ds:=[]) (cdD [] rfl (jr _ (by simp))) rfl (d3 (gu (fm (j:=rows.length) (b:=false) (by simp) (by omega)) e) (jG rfl))))
theorem AS {d:D}(h:aj 40 d=true):dNe d d=some (.bl false,false):=by
 unfold dNe;rw[if_pos ⟨h,h⟩,ng 40 _ h];rfl
theorem AT (l:List Bs):bd (l.map bsD)=true:=bL λd hd=>by obtain⟨b,_,rfl⟩:=List.mem_map.mp hd;exact tY b
theorem AU (rows:List D)(known:Int):cx (am rows known)=rows.filter λv=>bf v && decide (bE v<=known):=by
 unfold cx am;rw[List.filter_filter];have:∀(l:List (D×Nat))(q:D->Bool),(l.filter λx=>q x.1).map (·.1)=(l.map (·.1)).filter q:=λl q=>by rw[List.filter_map];rfl
 refine(this rows.zipIdx λv=>bf v && decide (bE v<=known)).trans ?_;rw[List.zipIdx_map_fst]
theorem AV (rows:List D)(known:Int):((cx (am rows known)).map (a7 0)).Sublist (jg rows):=by
 rw[AU];unfold jg;refine List.Sublist.map _ ?_;have:(rows.filter λv=>bf v && decide (bE v<=known))=(rows.filter bf).filter λv=>decide (bE v<=known):=by rw[List.filter_filter];congr 1;funext v;rw[Bool.and_comm]
 rw[this];exact List.filter_sublist
theorem CN {l:List Bs}(hl:l.length<=100)(hu:l.Pairwise λa b=>aJ (bsK a) (bsK b)=some true)(v0 v1 v2 v3 v4 v5 v7:Option (D×Bool)):∃w7,gZ (lI (fC (.int 1)) (fA eI (ac (ae 6) ah))) (tgN 7) vt [v0,v1,v2,v3,v4,v5,some (.lst (l.map bsD),true),v7]=some (.nx [v0,v1,v2,v3,v4,v5,some (.lst (l.map bsD),true),w7]):=by
 have hr:lI (fC (.int 1)) (fA eI (ac (ae 6) ah)) [v0,v1,v2,v3,v4,v5,some (.lst (l.map bsD),true),v7]=some (de 1 ((l.length:Int) - 1).toNat):=by
  have h:(l.length:Int)<=1000:=by omega
  have h' : -1000<=(l.length:Int):=by omega
  simp[h,h']
 obtain⟨ρ',e,w7,rfl⟩:=iz (tg:=tgN 7) (g:=vt) (λ_ ρ=>∃w7,ρ=[v0,v1,v2,v3,v4,v5,some (.lst (l.map bsD),true),w7]) (de 1 ((l.length:Int) - 1).toNat) [v0,v1,v2,v3,v4,v5,some (.lst (l.map bsD),true),v7] ⟨v7,rfl⟩ (by
  rintro i d ρ hd ⟨w7,rfl⟩;unfold de at hd;rw[List.getElem?_map]at hd;obtain⟨j,hj,rfl⟩:=oY hd;obtain⟨hlt,hj⟩:=List.getElem?_eq_some_iff.mp hj;rw[List.length_range]at hlt;rw[List.getElem_range]at hj;subst hj;have h1:i<l.length:=by omega
  have h2:i+1<l.length:=by omega
  let F:DL.Env:=[v0,v1,v2,v3,v4,v5,some (.lst (l.map bsD),true),some (.int (1+(i:Int)),false)];have q1:f2 ixD (ae 6) (f2 nY (ae 7) (fC (.int 1))) F=some (bsD l[i],false):=by
   refine eoF (.lst (l.map bsD)) (.int (i:Int)) rfl (eoF (.int (1+(i:Int))) (.int 1) rfl rfl ?_) ?_
   ·show some (D.int (1+(i:Int) - 1),false)=_;rw[show 1+(i:Int) - 1=i by omega]
   ·rw[DL.mF (by omega) (by simp;omega),List.getD_eq_getElem?_getD,List.getElem?_map,Int.toNat_natCast,List.getElem?_eq_getElem h1];rfl
  have q2:f2 ixD (ae 6) (ae 7) F=some (bsD l[i+1],false):=by
   refine eoF (.lst (l.map bsD)) (.int (1+(i:Int))) rfl rfl ?_;rw[DL.mF (by omega) (by simp;omega),List.getD_eq_getElem?_getD,List.getElem?_map,show(1+(i:Int)).toNat=i+1 by omega,List.getElem?_eq_getElem h2];rfl
  have hp:=List.pairwise_iff_getElem.mp hu i (i+1) h1 h2 (by omega);exact⟨F,_,rfl,.inl (jo (tkF (eoF (.tup [.int l[i].2,bsD l[i]]) (.tup [.int l[i+1].2,bsD l[i+1]]) (cdD [.int l[i].2,bsD l[i]] (acF (eoF (bsD l[i]) (.int (-1)) q1 rfl (qU _)) (aE q1 rfl)) (bC _ (by simp))) (cdD [.int l[i+1].2,bsD l[i+1]] (acF (eoF (bsD l[i+1]) (.int (-1)) q2 rfl (qU _)) (aE q2 rfl)) (bC _ (by simp))) (Ft hp))) rfl),_,rfl⟩)
 exact⟨w7,gu hr e⟩
theorem law_true (ns:List Int)(_:ns.length<=63):∃b,F_law [.lst (ns.map .int)]=some (.bl true,b):=by
 obtain⟨c0,e0,h0⟩:=fW ns 0;obtain⟨c3,e3,h3⟩:=fW ns 3;obtain⟨c4,e4,h4⟩:=fW ns 4;obtain⟨zs,ez,hz,hzd⟩:=AF c0 h0;have hm3:=mod_lt (x:=c3) (m:=3) (by decide);obtain⟨ms,hms,ems⟩:=lr (ns:=[1,1,500]) (i:=c3 % 3) hm3.1 hm3.2;obtain⟨rows,erw,hrw,hrl,hoff⟩:=CG ns zs hz ms;have hm13:=mod_lt (x:=c3 / 3) (m:=13) (by decide);have hm4:=mod_lt (x:=c4) (m:=3) (by decide);obtain⟨known,hkn,ekn⟩:=lr (ns:=[9999,c3 / 3 % 13*ms]) (i:=c4 % 3 / 2) (by omega) (by simp;omega);have hflat:aZ (.tup rows)=true:=by simp[bL λd hd=>(hrw d hd).flat]
 have hn:((cx (am rows known)).map (a7 0)).Nodup:=by
  refine List.Nodup.sublist (AV rows known) ?_;rw[hoff];refine List.Nodup.sublist (List.take_sublist _ _) ?_;obtain⟨x,hx⟩:∃x,zs[5]? = some x:=⟨_,List.getElem?_eq_getElem (by omega)⟩;obtain⟨y,hy⟩:∃y,zs[6]? = some y:=⟨_,List.getElem?_eq_getElem (by omega)⟩;have e:zs.drop 5=[x,y]:=by
   refine List.ext_getElem? λj=>?_;rw[List.getElem?_drop];match j with
   |0=>exact hx
   |1=>exact hy
   |j+2=>rw[List.getElem?_eq_none (by omega)];rfl
  rw[e];simp[hzd x y hx hy]
 have ho:(eV (am rows known)).length<=60:=by
  unfold eV;rw[(bK _ _).length_eq];exact Nat.le_trans (List.length_filter_le _ _) (Nat.le_trans (cU rows known) (by omega))
 let E:Option (D×Bool)->Option (D×Bool)->Option (D×Bool)->DL.Env:=λv5 v6 v7=>[some (.lst (ns.map .int),false),some (.lst (zs.map .str),true),some (.int ms,false),some (.tup rows,false),some (.int known,false),v5,v6,v7];obtain⟨ρ',el,v5,v6,v7,rfl⟩:=i6 (tg:=tgN 5) (g:=Ax) rows.length (λ_ ρ=>∃v5 v6 v7,ρ=E v5 v6 v7) (E none none none) ⟨none,none,none,rfl⟩ (by
  rintro i ρ hi ⟨v5,v6,v7,rfl⟩;have hr:rows[i]? = some rows[i]:=List.getElem?_eq_getElem hi;obtain⟨a,k,au,er,dk⟩:=hrw _ (List.getElem_mem hi);rw[er]at hr;have ar:=cq hr;have q0:f2 ixD (ae 3) (ae 5) (E (some (.int i,false)) v6 v7)=some (row a k au,false):=eoF (.tup rows) (.int i) rfl rfl (by simp[ar]);have q1:f2 ixD (f2 ixD (ae 3) (ae 5)) (fC (.int 1)) (E (some (.int i,false)) v6 v7)=some (.tup (.str k::au),false):=eoF (row a k au) (.int 1) q0 rfl (by unfold row;simp[at1]);have t1:tOf (f2 dLe (f2 ixD (f2 ixD (ae 3) (ae 5)) (fC (.int 0))) (ae 4)) (E (some (.int i,false)) v6 v7)=some (decide (a<=known)):=tkF (eoF (.int a) (.int known) (eoF (row a k au) (.int 0) q0 rfl (by unfold row;simp[at0])) rfl (by simp));have t2:tOf (f2 dIn (f2 ixD (f2 ixD (f2 ixD (ae 3) (ae 5)) (fC (.int 1))) (fC (.int 0))) (fA aL (ac (fC (.str "leave")) (ac (fC (.str "paper")) (ac (fC (.str "like")) ah))))) (E (some (.int i,false)) v6 v7)=some (decide (k∈cD)):=tkF (eoF (.str k) (.tup (cD.map .str)) (eoF (.tup (.str k::au)) (.int 0) q1 rfl (by simp[at0])) (cdD (cD.map .str) rfl (bC _ (by decide))) (iE _ _));have t12:=dj t1 λ_=>t2;cases hA:(decide (a<=known) && decide (k∈cD)) with
  |false=>
   rw[hA]at t12;exact⟨_,_,rfl,.inl (jo t12 rfl),_,v6,v7,rfl⟩
  |true=>
   rw[hA]at t12;rw[Bool.and_eq_true]at hA;have ka:a<=known:=of_decide_eq_true hA.1;have kr:k∈cD:=of_decide_eq_true hA.2;have edue:=Fu hrw (by omega) known hr kr;have ebas:=AO hrw (by omega) known hn ho hr kr ka;have hsame:=AR (rows:=rows) (known:=known) (dI (am rows known)) (row a k au) i;rw[←hsame]at edue;have hbl:(qV (am rows known) (dI (am rows known)) (row a k au) i).length<=60:=by unfold qV;rw[(bK _ _).length_eq];exact xq (by omega) known _ _ _
   have hup:=Fs hn (dI (am rows known)) (row a k au) i;generalize qV (am rows known) (dI (am rows known)) (row a k au) i=B at ebas hbl hup edue;obtain⟨w7,et⟩:=CN (l:=B) (by omega) hup (some (.lst (ns.map .int),false)) (some (.lst (zs.map .str),true)) (some (.int ms,false)) (some (.tup rows,false)) (some (.int known,false)) (some (.int i,false)) v7;have hc:=gz (fi:=cG (ae 6)) (nT:=1) (cap:=[]) (tg:=tgN 0) (c:=tOf (f2 dNe (ixV 0 0) (fC (.str "office")))) (fe:=ae 0) (ρ:=E (some (.int i,false)) (some (.lst (B.map bsD),true)) v7) B bsD (λb=>b.1.isNone) bsD rfl (by omega) λb _=>by
    refine⟨[some (bsD b,false)],rfl,?_,λ_=>⟨false,rfl⟩⟩;rcases b with⟨_|o,n⟩
    ·exact vq (x:=true) (b:=false) (eoF (.str "leave") (.str "office") rfl rfl (aW (by decide +kernel)))
    ·exact vq (x:=false) (b:=false) (eoF (.str "office") (.str "office") rfl rfl (aW (by decide +kernel)))
   have hp:aj 40 (.lst ((B.filter λb=>b.1.isNone).map bsD))=true:=by
    simp only[aj,List.all_eq_true];intro d hd;obtain⟨b,_,rfl⟩:=List.mem_map.mp hd;exact yC b
   refine⟨_,E (some (.int i,false)) (some (.lst (B.map bsD),true)) w7,rfl,.inl (iR t12 (bX (ds:=B.map bsD) (cdD [.tup rows,.int known,.int i] rfl ebas) (AT B) (aB (ci (p:=true) (tkF (cdD [.lst (B.map bsD),.ty "list"] rfl (aW rfl)))) (aB (tkF (gw (b1:=true) (b2:=true) hc (cdD [.tup rows,.int known,.int i] rfl edue) (AS hp))) et)))),_,_,_,rfl⟩)
 refine⟨false,ay rfl (bX (ds:=zs.map .str) (cdD [.int c0] (aE (cdD [.lst (ns.map .int),.int ((0:Nat):Int)] rfl e0) rfl) ez) (cR zs) (rfF (.int ms) ?_ rfl (rfF (.tup rows) (cdD [.lst (ns.map .int),.lst (zs.map .str),.int ms,.int 14] rfl erw) hflat (rfF (.int known) ?_ rfl (d3 (gu (fm (j:=rows.length) (b:=false) (by simp) (by omega)) el) (a9 rfl))))))⟩
 ·exact gw (x:=.lst (([1,1,500]:List Int).map .int)) (y:=.int (c3 % 3)) (b1:=true) (b2:=false) (by simp[sizeLine]) (eoF (.int c3) (.int 3) (cdD [.lst (ns.map .int),.int ((3:Nat):Int)] rfl e3) rfl (by simp)) ems
 ·exact gw (x:=.lst (([9999,c3 / 3 % 13*ms]:List Int).map .int)) (y:=.int (c4 % 3 / 2)) (b1:=true) (b2:=false) (cdD [.int 9999,.int (c3 / 3 % 13*ms)] (acF rfl (acF (eoF (.int (c3 / 3 % 13)) (.int ms) (eoF (.int (c3 / 3)) (.int 13) (eoF (.int c3) (.int 3) (cdD [.lst (ns.map .int),.int ((3:Nat):Int)] rfl e3) rfl (by simp)) rfl (by simp)) rfl (nK (by omega))) rfl)) (jr _ (by simp))) (eoF (.int (c4 % 3)) (.int 2) (eoF (.int c4) (.int 3) (cdD [.lst (ns.map .int),.int ((4:Nat):Int)] rfl e4) rfl (by simp)) rfl (by simp)) ekn
end Lw
namespace Lw
open PySem PySem.Spec PyProof.Rows L2 DL
theorem bJ {X:Cx}{es:List Expr}{g:FA}{i:Int}{j:Nat}{pos:Pos}(hr:JA X es g):JA X (.Constant (.int i) j pos::es) (ac (fC (.int i)) g):=aa ag hr
noncomputable def top (i:Nat):Stmt:=PySem.Challenge.pw_sealchain_k26_leaves_that_bear.main.body.getD i (.Pass ⟨0,0,0,0⟩)
structure Tx (K:PySem.W.Frag)(P:Params)(mg:Str->Option Value):Prop where
 n_all:mg "all" = none
 n_dict:mg "dict" = none
 n_enumerate:mg "enumerate" = none
 n_int:mg "int" = none
 n_isinstance:mg "isinstance" = none
 n_len:mg "len" = none
 n_list:mg "list" = none
 n_max:mg "max" = none
 n_min:mg "min" = none
 n_range:mg "range" = none
 n_set:mg "set" = none
 n_sorted:mg "sorted" = none
 n_tuple:mg "tuple" = none
 k_PAPERS:∃u v,mg "PAPERS" = some u/\aS v u/\∀B,Is K B v mG
 k_PARTS:∃d,mg "PARTS" = some (.ref d)/\oP K P d eD
 k_SEALINGS:∃u v,mg "SEALINGS" = some u/\aS v u/\∀B,Is K B v dW
section
variable {P:Program}{w:World}{K:PySem.W.Frag}{mg:Str->Option Value}{base h:Heap}
section
variable (P:Program) (w:World) (base:Heap) {K:PySem.W.Frag}{mg:Str->Option Value}{h:Heap}(T:Tx K w.params mg) (X:K.In h) (G:h.Ns mainGlobals mg)
include T X G
theorem vH (F:Def K "word_of" (top 7))  : Fn P w K mg base 1 "word_of" aC:=F.fq X G ["row"] 1 λnd _ _ _ _ _ _ _ hr hu=>(show JSs _ _ pz from
  (ao (a8 (az (az (ab 0) ag) ag))))
theorem vI (F:Def K "part_of" (top 8))(f_word_of:Fn P w K mg base 1 "word_of" aC):Fn P w K mg base 2 "part_of" ai:=F.fq X G ["row","part"] 2 λnd _ _ _ _ _ _ _ hr hu=>(show JSs _ _ p0 from
  (ao (a8 (az (az (ab 0) ag) (aq aX ag (Ci T.k_PARTS (av f_word_of hr (aa (ab 0) af)) (ab 1)))))))
theorem yD (F:Def K "day_of" (top 9))(f_word_of:Fn P w K mg base 1 "word_of" aC)(f_part_of:Fn P w K mg base 2 "part_of" ai):Fn P w K mg base 3 "day_of" aK:=F.fq X G ["row"] 1 λnd _ _ _ _ _ _ _ hr hu=>(show JSs _ _ tu from
  (ak (bg (aI (cn hu) (av f_word_of hr (aa (ab 0) af)) aw) (ao (a8 cF)) aU)
   (ao (a8 (av f_part_of hr (aa (ab 0) (aa aw af)))))))
theorem AW (F:Def K "heard" (top 11))  : Fn P w K mg base 1 "heard" bO:=F.fq X G ["book","known"] 2 λnd _ _ _ _ _ _ _ hr hu=>(show JSs _ _ wK from
  (ao (a8 (iw ["number","row","known"] (cpC rfl rfl (.nil rfl)) (Cb T.n_enumerate (ab 0)) (λ_ _ _ _=>Ea rfl (ju (pgC 0) (ju (pgC 1) vP))) (GG (by decide)) (λ_ _ _ _=>(dR (aI iX (az (ab 1) ag) (ab 2)))) (λ_ _ _ _=>(ab 0))))))
theorem CO (F:Def K "rank" (top 13))(f_day_of:Fn P w K mg base 3 "day_of" aK):Fn P w K mg base 4 "rank" c8:=F.fq X G ["book","number"] 2 λnd _ _ _ _ _ _ _ hr hu=>(show JSs _ _ Aw from
  (ao (a8 (aM (aa (av f_day_of hr (aa (az (ab 0) (ab 1)) af)) (aa (ab 1) af))))))
theorem ua (F:Def K "in_order" (top 15))(f_day_of:Fn P w K mg base 3 "day_of" aK)(f_heard:Fn P w K mg base 1 "heard" bO)(f_rank:Fn P w K mg base 4 "rank" c8)(l_in_order:mn K "in_order"):Fn P w K mg base 8 "in_order" dX:=F.fqL X G ["book","known","dated"] 2 λnd _ _ _ _ _ _ _ hcd hr hu=>(show JSs _ _ mH from
  (ak (m9 ["number","book"] nd (cpC rfl rfl (.nil rfl)) (cK (av f_heard hr (aa (ab 0) (aa (ab 1) af)))) (λ_ _ _ _=>pgC 0) (bF (by decide)) (λ_ _ _ _=>(dR (aI lE (av f_day_of hr (aa (az (ab 1) (ab 0)) af)) cF))) (λ_ _ _ _=>(ab 0)))
   (ao (a8 (zY zW T.n_sorted (ab 2) (qx (cap:=[0]) (N':=["number","book"]) (by decide +kernel) l_in_order hcd rfl rfl (w4 (by decide +kernel) rfl rfl rfl rfl rfl) rfl (.cons rfl rfl (Or.inl rfl) rfl (lB (by decide +kernel) rfl) (.nil rfl)) rfl hr.in1.in1 (λ_ _ _ _=>rfl) λ_ _ _ _ hr=>have hu:=uO hr;(av f_rank hr (aa (ab 1) (aa (ab 0) af)))))))))
theorem qW (F:Def K "by_office" (top 27))  : Fn P w K mg base 1 "by_office" d4:=F.fq X G ["claim"] 1 λnd _ _ _ _ _ _ _ hr hu=>(show JSs _ _ kU from
  (ao (a8 (aM (aa (az (ab 0) ag) (aa (az (ab 0) ag) (aa (az (ab 0) ag) af)))))))
theorem AX (F:Def K "roots" (top 16))(f_word_of:Fn P w K mg base 1 "word_of" aC)(f_part_of:Fn P w K mg base 2 "part_of" ai)(f_heard:Fn P w K mg base 1 "heard" bO):Fn P w K mg base 3 "roots" eY:=F.fq X G ["book","known","known_rows"] 2 λnd _ _ _ _ _ _ _ hr hu=>(show JSs _ _ wL from
  (ak (m9 ["number","book"] nd (cpC rfl rfl (.nil rfl)) (cK (av f_heard hr (aa (ab 0) (aa (ab 1) af)))) (λ_ _ _ _=>pgC 0) (bF (by decide)) (λ_ _ _ _=>lP) (λ_ _ _ _=>(az (ab 1) (ab 0))))
   (ao (a8 (gh (Fc rfl) T.n_dict Fb (aa (iw ["row"] (.nil rfl) (cK (ab 2)) (λ_ _ _ _=>pgC 0) (bF (by decide)) (λ_ _ _ _=>(dR (aI (cn hu) (av f_word_of hr (aa (ab 0) af)) aw))) (λ_ _ _ _=>(aM (aa (av f_part_of hr (aa (ab 0) (aa aw af))) (aa (ab 0) af))))) af))))))
theorem uc (F:Def K "is_known" (top 12))  : Fn P w K mg base 1 "is_known" bR:=F.fq X G ["book","known","number"] 3 λnd _ _ _ _ _ _ _ hr hu=>(show JSs _ _ mI from
  (ao (a8 (dS (zq iX lR ag (ab 2) (bI gk T.n_len gm (aa (ab 0) af))) (dA (bG iX (az (az (ab 0) (ab 2)) ag) (ab 1)))))))
theorem AY (F:Def K "tells" (top 19))(f_word_of:Fn P w K mg base 1 "word_of" aC)(f_part_of:Fn P w K mg base 2 "part_of" ai)(f_day_of:Fn P w K mg base 3 "day_of" aK):Fn P w K mg base 4 "tells" jH:=F.fq X G ["row","words","person","day"] 4 λnd _ _ _ _ _ _ _ hr hu=>(show JSs _ _ wM from
  (ao (a8 (dS (bG si (av f_word_of hr (aa (ab 0) af)) (ab 1)) (dS (bG (cn hu) (av f_part_of hr (aa (ab 0) (aa aw af))) (ab 2)) (dA (bG iX (av f_day_of hr (aa (ab 0) af)) (ab 3))))))))
theorem vJ (F:Def K "told_of" (top 20))(f_heard:Fn P w K mg base 1 "heard" bO)(f_tells:Fn P w K mg base 4 "tells" jH):Fn P w K mg base 5 "told_of" cY:=F.fq X G ["book","known","words","person","day"] 5 λnd _ _ _ _ _ _ _ hr hu=>(show JSs _ _ p4 from
  (ao (a8 (iw ["number","words","person","day","book"] (cpC rfl rfl (cpC rfl rfl (cpC rfl rfl (cpC rfl rfl (.nil rfl))))) (cK (av f_heard hr (aa (ab 0) (aa (ab 1) af)))) (λ_ _ _ _=>pgC 0) (bF (by decide)) (λ_ _ _ _=>(dR (cy (av f_tells hr (aa (az (ab 4) (ab 0)) (aa (ab 1) (aa (ab 2) (aa (ab 3) af)))))))) (λ_ _ _ _=>(ab 0))))))
theorem AZ (F:Def K "lives" (top 21))(f_told_of:Fn P w K mg base 5 "told_of" cY):Fn P w K mg base 6 "lives" gM:=F.fq X G ["book","known","person","day"] 4 λnd _ _ _ _ _ _ _ hr hu=>(show JSs _ _ wN from
  (ao (a8 (bG (cn hu) (bI gk T.n_len gm (aa (av f_told_of hr (aa (ab 0) (aa (ab 1) (aa (aM (aa aw af)) (aa (ab 2) (aa (ab 3) af)))))) af)) ag))))
theorem ud (F:Def K "has_seal" (top 22))(f_word_of:Fn P w K mg base 1 "word_of" aC)(f_rank:Fn P w K mg base 4 "rank" c8)(f_told_of:Fn P w K mg base 5 "told_of" cY)(l_has_seal:mn K "has_seal"):Fn P w K mg base 8 "has_seal" gN:=F.fqL X G ["book","known","person","day","told"] 4 λnd _ _ _ _ _ _ _ hcd hr hu=>(show JSs _ _ mJ from
  (ak (aD (i:=4) nd (av f_told_of hr (aa (ab 0) (aa (ab 1) (aa (aM (aa aw (aa aw af))) (aa (ab 2) (aa (ab 3) af)))))))
   (ak (bg (aI (cn hu) (bI gk T.n_len gm (aa (ab 4) af)) ag) (ao (a8 gg)) aU)
   (ao (a8 (bG (cn hu) (av f_word_of hr (aa (az (ab 0) (sZ mmx T.n_max (ab 4) (qx (cap:=[0]) (N':=["number","book"]) (by decide +kernel) l_has_seal hcd rfl rfl (w4 (by decide +kernel) rfl rfl rfl rfl rfl) rfl (.cons rfl rfl (Or.inl rfl) rfl (lB (by decide +kernel) rfl) (.nil rfl)) rfl hr.in1 (λ_ _ _ _=>rfl) λ_ _ _ _ hr=>have hu:=uO hr;(av f_rank hr (aa (ab 1) (aa (ab 0) af)))) hr)) af)) aw))))))
theorem ue (F:Def K "is_sound" (top 23))(f_word_of:Fn P w K mg base 1 "word_of" aC)(f_part_of:Fn P w K mg base 2 "part_of" ai)(f_day_of:Fn P w K mg base 3 "day_of" aK)(f_is_known:Fn P w K mg base 1 "is_known" bR)(f_lives:Fn P w K mg base 6 "lives" gM)(f_has_seal:Fn P w K mg base 8 "has_seal" gN):Fn P w K mg base 9 "is_sound" gO:=F.fq X G ["book","known","number","sealer","day"] 3 λnd _ _ _ _ _ _ _ hr hu=>(show JSs _ _ mK from
  (ak (bg (jj (j6 (fz (cy (av f_is_known hr (aa (ab 0) (aa (ab 1) (aa (ab 2) af)))))) (ji (aI lT (av f_word_of hr (aa (az (ab 0) (ab 2)) af)) (sf T.k_SEALINGS))))) (ao (a8 gg)) aU)
   (ak (aD (i:=3) nd (av f_part_of hr (aa (az (ab 0) (ab 2)) (aa aw af))))
   (ak (aD (i:=4) nd (av f_day_of hr (aa (az (ab 0) (ab 2)) af)))
   (ao (a8 (dS (av f_lives hr (aa (ab 0) (aa (ab 1) (aa (ab 3) (aa (ab 4) af))))) (dA (av f_has_seal hr (aa (ab 0) (aa (ab 1) (aa (ab 3) (aa (ab 4) af)))))))))))))
theorem vK (F:Def K "lies_in" (top 1))  : Fn P w K mg base 1 "lies_in" dY:=F.fq X G ["day","stretch"] 2 λnd _ _ _ _ _ _ _ hr hu=>(show JSs _ _ p5 from
  (ao (a8 (dS (bG iX (az (ab 1) ag) (ab 0)) (dA (zu (bG xS (az (ab 1) ag) cF) (dA (bG lR (ab 0) (az (ab 1) ag)))))))))
theorem ug (F:Def K "is_alive" (top 25))(f_lies_in:Fn P w K mg base 1 "lies_in" dY):Fn P w K mg base 2 "is_alive" b9:=F.fq X G ["claim","day"] 2 λnd _ _ _ _ _ _ _ hr hu=>(show JSs _ _ mL from
  (ao (a8 (av f_lies_in hr (aa (ab 1) (aa (aM (aa (az (ab 0) ag) (aa (az (ab 0) ag) af))) af))))))
theorem uh (F:Def K "by_since" (top 26))  : Fn P w K mg base 1 "by_since" bS:=F.fq X G ["claim"] 1 λnd _ _ _ _ _ _ _ hr hu=>(show JSs _ _ mM from
  (ao (a8 (aM (aa (az (ab 0) ag) (aa (az (ab 0) ag) af))))))
theorem ui (F:Def K "chief_of" (top 28))(f_by_since:Fn P w K mg base 1 "by_since" bS):Fn P w K mg base 5 "chief_of" gP:=F.fq X G ["alive","rule"] 2 λnd _ _ _ _ _ _ _ hr hu=>(show JSs _ _ mN from
  (ak (bg (aI (cn hu) (ab 1) aw) (ao (a8 (az (sZ mmx T.n_max (ab 0) (w6 f_by_since (hr.in1.mono (by decide)) rfl) hr) ag))) aU)
   (ao (a8 (az (sZ mmn T.n_min (ab 0) (w6 f_by_since (hr.in1.mono (by decide)) rfl) hr) ag)))))
theorem qX (F:Def K "holder_by" (top 29))(f_part_of:Fn P w K mg base 2 "part_of" ai)(f_is_alive:Fn P w K mg base 2 "is_alive" b9)(f_by_since:Fn P w K mg base 1 "by_since" bS)(f_chief_of:Fn P w K mg base 5 "chief_of" gP):Fn P w K mg base 6 "holder_by" bY:=F.fq X G ["claimed","root","day","alive","people","person","oldest"] 3 λnd _ _ _ _ _ _ _ hr hu=>(show JSs _ _ kW from
  (ak (m9 ["claim","day","root"] nd (cpC rfl rfl (cpC rfl rfl (.nil rfl))) (cK (ab 0)) (λ_ _ _ _=>pgC 0) (bF (by decide)) (λ_ _ _ _=>(dR (jj (fZ (aI (cn hu) (az (ab 0) ag) (av f_part_of hr (aa (ab 2) (aa aw af)))) (fQ (cy (av f_is_alive hr (aa (ab 0) (aa (ab 1) af))))))))) (λ_ _ _ _=>(ab 0)))
   (ak (aD (i:=4) nd (mh rfl T.n_sorted T.n_set (iw ["claim"] (.nil rfl) (cK (ab 3)) (λ_ _ _ _=>pgC 0) (bF (by decide)) (λ_ _ _ _=>lP) (λ_ _ _ _=>(az (ab 0) ag)))))
   (ak (bg (aI (cn hu) (bI gk T.n_len gm (aa (ab 4) af)) ag) (ao (a8 (aM (aa aw af)))) aU)
   (ak (bg (jj (fZ (aI E8 (bI gk T.n_len gm (aa (ab 4) af)) ag) (fQ (aI (cn hu) (av f_part_of hr (aa (ab 1) (aa aw af))) aw)))) (ao (a8 (aM (aa aw (aa (ab 4) af))))) aU)
   (ak (aD (i:=5) nd (av f_chief_of hr (aa (ab 3) (aa (av f_part_of hr (aa (ab 1) (aa aw af))) af))))
   (ak (aD (i:=6) nd (sZ mmn T.n_min (iw ["claim","person"] (cpC rfl rfl (.nil rfl)) (cK (ab 3)) (λ_ _ _ _=>pgC 0) (bF (by decide)) (λ_ _ _ _=>(dR (aI (cn hu) (az (ab 0) ag) (ab 1)))) (λ_ _ _ _=>(ab 0))) (w6 f_by_since (hr.in1.mono (by decide)) rfl) hr))
   (ao (a8 (aM (aa aw (aa (ab 5) (aa (az (ab 6) ag) af)))))))))))))
theorem oz (F:Def K "is_held_by" (top 30))(f_holder_by:Fn P w K mg base 6 "holder_by" bY):Fn P w K mg base 7 "is_held_by" bZ:=F.fq X G ["claimed","root","person","day"] 4 λnd _ _ _ _ _ _ _ hr hu=>(show JSs _ _ jI from
  (ao (a8 (bG (cn hu) (zB (av f_holder_by hr (aa (ab 0) (aa (ab 1) (aa (ab 3) af)))) BO (BP ag)) (aM (aa aw (aa (ab 2) af)))))))
theorem jY (F:Def K "is_first_death" (top 31))(f_part_of:Fn P w K mg base 2 "part_of" ai)(f_day_of:Fn P w K mg base 3 "day_of" aK)(f_rank:Fn P w K mg base 4 "rank" c8)(f_told_of:Fn P w K mg base 5 "told_of" cY)(l_is_first_death:mn K "is_first_death"):Fn P w K mg base 8 "is_first_death" cZ:=F.fqL X G ["book","known","number","row","deaths"] 3 λnd _ _ _ _ _ _ _ hcd hr hu=>(show JSs _ _ g7 from
  (ak (aD (i:=3) nd (az (ab 0) (ab 2)))
   (ak (aD (i:=4) nd (av f_told_of hr (aa (ab 0) (aa (ab 1) (aa (aM (aa aw af)) (aa (av f_part_of hr (aa (ab 3) (aa aw af))) (aa (av f_day_of hr (aa (ab 3) af)) af)))))))
   (ao (a8 (bG (cn hu) (sZ mmn T.n_min (ab 4) (qx (cap:=[0]) (N':=["each","book"]) (by decide +kernel) l_is_first_death hcd rfl rfl (w4 (by decide +kernel) rfl rfl rfl rfl rfl) rfl (.cons rfl rfl (Or.inl rfl) rfl (lB (by decide +kernel) rfl) (.nil rfl)) rfl hr.in1 (λ_ _ _ _=>rfl) λ_ _ _ _ hr=>have hu:=uO hr;(av f_rank hr (aa (ab 1) (aa (ab 0) af)))) hr) (ab 2)))))))
theorem yE (F:Def K "counts" (top 32))(f_word_of:Fn P w K mg base 1 "word_of" aC)(f_part_of:Fn P w K mg base 2 "part_of" ai)(f_day_of:Fn P w K mg base 3 "day_of" aK)(f_roots:Fn P w K mg base 3 "roots" eY)(f_is_sound:Fn P w K mg base 9 "is_sound" gO)(f_is_held_by:Fn P w K mg base 7 "is_held_by" bZ)(f_is_first_death:Fn P w K mg base 8 "is_first_death" cZ):Fn P w K mg base 10 "counts" iA:=F.fq X G ["book","known","so_far","number","row","root"] 4 λnd _ _ _ _ _ _ _ hr hu=>(show JSs _ _ tw from
  (ak (aD (i:=4) nd (az (ab 0) (ab 3)))
   (ak (bg (aI (cn hu) (av f_word_of hr (aa (ab 4) af)) aw) (ao (a8 (av f_is_first_death hr (aa (ab 0) (aa (ab 1) (aa (ab 3) af)))))) aU)
   (ak (bg (aI lT (av f_word_of hr (aa (ab 4) af)) (aM (aa aw (aa aw (aa aw af))))) (ao (a8 gg)) aU)
   (ak (aD (i:=5) nd (Af (hu1 hu) (av f_roots hr (aa (ab 0) (aa (ab 1) af))) (av f_part_of hr (aa (ab 4) (aa aw af))) ⟨rfl,rfl,rfl,rfl⟩))
   (ak (bg (aI xS (ab 5) cF) (ao (a8 gg)) aU)
   (ak (bg (aI (cn hu) (av f_word_of hr (aa (ab 4) af)) aw) (ao (a8 gg)) aU)
   (ao (a8 (dS (av f_is_sound hr (aa (ab 0) (aa (ab 1) (aa (ab 3) af)))) (dA (av f_is_held_by hr (aa (ab 2) (aa (ab 5) (aa (av f_part_of hr (aa (ab 4) (aa aw af))) (aa (av f_day_of hr (aa (ab 4) af)) af))))))))))))))))
theorem qY (F:Def K "new_claim" (top 33))(f_part_of:Fn P w K mg base 2 "part_of" ai):Fn P w K mg base 3 "new_claim" cP:=F.fq X G ["row","since","number"] 3 λnd _ _ _ _ _ _ _ hr hu=>(show JSs _ _ kX from
  (ao (a8 (aM (aa (av f_part_of hr (aa (ab 0) (aa aw af))) (aa (av f_part_of hr (aa (ab 0) (aa aw af))) (aa (ab 1) (aa cF (aa (ab 2) af)))))))))
theorem Ba (F:Def K "ended" (top 34))(f_is_alive:Fn P w K mg base 2 "is_alive" b9):Fn P w K mg base 3 "ended" iN:=F.fq X G ["so_far","offices","person","day","left","claim"] 4 λnd _ _ _ _ _ _ _ hr hu=>(show JSs _ _ wO from
  (ak (aD (i:=4) nd (bq af))
   (ak (As (cK (ab 0)) (pgV 5 nd) d8 (ao (bg (jj (j6 (aI lT (az (ab 5) ag) (ab 1)) (j6 (aI (zx hu) (az (ab 5) ag) (ab 2)) (ji (fz (jj (j6 (cy (av f_is_alive hr (aa (ab 5) (aa (ab 3) af)))) (ji (aI E8 (az (ab 5) ag) (ab 3)))))))))) (ao (f7 (i:=4) (ab 5))) (ao (bg (aI lR (az (ab 5) ag) (ab 3)) (ao (f7 (i:=4) (aM (aa (az (ab 5) ag) (aa (ab 2) (aa (az (ab 5) ag) (aa (ab 3) (aa (az (ab 5) ag) af)))))))) aU)))))
   (ao (lD 4)))))
theorem l8 (F:Def K "after_choice" (top 35))(f_part_of:Fn P w K mg base 2 "part_of" ai)(f_new_claim:Fn P w K mg base 3 "new_claim" cP)(f_ended:Fn P w K mg base 3 "ended" iN):Fn P w K mg base 4 "after_choice" dE:=F.fq X G ["so_far","row","number","since","left"] 3 λnd _ _ _ _ _ _ _ hr hu=>(show JSs _ _ iB from
  (ak (aD (i:=3) nd (av f_part_of hr (aa (ab 1) (aa aw af))))
   (ak (aD (i:=4) nd (av f_ended hr (aa (ab 0) (aa (bq (aa (av f_part_of hr (aa (ab 1) (aa aw af))) af)) (aa (av f_part_of hr (aa (ab 1) (aa aw af))) (aa (ab 3) af))))))
   (ao (a8 (aq aX (ab 4) (bq (aa (av f_new_claim hr (aa (ab 1) (aa (ab 3) (aa (ab 2) af)))) af))))))))
theorem qZ (F:Def K "inherited" (top 36))(f_part_of:Fn P w K mg base 2 "part_of" ai)(f_day_of:Fn P w K mg base 3 "day_of" aK)(f_lives:Fn P w K mg base 6 "lives" gM)(f_is_alive:Fn P w K mg base 2 "is_alive" b9):Fn P w K mg base 7 "inherited" fT:=F.fq X G ["book","known","so_far","heirs","number","person","day","told","office","heir"] 5 λnd _ _ _ _ _ _ _ hr hu=>(show JSs _ _ kY from
  (ak (aD (i:=5) nd (av f_part_of hr (aa (az (ab 0) (ab 4)) (aa aw af))))
   (ak (aD (i:=6) nd (av f_day_of hr (aa (az (ab 0) (ab 4)) af)))
   (ak (aD (i:=7) nd (bq af))
   (ak (GI [5,6] (As (cK (mh rfl T.n_sorted T.n_set (iw ["claim","person","day"] (cpC rfl rfl (cpC rfl rfl (.nil rfl))) (cK (ab 2)) (λ_ _ _ _=>pgC 0) (bF (by decide)) (λ_ _ _ _=>(dR (jj (fZ (aI (cn hu) (az (ab 0) ag) (ab 1)) (fQ (cy (av f_is_alive hr (aa (ab 0) (aa (ab 2) af))))))))) (λ_ _ _ _=>(az (ab 0) ag))))) (pgV 8 nd) d8 (ak (aD (i:=9) nd (Al (hu1 hu) (ab 3) (aa (ab 8) (aa (ab 5) af)) ⟨rfl,rfl,rfl,rfl⟩))
   (ao (bg (jj (fZ (aI lE (ab 9) cF) (fQ (cy (av f_lives hr (aa (ab 0) (aa (ab 1) (aa (ab 9) (aa (ab 6) af))))))))) (ao (f7 (i:=7) (aM (aa (ab 8) (aa (ab 9) (aa (ab 6) (aa cF (aa (ab 4) af)))))))) aU)))))
   (ao (lD 7)))))))
theorem nO (F:Def K "after_death" (top 37))(f_part_of:Fn P w K mg base 2 "part_of" ai)(f_day_of:Fn P w K mg base 3 "day_of" aK)(f_ended:Fn P w K mg base 3 "ended" iN)(f_inherited:Fn P w K mg base 7 "inherited" fT):Fn P w K mg base 8 "after_death" eE:=F.fq X G ["book","known","so_far","heirs","number","offices","left"] 5 λnd _ _ _ _ _ _ _ hr hu=>(show JSs _ _ jc from
  (ak (m9 ["claim"] nd (.nil rfl) (cK (ab 2)) (λ_ _ _ _=>pgC 0) (bF (by decide)) (λ_ _ _ _=>lP) (λ_ _ _ _=>(az (ab 0) ag)))
   (ak (aD (i:=6) nd (av f_ended hr (aa (ab 2) (aa (ab 5) (aa (av f_part_of hr (aa (az (ab 0) (ab 4)) (aa aw af))) (aa (av f_day_of hr (aa (az (ab 0) (ab 4)) af)) af))))))
   (ao (a8 (aq aX (ab 6) (av f_inherited hr (aa (ab 0) (aa (ab 1) (aa (ab 2) (aa (ab 3) (aa (ab 4) af))))))))))))
theorem yF (F:Def K "claims" (top 38))(f_word_of:Fn P w K mg base 1 "word_of" aC)(f_part_of:Fn P w K mg base 2 "part_of" ai)(f_day_of:Fn P w K mg base 3 "day_of" aK)(f_in_order:Fn P w K mg base 8 "in_order" dX)(f_by_office:Fn P w K mg base 1 "by_office" d4)(f_counts:Fn P w K mg base 10 "counts" iA)(f_new_claim:Fn P w K mg base 3 "new_claim" cP)(f_after_choice:Fn P w K mg base 4 "after_choice" dE)(f_after_death:Fn P w K mg base 8 "after_death" eE):Fn P w K mg base 11 "claims" jJ:=F.fq X G ["book","known","so_far","heirs","number","row"] 2 λnd _ _ _ _ _ _ _ hr hu=>(show JSs _ _ tz from
  (ak (aD (i:=2) nd (bq af))
   (ak (Cr (i:=3) nd)
   (ak (As (cK (av f_in_order hr (aa (ab 0) (aa (ab 1) af)))) (pgV 4 nd) d8 (ak (aD (i:=5) nd (az (ab 0) (ab 4)))
   (ak (bg (fz (cy (av f_counts hr (aa (ab 0) (aa (ab 1) (aa (ab 2) (aa (ab 4) af))))))) (ao BX) aU)
   (ao (bg (aI (cn hu) (av f_word_of hr (aa (ab 5) af)) aw) (ao (aD (i:=2) nd (aq aX (ab 2) (bq (aa (av f_new_claim hr (aa (ab 5) (aa (av f_day_of hr (aa (ab 5) af)) (aa (ab 4) af)))) af))))) (ao (bg (aI (cn hu) (av f_word_of hr (aa (ab 5) af)) aw) (ao (aD (i:=2) nd (av f_after_choice hr (aa (ab 2) (aa (ab 5) (aa (ab 4) af)))))) (ao (bg (aI (cn hu) (av f_word_of hr (aa (ab 5) af)) aw) (ao (Cs (i:=3) (hu1 hu) (av f_part_of hr (aa (ab 5) (aa aw af))) (aa (av f_part_of hr (aa (ab 5) (aa aw af))) (aa (av f_part_of hr (aa (ab 5) (aa aw af))) af)))) (ao (aD (i:=2) nd (av f_after_death hr (aa (ab 0) (aa (ab 1) (aa (ab 2) (aa (ab 3) (aa (ab 4) af)))))))))))))))))
   (ao (a8 (zY zW T.n_sorted (ab 2) (w6 f_by_office (hr.in1.in1.mono (by decide)) rfl))))))))
theorem uj (F:Def K "is_paper" (top 41))(f_word_of:Fn P w K mg base 1 "word_of" aC)(f_is_known:Fn P w K mg base 1 "is_known" bR):Fn P w K mg base 2 "is_paper" dZ:=F.fq X G ["book","known","number"] 3 λnd _ _ _ _ _ _ _ hr hu=>(show JSs _ _ mP from
  (ao (a8 (dS (av f_is_known hr (aa (ab 0) (aa (ab 1) (aa (ab 2) af)))) (dA (bG si (av f_word_of hr (aa (az (ab 0) (ab 2)) af)) (sf T.k_PAPERS)))))))
theorem ul (F:Def K "is_leave" (top 42))(f_word_of:Fn P w K mg base 1 "word_of" aC)(f_is_known:Fn P w K mg base 1 "is_known" bR):Fn P w K mg base 2 "is_leave" dw:=F.fq X G ["book","known","number"] 3 λnd _ _ _ _ _ _ _ hr hu=>(show JSs _ _ mQ from
  (ao (a8 (dS (av f_is_known hr (aa (ab 0) (aa (ab 1) (aa (ab 2) af)))) (dA (bG (cn hu) (av f_word_of hr (aa (az (ab 0) (ab 2)) af)) aw))))))
theorem um (F:Def K "is_borne" (top 43))(f_is_paper:Fn P w K mg base 2 "is_paper" dZ)(f_is_leave:Fn P w K mg base 2 "is_leave" dw):Fn P w K mg base 3 "is_borne" gQ:=F.fq X G ["book","known","number"] 3 λnd _ _ _ _ _ _ _ hr hu=>(show JSs _ _ mR from
  (ao (a8 (zu (av f_is_leave hr (aa (ab 0) (aa (ab 1) (aa (ab 2) af)))) (dA (av f_is_paper hr (aa (ab 0) (aa (ab 1) (aa (ab 2) af)))))))))
theorem yG (F:Def K "covers" (top 4))  : Fn P w K mg base 1 "covers" g8:=F.fq X G ["matters","some"] 2 λnd _ _ _ _ _ _ _ hr hu=>(show JSs _ _ mS from
  (ao (a8 (bG (cn hu) (aq zv (ab 0) (ab 1)) (ab 1)))))
theorem re (F:Def K "reach_bar" (top 44))(f_covers:Fn P w K mg base 1 "covers" g8)(f_word_of:Fn P w K mg base 1 "word_of" aC)(f_part_of:Fn P w K mg base 2 "part_of" ai):Fn P w K mg base 3 "reach_bar" d5:=F.fq X G ["row","above"] 2 λnd _ _ _ _ _ _ _ hr hu=>(show JSs _ _ kZ from
  (ak (bg (fz (cy (av f_covers hr (aa (av f_part_of hr (aa (ab 1) (aa aw af))) (aa (av f_part_of hr (aa (ab 0) (aa aw af))) af))))) (ao (a8 aw)) aU)
   (ak (bg (jj (fZ (aI (cn hu) (av f_word_of hr (aa (ab 0) af)) aw) (fQ (aI HA (av f_part_of hr (aa (ab 0) (aa aw af))) (av f_part_of hr (aa (ab 1) (aa aw af))))))) (ao (a8 aw)) aU)
   (ao (a8 cF)))))
theorem o0 (F:Def K "office_bar" (top 45))(f_part_of:Fn P w K mg base 2 "part_of" ai)(f_day_of:Fn P w K mg base 3 "day_of" aK)(f_is_held_by:Fn P w K mg base 7 "is_held_by" bZ)(f_reach_bar:Fn P w K mg base 3 "reach_bar" d5):Fn P w K mg base 8 "office_bar" dF:=F.fq X G ["claimed","row","root"] 3 λnd _ _ _ _ _ _ _ hr hu=>(show JSs _ _ jK from
  (ak (bg (fz (cy (av f_is_held_by hr (aa (ab 0) (aa (ab 2) (aa (av f_part_of hr (aa (ab 1) (aa aw af))) (aa (av f_day_of hr (aa (ab 1) af)) af))))))) (ao (a8 aw)) aU)
   (ao (a8 (av f_reach_bar hr (aa (ab 1) (aa (ab 2) af)))))))
theorem lA (F:Def K "office_bases" (top 48))(f_part_of:Fn P w K mg base 2 "part_of" ai)(f_day_of:Fn P w K mg base 3 "day_of" aK)(f_roots:Fn P w K mg base 3 "roots" eY)(f_holder_by:Fn P w K mg base 6 "holder_by" bY)(f_office_bar:Fn P w K mg base 8 "office_bar" dF):Fn P w K mg base 9 "office_bases" dG:=F.fq X G ["book","known","claimed","number","row","bearing"] 4 λnd _ _ _ _ _ _ _ hr hu=>(show JSs _ _ iC from
  (ak (aD (i:=4) nd (az (ab 0) (ab 3)))
   (ak (m9 ["root","claimed","row"] nd (cpC rfl rfl (cpC rfl rfl (.nil rfl))) (Cw (av f_roots hr (aa (ab 0) (aa (ab 1) af)))) (λ_ _ _ _=>pgC 0) (bF (by decide)) (λ_ _ _ _=>(dR (aI xS (av f_office_bar hr (aa (ab 1) (aa (ab 2) (aa (ab 0) af)))) cF))) (λ_ _ _ _=>(ab 0)))
   (ao (a8 (iw ["root","claimed","row"] (cpC rfl rfl (cpC rfl rfl (.nil rfl))) (cK (ab 5)) (λ_ _ _ _=>pgC 0) (bF (by decide)) (λ_ _ _ _=>lP) (λ_ _ _ _=>(aM (aa aw (aa (av f_part_of hr (aa (ab 0) (aa aw af))) (aa (az (av f_holder_by hr (aa (ab 1) (aa (ab 0) (aa (av f_day_of hr (aa (ab 2) af)) af)))) ag) af)))))))))))
theorem nQ (F:Def K "ends_within" (top 3))  : Fn P w K mg base 1 "ends_within" eF:=F.fq X G ["stop","bound"] 2 λnd _ _ _ _ _ _ _ hr hu=>(show JSs _ _ jd from
  (ak (bg (aI xS (ab 1) cF) (ao (a8 gg)) aU)
   (ao (a8 (dS (bG lE (ab 0) cF) (dA (bG iX (ab 0) (ab 1))))))))
theorem rf (F:Def K "is_within" (top 2))(f_ends_within:Fn P w K mg base 1 "ends_within" eF):Fn P w K mg base 2 "is_within" eO:=F.fq X G ["one","other"] 2 λnd _ _ _ _ _ _ _ hr hu=>(show JSs _ _ la from
  (ao (a8 (dS (bG iX (az (ab 1) ag) (az (ab 0) ag)) (dA (av f_ends_within hr (aa (az (ab 0) ag) (aa (az (ab 1) ag) af))))))))
theorem uo (F:Def K "is_ahead" (top 14))(f_rank:Fn P w K mg base 4 "rank" c8):Fn P w K mg base 5 "is_ahead" dz:=F.fq X G ["book","one","other"] 3 λnd _ _ _ _ _ _ _ hr hu=>(show JSs _ _ mT from
  (ao (a8 (bG (D4 hu) (av f_rank hr (aa (ab 0) (aa (ab 1) af))) (av f_rank hr (aa (ab 0) (aa (ab 2) af)))))))
theorem rg (F:Def K "leave_bar" (top 46))(f_lies_in:Fn P w K mg base 1 "lies_in" dY)(f_is_within:Fn P w K mg base 2 "is_within" eO)(f_part_of:Fn P w K mg base 2 "part_of" ai)(f_day_of:Fn P w K mg base 3 "day_of" aK)(f_is_ahead:Fn P w K mg base 5 "is_ahead" dz)(f_reach_bar:Fn P w K mg base 3 "reach_bar" d5):Fn P w K mg base 6 "leave_bar" eP:=F.fq X G ["book","number","leave","row","stretch"] 3 λnd _ _ _ _ _ _ _ hr hu=>(show JSs _ _ lb from
  (ak (aD (i:=3) nd (az (ab 0) (ab 1)))
   (ak (aD (i:=4) nd (av f_part_of hr (aa (az (ab 0) (ab 2)) (aa aw af))))
   (ak (bg (fz (cy (av f_is_ahead hr (aa (ab 0) (aa (ab 2) (aa (ab 1) af)))))) (ao (a8 aw)) aU)
   (ak (bg (jj (j6 (fz (cy (av f_lies_in hr (aa (av f_day_of hr (aa (ab 3) af)) (aa (ab 4) af))))) (ji (fz (cy (av f_is_within hr (aa (av f_part_of hr (aa (ab 3) (aa aw af))) (aa (ab 4) af)))))))) (ao (a8 aw)) aU)
   (ao (a8 (av f_reach_bar hr (aa (ab 3) (aa (az (ab 0) (ab 2)) af))))))))))
theorem rh (F:Def K "leaves_to" (top 47))(f_part_of:Fn P w K mg base 2 "part_of" ai)(f_heard:Fn P w K mg base 1 "heard" bO)(f_is_leave:Fn P w K mg base 2 "is_leave" dw):Fn P w K mg base 3 "leaves_to" fU:=F.fq X G ["book","known","person","leaves"] 3 λnd _ _ _ _ _ _ _ hr hu=>(show JSs _ _ lf from
  (ak (m9 ["number","book","known"] nd (cpC rfl rfl (cpC rfl rfl (.nil rfl))) (cK (av f_heard hr (aa (ab 0) (aa (ab 1) af)))) (λ_ _ _ _=>pgC 0) (bF (by decide)) (λ_ _ _ _=>(dR (cy (av f_is_leave hr (aa (ab 1) (aa (ab 2) (aa (ab 0) af))))))) (λ_ _ _ _=>(ab 0)))
   (ao (a8 (iw ["number","person","book"] (cpC rfl rfl (cpC rfl rfl (.nil rfl))) (cK (ab 3)) (λ_ _ _ _=>pgC 0) (bF (by decide)) (λ_ _ _ _=>(dR (aI (cn hu) (av f_part_of hr (aa (az (ab 2) (ab 0)) (aa aw af))) (ab 1)))) (λ_ _ _ _=>(ab 0)))))))
theorem nR (F:Def K "leave_bases" (top 49))(f_part_of:Fn P w K mg base 2 "part_of" ai)(f_leave_bar:Fn P w K mg base 6 "leave_bar" eP)(f_leaves_to:Fn P w K mg base 3 "leaves_to" fU):Fn P w K mg base 7 "leave_bases" eG:=F.fq X G ["book","known","number","leaves"] 3 λnd _ _ _ _ _ _ _ hr hu=>(show JSs _ _ je from
  (ak (aD (i:=3) nd (av f_leaves_to hr (aa (ab 0) (aa (ab 1) (aa (av f_part_of hr (aa (az (ab 0) (ab 2)) (aa aw af))) af)))))
   (ao (a8 (iw ["leave","book","number"] (cpC rfl rfl (cpC rfl rfl (.nil rfl))) (cK (ab 3)) (λ_ _ _ _=>pgC 0) (bF (by decide)) (λ_ _ _ _=>(dR (aI xS (av f_leave_bar hr (aa (ab 1) (aa (ab 2) (aa (ab 0) af)))) cF))) (λ_ _ _ _=>(aM (aa aw (aa (ab 0) af)))))))))
theorem o3 (F:Def K "copy_bases" (top 50))(f_part_of:Fn P w K mg base 2 "part_of" ai)(f_is_ahead:Fn P w K mg base 5 "is_ahead" dz)(f_is_paper:Fn P w K mg base 2 "is_paper" dZ):Fn P w K mg base 6 "copy_bases" gR:=F.fq X G ["book","known","number","of"] 3 λnd _ _ _ _ _ _ _ hr hu=>(show JSs _ _ jL from
  (ak (aD (i:=3) nd (av f_part_of hr (aa (az (ab 0) (ab 2)) (aa aw af))))
   (ak (bg (jj (fZ (cy (av f_is_paper hr (aa (ab 0) (aa (ab 1) (aa (ab 3) af))))) (fQ (cy (av f_is_ahead hr (aa (ab 0) (aa (ab 3) (aa (ab 2) af)))))))) (ao (a8 (bq (aa (aM (aa aw (aa (ab 3) af))) af)))) aU)
   (ao (a8 (bq af))))))
theorem uq (F:Def K "bases_by" (top 51))(f_word_of:Fn P w K mg base 1 "word_of" aC)(f_is_borne:Fn P w K mg base 3 "is_borne" gQ)(f_office_bases:Fn P w K mg base 9 "office_bases" dG)(f_leave_bases:Fn P w K mg base 7 "leave_bases" eG)(f_copy_bases:Fn P w K mg base 6 "copy_bases" gR)(l_bases_by:mn K "bases_by"):Fn P w K mg base 10 "bases_by" gS:=F.fqL X G ["book","known","claimed","number","found"] 4 λnd _ _ _ _ _ _ _ hcd hr hu=>(show JSs _ _ mU from
  (ak (bg (fz (cy (av f_is_borne hr (aa (ab 0) (aa (ab 1) (aa (ab 3) af)))))) (ao (a8 (bq af))) aU)
   (ak (bg (aI (cn hu) (av f_word_of hr (aa (az (ab 0) (ab 3)) af)) aw) (ao (a8 (av f_copy_bases hr (aa (ab 0) (aa (ab 1) (aa (ab 3) af)))))) aU)
   (ak (aD (i:=4) nd (aq aX (av f_office_bases hr (aa (ab 0) (aa (ab 1) (aa (ab 2) (aa (ab 3) af))))) (av f_leave_bases hr (aa (ab 0) (aa (ab 1) (aa (ab 3) af))))))
   (ao (a8 (zY (Ar hu) T.n_sorted (ab 4) (qx (cap:=[]) (N':=["base"]) (by decide +kernel) l_bases_by hcd rfl rfl (w4 (by decide +kernel) rfl rfl rfl rfl rfl) rfl (.nil rfl) rfl hr.in1.in1 (λ_ _ _ _=>rfl) λ_ _ _ _ hr=>have hu:=uO hr;(aM (aa (az (ab 0) (vW we ag)) (aa (ab 0) af)))))))))))
theorem Bb (F:Def K "bases" (top 52))(f_claims:Fn P w K mg base 11 "claims" jJ)(f_bases_by:Fn P w K mg base 10 "bases_by" gS):Fn P w K mg base 12 "bases" qD:=F.fq X G ["book","known","number"] 3 λnd _ _ _ _ _ _ _ hr hu=>(show JSs _ _ wP from
  (ao (a8 (av f_bases_by hr (aa (ab 0) (aa (ab 1) (aa (av f_claims hr (aa (ab 0) (aa (ab 1) af))) (aa (ab 2) af))))))))
theorem yH (F:Def K "_law_cell" (top 54))  : Fn P w K mg base 1 "_law_cell" cC:=F.fq X G ["_law_script","_law_k","_law_cell_here"] 2 λnd _ _ _ _ _ _ _ hr hu=>(show JSs _ _ t6 from
  (ak (aD (i:=2) nd ag)
   (ak (bg (aI E8 (bI gk T.n_len gm (aa (ab 0) af)) ag) (ao (aD (i:=2) nd (az (ab 0) (aq bo (ab 1) (bI gk T.n_len gm (aa (ab 0) af)))))) aU)
   (ak (aD (i:=2) nd (aq bo (aq c6 (aq aX (aq aX (aq bo (ab 2) ag) (aq c6 ag (ab 1))) ag) ag) ag))
   (ao (a8 (aq bo (aq c6 (ab 2) (aq aX (aq aX (aq bo (ab 2) ag) (ab 1)) ag)) ag)))))))
theorem vL (F:Def K "_law_names" (top 55))  : Fn P w K mg base 1 "_law_names" kB:=F.fq X G ["_law_cell_here","_law_letters","_law_base","_law_at","_law_names_here","_law_k","_law_name"] 1 λnd _ _ _ _ _ _ _ hr hu=>(show JSs _ _ p6 from
  (ak (aD (i:=1) nd aw)
   (ak (m9 ["_law_k","_law_letters","_law_cell_here"] nd (cpC rfl rfl (cpC rfl rfl (.nil rfl))) (sn T.n_range (aq aX ag (aq bo (ab 0) ag))) (λ_ _ _ _=>pgC 0) (bF (by decide)) (λ_ _ _ _=>lP) (λ_ _ _ _=>(az (ab 1) (aq bo (aq br (ab 2) (aq aX ag (aq c6 ag (ab 0)))) ag))))
   (ak (aD (i:=3) nd (aq bo (aq br (ab 0) ag) (bI gk T.n_len gm (aa (ab 2) af))))
   (ak (aD (i:=4) nd (bq af))
   (ak (pw (gn T.n_range ag) (pgV 5 nd) d8 (ak (aD (i:=6) nd (gh ET T.n_list z5 (aa (ab 2) af)))
   (ak (zG (i:=6) (az (ab 1) (aq bo (aq aX (aq br (ab 0) ag) (aq c6 ag (ab 5))) ag)) (ab 3))
   (ao (f7 (i:=4) (EO PySem.F.slot_str_join PySem.F.type_str_join ER zC aw (ab 6)))))))
   (ak (bg (aI (cn hu) (aq bo (aq br (ab 0) ag) ag) ag) (ao (zG (i:=4) (az (ab 4) ag) ag)) aU)
   (ao (lD 4)))))))))
theorem rj (F:Def K "_law_stretch" (top 56))  : Fn P w K mg base 1 "_law_stretch" d6:=F.fq X G ["_law_cell_here","_law_day","_law_measure","_law_some"] 3 λnd _ _ _ _ _ _ _ hr hu=>(show JSs _ _ lg from
  (ak (aD (i:=3) nd (bq (aa (aM (bJ (aa cF af))) (aa (aM (aa (ab 1) (aa cF af))) (aa (aM (aa (ab 1) (aa (aq aX (ab 1) (aq c6 ag (ab 2))) af))) (aa (aM (bJ (aa (aq aX (ab 1) (aq c6 ag (ab 2))) af))) (aa (aM (bJ (aa (aq c6 ag (ab 2)) af))) af)))))))
   (ak (aD (i:=3) nd (aq aX (ab 3) (bq (aa (aM (aa (aq aX (ab 1) (ab 2)) (aa (aq aX (ab 1) (aq c6 ag (ab 2))) af))) (aa (aM (aa (aq br (ab 1) ag) (aa (aq aX (ab 1) (aq c6 ag (ab 2))) af))) (aa (aM (bJ (aa cF af))) af))))))
   (ao (a8 (az (ab 3) (aq bo (ab 0) ag)))))))
theorem yI (F:Def K "_law_deed" (top 57))(f_w_stretch:Fn P w K mg base 1 "_law_stretch" d6):Fn P w K mg base 2 "_law_deed" jM:=F.fq X G ["_law_many","_law_cell_here","_law_other","_law_names_here","_law_day","_law_had","_law_measure","_law_kinds","_law_word","_law_by","_law_person","_law_of","_law_matters","_law_further","_law_start"] 7 λnd _ _ _ _ _ _ _ hr hu=>(show JSs _ _ t7 from
  (ak (aD (i:=7) nd (aq aX (aq aX (Aj (bq (aa aw af)) ag) (Aj (bq (aa aw af)) ag)) (bq (aa aw (aa aw (aa aw (aa aw (aa aw af))))))))
   (ak (aD (i:=7) nd (aq aX (ab 7) (bq (aa aw (aa aw (aa aw (aa aw (aa aw (aa aw af)))))))))
   (ak (aD (i:=8) nd (az (ab 7) (aq bo (ab 1) ag)))
   (ak (aD (i:=9) nd (az (ab 5) (aq rN (vW we ag) (aq bo (aq br (ab 1) ag) (bI G8 T.n_min G5 (bJ (aa (bI gk T.n_len gm (aa (ab 5) af)) af)))))))
   (ak (bg (aI (cn hu) (aq bo (aq br (ab 1) ag) ag) ag) (ao (aD (i:=9) nd (az (ab 3) (aq bo (aq br (ab 1) ag) ag)))) aU)
   (ak (aD (i:=10) nd (az (ab 3) (aq bo (aq br (ab 1) ag) ag)))
   (ak (aD (i:=11) nd (bI G7 T.n_max G4 (bJ (aa (aq rN (aq rN (ab 0) ag) (aq bo (ab 2) ag)) af))))
   (ak (bg (aI (cn hu) (aq bo (aq br (ab 2) ag) ag) ag) (ao (aD (i:=11) nd (aq bo (aq br (ab 2) ag) ag))) aU)
   (ak (bg (aI (cn hu) (ab 8) aw) (ak (aD (i:=12) nd (by refine az (hs:=?_) ?_ ?_;refine bq ?_;refine bJ ?_;refine bJ ?_;refine bJ ?_;refine bJ ?_;refine bJ ?_;refine bJ ?_;refine bJ ?_;refine bJ ?_;exact af;exact(aq bo (aq br (ab 1) ag) ag);intro _ _;rfl))
   (ak (aD (i:=13) nd (aq bo (aq br (ab 2) ag) (az (bq (bJ (bJ (bJ (bJ af))))) (aq bo (aq br (ab 2) ag) ag))))
   (ao (a8 (aM (aa (ab 8) (aa (ab 4) (aa (ab 9) (aa (ab 10) (aa (ab 12) (aa (av f_w_stretch hr (aa (aq br (ab 2) ag) (aa (ab 4) (aa (ab 6) af)))) (aa (ab 13) af)))))))))))) aU)
   (ak (bg (jj (j6 (aI (cn hu) (ab 8) aw) (ji (aI (cn hu) (ab 8) aw)))) (ak (aD (i:=12) nd (by refine az (hs:=?_) ?_ ?_;refine bq ?_;refine bJ ?_;refine bJ ?_;refine bJ ?_;refine bJ ?_;refine bJ ?_;refine bJ ?_;refine bJ ?_;refine bJ ?_;exact af;exact(aq bo (aq br (ab 1) ag) ag);intro _ _;rfl))
   (ak (aD (i:=14) nd (aM (aa (ab 8) (aa (ab 4) (aa (ab 9) (aa (ab 12) (aa (av f_w_stretch hr (aa (aq br (ab 2) ag) (aa (ab 4) (aa (ab 6) af)))) (aa (az (bq (aa cF (aa (ab 10) af))) (aq bo (aq br (ab 2) ag) ag)) af))))))))
   (ak (bg (aI (cn hu) (ab 8) aw) (ao (a8 (aq Ac (ab 14) (aM (aa (ab 11) (aa (aM (aa (aM (bJ (aa (ab 10) af))) af)) af)))))) aU)
   (ao (a8 (aq Ac (ab 14) (aM (aa (aM (aa (ab 10) af)) af)))))))) aU)
   (ak (bg (aI si (ab 8) (aM (aa aw (aa aw af)))) (ao (a8 (aM (aa (ab 8) (aa (ab 4) (aa (ab 9) (aa (ab 11) af))))))) aU)
   (ak (bg (aI (cn hu) (ab 8) aw) (ao (a8 (aM (aa (ab 8) (aa (ab 4) (aa (az (ab 3) (aq aX ag (aq bo (ab 2) ag))) (aa (ab 10) af))))))) aU)
   (ak (bg (aI (cn hu) (ab 8) aw) (ao (a8 (aM (aa (ab 8) (aa (ab 4) (aa (ab 9) (aa (az (ab 3) (aq aX ag (aq bo (ab 2) ag))) (aa (ab 10) (aa (aq aX (ab 4) (aq c6 (aq bo (aq br (ab 2) ag) ag) (ab 6))) af))))))))) aU)
   (ak (bg (aI (cn hu) (ab 8) aw) (ao (a8 (aM (aa (ab 8) (aa (ab 4) (aa (ab 9) (aa (az (ab 3) (aq aX ag (aq bo (ab 2) ag))) (aa (ab 10) af)))))))) aU)
   (ao (a8 (aM (aa (ab 8) (aa (ab 4) (aa (ab 9) af)))))))))))))))))))))
theorem yJ (F:Def K "_law_rows" (top 58))(f_w_cell:Fn P w K mg base 1 "_law_cell" cC)(f_w_deed:Fn P w K mg base 2 "_law_deed" jM):Fn P w K mg base 3 "_law_rows" mV:=F.fq X G ["_law_script","_law_names_here","_law_measure","_law_most","_law_head","_law_rows_here","_law_had","_law_k","_law_rule","_law_matters","_law_late","_law_further","_law_cell_here","_law_day","_law_deed_here"] 4 λnd _ _ _ _ _ _ _ hr hu=>(show JSs _ _ t8 from
  (ak (aD (i:=4) nd (av f_w_cell hr (aa (ab 0) (bJ af))))
   (ak (aD (i:=5) nd (bq af))
   (ak (aD (i:=6) nd (bq af))
   (ak (pw (gn T.n_range (aq aX ag (aq bo (ab 4) ag))) (pgV 7 nd) d8 (ak (aD (i:=8) nd (az (bq (aa aw (aa aw (aa aw af)))) (aq bo (aq br (ab 4) (aq aX ag (aq c6 ag (ab 7)))) ag)))
   (ak (aD (i:=9) nd (az (bq (bJ (bJ (bJ (bJ af))))) (aq bo (aq br (ab 4) (aq aX ag (aq c6 ag (ab 7)))) ag)))
   (ak (aD (i:=10) nd (aq c6 (aq c6 (gh D0 T.n_int Dx (aa (bG (cn hu) (aq bo (aq br (ab 4) (aq aX ag (ab 7))) ag) ag) af)) ag) (ab 2)))
   (ak (aD (i:=11) nd (aq bo (aq br (ab 4) (aq aX ag (aq c6 ag (ab 7)))) (az (bq (bJ (bJ (bJ af)))) (aq bo (aq br (ab 4) (aq aX ag (ab 7))) ag))))
   (ak (f7 (i:=5) (aM (aa (ab 10) (aa (aM (aa aw (aa (az (ab 1) (aq aX ag (ab 7))) (aa (ab 9) (aa (ab 11) (aa (ab 8) af)))))) af))))
   (ak (f7 (i:=5) (aM (bJ (aa (aM (aa aw (bJ (aa (az (ab 1) (aq aX ag (ab 7))) (aa (az (ab 1) (ab 7)) af))))) af))))
   (ao (f7 (i:=6) (az (ab 1) (ab 7)))))))))))
   (ak (pw (gn T.n_range (aq aX ag (aq bo (av f_w_cell hr (aa (ab 0) (bJ af))) (ab 3)))) (pgV 7 nd) d8 (ak (aD (i:=12) nd (av f_w_cell hr (aa (ab 0) (aa (aq aX ag (ab 7)) af))))
   (ak (aD (i:=13) nd (aq c6 (aq aX (aq br (ab 7) ag) (aq bo (aq br (ab 12) ag) ag)) (ab 2)))
   (ak (aD (i:=14) nd (av f_w_deed hr (aa (bI gk T.n_len gm (aa (ab 5) af)) (aa (av f_w_cell hr (aa (ab 0) (aa (aq aX ag (ab 7)) af))) (aa (av f_w_cell hr (aa (ab 0) (aa (aq aX ag (ab 7)) af))) (aa (ab 1) (aa (ab 13) (aa (ab 6) (aa (ab 2) af)))))))))
   (ak (bg (aI si (az (ab 14) ag) (aM (aa aw (aa aw af)))) (ao (f7 (i:=6) (az (ab 14) ag))) aU)
   (ak (bg (aI (cn hu) (az (ab 14) ag) aw) (ao (f7 (i:=6) (az (ab 14) ag))) aU)
   (ao (f7 (i:=5) (aM (aa (aq aX (ab 13) (aq c6 (by refine az (hs:=?_) ?_ ?_;refine bq ?_;refine bJ ?_;refine bJ ?_;refine bJ ?_;refine bJ ?_;refine bJ ?_;refine bJ ?_;exact af;exact(aq bo (aq br (ab 12) ag) ag);intro _ _;rfl) (ab 2))) (aa (ab 14) af)))))))))))
   (ao (a8 (gh BY T.n_tuple BR (aa (ab 5) af))))))))))
theorem ur (F:Def K "_law_within" (top 59))  : Fn P w K mg base 1 "_law_within" fF:=F.fq X G ["_law_matters","_law_some"] 2 λnd _ _ _ _ _ _ _ hr hu=>(show JSs _ _ mW from
  (ao (a8 (bI GD T.n_all G6 (aa (iw ["_law_bit","_law_matters","_law_some"] (cpC rfl rfl (cpC rfl rfl (.nil rfl))) (sn T.n_range ag) (λ_ _ _ _=>pgC 0) (bF (by decide)) (λ_ _ _ _=>(dR (aI (cn hu) (aq zv (aq De (ab 2) (ab 0)) ag) ag))) (λ_ _ _ _=>(bG (cn hu) (aq zv (aq De (ab 1) (ab 0)) ag) ag))) af)))))
theorem o4 (F:Def K "_law_days_fit" (top 60))  : Fn P w K mg base 1 "_law_days_fit" dH:=F.fq X G ["_law_day","_law_stretch_here","_law_wide"] 3 λnd _ _ _ _ _ _ _ hr hu=>(show JSs _ _ jN from
  (ak (bg (jj (j6 (aI lR (ab 0) (az (ab 2) ag)) (ji (aI lR (az (ab 1) ag) (az (ab 2) ag))))) (ao (a8 gg)) aU)
   (ak (bg (aI xS (az (ab 2) ag) cF) (ao (a8 gg)) aU)
   (ao (a8 (dS (bG lR (ab 0) (az (ab 2) ag)) (dS (bG lE (az (ab 1) ag) cF) (dA (bG iX (az (ab 1) ag) (az (ab 2) ag))))))))))
theorem vM (F:Def K "_law_bears" (top 61))(f_w_within:Fn P w K mg base 1 "_law_within" fF)(f_w_days_fit:Fn P w K mg base 1 "_law_days_fit" dH):Fn P w K mg base 2 "_law_bears" ft:=F.fq X G ["_law_leave","_law_deed_here","_law_shift"] 2 λnd _ _ _ _ _ _ _ hr hu=>(show JSs _ _ p7 from
  (ak (aD (i:=2) nd (gh D0 T.n_int Dx (aa (bG (cn hu) (az (ab 1) ag) aw) af)))
   (ak (bg (jj (j6 (aI (zx hu) (az (ab 0) ag) aw) (j6 (aI (zx hu) (az (ab 0) ag) (az (ab 1) ag)) (ji (fz (cy (av f_w_days_fit hr (aa (az (ab 1) ag) (aa (az (ab 1) (aq aX ag (ab 2))) (aa (az (ab 0) ag) af)))))))))) (ao (a8 gg)) aU)
   (ao (a8 (dS (av f_w_within hr (aa (az (ab 0) ag) (aa (az (ab 1) (aq aX ag (ab 2))) af))) (dA (zu (bG (cn hu) (ab 2) ag) (dA (bG lR (az (ab 1) ag) (az (ab 0) ag)))))))))))
theorem Bc (F:Def K "_law_due" (top 62))(f_w_bears:Fn P w K mg base 2 "_law_bears" ft):Fn P w K mg base 3 "_law_due" qE:=F.fq X G ["_law_rows_here","_law_known","_law_number","_law_deed_here","_law_found","_law_k","_law_there","_law_leave"] 3 λnd _ _ _ _ _ _ _ hr hu=>(show JSs _ _ wQ from
  (ak (aD (i:=3) nd (az (az (ab 0) (ab 2)) ag))
   (ak (aD (i:=4) nd (bq af))
   (ak (pw (gn T.n_range (bI gk T.n_len gm (aa (ab 0) af))) (pgV 5 nd) d8 (ak (BZ (is:=[6,7]) (az (ab 0) (ab 5)) (EU rfl (ju (pgV 6 nd) (ju (pgV 7 nd) vP))))
   (ao (bg (jj (fZ (aI iX (ab 6) (ab 1)) (fZ (aI (cn hu) (az (ab 7) ag) aw) (fZ (aI (D4 hu) (aM (aa (az (ab 7) ag) (aa (ab 5) af))) (aM (aa (az (ab 3) ag) (aa (ab 2) af)))) (fQ (cy (av f_w_bears hr (aa (ab 7) (aa (ab 3) af))))))))) (ao (f7 (i:=4) (aM (aa aw (aa (ab 5) af))))) aU))))
   (ao (lD 4))))))
end
end
theorem head {P:Program}{w:World}{K:PySem.W.Frag}{h:Heap}{mg:Str->Option Value}{fa:Addr}(X:K.In h)(G:h.Ns mainGlobals mg)(hfa:mg "law" = some (.ref fa))
  (d_word_of:Def K "word_of" (top 7)) (d_part_of:Def K "part_of" (top 8)) (d_day_of:Def K "day_of" (top 9)) (d_heard:Def K "heard" (top 11)) (d_rank:Def K "rank" (top 13)) (d_in_order:Def K "in_order" (top 15)) (d_by_office:Def K "by_office" (top 27)) (d_roots:Def K "roots" (top 16)) (d_is_known:Def K "is_known" (top 12)) (d_tells:Def K "tells" (top 19)) (d_told_of:Def K "told_of" (top 20)) (d_lives:Def K "lives" (top 21)) (d_has_seal:Def K "has_seal" (top 22)) (d_is_sound:Def K "is_sound" (top 23)) (d_lies_in:Def K "lies_in" (top 1)) (d_is_alive:Def K "is_alive" (top 25)) (d_by_since:Def K "by_since" (top 26)) (d_chief_of:Def K "chief_of" (top 28)) (d_holder_by:Def K "holder_by" (top 29)) (d_is_held_by:Def K "is_held_by" (top 30)) (d_is_first_death:Def K "is_first_death" (top 31)) (d_counts:Def K "counts" (top 32)) (d_new_claim:Def K "new_claim" (top 33)) (d_ended:Def K "ended" (top 34)) (d_after_choice:Def K "after_choice" (top 35)) (d_inherited:Def K "inherited" (top 36)) (d_after_death:Def K "after_death" (top 37)) (d_claims:Def K "claims" (top 38)) (d_is_paper:Def K "is_paper" (top 41)) (d_is_leave:Def K "is_leave" (top 42)) (d_is_borne:Def K "is_borne" (top 43)) (d_covers:Def K "covers" (top 4)) (d_reach_bar:Def K "reach_bar" (top 44)) (d_office_bar:Def K "office_bar" (top 45)) (d_office_bases:Def K "office_bases" (top 48)) (d_ends_within:Def K "ends_within" (top 3)) (d_is_within:Def K "is_within" (top 2)) (d_is_ahead:Def K "is_ahead" (top 14)) (d_leave_bar:Def K "leave_bar" (top 46)) (d_leaves_to:Def K "leaves_to" (top 47)) (d_leave_bases:Def K "leave_bases" (top 49)) (d_copy_bases:Def K "copy_bases" (top 50)) (d_bases_by:Def K "bases_by" (top 51)) (d_bases:Def K "bases" (top 52)) (d_w_cell:Def K "_law_cell" (top 54)) (d_w_names:Def K "_law_names" (top 55)) (d_w_stretch:Def K "_law_stretch" (top 56)) (d_w_deed:Def K "_law_deed" (top 57)) (d_w_rows:Def K "_law_rows" (top 58)) (d_w_within:Def K "_law_within" (top 59)) (d_w_days_fit:Def K "_law_days_fit" (top 60)) (d_w_bears:Def K "_law_bears" (top 61)) (d_w_due:Def K "_law_due" (top 62)) (d_law:Def K "law" (top 63))
  (z_all:PySem.W.nsIn K mainGlobals "all" = some none) (z_dict:PySem.W.nsIn K mainGlobals "dict" = some none) (z_enumerate:PySem.W.nsIn K mainGlobals "enumerate" = some none) (z_int:PySem.W.nsIn K mainGlobals "int" = some none) (z_isinstance:PySem.W.nsIn K mainGlobals "isinstance" = some none) (z_len:PySem.W.nsIn K mainGlobals "len" = some none) (z_list:PySem.W.nsIn K mainGlobals "list" = some none) (z_max:PySem.W.nsIn K mainGlobals "max" = some none) (z_min:PySem.W.nsIn K mainGlobals "min" = some none) (z_range:PySem.W.nsIn K mainGlobals "range" = some none) (z_set:PySem.W.nsIn K mainGlobals "set" = some none) (z_sorted:PySem.W.nsIn K mainGlobals "sorted" = some none) (z_tuple:PySem.W.nsIn K mainGlobals "tuple" = some none)
  (k_PAPERS:∃u v,PySem.W.nsIn K mainGlobals "PAPERS" = some (some u)/\aS v u/\∀B,Is K B v mG) (k_PARTS:∃d,PySem.W.nsIn K mainGlobals "PARTS" = some (some (.ref d))/\oP K w.params d eD) (k_SEALINGS:∃u v,PySem.W.nsIn K mainGlobals "SEALINGS" = some (some u)/\aS v u/\∀B,Is K B v dW)
  (l_in_order:mn K "in_order") (l_has_seal:mn K "has_seal") (l_is_first_death:mn K "is_first_death") (l_bases_by:mn K "bases_by"):
  ∃fd:FuncData,(∀(s:Shared)(u:Value),BindsTo s fd ⟨[u],[]⟩ [("_law_script",u)])/\∀base:Heap,K.In base->base.Ns mainGlobals mg->FnOk P w K mg base CX0 13 fa fd ["_law_script"] (spD K F_law):=by
 have T:Tx K w.params mg:=⟨PySem.W.mg_none_of X G z_all,PySem.W.mg_none_of X G z_dict,PySem.W.mg_none_of X G z_enumerate,PySem.W.mg_none_of X G z_int,PySem.W.mg_none_of X G z_isinstance,PySem.W.mg_none_of X G z_len,PySem.W.mg_none_of X G z_list,PySem.W.mg_none_of X G z_max,PySem.W.mg_none_of X G z_min,PySem.W.mg_none_of X G z_range,PySem.W.mg_none_of X G z_set,PySem.W.mg_none_of X G z_sorted,PySem.W.mg_none_of X G z_tuple,(let ⟨u,v,e,r⟩:=k_PAPERS;⟨u,v,PySem.W.mg_of X G e,r⟩),(let ⟨d,e,r⟩:=k_PARTS;⟨d,PySem.W.mg_of X G e,r⟩),(let ⟨u,v,e,r⟩:=k_SEALINGS;⟨u,v,PySem.W.mg_of X G e,r⟩)⟩;have S:FnScope ["_law_script","_law_names_here","_law_measure","_law_rows_here","_law_known","_law_number","_law_found","_law_k"] ["_law_script"] (aN (top 63)):=by refine⟨rfl,rfl,rfl,?_,rfl,?_,?_⟩<;>decide +kernel
 refine Def.law d_law X G hfa S (λ_ _ _ _ _ _ u=>rfl) λbase kb nb=>?_;have f_word_of:=vH P w base T X G d_word_of;have f_part_of:=vI P w base T X G d_part_of f_word_of;have f_day_of:=yD P w base T X G d_day_of f_word_of f_part_of;have f_heard:=AW P w base T X G d_heard;have f_rank:=CO P w base T X G d_rank f_day_of;have f_in_order:=ua P w base T X G d_in_order f_day_of f_heard f_rank l_in_order;have f_by_office:=qW P w base T X G d_by_office;have f_roots:=AX P w base T X G d_roots f_word_of f_part_of f_heard;have f_is_known:=uc P w base T X G d_is_known;have f_tells:=AY P w base T X G d_tells f_word_of f_part_of f_day_of;have f_told_of:=vJ P w base T X G d_told_of f_heard f_tells;have f_lives:=AZ P w base T X G d_lives f_told_of;have f_has_seal:=ud P w base T X G d_has_seal f_word_of f_rank f_told_of l_has_seal;have f_is_sound:=ue P w base T X G d_is_sound f_word_of f_part_of f_day_of f_is_known f_lives f_has_seal;have f_lies_in:=vK P w base T X G d_lies_in;have f_is_alive:=ug P w base T X G d_is_alive f_lies_in;have f_by_since:=uh P w base T X G d_by_since;have f_chief_of:=ui P w base T X G d_chief_of f_by_since;have f_holder_by:=qX P w base T X G d_holder_by f_part_of f_is_alive f_by_since f_chief_of;have f_is_held_by:=oz P w base T X G d_is_held_by f_holder_by;have f_is_first_death:=jY P w base T X G d_is_first_death f_part_of f_day_of f_rank f_told_of l_is_first_death;have f_counts:=yE P w base T X G d_counts f_word_of f_part_of f_day_of f_roots f_is_sound f_is_held_by f_is_first_death;have f_new_claim:=qY P w base T X G d_new_claim f_part_of;have f_ended:=Ba P w base T X G d_ended f_is_alive;have f_after_choice:=l8 P w base T X G d_after_choice f_part_of f_new_claim f_ended;have f_inherited:=qZ P w base T X G d_inherited f_part_of f_day_of f_lives f_is_alive;have f_after_death:=nO P w base T X G d_after_death f_part_of f_day_of f_ended f_inherited;have f_claims:=yF P w base T X G d_claims f_word_of f_part_of f_day_of f_in_order f_by_office f_counts f_new_claim f_after_choice f_after_death;have f_is_paper:=uj P w base T X G d_is_paper f_word_of f_is_known;have f_is_leave:=ul P w base T X G d_is_leave f_word_of f_is_known;have f_is_borne:=um P w base T X G d_is_borne f_is_paper f_is_leave;have f_covers:=yG P w base T X G d_covers;have f_reach_bar:=re P w base T X G d_reach_bar f_covers f_word_of f_part_of;have f_office_bar:=o0 P w base T X G d_office_bar f_part_of f_day_of f_is_held_by f_reach_bar;have f_office_bases:=lA P w base T X G d_office_bases f_part_of f_day_of f_roots f_holder_by f_office_bar;have f_ends_within:=nQ P w base T X G d_ends_within;have f_is_within:=rf P w base T X G d_is_within f_ends_within;have f_is_ahead:=uo P w base T X G d_is_ahead f_rank;have f_leave_bar:=rg P w base T X G d_leave_bar f_lies_in f_is_within f_part_of f_day_of f_is_ahead f_reach_bar;have f_leaves_to:=rh P w base T X G d_leaves_to f_part_of f_heard f_is_leave;have f_leave_bases:=nR P w base T X G d_leave_bases f_part_of f_leave_bar f_leaves_to;have f_copy_bases:=o3 P w base T X G d_copy_bases f_part_of f_is_ahead f_is_paper;have f_bases_by:=uq P w base T X G d_bases_by f_word_of f_is_borne f_office_bases f_leave_bases f_copy_bases l_bases_by;have f_bases:=Bb P w base T X G d_bases f_claims f_bases_by;have f_w_cell:=yH P w base T X G d_w_cell;have f_w_names:=vL P w base T X G d_w_names;have f_w_stretch:=rj P w base T X G d_w_stretch;have f_w_deed:=yI P w base T X G d_w_deed f_w_stretch;have f_w_rows:=yJ P w base T X G d_w_rows f_w_cell f_w_deed;have f_w_within:=ur P w base T X G d_w_within;have f_w_days_fit:=o4 P w base T X G d_w_days_fit;have f_w_bears:=vM P w base T X G d_w_bears f_w_within f_w_days_fit;have f_w_due:=Bc P w base T X G d_w_due f_w_bears;clear d_word_of d_part_of d_day_of d_heard d_rank d_in_order d_by_office d_roots d_is_known d_tells d_told_of d_lives d_has_seal d_is_sound d_lies_in d_is_alive d_by_since d_chief_of d_holder_by d_is_held_by d_is_first_death d_counts d_new_claim d_ended d_after_choice d_inherited d_after_death d_claims d_is_paper d_is_leave d_is_borne d_covers d_reach_bar d_office_bar d_office_bases d_ends_within d_is_within d_is_ahead d_leave_bar d_leaves_to d_leave_bases d_copy_bases d_bases_by d_bases d_w_cell d_w_names d_w_stretch d_w_deed d_w_rows d_w_within d_w_days_fit d_w_bears d_w_due d_law f_word_of f_part_of f_day_of f_heard f_rank f_in_order f_by_office f_roots f_is_known f_tells f_told_of f_lives f_has_seal f_is_sound f_lies_in f_is_alive f_by_since f_chief_of f_holder_by f_is_held_by f_is_first_death f_counts f_new_claim f_ended f_after_choice f_inherited f_after_death f_claims f_is_paper f_is_leave f_is_borne f_covers f_reach_bar f_office_bar f_office_bases f_ends_within f_is_within f_is_ahead f_leave_bar f_leaves_to f_leave_bases f_copy_bases f_bases_by f_w_stretch f_w_deed f_w_within f_w_days_fit f_w_bears;exact λf cdv A outer s H E hr=>have hu:=uO hr;have nd:=S.nd;(show JSs _ _ D9 from
  (ak (aD (i:=1) nd (av f_w_names hr (aa (av f_w_cell hr (aa (ab 0) (bJ af))) af)))
   (ak (aD (i:=2) nd (az (bq (bJ (bJ (bJ af)))) (aq bo (av f_w_cell hr (aa (ab 0) (bJ af))) ag)))
   (ak (aD (i:=3) nd (av f_w_rows hr (aa (ab 0) (aa (ab 1) (aa (ab 2) (bJ af))))))
   (ak (aD (i:=4) nd (az (bq (bJ (aa (aq c6 (aq bo (aq br (av f_w_cell hr (aa (ab 0) (bJ af))) ag) ag) (ab 2)) af))) (aq br (aq bo (av f_w_cell hr (aa (ab 0) (bJ af))) ag) ag)))
   (ak (pw (gn T.n_range (bI gk T.n_len gm (aa (ab 3) af))) (pgV 5 nd) d8 (ao (bg (jj (fZ (aI iX (az (az (ab 3) (ab 5)) ag) (ab 4)) (fQ (aI si (az (az (az (ab 3) (ab 5)) ag) ag) (aM (aa aw (aa aw (aa aw af)))))))) (ak (aD (i:=6) nd (av f_bases hr (aa (ab 3) (aa (ab 4) (aa (ab 5) af)))))
   (ak (bg (fz (cy (bI qe T.n_isinstance qd (aa (ab 6) (aa (G3 T.n_list z5) af))))) (ao (a8 gg)) aU)
   (ak (bg (aI (zx hu) (iw ["_law_base"] (.nil rfl) (cK (ab 6)) (λ_ _ _ _=>pgC 0) (bF (by decide)) (λ_ _ _ _=>(dR (aI (zx hu) (az (ab 0) ag) aw))) (λ_ _ _ _=>(ab 0))) (av f_w_due hr (aa (ab 3) (aa (ab 4) (aa (ab 5) af))))) (ao (a8 gg)) aU)
   (ao (pw (ym T.n_range ag (bI gk T.n_len gm (aa (ab 6) af))) (pgV 7 nd) d8 (ao (bg (aI (GP hu) (aM (aa (az (az (ab 6) (aq rN (ab 7) ag)) (vW we ag)) (aa (az (ab 6) (aq rN (ab 7) ag)) af))) (aM (aa (az (az (ab 6) (ab 7)) (vW we ag)) (aa (az (ab 6) (ab 7)) af)))) (ao (a8 gg)) aU))))))) aU)))
   (ao (a8 gg))))))))
end Lw
namespace PySem.W.Fast
def tw17030773492725279867:=()
def tw7632234236181358868:=()
def tw14650827400894240726:=()
def tw1306856970148014797:=()
def tw5462000135982285208:=()
def tw5585535182958823460:=()
def tw13034039063105461893:=()
def tw17993437121769645960:=()
def tw6751853341296276433:=()
def tw12400960777015711851:=()
def tw574246086755047966:=()
def tw14043532743012959004:=()
def tw9264503821611953702:=()
def tw2829418952783585914:=()
def tw14499294581189556212:=()
def tw4711711914799144829:=()
def tw16228355221140993626:=()
def tw10147605613543781426:=()
def tw12554773009141959136:=()
def tw12216603733315619079:=()
def tw5538436859161495348:=()
def tw10495842741282222994:=()
def tw4584353385228771284:=()
def tw2717304163918745126:=()
def tw12177947911547519504:=()
def tw5454355933714351041:=()
def tw7201315931510910418:=()
def tw9242811030371109864:=()
def tw3854577316224374783:=()
def tw11228816165263986759:=()
def tw6918797832782385697:=()
def tw15128377289672642724:=()
def tw3305081649889708953:=()
def tw17229797259124805281:=()
def tw10944895697931016862:=()
def tw3882695989810004670:=()
def tw7534424066491478610:=()
def tw14642167127373558279:=()
def tw10751967991883403382:=()
def tw13782437676372918431:=()
def tw1947241584665187798:=()
def tw17622347016014467987:=()
def tw1388725395318288782:=()
def tw12592614749934117407:=()
def tw909542670800346207:=()
def tw6032073392779458780:=()
def tw16399382360500483093:=()
def tw7781952733827226132:=()
def tw12230093463913349356:=()
def tw13089921098524095633:=()
def tw3547098670962857879:=()
def tw15015067067828056675:=()
def tw3034136845162559026:=()
def tw10550004926724415564:=()
def tw324651618460859288:=()
def tw3663593677996891718:=()
def tw12664572594864614283:=()
def tw18061296843150229060:=()
def tw16886770582455311171:=()
def tw5626777229935192432:=()
def tw952967964872739955:=()
def tw14849678164407298881:=()
def tw17741336293082918958:=()
def tw17828560179003749686:=()
def tw18341137656099479654:=()
def tw10364454801771713003:=()
def tw3809640460132821001:=()
def tw6845570246874220941:=()
def tw3089571877601854577:=()
def tw3517811525105013964:=()
def tw17612453722450445520:=()
def tw15442553253046835127:=()
def tw7618835424812305053:=()
def tw10391854488795399159:=()
def tw16234081653812592953:=()
def tw3438633790835469286:=()
def tw4306120519058772434:=()
def tw12839541638524779610:=()
def tw9946888448550073843:=()
def tw15489164806388924704:=()
def tw8698737463101067824:=()
def tw89183645942226261:=()
def tw1244361886247133062:=()
def tw14345175438808350609:=()
def tw8291661405641532503:=()
def tw5393321351841381454:=()
def tw13135850969073775830:=()
def tw1458499771025387018:=()
def tw1492402874085873005:=()
def tw10462400043176466125:=()
def tw3232693763313477156:=()
def tw9359837505465961177:=()
def tw12254265334273956061:=()
def tw13256489993130872473:=()
def tw16136028551312252894:=()
def tw15441111200486139265:=()
def tw12708895055141635272:=()
def tw8892037246641281653:=()
def tw10347790394180438567:=()
def tw16650024871796168786:=()
def tw13909353699199370596:=()
def tw11677168626108609543:=()
def tw6763847574619469884:=()
def tw15913444722675908472:=()
def tw6521612243214528729:=()
def tw3599914047359498505:=()
def tw3209463101891333618:=()
def tw1176101698550215891:=()
def tw11527220591438553156:=()
def tw5526617518174681003:=()
def tw4141382293107774703:=()
def tw1754676391812867576:=()
def tw2048187234364417890:=()
def tw9118187703915665784:=()
end PySem.W.Fast
open PySem PySem.W PyProof.Rows
set_option maxRecDepth 100000 in
set_option maxHeartbeats 0 in
theorem PySem.Challenge.cw_sealchain_k26_leaves_that_bear_holds : PySem.Challenge.rw_sealchain_k26_leaves_that_bear.Holds := by
 w_on; o_law; k_head; (case hw => w_witness2)
 k_fill
 refine' DL.walkD (l := PySem.Challenge.rw_sealchain_k26_leaves_that_bear) (k := 13) (x := ("_law_script" : PySem.Str)) (f := Lw.F_law) (L := [(("in_order" : PySem.Str), ?t0), (("has_seal" : PySem.Str), ?t1), (("is_first_death" : PySem.Str), ?t2), (("bases_by" : PySem.Str), ?t3)]) rfl rfl ⟨rfl, by decide, by decide⟩ (fun w h Y => PySem.W.km_in_of Y) ?T ?D ?F Lw.law_true
 case T =>
  intro w
  refine' DL.tabs_fit ?h0 ?h1 ?h2 ?h3 ?ap ?nt
  (case h0 => refine' DL.tab_yes ?a ?l ?c ?m ?v; (case a => k_is); (case l => k_is); (case c => exact rfl); (case m => k_is); (case v => exact rfl))
  (case h1 => refine' DL.tab_yes ?a ?l ?c ?m ?v; (case a => k_is); (case l => k_is); (case c => exact rfl); (case m => k_is); (case v => exact rfl))
  (case h2 => refine' DL.tab_yes ?a ?l ?c ?m ?v; (case a => k_is); (case l => k_is); (case c => exact rfl); (case m => k_is); (case v => exact rfl))
  (case h3 => refine' DL.tab_yes ?a ?l ?c ?m ?v; (case a => k_is); (case l => k_is); (case c => exact rfl); (case m => k_is); (case v => exact rfl))
  (case ap => decide)
  (case nt => kernel_rfl)
 case D => kernel_rfl
 case F =>
  intro w mg fa h KX G hmg
  refine' Lw.head KX G hmg ?d0 ?d1 ?d2 ?d3 ?d4 ?d5 ?d6 ?d7 ?d8 ?d9 ?d10 ?d11 ?d12 ?d13 ?d14 ?d15 ?d16 ?d17 ?d18 ?d19 ?d20 ?d21 ?d22 ?d23 ?d24 ?d25 ?d26 ?d27 ?d28 ?d29 ?d30 ?d31 ?d32 ?d33 ?d34 ?d35 ?d36 ?d37 ?d38 ?d39 ?d40 ?d41 ?d42 ?d43 ?d44 ?d45 ?d46 ?d47 ?d48 ?d49 ?d50 ?d51 ?d52 ?d53 ?z0 ?z1 ?z2 ?z3 ?z4 ?z5 ?z6 ?z7 ?z8 ?z9 ?z10 ?z11 ?z12 ?k0 ?k1 ?k2 ?q0 ?q1 ?q2 ?q3
  iterate 54 (refine' DL.def_mk ?a ?l ?c ?k; (case a => k_is); (case l => k_is); (case c => k_is); (case k => k_is))
  (case z0 => k_is)
  (case z1 => k_is)
  (case z2 => k_is)
  (case z3 => k_is)
  (case z4 => k_is)
  (case z5 => k_is)
  (case z6 => k_is)
  (case z7 => k_is)
  (case z8 => k_is)
  (case z9 => k_is)
  (case z10 => k_is)
  (case z11 => k_is)
  (case z12 => k_is)
  (case k0 => refine' DL.const_tup ?e ?l ?v; (case e => k_is); (case l => k_is); (case v => decide +kernel))
  (case k1 => refine' DL.const_dict ?e ?l ?r ?s; (case e => k_is); (case l => k_is); (case r => refine' (DL.CRows.tup rfl ?l0 ?f0 (DL.CRows.tup rfl ?l1 ?f1 (DL.CRows.tup rfl ?l2 ?f2 (DL.CRows.tup rfl ?l3 ?f3 (DL.CRows.tup rfl ?l4 ?f4 (DL.CRows.tup rfl ?l5 ?f5 (DL.CRows.tup rfl ?l6 ?f6 (DL.CRows.tup rfl ?l7 ?f7 (DL.CRows.tup rfl ?l8 ?f8 (DL.CRows.tup rfl ?l9 ?f9 (DL.CRows.tup rfl ?l10 ?f10 (DL.CRows.tup rfl ?l11 ?f11 DL.CRows.nil)))))))))))); (case l0 => k_is); (case f0 => decide +kernel); (case l1 => k_is); (case f1 => decide +kernel); (case l2 => k_is); (case f2 => decide +kernel); (case l3 => k_is); (case f3 => decide +kernel); (case l4 => k_is); (case f4 => decide +kernel); (case l5 => k_is); (case f5 => decide +kernel); (case l6 => k_is); (case f6 => decide +kernel); (case l7 => k_is); (case f7 => decide +kernel); (case l8 => k_is); (case f8 => decide +kernel); (case l9 => k_is); (case f9 => decide +kernel); (case l10 => k_is); (case f10 => decide +kernel); (case l11 => k_is); (case f11 => decide +kernel)); (case s => decide +kernel))
  (case k2 => refine' DL.const_tup ?e ?l ?v; (case e => k_is); (case l => k_is); (case v => decide +kernel))
  (case q0 => refine' DL.lam_mk ?a ?l ?c ?m ?v1 ?v2 ?v3 ?v4 ?v5 ?v6 ?v7; (case a => k_is); (case l => k_is); (case c => exact rfl); (case m => k_is); (case v1 => exact rfl); (case v2 => exact rfl); (case v3 => exact rfl); (case v4 => exact rfl); (case v5 => exact rfl); (case v6 => exact rfl); (case v7 => decide))
  (case q1 => refine' DL.lam_mk ?a ?l ?c ?m ?v1 ?v2 ?v3 ?v4 ?v5 ?v6 ?v7; (case a => k_is); (case l => k_is); (case c => exact rfl); (case m => k_is); (case v1 => exact rfl); (case v2 => exact rfl); (case v3 => exact rfl); (case v4 => exact rfl); (case v5 => exact rfl); (case v6 => exact rfl); (case v7 => decide))
  (case q2 => refine' DL.lam_mk ?a ?l ?c ?m ?v1 ?v2 ?v3 ?v4 ?v5 ?v6 ?v7; (case a => k_is); (case l => k_is); (case c => exact rfl); (case m => k_is); (case v1 => exact rfl); (case v2 => exact rfl); (case v3 => exact rfl); (case v4 => exact rfl); (case v5 => exact rfl); (case v6 => exact rfl); (case v7 => decide))
  (case q3 => refine' DL.lam_mk ?a ?l ?c ?m ?v1 ?v2 ?v3 ?v4 ?v5 ?v6 ?v7; (case a => k_is); (case l => k_is); (case c => exact rfl); (case m => k_is); (case v1 => exact rfl); (case v2 => exact rfl); (case v3 => exact rfl); (case v4 => exact rfl); (case v5 => exact rfl); (case v6 => exact rfl); (case v7 => decide))

