import PyProof.Rows.All
import Wide.All
import OpenK.AllK
import Wide.FinOn
import Lean
import PyProof.EqAt
import PyProof.EqKinds
import PyProof.TupleCall
import PyProof.AttrMissHeap
import PySem.Challenge.RW_sealchain_k44_moments
set_option Elab.async false
set_option linter.all false
set_option maxRecDepth 100000
set_option bootstrap.genMatcherCode false
set_option compiler.extract_closed false
set_option maxHeartbeats 40000000
theorem mY {α:Type _}{a:α}(l:List α){k:List α}(h:a∈k):a∈l++k:=List.mem_append_right l h
theorem mZ {α:Type _}(b:α){a:α}{l:List α}(h:a∈l):a∈b::l:=List.mem_cons_of_mem b h
theorem mX {α:Type _}{a:α}{l:List α}:a∈a::l:=List.mem_cons_self
theorem oX {α β:Type _}{o:Option α}{f:α->Option β}{b:β}(h:o.bind f=some b):∃a,o=some a/\f a=some b:=Option.bind_eq_some_iff.mp h
theorem oY {α β:Type _}{f:α->β}{o:Option α}{b:β}(h:o.map f=some b):∃a,o=some a/\f a=b:=Option.map_eq_some_iff.mp h
def wX:=@PySem.wpAny_bind
def wY:=@PySem.wpAny_pure
def vZ:=@PySem.Heap.get?_push_of_some
def vY:=@PySem.Heap.get?_push_size
def vX:=@PySem.Heap.lt_size
def vW:=@PySem.Heap.SameBut.update
theorem vV {α:Type _}{l:List α}{i:Nat}{a:α}(h:l[i]? = some a):∃h:i<l.length,l[i]=a:=List.getElem?_eq_some_iff.mp h
theorem vU {α:Type _}{l:List α}{i:Nat}(h:i<l.length):l[i]? = some l[i]:=List.getElem?_eq_getElem h
theorem vT (n:Nat):n<=n:=Nat.le_refl n
theorem vS {a b:Nat}(h:a<b):a≠b:=Nat.ne_of_lt h
theorem vR {n m k:Nat}:n<=m->m<=k->n<=k:=Nat.le_trans
theorem vQ {n m k:Nat}:n<m->m<=k->n<k:=Nat.lt_of_lt_of_le
theorem vP {α:Type _}{a b:α}{l:List α}(h:b∈a::l):b=a∨b∈l:=List.mem_cons.mp h
theorem vK {α:Type _}{a b:α}(h:some a=some b):a=b:=Option.some.inj h
theorem vJ {α β:Type _}(a:α)(f:α->Option β):(some a).bind f=f a:=rfl
theorem vH {α β:Type _}{as:List α}(f:α->β):(as.map f).length=as.length:=List.length_map f
theorem vG {α:Type _}{l:List α}:l.toArray.size=l.length:=rfl
theorem vF {α:Type _}{xs:Array α}:xs.toList.length=xs.size:=rfl
theorem vD {α:Type _}{a:α}{as:List α}:(a::as).length=as.length+1:=rfl
theorem vC (a b:Bool):((a && b)=true)=(a=true/\b=true):=Bool.and_eq_true a b
theorem vB {α:Type _}{i j:Nat}{a:α}{l:List α}(h:i≠j):(l.set i a)[j]? = l[j]?:=List.getElem?_set_ne h
theorem vA {α β:Type _}{f:α->β}{l:List α}{i:Nat}:(l.map f)[i]? = Option.map f l[i]?:=List.getElem?_map
theorem uZ {α:Type _}{as bs:List α}:(as++bs).length=as.length+bs.length:=List.length_append
theorem uX:false≠true:=Bool.false_ne_true
theorem uV:(false=true)=False:=Bool.false_eq_true
theorem uQ {α:Type _}(as:List α):as++[]=as:=List.append_nil as
theorem uN (n:Nat):0<=n:=Nat.zero_le n
noncomputable section
open PySem.W (Frag kia_one fnOf nsIn mg_of)
namespace L2
open PySem PySem.Spec PyProof.Rows
abbrev iG:=Sum Int Str
noncomputable def AB:iG->Value->Bool
 |.inl k,v=>Value.isInt k v
 |.inr x,v=>Value.isStrOf x v
noncomputable def G1 (w:World):iG->Int
 |.inl k=>hashInt k
 |.inr x=>hashStr w x
theorem bB:∀ {k:iG}{v:Value},AB k v=true->(∃i t,k=Sum.inl i/\v=Value.int i t)∨(∃x t,k=Sum.inr x/\v=Value.str x t)
 |.inl i,v,h=>by
  obtain⟨t,e⟩:=Value.isInt_shape (k:=i) (v:=v) h;exact .inl ⟨i,t,rfl,e⟩
 |.inr x,v,h=>by
  obtain⟨t,e⟩:=Value.isStrOf_shape (x:=x) (v:=v) h;exact .inr ⟨x,t,rfl,e⟩
theorem Bu (a b:Int):decide ((Sum.inl a:iG)=Sum.inl b)=(a == b):=by
 by_cases e:a=b
 ·subst e;simp
 ·have h:¬(Sum.inl a:iG)=Sum.inl b:=λq=>e (Sum.inl.inj q);rw[decide_eq_false h];exact(beq_eq_false_iff_ne.mpr e).symm
theorem Bv (a b:Str):decide ((Sum.inr a:iG)=Sum.inr b)=decide (a=b):=by
 by_cases e:a=b
 ·subst e;simp
 ·have h:¬(Sum.inr a:iG)=Sum.inr b:=λq=>e (Sum.inr.inj q);rw[decide_eq_false h,decide_eq_false e]
theorem Bw (a:Int)(b:Str):decide ((Sum.inl a:iG)=Sum.inr b)=false:=decide_eq_false (λq=>nomatch q)
theorem By (a:Str)(b:Int):decide ((Sum.inr a:iG)=Sum.inl b)=false:=decide_eq_false (λq=>nomatch q)
def sq (prog:Program)(w:World):PySem.KeyKind prog w iG where
 is:=AB
 hash:=G1 w
 inj:=λv a b ha hb=>by
  rcases bB ha with⟨i,t,rfl,rfl⟩|⟨x,t,rfl,rfl⟩
  ·rcases bB hb with⟨j,u,rfl,e⟩|⟨y,u,rfl,e⟩
   ·injection e with e1 _;rw[e1]
   ·exact nomatch e
  ·rcases bB hb with⟨j,u,rfl,e⟩|⟨y,u,rfl,e⟩
   ·exact nomatch e
   ·injection e with e1 _;rw[e1]
 byValue:=λk v h=>by
  rcases bB h with⟨i,t,rfl,rfl⟩|⟨x,t,rfl,rfl⟩<;>rfl
 pyHash:=λhv h=>by
  rcases bB hv with⟨i,t,rfl,rfl⟩|⟨x,t,rfl,rfl⟩
  ·exact wpAny_pyHash_int h
  ·exact wpAny_pyHash_str h
 eqBool:=λhu hv h=>by
  rcases bB hu with⟨i,t,rfl,rfl⟩|⟨x,t,rfl,rfl⟩
  ·rcases bB hv with⟨j,u,rfl,rfl⟩|⟨y,u,rfl,rfl⟩
   ·rw[Bu]at h;exact wpAny_eqBool_int h
   ·rw[Bw]at h;exact SeqAt.EqAt.int_str i t y u _ _ _ _ h
  ·rcases bB hv with⟨j,u,rfl,rfl⟩|⟨y,u,rfl,rfl⟩
   ·rw[By]at h;exact SeqAt.EqAt.str_int x t j u _ _ _ _ h
   ·rw[Bv]at h;exact wpAny_eqBool_str h
 «strs»:=λk x t v h=>by
  rcases bB h with⟨i,u,rfl,e⟩|⟨y,u,rfl,e⟩
  ·exact nomatch e
  ·injection e with e1 _;subst e1;cases v<;>rfl
inductive V where
 |non|bl (b:Bool)|int (i:Int)|str (x:Str)|byt (b:Array UInt8)|flt (b:UInt64)|ref (a:Addr)|ty (n:String)
 deriving DecidableEq
def aG:V->Value->Prop
 |.non,u=>u=Value.none
 |.bl b,u=>u=Value.bool b
 |.int i,u=>∃t,u=Value.int i t
 |.str x,u=>∃t,u=Value.str x t
 |.byt b,u=>∃t,u=Value.bytes b t
 |.flt b,u=>∃t,u=Value.float b t
 |.ref a,u=>u=Value.ref a
 |.ty n,u=>u=Value.type n
abbrev a9:List V->List Value->Prop:=Paired aG
theorem a9.length (r:a9 xs us):xs.length=us.length:=Paired.length r
theorem a9.get:∀ {xs:List V}{us:List Value}{i:Nat}{x:V},a9 xs us->xs[i]? = some x->∃u,us[i]? = some u/\aG x u
 |_,_,_,_,.nil,e=>by simp at e
 |_,_,0,_,.cons r _,e=>by simp at e;subst e;exact⟨_,rfl,r⟩
 |_,_,i+1,x,.cons _ t,e=>by
  obtain⟨u,h1,h2⟩:=a9.get (i:=i) (x:=x) t (by simpa using e);exact⟨u,by simpa using h1,h2⟩
theorem a9.set (r:aG x u):∀ {xs:List V}{us:List Value}(i:Nat),a9 xs us->a9 (xs.set i x) (us.set i u)
 |_,_,_,.nil=>.nil
 |_,_,0,.cons _ t=>.cons r t
 |_,_,i+1,.cons q t=>.cons q (a9.set r i t)
theorem a9.append:∀ {xs ys:List V}{us ws:List Value},a9 xs us->a9 ys ws->a9 (xs++ys) (us++ws)
 |_,_,_,_,.nil,s=>s
 |_,_,_,_,.cons r t,s=>.cons r (a9.append t s)
theorem a9.take:∀ {xs:List V}{us:List Value}(n:Nat),a9 xs us->a9 (xs.take n) (us.take n)
 |_,_,0,_=>.nil
 |_,_,_+1,.nil=>.nil
 |_,_,n+1,.cons r t=>.cons r (a9.take n t)
theorem a9.drop:∀ {xs:List V}{us:List Value}(n:Nat),a9 xs us->a9 (xs.drop n) (us.drop n)
 |_,_,0,r=>r
 |_,_,_+1,.nil=>.nil
 |_,_,n+1,.cons _ t=>a9.drop n t
theorem a9.none_of:∀ {xs:List V}{us:List Value}{i:Nat},a9 xs us->xs[i]? = none->us[i]? = none:=λ{xs us i} r e=>by
 have h1:=r.length;have h2:xs.length<=i:=List.getElem?_eq_none_iff.mp e;exact List.getElem?_eq_none_iff.mpr (by omega)
def oP:Option V->Option Value->Prop
 |some v,some u=>aG v u
 |none,none=>True
 |_,_=>False
def KV {κ:Type}:List (κ×V)->List (κ×Value)->Prop:=Paired λ(p:κ×V) (q:κ×Value)=>p.1=q.1/\aG p.2 q.2
noncomputable def kV:iG->V
 |.inl i=>.int i
 |.inr x=>.str x
inductive HO where
  |lst (xs:List V)
  |tup (xs:List V)
  |dK (aZ:List (iG×V)) (ob:Obj)|dT (aZ:List (List iG×V))
  |set (S:Int->Bool) (n:Nat)
  |ins (C dx:Addr) (fs:List (Str×V))
  |own (x:Addr)
  |xd (fs:List (Str×V))
  |met (f x:Addr)
  |rng (lo hi:Int)
  |frz (o:Obj) (u:HO)
  |tbl (q:Str)
  |ext (φ:Heap->Prop)
abbrev Hp:=Addr->Option HO
noncomputable def upd (H:Hp)(a:Addr)(o:HO):Hp:=λb=>if b=a then some o else H b
theorem au:upd H a o a=some o:=by unfold upd;rw[if_pos rfl]
theorem a8 (h:b≠a):upd H a o b=H b:=by unfold upd;rw[if_neg h]
theorem kq:upd (upd H a o) a u=upd H a u:=by
 funext b;unfold upd;split<;>rfl
theorem ba {H:Hp}{a b:Addr}{o:HO}(h:H a=some o)(h':H b=none):a≠b:=by
 intro e;subst e;rw[h]at h';cases h'
section
variable (P:Program) (w:World)
def bC (H:Hp)(h:Heap)(a:Addr):HO->Prop
 |.lst xs=>xs.length<=sizeLine/\∃(its:List Value)(n:Nat),a9 xs its/\h.get? a=some { cls:=.type "list",data:=.seq its.toArray n }
 |.tup xs=>xs.length<=sizeLine/\∃its:List Value,a9 xs its/\IsTup h a its.toArray
 |.dK aZ ob=>h.get? a=some ob/\aZ.length<=sizeLine/\(a == sysModules)=false/\∃vs,KV aZ vs/\h.DictOf (sq P w) a vs
 |.dT aZ=>aZ.length<=sizeLine/\(a == sysModules)=false/\∃xs:List (List iG×Addr×Value),
   Paired (λ(p:List iG×V) (q:List iG×Addr×Value)=>p.1=q.1/\H q.2.1=some (.tup (p.1.map kV))/\aG p.2 q.2.2) aZ xs /\
   ∃o es ep,h.get? a=some o/\o.ExactDict/\o.data=.dict es ep/\es.toList=xs.map (entryOfKey (tupleKind (sq P w)))/\(xs.map (·.1)).Nodup
 |.set S n=>h.SetOf (intKind P w) a S n
 |.ins C dx fs=>H dx=some (.own a)/\fs.length<=1000/\dx≠a/\h.get? a=some (PySem.W.instObj C dx) /\
   ∃mA,h.Ns1 dx mA/\(∀f,oP (fs.lookup f) (mA f))/\PySem.Within mA (fs.map (·.1))
 |.own _=>∃o,h.get? a=some o
 |.xd fs=>∃mA,h.Ns1 a mA/\∀f,oP (fs.lookup f) (mA f)
 |.rng lo hi=>∃t u v,h.get? a=some { cls:=.type "range",data:=.fields #[.int lo t,.int hi u,.int 1 v] }
 |.frz o u=>h.get? a=some o/\bC H h a u
 |.tbl q=>∃ps:Array Value,h.get? a=some { cls:=.none,data:=.fields ps }/\TriplesOk ps.toList/\∀pos cv,codeAmong pos ps.toList=some cv->∃(c:Addr)(oc:Obj)(u:HO)(vs:Array Value)(t:Tok),cv=.ref c/\H c=some (.frz oc u)/\oc.data=.fields vs/\vs[1]? = some (.str q t)
 |.met f x=>h.get? a=some (PySem.W.methodObj (.ref f) (.ref x))
 |.ext φ=>φ h/\(∃o,h.get? a=some o)/\∀h1 h2:Heap,φ h1->(∀o,h1.get? a=some o->h2.get? a=some o)->φ h2
def kr (H:Hp)(h:Heap):Prop:=∀a o,H a=some o->bC P w H h a o
end
section
variable {P:Program}{w:World}{H H':Hp}{h h':Heap}{a:Addr}{o:HO}
theorem bC.lt (x:bC P w H h a o):a<h.objs.size:=by
 cases o with
 |lst xs=>obtain⟨_,_,_,_,e⟩:=x;exact vX e
 |tup xs=>obtain⟨_,_,_,p⟩:=x;exact p.lt
 |dK aZ ob=>exact vX (And.left x)
 |dT aZ=>obtain⟨_,_,_,_,o,_,_,e,_⟩:=x;exact vX e
 |set S n=>obtain⟨o,_,_,_,e,_⟩:=x;exact vX e
 |ins C dx fs=>obtain⟨_,_,_,e,_⟩:=x;exact vX e
 |own y=>obtain⟨_,e⟩:=x;exact vX e
 |xd fs=>obtain⟨_,⟨_,_,_,e,_⟩,_⟩:=x;exact vX e
 |rng lo hi=>obtain⟨_,_,_,e⟩:=x;exact vX e
 |frz ob u=>obtain⟨e,_⟩:=x;exact vX e
 |tbl q=>obtain⟨_,e,_⟩:=x;exact vX e
 |met f y=>exact vX (show h.get? a=some _ from x)
 |ext φ=>obtain⟨_,⟨_,e⟩,_⟩:=x;exact vX e
theorem Paired.mapP {α β:Type}{F G:α->β->Prop}:∀ {l₁:List α}{l₂:List β},Paired F l₁ l₂->(∀a b,F a b->G a b)->Paired G l₁ l₂
 |_,_,.nil,_=>.nil
 |_,_,.cons r t,f=>.cons (f _ _ r) (Paired.mapP t f)
theorem bC.stay (x:bC P w H h a o)(k:∀b u,(b=a∨H b=some (.own a))->h.get? b=some u->h'.get? b=some u)
  (ho:∀b,H b=some (.own a)->H' b=some (.own a)) (ht:∀b xs,H b=some (.tup xs)->H' b=some (.tup xs)) (hf:∀b o u,H b=some (.frz o u)->H' b=some (.frz o u)):bC P w H' h' a o:=by
 induction o with
 |lst xs=>obtain⟨z,its,n,r,e⟩:=x;exact⟨z,its,n,r,k _ _ (.inl rfl) e⟩
 |tup xs=>obtain⟨z,its,r,ob,e,c⟩:=x;exact⟨z,its,r,ob,k _ _ (.inl rfl) e,c⟩
 |dK aZ KR=>obtain⟨g,z,y,vs,r,ob,es,ep,e,c⟩:=x;exact⟨k _ _ (.inl rfl) g,z,y,vs,r,ob,es,ep,k _ _ (.inl rfl) e,c⟩
 |dT aZ=>
  obtain⟨z,y,xs,r,ob,es,ep,e,c⟩:=x;exact⟨z,y,xs,Paired.mapP r λp q z=>⟨z.1,ht _ _ z.2.1,z.2.2⟩,ob,es,ep,k _ _ (.inl rfl) e,c⟩
 |set S n=>obtain⟨ob,es,ep,t,e,c⟩:=x;exact⟨ob,es,ep,t,k _ _ (.inl rfl) e,c⟩
 |ins C dx fs=>
  obtain⟨d,z,ne,e,mA,⟨od,es,ep,e2,c⟩,r⟩:=x;exact⟨ho _ d,z,ne,k _ _ (.inl rfl) e,mA,⟨od,es,ep,k _ _ (.inr d) e2,c⟩,r⟩
 |own y=>obtain⟨ob,e⟩:=x;exact⟨ob,k _ _ (.inl rfl) e⟩
 |xd fs=>obtain⟨mA,⟨od,es,ep,e,c⟩,r⟩:=x;exact⟨mA,⟨od,es,ep,k _ _ (.inl rfl) e,c⟩,r⟩
 |rng lo hi=>obtain⟨t,u,v,e⟩:=x;exact⟨t,u,v,k _ _ (.inl rfl) e⟩
 |frz ob u ih=>obtain⟨e,q⟩:=x;exact⟨k _ _ (.inl rfl) e,ih q⟩
 |tbl q=>obtain⟨ps,e,t,c⟩:=x;exact⟨ps,k a _ (.inl rfl) e,t,λpos cv z=>let ⟨d,oc,u,vs,tk,z1,z2,z3⟩:=c pos cv z;⟨d,oc,u,vs,tk,z1,hf _ _ _ z2,z3⟩⟩
 |met f y=>
  have e:h.get? a=some (PySem.W.methodObj (.ref f) (.ref y)):=x;show h'.get? a=some (PySem.W.methodObj (.ref f) (.ref y));exact k a _ (.inl rfl) e
 |ext φ=>obtain⟨p,⟨o,e⟩,st⟩:=x;exact⟨st _ _ p λo q=>k _ _ (.inl rfl) q,⟨o,k _ _ (.inl rfl) e⟩,st⟩
theorem kr.lt (x:kr P w H h)(e:H a=some o):a<h.objs.size:=(x a o e).lt
theorem kr.fresh (x:kr P w H h)(e:h.objs.size<=a):H a=none:=by
 cases q:H a with
 |none=>rfl
 |some u=>exact absurd (vQ (x.lt q) e) (Nat.lt_irrefl _)
theorem kr.kept (x:kr P w H h)(k:∀b u,h.get? b=some u->h'.get? b=some u):kr P w H h':=λa o e=>
 (x a o e).stay (λb u _ q=>k b u q) (λ_ q=>q) (λ_ _ q=>q) λ_ _ _ q=>q
theorem kr.laid (x:kr P w H h)(k:∀b u,h.get? b=some u->h'.get? b=some u)(hp:h.objs.size<=a)(new:bC P w (upd H a o) h' a o):kr P w (upd H a o) h':=λb u e=>by
 have hn:=x.fresh hp;by_cases hb:b=a
 ·subst hb;rw[au]at e;cases e;exact new
 ·rw[a8 hb]at e;exact(x b u e).stay (λc v _ q=>k c v q) (λc q=>by rw[a8 (ba q hn)];exact q) (λc xs q=>by rw[a8 (ba q hn)];exact q) λc o xs q=>by rw[a8 (ba q hn)];exact q
end
def Rd (H:Hp)(a:Addr)(u:HO):Prop:=H a=some u∨∃o,H a=some (.frz o u)
theorem Rd.of (h:H a=some u):Rd H a u:=.inl h
theorem Rd.ok (r:Rd H a u)(x:kr P w H h):bC P w H h a u:=by
 rcases r with r|⟨o,r⟩
 ·exact x a u r
 ·obtain⟨_,q⟩:=x a _ r;exact q
def FN:Option HO->Prop
 |some (.lst _)=>True
 |some (.dK _ _)=>True
 |some (.dT _)=>True
 |some (.set _ _)=>True
 |some (.ins _ _ _)=>True
 |some (.ext _)=>True
 |_=>False
section
variable {P:Program}{w:World}{H:Hp}{h h':Heap}{x e:Addr}{o':HO}
theorem kr.write (ok:kr P w H h)(mu:FN (H x))(he:e=x∨H e=some (.own x))(k:∀b u,b≠e->h.get? b=some u->h'.get? b=some u)(Dx:∃u,h'.get? e=some u)
  (new:bC P w (upd H x o') h' x o'):kr P w (upd H x o') h':=λb u q=>by
 have EQ:∀c y,H c=some (.own y)->c≠x:=λc y r z=>by subst z;rw[r]at mu;exact mu
 have Ho:∀c xs,H c=some (.tup xs)->c≠x:=λc xs r z=>by subst z;rw[r]at mu;exact mu
 by_cases hb:b=x
 ·subst hb;rw[au]at q;cases q;exact new
 ·rw[a8 hb]at q;by_cases hbe:b=e
  ·have q':H b=some (.own x):=by
    rcases he with z|z
    ·exact absurd (hbe.trans z) hb
    ·rw[hbe];exact z
   rw[q]at q';cases q';obtain⟨v,hv⟩:=Dx;exact⟨v,by rw[hbe];exact hv⟩
  ·refine(ok b u q).stay (λc v hc r=>k c v ?_ r) (λc r=>by rw[a8 (EQ c b r)];exact r) (λc xs r=>by rw[a8 (Ho c xs r)];exact r) λc o xs r=>by rw[a8 (λz=>by subst z;rw[r]at mu;exact mu)];exact r
   rcases hc with rfl|hc
   ·exact hbe
   ·rintro rfl;rcases he with z|z
    ·exact EQ c b hc z
    ·rw[hc]at z;cases z;exact hb rfl
end
structure Un (fs ex:List Addr)(H H':Hp)(h h':Heap):Prop where
 keep:∀b o,h.get? b=some o->H b=none->b∉fs->b∉ex->h'.get? b=some o
 slot:∀b o,h.get? b=some o->H b=none->b∈fs->b∉ex->∃sl,h'.get? b=some { o with slots:=sl }
 free:∀b o,h.get? b=some o->H b=none->b∉ex->H' b=none
 there:∀b o,h.get? b=some o->b∉ex->∃o',h'.get? b=some o'
 tups:∀b xs,H b=some (.tup xs)->H' b=some (.tup xs)
 frzs:∀b o u,H b=some (.frz o u)->H' b=some (.frz o u)
 tbls:∀b q,H b=some (.tbl q)->H' b=some (.tbl q)
section
variable {fs KS ex M3:List Addr}{H H1 H2:Hp}{h h1 h2 h':Heap}{a x e:Addr}{o:HO}
theorem Un.any (u:Un fs ex H H1 h h1)(q:h.get? b=some ob)(n:H b=none)(hx:b∉ex):∃sl,h1.get? b=some { ob with slots:=sl }:=by
 by_cases hb:b∈fs
 ·exact u.slot b ob q n hb hx
 ·exact⟨ob.slots,u.keep b ob q n hb hx⟩
theorem Un.trans (a:Un fs ex H H1 h h1)(b:Un fs ex H1 H2 h1 h2):Un fs ex H H2 h h2 where
 keep:=λc ob q n hc hx=>b.keep c ob (a.keep c ob q n hc hx) (a.free c ob q n hx) hc hx
 slot:=λc ob q n hc hx=>by
  obtain⟨sl,e1⟩:=a.slot c ob q n hc hx;obtain⟨Hq,e2⟩:=b.slot c _ e1 (a.free c ob q n hx) hc hx;exact⟨Hq,e2⟩
 free:=λc ob q n hx=>by
  obtain⟨o',e1⟩:=a.there c ob q hx;exact b.free c o' e1 (a.free c ob q n hx) hx
 there:=λc ob q hx=>by
  obtain⟨o',e1⟩:=a.there c ob q hx;exact b.there c o' e1 hx
 tups:=λc xs q=>b.tups c xs (a.tups c xs q)
 frzs:=λc ob xs q=>b.frzs c ob xs (a.frzs c ob xs q)
 tbls:=λc ps q=>b.tbls c ps (a.tbls c ps q)
theorem Un.kept (k:∀b u,h.get? b=some u->h'.get? b=some u):Un fs ex H H h h' :=
 ⟨λb ob q _ _ _=>k b ob q,λb ob q _ _ _=>⟨ob.slots,k b ob q⟩,λ_ _ _ n _=>n,λb ob q _=>⟨ob,k b ob q⟩,λ_ _ q=>q,λ_ _ _ q=>q,λ_ _ q=>q⟩
theorem Un.refl:Un fs ex H H h h:=Un.kept λ_ _ q=>q
theorem Un.laid (k:∀b u,h.get? b=some u->h'.get? b=some u)(hp:h.objs.size<=a)(hn:H a=none):Un fs ex H (upd H a o) h h' where
 keep:=λb u q _ _ _=>k b u q
 slot:=λb u q _ _ _=>⟨u.slots,k b u q⟩
 free:=λb u q n _=>by rw[a8 (vS (vQ (vX q) hp))];exact n
 there:=λb u q _=>⟨u,k b u q⟩
 tups:=λb xs q=>by rw[a8 (ba q hn)];exact q
 frzs:=λb u xs q=>by rw[a8 (ba q hn)];exact q
 tbls:=λb ps q=>by rw[a8 (ba q hn)];exact q
theorem Un.write (mu:FN (H x))(he:e=x∨H e=some (.own x))(k:∀b u,b≠e->h.get? b=some u->h'.get? b=some u)(Dx:∃u,h'.get? e=some u):Un fs ex H (upd H x o) h h':=by
 have hx:∀b,H b=none->b≠x:=λb n z=>by subst z;rw[n]at mu;exact mu
 have hb:∀b,H b=none->b≠e:=λb n z=>by
  subst z;rcases he with r|r
  ·exact hx b n r
  ·rw[n]at r;cases r
 have hm:∀b u,H b=some u->¬FN (some u)->b≠x:=λb u q nm z=>by subst z;rw[q]at mu;exact nm mu
 refine⟨λb u q n _ _=>k b u (hb b n) q,λb u q n _ _=>⟨u.slots,k b u (hb b n) q⟩,λb u q n _=>by rw[a8 (hx b n)];exact n,λb u q _=>?_,
  λb xs q=>by rw[a8 (hm b _ q λz=>z)];exact q,λb u xs q=>by rw[a8 (hm b _ q λz=>z)];exact q,λb ps q=>by rw[a8 (hm b _ q λz=>z)];exact q⟩
 by_cases hbe:b=e
 ·subst hbe;exact Dx
 ·exact⟨u,k b u hbe q⟩
end
noncomputable def FP (h:Heap)(H:Hp):List Addr:=(List.range h.objs.size).filter λa=>(H a).isSome
def oQ (h:Heap)(H:Hp):Heap:=PySem.W.hideAll h (FP h H)
theorem uc (h:Heap)(H:Hp):(oQ h H).objs.size=h.objs.size:=PySem.W.hideAll_size _ _
theorem kG (e:h.get? b=some o)(n:H b=none):(oQ h H).get? b=some o :=
 PySem.W.hideAll_get _ e λhm=>by
  have q:(H b).isSome=true:=(List.mem_filter.mp hm).2;rw[n]at q;simp at q
theorem yU (e:(oQ h H).get? b=some o):h.get? b=some o/\H b=none:=by
 have e':h.get? b=some o:=PySem.W.of_hideAll (FP h H) e;refine⟨e',?_⟩;cases q:H b with
 |none=>rfl
 |some x=>
  have hm:b∈FP h H:=List.mem_filter.mpr ⟨List.mem_range.mpr (vX e'),by simp[q]⟩;have z:(oQ h H).get? b=none:=PySem.W.hideAll_none (FP h H) hm;rw[z]at e;cases e
noncomputable def yV (g h:Heap)(L:Addr):List (Addr×Obj):=(List.range h.objs.size).filterMap λa=>if a=L∨(g.get? a).isSome=true then none else (h.get? a).map λo=>(a,o)
def rest (g h:Heap)(L d:Addr):List (Addr×Obj):=(yV g h L).filter λp=>decide (p.1≠d)
structure Mod (K:Frag)(mg:Str->Option Value)(base:Heap):Prop where
 kin:K.In base
 glob:base.Ns mainGlobals mg
 blt:∃mb,base.Ns builtinsNs mb/\∀x:Str,x ≠ "__name__"->mb x=bootBuiltins x
 nolimit:base.NoLimit
 bmain:∃bm ob,mg "__builtins__" = some (.ref bm)/\bm≠builtinsNs/\base.get? bm=some ob/\ob.cls=.type "module"/\ob.dict=some builtinsNs/\ob.data=.plain
structure Cx where
 prog:Program
 w:World
 K:Frag
 mg:Str->Option Value
 base:Heap
 A:Around
 N:List Str
 s₀:Shared
 H₀:Hp
 env:Env
 outer:List Env
 stack:List Env
 ex:List Addr
 fn:Str->Bool
 calm:Bool
 pn:List (Addr×Obj)
 xe:Value->Shared->Prop
noncomputable def vz (l:List Env):List Addr:=l.filterMap (·.frame)
abbrev Cx.fs (X:Cx):List Addr:=vz X.outer
def yF (sc:Scope)(x:Str):Prop:=sc.names.lookup x=some .local∨sc.names.lookup x=some .cell∨sc.names.lookup x=some .free
def Bz (sc:Scope)(x:Str):Prop:=sc.names.lookup x=some .local∨sc.names.lookup x=some .cell
def G2 (env:Env)(h:Heap)(m:Str->Option Value)(x:Str)(u:Value):Prop :=
 (env.kindOf x=some .local/\m x=some u)∨((env.kindOf x=some .cell∨env.kindOf x=some .free)/\∃c,env.cells.lookup x=some c/\h.IsCell c (some u))
abbrev wq {α:Type}(X:Cx):Sem α->(α->Shared->Prop)->(Value->Shared->Prop)->Shared->Prop:=wpAny (model X.prog X.w) X.A
structure Cx.Ok (X:Cx):Prop where
 mod:Mod X.K X.mg X.base
 kind:X.env.scope.kind=.function
 glob:X.env.globals=mainGlobals
 blt:X.env.builtins=builtinsNs
 above:X.s₀.heap.objs.size<=X.env.locals
 inj:∀x y c,X.env.cells.lookup x=some c->X.env.cells.lookup y=some c->x=y
 has:∀x,(X.env.kindOf x=some .cell∨X.env.kindOf x=some .free)->∃c,X.env.cells.lookup x=some c
 cab:∀x c,X.fn x=true->X.env.cells.lookup x=some c->X.s₀.heap.objs.size<=c
 hd:X.calm=true->X.A.handled=none
 frames:X.A.frames=some X.stack
 stk:X.stack=X.outer∨(X.stack=X.env::X.outer/\X.env.frame=some X.env.locals)
 exf:∀b∈X.ex,b≠X.env.locals/\∀x c,X.env.cells.lookup x=some c->c≠b
 bs:∀b o,X.base.get? b=some o->X.s₀.heap.get? b=some o/\X.H₀ b=none
 bsz:X.base.objs.size<=X.s₀.heap.objs.size
 noex:∀b o,X.base.get? b=some o->b∉X.ex
 exfs:∀b∈X.ex,b∉X.fs
 funs:X.s₀.heap.FunFrames X.base X.outer
 frf:∀b∈X.fs,X.H₀ b=none
structure Inv (X:Cx)(aa:List (Addr×Obj))(σ:List (Option V))(H:Hp)(s:Shared):Prop where
 ok:X.Ok
 os:s.os=X.s₀.os
 bare:AllBare s.gens
 base:Un X.fs X.ex X.H₀ H X.s₀.heap s.heap
 loc:∃m,s.heap.Ns X.env.locals m/\∀(i:Nat)(x:Str)(v:V),X.N[i]? = some x->σ[i]? = some (some v)->yF X.env.scope x->∃u,aG v u/\G2 X.env s.heap m x u
 cell:∀x c,X.env.cells.lookup x=some c->∃v,s.heap.IsCell c v
 free:H X.env.locals=none
 freeC:∀x c,X.env.cells.lookup x=some c->H c=none
 pin:∀p∈X.pn++aa,s.heap.get? p.1=some p.2/\H p.1=none/\p.1≠X.env.locals/\p.1∉X.fs/\∀v,p.2.data≠.cell v
 hok:kr X.prog X.w H s.heap
 len:σ.length=X.N.length
section
variable {X:Cx}{aa:List (Addr×Obj)}{σ:List (Option V)}{H H':Hp}{s:Shared}{h':Heap}
theorem Cx.Ok.nofr (ok:X.Ok)(e:X.base.get? b=some o):b∉X.fs:=λhb=>by
 have:=(ok.funs.mem hb).1;rw[e]at this;cases this
theorem Inv.bs (I:Inv X aa σ H s):∀b o,X.base.get? b=some o->s.heap.get? b=some o/\H b=none:=λb o e=>
 ⟨I.base.keep b o (I.ok.bs b o e).1 (I.ok.bs b o e).2 (I.ok.nofr e) (I.ok.noex b o e),I.base.free b o (I.ok.bs b o e).1 (I.ok.bs b o e).2 (I.ok.noex b o e)⟩
theorem Inv.bk (I:Inv X aa σ H s):∀b o,X.base.get? b=some o->s.heap.get? b=some o:=λb o e=>(I.bs b o e).1
theorem Inv.mod (I:Inv X aa σ H s):Mod X.K X.mg X.base:=I.ok.mod
theorem Inv.kIn (I:Inv X aa σ H s):X.K.In s.heap:=I.ok.mod.kin.keeps I.bk
theorem Inv.lt (I:Inv X aa σ H s):X.env.locals<s.heap.objs.size:=let ⟨_,hn,_⟩:=I.loc;hn.lt
theorem Inv.sz (I:Inv X aa σ H s):X.s₀.heap.objs.size<=s.heap.objs.size:=vR I.ok.above (Nat.le_of_lt I.lt)
theorem Inv.nofs (I:Inv X aa σ H s)(h:s.heap.objs.size<=a):a∉X.fs:=λhb=>by
 obtain⟨_,o,ho,_⟩:=I.ok.funs.mem hb;exact absurd (vQ (vX ho) (vR I.sz h)) (Nat.lt_irrefl _)
theorem Inv.cne (I:Inv X aa σ H s):∀x c,X.env.cells.lookup x=some c->c≠X.env.locals:=λx c e z=>by
 obtain⟨v,o,ho,hd⟩:=I.cell x c e;obtain⟨m,⟨o',es,ep,sj,Hr,_⟩,_⟩:=I.loc;rw[z,sj]at ho;cases ho;rw[Hr]at hd;cases hd
theorem Inv.funs (I:Inv X aa σ H s):s.heap.FunFrames X.base X.outer:=by
 have all:∀(l:List Env),(∀b∈vz l,b∈X.fs)->X.s₀.heap.FunFrames X.base l->s.heap.FunFrames X.base l:=by
  intro l;induction l with
  |nil=>intro _ _;trivial
  |cons env r ih=>
   intro hs hl;obtain⟨hk,⟨L,o,hf,hn,ho,hd⟩,hr⟩:=hl;have hL:L∈X.fs:=hs L (by unfold vz;rw[List.filterMap_cons,hf];exact mX);obtain⟨sl,e⟩:=I.base.slot L o ho (I.ok.frf L hL) hL λz=>I.ok.exfs L z hL;exact⟨hk,⟨L,_,hf,hn,e,hd⟩,ih (λb hb=>hs b (by unfold vz;rw[List.filterMap_cons,hf];exact mZ _ hb)) hr⟩
 exact all X.outer (λ_ hb=>hb) I.ok.funs
theorem Inv.stack (I:Inv X aa σ H s):s.heap.FunFrames X.base X.stack:=by
 rcases I.ok.stk with e|⟨e,hf⟩
 ·rw[e];exact I.funs
 ·rw[e];obtain⟨m,hn,_⟩:=I.loc;refine .cons (by rw[I.ok.kind];decide) hf hn ?_ I.funs;exact Heap.get?_none_of_le (vR I.ok.bsz I.ok.above)
theorem Inv.stkSub (I:Inv X aa σ H s):∀b∈vz X.stack,b∈X.env.locals::X.fs:=λb hb=>by
 rcases I.ok.stk with e|⟨e,hf⟩
 ·rw[e]at hb;exact mZ _ hb
 ·rw[e]at hb;unfold vz at hb;rw[List.filterMap_cons,hf]at hb;exact hb
theorem Inv.stkFree (I:Inv X aa σ H s):∀b∈vz X.stack,H b=none:=λb hb=>by
 rcases vP (I.stkSub b hb)with e|hb
 ·rw[e];exact I.free
 ·obtain⟨_,o,ho,_⟩:=I.ok.funs.mem hb;exact I.base.free b o ho (I.ok.frf b hb) λz=>I.ok.exfs b z hb
theorem Inv.step {g':Array GenState}{t':Nat}{d':Drawn}{ch:List Addr}(I:Inv X aa σ H s)
  (vL:∀b∈ch,(b∈X.ex∨X.s₀.heap.objs.size<=b)/\b≠X.env.locals/\(∀x c,X.env.cells.lookup x=some c->c≠b)/\∀p∈X.pn++aa,p.1≠b)
  (keep:∀b o,b≠X.env.locals->b∉X.fs->b∉ch->s.heap.get? b=some o->H b=none->h'.get? b=some o)
  (slot:∀b o,b≠X.env.locals->b∈X.fs->b∉ch->s.heap.get? b=some o->H b=none->∃sl,h'.get? b=some { o with slots:=sl }) (free:∀b o,b∉ch->s.heap.get? b=some o->H b=none->H' b=none)
  (there:∀b o,b∉ch->s.heap.get? b=some o->∃o',h'.get? b=some o')
  (tups:∀b xs,H b=some (.tup xs)->H' b=some (.tup xs)) (frzs:∀b o u,H b=some (.frz o u)->H' b=some (.frz o u)) (tbls:∀b q,H b=some (.tbl q)->H' b=some (.tbl q))
  (ns:∀m,s.heap.Ns X.env.locals m->h'.Ns X.env.locals m) (hok:kr X.prog X.w H' h') (hg:AllBare g'):
  Inv X aa σ H' { s with heap:=h',gens:=g',drawn:=d',toks:=t' }:=by
 have Jb:∀b o,X.s₀.heap.get? b=some o->b≠X.env.locals:=λb o e=>vS (vQ (vX e) I.ok.above);have Dy:∀b o,X.s₀.heap.get? b=some o->b∉X.ex->b∉ch:=λb o e hx hb=>by
  rcases (vL b hb).1 with z|z
  ·exact hx z
  ·exact absurd (vQ (vX e) z) (Nat.lt_irrefl _)
 have Bi:∀x c,X.env.cells.lookup x=some c->∀v,s.heap.IsCell c v->h'.IsCell c v:=λx c e v ⟨o,ho,hd⟩=>by
  have ER:c∉ch:=λz=>(vL c z).2.2.1 x c e rfl;by_cases hc:c∈X.fs
  ·obtain⟨sl,q⟩:=slot c o (I.cne x c e) hc ER ho (I.freeC x c e);exact⟨_,q,hd⟩
  ·exact⟨o,keep c o (I.cne x c e) hc ER ho (I.freeC x c e),hd⟩
 refine⟨I.ok,I.os,hg,⟨λb o e n hb hx=>?_,λb o e n hb hx=>?_,λb o e n hx=>?_,λb o e hx=>?_,λb xs e=>tups b xs (I.base.tups b xs e),λb o xs e=>frzs b o xs (I.base.frzs b o xs e),λb ps e=>?_⟩,?_,λx c e=>?_,?_,λx c e=>?_,λp hp=>?_,hok,I.len⟩
 ·exact keep b o (Jb b o e) hb (Dy b o e hx) (I.base.keep b o e n hb hx) (I.base.free b o e n hx)
 ·obtain⟨sl,e1⟩:=I.base.slot b o e n hb hx;obtain⟨Hq,e2⟩:=slot b _ (Jb b o e) hb (Dy b o e hx) e1 (I.base.free b o e n hx);exact⟨Hq,e2⟩
 ·obtain⟨o',e1⟩:=I.base.there b o e hx;exact free b o' (Dy b o e hx) e1 (I.base.free b o e n hx)
 ·obtain⟨o',e1⟩:=I.base.there b o e hx;exact there b o' (Dy b o e hx) e1
 ·exact tbls b _ (I.base.tbls b ps e)
 ·obtain⟨m,hn,hl⟩:=I.loc;refine⟨m,ns m hn,λi x v e1 e2 e3=>?_⟩;obtain⟨u,r,l⟩:=hl i x v e1 e2 e3;refine⟨u,r,?_⟩;rcases l with l|⟨k,c,e,z⟩
  ·exact .inl l
  ·exact .inr ⟨k,c,e,Bi x c e _ z⟩
 ·obtain⟨v,z⟩:=I.cell x c e;exact⟨v,Bi x c e v z⟩
 ·obtain⟨m,⟨o,_,_,ho,_⟩,_⟩:=I.loc;exact free _ o (λz=>(vL _ z).2.1 rfl) ho I.free
 ·obtain⟨v,o,ho,hd⟩:=I.cell x c e;exact free c o (λz=>(vL c z).2.2.1 x c e rfl) ho (I.freeC x c e)
 ·obtain⟨e,n,ne,nf,d⟩:=I.pin p hp;have ER:p.1∉ch:=λz=>(vL p.1 z).2.2.2 p hp rfl;exact⟨keep p.1 p.2 ne nf ER e n,free p.1 p.2 ER e n,ne,nf,d⟩
theorem Inv.un {t':Nat}(I:Inv X aa σ H s)(u:Un X.fs [] H H' s.heap h')(hok:kr X.prog X.w H' h'):Inv X aa σ H' { s with heap:=h',toks:=t' }:=by
 obtain⟨m,⟨o,es,ep,ho,r⟩,_⟩:=id I.loc;obtain⟨sl,hL⟩:=u.any ho I.free (by simp);exact I.step (g':=s.gens) (d':=s.drawn) (ch:=[]) (λ_ z=>nomatch z) (λb o _ hb _ e n=>u.keep b o e n hb (by simp)) (λb o _ hb _ e n=>u.slot b o e n hb (by simp)) (λb o _ e n=>u.free b o e n (by simp)) (λb o _ e=>u.there b o e (by simp)) u.tups u.frzs u.tbls (λm' hm=>by
  obtain⟨o',sk,Hs,sj,r'⟩:=hm;rw[ho]at sj;cases sj;exact⟨_,sk,Hs,hL,r'⟩) hok I.bare
theorem Inv.call {g':Array GenState}{t':Nat}{d':Drawn}{ch:List Addr}(I:Inv X aa σ H s)(u:Un (vz X.stack) ch H H' s.heap h')(hok:kr X.prog X.w H' h')(hg:AllBare g')
  (vL:∀b∈ch,(b∈X.ex∨X.s₀.heap.objs.size<=b)/\b≠X.env.locals/\(∀x c,X.env.cells.lookup x=some c->c≠b)/\∀p∈X.pn++aa,p.1≠b):
  Inv X aa σ H' { s with heap:=h',gens:=g',drawn:=d',toks:=t' }:=by
 obtain⟨m,⟨o,es,ep,ho,r⟩,_⟩:=id I.loc;obtain⟨sl,hL⟩:=u.any ho I.free λz=>(vL _ z).2.1 rfl;exact I.step (ch:=ch) vL (λb o hL hb hc e n=>u.keep b o e n (λz=>(vP (I.stkSub b z)).elim hL hb) hc) (λb o _ _ hc e n=>u.any e n hc) (λb o hc e n=>u.free b o e n hc) (λb o hc e=>u.there b o e hc) u.tups u.frzs u.tbls (λm' hm=>by
  obtain⟨o',sk,Hs,sj,r'⟩:=hm;rw[ho]at sj;cases sj;exact⟨_,sk,Hs,hL,r'⟩) hok hg
theorem Inv.turned {t':Nat}{it:Addr}(I:Inv X aa σ H s)(k:∀b o,b≠it->s.heap.get? b=some o->h'.get? b=some o)(hn:H it=none)(hL:it≠X.env.locals)
  (h1:it∈X.ex∨X.s₀.heap.objs.size<=it) (h2:∀x c,X.env.cells.lookup x=some c->c≠it) (h3:∀p∈X.pn++aa,p.1≠it):Inv X aa σ H { s with heap:=h',toks:=t' }:=by
 have Bj:∀b u,H b=some u->b≠it:=λb u e z=>by rw[z,hn]at e;cases e
 refine I.step (g':=s.gens) (d':=s.drawn) (ch:=[it]) (λb hb=>?_) (λb o _ _ hc e _=>k b o (λz=>hc (by simp[z])) e) (λb o _ _ hc e _=>⟨o.slots,k b o (λz=>hc (by simp[z])) e⟩) (λ_ _ _ _ n=>n)
  (λb o hc e=>⟨o,k b o (λz=>hc (by simp[z])) e⟩) (λ_ _ e=>e) (λ_ _ _ e=>e) (λ_ _ e=>e) (λm hm=>?_) (λb u e=>?_) I.bare
 ·have e:b=it:=by simpa using hb
  subst e;exact⟨h1,hL,h2,h3⟩
 ·obtain⟨o,es,ep,ho,r⟩:=hm;exact⟨o,es,ep,k _ o (Ne.symm hL) ho,r⟩
 ·refine(I.hok b u e).stay (λc v hc q=>k c v ?_ q) (λ_ q=>q) (λ_ _ q=>q) λ_ _ _ q=>q;rcases hc with z|z
  ·rw[z];exact Bj b u e
  ·exact Bj c _ z
theorem Inv.tok (I:Inv X aa σ H s)(t:Nat):Inv X aa σ H { s with toks:=t }:=I.un (h':=s.heap) (t':=t) Un.refl I.hok
theorem Inv.kept (I:Inv X aa σ H s)(k:∀b u,s.heap.get? b=some u->h'.get? b=some u):Inv X aa σ H { s with heap:=h',toks:=t' }:=I.un (Un.kept k) (I.hok.kept k)
theorem Inv.laid (I:Inv X aa σ H s)(k:∀b u,s.heap.get? b=some u->h'.get? b=some u)(hp:s.heap.objs.size<=a)(new:bC X.prog X.w (upd H a o) h' a o):
  Inv X aa σ (upd H a o) { s with heap:=h',toks:=t' }:=I.un (Un.laid k hp (I.hok.fresh hp)) (I.hok.laid k hp new)
theorem Inv.write (I:Inv X aa σ H s)(mu:FN (H x))(he:e=x∨H e=some (.own x))(k:∀b u,b≠e->s.heap.get? b=some u->h'.get? b=some u)(Dx:∃u,h'.get? e=some u)
  (new:bC X.prog X.w (upd H x o) h' x o):Inv X aa σ (upd H x o) { s with heap:=h',toks:=t' }:=I.un (Un.write mu he k Dx) (I.hok.write mu he k Dx new)
theorem Inv.pins_of (I:Inv X aa σ H s)(h:∀p∈pins',s.heap.get? p.1=some p.2/\H p.1=none/\p.1≠X.env.locals/\p.1∉X.fs/\∀v,p.2.data≠.cell v):Inv X pins' σ H s :=
 ⟨I.ok,I.os,I.bare,I.base,I.loc,I.cell,I.free,I.freeC,λp hp=>(List.mem_append.mp hp).elim (λz=>I.pin p (List.mem_append_left _ z)) (h p),I.hok,I.len⟩
theorem oR {N:List Str}(hN:N.Nodup){i j:Nat}{x:Str}(a:N[i]? = some x)(b:N[j]? = some x):i=j:=by
 obtain⟨h1,e1⟩:=vV a;obtain⟨h2,e2⟩:=vV b;exact(List.getElem_inj hN).mp (e1.trans e2.symm)
theorem mB {M:Model}{A:Around}{E:Value->Shared->Prop}{i:Nat}{x:Str}{v:V}{u:Value}{Q:Unit->Shared->Prop}(I:Inv X aa σ H s)(hN:X.N.Nodup)(hi:X.N[i]? = some x)(hx:Bz X.env.scope x)(r:aG v u)
  (h:∀s',Inv X aa (σ.set i (some v)) H s'->(∃a,Heap.SameBut a s.heap s'.heap/\(a=X.env.locals∨X.env.cells.lookup x=some a))->Q () s') (hf:X.fn x=true∨X.env.scope.names.lookup x=some .local:=by first|exact .inl rfl|exact .inr rfl|assumption):wpAny M A (storeName X.env x u) Q E s:=by
 obtain⟨m,hn,hl⟩:=id I.loc;have Ht:(X.env.scope.kind == .class || (X.env.scope.kind == .module && X.env.locals != X.env.globals))=false:=by rw[I.ok.kind];rfl
 have vm:i<σ.length:=by rw[I.len];exact(vV hi).1
 have cne:=I.cne;have tW:∀ {a:Addr}{h':Heap},(∃o,s.heap.get? a=some o/\H a=none)->Heap.SameBut a s.heap h'->kr X.prog X.w H h':=λ{a h'} ha hs b ob e=>by
  obtain⟨_,_,Bk⟩:=ha;refine(I.hok b ob e).stay (λc w' hc q=>(hs.2 c ?_).trans q) (λ_ q=>q) (λ_ _ q=>q) λ_ _ _ q=>q;rintro rfl;rcases hc with rfl|hc
  ·rw[Bk]at e;cases e
  ·rw[Bk]at hc;cases hc
 rcases hx with hk|hk
 ·refine wpAny_storeName_local hk hn (λh' KU hs=>?_) Ht;obtain⟨oL,_,_,ES,_⟩:=id hn;refine h _ ⟨I.ok,I.os,I.bare,⟨λb o e n hb hx=>?_,λb o e n hb hx=>?_,I.base.free,λb o e hx=>?_,I.base.tups,I.base.frzs,I.base.tbls⟩,⟨_,KU,λj y v' e1 e2 e3=>?_⟩,λy c e=>?_,I.free,I.freeC,λp hp=>?_,tW ⟨oL,ES,I.free⟩ hs,by simpa using I.len⟩ ⟨_,hs,.inl rfl⟩
  ·exact(hs.2 b (vS (vQ (vX e) I.ok.above))).trans (I.base.keep b o e n hb hx)
  ·obtain⟨sl,e1⟩:=I.base.slot b o e n hb hx;exact⟨sl,(hs.2 b (vS (vQ (vX e) I.ok.above))).trans e1⟩
  ·obtain⟨o',e1⟩:=I.base.there b o e hx;exact⟨o',(hs.2 b (vS (vQ (vX e) I.ok.above))).trans e1⟩
  ·by_cases hj:j=i
   ·subst hj;rw[hi]at e1;cases e1;rw[List.getElem?_set_self vm]at e2;cases e2
    exact⟨u,r,.inl ⟨hk,by simp⟩⟩
   ·rw[vB (Ne.symm hj)]at e2;obtain⟨u',r',q⟩:=hl j y v' e1 e2 e3;refine⟨u',r',?_⟩;rcases q with⟨k,e⟩|⟨k,c,e,z⟩
    ·refine .inl ⟨k,?_⟩;have:y≠x:=λe=>hj (oR hN e1 (e ▸ hi));simp[this,e]
    ·exact .inr ⟨k,c,e,z.sameBut hs (cne y c e)⟩
  ·obtain⟨w',z⟩:=I.cell y c e;exact⟨w',z.sameBut hs (cne y c e)⟩
  ·obtain⟨e,n,ne,nf,d⟩:=I.pin p hp;exact⟨(hs.2 p.1 ne).trans e,n,ne,nf,d⟩
 ·have Hu:X.fn x=true:=by
   rcases hf with z|z
   ·exact z
   ·rw[z]at hk;cases hk
  obtain⟨c,hc⟩:=I.ok.has x (.inl hk);obtain⟨w',z⟩:=I.cell x c hc;refine wpAny_storeName_cell I.ok.kind hk hc z (λh' Ge hs=>?_);obtain⟨oc,Jc,Hv⟩:=id z;refine h { s with heap:=h' } ⟨I.ok,I.os,I.bare,⟨λb o e n hb hx=>?_,λb o e n hb hx=>?_,I.base.free,λb o e hx=>?_,I.base.tups,I.base.frzs,I.base.tbls⟩,⟨m,hn.sameBut hs (Ne.symm (cne x c hc)),λj y v' e1 e2 e3=>?_⟩,λy c' e=>?_,I.free,I.freeC,λp hp=>?_,tW ⟨oc,Jc,I.freeC x c hc⟩ hs,by simpa using I.len⟩ ⟨c,hs,.inr hc⟩
  ·exact(hs.2 b (vS (vQ (vX e) (I.ok.cab x c Hu hc)))).trans (I.base.keep b o e n hb hx)
  ·obtain⟨sl,e1⟩:=I.base.slot b o e n hb hx;exact⟨sl,(hs.2 b (vS (vQ (vX e) (I.ok.cab x c Hu hc)))).trans e1⟩
  ·obtain⟨o',e1⟩:=I.base.there b o e hx;exact⟨o',(hs.2 b (vS (vQ (vX e) (I.ok.cab x c Hu hc)))).trans e1⟩
  ·by_cases hj:j=i
   ·subst hj;rw[hi]at e1;cases e1;rw[List.getElem?_set_self vm]at e2;cases e2
    exact⟨u,r,.inr ⟨.inl hk,c,hc,Ge⟩⟩
   ·rw[vB (Ne.symm hj)]at e2;obtain⟨u',r',q⟩:=hl j y v' e1 e2 e3;refine⟨u',r',?_⟩;rcases q with q|⟨k,c',e,z'⟩
    ·exact .inl q
    ·refine .inr ⟨k,c',e,z'.sameBut hs ?_⟩;rintro rfl;exact hj (oR hN e1 (I.ok.inj _ _ _ e hc ▸ hi))
  ·by_cases hcc:c'=c
   ·subst hcc;exact⟨_,Ge⟩
   ·obtain⟨w2,z2⟩:=I.cell y c' e;exact⟨w2,z2.sameBut hs hcc⟩
  ·obtain⟨e,n,ne,nf,d⟩:=I.pin p hp;refine⟨(hs.2 p.1 ?_).trans e,n,ne,nf,d⟩;intro q;rw[q,Jc]at e;have q':oc=p.2:=vK e;exact d w' (by rw[←q'];exact Hv)
theorem oS {M:Model}{A:Around}{E:Value->Shared->Prop}{i:Nat}{x:Str}{v:V}{u:Value}{Q:Unit->Shared->Prop}(I:Inv X aa σ H s)(hN:X.N.Nodup)(hi:X.N[i]? = some x)(hx:Bz X.env.scope x)(r:aG v u)
  (h:∀s',Inv X aa (σ.set i (some v)) H s'->Q () s') (hf:X.fn x=true∨X.env.scope.names.lookup x=some .local:=by first|exact .inl rfl|exact .inr rfl|assumption):wpAny M A (storeName X.env x u) Q E s :=
 mB I hN hi hx r (λs' I' _=>h s' I') hf
theorem Inv.call' (I:Inv X aa σ H s)(ho:s'.os=s.os)(u:Un (vz X.stack) ch H H' s.heap s'.heap)(hok:kr X.prog X.w H' s'.heap)(hg:AllBare s'.gens)
  (vL:∀b∈ch,(b∈X.ex∨X.s₀.heap.objs.size<=b)/\b≠X.env.locals/\(∀x c,X.env.cells.lookup x=some c->c≠b)/\∀p∈X.pn++aa,p.1≠b):Inv X aa σ H' s':=by
 obtain⟨h',g',d',t',o'⟩:=s';have e:o'=s.os:=ho;subst e;exact I.call (g':=g') (t':=t') (d':=d') u hok hg vL
end
abbrev XK:=Value->Option Addr->Hp->Prop
abbrev St:=List (Option V)
abbrev VK:=V->Hp->Prop
abbrev TE:=St->Hp->VK->Prop
abbrev TT:=St->Hp->(Bool->Hp->Prop)->Prop
abbrev TA:=St->Hp->(List V->Hp->Prop)->Prop
structure Ends where
 nx:St->Hp->Prop
 rt:VK
 bk:St->Hp->Prop:=λ_ _=>False
 ct:St->Hp->Prop:=λ_ _=>False
abbrev TS:=Ends->St->Hp->Prop
def EP (X:Cx)(aa:List (Addr×Obj))(σ:St)(Q:VK)(u:Value)(s':Shared):Prop:=∃v H',Inv X aa σ H' s'/\aG v u/\Q v H'
def TP (X:Cx)(aa:List (Addr×Obj))(σ:St)(Q:Bool->Hp->Prop)(b:Bool)(s':Shared):Prop:=∃H',Inv X aa σ H' s'/\Q b H'
def AP (X:Cx)(aa:List (Addr×Obj))(σ:St)(Q:List V->Hp->Prop)(us:List Value)(s':Shared):Prop:=∃vs H',Inv X aa σ H' s'/\a9 vs us/\Q vs H'
def SP (X:Cx)(aa:List (Addr×Obj))(D:Ends)(f:Flow)(s':Shared):Prop :=
 match f with
 |.next=>∃σ' H',Inv X aa σ' H' s'/\D.nx σ' H'
 |.brk=>∃σ' H',Inv X aa σ' H' s'/\D.bk σ' H'
 |.cont=>∃σ' H',Inv X aa σ' H' s'/\D.ct σ' H'
 |.ret u=>∃v σ' H',Inv X aa σ' H' s'/\aG v u/\D.rt v H'
def PE (X:Cx)(e:Expr)(t:TE):Prop :=
 ∀(aa:List (Addr×Obj))(s:Shared)(σ:St)(H:Hp)(Q:VK),Inv X aa σ H s->t σ H Q->wq X (eval e X.env) (EP X aa σ Q) X.xe s
def PT (X:Cx)(e:Expr)(t:TT):Prop :=
 ∀(aa:List (Addr×Obj))(s:Shared)(σ:St)(H:Hp)(Q:Bool->Hp->Prop),Inv X aa σ H s->t σ H Q->wq X (isTrue e X.env (eval e X.env)) (TP X aa σ Q) X.xe s
def PW (X:Cx)(e:Expr)(t:TT):Prop :=
 ∀(lQ:Sem Value)(aa:List (Addr×Obj))(s:Shared)(σ:St)(H:Hp)(Q:Bool->Hp->Prop),Inv X aa σ H s->t σ H Q->wq X (isTrue e X.env lQ) (TP X aa σ Q) X.xe s
theorem PW.pt (h:PW X e t):PT X e t:=h _
def PA (X:Cx)(es:List Expr)(t:TA):Prop :=
 ∀(pos:Pos)(aa:List (Addr×Obj))(s:Shared)(σ:St)(H:Hp)(Q:List V->Hp->Prop),Inv X aa σ H s->t σ H Q->wq X (spliced (backTo pos (starEach es X.env))) (AP X aa σ Q) X.xe s
def PS (X:Cx)(st:Stmt)(t:TS):Prop :=
 ∀(aa:List (Addr×Obj))(s:Shared)(σ:St)(H:Hp)(D:Ends),Inv X aa σ H s->t D σ H->wq X (exec st X.env) (SP X aa D) X.xe s
def nN (X:Cx)(st:List Stmt)(t:TS):Prop :=
 ∀(aa:List (Addr×Obj))(s:Shared)(σ:St)(H:Hp)(D:Ends),Inv X aa σ H s->t D σ H->wq X (execs st X.env) (SP X aa D) X.xe s
theorem bG {α:Type}{t:Sem α}{Q Q':α->Shared->Prop}{M:Model}{A:Around}{E:Value->Shared->Prop}{s:Shared}(h:wpAny M A t Q E s)(hQ:∀a s,Q a s->Q' a s):wpAny M A t Q' E s:=wpAny_mono h hQ λ_ _ x=>x
section
variable {X:Cx}
theorem Mz {a b:Expr}{ta tb:TE}(ha:PE X a ta)(hb:PE X b tb){aa:List (Addr×Obj)}{s:Shared}{σ:St}{H:Hp}{R:V->V->Hp->Prop}(I:Inv X aa σ H s)(h:ta σ H λx H1=>tb σ H1 λy H2=>R x y H2)
  {α:Type}{Q:α->Shared->Prop}{f:Value->Value->Sem α}
  (hf:∀v u s2 x y H2,Inv X aa σ H2 s2->aG x v->aG y u->R x y H2->wq X (f v u) Q X.xe s2):
  wq X (eval a X.env) (λv s₁=>wq X (eval b X.env) (λu s₂=>wq X (f v u) Q X.xe s₂) X.xe s₁) X.xe s:=by
 refine bG (ha aa s σ H _ I h) λv s1 ⟨x,H1,I1,r1,q1⟩=>?_;refine bG (hb aa s1 σ H1 _ I1 q1) λu s2 ⟨y,H2,I2,r2,q2⟩=>?_;exact hf v u s2 x y H2 I2 r1 r2 q2
def D9 (i:Nat):TE:=λσ H Q=>∃v,σ[i]? = some (some v)/\Q v H
def tC (v:V):TE:=λ_ H Q=>Q v H
theorem j0 (hN:X.N[i]? = some x)(hv:yF X.env.scope x)(hd:(x == ("__debug__" : Str))=false:=by decide)(jZ:(x == ("__classdict__" : Str))=false:=by decide):PE X (.Name x pos) (D9 i):=by
 intro aa s σ H Q I h;obtain⟨v,e,h⟩:=h;obtain⟨m,hn,hl⟩:=I.loc;obtain⟨u,r,l⟩:=hl i x v hN e hv;have fin:EP X aa σ Q u s:=⟨v,H,I,r,h⟩;rcases l with⟨hk,hm⟩|⟨hk,c,hc,Bl⟩
 ·exact wpAny_Name (wpAny_loadName_local I.ok.kind hk hn hm fin) hd
 ·rcases hk with hk|hk
  ·exact wpAny_Name (wpAny_loadName_cell I.ok.kind hk hc Bl fin) hd
  ·exact wpAny_Name (wpAny_loadName_free I.ok.kind hk hc Bl fin jZ) hd
theorem B1 {i j pos}:PE X (.Constant (.int i) j pos) (tC (.int i)):=λ_ _ _ H _ I h=>wpAny_Constant_int ⟨.int i,H,I.tok _,⟨_,rfl⟩,h⟩
theorem DA {b j pos}:PE X (.Constant (.bool b) j pos) (tC (.bl b)):=λ_ _ _ H _ I h=>Constant_bool ⟨.bl b,H,I,rfl,h⟩
theorem B3 {j pos}:PE X (.Constant .none j pos) (tC .non):=λ_ _ _ H _ I h=>Constant_none ⟨.non,H,I,rfl,h⟩
theorem B4 {x j pos}:PE X (.Constant (.str x) j pos) (tC (.str x)):=λ_ _ _ H _ I h=>Calls.Constant_str ⟨.str x,H,I.tok _,⟨_,rfl⟩,h⟩
def Gl (X:Cx)(x:Str):Prop:=X.env.kindOf x=some .globalImplicit
theorem sr {E:Value->Shared->Prop}{aa:List (Addr×Obj)}{s:Shared}{σ:St}{H:Hp}{x:Str}{u:Value}{pos:Pos}{Q:Value->Shared->Prop}(I:Inv X aa σ H s)(hg:Gl X x)(hm:X.mg x=some u)(h:Q u s)
  (hd:(x == ("__debug__" : Str))=false:=by decide):wq X (eval (.Name x pos) X.env) Q E s :=
 Calls.Name_function_global I.ok.kind hg (Calls.loadGlobal_global (by rw[I.ok.glob];exact I.mod.glob.keeps I.bk) hm h) hd
theorem ig {E:Value->Shared->Prop}{aa:List (Addr×Obj)}{s:Shared}{σ:St}{H:Hp}{x:Str}{u:Value}{pos:Pos}{Q:Value->Shared->Prop}(I:Inv X aa σ H s)(hg:Gl X x)(hm:X.mg x=none)(hv:bootBuiltins x=some u)(h:Q u s)
  (hn:x ≠ "__name__":=by decide) (hd:(x == ("__debug__" : Str))=false:=by decide):wq X (eval (.Name x pos) X.env) Q E s:=by
 obtain⟨mb,h1,h2⟩:=I.mod.blt;exact Calls.Name_function_global I.ok.kind hg (Calls.loadGlobal_builtin (by rw[I.ok.glob];exact I.mod.glob.keeps I.bk) hm (by rw[I.ok.blt];exact h1.keeps I.bk) ((h2 x hn).trans hv) h) hd
theorem ku (hg:Gl X x)(hm:X.mg x=some u)(r:aG v u)(hd:(x == ("__debug__" : Str))=false:=by decide):PE X (.Name x pos) (tC v) :=
 λ_ _ _ H _ I h=>sr I hg hm ⟨v,H,I,r,h⟩ hd
theorem yW (hg:Gl X x)(hm:X.mg x=none)(hv:bootBuiltins x=some u)(r:aG v u)(hn:x ≠ "__name__":=by decide)(hd:(x == ("__debug__" : Str))=false:=by decide):PE X (.Name x pos) (tC v) :=
 λ_ _ _ H _ I h=>ig I hg hm hv ⟨v,H,I,r,h⟩ hn hd
variable {a b:Expr}{ta tb:TE}{pos:Pos}
def PC (X:Cx)(op:CmpOp)(a b:Expr)(t:TE):Prop :=
 ∀(aa:List (Addr×Obj))(s:Shared)(σ:St)(H:Hp)(Q:VK),Inv X aa σ H s->t σ H Q ->
  wq X (eval a X.env) (λv s₁=>wq X (eval b X.env) (λu s₂=>wq X (compareOp op v u) (EP X aa σ Q) X.xe s₂) X.xe s₁) X.xe s
theorem kH (b:Expr){op:CmpOp}(h:op≠.In)(h2:op≠.NotIn):behindInMarks op b=false:=by
 have e1:(op == CmpOp.In)=false:=by cases op<;>first|rfl|exact absurd rfl h
 have e2:(op == CmpOp.NotIn)=false:=by cases op<;>first|rfl|exact absurd rfl h2
 cases b<;>simp[behindInMarks,e1,e2]
def tB (t:TE):TT:=λσ H Q=>t σ H λx H1=>∃c,x=.bl c/\Q c H1
theorem G3 {op:CmpOp}{t:TE}(h:PC X op a b t)(h1:behindInMarks op b=false:=by first|exact kH _ (by decide) (by decide)|rfl):PT X (.Compare a [op] [b] pos) (tB t):=by
 intro aa s σ H Q I hw;refine wpAny_isTrue_Compare1 (bG (h aa s σ H _ I hw) λv s1 h1=>bG h1 λu s2 h2=>bG h2 λc s3 ⟨x,H1,I1,r1,q1⟩=>?_) h1;obtain⟨d,rfl,q⟩:=q1;cases r1
 exact wpAny_truthy_bool ⟨H1,I1,q⟩
theorem B5 {e:Expr}{t:TE}(h:PE X e t)(he:∀lQ,isTrue e X.env lQ=(do let v ←lQ;standAt e.pos;holding [v] (truthy v)):=by intro _;rfl):PT X e (tB t):=by
 intro aa s σ H Q I hw;refine isTrue_plain (bG (h aa s σ H _ I hw) λv s1 ⟨x,H1,I1,r1,q1⟩=>?_) (he _);obtain⟨d,rfl,q⟩:=q1;cases r1
 exact wpAny_truthy_bool ⟨H1,I1,q⟩
variable {tA Gf:TT}{rest:List Expr}
def DB (t u:TT):TT:=λσ H Q=>t σ H λc H1=>if c=true then u σ H1 Q else Q false H1
def IH (t u:TT):TT:=λσ H Q=>t σ H λc H1=>if c=true then Q true H1 else u σ H1 Q
def DC (t:TT):TT:=λσ H Q=>t σ H λc H1=>Q (!c) H1
theorem yX (ha:PT X a tA):PW X (.BoolOp .And [a] pos) tA:=by
 intro wh aa s σ H Q I h;refine isTrue_and (bG (ha aa s σ H Q I h) λc s1 e=>?_);cases c with
 |true=>exact isTrue_and_nil e
 |false=>exact e
theorem B6 (ha:PT X a tA):PW X (.BoolOp .Or [a] pos) tA:=by
 intro wh aa s σ H Q I h;refine isTrue_or (bG (ha aa s σ H Q I h) λc s1 e=>?_);cases c with
 |false=>exact isTrue_or_nil e
 |true=>exact e
theorem B7 (ha:PT X a tA)(hb:PW X (.BoolOp .And (b::rest) pos) Gf):PW X (.BoolOp .And (a::b::rest) pos) (DB tA Gf):=by
 intro wh aa s σ H Q I h;refine isTrue_and (bG (ha aa s σ H _ I h) λc s1 ⟨H1,I1,q1⟩=>?_);cases c with
 |true=>exact hb wh aa s1 σ H1 Q I1 q1
 |false=>exact⟨H1,I1,q1⟩
theorem DD (ha:PT X a tA)(hb:PW X (.BoolOp .Or (b::rest) pos) Gf):PW X (.BoolOp .Or (a::b::rest) pos) (IH tA Gf):=by
 intro wh aa s σ H Q I h;refine isTrue_or (bG (ha aa s σ H _ I h) λc s1 ⟨H1,I1,q1⟩=>?_);cases c with
 |true=>exact⟨H1,I1,q1⟩
 |false=>exact hb wh aa s1 σ H1 Q I1 q1
theorem B8 (ha:PT X a tA):PT X (.UnaryOp .Not a pos) (DC tA):=by
 intro aa s σ H Q I h;exact isTrue_not (ha aa s σ H (λc H1=>Q (!c) H1) I h)
def DE (ta tb:TE):TE:=λσ H Q=>ta σ H λx H1=>∃c,x=.bl c/\if c=true then tb σ H1 Q else Q (.bl false) H1
def G4 (ta tb:TE):TE:=λσ H Q=>ta σ H λx H1=>∃c,x=.bl c/\if c=true then Q (.bl true) H1 else tb σ H1 Q
def DF (ta:TE):TE:=λσ H Q=>ta σ H λx H1=>∃c,x=.bl c/\Q (.bl (!c)) H1
theorem B9 {op}(h:PE X a t):PE X (.BoolOp op [a] pos) t:=λaa s σ H Q I hw=>BoolOp_one (h aa s σ H Q I hw)
theorem BA (ha:PE X a ta)(hb:PE X (.BoolOp .And (b::rest) pos) tb):PE X (.BoolOp .And (a::b::rest) pos) (DE ta tb):=by
 intro aa s σ H Q I h;refine BoolOp_and (bG (ha aa s σ H _ I h) λv s1 ⟨x,H1,I1,r1,q1⟩=>?_);obtain⟨c,rfl,q1⟩:=q1;cases r1
 refine wpAny_truthy_bool ?_;cases c with
 |true=>exact hb aa s1 σ H1 Q I1 q1
 |false=>exact⟨.bl false,H1,I1,rfl,q1⟩
theorem DG (ha:PE X a ta)(hb:PE X (.BoolOp .Or (b::rest) pos) tb):PE X (.BoolOp .Or (a::b::rest) pos) (G4 ta tb):=by
 intro aa s σ H Q I h;refine BoolOp_or (bG (ha aa s σ H _ I h) λv s1 ⟨x,H1,I1,r1,q1⟩=>?_);obtain⟨c,rfl,q1⟩:=q1;cases r1
 refine wpAny_truthy_bool ?_;cases c with
 |false=>exact hb aa s1 σ H1 Q I1 q1
 |true=>exact⟨.bl true,H1,I1,rfl,q1⟩
theorem BB (ha:PE X a ta):PE X (.UnaryOp .Not a pos) (DF ta):=by
 intro aa s σ H Q I h;refine UnaryOp_ (bG (ha aa s σ H _ I h) λv s1 ⟨x,H1,I1,r1,q1⟩=>?_);obtain⟨c,rfl,q1⟩:=q1;cases r1
 exact not_of (wpAny_truthy_bool ⟨.bl (!c),H1,I1,rfl,q1⟩)
end
def eN (K:Frag)(H:Hp)(a:Addr)(xs:List V):Prop :=
 Rd H a (.lst xs) ∨
  ∃(o:Obj)(its:Array Value)(n:Nat),K.lookup a=some o/\o.cls=.type "list"/\o.dict=none/\o.data=.seq its n/\its.size<=sizeLine/\a9 xs its.toList
def eZ (K:Frag)(H:Hp)(a:Addr)(xs:List V):Prop :=
 Rd H a (.tup xs) ∨
  ∃(o:Obj)(its:Array Value)(n:Nat),K.lookup a=some o/\o.cls=.type "tuple"/\o.data=.seq its n/\its.size<=sizeLine/\a9 xs its.toList
noncomputable def G5:Value->Option V
 |.none=>some .non
 |.bool b=>some (.bl b)
 |.int i _=>some (.int i)
 |.str x _=>some (.str x)
 |.bytes b _=>some (.byt b)
 |.float b _=>some (.flt b)
 |.ref a=>some (.ref a)
 |.type n=>some (.ty n)
 |_=>none
theorem aG.abs (r:aG x u):G5 u=some x:=by
 cases x with
 |non=>cases r;rfl
 |bl _=>cases r;rfl
 |int _=>obtain⟨t,rfl⟩:=r;rfl
 |str _=>obtain⟨t,rfl⟩:=r;rfl
 |byt _=>obtain⟨t,rfl⟩:=r;rfl
 |flt _=>obtain⟨t,rfl⟩:=r;rfl
 |ref _=>cases r;rfl
 |ty _=>cases r;rfl
theorem aG.inj (r:aG x u)(q:aG y u):x=y:=vK (r.abs.symm.trans q.abs)
theorem a9.inj:∀ {xs ys:List V}{us:List Value},a9 xs us->a9 ys us->xs=ys
 |_,_,_,.nil,.nil=>rfl
 |_,_,_,.cons r t,.cons r' t'=>by rw[r.inj r',a9.inj t t']
section
variable {X:Cx}{aa:List (Addr×Obj)}{σ:St}{H:Hp}{s:Shared}{a:Addr}{xs ys:List V}
theorem eN.of {K:Frag}(h:H a=some (.lst xs)):eN K H a xs:=.inl (.inl h)
theorem eZ.of {K:Frag}(h:H a=some (.tup xs)):eZ K H a xs:=.inl (.inl h)
theorem Inv.list (I:Inv X aa σ H s)(h:eN X.K H a xs):∃its:List Value,a9 xs its/\PlainL s.heap a its.toArray/\xs.length<=sizeLine:=by
 rcases h with h|⟨o,its,n,hk,hc,hd,hs,hz,r⟩
 ·obtain⟨z,its,n,r,e⟩:=h.ok I.hok;exact⟨its,r,⟨_,n,e,rfl,rfl,rfl⟩,z⟩
 ·refine⟨its.toList,r,⟨o,n,I.kIn a o hk,hc,hd,by simpa using hs⟩,?_⟩;have e:=r.length;simp only[vF]at e;omega
theorem Inv.tuple (I:Inv X aa σ H s)(h:eZ X.K H a xs):∃its:List Value,a9 xs its/\IsTup s.heap a its.toArray/\xs.length<=sizeLine:=by
 rcases h with h|⟨o,its,n,hk,hc,hs,hz,r⟩
 ·obtain⟨z,its,r,p⟩:=h.ok I.hok;exact⟨its,r,p,z⟩
 ·refine⟨its.toList,r,⟨o,I.kIn a o hk,hc,n,by simpa using hs⟩,?_⟩;have e:=r.length;simp only[vF]at e;omega
theorem Inv.list_inj (I:Inv X aa σ H s)(h:eN X.K H a xs)(h':eN X.K H a ys):xs=ys:=by
 obtain⟨its,r,⟨o,n,e,_,_,d⟩,_⟩:=I.list h;obtain⟨its',r',⟨o',n',e',_,_,d'⟩,_⟩:=I.list h';rw[e]at e';cases e';rw[d]at d';injection d' with d1 _;have:its=its':=by simpa using congrArg Array.toList d1
 subst this;exact r.inj r'
theorem Inv.tuple_inj (I:Inv X aa σ H s)(h:eZ X.K H a xs)(h':eZ X.K H a ys):xs=ys:=by
 obtain⟨its,r,⟨o,e,_,n,d⟩,_⟩:=I.tuple h;obtain⟨its',r',⟨o',e',_,n',d'⟩,_⟩:=I.tuple h';rw[e]at e';cases e';rw[d]at d';injection d' with d1 _;have:its=its':=by simpa using congrArg Array.toList d1
 subst this;exact r.inj r'
end
noncomputable abbrev Cx.wish (X:Cx)(E:Value->Shared->Prop):Cx:={ X with xe:=E }
noncomputable abbrev Cx.nox (X:Cx):Cx:=X.wish λ_ _=>False
theorem Cx.Ok.wish {X:Cx}(ok:X.Ok)(E:Value->Shared->Prop):(X.wish E).Ok :=
 ⟨ok.mod,ok.kind,ok.glob,ok.blt,ok.above,ok.inj,ok.has,ok.cab,ok.hd,ok.frames,ok.stk,ok.exf,ok.bs,ok.bsz,ok.noex,ok.exfs,ok.funs,ok.frf⟩
theorem Cx.Ok.unwish {X:Cx}{E:Value->Shared->Prop}(ok:(X.wish E).Ok):X.Ok :=
 ⟨ok.mod,ok.kind,ok.glob,ok.blt,ok.above,ok.inj,ok.has,ok.cab,ok.hd,ok.frames,ok.stk,ok.exf,ok.bs,ok.bsz,ok.noex,ok.exfs,ok.funs,ok.frf⟩
section
variable {X:Cx}{aa:List (Addr×Obj)}{σ:St}{H:Hp}{s:Shared}{E:Value->Shared->Prop}
theorem Inv.wish (I:Inv X aa σ H s)(E:Value->Shared->Prop):Inv (X.wish E) aa σ H s:=⟨I.ok.wish E,I.os,I.bare,I.base,I.loc,I.cell,I.free,I.freeC,I.pin,I.hok,I.len⟩
theorem Inv.unwish (I:Inv (X.wish E) aa σ H s):Inv X aa σ H s:=⟨I.ok.unwish,I.os,I.bare,I.base,I.loc,I.cell,I.free,I.freeC,I.pin,I.hok,I.len⟩
theorem SP.unwish (h:SP (X.wish E) aa D f s'):SP X aa D f s':=by
 cases f with
 |next=>obtain⟨σ',H',I,q⟩:=h;exact⟨σ',H',I.unwish,q⟩
 |brk=>obtain⟨σ',H',I,q⟩:=h;exact⟨σ',H',I.unwish,q⟩
 |cont=>obtain⟨σ',H',I,q⟩:=h;exact⟨σ',H',I.unwish,q⟩
 |ret u=>obtain⟨v,σ',H',I,r,q⟩:=h;exact⟨v,σ',H',I.unwish,r,q⟩
theorem PE.nox (h:PE X.nox e t):PE X e t:=λaa s σ H Q I hw=>
 wpAny_mono (h aa s σ H Q (I.wish _) hw) (λ_ _ ⟨v,H',I',r,q⟩=>⟨v,H',I'.unwish,r,q⟩) λ_ _ z=>False.elim z
theorem PT.nox (h:PT X.nox e t):PT X e t:=λaa s σ H Q I hw=>
 wpAny_mono (h aa s σ H Q (I.wish _) hw) (λ_ _ ⟨H',I',q⟩=>⟨H',I'.unwish,q⟩) λ_ _ z=>False.elim z
theorem nN.nox {st:List Stmt}{t:TS}(h:nN X.nox st t):nN X st t:=λaa s σ H D I hw=>
 wpAny_mono (h aa s σ H D (I.wish _) hw) (λ_ _ q=>q.unwish) λ_ _ z=>False.elim z
end
section
variable {X:Cx}{st:Stmt}{rest:List Stmt}{t u:TS}{e:Expr}{te:TE}{pos:Pos}
def AD:TS:=λD σ H=>D.nx σ H
def DH (t u:TS):TS:=λD σ H=>t { D with nx:=u D } σ H
theorem yY:nN X [] AD:=λ_ _ σ H _ I h=>wpAny_execs_nil ⟨σ,H,I,h⟩
theorem wb (h1:PS X st t)(h2:nN X rest u):nN X (st::rest) (DH t u):=by
 intro aa s σ H D I h;refine wpAny_execs_cons (bG (h1 aa s σ H { D with nx:=u D } I h) λf s1 q=>?_);cases f with
 |next=>
  obtain⟨σ',H',I',q⟩:=q;exact h2 aa s1 σ' H' D I' q
 |ret v=>exact q
 |brk=>exact q
 |cont=>exact q
theorem yZ (h1:PS X st t):nN X [st] t:=by
 intro aa s σ H D I h;refine wpAny_execs_cons (bG (h1 aa s σ H D I h) λf s1 q=>?_);cases f with
 |next=>exact wpAny_execs_nil q
 |ret v=>exact q
 |brk=>exact q
 |cont=>exact q
theorem Inv.quiet (I:Inv X aa σ H s):interactive X.env=false:=by simp[interactive,I.ok.kind]
def DI (te:TE):TS:=λD σ H=>te σ H λ_ H1=>D.nx σ H1
theorem nO (he:PE X e te)(hs:swapsWith e none pos.line X.env=pure false:=by rfl):PS X (.Expr e pos) (DI te):=by
 intro aa s σ H D I h;exact wpAny_Expr_any (bG (he aa s σ H _ I h) λv s1 ⟨x,H1,I1,r1,q1⟩=>⟨σ,H1,I1,q1⟩) I.quiet hs
def BC (te:TE):TS:=λD σ H=>te σ H D.rt
theorem wc (he:PE X e te):PS X (.Return (some e) pos) (BC te):=by
 intro aa s σ H D I h;exact wpAny_Return_some (bG (he aa s σ H _ I h) λv s1 ⟨x,H1,I1,r1,q1⟩=>⟨x,σ,H1,I1,r1,q1⟩)
def DJ (c:TT)(t u:TS):TS:=λD σ H=>c σ H λb H1=>if b=true then t D σ H1 else u D σ H1
theorem DK {c:Expr}{a b:List Stmt}{tc:TT}(hc:PT X c tc)(ha:nN X a t)(hb:nN X b u):PS X (.If c a b pos) (DJ tc t u):=by
 intro aa s σ H D I h;refine wpAny_If (bG (hc aa s σ H _ I h) λd s1 ⟨H1,I1,q1⟩=>?_);cases d with
 |true=>exact ha aa s1 σ H1 D I1 q1
 |false=>exact hb aa s1 σ H1 D I1 q1
end
abbrev TG:=V->St->Hp->(St->Hp->Prop)->Prop
abbrev BD:=List V->St->Hp->(St->Hp->Prop)->Prop
def PG (X:Cx)(lR:Expr)(t:TG):Prop :=
 ∀(aa:List (Addr×Obj))(s:Shared)(σ:St)(H:Hp)(v:V)(u:Value)(Q:St->Hp->Prop),Inv X aa σ H s->aG v u->t v σ H Q ->
  wq X (assign lR X.env u) (λ_ s'=>∃σ' H',Inv X aa σ' H' s'/\Q σ' H') X.xe s
def qJ (X:Cx)(ts:List Expr)(t:BD):Prop :=
 ∀(aa:List (Addr×Obj))(s:Shared)(σ:St)(H:Hp)(vs:List V)(us:List Value)(Q:St->Hp->Prop),Inv X aa σ H s->a9 vs us->t vs σ H Q ->
  wq X (assignInOrder ((assignEach ts X.env).map (·.2)) us) (λ_ s'=>∃σ' H',Inv X aa σ' H' s'/\Q σ' H') X.xe s
abbrev BE:=V->V->V->Hp->(Hp->Prop)->Prop
def DM (X:Cx)(t:BE):Prop :=
 ∀(aa:List (Addr×Obj))(s:Shared)(σ:St)(H:Hp)(o i v:V)(ov iv u:Value)(Q:Hp->Prop),Inv X aa σ H s->aG o ov->aG i iv->aG v u->t o i v H Q ->
  wq X (setItem ov iv u) (λ_ s'=>∃H',Inv X aa σ H' s'/\Q H') X.xe s
section
variable {X:Cx}{pos:Pos}
def iJ (i:Nat):TG:=λv σ H Q=>Q (σ.set i (some v)) H
theorem su (hN:X.N.Nodup)(hi:X.N[i]? = some x)(hx:Bz X.env.scope x)(hf:X.fn x=true∨X.env.scope.names.lookup x=some .local:=by first|exact .inl rfl|exact .inr rfl|assumption):PG X (.Name x pos) (iJ i):=by
 intro aa s σ H v u Q I r h;exact wpAny_assign_Name (oS I hN hi hx r (λs' I'=>⟨_,H,I',h⟩) hf)
def DN:BD:=λvs σ H Q=>vs=[]/\Q σ H
def AE (t:TG)(u:BD):BD:=λvs σ H Q=>∃v r,vs=v::r/\t v σ H λσ' H'=>u r σ' H' Q
theorem kx:qJ X [] DN:=by
 intro aa s σ H vs us Q I r h;obtain⟨e,h⟩:=h;subst e;cases r
 exact assignInOrder_nil ⟨σ,H,I,h⟩
theorem cU {e:Expr}{es:List Expr}{t:TG}{u:BD}(h1:PG X e t)(h2:qJ X es u)
  (hs:(assignEach (e::es) X.env).map (·.2)=assign e X.env::(assignEach es X.env).map (·.2):=by rfl):qJ X (e::es) (AE t u):=by
 intro aa s σ H vs us Q I r h;obtain⟨v,vr,e1,h⟩:=h;subst e1;cases r with
 |cons r rr=>
  rw[hs];refine assignInOrder_cons (bG (h1 aa s σ H _ _ _ I r h) λ_ s1 ⟨σ1,H1,I1,q1⟩=>?_);exact h2 aa s1 σ1 H1 _ _ Q I1 rr q1
def BF (K:Frag)(n:Nat)(t:BD):TG:=λv σ H Q=>∃a xs,v=.ref a/\eZ K H a xs/\xs.length=n/\t xs σ H Q
theorem nP (hc:X.calm=true)(h:qJ X es t)
  (hn:(assignEach es X.env).length=n:=by rfl) (nM:(assignEach es X.env).findIdx? (·.1)=none:=by rfl):PG X (.Tuple es k pos) (BF X.K n t):=by
 intro aa s σ H v u Q I r hw;obtain⟨a,xs,e1,hq,hl,hw⟩:=hw;subst e1;cases r
 obtain⟨its,rv,ht,hz⟩:=I.tuple hq;refine assign_Tuple_tuple (I.ok.hd hc) ht (by simp[hn,←hl,rv.length]) nM λh' hx=>?_;have I1:Inv X aa σ H { s with heap:=h' }:=I.kept (t':=s.toks) λb o e=>hx b o (vS (vX e)) e;exact h aa _ σ H xs _ Q I1 (by simpa using rv) hw
def G6 (to ti:TE)(t:BE):TG:=λv σ H Q=>to σ H λo H1=>ti σ H1 λi H2=>t o i v H2 λH3=>Q σ H3
theorem BG {o i:Expr}{to ti:TE}{t:BE}(ho:PE X o to)(hi:PE X i ti)(hs:DM X t)
  (ha:∀v,assign (.Subscript o i pos) X.env v=(do
   let ov ←holding [v] (eval o X.env)
   let iv ←holding [v,ov] (eval i X.env)
   standAt pos
   holding [v,ov,iv] (setItem ov iv v)
   release [v,ov,iv] []):=by intro _;rfl):PG X (.Subscript o i pos) (G6 to ti t):=by
 intro aa s σ H v u Q I r h;rw[ha];refine wX (wpAny_holding (bG (ho aa s σ H _ I h) λov s1 ⟨x,H1,I1,r1,q1⟩=>?_));refine wX (wpAny_holding (bG (hi aa s1 σ H1 _ I1 q1) λiv s2 ⟨y,H2,I2,r2,q2⟩=>?_));refine wX (wpAny_standAt (wX (wpAny_holding (bG (hs aa s2 σ H2 x y v ov iv u _ I2 r1 r2 r q2) λ_ s3 ⟨H3,I3,q3⟩=>?_))));exact wpAny_release ⟨σ,H3,I3,q3⟩
def za (te:TE)(g:TG):TS:=λD σ H=>te σ H λx H1=>g x σ H1 D.nx
theorem BH {tg e:Expr}{te:TE}{g:TG}(he:PE X e te)(hg:PG X tg g)(hs:swapsWithSole [tg] e pos.line X.env=pure false:=by rfl)(hw:swappedStores [tg] e X.env=pure none:=by rfl)
  (h1:(assignEach [tg] X.env).map (·.2)=[assign tg X.env]:=by rfl):PS X (.Assign [tg] e pos) (za te g):=by
 intro aa s σ H D I h;refine wpAny_Assign_stores (bG (he aa s σ H _ I h) λv s1 ⟨x,H1,I1,r1,q1⟩=>?_) hs hw;rw[h1];exact bG (hg aa s1 σ H1 x v _ I1 r1 q1) λ_ s2 q=>q
theorem BI {i:Nat}{x:Str}{e:Expr}{te:TE}{CL:Pos}(hN:X.N.Nodup)(hi:X.N[i]? = some x)(hx:Bz X.env.scope x)(he:PE X e te)(hs:swapsWith e (some (.Name x CL)) pos.line X.env=pure false:=by rfl)(hf:X.fn x=true∨X.env.scope.names.lookup x=some .local:=by first|exact .inl rfl|exact .inr rfl|assumption):
  PS X (.Assign [.Name x CL] e pos) (za te (iJ i)):=by
 intro aa s σ H D I h;refine wpAny_Assign_Name (bG (he aa s σ H _ I h) λv s1 ⟨y,H1,I1,r1,q1⟩=>?_) hs;exact oS I1 hN hi hx r1 (λs2 I2=>⟨_,H1,I2,q1⟩) hf
end
structure It where
 go:Nat->Hp->Prop
 yld:Nat->Hp->V->Hp->Prop
 stop:Nat->Hp->Prop
def iK (X:Cx)(aa:List (Addr×Obj))(H:Hp)(b:Addr):Prop :=
 H b=none/\b≠X.env.locals/\b∉X.fs/\(b∈X.ex∨X.s₀.heap.objs.size<=b)/\(∀x c,X.env.cells.lookup x=some c->c≠b)/\∀p∈X.pn++aa,p.1≠b
theorem Inv.fpOk (I:Inv X aa σ H s)(hb:s.heap.objs.size<=b)(hn:H' b=none):iK X aa H' b:=by
 refine⟨hn,Nat.ne_of_gt (vQ I.lt hb),I.nofs hb,.inr (vR I.sz hb),λx c e z=>?_,λp hp z=>?_⟩
 ·obtain⟨v,q⟩:=I.cell x c e;exact absurd (vQ q.lt (by rw[z];exact hb)) (Nat.lt_irrefl _)
 ·exact absurd (vQ (vX (I.pin p hp).1) (by rw[z];exact hb)) (Nat.lt_irrefl _)
structure Turn (P:Program)(w:World)(K:Frag)(tg:Expr)(J:It)(fp:List Addr)(it:Addr)(tn:Nat->Heap->Prop):Prop where
 mem:it∈fp
 obj:∀i h,tn i h->∀b∈fp,∃o,h.get? b=some o/\∀v,o.data≠.cell v
 keep:∀i h h',tn i h->(∀b∈fp,∀o,h.get? b=some o->h'.get? b=some o)->tn i h'
 item:∀(X:Cx),X.prog=P->X.w=w->X.K=K->X.calm=true->∀(i:Nat)(aa:List (Addr×Obj))(s:Shared)(σ:St)(H:Hp)(E:Value->Shared->Prop),Inv X aa σ H s->(∀b∈fp,iK X aa H b)->tn i s.heap->J.go i H ->
  wpAny (model P w) X.A (pyNext (.ref it)) (λr s1=>∃u,r=some u /\
   wpAny (model P w) X.A (letOwnedTupleGo tg (.ref it) u) (λ_ s2=>∃x H',Inv X aa σ H' s2/\aG x u/\J.yld i H x H'/\tn (i+1) s2.heap/\∀b∈fp,H' b=none) E s1) E s
 done:∀(X:Cx),X.prog=P->X.w=w->X.K=K->X.calm=true->∀(i:Nat)(aa:List (Addr×Obj))(s:Shared)(σ:St)(H:Hp)(E:Value->Shared->Prop),Inv X aa σ H s->(∀b∈fp,iK X aa H b)->tn i s.heap->J.stop i H ->
  wpAny (model P w) X.A (pyNext (.ref it)) (λr s1=>r=none/\Inv X aa σ H s1) E s
 self:∀(A:Around)(i:Nat)(s:Shared)(Q:Value->Shared->Prop)(E:Value->Shared->Prop),tn i s.heap->Q (.ref it) s->wpAny (model P w) A (pyIter (.ref it)) Q E s
abbrev TI:=St->Hp->(It->Hp->Prop)->Prop
def II (X:Cx)(aa:List (Addr×Obj))(σ:St)(tg:Expr)(R:It->Hp->Prop)(Gg:Value)(s2:Shared):Prop :=
 ∃(it:Addr)(fp:List Addr)(tn:Nat->Heap->Prop)(J:It)(H':Hp),Gg=.ref it/\Inv X aa σ H' s2/\Turn X.prog X.w X.K tg J fp it tn/\tn 0 s2.heap/\(∀b∈fp,iK X aa H' b)/\R J H'
def PI (X:Cx)(tg bL:Expr)(wi:TI):Prop :=
 ∀(aa:List (Addr×Obj))(s:Shared)(σ:St)(H:Hp)(R:It->Hp->Prop),Inv X aa σ H s->wi σ H R ->
  wq X (eval bL X.env) (λv s1=>wq X (pyIter v) (II X aa σ tg R) X.xe s1) X.xe s
theorem oV (ho:s.heap.get? it=some o)(hc:o.cls=.type n)(hd:o.data=.fields vs)
    (hn:["enumerate","zip","dict_itemiterator","dict_reverseitemiterator","odict_iterator","itertools.zip_longest","itertools.pairwise"].contains n=false) (hQ:Q () s):wpAny M A (letOwnedTupleGo tg (.ref it) u) Q E s:=by
  unfold letOwnedTupleGo;cases tg<;>first
    |exact wY hQ
    | (cases u<;>first
        |exact wY hQ
        | (refine wX (wpAny_load ho ?_)
           rw[hc,hd]
           show wpAny M A (if(["enumerate","zip","dict_itemiterator","dict_reverseitemiterator","odict_iterator","itertools.zip_longest","itertools.pairwise"].contains n && vs[0]? == some (rawInt _))=true then _ else _) Q E s
           rw[if_neg (by intro h;rw[hn,Bool.false_and]at h;cases h)]
           exact wY hQ))
noncomputable def IJ (K:Frag)(a:Addr):It :=
 ⟨λi H=>∃xs x,eN K H a xs/\xs[i]? = some x,λi H x H'=>H'=H/\∀xs,eN K H a xs->xs[i]? = some x,λi H=>∃xs,eN K H a xs/\xs.length<=i⟩
noncomputable def IK (K:Frag)(a:Addr):It :=
 ⟨λi H=>∃xs x,eZ K H a xs/\xs[i]? = some x,λi H x H'=>H'=H/\∀xs,eZ K H a xs->xs[i]? = some x,λi H=>∃xs,eZ K H a xs/\xs.length<=i⟩
noncomputable def FQ (lo:Int)(n:Nat):It:=⟨λi _=>i<n,λi H x H'=>H'=H/\x=.int (lo+i),λi _=>n<=i⟩
theorem ud {P:Program}{w:World}{K:Frag}{tg:Expr}(a it:Addr):Turn P w K tg (IJ K a) [it] it (λi h=>h.IsListIter it a i) where
 mem:=by simp
 obj:=λi h st b hb=>by
  have e:b=it:=by simpa using hb
  subst e;obtain⟨o,e,c,d⟩:=st;exact⟨o,e,λv z=>by rw[d]at z;cases z⟩
 keep:=λi h h' st k=>st.at λo e=>k it (by simp) o e
 item:=by
  intro X hP hw hK hc i aa s σ H E I hf st hg;subst hP hw hK;obtain⟨xs,x,hq,hx⟩:=hg;obtain⟨its,rv,p,hz⟩:=I.list hq;obtain⟨u,hu,ru⟩:=rv.get hx;obtain⟨f0,f1,f2,f3,f4,f5⟩:=hf it (by simp);refine wpAny_pyNext_list_item st p.isList (x:=u) (by simpa using hu) λh' a7 sb=>?_;have I1:Inv X aa σ H { s with heap:=h' }:=I.turned (t':=s.toks) (λb o hb e=>(sb.2 b hb).trans e) f0 f1 f3 f4 f5;obtain⟨o,e,c,d⟩:=id a7;exact⟨u,rfl,oV (s:={ s with heap:=h' }) e c d (by decide) ⟨x,H,I1,ru,⟨rfl,λys hy=>by rw[I.list_inj hy hq];exact hx⟩,a7,λb hb=>(hf b hb).1⟩⟩
 done:=by
  intro X hP hw hK hc i aa s σ H E I hf st hg;subst hP hw hK;obtain⟨xs,hq,hx⟩:=hg;obtain⟨its,rv,p,hz⟩:=I.list hq;obtain⟨f0,f1,f2,f3,f4,f5⟩:=hf it (by simp);have hl:=rv.length;exact wpAny_pyNext_list_end (I.ok.hd hc) st p.isList (by simp;omega) λh' eb=>⟨rfl,I.turned (t':=s.toks) (λb o hb e=>eb b o hb e) f0 f1 f3 f4 f5⟩
 self:=λ_ _ _ _ _ st h=>wpAny_pyIter_listiter st h
theorem qK {P:Program}{w:World}{K:Frag}{tg:Expr}(a it:Addr):Turn P w K tg (IK K a) [it] it (λi h=>h.IsTupleIter it a i) where
 mem:=by simp
 obj:=λi h st b hb=>by
  have e:b=it:=by simpa using hb
  subst e;obtain⟨o,e,c,d⟩:=st;exact⟨o,e,λv z=>by rw[d]at z;cases z⟩
 keep:=λi h h' st k=>st.at λo e=>k it (by simp) o e
 item:=by
  intro X hP hw hK hc i aa s σ H E I hf st hg;subst hP hw hK;obtain⟨xs,x,hq,hx⟩:=hg;obtain⟨its,rv,p,hz⟩:=I.tuple hq;obtain⟨u,hu,ru⟩:=rv.get hx;obtain⟨f0,f1,f2,f3,f4,f5⟩:=hf it (by simp);refine wpAny_pyNext_tuple_item st (show s.heap.IsTuple a its.toArray from p) (x:=u) (by simpa using hu) λh' a7 sb=>?_;have I1:Inv X aa σ H { s with heap:=h' }:=I.turned (t':=s.toks) (λb o hb e=>(sb.2 b hb).trans e) f0 f1 f3 f4 f5;obtain⟨o,e,c,d⟩:=id a7;exact⟨u,rfl,oV (s:={ s with heap:=h' }) e c d (by decide) ⟨x,H,I1,ru,⟨rfl,λys hy=>by rw[I.tuple_inj hy hq];exact hx⟩,a7,λb hb=>(hf b hb).1⟩⟩
 done:=by
  intro X hP hw hK hc i aa s σ H E I hf st hg;subst hP hw hK;obtain⟨xs,hq,hx⟩:=hg;obtain⟨its,rv,p,hz⟩:=I.tuple hq;obtain⟨f0,f1,f2,f3,f4,f5⟩:=hf it (by simp);have hl:=rv.length;exact wpAny_pyNext_tuple_end (I.ok.hd hc) st (show s.heap.IsTuple a its.toArray from p) (by simp;omega) λh' eb=>⟨rfl,I.turned (t':=s.toks) (λb o hb e=>eb b o hb e) f0 f1 f3 f4 f5⟩
 self:=λ_ _ _ _ _ st h=>wpAny_pyIter_tupleiter st h
theorem qL {P:Program}{w:World}{K:Frag}{tg:Expr}(it:Addr)(lo:Int)(n:Nat):Turn P w K tg (FQ lo n) [it] it (λi h=>IsRangeIter h it (lo+(i:Nat)*1) ((n:Int) - (i:Nat)) 1) where
 mem:=by simp
 obj:=λi h st b hb=>by
  have e:b=it:=by simpa using hb
  subst e;exact⟨_,st,λv z=>by
   have z':Data.fields _=Data.cell v:=z;cases z'⟩
 keep:=λi h h' st k=>k it (by simp) _ st
 item:=by
  intro X hP hw hK hc i aa s σ H E I hf st hg;subst hP hw hK;obtain⟨f0,f1,f2,f3,f4,f5⟩:=hf it (by simp);have W:=Walks.range (prog:=X.prog) (w:=X.w) (I.ok.hd hc) it lo 1 n;refine W.item i s _ _ hg st λv h' tk hv a7 kk=>?_;obtain⟨t,rfl⟩:=hv;have I1:Inv X aa σ H { s with heap:=h',toks:=tk }:=I.turned (λb o hb e=>kk b o (by simpa using hb) e) f0 f1 f3 f4 f5;refine⟨_,rfl,oV (s:={ s with heap:=h',toks:=tk }) (n:="range_iterator") a7 rfl rfl (by decide) ⟨.int (lo+i),H,I1,⟨t,?_⟩,⟨rfl,rfl⟩,a7,λb hb=>(hf b hb).1⟩⟩;rw[Int.mul_one]
 done:=by
  intro X hP hw hK hc i aa s σ H E I hf st hg;subst hP hw hK;obtain⟨f0,f1,f2,f3,f4,f5⟩:=hf it (by simp);exact wpAny_pyNext_range_end (I.ok.hd hc) st (by have:n<=i:=hg;omega) λh' eb=>⟨rfl,I.turned (t':=s.toks) (λb o hb e=>eb b o hb e) f0 f1 f3 f4 f5⟩
 self:=λ_ _ _ _ _ st h=>wpAny_pyIter_rangeiter st h
section
variable {X:Cx}{tg:Expr}
def DO (K:Frag)(tl:TE):TI:=λσ H R=>tl σ H λx H1=>∃a,x=.ref a/\(∃xs,eN K H1 a xs)/\R (IJ K a) H1
def G7 (K:Frag)(tl:TE):TI:=λσ H R=>tl σ H λx H1=>∃a,x=.ref a/\(∃xs,eZ K H1 a xs)/\R (IK K a) H1
theorem zb {l:Expr}{tl:TE}(hl:PE X l tl):PI X tg l (DO X.K tl):=by
 intro aa s σ H R I h;refine bG (hl aa s σ H _ I h) λv s1 ⟨x,H1,I1,r1,q1⟩=>?_;obtain⟨a,e,⟨xs,hq⟩,q⟩:=q1;subst e;cases r1
 obtain⟨its,rv,p,hz⟩:=I1.list hq;refine wpAny_pyIter_list p.isList ?_;refine⟨s1.heap.objs.size,[s1.heap.objs.size],_,_,H1,rfl,I1.kept (t':=s1.toks) λb o e=>vZ _ e,ud a _,⟨_,vY _ rfl,rfl,rfl⟩,λb hb=>?_,q⟩;have e:b=s1.heap.objs.size:=by simpa using hb
 subst e;exact I1.fpOk (vT _) (I1.hok.fresh (vT _))
theorem BJ {l:Expr}{tl:TE}(hl:PE X l tl):PI X tg l (G7 X.K tl):=by
 intro aa s σ H R I h;refine bG (hl aa s σ H _ I h) λv s1 ⟨x,H1,I1,r1,q1⟩=>?_;obtain⟨a,e,⟨xs,hq⟩,q⟩:=q1;subst e;cases r1
 obtain⟨its,rv,p,hz⟩:=I1.tuple hq;refine wpAny_pyIter_tuple (show s1.heap.IsTuple a its.toArray from p) ?_;refine⟨s1.heap.objs.size,[s1.heap.objs.size],_,_,H1,rfl,I1.kept (t':=s1.toks) λb o e=>vZ _ e,qK a _,⟨_,vY _ rfl,rfl,rfl⟩,λb hb=>?_,q⟩;have e:b=s1.heap.objs.size:=by simpa using hb
 subst e;exact I1.fpOk (vT _) (I1.hok.fresh (vT _))
theorem we {aa:List (Addr×Obj)}{σ:St}{H:Hp}{s:Shared}{R:It->Hp->Prop}{E:Value->Shared->Prop}{lo hi:Int}{t u v:Tok}{tk:Nat}(I:Inv X aa σ H s)(h1 : -(2 ^ 62)<=lo)(h2:lo<2 ^ 62)(h3 : -(2 ^ 62)<=hi)(h4:hi<2 ^ 62)
  (q:R (FQ lo (hi - lo).toNat) H):wq X (pyIter (.ref s.heap.objs.size)) (II X aa σ tg R) E { s with heap:=s.heap.push { cls:=.type "range",data:=.fields #[.int lo t,.int hi u,.int 1 v] },toks:=tk }:=by
 refine wpAny_pyIter_range (IsRange.new ..) (small_one h1 h2 h3 h4) ?_;have I1:Inv X aa σ H { s with heap:=s.heap.push { cls:=.type "range",data:=.fields #[.int lo t,.int hi u,.int 1 v] },toks:=tk }:=I.kept λb o e=>vZ _ e;refine⟨(s.heap.push { cls:=.type "range",data:=.fields #[.int lo t,.int hi u,.int 1 v] }).objs.size,[(s.heap.push { cls:=.type "range",data:=.fields #[.int lo t,.int hi u,.int 1 v] }).objs.size],_,_,H,rfl,
  I1.kept (t':=tk) λb o e=>vZ _ e,qL _ lo (hi - lo).toNat,?_,λb hb=>?_,q⟩
 ·have e1:lo+((0:Nat):Int)*1=lo:=by simp
  have e2:(((hi - lo).toNat:Nat):Int) - ((0:Nat):Int)=Builtin.Range.rangeSize lo hi 1:=by rw[rangeSize_one];split<;>omega
  show IsRangeIter _ _ (lo+((0:Nat):Int)*1) ((((hi - lo).toNat:Nat):Int) - ((0:Nat):Int)) 1;rw[e1,e2];exact vY _ rfl
 ·have e:b=(s.heap.push { cls:=.type "range",data:=.fields #[.int lo t,.int hi u,.int 1 v] }).objs.size:=by simpa using hb
  subst e;exact I1.fpOk (vT _) (I1.hok.fresh (vT _))
def DQ (ta:TA):TI:=λσ H R=>ta σ H λvs H1=>∃j:Int,vs=[.int j]/\-(2 ^ 62)<=j/\j<2 ^ 62/\R (FQ 0 j.toNat) H1
theorem ue {a:Expr}{ta:TA}{p pos:Pos}(hg:Gl X "range")(hm:X.mg "range" = none)(ha:PA X [a] ta)(hs:starEach [a] X.env=[(false,eval a X.env)]:=by rfl):PI X tg (.Call (.Name "range" p) [a] [] pos) (DQ ta):=by
 intro aa s σ H R I h;refine Call_ (ig I hg hm boot_range (PyProof.Rows.callWith_type1 (bG (ha pos aa s σ H _ I h) λus s1 ⟨vs,H1,I1,r1,q1⟩=>?_) hs rfl));obtain⟨j,e,q1,q2,q⟩:=q1;subst e;cases r1 with
 |cons r rr=>
  cases rr
  obtain⟨t,rfl⟩:=r;exact call_range_1 (we I1 (by omega) (by omega) q1 q2 (by simpa using q))
def BK (wi:TI)(g:TG)(tb:TS):TS:=λD σ H=>wi σ H λJ H1=>∃W:Nat->Nat->St->Hp->Prop,(∃m,W 0 m σ H1)/\∀i m σ H,W i m σ H ->
 (J.stop i H/\D.nx σ H)∨(J.go i H/\∃N:St->Hp->Prop,(∀σ' H',N σ' H'->∃m',m'<m/\W (i+1) m' σ' H')/\∀x H',J.yld i H x H'->g x σ H' λσ2 H2=>tb { D with nx:=N,ct:=N,bk:=D.nx } σ2 H2)
def j4 (fp:List Addr)(h:Heap):List (Addr×Obj):=fp.filterMap λb=>(h.get? b).map λo=>(b,o)
theorem fM {fp:List Addr}{h:Heap}{b:Addr}{o:Obj}(hb:b∈fp)(e:h.get? b=some o):(b,o)∈j4 fp h:=List.mem_filterMap.mpr ⟨b,hb,by rw[e];rfl⟩
theorem uf (hp:p∈j4 fp h):p.1∈fp/\h.get? p.1=some p.2:=by
 obtain⟨b,hb,e⟩:=List.mem_filterMap.mp hp;cases q:h.get? b with
 |none=>rw[q]at e;cases e
 |some o=>
  rw[q]at e;have e':(b,o)=p:=vK e;subst e';exact⟨hb,q⟩
theorem Inv.pinned (I:Inv X aa σ H s)(hf:∀b∈fp,iK X aa H b)(ho:∀b∈fp,∃o,s.heap.get? b=some o/\∀v,o.data≠.cell v):Inv X (aa++j4 fp s.heap) σ H s :=
 I.pins_of λp hp=>(List.mem_append.mp hp).elim (λz=>I.pin p (mY _ z)) λz=>by
  obtain⟨hb,e⟩:=uf z;obtain⟨f0,f1,f2,_⟩:=hf p.1 hb;obtain⟨o,e',d⟩:=ho p.1 hb;rw[e]at e';cases e';exact⟨e,f0,f1,f2,d⟩
theorem Inv.unpinned (I:Inv X (aa++pl) σ H s):Inv X aa σ H s:=I.pins_of λp hp=>I.pin p (mY _ (List.mem_append_left _ hp))
theorem wg {bL:Expr}{body:List Stmt}{wi:TI}{g:TG}{tb:TS}{pos:Pos}(hp:PassesOwn (model X.prog X.w) X.A X.env X.xe)(hc:X.calm=true)(hi:PI X tg bL wi)(hg:PG X tg g)(hb:nN X body tb)
  (hs:∀x,foldedSetIterable bL X.env x=pure x:=by intro _;rfl):PS X (.For tg bL body [] pos) (BK wi g tb):=by
 intro aa s σ H D I h;refine wpAny_For (bG (hi aa s σ H _ I h) λv s1 h1=>bG h1 λGg s2 h2=>?_) hs;obtain⟨it,fp,tn,J,H2,e,I2,T,fK,f2,W,⟨m0,w0⟩,turn⟩:=h2;subst e
 -- what stays true of the iterator's objects through the jI
 have CM:∀ {H':Hp},(∀b∈fp,H' b=none)->∀b∈fp,iK X aa H' b:=λhn b hb=>⟨hn b hb,(f2 b hb).2⟩;refine codeAny_forLoop_any (λn s'=>∃i σ' H',Inv X aa σ' H' s'/\tn i s'.heap/\(∀b∈fp,H' b=none)/\W i n σ' H') ?_ m0 ⟨0,σ,H2,I2,fK,λb hb=>(f2 b hb).1,w0⟩;rintro n s3 ⟨i,σ3,H3,I3,iI,Jd,w3⟩;rcases turn i n σ3 H3 w3 with⟨stop,qn⟩|⟨go,N,hN,step⟩
 ·refine wpAny_passesOwn hp (bG (T.done X rfl rfl rfl hc i aa s3 σ3 H3 X.xe I3 (CM Jd) iI stop) λr s4 ⟨hr,I4⟩=>?_);subst hr;exact wpAny_execs_nil ⟨σ3,H3,I4,qn⟩
 ·refine wpAny_passesOwn hp (bG (T.item X rfl rfl rfl hc i aa s3 σ3 H3 X.xe I3 (CM Jd) iI go) λr s4 ⟨u,hr,h4⟩=>?_);subst hr;refine wpAny_passesOwn hp (bG h4 λ_ s5 ⟨x,H5,I5,r5,y5,Hw,Hx⟩=>?_);have KW:=I5.pinned (CM Hx) (T.obj _ _ Hw);refine wpAny_passesOwn hp (bG (hg _ s5 σ3 H5 x u _ KW r5 (step x H5 y5)) λ_ s6 ⟨σ6,H6,I6,q6⟩=>?_);refine wpAny_passesOwn hp (bG (hb _ s6 σ6 H6 _ I6 q6) λf s7 q7=>?_);have again:∀ {σ7:St}{H7:Hp},Inv X (aa++j4 fp s5.heap) σ7 H7 s7->N σ7 H7->∃m,m<n/\∃i σ' H',Inv X aa σ' H' s7/\tn i s7.heap/\(∀b∈fp,H' b=none)/\W i m σ' H':=λ{σ7 H7} I7 n7=>by
   obtain⟨m',hm,w7⟩:=hN σ7 H7 n7;refine⟨m',hm,i+1,σ7,H7,I7.unpinned,T.keep _ _ _ Hw λb hb o e=>(I7.pin (b,o) (mY _ (mY _ (fM hb e)))).1,λb hb=>?_,w7⟩;obtain⟨o,e,d⟩:=T.obj _ _ Hw b hb;exact(I7.pin (b,o) (mY _ (mY _ (fM hb e)))).2.1
  cases f with
  |next=>obtain⟨σ7,H7,I7,n7⟩:=q7;exact again I7 n7
  |cont=>obtain⟨σ7,H7,I7,n7⟩:=q7;exact again I7 n7
  |brk=>obtain⟨σ7,H7,I7,q7⟩:=q7;exact⟨σ7,H7,I7.unpinned,q7⟩
  |ret v=>obtain⟨x7,σ7,H7,I7,r7,q7⟩:=q7;exact⟨x7,σ7,H7,I7.unpinned,r7,q7⟩
end
abbrev R2:=V->V->Hp->VK->Prop
def bW (X:Cx)(f:Value->Value->Sem Value)(r:R2):Prop :=
 ∀(aa:List (Addr×Obj))(s:Shared)(σ:St)(H:Hp)(x y:V)(v u:Value)(Q:VK),Inv X aa σ H s->aG x v->aG y u->r x y H Q ->
  wq X (f v u) (EP X aa σ Q) X.xe s
def b7 (X:Cx)(f:Value)(r:List V->Hp->VK->Prop):Prop :=
 ∀(aa:List (Addr×Obj))(s:Shared)(σ:St)(H:Hp)(xs:List V)(us:List Value)(Q:VK),Inv X aa σ H s->a9 xs us->r xs H Q ->
  wq X (call f us) (EP X aa σ Q) X.xe s
def FR (r:R2)(ta tb:TE):TE:=λσ H Q=>ta σ H λx H1=>tb σ H1 λy H2=>r x y H2 Q
def rI (C:Int->Int->Prop)(g:Int->Int->V):R2:=λx y H Q=>∃i j,x=.int i/\y=.int j/\C i j/\Q (g i j) H
def zc (g:Int->Int->V):R2:=λx y H Q=>∃i j,x=.int i/\y=.int j/\Q (g i j) H
section
variable {X:Cx}{a b c:Expr}{ta tb tc:TE}{pos:Pos}
theorem BL (ha:PE X a ta)(hb:PE X b tb){aa:List (Addr×Obj)}{s:Shared}{σ:St}{H:Hp}{R:V->V->Hp->Prop}(I:Inv X aa σ H s)
  (h:ta σ H λx H1=>tb σ H1 λy H2=>R x y H2) {Q:Value->Shared->Prop}{f:Value->Value->Sem Value}
  (hf:∀v u s2 x y H2,Inv X aa σ H2 s2->aG x v->aG y u->R x y H2->wq X (f v u) Q X.xe s2):
  wq X (eval a X.env) (λv s₁=>wq X (eval b X.env) (λu s₂=>wq X (f v u) Q X.xe s₂) X.xe s₁) X.xe s:=by
 refine bG (ha aa s σ H _ I h) λv s1 ⟨x,H1,I1,r1,q1⟩=>?_;refine bG (hb aa s1 σ H1 _ I1 q1) λu s2 ⟨y,H2,I2,r2,q2⟩=>?_;exact hf v u s2 x y H2 I2 r1 r2 q2
theorem DR {op:Operator}{r:R2}(ho:bW X (binaryOp op) r)(ha:PE X a ta)(hb:PE X b tb):PE X (.BinOp a op b pos) (FR r ta tb):=by
 intro aa s σ H Q I h;exact wpAny_BinOp (BL ha hb I h λv u s2 x y H2 I2 rx ry q=>ho aa s2 σ H2 x y v u Q I2 rx ry q)
theorem DS {f:Value->Value->Sem Value}{C:Int->Int->Prop}{g:Int->Int->Int}
  (rule:∀(i j:Int)(t u:Tok)(s:Shared)(Q:Value->Shared->Prop)(E:Value->Shared->Prop),C i j->Q (.int (g i j) s.toks) { s with toks:=s.toks+1 }->wq X (f (.int i t) (.int j u)) Q E s):
  bW X f (rI C λi j=>.int (g i j)):=by
 intro aa s σ H x y v u Q I rx ry h;obtain⟨i,j,rfl,rfl,hc,q⟩:=h;obtain⟨t,rfl⟩:=rx;obtain⟨t',rfl⟩:=ry;exact rule i j t t' s _ _ hc ⟨.int (g i j),H,I.tok _,⟨_,rfl⟩,q⟩
theorem DT {f:Value->Value->Sem Value}{g:Int->Int->Int}
  (rule:∀(i j:Int)(t u:Tok)(s:Shared)(Q:Value->Shared->Prop)(E:Value->Shared->Prop),Q (.int (g i j) s.toks) { s with toks:=s.toks+1 }->wq X (f (.int i t) (.int j u)) Q E s):
  bW X f (zc λi j=>.int (g i j)):=by
 intro aa s σ H x y v u Q I rx ry h;obtain⟨i,j,rfl,rfl,q⟩:=h;obtain⟨t,rfl⟩:=rx;obtain⟨t',rfl⟩:=ry;exact rule i j t t' s _ _ ⟨.int (g i j),H,I.tok _,⟨_,rfl⟩,q⟩
theorem zd {f:Value->Value->Sem Value}{g:Int->Int->Bool}
  (rule:∀(i j:Int)(t u:Tok)(s:Shared)(Q:Value->Shared->Prop)(E:Value->Shared->Prop),Q (.bool (g i j)) s->wq X (f (.int i t) (.int j u)) Q E s):
  bW X f (zc λi j=>.bl (g i j)):=by
 intro aa s σ H x y v u Q I rx ry h;obtain⟨i,j,rfl,rfl,q⟩:=h;obtain⟨t,rfl⟩:=rx;obtain⟨t',rfl⟩:=ry;exact rule i j t t' s _ _ ⟨.bl (g i j),H,I,rfl,q⟩
def DU (i j:Int):Prop:=0<j/\j<1073741824
def DV (i j:Int):Prop:=0<=j/\j<=1000000/\i.natAbs<2 ^ 64
def ze (i j:Int):Prop:=(-(2 ^ 64)<i/\i<2 ^ 64)∨(-(2 ^ 64)<j/\j<2 ^ 64)
theorem ze.ok (h:ze i j):IntMulOk i j:=by
 rcases h with⟨h1,h2⟩|⟨h1,h2⟩
 ·exact .of_left (intBits_le_64 h1 h2)
 ·exact .of_right (intBits_le_64 h1 h2)
theorem BM:bW X (binaryOp .Add) (zc λi j=>.int (i+j)):=DT λ_ _ _ _ _ _ _ q=>add_int q
theorem BN:bW X (binaryOp .Sub) (zc λi j=>.int (i - j)):=DT λ_ _ _ _ _ _ _ q=>sub_int q
theorem BO:bW X (binaryOp .Mult) (rI ze λi j=>.int (i*j)):=DS λ_ _ _ _ _ _ _ hc q=>mul_int q hc.ok
theorem zf:bW X (binaryOp .FloorDiv) (rI DU λi j=>.int (i / j)):=DS λi j _ _ _ _ _ hc q=>by
 have h1:(0:Int)<j:=hc.1;have h2:j<1073741824:=hc.2;exact floordiv_int (by omega) (by rw[Int.fdiv_eq_ediv_of_nonneg i (by omega)];exact q) (.inl (PyProof.noPylong_small (by omega)))
theorem BP:bW X (binaryOp .Mod) (rI (λ_ j=>0<j) λi j=>.int (i % j)):=DS λi j _ _ _ _ _ hc q=>by
 have h1:(0:Int)<j:=hc;exact mod_int' (by omega) (by rw[Int.fmod_eq_emod_of_nonneg i (by omega)];exact q)
theorem BQ:bW X (binaryOp .Pow) (rI DV λi j=>.int (i ^ j.toNat)):=DS λ_ _ _ _ _ _ _ hc q=>pow_int_small hc.1 hc.2.1 hc.2.2 q
theorem ug:bW X (binaryOp .Add) (λx y H Q=>∃i k,x=.int i/\y=.bl k/\Q (.int (i+b2i k)) H):=by
 intro aa s σ H x y v u Q I rx ry h;obtain⟨i,k,rfl,rfl,q⟩:=h;obtain⟨t,rfl⟩:=rx;cases ry
 exact add_int_bool ⟨.int (i+b2i k),H,I.tok _,⟨_,rfl⟩,q⟩
end
section
variable {X:Cx}{a b c:Expr}{ta tb tc:TE}{pos:Pos}
theorem DW:bW X (compareOp .Lt) (zc λi j=>.bl (decide (i<j))):=zd λ_ _ _ _ _ _ _ q=>lt_int q
theorem DX:bW X (compareOp .LtE) (zc λi j=>.bl (decide (i<=j))):=zd λ_ _ _ _ _ _ _ q=>le_int q
theorem DY:bW X (compareOp .Gt) (zc λi j=>.bl (decide (j<i))):=zd λ_ _ _ _ _ _ _ q=>gt_int q
theorem DZ:bW X (compareOp .GtE) (zc λi j=>.bl (decide (j<=i))):=zd λ_ _ _ _ _ _ _ q=>ge_int q
theorem bW.or (h:bW X f r)(h':bW X f r'):bW X f (λx y H Q=>r x y H Q∨r' x y H Q):=by
 intro aa s σ H x y v u Q I rx ry q;rcases q with q|q
 ·exact h aa s σ H x y v u Q I rx ry q
 ·exact h' aa s σ H x y v u Q I rx ry q
theorem G8 (b:Expr)(h:op≠.In:=by decide)(h2:op≠.NotIn:=by decide):behindInMarks op b=false:=by
 have e1:(op == CmpOp.In)=false:=by cases op<;>first|rfl|exact absurd rfl h
 have e2:(op == CmpOp.NotIn)=false:=by cases op<;>first|rfl|exact absurd rfl h2
 cases b<;>simp[behindInMarks,e1,e2]
theorem zg (ho:bW X (compareOp op) r)(ha:PE X a ta)(hb:PE X b tb)(hm:behindInMarks op b=false):PE X (.Compare a [op] [b] pos) (FR r ta tb):=by
 intro aa s σ H Q I h;exact wpAny_Compare1 (BL ha hb I h λv u s2 x y H2 I2 rx ry q=>ho aa s2 σ H2 x y v u Q I2 rx ry q) hm
def AF (t:TE):TT:=λσ H Q=>t σ H λx H'=>∃k,x=.bl k/\Q k H'
theorem sv {op:CmpOp}{r:R2}(ho:bW X (compareOp op) r)(ha:PE X a ta)(hb:PE X b tb)(hm:behindInMarks op b=false):PT X (.Compare a [op] [b] pos) (AF (FR r ta tb)):=by
 intro aa s σ H Q I h;refine wpAny_isTrue_Compare1 (bG (ha aa s σ H _ I h) λv s1 ⟨x,H1,I1,r1,q1⟩=>bG (hb aa s1 σ H1 _ I1 q1) λu s2 ⟨y,H2,I2,r2,q2⟩=>
  bG (ho aa s2 σ H2 x y v u _ I2 r1 r2 q2) λc s3 ⟨z,H3,I3,r3,k,e,q3⟩=>?_) hm
 subst e;cases r3
 exact wpAny_truthy_bool ⟨H3,I3,q3⟩
def qM (r r':R2)(ta tb tc:TE):TE:=λσ H Q=>ta σ H λx H1=>tb σ H1 λy H2=>r x y H2 λz H3=>∃k,z=.bl k /\
 (if k=true then tc σ H3 λw' H4=>r' y w' H4 Q else Q (.bl false) H3)
theorem wj {op vn:CmpOp}{r r':R2}(ho:bW X (compareOp op) r)(sj:bW X (compareOp vn) r')(ha:PE X a ta)(hb:PE X b tb)(hc:PE X c tc)
  (hm:lastMarks [op,vn] [b,c]=false:=by with_unfolding_all rfl):PE X (.Compare a [op,vn] [b,c] pos) (qM r r' ta tb tc):=by
 intro aa s σ H Q I h;refine Compare_chain (bG (ha aa s σ H _ I h) λv s1 ⟨x,H1,I1,r1,q1⟩=>chain_link (bG (hb aa s1 σ H1 _ I1 q1) λu s2 ⟨y,H2,I2,r2,q2⟩=>
  bG (ho aa s2 σ H2 x y v u _ I2 r1 r2 q2) λd s3 ⟨z,H3,I3,r3,k,e,q3⟩=>?_)) hm
 subst e;cases r3
 refine wpAny_truthy_bool ?_;cases k with
 |false=>exact ite_ff ⟨.bl false,H3,I3,rfl,q3⟩
 |true=>exact ite_tt (chain_last (bG (hc aa s3 σ H3 _ I3 q3) λw' s4 ⟨z',H4,I4,r4,q4⟩=>sj aa s4 σ H4 y z' u w' Q I4 r2 r4 q4))
theorem wk {op vn:CmpOp}{r r':R2}(ho:bW X (compareOp op) r)(sj:bW X (compareOp vn) r')(ha:PE X a ta)(hb:PE X b tb)(hc:PE X c tc)
  (hm:lastMarks [op,vn] [b,c]=false:=by with_unfolding_all rfl):PT X (.Compare a [op,vn] [b,c] pos) (AF (qM r r' ta tb tc)):=by
 intro aa s σ H Q I h;refine isTrue_chain (bG (ha aa s σ H _ I h) λv s1 ⟨x,H1,I1,r1,q1⟩=>test_link (bG (hb aa s1 σ H1 _ I1 q1) λu s2 ⟨y,H2,I2,r2,q2⟩=>
  bG (ho aa s2 σ H2 x y v u _ I2 r1 r2 q2) λd s3 ⟨z,H3,I3,r3,k,e,q3⟩=>?_)) hm
 subst e;cases r3
 refine wpAny_truthy_bool ?_;cases k with
 |false=>
  obtain⟨k',e',q'⟩:=q3;cases e'
  exact ite_ff ⟨H3,I3,q'⟩
 |true=>
  refine ite_tt (test_last (bG (hc aa s3 σ H3 _ I3 q3) λw' s4 ⟨z',H4,I4,r4,q4⟩=>bG (sj aa s4 σ H4 y z' u w' _ I4 r2 r4 q4) λd' s5 ⟨z2,H5,I5,r5,k2,e2,q5⟩=>?_));subst e2;cases r5
  exact wpAny_truthy_bool ⟨H5,I5,q5⟩
theorem j5:(sizeLine:Nat)<2 ^ 63:=by rw[sizeLine_eq];decide
theorem qN:bW X (binaryOp .Add) (λx y H Q=>∃i j,x=.str i/\y=.str j/\i.length+j.length<=sizeLine/\Q (.str (i++j)) H):=by
 intro aa s σ H x y v u Q I rx ry h;obtain⟨i,j,rfl,rfl,hz,q⟩:=h;obtain⟨t,rfl⟩:=rx;obtain⟨t',rfl⟩:=ry;exact add_str (λt' tk=>⟨.str (i++j),H,I.tok _,⟨_,rfl⟩,q⟩) hz
theorem iL (r:a9 [x] us):∃u,us=[u]/\aG x u:=by
 cases r with
 |cons r1 r2=>cases r2;exact⟨_,rfl,r1⟩
theorem wl (r:a9 [x,y] us):∃u w',us=[u,w']/\aG x u/\aG y w':=by
 cases r with
 |cons r1 r2=>
  cases r2 with
  |cons r3 r4=>cases r4;exact⟨_,_,rfl,r1,r3⟩
theorem uh (hc:X.calm=true):b7 X (.builtin "min") (λxs H Q=>∃i j,xs=[.int i,.int j]/\Q (.int (if j<i then j else i)) H):=by
 intro aa s σ H xs us Q I r h;obtain⟨i,j,rfl,q⟩:=h;obtain⟨u,w',rfl,⟨t,rfl⟩,⟨t',rfl⟩⟩:=wl r;refine min_two_ints (I.ok.hd hc) λh' tk k=>⟨_,H,I.kept k,?_,q⟩;by_cases hj:j<i
 ·rw[if_pos hj,if_pos hj];exact⟨_,rfl⟩
 ·rw[if_neg hj,if_neg hj];exact⟨_,rfl⟩
end
structure Az (h:Heap)(x dx C:Addr)(mA:Str->Option Value):Prop where
 obj:h.get? x=some (PySem.W.instObj C dx)
 ns:h.Ns1 dx mA
 ne:dx≠x
theorem ui {h:Heap}{dx:Addr}{mA:Str->Option Value}(n:h.Ns1 dx mA):∃od,h.get? dx=some od/\∀name,PySem.W.lookIn name od=some (mA name):=by
 obtain⟨o,es,ep,ho,hd,hk,_,hm⟩:=n;refine⟨o,ho,λname=>?_⟩;have e:=hm name;unfold nsFind findBy at e;rw[←Array.find?_toList]at e;unfold PySem.W.lookIn;rw[hd];dsimp only;split
 ·rename_i y q;rw[q]at e;exact congrArg some e
 ·rename_i q;rw[q]at e;have a:es.toList.any (·.refKey)=false:=by
   rw[List.any_eq_false];intro y hy;obtain⟨z,t,A0⟩:=hk y (Array.mem_toList_iff.mp hy);simp[DictEntry.refKey,A0]
  have a':¬es.toList.any (·.refKey)=true:=by rw[a];exact uX
  rw[if_neg a'];exact congrArg some e
theorem Az.look (I:Az h x dx C mA):∃od,PySem.W.InstAt h x (PySem.W.instObj C dx) C (some od)/\∀name,PySem.W.lookIn name od=some (mA name) :=
 let ⟨od,ho,hl⟩:=ui I.ns
 ⟨od,⟨I.obj,rfl,rfl,ho⟩,hl⟩
section
variable {prog:Program}{w:World}{A:Around}{E:Value->Shared->Prop}{s:Shared}{K:Frag}{x dx C f:Addr}{mA:Str->Option Value}{name:Str}{v:Value}
theorem wm (X:K.In s.heap)(I:Az s.heap x dx C mA)(hg:PySem.W.plainGet K C name=true)
  (hf:PySem.W.findIn K (.ref C) name=some (some (.ref f))) (ht:PySem.W.isFn K (.ref f)=true) (hv:mA name=none) (h:Q (.ref f,[.ref x]) s):
  wpAny (model prog w) A (getMethod (.ref x) name pl) Q E s:=by
 obtain⟨od,J,hl⟩:=I.look;exact PySem.W.method_fn X J (PySem.W.plainGet_of hg).1 (PySem.W.plainGet_of hg).2 hf (beq_iff_eq.mp ht) (by show(PySem.W.lookIn name od).map (·.isSome)=some false;rw[hl,hv];rfl) h
theorem Ea (X:K.In s.heap)(hm:PySem.W.makesIn K C=true)
  (hi:PySem.W.findIn K (.ref C) "__init__" = some (some (.ref f))) (hf:PySem.W.typeIn K (.ref f)=some (.type "function"))
  (h:codeAny (model prog w) (A.under (.builtin "type.__call__" ⟨.ref C::vs,kw⟩)) (.call (.ref f) ⟨.ref (s.heap.objs.size+1)::vs,kw⟩) (PySem.W.InitBack (s.heap.objs.size+1) R)
   { s with heap:=(s.heap.push PySem.W.emptyDict).push (PySem.W.instObj C s.heap.objs.size) }):
  codeAny (model prog w) A (.call (.ref C) ⟨vs,kw⟩) R s:=by
 obtain⟨hh,g,d,t,os⟩:=s;exact PySem.W.make_core (PySem.W.makes_of X hm) (PySem.W.looks_findIn X hi) (λself=>PySem.W.bind_fn X self hf) (.inl rfl) h
end
theorem oP.none_of (r:oP none o):o=none:=by
 cases o with
 |none=>rfl
 |some u=>exact(show False from r).elim
section
variable {P:Program}{w:World}{H H':Hp}{h h':Heap}{a C dx:Addr}{fs KS:List (Str×V)}
theorem sw (hok:kr P w H h)(e:H a=some (.ins C dx fs)):∃mA,Az h a dx C mA/\(∀f,oP (fs.lookup f) (mA f))/\PySem.Within mA (fs.map (·.1))/\fs.length<=1000/\H dx=some (.own a):=by
 obtain⟨d,z,ne,ob,mA,n,r,q⟩:=(show bC P w H h a (.ins C dx fs)from hok a _ e);exact⟨mA,⟨ob,n,ne⟩,r,q,z,d⟩
end
structure Cls (K:Frag)(C:Addr):Prop where
 pg:PySem.W.plainGet K C Str.empty=true
 hd:PySem.W.hasDictIn K C=true
 po:PySem.W.plainOver K C=true
 sa:PySem.W.findIn K (.ref C) "__setattr__" = some (some (.builtin "object.__setattr__"))
theorem Cls.get {K:Frag}{C:Addr}(c:Cls K C)(f:Str):PySem.W.plainGet K C f=true:=c.pg
def BR (K:Frag)(C:Addr)(f:Str):Prop:=PySem.W.findIn K (.ref C) f=some none
structure Meth (K:Frag)(C:Addr)(m:Str)(f:Addr):Prop where
 at_:PySem.W.findIn K (.ref C) m=some (some (.ref f))
 fn:PySem.W.isFn K (.ref f)=true
 kp:PySem.W.keepIn K (.ref f)=true
section
variable {X:Cx}{aa:List (Addr×Obj)}{σ:St}{H:Hp}{s:Shared}{a C dx:Addr}{fs:List (Str×V)}{f:Str}{v:V}{A:Around}{E:Value->Shared->Prop}
theorem qO {m:Str}{g:Addr}{pl:Sem Bool}{Q:Value×List Value->Shared->Prop}(I:Inv X aa σ H s)(e:H a=some (.ins C dx fs))(c:Cls X.K C)(k:Meth X.K C m g)(l:fs.lookup m=none)
  (h:Q (.ref g,[.ref a]) s):wpAny (model X.prog X.w) A (getMethod (.ref a) m pl) Q E s:=by
 obtain⟨mA,O,r,_,_,_⟩:=sw I.hok e;have hn:mA m=none:=oP.none_of (by rw[←l];exact r m);exact wm I.kIn O (c.get m) k.at_ k.fn hn h
theorem Inv.made (I:Inv X aa σ H s):Inv X aa σ (upd (upd H s.heap.objs.size (.own (s.heap.objs.size+1))) (s.heap.objs.size+1) (.ins C s.heap.objs.size []))
  { s with heap:=(s.heap.push PySem.W.emptyDict).push (PySem.W.instObj C s.heap.objs.size) }:=by
 have e1:(s.heap.push PySem.W.emptyDict).get? s.heap.objs.size=some PySem.W.emptyDict:=vY s.heap rfl;have e2:((s.heap.push PySem.W.emptyDict).push (PySem.W.instObj C s.heap.objs.size)).get? (s.heap.objs.size+1)=some (PySem.W.instObj C s.heap.objs.size):=by
  have:=vY (s.heap.push PySem.W.emptyDict) (o:=PySem.W.instObj C s.heap.objs.size) rfl;rwa [Heap.size_push]at this
 have e3:(s.heap.push PySem.W.emptyDict).Ns s.heap.objs.size (λ_=>none):=⟨PySem.W.emptyDict,#[],_,e1,rfl,(λe he=>absurd he (by simp)),λ_=>rfl⟩;have I1:=I.laid (a:=s.heap.objs.size) (o:=.own (s.heap.objs.size+1)) (h':=s.heap.push PySem.W.emptyDict) (t':=s.toks) (λb u q=>vZ _ q) (vT _) ⟨_,e1⟩;refine I1.laid (a:=s.heap.objs.size+1) (o:=.ins C s.heap.objs.size []) (t':=s.toks) (λb u q=>vZ _ q) (Nat.le_of_eq (Heap.size_push _ _)) ?_;have ne:s.heap.objs.size≠s.heap.objs.size+1:=vS (Nat.lt_succ_self _);refine⟨by rw[a8 ne,au],uN _,ne,e2,λ_=>none,(Heap.Ns1.of_empty e3).at λo q=>vZ _ q,λ_=>True.intro,λy hy=>absurd rfl hy⟩
end
def Kt (K:Frag)(ta:TE)(f:Str):TE:=λσ H Q=>ta σ H λx H1=>∃a C dx fs v,x=.ref a/\H1 a=some (.ins C dx fs)/\Cls K C/\BR K C f/\fs.lookup f=some v/\Q v H1
section
variable {X:Cx}{o e value:Expr}{f:Str}{pos CL KY:Pos}{ta tv:TE}
theorem AG {pl:Sem Bool}{m:Str}{dI:Pos}{args:List Expr}{aa:List (Addr×Obj)}{s:Shared}{σ:St}{H:Hp}{Q:Value->Shared->Prop}{te:TE}(he:PE X e te)(I:Inv X aa σ H s)
  (h:te σ H λx H1=>∃a C dx fs g,x=.ref a/\H1 a=some (.ins C dx fs)/\Cls X.K C/\Meth X.K C m g/\fs.lookup m=none /\
   ∀s1,Inv X aa σ H1 s1->wq X (callWith pos (.ref g) [.ref a] (backTo pos (starEach args X.env)) (backToKw pos (keywordEach [] X.env))) Q X.xe s1)
  (ht:eval (.Call (.Attribute e m dI) args [] pos) X.env=(do
   let ov ←eval e X.env
   standAt dI.atName
   let (f,first) ←holding [ov] (getMethod ov m pl)
   callWith pos f first (backTo pos (starEach args X.env)) (backToKw pos (keywordEach [] X.env)))):
  wq X (eval (.Call (.Attribute e m dI) args [] pos) X.env) Q X.xe s:=by
 refine PySem.W.methodCall_KW (pl:=pl) (bG (he aa s σ H _ I h) λu s1 ⟨x,H1,I1,rx,a,C,dx,fs,g,ex,ea,c,k,l,q⟩=>?_) ht;subst ex;obtain rfl:u=Value.ref a:=rx;exact qO I1 ea c k l (q s1 I1)
end
section
variable {X:Cx}{aa:List (Addr×Obj)}{σ:St}{H:Hp}{s:Shared}{A:Around}{E:Value->Shared->Prop}{Q:Value->Shared->Prop}{c:Value}{b:Bool}
inductive TyOf (K:Frag)(H:Hp):V->Value->Prop where
 |non:TyOf K H .non (.type "NoneType")
 |bl (x:Bool):TyOf K H (.bl x) (.type "bool")
 |int (i:Int):TyOf K H (.int i) (.type "int")
 |str (x:Str):TyOf K H (.str x) (.type "str")
 |flt (x:UInt64):TyOf K H (.flt x) (.type "float")
 |lst {a:Addr}{xs:List V}(e:H a=some (.lst xs)):TyOf K H (.ref a) (.type "list")
 |frz {a:Addr}{o:Obj}{xs:List V}(e:H a=some (.frz o (.lst xs))):TyOf K H (.ref a) (.type "list")
 |tup {a:Addr}{xs:List V}(e:H a=some (.tup xs)):TyOf K H (.ref a) (.type "tuple")
 |dK {a:Addr}{aZ:List (iG×V)}{ob:Obj}(e:H a=some (.dK aZ ob)):TyOf K H (.ref a) (.type "dict")
 |dT {a:Addr}{aZ:List (List iG×V)}(e:H a=some (.dT aZ)):TyOf K H (.ref a) (.type "dict")
 |ins {a C dx:Addr}{fs:List (Str×V)}(e:H a=some (.ins C dx fs)) (cl:Cls K C) (ha:PySem.W.findIn K (.ref C) "__class__" = some (some (.builtin "object.__class__")))
   (hn:PySem.W.specialIn K (.builtin "object.__class__") "__get__" = some (some (.builtin "getset_descriptor.__get__"))) (Je:PySem.W.takesIn K (.builtin "object.__class__")=some true)
   (hm:PySem.W.mroIn K C (.type "object")=some true):TyOf K H (.ref a) (.ref C)
theorem dJ (I:Inv X aa σ H s)(rx:aG x u)(ty:TyOf X.K H x t)(e:PySem.W.kitOne X.K t c=some b)(h:∀tk,Q (.bool b) { s with toks:=tk }):
  wpAny (model X.prog X.w) A (call (.builtin "isinstance") [u,c]) Q E s:=by
 cases ty with
 |non=>cases (show u=Value.none from rx);exact kia_one PySem.W.kitx_none I.kIn True.intro e (λz=>nomatch z) h
 |bl y=>cases (show u=Value.bool y from rx);exact kia_one PySem.W.kitx_bool I.kIn True.intro e (λz=>nomatch z) h
 |int i=>obtain⟨t,q⟩:=(show ∃t,u=Value.int i t from rx);cases q;exact kia_one PySem.W.kitx_int I.kIn True.intro e (λz=>nomatch z) h
 |str y=>obtain⟨t,q⟩:=(show ∃t,u=Value.str y t from rx);cases q;exact kia_one PySem.W.kitx_str I.kIn True.intro e (λz=>nomatch z) h
 |flt y=>obtain⟨t,q⟩:=(show ∃t,u=Value.float y t from rx);cases q;exact kia_one PySem.W.kitx_float I.kIn True.intro e (λz=>nomatch z) h
 |@lst a xs ea=>
  cases (show u=Value.ref a from rx)
  obtain⟨_,_,n,_,h1⟩:=(show bC X.prog X.w H s.heap a (.lst xs)from I.hok a _ ea);exact kia_one PySem.W.kitx_list I.kIn ⟨_,h1,rfl⟩ e (λz=>nomatch z) h
 |@frz a ob xs ea=>
  cases (show u=Value.ref a from rx)
  obtain⟨_,_,_,n,_,h1⟩:=(show bC X.prog X.w H s.heap a (.frz ob (.lst xs))from I.hok a _ ea);exact kia_one PySem.W.kitx_list I.kIn ⟨_,h1,rfl⟩ e (λz=>nomatch z) h
 |@tup a xs ea=>
  cases (show u=Value.ref a from rx)
  obtain⟨_,_,_,p⟩:=(show bC X.prog X.w H s.heap a (.tup xs)from I.hok a _ ea);obtain⟨o,h1,h2,_⟩:=p;exact kia_one PySem.W.kitx_tuple I.kIn ⟨o,h1,h2⟩ e (λz=>nomatch z) h
 |@dK a aZ ob ea=>
  cases (show u=Value.ref a from rx)
  obtain⟨_,_,_,vs,_,p⟩:=(show bC X.prog X.w H s.heap a (.dK aZ ob)from I.hok a _ ea);obtain⟨o,es,ep,h1,h2,_⟩:=p;exact kia_one PySem.W.kitx_dict I.kIn ⟨o,h1,h2.1⟩ e (λz=>nomatch z) h
 |@dT a aZ ea=>
  cases (show u=Value.ref a from rx)
  obtain⟨_,_,xs,_,o,es,ep,h1,h2,_⟩:=(show bC X.prog X.w H s.heap a (.dT aZ)from I.hok a _ ea);exact kia_one PySem.W.kitx_dict I.kIn ⟨o,h1,h2.1⟩ e (λz=>nomatch z) h
 |@ins a C dx fs ea cl ha hn Je hm=>
  cases (show u=Value.ref a from rx)
  obtain⟨mA,O,_⟩:=sw I.hok ea;obtain⟨od,J,_⟩:=O.look;exact kia_one (PySem.W.kitx_own (cl.get _) cl.hd ha hn Je hm) I.kIn J e (λz=>nomatch z) h
end
structure dr (k:Nat)(A:Around):Prop where
 hd:A.handled=none
 dp:A.depth+3*k+5<recursionLimit
 un:A.units+16*k+200<cLine
theorem dr.mono (r:dr k A)(h:j<=k):dr j A:=⟨r.hd,by have:=r.dp;omega,by have:=r.un;omega⟩
theorem dr.deeper (r:dr (k+1) A)(env:Env):dr k (A.deeper env) :=
 ⟨r.hd,by have:=r.dp;show A.depth+1+3*k+5<_;omega,by have:=r.un;show A.units+3+16*k+200<_;omega⟩
theorem dr.depth (r:dr k A):A.depth<recursionLimit:=by have:=r.dp;omega
def Eb:TA:=λ_ H Q=>Q [] H
def AH (ta:TE)(tr:TA):TA:=λσ H Q=>ta σ H λx H1=>tr σ H1 λxs H2=>Q (x::xs) H2
section
variable {X:Cx}{e:Expr}{es:List Expr}{te:TE}{t:TA}{pos:Pos}
theorem fN:PA X [] Eb:=λ_ _ _ _ H Q I h=>Calls.spliced_nil ⟨[],H,I,.nil,h⟩
theorem dD (ha:PE X e te)(hr:PA X es t)(hs:starEach (e::es) X.env=(false,eval e X.env)::starEach es X.env:=by rfl):PA X (e::es) (AH te t):=by
 intro pos aa s σ H Q I h;rw[hs];show wpAny _ _ (spliced ((false,eval e X.env)::backTo pos (starEach es X.env))) _ _ s;refine Calls.spliced_cons (bG (ha aa s σ H _ I h) λu s1 ⟨x,H1,I1,r1,q1⟩=>?_);exact bG (hr pos aa s1 σ H1 _ I1 q1) λus s2 ⟨xs,H2,I2,r2,q2⟩=>⟨x::xs,H2,I2,.cons r1 r2,q2⟩
def G9 (t:TA):TE:=λσ H Q=>t σ H λxs H1=>xs.length<=sizeLine/\∀p,H1 p=none->Q (.ref p) (upd H1 p (.tup xs))
def GA (t:TA):TE:=λσ H Q=>t σ H λxs H1=>xs.length<=sizeLine/\∀p,H1 p=none->Q (.ref p) (upd H1 p (.lst xs))
theorem BS {x1}(h:PA X es t):PE X (.Tuple es x1 pos) (G9 t):=by
 intro aa s σ H Q I hq;refine wpAny_Tuple_spliced (bG (h pos aa s σ H _ I hq) λus s1 ⟨xs,H1,I1,r,z,q⟩=>⟨by rw[←r.length];exact z,?_⟩);have hf:H1 s1.heap.objs.size=none:=I1.hok.fresh (vT _);refine⟨.ref s1.heap.objs.size,upd H1 s1.heap.objs.size (.tup xs),I1.laid (t':=s1.toks) (λb u e=>vZ _ e) (vT _) ?_,rfl,q _ hf⟩;exact⟨z,us,r,⟨_,vY _ rfl,rfl,_,rfl⟩⟩
theorem BU (h:PA X es t):PE X (.List es pos) (GA t):=by
 intro aa s σ H Q I hq;refine wpAny_List_spliced (bG (h pos aa s σ H _ I hq) λus s1 ⟨xs,H1,I1,r,z,q⟩=>⟨by rw[←r.length];exact z,?_⟩);have hf:H1 s1.heap.objs.size=none:=I1.hok.fresh (vT _);refine⟨.ref s1.heap.objs.size,upd H1 s1.heap.objs.size (.lst xs),I1.laid (t':=s1.toks) (λb u e=>vZ _ e) (vT _) ?_,rfl,q _ hf⟩;exact⟨z,us,0,r,vY _ rfl⟩
end
abbrev Sp:=List V->Hp->VK->XK->Prop
abbrev zh:=List Env->Hp->Shared->XK->Value->Shared->Prop
structure Env0 (P:Program)(w:World)(K:Frag)(mg:Str->Option Value)(base:Heap)(A:Around)(outer:List Env)(s:Shared)(H:Hp):Prop where
 frames:A.frames=some outer
 mod:Mod K mg base
 bs:∀b o,base.get? b=some o->s.heap.get? b=some o/\H b=none
 bsz:base.objs.size<=s.heap.objs.size
 funs:s.heap.FunFrames base outer
 frf:∀b∈vz outer,H b=none
 hok:kr P w H s.heap
 bare:AllBare s.gens
def CE (outer:List Env)(P:Program)(w:World)(H:Hp)(s:Shared)(Q:VK)(u:Value)(s':Shared):Prop :=
 ∃v H',s'.os=s.os/\AllBare s'.gens/\Un (vz outer) [] H H' s.heap s'.heap/\kr P w H' s'.heap/\aG v u/\Q v H'
def CR (CX:zh)(outer:List Env)(P:Program)(w:World)(H:Hp)(s:Shared)(Q:VK)(E:XK)(r:Result)(s':Shared):Prop :=
 match r with
 |.ok (.ret u)=>CE outer P w H s Q u s'
 |.ok _=>False
 |.error e=>CX outer H s E e s'
structure jJ (P:Program)(w:World)(K:Frag)(mg:Str->Option Value)(base:Heap)(CX:zh)(k:Nat)(f:Addr)(fd:FuncData)(ps:List Str)(sp:Sp):Prop where
 len:∀vs H Q E,sp vs H Q E->vs.length=ps.length
 run:∀(A:Around)(outer:List Env)(s:Shared)(H:Hp)(args:Args)(us:List Value)(vs:List V)(Q:VK)(E:XK),dr k A->Env0 P w K mg base A outer s H->BindsTo s fd args (ps.zip us)->a9 vs us->sp vs H Q E ->
  codeAny (model P w) A (.call (.ref f) args) (CR CX outer P w H s Q E) s
theorem jJ.imp {P:Program}{w:World}{K:Frag}{mg:Str->Option Value}{base:Heap}{CX:zh}{k:Nat}{f:Addr}{fd:FuncData}{ps:List Str}{sp Jf:Sp}(F:jJ P w K mg base CX k f fd ps sp)
  (h:∀vs H Q E,Jf vs H Q E->sp vs H Q E):jJ P w K mg base CX k f fd ps Jf :=
 ⟨λvs H Q E q=>F.len vs H Q E (h _ _ _ _ q),λA outer s H args us vs Q E hr he hb hv hs=>F.run A outer s H args us vs Q E hr he hb hv (h _ _ _ _ hs)⟩
section
variable {X:Cx}{aa:List (Addr×Obj)}{σ:St}{H:Hp}{s s':Shared}
theorem Inv.env0 (I:Inv X aa σ H s):Env0 X.prog X.w X.K X.mg X.base X.A X.stack s H :=
 ⟨I.ok.frames,I.ok.mod,I.bs,vR I.ok.bsz I.sz,I.stack,I.stkFree,I.hok,I.bare⟩
theorem Inv.after (I:Inv X aa σ H s)(h:CE X.stack X.prog X.w H s Q u s'):EP X aa σ Q u s':=by
 obtain⟨v,H',os,bare,un,hok,r,q⟩:=h;obtain⟨hh,g,d,t,Hy⟩:=s';obtain rfl:Hy=s.os:=os;exact⟨v,H',I.call (h':=hh) (g':=g) (d':=d) (t':=t) (ch:=[]) un hok bare (λb z=>absurd z (by simp)),r,q⟩
end
def Ec (sp:Sp)(vM:List V)(E:XK)(t:TA):TE:=λσ H Q=>t σ H λvs H1=>sp (vs++vM) H1 Q E
def IL (C:Addr)(m:Str)(sp:Sp)(vM:List V)(E:XK)(ta:TE)(t:TA):TE:=λσ H Q=>ta σ H λx H1=>∃a dx fs,x=.ref a/\H1 a=some (.ins C dx fs)/\fs.lookup m=none /\
 t σ H1 λvs H2=>sp (x::(vs++vM)) H2 Q E
def IM (C:Addr)(sp:Sp)(vM:List V)(E:XK)(t:TA):TE:=λσ H Q=>t σ H λvs H1=>∀x dx,H1 x=none->H1 dx=none->dx≠x ->
 sp (.ref x::(vs++vM)) (upd (upd H1 dx (.own x)) x (.ins C dx [])) (λv H2=>v=.non/\Q (.ref x) H2) E
def mC (K:Frag)(fd:FuncData)(ps:List Str)(ds:List Value):Prop :=
 ∀(s:Shared)(us:List Value),K.In s.heap->(us++ds).length=ps.length->BindsTo s fd ⟨us,[]⟩ (ps.zip (us++ds))
theorem mC.all {K:Frag}{fd:FuncData}{ps:List Str}(h:∀us:List Value,us.length=ps.length->bindArgs fd ⟨us,[]⟩=pure (ps.zip us)):mC K fd ps []:=λs us _ hl=>by
 rw[uQ]at hl ⊢;exact .of_eq (h us hl)
def qP (CX:zh)(X:Cx)(E:XK):Prop:=∀(aa:List (Addr×Obj))(σ:St)(H:Hp)(s:Shared)(e:Value)(s':Shared),Inv X aa σ H s->CX X.stack H s E e s'->X.xe e s'
section
variable {X:Cx}{CX:zh}{k:Nat}{f C:Addr}{fd:FuncData}{ps:List Str}{sp:Sp}{vM:List V}{ds:List Value}{E:XK}{x m:Str}{p pos dI:Pos}{e o:Expr}{es:List Expr}{ta:TE}{t:TA}
theorem BV {aa:List (Addr×Obj)}{σ:St}{H:Hp}{s:Shared}{Q:VK}{us:List Value}{vs:List V}(F:jJ X.prog X.w X.K X.mg X.base CX k f fd ps sp)(hr:dr k X.A)(hb:mC X.K fd ps ds)(hd:a9 vM ds)(hx:qP CX X E)
  (I:Inv X aa σ H s) (r:a9 vs us) (h:sp (vs++vM) H Q E):wq X (call (.ref f) us) (EP X aa σ Q) X.xe s:=by
 have r2:a9 (vs++vM) (us++ds):=r.append hd;have hl:(us++ds).length=ps.length:=by rw[←r2.length];exact F.len _ _ _ _ h
 refine wpAny_call (codeAny_mono (F.run X.A X.stack s H ⟨us,[]⟩ (us++ds) (vs++vM) Q E hr I.env0 (hb s us I.kIn hl) r2 h) λr s' hq=>?_);cases r with
 |error e=>exact hx aa σ H s e s' I hq
 |ok fl=>
  cases fl with
  |ret u=>exact I.after hq
  |next=>exact False.elim hq
  |brk=>exact False.elim hq
  |cont=>exact False.elim hq
theorem zi (F:jJ X.prog X.w X.K X.mg X.base CX k f fd ps sp)(hr:dr k X.A)(hg:Gl X x)(hm:X.mg x=some (.ref f))(hk:PySem.W.keepIn X.K (.ref f)=true)(hb:mC X.K fd ps ds)(hd:a9 vM ds)(hx:qP CX X E)
  (ha:PA X (e::es) t) (qD:(x == ("__debug__" : Str))=false:=by decide) (he:starEach (e::es) X.env=(false,eval e X.env)::starEach es X.env:=by rfl) (kD:(backTo pos (starEach es X.env)).any (·.1)=false:=by rfl):
  PE X (.Call (.Name x p) (e::es) [] pos) (Ec sp vM E t):=by
 intro aa s σ H Q I h;refine wpAny_Call_Name_kw (sr I hg hm ?_ qD);refine PySem.W.callWith_K (h₀:=X.base) I.ok.mod.kin hk (bG (ha pos aa s σ H _ I h) λus s1 ⟨vs,H1,I1,r,q⟩=>⟨I1.kIn,?_⟩) he kD;exact BV F hr hb hd hx I1 r q
end
structure FnScope (N P:List Str)(sc:Scope):Prop where
 kind:sc.kind=.function
 co:sc.isCoroutine=false
 gen:sc.isGenerator=false
 nd:N.Nodup
 pre:N.take P.length=P
 par:∀x∈P,sc.names.lookup x=some .local∨sc.names.lookup x=some .cell
 nofree:∀y∈sc.names,y.2≠.free
theorem mD {kindOf:Str->Option NameKind}{x:Str}:∀ {binds:List (Str×Value)}{m:Str->Option Value},(∀v,(x,v)∉binds)->bindL kindOf binds m x=m x
 |[],_,_=>rfl
 | (n,v)::r,m,h=>by
  unfold bindL;rw[mD λw hw=>h w (mZ _ hw)];split
  ·have:x≠n:=by rintro rfl;exact h v mX
   simp[this]
  ·rfl
theorem mE {kindOf:Str->Option NameKind}{x:Str}:∀ {binds:List (Str×Value)}{m:Str->Option Value},(∀v,(x,v)∉binds)->bindC kindOf binds m x=m x
 |[],_,_=>rfl
 | (n,v)::r,m,h=>by
  unfold bindC;rw[mE λw hw=>h w (mZ _ hw)];split
  ·rfl
  ·have:x≠n:=by rintro rfl;exact h v mX
   simp[this]
theorem mF {kindOf:Str->Option NameKind}{x:Str}{v:Value}:∀ {P:List Str}{vs:List Value}{i:Nat}{m:Str->Option Value},P.Nodup->P[i]? = some x->vs[i]? = some v->kindOf x=some .local ->
  bindL kindOf (P.zip vs) m x=some v
 |[],_,_,_,_,h,_,_=>by simp at h
 |_::_,[],_,_,_,_,h,_=>by simp at h
 |p::P,w::vs,0,m,nd,h1,h2,hk=>by
  simp at h1 h2;subst h1;subst h2;show bindL kindOf ((p,w)::P.zip vs) m p=_;unfold bindL;rw[mD λv hv=>(List.nodup_cons.mp nd).1 (List.of_mem_zip hv).1,if_pos hk];simp
 |p::P,w::vs,i+1,m,nd,h1,h2,hk=>by
  show bindL kindOf ((p,w)::P.zip vs) m x=_;unfold bindL;exact mF (i:=i) (List.nodup_cons.mp nd).2 (by simpa using h1) (by simpa using h2) hk
theorem mG {kindOf:Str->Option NameKind}{x:Str}{v:Value}:∀ {P:List Str}{vs:List Value}{i:Nat}{m:Str->Option Value},P.Nodup->P[i]? = some x->vs[i]? = some v->kindOf x≠some .local ->
  bindC kindOf (P.zip vs) m x=some v
 |[],_,_,_,_,h,_,_=>by simp at h
 |_::_,[],_,_,_,_,h,_=>by simp at h
 |p::P,w::vs,0,m,nd,h1,h2,hk=>by
  simp at h1 h2;subst h1;subst h2;show bindC kindOf ((p,w)::P.zip vs) m p=_;unfold bindC;rw[mE λv hv=>(List.nodup_cons.mp nd).1 (List.of_mem_zip hv).1,if_neg hk];simp
 |p::P,w::vs,i+1,m,nd,h1,h2,hk=>by
  show bindC kindOf ((p,w)::P.zip vs) m x=_;unfold bindC;exact mG (i:=i) (List.nodup_cons.mp nd).2 (by simpa using h1) (by simpa using h2) hk
noncomputable def gf (N:List Str)(vs:List V):St:=vs.map some++List.replicate (N.length - vs.length) none
noncomputable def ke (CX:zh)(P:Program)(w:World)(K:Frag)(mg:Str->Option Value)(base:Heap)(N:List Str)(qual:Str)(scope:Scope)(f:Addr)(cd:Value)(A:Around)(outer:List Env)(s:Shared)(H:Hp)(E:XK):Cx where
 prog:=P
 w:=w
 K:=K
 mg:=mg
 base:=base
 A:=A.deeper (envOfC qual scope s.heap.objs.size f cd)
 N:=N
 s₀:=s
 H₀:=H
 env:=envOfC qual scope s.heap.objs.size f cd
 outer:=outer
 stack:=envOfC qual scope s.heap.objs.size f cd::outer
 ex:=[]
 calm:=true
 fn:=λ_=>true
 pn:=[]
 xe:=λe s'=>wpAny (model P w) (A.deeper (envOfC qual scope s.heap.objs.size f cd)) (leaving (envOfC qual scope s.heap.objs.size f cd) e) (λ_ EU=>CX outer H s E e EU) (λe' EU=>CX outer H s E e' EU) s'
theorem oW {sc:Scope}{n:Nat}{x:Str}(h:sc.names.lookup x=some .cell):∃c,(cellsFrom n sc.names []).lookup x=some c:=by
 have q:=PySem.W.cellsFrom_some sc.names n [] (.inl h);exact Option.isSome_iff_exists.mp q
theorem uj {CX:zh}{P:Program}{w:World}{K:Frag}{mg:Str->Option Value}{base:Heap}{N ps:List Str}{qual:Str}{scope:Scope}{f:Addr}{cd:Value}{A:Around}{outer:List Env}{s s1:Shared}{H:Hp}{E:XK}{us:List Value}{vs:List V}
  (S:FnScope N ps scope) (hd:A.handled=none) (e0:Env0 P w K mg base A outer s H) (hl:vs.length=ps.length) (r:a9 vs us)
  (x:InCallC s s.heap.objs.size (bindL (envOfC qual scope s.heap.objs.size f cd).kindOf (ps.zip us) λ_=>none) (cellsFrom (s.heap.objs.size+1) scope.names []) (bindC (envOfC qual scope s.heap.objs.size f cd).kindOf (ps.zip us) λ_=>none) s1):
  Inv (ke CX P w K mg base N qual scope f cd A outer s H E) [] (gf N vs) H s1:=by
 have kD:ps.length<=N.length:=by have:=congrArg List.length S.pre;rw[List.length_take]at this;omega
 obtain⟨h1,tk,rfl,hk⟩:=x.done;have EV:∀b:Addr,b∉(ke CX P w K mg base N qual scope f cd A outer s H E).ex:=λb z=>absurd (show b∈([]:List Addr)from z) (by simp);refine⟨⟨e0.mod,S.kind,rfl,rfl,vT _,λy z c h1 h2=>?_,λy hy=>?_,λy c _ h=>?_,λ_=>hd,Around.frames_deeper e0.frames,.inr ⟨rfl,rfl⟩,λb z=>absurd z (EV b),e0.bs,e0.bsz,λb _ _=>EV b,λb z=>absurd z (EV b),e0.funs,e0.frf⟩,
  rfl,e0.bare,Un.kept hk,⟨_,x.toInCall.ns,λi y v h1 h2 h3=>?_⟩,λy c h=>⟨_,x.cell y c h⟩,e0.hok.fresh (vT _),λy c h=>?_,λp hp=>absurd (show p∈([]:List (Addr×Obj))from hp) (by simp),e0.hok.kept hk,?_⟩
 ·exact name_of_addr x.apart (PySem.mem_of_lookup h1) (PySem.mem_of_lookup h2)
 ·have hy:scope.names.lookup y=some .cell∨scope.names.lookup y=some .free:=hy;rcases hy with hy|hy
  ·exact oW hy
  ·exact absurd rfl (S.nofree _ (PySem.mem_of_lookup hy))
 ·exact Nat.le_of_lt (x.above y c (PySem.mem_of_lookup h))
 ·have hi:i<vs.length:=by
   unfold gf at h2;by_cases hi:i<vs.length
   ·exact hi
   ·rw[List.getElem?_append_right (by simpa using hi)]at h2;rw[List.getElem?_replicate]at h2;split at h2<;>cases h2
  have ha:vs[i]? = some v:=by
   unfold gf at h2;rw[List.getElem?_append_left (by simpa using hi),vA]at h2;cases e:vs[i]? with
   |none=>rw[e]at h2;cases h2
   |some a=>rw[e]at h2;cases h2;rfl
  obtain⟨u,hu,rv⟩:=r.get ha;have hp:ps[i]? = some y:=by
   rw[←S.pre,List.getElem?_take_of_lt (by omega)];exact h1
  have Jg:ps.Nodup:=by rw[←S.pre];exact S.nd.sublist (List.take_sublist _ _)
  refine⟨u,rv,?_⟩;rcases S.par y (List.mem_of_getElem? hp)with k|k
  ·exact .inl ⟨k,mF Jg hp hu k⟩
  ·obtain⟨c,e⟩:=oW (n:=s.heap.objs.size+1) k;refine .inr ⟨.inl k,c,e,?_⟩;have q:=x.cell y c e;rw[mG Jg hp hu (by show scope.names.lookup y≠_;rw[k];decide)]at q;exact q
 ·exact e0.hok.fresh (Nat.le_of_lt (x.above y c (PySem.mem_of_lookup h)))
 ·unfold gf;show _=N.length;rw[uZ,vH,List.length_replicate];omega
theorem AI {CX:zh}{P:Program}{w:World}{K:Frag}{mg:Str->Option Value}{base:Heap}{k:Nat}{f:Addr}{name qual:Str}{params:Arguments}{body:List Stmt}{scope:Scope}{dV kV doc pm cw ct oc:Value}{an od:Option Addr}
  {lZ:Array (Option Value)}{N ps:List Str}{sp:Sp}(lk:K.lookup f=some ⟨oc,od,.func (fnOf name qual params body scope dV kV doc pm an cw ct),lZ⟩) (jZ:PySem.W.codeIn K cw qual=true) (S:FnScope N ps scope)
  (len:∀vs H Q E,sp vs H Q E->vs.length=ps.length)
  (y7:∀(A:Around)(outer:List Env)(s:Shared)(H:Hp)(vs:List V)(Q:VK)(E:XK),dr k (A.deeper (envOfC qual scope s.heap.objs.size f cw))->sp vs H Q E ->
   ∃t,nN (ke CX P w K mg base N qual scope f cw A outer s H E) body t/\t { nx:=λ_ H'=>Q .non H',rt:=Q } (gf N vs) H):
  jJ P w K mg base CX (k+1) f (fnOf name qual params body scope dV kV doc pm an cw ct) ps sp:=by
 refine⟨len,λA outer s H args us vs Q E hr e0 hb r Dz=>?_⟩;have hl:=len _ _ _ _ Dz;have KX:K.In s.heap:=e0.mod.kin.keeps λb o e=>(e0.bs b o e).1;have KZ:s.heap.NoLimit:=e0.mod.nolimit.keeps λb o e=>(e0.bs b o e).1;have EW:∀y∈ps.zip us,scope.names.lookup y.1=some .local∨(scope.names.lookup y.1=some .cell/\((cellsFrom (s.heap.objs.size+1) scope.names []).lookup y.1).isSome=true):=λ⟨n,v⟩ hy=>by
  rcases S.par n (List.of_mem_zip hy).1 with q|q
  ·exact .inl q
  ·exact .inr ⟨q,PySem.W.cellsFrom_some _ _ _ (.inl q)⟩
 refine codeAny_call_function hr.depth (KX _ _ lk) rfl S.co S.gen rfl (PySem.W.codeRec_of KX jZ) (hb _ _ _ _ ?_);refine wpAny_newFunctionEnv_cells S.kind EW λenv he s1 x=>?_;subst he;refine⟨KZ.keeps x.toInCall.keep,codeAny_func ?_⟩;obtain⟨t,ht,hq⟩:=y7 A outer s H vs Q E (hr.deeper _) Dz;have I:Inv (ke CX P w K mg base N qual scope f cw A outer s H E) [] (gf N vs) H s1:=uj S hr.hd e0 hl r x;refine wpAny_mono (ht [] s1 (gf N vs) H _ I hq) (λfl s' hs=>?_) λe s' hs=>hs;have fin:∀ {σ':St}{H':Hp}{v:V}{u:Value},Inv (ke CX P w K mg base N qual scope f cw A outer s H E) [] σ' H' s'->aG v u->Q v H'->CE outer P w H s Q u s' :=
  λ{σ' H' v u} J rv q=>⟨v,H',J.os,J.bare,J.base,J.hok,rv,q⟩
 cases fl with
 |ret u=>
  obtain⟨v,σ',H',J,rv,q⟩:=hs;exact fin J rv q
 |next=>
  obtain⟨σ',H',J,q⟩:=hs;exact fin (v:=V.non) (u:=Value.none) J rfl q
 |brk=>
  obtain⟨_,_,_,q⟩:=hs;exact False.elim q
 |cont=>
  obtain⟨_,_,_,q⟩:=hs;exact False.elim q
section
variable {X:Cx}{x:Str}{p pos:Pos}{e:Expr}{es:List Expr}{t:TA}{id T:String}{r:List V->Hp->VK->Prop}
def IN (r:List V->Hp->VK->Prop)(t:TA):TE:=λσ H Q=>t σ H λvs H1=>r vs H1 Q
theorem kI (hc:b7 X (.builtin id) r)(hg:Gl X x)(hm:X.mg x=none)(hv:bootBuiltins x=some (.builtin id))(ha:PA X (e::es) t)(hn:x ≠ "__name__":=by decide)(qD:(x == ("__debug__" : Str))=false:=by decide)
  (he:starEach (e::es) X.env=(false,eval e X.env)::starEach es X.env:=by rfl) (kD:(backTo pos (starEach es X.env)).any (·.1)=false:=by rfl):PE X (.Call (.Name x p) (e::es) [] pos) (IN r t):=by
 intro aa s σ H Q I h;refine wpAny_Call_Name_kw (ig I hg hm hv ?_ hn qD);exact PyProof.Rows.callWith_builtin1 (bG (ha pos aa s σ H _ I h) λus s1 ⟨vs,H1,I1,r1,q1⟩=>hc aa s1 σ H1 vs us Q I1 r1 q1) he kD
theorem j6 (hc:b7 X (.type T) r)(hg:Gl X x)(hm:X.mg x=none)(hv:bootBuiltins x=some (.type T))(ha:PA X (e::es) t)(hn:x ≠ "__name__":=by decide)(qD:(x == ("__debug__" : Str))=false:=by decide)
  (he:starEach (e::es) X.env=(false,eval e X.env)::starEach es X.env:=by rfl) (kD:(backTo pos (starEach es X.env)).any (·.1)=false:=by rfl):PE X (.Call (.Name x p) (e::es) [] pos) (IN r t):=by
 intro aa s σ H Q I h;refine wpAny_Call_Name_kw (ig I hg hm hv ?_ hn qD);exact PyProof.Rows.callWith_type1 (bG (ha pos aa s σ H _ I h) λus s1 ⟨vs,H1,I1,r1,q1⟩=>hc aa s1 σ H1 vs us Q I1 r1 q1) he kD
end
end L2
namespace HT
open PySem PyProof.Rows
section
open PySem.SeqAt
open PySem.AutoSeq1 (wpAny_loadPart')
open PySem.MeetsSeq PySem.MeetsSeq2 PySem.MeetsSeq3
end
section
variable {prog:Program}{w:World}{A:Around}{E:Value->Shared->Prop}{s:Shared}
theorem zj (ht:IsTup s.heap t vs.toArray)(hb:IsTup s.heap b ws.toArray)(hv:vs≠[])
  (h1:ws=[]->Q (.ref t) s) (h2:ws≠[]->Q (.ref s.heap.objs.size) { s with heap:=s.heap.push { cls:=.type "tuple",data:=.seq (vs++ws).toArray } })
  (hsz:vs.length+ws.length<=sizeLine):wpAny (model prog w) A (binaryOp .Add (.ref t) (.ref b)) Q E s:=by
 obtain⟨⟨cls,dd,data,sl⟩,ho,hc,n,hd⟩:=id ht;obtain⟨⟨La,Jh,data2,Ji⟩,D0,EX,n2,Jj⟩:=id hb;simp only at hc hd EX Jj;subst hc hd EX Jj;have e:vs.toArray++ws.toArray=(vs++ws).toArray:=by simp
 by_cases hw:ws=[]
 ·exact concat_meets ⟨_,ho,rfl⟩ ⟨_,D0,rfl⟩ noFill_tuple_add seq_tuple_add PySem.F.slot_tuple_add PySem.F.entry_tuple_add (PySem.F.args_tuple_add_2 _ _)
   (tuple_addW1 t b vs.toArray ws.toArray n n2 dd Jh sl Ji (by simpa using hv) (by simp[hw])) ⟨ho,D0,h1 hw⟩
 ·refine concat_meets ⟨_,ho,rfl⟩ ⟨_,D0,rfl⟩ noFill_tuple_add seq_tuple_add PySem.F.slot_tuple_add PySem.F.entry_tuple_add (PySem.F.args_tuple_add_2 _ _)
   (tuple_addW2 t b vs.toArray ws.toArray n n2 dd Jh sl Ji (by simpa using hv) (by simpa using hw) (by rw[vG,vG];exact hsz)) ⟨ho,D0,?_⟩
  rw[e];exact h2 hw
noncomputable def bV (n d:Nat):Option Int->Nat
 |none=>d
 |some v=>if v<0 then (v+(n:Int)).toNat else min v.toNat n
theorem wn (n d:Nat):bV n d none=d:=rfl
theorem zk (n d k:Nat):bV n d (some (k:Int))=min k n:=by
 show(if(k:Int)<0 then ((k:Int)+(n:Int)).toNat else min (k:Int).toNat n)=min k n;rw[if_neg (by omega),Int.toNat_natCast]
theorem BW (n d:Nat)(hd:d<=n)(o:Option Int):bV n d o<=n:=by
 cases o with
 |none=>exact hd
 |some v=>
  show(if v<0 then (v+(n:Int)).toNat else min v.toNat n)<=n;by_cases hv:v<0
  ·rw[if_pos hv];omega
  ·rw[if_neg hv];exact Nat.min_le_right _ _
theorem sA (v:Int)(n d:Nat):(if v<0 then max (v+(n:Int)) 0 else min v (n:Int))=((bV n d (some v):Nat):Int):=by
 show(if v<0 then max (v+(n:Int)) 0 else min v (n:Int))=(((if v<0 then (v+(n:Int)).toNat else min v.toNat n):Nat):Int);by_cases hv:v<0
 ·simp only[if_pos hv];omega
 ·simp only[if_neg hv];omega
theorem qQ (lo hi:Option Int)(n:Nat):Builtin.Slice.sliceAdjust lo hi 1 (n:Int)=(((bV n 0 lo:Nat):Int),((bV n n hi:Nat):Int)):=by
 have h1:¬((1:Int)<0):=by omega
 unfold Builtin.Slice.sliceAdjust;simp only[h1,if_false];refine Prod.ext ?_ ?_
 ·cases lo with
  |none=>rfl
  |some v=>exact sA v n 0
 ·cases hi with
  |none=>rfl
  |some v=>exact sA v n n
theorem qR (i j:Nat):Builtin.Slice.slicePlaces (i:Int) (j:Int) 1=j - i:=by
 unfold Builtin.Slice.slicePlaces;have h1:(1:Int) > 0:=by omega
 simp only[h1,if_true,Int.ediv_one];split<;>omega
theorem kJ (p:IsPart v o)(h:Q o s):wpAny (model prog w) A (Builtin.Slice.slicePartIndex v) Q E s:=by
 cases p with
 |none=>exact slicePart_none h
 |int i t=>exact slicePart_int h
theorem fg {sl:Addr}{vl vu:Value}{lo hi:Option Int}{n:Nat}{Q:Int×Int×Nat->Shared->Prop}(hs:s.heap.IsSliceOf sl vl vu .none)(pl:IsPart vl lo)(pu:IsPart vu hi)
  (h:Q (((bV n 0 lo:Nat):Int),1,bV n n hi - bV n 0 lo) s):wpAny (model prog w) A (Builtin.Slice.sliceApplied (.ref sl) (pure (n:Int))) Q E s:=by
 obtain⟨os,A1,Gi,A2⟩:=id hs;unfold Builtin.Slice.sliceApplied Builtin.Slice.sliceFields;refine wX (wX (wpAny_field A1 A2 (x:=vl) rfl (wX (wpAny_field A1 A2 (x:=vu) rfl (wX (wpAny_field A1 A2 (x:=.none) rfl (wY ?_)))))));refine wX (slicePart_none ?_);show wpAny _ _ (if((1:Int) == 0)=true then _ else _) _ _ s;rw[if_neg (by decide)];refine wX (kJ pl (wX (kJ pu (wX (wY ?_)))));show wpAny _ _ (match Builtin.Slice.sliceAdjust lo hi 1 (n:Int) with|(lo,hi)=>pure (lo,(1:Int),Builtin.Slice.slicePlaces lo hi 1)) _ _ s;rw[qQ lo hi n];show wpAny _ _ (pure (((bV n 0 lo:Nat):Int),(1:Int),Builtin.Slice.slicePlaces ((bV n 0 lo:Nat):Int) ((bV n n hi:Nat):Int) 1)) _ _ s;rw[qR];exact wY h
theorem wt (xs:Array Value)(i k:Nat):((List.range k).filterMap λ(m:Nat)=>xs[((i:Int)+(m:Int)*1).toNat]?).toArray=((xs.toList.drop i).take k).toArray:=by
 have e:(λ(m:Nat)=>xs[((i:Int)+(m:Int)*1).toNat]?)=λm=>xs[i+m]?:=by
  funext m;have:((i:Int)+(m:Int)*1).toNat=i+m:=by omega
  rw[this]
 rw[e];have:=pick_run xs i k;rw[List.filterMap_map]at this;have e2:((λx=>xs[x]?) ∘ λx=>i+x)=λm=>xs[i+m]?:=rfl;rw[e2]at this;rw[this]
theorem iM {t sl:Addr}{am:Array Value}{vl vu:Value}{lo hi:Option Int}{Q:Value->Shared->Prop}(ht:IsTup s.heap t am)(hs:s.heap.IsSliceOf sl vl vu .none)(pl:IsPart vl lo)(pu:IsPart vu hi)
  (hw:¬(bV am.size 0 lo=0/\bV am.size am.size hi=am.size))
  (h:Q (.ref s.heap.objs.size) { s with heap:=s.heap.push { cls:=.type "tuple",data:=.seq ((am.toList.drop (bV am.size 0 lo)).take (bV am.size am.size hi - bV am.size 0 lo)).toArray } })
  (hsz:am.size<=sizeLine):wpAny (model prog w) A (getItem (.ref t) (.ref sl)) Q E s:=by
 have tY:sizeOk (.seq ((am.toList.drop (bV am.size 0 lo)).take (bV am.size am.size hi - bV am.size 0 lo)).toArray):=by
  show((am.toList.drop (bV am.size 0 lo)).take (bV am.size am.size hi - bV am.size 0 lo)).toArray.size<=sizeLine
  rw[vG,List.length_take,List.length_drop,vF]
  omega
 have hj:bV am.size am.size hi<=am.size:=BW _ _ (vT _) hi
 obtain⟨os,A1,Gi,A2⟩:=id hs
 have Lb:s.TypeIs (.ref sl) "slice":=⟨os,A1,Gi⟩
 unfold getItem
 try with_reducible refine wpAny_holding ?_
 first|refine wX (wY ?_)|skip
 refine wX (wpAny_sequenceKey ht.typeIs (by decide) ?_)
 refine wX (wpAny_callSpecial?_slot (name:=Str.ofString "__getitem__") ht.typeIs PyProof.Rows.slot_tuple_getitem
  (wpAny_call_entry PyProof.Rows.slot_tuple_getitem ht.typeIs entry_tuple_getitem ?_ (args_tuple_getitem _ _)))
 show wpAny _ _ (Builtin.Tuple.tupleItemsOf (.ref t)>>=_) _ _ s
 refine wX (tupleItemsOf_ ht ?_)
 refine wX (wpAny_typeOf Lb ?_)
 rw[if_pos (by decide)]
 refine wX (fg hs pl pu ?_)
 have D1:¬((((bV am.size 0 lo:Nat):Int) == 0 && (1:Int) == 1 && (bV am.size am.size hi - bV am.size 0 lo) == am.size)=true):=by
  intro q
  rw[vC,vC]at q
  have q1:((bV am.size 0 lo:Nat):Int)=0:=eq_of_beq q.1.1
  have q2:bV am.size am.size hi - bV am.size 0 lo=am.size:=eq_of_beq q.2
  exact hw ⟨by omega,by omega⟩
 show wpAny _ _ (if(((bV am.size 0 lo:Nat):Int) == 0 && (1:Int) == 1 && (bV am.size am.size hi - bV am.size 0 lo) == am.size)=true then _ else _) _ _ s
 rw[if_neg D1,wt]
 first
  |exact wX (m:=Builtin.Tuple.tupleExact _) (wpAny_newObj_type (wY ⟨_,rfl,wY h⟩) tY)
  |exact wX (m:=Builtin.Tuple.tupleExact _) (wpAny_newObj_type (wX (wY (wY ⟨_,rfl,wY h⟩))) tY)
  |exact wX (wX (m:=Builtin.Tuple.tupleExact _) (wpAny_newObj_type (wY (wY ⟨_,rfl,wY h⟩)) tY))
  |exact wX (wX (m:=Builtin.Tuple.tupleExact _) (wpAny_newObj_type (wY ⟨_,rfl,wY h⟩) tY))
end
end HT
namespace L2
open PySem PySem.Spec PyProof.Rows
abbrev TO:=St->Hp->(Option Int->Hp->Prop)->Prop
def PO (X:Cx)(e:Option Expr)(t:TO):Prop :=
 ∀(aa:List (Addr×Obj))(s:Shared)(σ:St)(H:Hp)(Q:Option Int->Hp->Prop),Inv X aa σ H s->t σ H Q ->
  wq X (evalPart e X.env) (λu s'=>∃o H',Inv X aa σ H' s'/\IsPart u o/\Q o H') X.xe s
def zm:TO:=λ_ H Q=>Q none H
def Ed (t:TE):TO:=λσ H Q=>t σ H λx H1=>∃i,x=.int i/\Q (some i) H1
section
variable {X:Cx}{e:Expr}{te:TE}{lo hi:Option Expr}{tl th:TO}{pos p2:Pos}
theorem zn:PO X none zm:=by
 intro aa s σ H Q I h;rw[evalPart_none];exact wY ⟨none,H,I,.none,h⟩
theorem zo (h:PE X e te):PO X (some e) (Ed te):=by
 intro aa s σ H Q I hw;rw[evalPart_some];refine bG (h aa s σ H _ I hw) λu s1 ⟨x,H1,I1,r1,q1⟩=>?_;obtain⟨i,rfl,q⟩:=q1;obtain⟨t,rfl⟩:=r1;exact⟨some i,H1,I1,.int i t,q⟩
def v0 (X:Cx)(r:V->Option Int->Option Int->Hp->VK->Prop):Prop :=
 ∀(aa:List (Addr×Obj))(s:Shared)(σ:St)(H:Hp)(x:V)(v vl vu:Value)(lo hi:Option Int)(sl:Addr)(Q:VK),Inv X aa σ H s->aG x v->s.heap.IsSliceOf sl vl vu .none->IsPart vl lo->IsPart vu hi->r x lo hi H Q ->
  ∃T id,typeLookup (.type T) "__getitem__" = pure (some (.builtin id))/\s.TypeIs v T/\wq X (getItem v (.ref sl)) (EP X aa σ Q) X.xe s
theorem v0.or (h:v0 X r)(h':v0 X r'):v0 X (λx lo hi H Q=>r x lo hi H Q∨r' x lo hi H Q):=by
 intro aa s σ H x v vl vu lo hi sl Q I rx hs pl pu q;rcases q with q|q
 ·exact h aa s σ H x v vl vu lo hi sl Q I rx hs pl pu q
 ·exact h' aa s σ H x v vl vu lo hi sl Q I rx hs pl pu q
def Ku (r:V->Option Int->Option Int->Hp->VK->Prop)(te:TE)(tl th:TO):TE:=λσ H Q=>te σ H λx H1=>tl σ H1 λl H2=>th σ H2 λu H3=>r x l u H3 Q
theorem wu (hr:v0 X r)(he:PE X e te)(hl:PO X lo tl)(hu:PO X hi th):PE X (.Subscript e (.Slice lo hi none p2) pos) (Ku r te tl th):=by
 intro aa s σ H Q I h;refine Subscript_ (bG (he aa s σ H _ I h) λv s1 ⟨x,H1,I1,r1,q1⟩=>?_);refine wpAny_Slice (bG (hl aa s1 σ H1 _ I1 q1) λvl s2 ⟨l,H2,I2,pl,q2⟩=>bG (hu aa s2 σ H2 _ I2 q2) λvu s3 ⟨u,H3,I3,pu,q3⟩=>?_);rw[evalPart_none];refine wY ?_;have I4:Inv X aa σ H3 { s3 with heap:=s3.heap.push { cls:=.type "slice",data:=.fields #[vl,vu,.none] } }:=I3.kept (t':=s3.toks) λb ob q=>vZ _ q;obtain⟨T,id,hT,ht,hg⟩:=hr aa { s3 with heap:=s3.heap.push { cls:=.type "slice",data:=.fields #[vl,vu,.none] } } σ H3 x v vl vu l u s3.heap.objs.size Q I4 r1 (Heap.IsSliceOf.new ..) pl pu q3;show wq X (subscriptTail e (.Slice lo hi none p2) v (.ref s3.heap.objs.size)) (EP X aa σ Q) X.xe { s3 with heap:=s3.heap.push { cls:=.type "slice",data:=.fields #[vl,vu,.none] } };exact tail_any (ops:=[.ref s3.heap.objs.size,v]) ht hT hg (by with_unfolding_all rfl)
def ma (xs:List V)(lo hi:Option Int):List V:=(xs.drop (HT.bV xs.length 0 lo)).take (HT.bV xs.length xs.length hi - HT.bV xs.length 0 lo)
theorem jK (xs:List V)(lo hi:Option Int):(ma xs lo hi).length<=xs.length:=by
 unfold ma;rw[List.length_take,List.length_drop];omega
def GB (K:Frag):V->Option Int->Option Int->Hp->VK->Prop:=λx lo hi H Q=>∃a xs,x=.ref a/\eZ K H a xs /\
 ¬(HT.bV xs.length 0 lo=0/\HT.bV xs.length xs.length hi=xs.length)/\∀p,H p=none->Q (.ref p) (upd H p (.tup (ma xs lo hi)))
theorem BX:v0 X (GB X.K):=by
 intro aa s σ H x v vl vu lo hi sl Q I rx hs pl pu h;obtain⟨a,xs,rfl,hx,hw,q⟩:=h;cases rx
 obtain⟨its,r,ht,hz⟩:=I.tuple hx;have bp:its.toArray.size=xs.length:=by rw[vG];exact r.length.symm
 refine⟨"tuple",_,PyProof.Rows.slot_tuple_getitem.lookup,ht.typeIs,?_⟩;refine HT.iM ht hs pl pu (by rw[bp];exact hw) ?_ (by rw[bp];exact hz);rw[bp];refine⟨.ref s.heap.objs.size,_,I.laid (t':=s.toks) (o:=.tup (ma xs lo hi)) (λb ob q=>vZ _ q) (vT _) ?_,rfl,q _ (I.hok.fresh (vT _))⟩;exact⟨vR (jK xs lo hi) hz,_,(r.drop (HT.bV xs.length 0 lo)).take (HT.bV xs.length xs.length hi - HT.bV xs.length 0 lo),IsTup.new _ _⟩
def Ee (K:Frag):R2:=λx y H Q=>∃a b xs ys,x=.ref a/\y=.ref b/\eZ K H a xs/\eZ K H b ys/\xs≠[]/\xs.length+ys.length<=sizeLine /\
 (ys=[]->Q (.ref a) H)/\(ys≠[]->∀p,H p=none->Q (.ref p) (upd H p (.tup (xs++ys))))
theorem a9.nil_iff (r:a9 xs us):us=[]↔xs=[]:=by
 cases r with
 |nil=>simp
 |cons _ _=>simp
theorem zp:bW X (binaryOp .Add) (Ee X.K):=by
 intro aa s σ H x y v u Q I rx ry h;obtain⟨a,b,xs,ys,rfl,rfl,ha,hb,hx,hz,q1,q2⟩:=h;cases rx
 cases ry
 obtain⟨its,r1,p1,_⟩:=I.tuple ha;obtain⟨vo,r2,p2,_⟩:=I.tuple hb;refine HT.zj p1 p2 (λz=>hx (r1.nil_iff.mp z)) (λz=>⟨.ref a,H,I,rfl,q1 (r2.nil_iff.mp z)⟩) (λz=>?_) (by rw[←r1.length,←r2.length];exact hz);refine⟨.ref s.heap.objs.size,_,I.laid (t':=s.toks) (o:=.tup (xs++ys)) (λb ob q=>vZ _ q) (vT _) ?_,rfl,q2 (λw=>z (r2.nil_iff.mpr w)) _ (I.hok.fresh (vT _))⟩;exact⟨by rw[uZ];exact hz,_,r1.append r2,IsTup.new _ _⟩
end
def wv (n:Nat)(i:Int):Option Nat:=if 0<=i then (if i<n then some i.toNat else none)else if -(n:Int)<=i then some (i+n).toNat else none
def mH {α:Type}(xs:List α)(i:Int):Option α:=(wv xs.length i).bind λj=>xs[j]?
theorem sC (h:wv n i=some j):seqIndex? i n=some j/\j<n/\-(n:Int)<=i/\i<n:=by
 unfold wv at h;by_cases h0:0<=i
 ·rw[if_pos h0]at h;by_cases h1:i<n
  ·rw[if_pos h1]at h;have e:i.toNat=j:=vK h;exact⟨by rw[seqIndex_of h0 h1,e],by omega,by omega,h1⟩
  ·rw[if_neg h1]at h;cases h
 ·rw[if_neg h0]at h;by_cases h1 : -(n:Int)<=i
  ·rw[if_pos h1]at h;have e:(i+n).toNat=j:=vK h;exact⟨by rw[seqIndex_neg (by omega) h1,e],by omega,h1,by omega⟩
  ·rw[if_neg h1]at h;cases h
theorem nQ {α:Type}{xs:List α}{i:Int}{v:α}(h:mH xs i=some v):∃j,seqIndex? i xs.length=some j/\xs[j]? = some v/\j<xs.length/\-(xs.length:Int)<=i/\i<xs.length:=by
 unfold mH at h;cases e:wv xs.length i with
 |none=>rw[e]at h;cases h
 |some j=>
  rw[e]at h;obtain⟨h1,h2,h3,h4⟩:=sC e;exact⟨j,h1,h,h2,h3,h4⟩
theorem zq {α:Type}{xs:List α}{j:Nat}{v:α}(h:xs[j]? = some v):mH xs (j:Int)=some v:=by
 have hj:j<xs.length:=(vV h).1;have e:wv xs.length (j:Int)=some j:=by
  unfold wv;rw[if_pos (by omega),if_pos (by omega)];simp
 unfold mH;rw[e];exact h
def ky (b:Expr):Prop:=∀o i,subscripted b false o i=operate [o,i] (getItem o i)
def ww (X:Cx)(r:R2):Prop :=
 ∀(value slice:Expr)(aa:List (Addr×Obj))(s:Shared)(σ:St)(H:Hp)(x y:V)(v u:Value)(Q:VK),Inv X aa σ H s->aG x v->aG y u->r x y H Q ->
  subscripted slice false v u=operate [v,u] (getItem v u)->wq X (subscriptTail value slice v u) (EP X aa σ Q) X.xe s
def yG (X:Cx)(id:String)(r:V->List V->Hp->VK->Prop):Prop :=
 ∀(aa:List (Addr×Obj))(s:Shared)(σ:St)(H:Hp)(x:V)(xs:List V)(v:Value)(us:List Value)(Q:VK),Inv X aa σ H s->aG x v->a9 xs us->r x xs H Q ->
  wq X (call (.builtin id) (v::us)) (EP X aa σ Q) X.xe s
section
variable {X:Cx}{a b:Expr}{ta tb:TE}{pos:Pos}
theorem ww.or (h:ww X r)(h':ww X r'):ww X (λx y H Q=>r x y H Q∨r' x y H Q):=by
 intro value slice aa s σ H x y v u Q I rx ry q hs;rcases q with q|q
 ·exact h value slice aa s σ H x y v u Q I rx ry q hs
 ·exact h' value slice aa s σ H x y v u Q I rx ry q hs
theorem yG.or {id:String}{r r':V->List V->Hp->VK->Prop}(h:yG X id r)(h':yG X id r'):yG X id (λx xs H Q=>r x xs H Q∨r' x xs H Q):=by
 intro aa s σ H x xs v us Q I rx rs q;rcases q with q|q
 ·exact h aa s σ H x xs v us Q I rx rs q
 ·exact h' aa s σ H x xs v us Q I rx rs q
theorem wx (hr:ww X r)(ha:PE X a ta)(hb:PE X b tb)(hs:ky b):PE X (.Subscript a b pos) (FR r ta tb):=by
 intro aa s σ H Q I h;exact Subscript_ (BL ha hb I h λv u s2 x y H2 I2 rx ry q=>hr a b aa s2 σ H2 x y v u Q I2 rx ry q (hs _ _))
def GC (K:Frag):R2:=λx y H Q=>∃p xs i v,x=.ref p/\y=.int i/\eN K H p xs/\mH xs i=some v/\Q v H
def GD (K:Frag):R2:=λx y H Q=>∃p xs i v,x=.ref p/\y=.int i/\eZ K H p xs/\mH xs i=some v/\Q v H
def GF:R2:=λx y H Q=>∃z i c,x=.str z/\y=.int i/\z.length<=sizeLine/\mH z.cps.toList i=some c/\Q (.str ⟨#[c]⟩) H
theorem zr:ww X (GC X.K):=by
 intro value slice aa s σ H x y v u Q I rx ry h hs;obtain⟨p,xs,i,z,rfl,rfl,hq,he,q⟩:=h;cases rx
 obtain⟨t,rfl⟩:=ry;obtain⟨its,r,pl,hz⟩:=I.list hq;obtain⟨j,h1,h2,h3,h4,h5⟩:=nQ he;obtain⟨w,ew,Hz⟩:=r.get h2;have hl:=r.length;have hn:=j5;have fin:EP X aa σ Q w s:=⟨z,H,I,Hz,q⟩;by_cases h0:0<=i
 ·have hj:i.toNat=j:=by
   rw[seqIndex_of h0 h5]at h1;exact vK h1
  exact item_listR pl.isList h0 (by omega) (by rw[hj];simpa using ew) fin hs
 ·have hj:(i+(its.toArray.size:Int)).toNat=j:=by
   rw[seqIndex_neg (by omega) h4]at h1;rw[vG,←hl];exact vK h1
  exact subscriptTail_builtinR (x:=w) pl.isList.typeIs slot_list_getitem.lookup
   (wpAny_getItem_list_neg (Q:=λr s'=>r=w/\EP X aa σ Q r s') pl.isList (by omega) (by rw[vG]<;>omega) (by omega) (by rw[hj];simpa using ew) ⟨rfl,fin⟩) hs
theorem wy:ww X (GD X.K):=by
 intro value slice aa s σ H x y v u Q I rx ry h hs;obtain⟨p,xs,i,z,rfl,rfl,hq,he,q⟩:=h;cases rx
 obtain⟨t,rfl⟩:=ry;obtain⟨its,r,pl,hz⟩:=I.tuple hq;obtain⟨j,h1,h2,h3,h4,h5⟩:=nQ he;obtain⟨w,ew,Hz⟩:=r.get h2;have hl:=r.length;have hn:=j5;have fin:EP X aa σ Q w s:=⟨z,H,I,Hz,q⟩;exact subscriptTail_builtinR (x:=w) pl.typeIs slot_tuple_getitem.lookup
  (getItem_tuple (j:=j) (Q:=λr s'=>r=w/\EP X aa σ Q r s') pl (by omega) (by omega) (by rw[vG,←hl];exact h1) (by simpa using ew) ⟨rfl,fin⟩) hs
theorem qS:ww X GF:=by
 intro value slice aa s σ H x y v u Q I rx ry h hs;obtain⟨z,i,c,rfl,rfl,hz,he,q⟩:=h;obtain⟨t,rfl⟩:=rx;obtain⟨t',rfl⟩:=ry;obtain⟨j,h1,h2,h3,h4,h5⟩:=nQ he;have hl:z.cps.toList.length=z.length:=by simp[Str.length]
 rw[hl]at h1 h4 h5;have hn:=j5;exact tail_any (typeIs_str s z t) slot_str_getitem.lookup (getItem_str (c:=c) (by
  have e1:decide (i < -(2 ^ 63:Int))=false:=decide_eq_false (by omega);have e2:decide (i ≥ 2 ^ 63)=false:=decide_eq_false (by omega);rw[e1,e2,Bool.or_false]) (by rw[h1];simpa using h2) ⟨.str ⟨#[c]⟩,H,I.tok _,⟨_,rfl⟩,q⟩) hs
theorem qT (its:List Value)(n j:Nat)(u:Value):Obj.mapSeq (·.setIfInBounds j u) { cls:=.type "list",data:=.seq its.toArray n }={ cls:=.type "list",data:=.seq (its.set j u).toArray n }:=by
 simp[Obj.mapSeq]
theorem Inv.lst (I:Inv X aa σ H s)(h:H p=some (.lst xs)):
  ∃(its:List Value)(n:Nat),a9 xs its/\s.heap.get? p=some { cls:=.type "list",data:=.seq its.toArray n }/\xs.length<=sizeLine:=by
 obtain⟨z,its,n,r,e⟩:=I.hok p _ h;exact⟨its,n,r,e,z⟩
theorem Inv.lstUpd {aa:List (Addr×Obj)}{σ:St}{H:Hp}{s:Shared}{p:Addr}{xs ys:List V}{its its':List Value}{n n':Nat}{f:Obj->Obj}(I:Inv X aa σ H s)(h:H p=some (.lst xs))
  (ho:s.heap.get? p=some { cls:=.type "list",data:=.seq its.toArray n }) (hf:f { cls:=.type "list",data:=.seq its.toArray n }={ cls:=.type "list",data:=.seq its'.toArray n' }) (r:a9 ys its') (hz:ys.length<=sizeLine) (t:Nat):
  Inv X aa σ (upd H p (.lst ys)) { s with heap:=s.heap.update p f,toks:=t }:=by
 have e:(s.heap.update p f).get? p=some { cls:=.type "list",data:=.seq its'.toArray n' }:=by
  rw[Heap.get?_update_self f ho (by rw[hf]<;>rfl),hf]
 refine I.write (x:=p) (e:=p) (by rw[h];trivial) (.inl rfl) (λb u hb q=>(Heap.get?_update_other _ _ (Ne.symm hb)).trans q) ⟨_,e⟩ ?_;exact⟨hz,its',n',r,e⟩
def Ef:V->V->V->Hp->(Hp->Prop)->Prop:=λo i v H Q=>∃p xs k j,o=.ref p/\i=.int k/\H p=some (.lst xs)/\wv xs.length k=some j/\Q (upd H p (.lst (xs.set j v)))
theorem wz:DM X Ef:=by
 intro aa s σ H o i v ov iv u Q I ro ri rv h;obtain⟨p,xs,k,j,rfl,rfl,hp,hj,q⟩:=h;cases ro
 obtain⟨t,rfl⟩:=ri;obtain⟨its,n,r,ho,hz⟩:=I.lst hp;obtain⟨h1,h2,h3,h4⟩:=sC hj;have hl:=r.length;have hn:=j5;have I':Inv X aa σ (upd H p (.lst (xs.set j v))) { s with heap:=s.heap.update p (Obj.mapSeq (·.setIfInBounds j u)) } :=
  I.lstUpd hp ho (qT its n j u) (r.set rv j) (by rw[List.length_set];exact hz) s.toks
 by_cases h0:0<=k
 ·have hk:k.toNat=j:=by
   rw[seqIndex_of h0 h4]at h1;exact vK h1
  exact PySem.W.ki_setAt ho h0 (by omega) (by rw[vG,←hl];exact h4) (by rw[hk];exact⟨_,I',q⟩)
 ·have hk:(k+(its.toArray.size:Int)).toNat=j:=by
   rw[seqIndex_neg (by omega) h3]at h1;rw[vG,←hl];exact vK h1
  exact PySem.W.ki_setBack ho (by omega) (by rw[vG,←hl];exact h3) (by omega) (by rw[hk];exact⟨_,I',q⟩)
theorem nR (lo hi:Option Int)(n:Nat):(sliceBounds lo hi none n).1=((HT.bV n 0 lo:Nat):Int)/\(sliceBounds lo hi none n).2.1=((HT.bV n n hi:Nat):Int)/\(sliceBounds lo hi none n).2.2=1:=by
 refine⟨?_,?_,rfl⟩
 ·cases lo with
  |none=>simp[sliceBounds,HT.bV]
  |some i=>
   simp only[sliceBounds,HT.bV,Option.getD_none,show(1:Int) > 0 by decide,if_true];by_cases h:i<0
   ·simp only[h,if_true]<;>omega
   ·simp only[h,if_false]<;>omega
 ·cases hi with
  |none=>simp[sliceBounds,HT.bV]
  |some i=>
   simp only[sliceBounds,HT.bV,Option.getD_none,show(1:Int) > 0 by decide,if_true];by_cases h:i<0
   ·simp only[h,if_true]<;>omega
   ·simp only[h,if_false]<;>omega
theorem me (its:List Value)(lo hi:Option Int):slicePick its.toArray lo hi none=((its.drop (HT.bV its.length 0 lo)).take (HT.bV its.length its.length hi - HT.bV its.length 0 lo)).toArray:=by
 obtain⟨h1,h2,h3⟩:=nR lo hi its.toArray.size;unfold slicePick;rw[h1,h2,h3];simp only[sliceRange_one,pick_run,vG]<;>rfl
def GG (K:Frag):V->Option Int->Option Int->Hp->VK->Prop:=λx lo hi H Q=>∃a xs,x=.ref a/\eN K H a xs/\∀p,H p=none->Q (.ref p) (upd H p (.lst (ma xs lo hi)))
theorem zu:v0 X (GG X.K):=by
 intro aa s σ H x v vl vu lo hi sl Q I rx hs pl pu h;obtain⟨a,xs,rfl,hx,q⟩:=h;cases rx
 obtain⟨its,r,ht,hz⟩:=I.list hx;have bp:=r.length;refine⟨"list",_,slot_list_getitem.lookup,ht.isList.typeIs,?_⟩;refine wpAny_getItem_list_slice ht.isList hs pl pu .none (by simp) ?_ (by rw[vG]<;>omega)
 rw[me,←bp];refine⟨.ref s.heap.objs.size,_,I.laid (t':=s.toks) (o:=.lst (ma xs lo hi)) (λb ob q=>vZ _ q) (vT _) ?_,rfl,q _ (I.hok.fresh (vT _))⟩;exact⟨vR (jK xs lo hi) hz,_,0,(r.drop (HT.bV xs.length 0 lo)).take (HT.bV xs.length xs.length hi - HT.bV xs.length 0 lo),vY _ rfl⟩
noncomputable def gW:V->Bool
 |.non=>true
 |.bl _=>true
 |.int _=>true
 |.str _=>true
 |_=>false
def yH:V->V->Bool
 |.non,.non=>true
 |.bl a,.bl b=>a == b
 |.bl a,.int b=>(if a then 1 else 0) == b
 |.int a,.bl b=>a == (if b then 1 else 0)
 |.int a,.int b=>a == b
 |.str a,.str b=>a == b
 |_,_=>false
theorem BY (ry:aG y u)(rx:aG x v)(fy:gW y=true)(fx:gW x=true):SeqAt.EqAt A s u v (yH y x):=by
 cases y with
 |non=>
  cases ry
  cases x with
  |non=>cases rx;exact SeqAt.EqAt.same _
  |bl b=>cases rx;exact SeqAt.EqAt.none_bool b
  |int b=>obtain⟨t,rfl⟩:=rx;exact SeqAt.EqAt.none_int b t
  |str b=>obtain⟨t,rfl⟩:=rx;exact SeqAt.EqAt.none_str b t
  |_=>exact absurd (show false=true from fx) uX
 |bl a=>
  cases ry
  cases x with
  |non=>cases rx;exact SeqAt.EqAt.bool_none a
  |bl b=>cases rx;exact SeqAt.EqAt.bool_bool a b
  |int b=>obtain⟨t,rfl⟩:=rx;exact SeqAt.EqAt.bool_int a b t
  |str b=>obtain⟨t,rfl⟩:=rx;exact SeqAt.EqAt.bool_str a b t
  |_=>exact absurd (show false=true from fx) uX
 |int a=>
  obtain⟨t',rfl⟩:=ry;cases x with
  |non=>cases rx;exact SeqAt.EqAt.int_none a t'
  |bl b=>cases rx;exact SeqAt.EqAt.int_bool a t' b
  |int b=>obtain⟨t,rfl⟩:=rx;exact SeqAt.EqAt.int_int a t' b t
  |str b=>obtain⟨t,rfl⟩:=rx;exact SeqAt.EqAt.int_str a t' b t
  |_=>exact absurd (show false=true from fx) uX
 |str a=>
  obtain⟨t',rfl⟩:=ry;cases x with
  |non=>cases rx;exact SeqAt.EqAt.str_none a t'
  |bl b=>cases rx;exact SeqAt.EqAt.str_bool a t' b
  |int b=>obtain⟨t,rfl⟩:=rx;exact SeqAt.EqAt.str_int a t' b t
  |str b=>obtain⟨t,rfl⟩:=rx;exact SeqAt.EqAt.str_str a t' b t
  |_=>exact absurd (show false=true from fx) uX
 |_=>exact absurd (show false=true from fy) uX
def zv (x:V)(u:Value):Bool:=match u with
 |.none=>yH .non x
 |.bool b=>yH (.bl b) x
 |.int i _=>yH (.int i) x
 |.str z _=>yH (.str z) x
 |_=>false
theorem w5 (r:aG y u)(f:gW y=true):zv x u=yH y x:=by
 cases y with
 |non=>cases r;rfl
 |bl b=>cases r;rfl
 |int i=>obtain⟨t,rfl⟩:=r;rfl
 |str z=>obtain⟨t,rfl⟩:=r;rfl
 |_=>exact absurd (show false=true from f) uX
theorem nU:∀ {xs:List V}{us:List Value},a9 xs us->xs.all gW=true->us.any (zv x)=xs.any λy=>yH y x
 |_,_,.nil,_=>rfl
 |y::xs,u::us,.cons r t,f=>by
  rw[List.all_cons,vC]at f;rw[List.any_cons,List.any_cons,w5 r f.1,nU t f.2]
theorem kK (rx:aG x v)(fx:gW x=true):∀ {xs:List V}{us:List Value},a9 xs us->xs.all gW=true->∀u∈us,SeqAt.EqAt A s u v (zv x u)
 |_,_,.nil,_=>λu hu=>by cases hu
 |y::xs,u::us,.cons r t,f=>λu' hu=>by
  rw[List.all_cons,vC]at f;rcases vP hu with rfl|hu
  ·rw[w5 r f.1];exact BY r rx f.1 fx
  ·exact kK rx fx t f.2 u' hu
noncomputable def FU (x:V)(xs:List V):Bool:=xs.any λy=>yH y x
def Kv (K:Frag)(A3:Bool):R2:=λx y H Q=>∃p xs,y=.ref p/\(eN K H p xs∨eZ K H p xs)/\gW x=true/\xs.all gW=true/\Q (.bl (if A3 then !FU x xs else FU x xs)) H
theorem uk:bW X (compareOp .In) (Kv X.K false):=by
 intro aa s σ H x y v u Q I rx ry h;obtain⟨p,xs,rfl,hq,fx,fs,q⟩:=h;cases ry
 rcases hq with hq|hq
 ·obtain⟨its,r,pl,hz⟩:=I.list hq;refine SeqAt.in_listAt (zv x) pl.isList (λw hw=>kK rx fx r fs w (by simpa using hw)) ⟨.bl _,H,I,rfl,?_⟩;rw[show its.toArray.any (zv x)=its.any (zv x) by simp,nU r fs];exact q
 ·obtain⟨its,r,pl,hz⟩:=I.tuple hq;refine SeqAt.in_tupleAt (zv x) pl (λw hw=>kK rx fx r fs w (by simpa using hw)) ⟨.bl _,H,I,rfl,?_⟩;rw[show its.toArray.any (zv x)=its.any (zv x) by simp,nU r fs];exact q
theorem nV:b7 X (.builtin "len") (λxs H Q=>∃p ys,xs=[.ref p]/\(eN X.K H p ys∨eZ X.K H p ys)/\Q (.int ys.length) H):=by
 intro aa s σ H xs us Q I r h;obtain⟨p,ys,rfl,hq,q⟩:=h;obtain⟨u,rfl,rx⟩:=iL r;cases rx
 have hn:=j5;rcases hq with hq|hq
 ·obtain⟨its,r',pl,hz⟩:=I.list hq;have bp:=r'.length;exact Calls.call_len_list pl.isList (by simp only[vG]<;>omega) ⟨.int ys.length,H,I.tok _,⟨s.toks+1,by rw[vG,bp]⟩,q⟩
 ·obtain⟨its,r',pl,hz⟩:=I.tuple hq;have bp:=r'.length;exact len_tuple pl (by simp only[vG]<;>omega) ⟨.int ys.length,H,I.tok _,⟨s.toks+1,by rw[vG,bp]⟩,q⟩
theorem nW:b7 X (.builtin "len") (λxs H Q=>∃z,xs=[.str z]/\z.length<=sizeLine/\Q (.int z.length) H):=by
 intro aa s σ H xs us Q I r h;obtain⟨z,rfl,hz,q⟩:=h;obtain⟨u,rfl,t,rfl⟩:=iL r;have hn:=j5;exact len_str (by omega) ⟨.int z.length,H,I.tok _,⟨_,rfl⟩,q⟩
theorem b7.or (h:b7 X f r)(h':b7 X f r'):b7 X f (λxs H Q=>r xs H Q∨r' xs H Q):=by
 intro aa s σ H xs us Q I rs q;rcases q with q|q
 ·exact h aa s σ H xs us Q I rs q
 ·exact h' aa s σ H xs us Q I rs q
theorem nX:b7 X (.type "list") (λxs H Q=>∃p ys,xs=[.ref p]/\(eN X.K H p ys∨eZ X.K H p ys)/\∀l,H l=none->Q (.ref l) (upd H l (.lst ys))):=by
 intro aa s σ H xs us Q I r h;obtain⟨p,ys,rfl,hq,q⟩:=h;obtain⟨u,rfl,rx⟩:=iL r;cases rx
 have fin:∀(its:List Value),a9 ys its->ys.length<=sizeLine->∀(h':Heap)(c':Nat),(∀b o',s.heap.get? b=some o'->h'.get? b=some o') ->
   h'.get? s.heap.objs.size=some { cls:=.type "list",dict:=none,data:=.seq its.toArray c',slots:=#[] }->EP X aa σ Q (.ref s.heap.objs.size) { s with heap:=h' }:=λits r' hz h' c' kp e=>
  ⟨.ref s.heap.objs.size,_,I.laid (t':=s.toks) kp (vT _) (show bC X.prog X.w _ h' _ (.lst ys)from ⟨hz,its,c',r',e⟩),rfl,q _ (I.hok.fresh (vT _))⟩
 rcases hq with hq|hq
 ·obtain⟨its,r',pl,hz⟩:=I.list hq;have bp:=r'.length;obtain⟨o,ho,hc,n,hd⟩:=pl.isList;exact call_list_seq p (.inl rfl) ho hc hd (λh' c' kp e=>fin its r' hz h' c' kp e) (by simp only[vG]<;>omega)
 ·obtain⟨its,r',pl,hz⟩:=I.tuple hq;have bp:=r'.length;obtain⟨o,ho,hc,n,hd⟩:=pl;exact call_list_seq p (.inr rfl) ho hc hd (λh' c' kp e=>fin its r' hz h' c' kp e) (by simp only[vG]<;>omega)
theorem mf:b7 X (.type "tuple") (λxs H Q=>∃p ys,xs=[.ref p]/\((eN X.K H p ys/\∀l,H l=none->Q (.ref l) (upd H l (.tup ys)))∨(eZ X.K H p ys/\Q (.ref p) H))):=by
 intro aa s σ H xs us Q I r h;obtain⟨p,ys,rfl,h⟩:=h;obtain⟨u,rfl,rx⟩:=iL r;cases rx
 rcases h with⟨hq,q⟩|⟨hq,q⟩
 ·obtain⟨its,r',pl,hz⟩:=I.list hq;have bp:=r'.length;refine call_tuple_list pl.isList (λh' kp=>?_) (by simp only[vG]<;>omega)
  have I1:Inv X aa σ H { s with heap:=h' }:=I.kept (t':=s.toks) kp;have I2:Inv X aa σ (upd H h'.objs.size (.tup ys)) { s with heap:=h'.push { cls:=.type "tuple",data:=.seq its.toArray } } :=
   I1.laid (t':=s.toks) (λb o e=>vZ _ e) (vT _) (show bC X.prog X.w _ _ _ (.tup ys)from ⟨hz,its,r',IsTup.new _ _⟩)
  exact⟨.ref h'.objs.size,_,I2,rfl,q _ (I1.hok.fresh (vT _))⟩
 ·obtain⟨its,r',pl,hz⟩:=I.tuple hq;exact call_tuple_same pl ⟨.ref p,H,I,rfl,q⟩
def GH (K:Frag)(T:String)(x:V)(H:Hp):Prop:=match x with
 |.str _=>T = "str"
 |.int _=>T = "int"
 |.ref p=>(T = "list"/\∃xs,eN K H p xs)∨(T = "tuple"/\∃o,K.lookup p=some o/\o.cls=.type "tuple"/\o.dict=none) ∨
   (T = "dict"/\((∃aZ ob,H p=some (.dK aZ ob))∨∃aZ,H p=some (.dT aZ)))∨(T = "set"/\∃S n,H p=some (.set S n))
 |_=>False
theorem w6 (I:Inv X aa σ H s)(r:aG x v)(ty:GH X.K T x H):
  s.TypeIs v T/\∀a,v=.ref a->∃ob,s.heap.get? a=some ob/\ob.dict=none:=by
 cases x with
 |str z=>
  obtain⟨t,rfl⟩:=r;cases (show T = "str" from ty)
  exact⟨typeIs_str s z t,λ_ e=>nomatch e⟩
 |int i=>
  obtain⟨t,rfl⟩:=r;cases (show T = "int" from ty)
  exact⟨typeIs_int s i t,λ_ e=>nomatch e⟩
 |ref p=>
  cases r
  rcases ty with⟨rfl,xs,hq⟩|⟨rfl,o,hk,hc,hd⟩|⟨rfl,hk⟩|⟨rfl,S,n,hk⟩
  ·obtain⟨its,_,pl,_⟩:=I.list hq;refine⟨pl.isList.typeIs,λa e=>?_⟩;cases e
   obtain⟨o,n,e,c,hd,_⟩:=pl;exact⟨o,e,hd⟩
  ·refine⟨⟨o,I.kIn p o hk,hc⟩,λa e=>?_⟩;cases e
   exact⟨o,I.kIn _ o hk,hd⟩
  ·have z:∃o,s.heap.get? p=some o/\o.ExactDict:=by
    rcases hk with⟨aZ,KR,hk⟩|⟨aZ,hk⟩
    ·obtain⟨_,_,_,_,_,o,_,_,e,ex,_⟩:=I.hok p _ hk;exact⟨o,e,ex⟩
    ·obtain⟨_,_,_,_,o,_,_,e,ex,_⟩:=I.hok p _ hk;exact⟨o,e,ex⟩
   obtain⟨o,e,ex⟩:=z;refine⟨⟨o,e,ex.1⟩,λa e2=>?_⟩;cases e2
   exact⟨o,e,ex.2.1⟩
  ·obtain⟨o,_,_,_,e,ex,_⟩:=I.hok p _ hk;refine⟨⟨o,e,ex.1⟩,λa e2=>?_⟩;cases e2
   exact⟨o,e,ex.2.1⟩
 |_=>exact False.elim ty
def GI (K:Frag)(T:String)(r:V->List V->Hp->VK->Prop)(to:TE):TE:=λσ H Q=>to σ H λx H1=>GH K T x H1/\r x [] H1 Q
def Kw (K:Frag)(T:String)(r:V->List V->Hp->VK->Prop)(to:TE)(t:TA):TE:=λσ H Q=>to σ H λx H1=>GH K T x H1/\t σ H1 λxs H2=>r x xs H2 Q
variable {o e:Expr}{es:List Expr}{to:TE}{t:TA}{name:Str}{dI c6:Pos}{T id:String}{r:V->List V->Hp->VK->Prop}
theorem BZ (pa:PlainAttrs T)(slot:Slot T name id)(yR:typeOf (.builtin id)=pure (.type "method_descriptor"))(hm:yG X id r)(ho:PE X o to)
  (fG:attributeBase o name X.env (eval o X.env)=eval o X.env:=by rfl) (fH:(dI.endLine == c6.line)=true:=by rfl):PE X (.Call (.Attribute o name dI) [] [] c6) (GI X.K T r to):=by
 intro aa s σ H Q I h;refine wpAny_Call_method0_late fG fH (bG (ho aa s σ H _ I h) λv s1 ⟨x,H1,I1,r1,ty,q1⟩=>?_);obtain⟨h1,h2⟩:=w6 I1 r1 ty;exact⟨T,id,pa,slot,yR,h1,h2,Calls.callWith_builtin rfl (PySem.evalArgs_none (hm aa s1 σ H1 x [] v [] Q I1 r1 .nil q1))⟩
theorem sD (pa:PlainAttrs T)(slot:Slot T name id)(yR:typeOf (.builtin id)=pure (.type "method_descriptor"))(hm:yG X id r)(ho:PE X o to)(ha:PA X (e::es) t)
  (fG:attributeBase o name X.env (eval o X.env)=eval o X.env:=by rfl)
  (oI:((backTo c6 (starEach (e::es) X.env)).all (λx=>!x.1) && (backToKw c6 (keywordEach [] X.env)).all (λx=>x.1.isSome)
   && decide ((e::es).length+([]:List Keyword).length+(if([]:List Keyword).isEmpty then 0 else 1)<30))=true:=by rfl)
  (fH:(dI.endLine == c6.line)=true:=by rfl) (hs:starEach (e::es) X.env=(false,eval e X.env)::starEach es X.env:=by rfl) (CN:(backTo c6 (starEach es X.env)).any (·.1)=false:=by rfl):
  PE X (.Call (.Attribute o name dI) (e::es) [] c6) (Kw X.K T r to t):=by
 intro aa s σ H Q I h;refine wpAny_Call_method_late fG oI fH rfl (bG (ho aa s σ H _ I h) λv s1 ⟨x,H1,I1,r1,ty,q1⟩=>?_);obtain⟨h1,h2⟩:=w6 I1 r1 ty;refine⟨T,id,pa,slot,yR,h1,h2,?_⟩;have hA:=ha c6 aa s1 σ H1 _ I1 q1;rw[hs]at hA ⊢;refine Calls.callWith_builtin (by show(false || (backTo c6 (starEach es X.env)).any (·.1))=false;rw[CN]<;>rfl) (Calls.evalArgs_plain ?_)
 exact bG hA λus s2 ⟨vs,H2,I2,r2,q2⟩=>hm aa s2 σ H2 x vs v us Q I2 r1 r2 q2
/- xs.append(e),list.index on a module's tuple .. are yG facts of 06m -/
end
def FV (X:Cx)(id:String)(r:V->List V->Hp->VK->Prop):Prop :=
 ∀(aa:List (Addr×Obj))(s:Shared)(σ:St)(H:Hp)(x:V)(xs:List V)(v:Value)(us:List Value)(Q:VK),Inv X aa σ H s->aG x v->a9 xs us->r x xs H Q ->
  wq X (call (.builtin id) (v::us)) (EP X aa σ Q) X.xe s
theorem a9.one {x:V}{us:List Value}(h:a9 [x] us):∃u,us=[u]/\aG x u:=by
 cases h with
 |cons r h=>cases h;exact⟨_,rfl,r⟩
theorem a9.two {x y:V}{us:List Value}(h:a9 [x,y] us):∃u v,us=[u,v]/\aG x u/\aG y v:=by
 cases h with
 |cons r h=>
  obtain⟨v,rfl,q⟩:=a9.one h;exact⟨_,_,rfl,r,q⟩
theorem a9.zero:∀ {us:List Value},a9 [] us->us=[]
 |_,.nil=>rfl
theorem a9.dropLast (h:a9 xs us):a9 xs.dropLast us.dropLast:=by
 induction h with
 |nil=>exact .nil
 |cons r t ih=>
  cases t with
  |nil=>exact .nil
  |cons q t'=>exact .cons r ih
theorem a9.eraseIdx:∀ {xs:List V}{us:List Value}(i:Nat),a9 xs us->a9 (xs.eraseIdx i) (us.eraseIdx i)
 |_,_,_,.nil=>.nil
 |_,_,0,.cons _ t=>t
 |_,_,i+1,.cons r t=>.cons r (a9.eraseIdx i t)
theorem a9.reverse (h:a9 xs us):a9 xs.reverse us.reverse:=by
 induction h with
 |nil=>exact .nil
 |cons r t ih=>rw[List.reverse_cons,List.reverse_cons];exact a9.append ih (.cons r .nil)
theorem qU {α:Type}(l:List α):l.eraseIdx (l.length - 1)=l.dropLast:=by
 induction l with
 |nil=>rfl
 |cons a r ih=>
  cases r with
  |nil=>rfl
  |cons b r=>
   have e:(a::b::r).length - 1=((b::r).length - 1)+1:=by
    have h1:(a::b::r).length=r.length+2:=rfl;have h2:(b::r).length=r.length+1:=rfl;omega
   rw[e,List.eraseIdx_cons_succ,ih]
   all_goals rfl
section
variable {X:Cx}{aa:List (Addr×Obj)}{σ:St}{H:Hp}{s:Shared}{l b:Addr}{xs ys zs:List V}
theorem Inv.lset {its its':List Value}{n:Nat}{f:Array Value->Array Value}{t':Nat}(I:Inv X aa σ H s)(hH:H l=some (.lst xs))
  (e:s.heap.get? l=some { cls:=.type "list",data:=.seq its.toArray n }) (hf:f its.toArray=its'.toArray) (hv:a9 ys its') (hz:ys.length<=sizeLine):
  Inv X aa σ (upd H l (.lst ys)) { s with heap:=s.heap.update l (Obj.mapSeq f),toks:=t' }:=by
 have q:=PySem.IsL.update e f;rw[hf]at q;refine I.write (x:=l) (e:=l) (by rw[hH];exact trivial) (.inl rfl) (λb' u hb hu=>(Heap.get?_update_other s.heap (Obj.mapSeq f) (Ne.symm hb)).trans hu) ⟨_,q⟩ ?_;exact⟨hz,its',_,hv,q⟩
theorem Inv.lnew (I:Inv X aa σ H s)(hv:a9 ys its)(hz:ys.length<=sizeLine):
  Inv X aa σ (upd H s.heap.objs.size (.lst ys)) { s with heap:=s.heap.push { cls:=.type "list",data:=.seq its.toArray },toks:=t' } :=
 I.laid (λ_ _ q=>vZ _ q) (vT _) ⟨hz,its,0,hv,vY _ rfl⟩
theorem Inv.fresh (I:Inv X aa σ H s):H s.heap.objs.size=none:=I.hok.fresh (vT _)
theorem Inv.lstM (I:Inv X aa σ H s)(hH:H l=some (.lst xs)):xs.length<=sizeLine/\∃(its:List Value)(n:Nat),a9 xs its/\xs.length=its.length/\s.heap.get? l=some { cls:=.type "list",data:=.seq its.toArray n }:=by
 obtain⟨z,its,n,r,e⟩:=I.hok l _ hH;exact⟨z,its,n,r,r.length,e⟩
theorem w9 (h:n<=sizeLine):Builtin.List.listTooLong n=false:=by
 unfold Builtin.List.listTooLong;exact decide_eq_false (by omega)
end
section
variable {X:Cx}
def sE:V->List V->Hp->VK->Prop:=λx vs H Q=>∃l xs y,x=.ref l/\vs=[y]/\H l=some (.lst xs)/\xs.length<sizeLine/\Q .non (upd H l (.lst (xs++[y])))
theorem mI:FV X "list.append" sE:=by
 intro aa s σ H x vs v us Q I rx rv h;obtain⟨l,xs,y,rfl,rfl,hH,hz,q⟩:=h;cases rx
 obtain⟨u,rfl,ru⟩:=rv.one;obtain⟨z,its,n,r,hl,e⟩:=I.lstM hH;refine call_meets F.slot_list_append ⟨_,e,rfl⟩ F.entry_list_append (F.args_list_append_2 _ _) (PySem.list_append l its.toArray n u (by rw[vG];omega)) ⟨e,?_⟩;refine⟨.non,_,I.lset (its':=its++[u]) hH e (by simp) (r.append (.cons ru .nil)) ?_,rfl,q⟩;rw[uZ,List.length_singleton];omega
def zw:V->List V->Hp->VK->Prop:=λx vs H Q=>∃l b xs zs,x=.ref l/\vs=[.ref b]/\H l=some (.lst xs)/\H b=some (.lst zs)/\xs.length+zs.length<=sizeLine/\Q .non (upd H l (.lst (xs++zs)))
theorem ul:FV X "list.extend" zw:=by
 intro aa s σ H x vs v us Q I rx rv h;obtain⟨l,b,xs,zs,rfl,rfl,hH,hB,hz,q⟩:=h;cases rx
 obtain⟨u,rfl,ru⟩:=rv.one;cases ru
 obtain⟨z,its,n,r,hl,e⟩:=I.lstM hH;obtain⟨z2,vo,n2,r2,EY,e2⟩:=I.lstM hB;have hsz:its.toArray.size+vo.toArray.size<=sizeLine:=by rw[vG,vG];omega
 have EZ:¬(!its.toArray.isEmpty && Builtin.List.listTooLong (its.toArray.size+vo.toArray.size))=true:=by
  rw[w9 hsz,Bool.and_false];exact uX
 refine call_meets F.slot_list_extend ⟨_,e,rfl⟩ F.entry_list_extend (F.args_list_extend_2 _ _)
  (AutoSeq1.list_extend_list_list_0 l its.toArray n b vo.toArray n2 EZ (by rw[vG];omega) (by omega)) ⟨e,e2,?_⟩
 refine⟨.non,_,I.lset (its':=its++vo) hH e (by simp) (r.append r2) ?_,rfl,q⟩;rw[uZ];omega
def GJ:V->List V->Hp->VK->Prop:=λx vs H Q=>∃l xs y,x=.ref l/\vs=[]/\H l=some (.lst xs)/\xs[xs.length - 1]? = some y/\Q y (upd H l (.lst xs.dropLast))
theorem GK:FV X "list.pop" GJ:=by
 intro aa s σ H x vs v us Q I rx rv h;obtain⟨l,xs,y,rfl,rfl,hH,hy,q⟩:=h;cases rx
 have HA:=rv.zero;subst HA;obtain⟨z,its,n,r,hl,e⟩:=I.lstM hH;obtain⟨u,hu,ru⟩:=r.get hy;have Lc:its.toArray[its.toArray.size - 1]? = some u:=by
  show its.toArray[its.length - 1]? = some u;rw[←Array.getElem?_toList,←hl];exact hu
 refine call_meets F.slot_list_pop ⟨_,e,rfl⟩ F.entry_list_pop (F.args_list_pop_1 _) (MeetsSeq.list_pop_last l its.toArray n u Lc (by rw[vG];omega)) ⟨e,?_⟩;refine⟨y,_,I.lset (its':=its.dropLast) hH e ?_ r.dropLast ?_,ru,q⟩
 ·show its.toArray.eraseIdxIfInBounds (its.toArray.size - 1)=its.dropLast.toArray;rw[vG,List.eraseIdxIfInBounds_toArray,qU]
 ·rw[List.length_dropLast];omega
def wA:V->List V->Hp->VK->Prop:=λx vs H Q=>∃l xs,x=.ref l/\vs=[]/\H l=some (.lst xs)/\Q .non (upd H l (.lst xs.reverse))
theorem qV:FV X "list.reverse" wA:=by
 intro aa s σ H x vs v us Q I rx rv h;obtain⟨l,xs,rfl,rfl,hH,q⟩:=h;cases rx
 have HA:=rv.zero;subst HA;obtain⟨z,its,n,r,hl,e⟩:=I.lstM hH;refine call_meets F.slot_list_reverse ⟨_,e,rfl⟩ F.entry_list_reverse (F.args_list_reverse_1 _) (AutoSeq1.list_reverse_list_0 l its.toArray n (by rw[vG];omega)) ⟨e,?_⟩;refine⟨.non,_,I.lset (its':=its.reverse) hH e (by simp) r.reverse ?_,rfl,q⟩;rw[List.length_reverse];omega
end
end L2
namespace Att
open PySem PySem.W PySem.Calls PyProof.Rows
theorem kg:∀(ns:List Int)(vs:List Value),WellAll P h vs (ns.map WData.int)->IntsAre vs ns:=by
 intro ns;induction ns with
 |nil=>
  intro vs w;rw[List.map_nil]at w;cases w
  exact .nil
 |cons n ns ih=>
  intro vs w;rw[List.map_cons]at w;cases w with
  |cons a b=>
   cases a
   exact .cons _ _ (ih _ b)
theorem um {l:OpenLaw}{n:Nat}(hn:l.most=some n){P:Params}{h:Heap}{args:List WData}{vals:List Value}
  (qE:l.row.toRowW.claim.pre args=true) (HB:WellAll P h vals args):
  ∃a vs ns,vals=[Value.ref a]/\args=[WData.list (ns.map WData.int)]/\h.get? a=some { cls:=.type "list",data:=.seq vs.toArray }/\IntsAre vs ns/\ns.length<=n:=by
 have HC:WShape.hasAll [] args [.list .int]=true:=(pre_splitW qE).1;have hc:l.pre.holds [] { args:=args }=true:=(pre_splitW qE).2;obtain⟨d,r,rfl,h1,h2⟩:=hasAllW_cons HC;obtain rfl:=hasAllW_nil h2;obtain⟨xs,rfl,h3⟩:=hasW_list h1;obtain⟨ns,rfl⟩:=items_int h3;have bp:ns.length<=n:=by
  unfold OpenLaw.pre at hc;have h4:(WTm.not (.lt (.lit (.int (n:Int))) (.len (.arg 0)))).holds [] { args:=[.list (ns.map .int)] }=true:=by
   have h4:=(holds_andW hc).1;rw[hn]at h4;exact h4
  have h5:=condW_of h4 (w_not (w_lt w_lit (w_len_list (w_arg rfl))));rw[vH]at h5;refine Nat.le_of_not_lt λq=>?_;have q':(n:Int)<((ns.length:Nat):Int):=by omega
  first
   | (rw[decide_eq_true q']at h5;exact absurd h5 (by decide))
   | (simp at h5;omega)
 cases HB with
 |cons w1 w2=>
  cases w2
  cases w1 with
  |list ho lS=>exact⟨_,_,ns,rfl,rfl,ho,kg ns _ lS,bp⟩
theorem uo (l:OpenLaw)(args:List WData):l.row.toRowW.claim.post args (.bool true) args=true :=
 postW_of (r:=l.row.toRowW) (X:=(true == true))
  (show WShape.has [] (.bool true) .bool=true by first|rfl|decide|simp[WShape.has,WShape.arms,WShape.armsAll])
  (show(WTm.eq .res (.lit (.bool true))).value [] { args:=args,res:=some (.bool true),after:=args }=some (.bool (true == true))from w_eq_bool (w_res rfl) w_lit) rfl
section
variable {prog:Program}{w:World}{A:Around}{E:Value->Shared->Prop}{s:Shared}{K:Frag}
theorem Eg 
  (X:K.In s.heap) (hm:makesIn K C=true) (hi:findIn K (.ref C) "__init__" = some (some (.ref fI))) (hf:isFn K (.ref fI)=true)
  (h:codeAny (model prog w) (A.under (.builtin "type.__call__" ⟨.ref C::rest,kw⟩)) (.call (.ref fI) ⟨.ref (s.heap.objs.size+1)::rest,kw⟩) (InitBack (s.heap.objs.size+1) R)
   { s with heap:=(s.heap.push emptyDict).push (instObj C s.heap.objs.size) }):codeAny (model prog w) A (.call (.ref C) ⟨rest,kw⟩) R s:=by
 obtain⟨hh,g,d,t,os⟩:=s;exact make_core (makes_of X hm) (looks_findIn X hi) (λself=>bind_fn X self (beq_iff_eq.mp hf)) (.inl rfl) h
theorem Di 
  (X:K.In s.heap) (I:PySem.W.InstAt s.heap x ox C (some (dictOf es n))) (hg:plainGet K C name=true) (hh:hasDictIn K C=true) (ha:findIn K (.ref C) name=some none)
  (hl:getL name es=some (some v)) (hv:handedIn v=true) (h:Q v { s with toks:=s.toks+1 }):wpAny (model prog w) A (getAttr (.ref x) name expr) Q E s :=
 get_value X I (plainGet_of hg).1 (findObj_own hh ha rfl hl) hv h
def GL (h:Heap)(L d:Addr):List (Addr×Obj):=(List.range h.objs.size).filterMap λa=>if a=L∨a=d then none else (h.get? a).map λo=>(a,o)
end
end Att
namespace L2
open PySem PySem.Spec PyProof.Rows
theorem fj:∀ {vs:List Value}{ns:List Int},IntsAre vs ns->a9 (ns.map V.int) vs
 |_,_,.nil=>.nil
 |_,_,.cons n t h=>.cons ⟨t,rfl⟩ (fj h)
noncomputable def cR (s:Stmt):Arguments:=match s with
 |.FunctionDef _ a _ _ _ _ _ _ _ _=>a
 |_=>{ posonlyargs:=[],args:=[],vararg:=none,kwonlyargs:=[],kw_defaults:=[],kwarg:=none,defaults:=[] }
noncomputable def bD (s:Stmt):List Stmt:=match s with
 |.FunctionDef _ _ b _ _ _ _ _ _ _=>b
 |_=>[]
noncomputable def ax (s:Stmt):Scope:=match s with
 |.FunctionDef _ _ _ _ _ _ sc _ _ _=>sc
 |_=>{ kind:=.function,names:=[],isGenerator:=false,isCoroutine:=false }
abbrev qW:zh:=λ_ _ _ _ _ _=>False
abbrev E0:XK:=λ_ _ _=>False
theorem Eh:qP qW X E0:=λ_ _ _ _ _ _ _ h=>h.elim
structure CO (K:Frag)(x qual:Str)(st:Stmt)(f:Addr)(fd:FuncData):Prop where
 ex:∃(oc:Value)(od:Option Addr)(kV doc pm:Value)(an:Option Addr)(cw ct:Value)(lZ:Array (Option Value)),
  fd=fnOf x qual (cR st) (bD st) (ax st) .none kV doc pm an cw ct/\K.lookup f=some ⟨oc,od,.func fd,lZ⟩/\PySem.W.codeIn K cw qual=true
 kp:PySem.W.keepIn K (.ref f)=true
section
variable {P:Program}{w:World}{K:Frag}{mg:Str->Option Value}{base:Heap}
theorem CO.ok {x qual:Str}{st:Stmt}{f:Addr}{fd:FuncData}{N ps:List Str}{k:Nat}{sp:Sp}(F:CO K x qual st f fd)(S:FnScope N ps (ax st))(len:∀vs H Q E,sp vs H Q E->vs.length=ps.length)
  (y7:∀(cw:Value)(A:Around)(outer:List Env)(s:Shared)(H:Hp)(vs:List V)(Q:VK)(E:XK),dr k (A.deeper (envOfC qual (ax st) s.heap.objs.size f cw))->sp vs H Q E ->
   ∃t,nN (ke qW P w K mg base N qual (ax st) f cw A outer s H E).nox (bD st) t/\t { nx:=λ_ H'=>Q .non H',rt:=Q } (gf N vs) H):jJ P w K mg base qW (k+1) f fd ps sp:=by
 obtain⟨oc,od,kV,doc,pm,an,cw,ct,lZ,rfl,lk,jZ⟩:=F.ex;refine AI lk jZ S len λA outer s H vs Q E hr Dz=>?_;obtain⟨t,h,q⟩:=y7 cw A outer s H vs Q E hr Dz;exact⟨t,h.nox,q⟩
theorem CO.binds {x qual:Str}{st:Stmt}{f:Addr}{fd:FuncData}{ps:List Str}(F:CO K x qual st f fd)
  (h:∀(kV doc pm:Value)(an:Option Addr)(cw ct:Value)(us:List Value),us.length=ps.length->bindArgs (fnOf x qual (cR st) (bD st) (ax st) .none kV doc pm an cw ct) ⟨us,[]⟩=pure (ps.zip us)):mC K fd ps []:=by
 obtain⟨oc,od,kV,doc,pm,an,cw,ct,lZ,rfl,lk,jZ⟩:=F.ex;exact .all (h kV doc pm an cw ct)
theorem Ca {x qual:Str}{st:Stmt}{f:Addr}{oc:Value}{od an:Option Addr}{lZ:Array (Option Value)}{kV doc pm cw ct:Value}(l:K.lookup f=some ⟨oc,od,.func (fnOf x qual (cR st) (bD st) (ax st) .none kV doc pm an cw ct),lZ⟩)
  (c:PySem.W.codeIn K cw qual=true) (k:PySem.W.keepIn K (.ref f)=true):CO K x qual st f (fnOf x qual (cR st) (bD st) (ax st) .none kV doc pm an cw ct):=⟨⟨oc,od,kV,doc,pm,an,cw,ct,lZ,rfl,l,c⟩,k⟩
end
def aF (H H':Hp):Prop:=∀b o,H b=some o->H' b=some o
theorem aF.refl (H:Hp):aF H H:=λ_ _ h=>h
theorem aF.trans (a:aF H H1)(b:aF H1 H2):aF H H2:=λc o h=>b c o (a c o h)
theorem aF.free (e:aF H H')(h:H' l=Option.none):H l=Option.none:=by
 cases q:H l with
 |none=>rfl
 |some o=>
  rw[e l o q]at h;cases h
theorem aF.seq {K:Frag}{H H':Hp}{a:Addr}{xs:List V}(e:aF H H')(h:eN K H a xs):eN K H' a xs:=by
 rcases h with (h|⟨o,h⟩)|h
 ·exact .inl (.inl (e _ _ h))
 ·exact .inl (.inr ⟨o,e _ _ h⟩)
 ·exact .inr h
section
variable {κ:Type}[DecidableEq κ]
noncomputable def Cb (aZ:List (κ×V))(k:κ):Option V:=(aZ.find? λkv=>decide (kv.1=k)).map (·.2)
theorem oP.getD (r:oP o u)(rd:aG d d'):aG (o.getD d) (u.getD d'):=by
 cases o with
 |none=>cases u with
  |none=>exact rd
  |some _=>exact(show False from r).elim
 |some _=>cases u with
  |none=>exact(show False from r).elim
  |some _=>exact r
theorem KV.length (r:KV aZ vs):aZ.length=vs.length:=Paired.length r
end
def Ei (H:Hp)(a:Addr)(y:V)(r:Option V):Prop :=
 (∃aZ k ob,Rd H a (.dK aZ ob)/\y=kV k/\r=Cb aZ k)∨∃aZ k b,Rd H a (.dT aZ)/\y=.ref b/\H b=some (.tup (k.map kV))/\r=Cb aZ k
theorem Ei.t (e:H a=some (.dT aZ))(eb:H b=some (.tup (k.map kV))):Ei H a (.ref b) (Cb aZ k):=.inr ⟨aZ,k,b,.inl e,rfl,eb,rfl⟩
end L2
namespace DL
open PySem L2
set_option linter.all false
abbrev St:=L2.St
inductive D where
 |non|bl (b:Bool)|int (i:Int)|str (x:Str)|ty (n:String)|tup (ds:List D)|lst (ds:List D)
  |dk (ks:List iG) (vs:List D)|dt (ks:List (List iG)) (vs:List D)
abbrev OB:=Option (D×Bool)
mutual
inductive Is (K:Frag)(H:Hp):V->D->Prop where
 |non:Is K H .non .non
 |bl (b:Bool):Is K H (.bl b) (.bl b)
 |int (i:Int):Is K H (.int i) (.int i)
 |str (x:Str):Is K H (.str x) (.str x)
 |ty (n:String):Is K H (.ty n) (.ty n)
 |tup {a:Addr}{vs:List V}{ds:List D}(h:eZ K H a vs) (hs:IsL K H vs ds):Is K H (.ref a) (.tup ds)
 |lst {a:Addr}{vs:List V}{ds:List D}(h:eN K H a vs) (hs:IsL K H vs ds):Is K H (.ref a) (.lst ds)
 |dk {a:Addr}{ks:List iG}{vs:List V}{ds:List D}{ob:Obj}(h:H a=some (.dK (ks.zip vs) ob)) (hl:ks.length=vs.length) (hs:IsL K H vs ds):Is K H (.ref a) (.dk ks ds)
 |dt {a:Addr}{ks:List (List iG)}{vs:List V}{ds:List D}(h:H a=some (.dT (ks.zip vs))) (hl:ks.length=vs.length) (hs:IsL K H vs ds):Is K H (.ref a) (.dt ks ds)
inductive IsL (K:Frag)(H:Hp):List V->List D->Prop where
 |nil:IsL K H [] []
 |cons {v:V}{d:D}{vs:List V}{ds:List D}(h:Is K H v d) (hs:IsL K H vs ds):IsL K H (v::vs) (d::ds)
end
mutual
def aQ:D->Bool
 |.lst _=>false
 |.dk _ _=>false
 |.dt _ _=>false
 |.tup ds=>aV ds
 |_=>true
def aV:List D->Bool
 |[]=>true
 |d::ds=>aQ d && aV ds
end
@[simp] theorem Dj:aQ .non=true:=by simp only[aQ]
@[simp] theorem Ej (b:Bool):aQ (.bl b)=true:=by simp only[aQ]
@[simp] theorem Dk (i:Int):aQ (.int i)=true:=by simp only[aQ]
@[simp] theorem Dl (x:Str):aQ (.str x)=true:=by simp only[aQ]
@[simp] theorem Ek (x:String):aQ (.ty x)=true:=by simp only[aQ]
@[simp] theorem mJ (ds:List D):aQ (.tup ds)=aV ds:=by rw[aQ]
@[simp] theorem Dm (ds:List D):aQ (.lst ds)=false:=by rw[aQ]
@[simp] theorem El (ks:List iG)(ds:List D):aQ (.dk ks ds)=false:=by rw[aQ]
@[simp] theorem Em (ks:List (List iG))(ds:List D):aQ (.dt ks ds)=false:=by rw[aQ]
@[simp] theorem Cc:aV []=true:=by rw[aV]
@[simp] theorem AJ (d:D)(ds:List D):aV (d::ds)=(aQ d && aV ds):=by rw[aV]
section
variable {K:Frag}{H H':Hp}
mutual
theorem Is.keep (hT:∀a vs,eZ K H a vs->eZ K H' a vs)(hL:∀a vs,eN K H a vs->eN K H' a vs)(hK:∀a aZ ob,H a=some (.dK aZ ob)->H' a=some (.dK aZ ob))(hM:∀a aZ,H a=some (.dT aZ)->H' a=some (.dT aZ)):∀ {v:V}{d:D},Is K H v d->Is K H' v d
 |_,_,.non=>.non
 |_,_,.bl b=>.bl b
 |_,_,.int i=>.int i
 |_,_,.str x=>.str x
 |_,_,.ty x=>.ty x
 |_,_,.tup h hs=>.tup (hT _ _ h) (IsL.keep hT hL hK hM hs)
 |_,_,.lst h hs=>.lst (hL _ _ h) (IsL.keep hT hL hK hM hs)
 |_,_,.dk h hl hs=>.dk (hK _ _ _ h) hl (IsL.keep hT hL hK hM hs)
 |_,_,.dt h hl hs=>.dt (hM _ _ h) hl (IsL.keep hT hL hK hM hs)
theorem IsL.keep (hT:∀a vs,eZ K H a vs->eZ K H' a vs)(hL:∀a vs,eN K H a vs->eN K H' a vs)(hK:∀a aZ ob,H a=some (.dK aZ ob)->H' a=some (.dK aZ ob))(hM:∀a aZ,H a=some (.dT aZ)->H' a=some (.dT aZ)):∀ {vs:List V}{ds:List D},IsL K H vs ds->IsL K H' vs ds
 |_,_,.nil=>.nil
 |_,_,.cons h hs=>.cons (Is.keep hT hL hK hM h) (IsL.keep hT hL hK hM hs)
end
mutual
theorem Is.keepT (hT:∀a vs,eZ K H a vs->eZ K H' a vs):∀ {v:V}{d:D},Is K H v d->aQ d=true->Is K H' v d
 |_,_,.non,_=>.non
 |_,_,.bl b,_=>.bl b
 |_,_,.int i,_=>.int i
 |_,_,.str x,_=>.str x
 |_,_,.ty x,_=>.ty x
 |_,_,.tup h hs,n=>.tup (hT _ _ h) (IsL.keepT hT hs (by simpa using n))
 |_,_,.lst h hs,n=>by simp at n
 |_,_,.dk h hl hs,n=>by simp at n
 |_,_,.dt h hl hs,n=>by simp at n
theorem IsL.keepT (hT:∀a vs,eZ K H a vs->eZ K H' a vs):∀ {vs:List V}{ds:List D},IsL K H vs ds->aV ds=true->IsL K H' vs ds
 |_,_,.nil,_=>.nil
 |_,_,.cons h hs,n=>by
  simp at n;exact .cons (Is.keepT hT h n.1) (IsL.keepT hT hs n.2)
end
theorem aK (e:aF H H')(h:eZ K H a xs):eZ K H' a xs:=by
 rcases h with (h|⟨o,h⟩)|h
 ·exact .inl (.inl (e _ _ h))
 ·exact .inl (.inr ⟨o,e _ _ h⟩)
 ·exact .inr h
theorem Is.mono (h:Is K H v d)(e:aF H H'):Is K H' v d:=h.keep (λ_ _=>aK e) (λ_ _=>e.seq) (λ_ _ _ q=>e _ _ q) λ_ _ q=>e _ _ q
theorem IsL.mono (h:IsL K H v d)(e:aF H H'):IsL K H' v d:=h.keep (λ_ _=>aK e) (λ_ _=>e.seq) (λ_ _ _ q=>e _ _ q) λ_ _ q=>e _ _ q
theorem IsL.length:∀ {vs:List V}{ds:List D},IsL K H vs ds->vs.length=ds.length
 |_,_,.nil=>rfl
 |_,_,.cons _ t=>congrArg (· + 1) t.length
theorem IsL.get:∀ {vs:List V}{ds:List D}{i:Nat}{d:D},IsL K H vs ds->ds[i]? = some d->∃v,vs[i]? = some v/\Is K H v d
 |_,_,_,_,.nil,e=>by simp at e
 |_,_,0,_,.cons h _,e=>by simp at e;subst e;exact⟨_,rfl,h⟩
 |_,_,i+1,d,.cons _ t,e=>by
  obtain⟨u,h1,h2⟩:=t.get (i:=i) (d:=d) (by simpa using e);exact⟨u,by simpa using h1,h2⟩
theorem IsL.append:∀ {vs ws:List V}{ds es:List D},IsL K H vs ds->IsL K H ws es->IsL K H (vs++ws) (ds++es)
 |_,_,_,_,.nil,s=>s
 |_,_,_,_,.cons r t,s=>.cons r (t.append s)
theorem IsL.take:∀ {vs:List V}{ds:List D}(n:Nat),IsL K H vs ds->IsL K H (vs.take n) (ds.take n)
 |_,_,0,_=>by simpa using IsL.nil
 |_,_,_+1,.nil=>.nil
 |_,_,n+1,.cons r t=>.cons r (t.take n)
theorem IsL.drop:∀ {vs:List V}{ds:List D}(n:Nat),IsL K H vs ds->IsL K H (vs.drop n) (ds.drop n)
 |_,_,0,r=>r
 |_,_,_+1,.nil=>.nil
 |_,_,n+1,.cons _ t=>t.drop n
theorem IsL.reverse (h:IsL K H vs ds):IsL K H vs.reverse ds.reverse:=by
 cases h with
 |nil=>exact .nil
 |cons r t=>rw[List.reverse_cons,List.reverse_cons];exact t.reverse.append (.cons r .nil)
termination_by vs.length
decreasing_by all_goals simp
theorem IsL.set (h:Is K H v d):∀ {vs:List V}{ds:List D}(i:Nat),IsL K H vs ds->IsL K H (vs.set i v) (ds.set i d)
 |_,_,_,.nil=>.nil
 |_,_,0,.cons _ t=>.cons h t
 |_,_,i+1,.cons r t=>.cons r (IsL.set h i t)
theorem IsL.eraseIdx:∀ {vs:List V}{ds:List D}(i:Nat),IsL K H vs ds->IsL K H (vs.eraseIdx i) (ds.eraseIdx i)
 |_,_,_,.nil=>.nil
 |_,_,0,.cons _ t=>t
 |_,_,i+1,.cons r t=>.cons r (t.eraseIdx i)
theorem IsL.flat {vs:List V}{ns:List Int}(h:vs=ns.map V.int):IsL K H vs (ns.map D.int):=by
 subst h;induction ns with
 |nil=>exact .nil
 |cons n ns ih=>exact .cons (.int n) ih
end
structure Ext (B N H H':Hp):Prop where
 hh:aF H H'
 bn:aF B N
 nh:aF N H'
 new:∀a o,N a=some o->B a=some o∨H a=none
theorem Ext.refl (h:aF B H):Ext B B H H:=⟨.refl _,.refl _,h,λ_ _ e=>.inl e⟩
theorem Ext.trans (x:Ext B N H H1)(y:Ext N N2 H1 H2):Ext B N2 H H2 :=
 ⟨x.hh.trans y.hh,x.bn.trans y.bn,y.nh,λa o e=>(y.new a o e).elim (λq=>x.new a o q) λq=>.inr (x.hh.free q)⟩
theorem Ext.laid (h:aF B H)(hp:H p=none):Ext B (upd B p o) H (upd H p o):=by
 have hB:B p=none:=h.free hp;refine⟨λa u e=>?_,λa u e=>?_,λa u e=>?_,λa u e=>?_⟩
 ·rw[a8 (λq=>by subst q;rw[hp]at e;cases e)];exact e
 ·rw[a8 (λq=>by subst q;rw[hB]at e;cases e)];exact e
 ·by_cases q:a=p
  ·subst q;rw[au]at e ⊢;exact e
  ·rw[a8 q]at e ⊢;exact h _ _ e
 ·by_cases q:a=p
  ·subst q;exact .inr hp
  ·rw[a8 q]at e;exact .inl e
theorem Ext.grow (h:aF B H)(hh:aF H H'):Ext B B H H':=⟨hh,.refl _,h.trans hh,λ_ _ e=>.inl e⟩
abbrev Env:=List OB
abbrev FE:=Env->OB
abbrev FA:=Env->Option (List D)
abbrev FT:=Env->Option Bool
def Dn (K:Frag)(H N:Hp)(v:V)(d:D):Prop:=∃(a:Addr)(vs:List V)(ds:List D),v=.ref a/\d=.lst ds/\H a=none/\N a=some (.lst vs)/\IsL K N vs ds
theorem Dn.back (h:Dn K H' N v d)(e:aF H H'):Dn K H N v d:=let ⟨a,vs,ds,q,y,z,r⟩:=h;⟨a,vs,ds,q,y,e.free z,r⟩
noncomputable def oZ:List Str:=["in_order","has_seal","is_first_death","bases_by","as_heard"]
noncomputable def Cd (x:Str):Str:=x ++ ".<locals>." ++ "<lambda>"
def Tb (K:Frag)(B:Hp):Prop:=∀x∈oZ,∀c P,PySem.W.tabIn K x=some (c,P)->B P=some (.tbl (Cd x))
theorem Tb.mono (h:Tb K B)(e:aF B B'):Tb K B':=λx hx c P q=>e _ _ (h x hx c P q)
structure cQ (K:Frag)(B:Hp)(σ:St)(ρ:Env):Prop where
 tb:Tb K B
 at':∀(i:Nat)(d:D)(b:Bool),ρ[i]? = some (some (d,b))->∃v,σ[i]? = some (some v)/\Is K B v d
theorem cQ.mono (h:cQ K B σ ρ)(e:aF B B'):cQ K B' σ ρ:=⟨h.tb.mono e,λi d b q=>let ⟨v,h1,h2⟩:=h.at' i d b q;⟨v,h1,h2.mono e⟩⟩
def Fin (K:Frag)(B H:Hp)(d:D)(b:Bool)(Q:VK):Prop:=∀(v:V)(H' N:Hp),Ext B N H H'->Is K N v d->(b=true->Dn K H N v d)->Q v H'
def tD (K:Frag)(f:FE):TE:=λσ H Q=>∃(B:Hp)(ρ:Env)(d:D)(b:Bool),aF B H/\cQ K B σ ρ/\f ρ=some (d,b)/\Fin K B H d b Q
def uq (K:Frag)(f:FT):TT:=λσ H Q=>∃(B:Hp)(ρ:Env)(c:Bool),aF B H/\cQ K B σ ρ/\f ρ=some c/\∀H',aF H H'->Q c H'
def En (K:Frag)(f:FA):TA:=λσ H Q=>∃(B:Hp)(ρ:Env)(ds:List D),aF B H/\cQ K B σ ρ/\f ρ=some ds/\∀(vs:List V)(H' N:Hp),Ext B N H H'->IsL K N vs ds->Q vs H'
def rD (K:Frag)(op:D->D->OB):R2:=λx y H Q=>∃(B:Hp)(dx dy d:D)(b:Bool),aF B H/\Is K B x dx/\Is K B y dy/\op dx dy=some (d,b)/\Fin K B H d b Q
def yI (K:Frag)(op:List D->OB):List V->Hp->VK->Prop:=λxs H Q=>∃(B:Hp)(ds:List D)(d:D)(b:Bool),aF B H/\IsL K B xs ds/\op ds=some (d,b)/\Fin K B H d b Q
theorem Fin.one (h:Fin K B H d false Q)(s:aF B H)(i:Is K B v d):Q v H:=h v H B (.refl s) i (by simp)
theorem Fin.into (h:Fin K B H d b Q)(x:Ext B N H H1):Fin K N H1 d b Q:=λv H' N' y i fr=>h v H' N' (x.trans y) i λe=>(fr e).back x.hh
@[simp] noncomputable def fC (d:D):FE:=λ_=>some (d,false)
@[simp] noncomputable def ag (i:Nat):FE:=λρ=>match ρ[i]? with|some (some (d,_))=>some (d,false)|_=>none
@[simp] noncomputable def f2 (op:D->D->OB)(fa fb:FE):FE:=λρ=>(fa ρ).bind λx=>(fb ρ).bind λy=>op x.1 y.1
@[simp] noncomputable def f1 (op:D->OB)(fa:FE):FE:=λρ=>(fa ρ).bind λx=>op x.1
@[simp] noncomputable def ah:FA:=λ_=>some []
@[simp] noncomputable def ae (fa:FE)(fr:FA):FA:=λρ=>(fa ρ).bind λx=>(fr ρ).bind λxs=>some (x.1::xs)
@[simp] noncomputable def fA (op:List D->OB)(fa:FA):FE:=λρ=>(fa ρ).bind op
theorem Ce (h:tD K (ag i) σ H Q):∃v,σ[i]? = some (some v)/\Q v H:=by
 obtain⟨B,ρ,d,b,s,r,e,q⟩:=h;unfold ag at e;split at e
 ·rename_i d' b' e';cases e
  obtain⟨v,h1,h2⟩:=r.at' i _ _ e';exact⟨v,h1,q.one s h2⟩
 ·cases e
theorem zx (h:tD K (f2 op fa fb) σ H Q):tD K fa σ H λx H1=>tD K fb σ H1 λy H2=>rD K op x y H2 Q:=by
 obtain⟨B,ρ,d,b,s,r,e,q⟩:=h;obtain⟨x,ex,e⟩:=oX e;obtain⟨y,ey,e⟩:=oX e;refine⟨B,ρ,x.1,x.2,s,r,ex,λv H1 N x1 i1 _=>⟨N,ρ,y.1,y.2,x1.nh,r.mono x1.bn,ey,λv2 H2 N2 x2 i2 _=>⟨N2,x.1,y.1,d,b,x2.nh,i1.mono x2.bn,i2,e,?_⟩⟩⟩;exact q.into (x1.trans x2)
theorem zy (h:tD K (fA op fa) σ H Q):En K fa σ H λxs H1=>yI K op xs H1 Q:=by
 obtain⟨B,ρ,d,b,s,r,e,q⟩:=h;obtain⟨x,ex,e⟩:=oX e;exact⟨B,ρ,x,s,r,ex,λv H1 N x1 i1=>⟨N,x,d,b,x1.nh,i1,e,q.into x1⟩⟩
theorem z0 (h:En K ah σ H Q):Q [] H:=by
 obtain⟨B,ρ,ds,s,r,e,q⟩:=h;cases e
 exact q [] H B (.refl s) .nil
theorem wB (h:En K (ae fa fr) σ H Q):tD K fa σ H λx H1=>En K fr σ H1 λxs H2=>Q (x::xs) H2:=by
 obtain⟨B,ρ,ds,s,r,e,q⟩:=h;obtain⟨x,ex,e⟩:=oX e;obtain⟨y,ey,e⟩:=oX e;cases e
 exact⟨B,ρ,x.1,x.2,s,r,ex,λv H1 N x1 i1 _=>⟨N,ρ,y,x1.nh,r.mono x1.bn,ey,λvs H2 N2 x2 i2=>q _ H2 N2 (x1.trans x2) (.cons (i1.mono x2.bn) i2)⟩⟩
@[simp] noncomputable def br (f:FE):FT:=λρ=>match f ρ with|some (.bl c,_)=>some c|_=>none
@[simp] noncomputable def gX (f g:FT):FT:=λρ=>match f ρ with|some true=>g ρ|some false=>some false|none=>none
@[simp] noncomputable def cn (f g:FT):FT:=λρ=>match f ρ with|some true=>some true|some false=>g ρ|none=>none
@[simp] noncomputable def bX (f:FT):FT:=λρ=>(f ρ).map (!·)
open Classical in
noncomputable def cr (H:Hp)(P:Addr->Prop):Hp:=λa=>if P a then none else H a
theorem bH (h:¬P a):cr H P a=H a:=by unfold cr;rw[if_neg h]
theorem qX (h:P a):cr H P a=none:=by unfold cr;rw[if_pos h]
theorem kL (h:cr H P a=some o):¬P a/\H a=some o:=by
 by_cases q:P a
 ·rw[qX q]at h;cases h
 ·rw[bH q]at h;exact⟨q,h⟩
theorem bf:aF (cr H P) H:=λ_ _ e=>(kL e).2
theorem cV (e:∀a o,H a=some o->¬P a->H' a=some o/\¬P' a):aF (cr H P) (cr H' P'):=λa o q=>by
 obtain⟨h1,h2⟩:=kL q;obtain⟨h3,h4⟩:=e a o h2 h1;rw[bH h4];exact h3
noncomputable def join (N N':Hp):Hp:=λa=>match N a with|some o=>some o|none=>N' a
theorem c8:aF N (join N N'):=λa o e=>by unfold join;rw[e]
theorem cj (e:N a=none):join N N' a=N' a:=by unfold join;rw[e]
def own (σ:St)(ρ:Env)(a:Addr):Prop:=∃(i:Nat)(d:D),ρ[i]? = some (some (d,true))/\σ[i]? = some (some (V.ref a))
inductive Bx (K:Frag)(C:Hp):HO->D->Prop where
 |lst {vs:List V}{ds:List D}(h:IsL K C vs ds):Bx K C (.lst vs) (.lst ds)
 |dk {ks:List iG}{vs:List V}{ds:List D}(hl:ks.length=vs.length) (h:IsL K C vs ds) {ob:Obj}:Bx K C (.dK (ks.zip vs) ob) (.dk ks ds)
 |dt {ks:List (List iG)}{vs:List V}{ds:List D}(hl:ks.length=vs.length) (h:IsL K C vs ds):Bx K C (.dT (ks.zip vs)) (.dt ks ds)
theorem Bx.mono (h:Bx K C o d)(e:aF C C'):Bx K C' o d:=by
 cases h with
 |lst h=>exact .lst (h.mono e)
 |dk hl h=>exact .dk hl (h.mono e)
 |dt hl h=>exact .dt hl (h.mono e)
theorem Bx.is (h:Bx K C o d)(e:C a=some o):Is K C (.ref a) d:=by
 cases h with
 |lst h=>exact .lst (eN.of e) h
 |dk hl h=>exact .dk e hl h
 |dt hl h=>exact .dt e hl h
structure cx (K:Frag)(B0 H0 N H:Hp)(σ:St)(ρ:Env):Prop where
 bh:aF B0 H0
 tb:Tb K B0
 ext:Ext B0 N H0 H
 len:ρ.length=σ.length
 sh:∀(i:Nat)(d:D),ρ[i]? = some (some (d,false))->∃v,σ[i]? = some (some v)/\Is K (cr N (own σ ρ)) v d
 ow:∀(i:Nat)(d:D),ρ[i]? = some (some (d,true))->∃(a:Addr)(o:HO),σ[i]? = some (some (V.ref a))/\N a=some o/\H0 a=none/\Bx K (cr N (own σ ρ)) o d
 inj:∀(i j:Nat)(a:Addr)(d e:D),ρ[i]? = some (some (d,true))->ρ[j]? = some (some (e,true))->σ[i]? = some (some (V.ref a))->σ[j]? = some (some (V.ref a))->i=j
def qY (K:Frag)(B0 H0 H:Hp)(σ:St)(ρ:Env):Prop:=∃N,cx K B0 H0 N H σ ρ
section
variable {K:Frag}{B0 H0 N H H':Hp}{σ:St}{ρ:Env}
theorem cx.owL (s:cx K B0 H0 N H σ ρ)(i:Nat)(d:D)(q:ρ[i]? = some (some (.lst es,true)))(hd:d=.lst es:=by rfl):∃(a:Addr)(vs:List V)(ds:List D),d=.lst ds/\σ[i]? = some (some (V.ref a))/\N a=some (.lst vs)/\H0 a=none/\IsL K (cr N (own σ ρ)) vs ds:=by
 obtain⟨a,o,h1,h2,h3,h4⟩:=s.ow i _ q;cases h4 with
 |lst h4=>exact⟨a,_,es,hd,h1,h2,h3,h4⟩
def boxed:HO->Prop
 |.lst _|.dK _ _|.dT _=>True
 |_=>False
theorem Bx.boxed (h:Bx K C o d):boxed o:=by cases h<;>exact trivial
theorem cx.owned (s:cx K B0 H0 N H σ ρ)(h:own σ ρ a):∃o,(N a=some o/\boxed o)/\H0 a=none:=by
 obtain⟨i,d,h1,h2⟩:=h;obtain⟨a',o,h3,h4,h5,h6⟩:=s.ow i d h1;rw[h2]at h3;cases h3;exact⟨o,⟨h4,h6.boxed⟩,h5⟩
theorem cx.rep (s:cx K B0 H0 N H σ ρ):cQ K N σ ρ:=⟨s.tb.mono s.ext.bn,λi d b q=>by
 cases b with
 |false=>obtain⟨v,h1,h2⟩:=s.sh i d q;exact⟨v,h1,h2.mono bf⟩
 |true=>
  obtain⟨a,o,h2,h3,_,h4⟩:=s.ow i d q;exact⟨_,h2,(h4.mono bf).is h3⟩⟩
noncomputable def mh (ρ:Env):Env:=ρ.map λx=>match x with|some (d,false)=>some (d,false)|_=>none
theorem wC {i:Nat}{d:D}{b:Bool}(h:(mh ρ)[i]? = some (some (d,b))):b=false/\ρ[i]? = some (some (d,false)):=by
 unfold mh at h;rw[vA]at h;cases e:ρ[i]? with
 |none=>rw[e]at h;cases h
 |some x=>
  rw[e]at h;match x,h with
  |some (d',false),h=>cases h;exact⟨rfl,rfl⟩
  |some (d',true),h=>cases h
  |none,h=>cases h
theorem cx.tbC (s:cx K B0 H0 N H σ ρ):Tb K (cr N (own σ ρ)):=λx hx c P q=>by
 have z:=s.tb.mono s.ext.bn x hx c P q;rw[bH]
 ·exact z
 ·intro y;obtain⟨o,⟨y,yb⟩,_⟩:=s.owned y;rw[z]at y;cases y;exact yb
theorem cx.repH (s:cx K B0 H0 N H σ ρ):cQ K (cr N (own σ ρ)) σ (mh ρ):=⟨s.tbC,λi d b q=>by
 obtain⟨rfl,q2⟩:=wC q;exact s.sh i d q2⟩
theorem cx.grow (s:cx K B0 H0 N H σ ρ)(x:Ext N N' H H'):cx K B0 H0 N' H' σ ρ:=by
 have c:aF (cr N (own σ ρ)) (cr N' (own σ ρ)):=cV λa o e q=>⟨x.bn a o e,q⟩;refine⟨s.bh,s.tb,s.ext.trans x,s.len,λi d q=>?_,λi d q=>?_,s.inj⟩
 ·obtain⟨v,h1,h2⟩:=s.sh i d q;exact⟨v,h1,h2.mono c⟩
 ·obtain⟨a,o,h2,h3,h4,h5⟩:=s.ow i d q;exact⟨a,o,h2,x.bn _ _ h3,h4,h5.mono c⟩
theorem cx.growH (s:cx K B0 H0 N H σ ρ)(x:Ext (cr N (own σ ρ)) N' H H'):cx K B0 H0 (join N N') H' σ ρ/\aF N' (cr (join N N') (own σ ρ)):=by
 have x':Ext N (join N N') H H':=by
  refine⟨x.hh,c8,λa o e=>?_,λa o e=>?_⟩
  ·cases q:N a with
   |some u=>
    have:join N N' a=some u:=c8 _ _ q;rw[this]at e;cases e;exact x.hh _ _ (s.ext.nh _ _ q)
   |none=>rw[cj q]at e;exact x.nh _ _ e
  ·cases q:N a with
   |some u=>
    have:join N N' a=some u:=c8 _ _ q;rw[this]at e;cases e;exact .inl rfl
   |none=>
    rw[cj q]at e;rcases x.new a o e with z|z
    ·have:=bf _ _ z;rw[q]at this;cases this
    ·exact .inr z
 refine⟨s.grow x',λa o e=>?_⟩;rcases x.new a o e with z|z
 ·obtain⟨z1,z2⟩:=kL z;rw[bH z1];exact c8 _ _ z2
 ·have hN:N a=none:=s.ext.nh.free z;have:¬own σ ρ a:=λq=>by obtain⟨vs,⟨q,_⟩,_⟩:=s.owned q;rw[hN]at q;cases q
  rw[bH this,cj hN];exact e
noncomputable def unown (ρ:Env):Env:=ρ.map λx=>x.map λy=>(y.1,false)
theorem gI {i:Nat}{d:D}{b:Bool}(h:(unown ρ)[i]? = some (some (d,b))):b=false/\∃c,ρ[i]? = some (some (d,c)):=by
 unfold unown at h;rw[vA]at h;cases e:ρ[i]? with
 |none=>rw[e]at h;cases h
 |some x=>
  rw[e]at h;match x,h with
  |some (d',c),h=>cases h;exact⟨rfl,c,rfl⟩
  |none,h=>cases h
theorem mK {a:Addr}:¬own σ (unown ρ) a:=λ⟨i,d,h,_⟩=>by
 obtain⟨z,_⟩:=gI h;cases z
theorem cx.unown (s:cx K B0 H0 N H σ ρ):cx K B0 H0 N H σ (unown ρ):=by
 refine⟨s.bh,s.tb,s.ext,by unfold DL.unown;rw[vH];exact s.len,λi d q=>?_,λi d q=>?_,λi j a d e q=>?_⟩
 ·obtain⟨_,c,q⟩:=gI q;obtain⟨v,h1,h2⟩:=s.rep.at' i d c q;exact⟨v,h1,h2.mono λa o e=>by rw[bH mK];exact e⟩
 ·obtain⟨z,_⟩:=gI q;cases z
 ·obtain⟨z,_⟩:=gI q;cases z
theorem be {α:Type}{l:List α}{i j:Nat}{x y:α}(h:(l.set i x)[j]? = some y):(i=j/\x=y)∨(i≠j/\l[j]? = some y):=by
 by_cases e:i=j
 ·subst e;rw[List.getElem?_set]at h;split at h
  ·split at h
   ·exact .inl ⟨rfl,vK h⟩
   ·cases h
  ·contradiction
 ·rw[vB e]at h;exact .inr ⟨e,h⟩
theorem mL {α β:Type}{l:List α}{m:List β}{i:Nat}{x y:α}(h:(l.set i x)[i]? = some y)(e:l.length=m.length):i<m.length:=by
 obtain⟨h,_⟩:=vV h;rw[List.length_set]at h;omega
theorem nY {i:Nat}{v:V}{x:OB}{a:Addr}(h:own (σ.set i (some v)) (ρ.set i x) a):(v=.ref a/\∃d,x=some (d,true))∨∃j,j≠i/\∃d,ρ[j]? = some (some (d,true))/\σ[j]? = some (some (V.ref a)):=by
 obtain⟨j,d,h1,h2⟩:=h;rcases be h1 with⟨e,q⟩|⟨e,q⟩
 ·rcases be h2 with⟨e2,q2⟩|⟨e2,q2⟩
  ·cases q2;exact .inl ⟨rfl,d,q⟩
  ·exact absurd e e2
 ·rcases be h2 with⟨e2,q2⟩|⟨e2,q2⟩
  ·exact absurd e2 e
  ·exact .inr ⟨j,λz=>e z.symm,d,q,q2⟩
theorem cx.bind (s:cx K B0 H0 N H σ ρ){i:Nat}{v:V}{d:D}(h:Is K (cr N (own σ ρ)) v d):cx K B0 H0 N H (σ.set i (some v)) (ρ.set i (some (d,false))):=by
 have o:∀a,own (σ.set i (some v)) (ρ.set i (some (d,false))) a->own σ ρ a:=λa q=>by
  rcases nY q with⟨_,d',p⟩|⟨j,_,d',q1,q2⟩
  ·cases p
  ·exact⟨j,d',q1,q2⟩
 have c:aF (cr N (own σ ρ)) (cr N (own (σ.set i (some v)) (ρ.set i (some (d,false))))):=cV λa u e q=>⟨e,λz=>q (o a z)⟩;refine⟨s.bh,s.tb,s.ext,by simp[s.len],λj e q=>?_,λj e q=>?_,λj k a e f q q' h1 h2=>?_⟩
 ·rcases be q with⟨rfl,p⟩|⟨ne,p⟩
  ·cases p
   have hi:=mL q s.len;exact⟨v,by simp[hi],h.mono c⟩
  ·obtain⟨w,h1,h2⟩:=s.sh j e p;exact⟨w,by rw[vB ne];exact h1,h2.mono c⟩
 ·rcases be q with⟨rfl,p⟩|⟨ne,p⟩
  ·cases p
  ·obtain⟨a,o,h1,h2,h3,h4⟩:=s.ow j e p;exact⟨a,o,by rw[vB ne];exact h1,h2,h3,h4.mono c⟩
 ·rcases be q with⟨rfl,p⟩|⟨ne,p⟩
  ·cases p
  ·rcases be q' with⟨rfl,p'⟩|⟨Fa,p'⟩
   ·cases p'
   ·rw[vB ne]at h1;rw[vB Fa]at h2;exact s.inj j k a e f p p' h1 h2
theorem cx.bindOwn (s:cx K B0 H0 N H σ ρ){i:Nat}{a:Addr}{ob:HO}{dd:D}(hN:N a=some ob)(h0:H0 a=none)(D1:∀(j:Nat)(d:D),ρ[j]? = some (some (d,true))->σ[j]? ≠ some (some (V.ref a)))
  (HC:∀(j:Nat)(d:D),j≠i->ρ[j]? = some (some (d,false))->∃v,σ[j]? = some (some v)/\Is K (cr N (λb=>own σ ρ b∨b=a)) v d) (Le:∀(j:Nat)(d:D),j≠i->ρ[j]? = some (some (d,true))->∃(a':Addr)(o:HO),σ[j]? = some (some (V.ref a'))/\N a'=some o/\Bx K (cr N (λb=>own σ ρ b∨b=a)) o d)
  (A2:Bx K (cr N (λb=>own σ ρ b∨b=a)) ob dd):cx K B0 H0 N H (σ.set i (some (.ref a))) (ρ.set i (some (dd,true))):=by
 have o:∀b,own (σ.set i (some (V.ref a))) (ρ.set i (some (dd,true))) b->own σ ρ b∨b=a:=λb q=>by
  rcases nY q with⟨p,_⟩|⟨j,_,d',q1,q2⟩
  ·cases p;exact .inr rfl
  ·exact .inl ⟨j,d',q1,q2⟩
 have c:aF (cr N (λb=>own σ ρ b∨b=a)) (cr N (own (σ.set i (some (V.ref a))) (ρ.set i (some (dd,true))))):=cV λb u e q=>⟨e,λz=>q (o b z)⟩;refine⟨s.bh,s.tb,s.ext,by simp[s.len],λj e q=>?_,λj e q=>?_,λj k b e f q q' h1 h2=>?_⟩
 ·rcases be q with⟨rfl,p⟩|⟨ne,p⟩
  ·cases p
  ·obtain⟨w,h1,h2⟩:=HC j e (Ne.symm ne) p;exact⟨w,by rw[vB ne];exact h1,h2.mono c⟩
 ·rcases be q with⟨rfl,p⟩|⟨ne,p⟩
  ·cases p
   have hi:=mL q s.len;exact⟨a,ob,by simp[hi],hN,h0,A2.mono c⟩
  ·obtain⟨a',o',h1,h2,h4⟩:=Le j e (Ne.symm ne) p;have h3:H0 a'=none:=by
    obtain⟨a2,_,k1,_,k3,_⟩:=s.ow j e p;rw[h1]at k1;cases k1;exact k3
   exact⟨a',o',by rw[vB ne];exact h1,h2,h3,h4.mono c⟩
 ·rcases be q with⟨rfl,p⟩|⟨ne,p⟩
  ·rcases be q' with⟨rfl,p'⟩|⟨Fa,p'⟩
   ·rfl
   ·rw[vB Fa]at h2;have Lf:V.ref a=V.ref b:=by
     rcases be h1 with⟨_,z⟩|⟨z,_⟩
     ·exact vK z
     ·exact absurd rfl z
    cases Lf
    exact absurd h2 (D1 k f p')
  ·rcases be q' with⟨rfl,p'⟩|⟨Fa,p'⟩
   ·rw[vB ne]at h1;have HD:V.ref a=V.ref b:=by
     rcases be h2 with⟨_,z⟩|⟨z,_⟩
     ·exact vK z
     ·exact absurd rfl z
    cases HD
    exact absurd h1 (D1 j e p)
   ·rw[vB ne]at h1;rw[vB Fa]at h2;exact s.inj j k b e f p p' h1 h2
end
inductive Res where
 |nx (ρ:Env)|rt (d:D) (b:Bool)|bk (ρ:Env)|ct (ρ:Env)
abbrev FS:=Env->Option Res
def Eo (K:Frag)(B0 H0:Hp)(E:Ends):Res->Prop
 |.nx ρ=>∀σ H,qY K B0 H0 H σ ρ->E.nx σ H
 |.rt d b=>∀v H N,Ext B0 N H0 H->Is K N v d->(b=true->Dn K H0 N v d)->E.rt v H
 |.bk ρ=>∀σ H,qY K B0 H0 H σ ρ->E.bk σ H
 |.ct ρ=>∀σ H,qY K B0 H0 H σ ρ->E.ct σ H
def mM (K:Frag)(g:FS):TS:=λE σ H=>∃(B0 H0:Hp)(ρ:Env)(r:Res),qY K B0 H0 H σ ρ/\g ρ=some r/\Eo K B0 H0 E r
section
variable {K:Frag}{B0 H0 N H H':Hp}{σ:St}{ρ:Env}{E:Ends}
theorem cx.writeB (s:cx K B0 H0 N H σ ρ)(hi:ρ[i]? = some (some (d,true)))(hσ:σ[i]? = some (some (V.ref a)))(h:Bx K (cr N (own σ ρ)) ob dd):
  cx K B0 H0 (upd N a ob) (upd H a ob) σ (ρ.set i (some (dd,true))):=by
 have oa:own σ ρ a:=⟨i,d,hi,hσ⟩;obtain⟨ws,hw,h0⟩:=s.owned oa;have b0:B0 a=none:=s.bh.free h0;have o:∀b,own σ (ρ.set i (some (dd,true))) b↔own σ ρ b:=λb=>by
  constructor
  ·rintro⟨j,e,q1,q2⟩;rcases be q1 with⟨rfl,p⟩|⟨_,p⟩
   ·exact⟨i,d,hi,q2⟩
   ·exact⟨j,e,p,q2⟩
  ·rintro⟨j,e,q1,q2⟩;by_cases z:i=j
   ·subst z;exact⟨i,dd,by rw[List.getElem?_set_self (vV hi).1],q2⟩
   ·exact⟨j,e,by rw[vB z];exact q1,q2⟩
 have c:aF (cr N (own σ ρ)) (cr (upd N a ob) (own σ (ρ.set i (some (dd,true))))):=cV λb u e q=>by
  have ne:b≠a:=λz=>q (z ▸ oa);exact⟨by rw[a8 ne];exact e,λz=>q ((o b).mp z)⟩
 refine⟨s.bh,s.tb,⟨λb u e=>?_,λb u e=>?_,λb u e=>?_,λb u e=>?_⟩,by rw[List.length_set];exact s.len,λj e q=>?_,λj e q=>?_,λj k b e f q q' h1 h2=>?_⟩
 ·rw[a8 (λz=>by subst z;rw[h0]at e;cases e)];exact s.ext.hh _ _ e
 ·rw[a8 (λz=>by subst z;rw[b0]at e;cases e)];exact s.ext.bn _ _ e
 ·by_cases z:b=a
  ·subst z;rw[au]at e ⊢;exact e
  ·rw[a8 z]at e ⊢;exact s.ext.nh _ _ e
 ·by_cases z:b=a
  ·subst z;exact .inr h0
  ·rw[a8 z]at e;exact s.ext.new _ _ e
 ·rcases be q with⟨rfl,p⟩|⟨ne,p⟩
  ·cases p
  ·obtain⟨v,h1,h2⟩:=s.sh j e p;exact⟨v,h1,h2.mono c⟩
 ·rcases be q with⟨rfl,p⟩|⟨ne,p⟩
  ·cases p
   exact⟨a,ob,hσ,au,h0,h.mono c⟩
  ·obtain⟨a',o',h1,h2,h3,h4⟩:=s.ow j e p;have na:a'≠a:=λz=>by subst z;exact ne (s.inj i j _ d e hi p hσ h1)
   exact⟨a',o',h1,by rw[a8 na];exact h2,h3,h4.mono c⟩
 ·have get:∀ {j:Nat}{e:D},(ρ.set i (some (dd,true)))[j]? = some (some (e,true))->∃e',ρ[j]? = some (some (e',true)):=λ{j e} q=>by
   rcases be q with⟨rfl,p⟩|⟨ne,p⟩
   ·exact⟨d,hi⟩
   ·exact⟨e,p⟩
  obtain⟨e',q1⟩:=get q;obtain⟨f',q2⟩:=get q';exact s.inj j k b e' f' q1 q2 h1 h2
theorem cx.write (s:cx K B0 H0 N H σ ρ)(hi:ρ[i]? = some (some (d,true)))(hσ:σ[i]? = some (some (V.ref a)))(h:IsL K (cr N (own σ ρ)) vs ds):
  cx K B0 H0 (upd N a (.lst vs)) (upd H a (.lst vs)) σ (ρ.set i (some (.lst ds,true))):=s.writeB hi hσ (.lst h)
theorem cx.tups (s:cx K B0 H0 N H σ ρ):∀a vs,eZ K N a vs->eZ K (cr N (own σ ρ)) a vs:=λa vs h=>by
 have key:∀u,N a=some u->¬boxed u->cr N (own σ ρ) a=some u:=λu e hu=>by
  rw[bH λz=>?_];exact e;obtain⟨ws,⟨q,qb⟩,_⟩:=s.owned z;rw[e]at q;cases q;exact hu qb
 rcases h with (h|⟨o,h⟩)|h
 ·exact .inl (.inl (key _ h (λq=>q)))
 ·exact .inl (.inr ⟨o,key _ h (λq=>q)⟩)
 ·exact .inr h
theorem cx.flat (s:cx K B0 H0 N H σ ρ)(h:Is K N v d)(n:aQ d=true):Is K (cr N (own σ ρ)) v d:=h.keepT s.tups n
theorem cx.flats (s:cx K B0 H0 N H σ ρ)(h:IsL K N v d)(n:aV d=true):IsL K (cr N (own σ ρ)) v d:=h.keepT s.tups n
theorem cx.rebase (s:cx K B0 H0 N H σ ρ):cx K (cr N (own σ ρ)) (cr H (own σ ρ)) N H σ ρ :=
 ⟨cV λa o e q=>⟨s.ext.nh _ _ e,q⟩,s.tbC,⟨bf,bf,s.ext.nh,λa o e=>by
  by_cases q:own σ ρ a
  ·exact .inr (qX q)
  ·exact .inl (by rw[bH q];exact e)⟩,s.len,s.sh,λi d q=>by
   obtain⟨a,o,h1,h2,_,h4⟩:=s.ow i d q;exact⟨a,o,h1,h2,qX ⟨i,d,q,h1⟩,h4⟩,s.inj⟩
theorem cx.unbase (s:cx K B0 H0 N H σ ρ)(t:cx K (cr N (own σ ρ)) (cr H (own σ ρ)) N' H' σ' ρ'):cx K B0 H0 N' H' σ' ρ':=by
 have h0:aF H0 (cr H (own σ ρ)):=λa o e=>by
  rw[bH λz=>?_];exact s.ext.hh _ _ e;obtain⟨_,_,q⟩:=s.owned z;rw[q]at e;cases e
 have b0:aF B0 (cr N (own σ ρ)):=λa o e=>by
  rw[bH λz=>?_];exact s.ext.bn _ _ e;obtain⟨_,_,q⟩:=s.owned z;rw[s.bh _ _ e]at q;cases q
 refine⟨s.bh,s.tb,⟨h0.trans t.ext.hh,b0.trans t.ext.bn,t.ext.nh,λa o e=>?_⟩,t.len,t.sh,λi d q=>?_,t.inj⟩
 ·rcases t.ext.new a o e with z|z
  ·exact s.ext.new a o (bf _ _ z)
  ·exact .inr (h0.free z)
 ·obtain⟨a,o,h1,h2,h3,h4⟩:=t.ow i d q;exact⟨a,o,h1,h2,h0.free h3,h4⟩
theorem cx.based (t:cx K B0 H0 N H σ ρ):aF B0 (cr N (own σ ρ)):=λa o e=>by
 rw[bH λz=>?_];exact t.ext.bn _ _ e;obtain⟨_,_,q⟩:=t.owned z;rw[t.bh _ _ e]at q;cases q
@[simp] noncomputable def aC (g h:FS):FS:=λρ=>match g ρ with|some (.nx ρ')=>h ρ'|r=>r
@[simp] noncomputable def aY:FS:=λρ=>some (.nx ρ)
@[simp] noncomputable def eJ (c:FT)(g h:FS):FS:=λρ=>match c ρ with|some true=>g ρ|some false=>h ρ|none=>none
@[simp] noncomputable def aW (f:FE):FS:=λρ=>(f ρ).map λx=>.rt x.1 x.2
@[simp] noncomputable def AK:D->Bool
 |.dk _ _=>true
 |.dt _ _=>true
 |_=>false
@[simp] def iN (i:Nat):FS:=λρ=>match ρ[i]? with|some (some (d,b))=>some (.rt d (b && !AK d))|_=>none
@[simp] def AL:D->Bool
 |.lst ds=>aV ds
 |_=>false
@[simp] def setE (ρ:Env)(i:Nat)(d:D)(b:Bool):Env :=
 if aQ d=true then ρ.set i (some (d,false))else if b=true/\AL d=true then ρ.set i (some (d,true))else (unown ρ).set i (some (d,false))
@[simp] def b8 (i:Nat)(f:FE):FS:=λρ=>(f ρ).map λx=>.nx (setE ρ i x.1 x.2)
@[simp] def IP (i:Nat)(f:FE):FS:=λρ=>(f (mh ρ)).map λx=>.nx (ρ.set i (some (x.1,false)))
@[simp] def ij (i:Nat)(f:FE):FS:=λρ=>match ρ[i]? with
 |some (some (.lst ds,true))=>(f ρ).bind λx=>if aQ x.1=true/\ds.length<sizeLine then some (.nx (ρ.set i (some (.lst (ds++[x.1]),true))))else none
 |_=>none
theorem z4 (q:mM K (aC g h) E σ H):DH (mM K g) (mM K h) E σ H:=by
 obtain⟨B0,H0,ρ,r,s,e,p⟩:=q;unfold aC at e;cases eg:g ρ with
 |none=>rw[eg]at e;cases e
 |some r1=>
  rw[eg]at e;cases r1 with
  |nx ρ'=>exact⟨B0,H0,ρ,.nx ρ',s,eg,λσ' H' s'=>⟨B0,H0,ρ',r,s',e,p⟩⟩
  |rt d b=>cases e;exact⟨B0,H0,ρ,_,s,eg,p⟩
  |bk ρ'=>cases e;exact⟨B0,H0,ρ,_,s,eg,p⟩
  |ct ρ'=>cases e;exact⟨B0,H0,ρ,_,s,eg,p⟩
theorem wE (q:mM K aY E σ H):AD E σ H:=by
 obtain⟨B0,H0,ρ,r,s,e,p⟩:=q;cases e
 exact p σ H s
theorem qY.grown (s:cx K B0 H0 N H σ ρ)(h:aF H H'):qY K B0 H0 H' σ ρ:=⟨N,s.grow (.grow s.ext.nh h)⟩
theorem Cf (q:mM K (eJ c g h) E σ H):DJ (uq K c) (mM K g) (mM K h) E σ H:=by
 obtain⟨B0,H0,ρ,r,⟨N,s⟩,e,p⟩:=q;unfold eJ at e;cases ec:c ρ with
 |none=>rw[ec]at e;cases e
 |some b=>
  rw[ec]at e;refine⟨N,ρ,b,s.ext.nh,s.rep,ec,λH1 h1=>?_⟩;cases b with
  |true=>rw[if_pos rfl];exact⟨B0,H0,ρ,r,.grown s h1,e,p⟩
  |false=>rw[if_neg (by decide)];exact⟨B0,H0,ρ,r,.grown s h1,e,p⟩
theorem z5 (q:mM K (aW f) E σ H):BC (tD K f) E σ H:=by
 obtain⟨B0,H0,ρ,r,⟨N,s⟩,e,p⟩:=q;obtain⟨x,ex,e⟩:=oY e;subst e;exact⟨N,ρ,x.1,x.2,s.ext.nh,s.rep,ex,λv H1 N1 x1 i1 f1=>p v H1 N1 (s.ext.trans x1) i1 λb=>(f1 b).back s.ext.hh⟩
theorem wF (q:mM K (iN i) E σ H):BC (D9 i) E σ H:=by
 obtain⟨B0,H0,ρ,r,⟨N,s⟩,e,p⟩:=q;unfold iN at e;split at e
 ·rename_i d b ei;cases e
  cases b with
  |false=>
   obtain⟨v,h1,h2⟩:=s.sh i d ei;exact⟨v,h1,p v H N s.ext (h2.mono bf) (by simp)⟩
  |true=>
   obtain⟨a,o,h1,h2,h3,h4⟩:=s.ow i d ei;cases h4 with
   |lst h4=>exact⟨_,h1,p _ H N s.ext (.lst (eN.of h2) (h4.mono bf)) λ_=>⟨a,_,_,rfl,rfl,h3,h2,h4.mono bf⟩⟩
   |dk hl h4=>exact⟨_,h1,p _ H N s.ext (.dk h2 hl (h4.mono bf)) (by simp)⟩
   |dt hl h4=>exact⟨_,h1,p _ H N s.ext (.dt h2 hl (h4.mono bf)) (by simp)⟩
 ·cases e
theorem cx.setE (s:cx K B0 H0 N H σ ρ)(x:Ext N N1 H H1)(h:Is K N1 v d)(f:b=true->Dn K H N1 v d):cx K B0 H0 N1 H1 (σ.set i (some v)) (setE ρ i d b):=by
 have s1:=s.grow x;unfold DL.setE;by_cases hn:aQ d=true
 ·rw[if_pos hn];exact s1.bind (s1.flat h hn)
 ·rw[if_neg hn];by_cases hb:b=true/\AL d=true
  ·rw[if_pos hb];obtain⟨a,vs,ds,rfl,rfl,ha,hN,hs⟩:=f hb.1;have Jk:N a=none:=s.ext.nh.free ha;have Lg:¬own σ ρ a:=λz=>by obtain⟨ws,⟨q,_⟩,_⟩:=s.owned z;rw[Jk]at q;cases q
   have c:aF (cr N (own σ ρ)) (cr N1 (λb=>own σ ρ b∨b=a)):=cV λb u e q=>⟨x.bn _ _ e,λz=>z.elim q λz=>by subst z;rw[Jk]at e;cases e⟩;refine s1.bindOwn hN (s.ext.hh.free ha) (λj e q z=>Lg ⟨j,e,q,z⟩) (λj e _ q=>?_) (λj e _ q=>?_) (.lst (hs.keepT (λt ts st=>?_) hb.2))
   ·obtain⟨w,h1,h2⟩:=s.sh j e q;exact⟨w,h1,h2.mono c⟩
   ·obtain⟨a',o',h1,h2,_,h4⟩:=s.ow j e q;exact⟨a',o',h1,x.bn _ _ h2,h4.mono c⟩
   ·have key:∀u,N1 t=some u->¬boxed u->cr N1 (λb=>own σ ρ b∨b=a) t=some u:=λu e hu=>by
     rw[bH λz=>?_];exact e;rcases z with z|z
     ·obtain⟨ws,⟨q,qb⟩,_⟩:=s1.owned z;rw[e]at q;cases q;exact hu qb
     ·subst z;rw[e]at hN;cases hN;exact hu trivial
    rcases st with (st|⟨o,st⟩)|st
    ·exact .inl (.inl (key _ st (λq=>q)))
    ·exact .inl (.inr ⟨o,key _ st (λq=>q)⟩)
    ·exact .inr st
  ·rw[if_neg hb];exact s1.unown.bind (h.mono λa o e=>by rw[bH mK];exact e)
theorem sG (q:mM K (b8 i f) E σ H):za (tD K f) (iJ i) E σ H:=by
 obtain⟨B0,H0,ρ,r,⟨N,s⟩,e,p⟩:=q;obtain⟨x,ex,e⟩:=oY e;subst e;exact⟨N,ρ,x.1,x.2,s.ext.nh,s.rep,ex,λv H1 N1 x1 i1 f1=>p _ H1 ⟨N1,s.setE x1 i1 f1⟩⟩
theorem z6 (q:mM K (ij i f) E σ H):∃(a:Addr)(us:List V),σ[i]? = some (some (V.ref a))/\H a=some (.lst us)/\AH (tD K f) Eb σ H λxs H2=>sE (.ref a) xs H2 λ_ H3=>E.nx σ H3:=by
 obtain⟨B0,H0,ρ,r,⟨N,s⟩,e,p⟩:=q;unfold ij at e;split at e
 ·rename_i ds ei;obtain⟨x,ex,e⟩:=oX e;split at e
  ·rename_i hx;cases e
   obtain⟨a,vs,vN,z,h1,h2,h3,h4⟩:=s.owL i _ ei;cases z
   refine⟨a,vs,h1,s.ext.nh _ _ h2,N,ρ,x.1,x.2,s.ext.nh,s.rep,ex,λv H1 N1 x1 i1 f1=>⟨a,vs,v,rfl,rfl,x1.hh _ _ (s.ext.nh _ _ h2),by rw[h4.length];exact hx.2,?_⟩⟩;have s1:=s.grow x1;obtain⟨a',Gj,vN,z,k1,k2,_,k4⟩:=s1.owL i _ ei;cases z
   rw[h1]at k1;cases k1;rw[x1.bn _ _ h2]at k2;cases k2;exact p σ _ ⟨_,s1.write ei h1 (k4.append (.cons (s1.flat i1 hx.1) .nil))⟩
  ·cases e
 ·cases e
end
noncomputable def wG (c:FT)(g:FS):Nat->Env->Option Res
 |0,_=>none
 |n+1,ρ=>match c ρ with
  |some true=>match g ρ with
   |some (.nx ρ')=>wG c g n ρ'
   |some (.ct ρ')=>wG c g n ρ'
   |some (.bk ρ')=>some (.nx ρ')
   |r=>r
  |some false=>some (.nx ρ)
  |none=>none
def mi (K:Frag)(J:It)(B:Hp)(ds:List D):Prop:=∀(i:Nat)(H:Hp),aF B H ->
 (∀d,ds[i]? = some d->J.go i H/\∀x H',J.yld i H x H'->∃N,Ext B N H H'/\Is K N x d)/\(ds.length<=i->J.stop i H)
def IQ (K:Frag)(f:FA):TI:=λσ H R=>∃(B:Hp)(ρ:Env)(ds:List D),aF B H/\cQ K B σ ρ/\f ρ=some ds/\∀(J:It)(H' N:Hp),Ext B N H H'->mi K J N ds->R J H'
abbrev FG:=D->Env->Option Env
def z7 (K:Frag)(tg:FG)(g:TG):Prop:=∀(B0 H0 N H:Hp)(σ:St)(ρ ρ':Env)(v:V)(d:D)(Q:St->Hp->Prop),cx K B0 H0 N H σ ρ->Is K (cr N (own σ ρ)) v d->tg d ρ=some ρ' ->
 (∀σ' H',qY K B0 H0 H' σ' ρ'->Q σ' H')->g v σ H Q
@[simp] noncomputable def gj (i:Nat):FG:=λd ρ=>some (ρ.set i (some (d,false)))
theorem fm:z7 K (gj i) (iJ i):=by
 intro B0 H0 N H σ ρ ρ' v d Q s h e k;cases e
 exact k _ H ⟨N,s.bind h⟩
noncomputable def dO (tg:FG)(g:FS):List D->Env->Option Res
 |[],ρ=>some (.nx ρ)
 |d::ds,ρ=>(tg d ρ).bind λρ1=>match g ρ1 with
  |some (.nx ρ')=>dO tg g ds ρ'
  |some (.ct ρ')=>dO tg g ds ρ'
  |some (.bk ρ')=>some (.nx ρ')
  |r=>r
@[simp] theorem wH (tg:FG)(g:FS)(ρ:Env):dO tg g [] ρ=some (.nx ρ):=by rw[dO]
@[simp] theorem mN (tg:FG)(g:FS)(d:D)(ds:List D)(ρ:Env):dO tg g (d::ds) ρ=(tg d ρ).bind λρ1=>match g ρ1 with
  |some (.nx ρ')=>dO tg g ds ρ'
  |some (.ct ρ')=>dO tg g ds ρ'
  |some (.bk ρ')=>some (.nx ρ')
  |r=>r:=by rw[dO]
@[simp] def iO (f:FA)(tg:FG)(g:FS):FS:=λρ=>(f (mh ρ)).bind λds=>dO tg g ds ρ
theorem pb (ht:z7 K tg t)(s1:cx K B0 H0 N H1 σ ρ)(c:aF N1 (cr N (own σ ρ)))(J1:mi K J N1 ds)(e:dO tg g ds ρ=some r)(p:Eo K B0 H0 E r):
  ∃W:Nat->Nat->St->Hp->Prop,(∃m,W 0 m σ H1)/\∀i m σ H,W i m σ H->(J.stop i H/\E.nx σ H)∨(J.go i H/\∃N:St->Hp->Prop,(∀σ' H',N σ' H'->∃m',m'<m/\W (i+1) m' σ' H')/\∀x H',J.yld i H x H'->t x σ H' λσ2 H2=>mM K g { E with nx:=N,ct:=N,bk:=E.nx } σ2 H2):=by
 refine⟨λi m σ H=>∃(N:Hp)(ρ:Env),cx K B0 H0 N H σ ρ/\aF N1 (cr N (own σ ρ))/\m=ds.length - i/\i<=ds.length/\dO tg g (ds.drop i) ρ=some r,⟨ds.length,_,ρ,s1,c,rfl,uN _,e⟩,?_⟩;clear e s1 c;rintro i m σ H ⟨N,ρ,s,c,rfl,hi,e⟩;have hs:aF N1 H:=c.trans (bf.trans s.ext.nh);obtain⟨j1,j2⟩:=J1 i H hs;by_cases eM:i<ds.length
 ·obtain⟨go,yl⟩:=j1 ds[i] (by simp[eM]);rw[List.drop_eq_getElem_cons eM]at e;obtain⟨ρ1,e1,e⟩:=oX e;refine .inr ⟨go,λσ' H'=>∃(N:Hp)(ρ:Env),cx K B0 H0 N H' σ' ρ/\aF N1 (cr N (own σ' ρ))/\dO tg g (ds.drop (i+1)) ρ=some r,λσ' H' ⟨N',ρ',s',c',e'⟩=>⟨_,by omega,N',ρ',s',c',rfl,eM,e'⟩,λx H' y=>?_⟩;obtain⟨N2,x2,i2⟩:=yl x H' y;have x3:Ext (cr N (own σ ρ)) (join (cr N (own σ ρ)) N2) H H':=by
   refine⟨x2.hh,c8,λa o e=>?_,λa o e=>?_⟩
   ·cases q:cr N (own σ ρ) a with
    |some u=>rw[c8 _ _ q]at e;cases e;exact x2.hh _ _ (s.ext.nh _ _ (bf _ _ q))
    |none=>rw[cj q]at e;exact x2.nh _ _ e
   ·cases q:cr N (own σ ρ) a with
    |some u=>rw[c8 _ _ q]at e;cases e;exact .inl rfl
    |none=>
     rw[cj q]at e;rcases x2.new a o e with z|z
     ·rw[c _ _ z]at q;cases q
     ·exact .inr z
  obtain⟨s2,c2⟩:=s.growH x3;have c3:aF N2 (join (cr N (own σ ρ)) N2):=λa o e=>by
   rcases x2.new a o e with z|z
   ·exact c8 _ _ (c _ _ z)
   ·rw[cj ((bf.trans s.ext.nh).free z)];exact e
  have i3:=i2.mono (c3.trans c2);have c4:aF N1 (cr (join N (join (cr N (own σ ρ)) N2)) (own σ ρ)):=(x2.bn.trans c3).trans c2;refine ht _ _ _ _ _ _ _ _ _ _ s2.rebase i3 e1 λσ2 H2 ⟨N4,s4⟩=>?_;cases eg:g ρ1 with
  |none=>rw[eg]at e;cases e
  |some r1=>
   rw[eg]at e;refine⟨_,_,ρ1,r1,⟨N4,s4⟩,eg,?_⟩;have back:∀ {σ':St}{H':Hp}{ρ':Env}{N':Hp},cx K _ _ N' H' σ' ρ'->cx K B0 H0 N' H' σ' ρ'/\aF N1 (cr N' (own σ' ρ')):=λt=>⟨s2.unbase t,c4.trans t.based⟩;cases r1 with
   |nx ρ'=>exact λσ' H' ⟨N',t⟩=>⟨N',ρ',(back t).1,(back t).2,e⟩
   |ct ρ'=>exact λσ' H' ⟨N',t⟩=>⟨N',ρ',(back t).1,(back t).2,e⟩
   |bk ρ'=>cases e;exact λσ' H' ⟨N',t⟩=>p σ' H' ⟨N',(back t).1⟩
   |rt d b=>
    cases e
    intro v H' N' x' i' f';have y:=s2.rebase.ext;have h0:aF H0 (cr H' (λ_=>False)):=λa o e=>by rw[bH (λz=>z)];exact x'.hh _ _ (by
     rw[bH λz=>?_];exact s2.ext.hh _ _ e;obtain⟨_,_,q⟩:=s2.owned z;rw[q]at e;cases e)
    have M4:aF H0 (cr H' (λ_=>False)):=h0;have hH:aF H0 (cr H' (λ_=>False)):=h0;have hc:∀a,cr H' (λ_=>False) a=H' a:=λa=>bH (λz=>z);have hb:aF H0 (cr _ (own σ ρ)):=λa o e=>by
     rw[bH λz=>?_];exact s2.ext.hh _ _ e;obtain⟨_,_,q⟩:=s2.owned z;rw[q]at e;cases e
    have bb:aF B0 (cr _ (own σ ρ)):=λa o e=>by
     rw[bH λz=>?_];exact s2.ext.bn _ _ e;obtain⟨_,_,q⟩:=s2.owned z;rw[s2.bh _ _ e]at q;cases q
    refine p v H' N' ⟨hb.trans x'.hh,bb.trans x'.bn,x'.nh,λa o e=>?_⟩ i' λz=>(f' z).back hb;rcases x'.new a o e with z|z
    ·exact s2.ext.new a o (bf _ _ z)
    ·exact .inr (hb.free z)
 ·have ei:i=ds.length:=by omega
  subst ei;rw[List.drop_eq_nil_of_le (vT _)]at e;cases e
  exact .inl ⟨j2 (vT _),p σ H ⟨N,s⟩⟩
theorem z8 (ht:z7 K tg t)(q:mM K (iO f tg g) E σ H):BK (IQ K f) t (mM K g) E σ H:=by
 obtain⟨B0,H0,ρ,r,⟨N,s⟩,e,p⟩:=q;obtain⟨ds,ef,e⟩:=oX e;refine⟨cr N (own σ ρ),mh ρ,ds,bf.trans s.ext.nh,s.repH,ef,λJ H1 N1 x1 J1=>?_⟩;obtain⟨s1,c⟩:=s.growH x1;exact pb ht s1 c J1 e p
def FW (K:Frag)(f:FA):TI:=λσ H R=>∃(B:Hp)(ρ:Env)(ds:List D),aF B H/\cQ K B σ ρ/\f ρ=some ds/\∀(J:It)(H' N:Hp),Ext B N H H'->(∀B',mi K J B' ds)->R J H'
@[simp] def jL (f:FA)(tg:FG)(g:FS):FS:=λρ=>(f ρ).bind λds=>dO tg g ds ρ
theorem wI (ht:z7 K tg t)(q:mM K (jL f tg g) E σ H):BK (FW K f) t (mM K g) E σ H:=by
 obtain⟨B0,H0,ρ,r,⟨N,s⟩,e,p⟩:=q;obtain⟨ds,ef,e⟩:=oX e;refine⟨N,ρ,ds,s.ext.nh,s.rep,ef,λJ H1 N1 x1 J1=>?_⟩;exact pb ht (s.grow x1) (aF.refl _) (J1 _) e p
end DL
namespace DL
open PySem PySem.Spec PyProof.Rows L2
abbrev JE (X:Cx)(e:Expr)(f:FE):Prop:=PE X e (tD X.K f)
abbrev JT (X:Cx)(e:Expr)(f:FT):Prop:=PT X e (uq X.K f)
abbrev JW (X:Cx)(e:Expr)(f:FT):Prop:=PW X e (uq X.K f)
abbrev JA (X:Cx)(es:List Expr)(f:FA):Prop:=PA X es (En X.K f)
abbrev JS (X:Cx)(st:Stmt)(g:FS):Prop:=PS X st (mM X.K g)
abbrev oK (X:Cx)(st:List Stmt)(g:FS):Prop:=nN X st (mM X.K g)
abbrev JI (X:Cx)(tg bL:Expr)(f:FA):Prop:=PI X tg bL (IQ X.K f)
def Cg (M:Model)(A:Around)(lU:List Expr)(m6:Expr)(env:PySem.Env)(acc:Value)(E:Value->Shared->Prop)(P:Shared->Prop):Shared->Prop :=
 wpAny M A (forIn lU true λc r=>if r=true then do let ok ←isTrue c env (eval c env);pure (ForInStep.yield ok)else pure (ForInStep.yield r))
  (λok s₃=>if ok=true then wpAny M A (eval m6 env) (λx=>wpAny M A (call (.builtin "list.append") [acc,x]) (λ_=>P) E) E s₃ else P s₃) E
theorem nZ {E:Value->Shared->Prop}(hE:∀x s,¬E x s)(I:Nat->Shared->Prop)
  (turn:∀n s,I n s->wpAny (model prog w) A (pyNext it) (λr s₁=>match r with
   |none=>R (.ok .next) s₁
   |some v=>wpAny (model prog w) A (letOwnedTupleGo lR it v) (λ_=>wpAny (model prog w) A (assign lR env v) (λ_=>Cg (model prog w) A lU m6 env acc E λs=>∃m,m<n/\I m s) E) E s₁) E s)
  (n:Nat) (h:I n s):codeAny (model prog w) A (.compLoop (.ListComp m6 [⟨lR,bL,lU,0⟩] scope pos) 0 it acc env) R s:=by
 refine codeAny_loop rfl I (λn s hI=>?_) n h;show wpAny _ A ((compTurn (.ListComp m6 [⟨lR,bL,lU,0⟩] scope pos) 0 it acc env).onRaise (λx=>do noteFrame x env;theTreesLotGoes x)) _ _ s;refine wpAny_noted (wpAny_mono (E:=E) ?_ (λ_ _ q=>q) λ_ _ z=>(hE _ _ z).elim);rw[compTurn_list];refine wX (wpAny_standAt (wX (bG (turn n s hI) λr s₁ h₁=>?_)));cases r with
 |none=>exact wY h₁
 |some v=>
  refine wX (bG h₁ λ_ s₁ h₁=>wX (bG h₁ λ_ s₂ h₂=>wX (bG h₂ λok s₃ h₃=>?_)));cases ok with
  |false=>exact wY ⟨rfl,h₃⟩
  |true=>exact wX (wX (bG h₃ λx s₄ h₄=>wX (bG h₄ λ_ s₅ h₅=>wY (wY ⟨rfl,h₅⟩))))
theorem Ext.upd (x:Ext B N H H')(h:H a=none)(hN:N a=none):Ext B N H (upd H' a o) :=
 ⟨λb u e=>by rw[a8 (λz=>by subst z;rw[h]at e;cases e)];exact x.hh _ _ e,x.bn,λb u e=>by rw[a8 (λz=>by subst z;rw[hN]at e;cases e)];exact x.nh _ _ e,x.new⟩
noncomputable abbrev eO (X:Cx)(N':List Str)(scope:Scope)(cl:List (Str×Addr))(C:Addr)(s₃:Shared)(H₃:Hp)(fp:List Addr):Cx :=
 { X with N:=N',s₀:=s₃,H₀:=H₃,env:=compEnvC scope cl C X.env,outer:=X.stack,stack:=X.stack,ex:=fp,fn:=λ_=>false,pn:=[],xe:=λ_ _=>False }
inductive jy (X:Cx)(N':List Str)(scope:Scope)(cl:List (Str×Addr)):Nat->List Nat->Prop where
 |nil {j:Nat}(h:N'.length=j):jy X N' scope cl j []
 |cons {j i:Nat}{r:List Nat}{x:Str}(h1:N'[j]? = some x) (h2:X.N[i]? = some x) (h3:X.env.kindOf x=some .cell∨X.env.kindOf x=some .free)
   (h4:(relabel scope X.env).names.lookup x=some .cell∨(relabel scope X.env).names.lookup x=some .free) (h5:cl.lookup x=X.env.cells.lookup x) (t:jy X N' scope cl (j+1) r):jy X N' scope cl j (i::r)
theorem jy.len:∀ {j:Nat}{cap:List Nat},jy X N' scope cl j cap->N'.length=j+cap.length
 |_,_,.nil h=>by rw[h];rfl
 |j,i::r,.cons _ _ _ _ _ t=>by rw[t.len,vD];omega
theorem jy.get:∀ {j:Nat}{cap:List Nat}{k i:Nat},jy X N' scope cl j cap->cap[k]? = some i->∃x,N'[j+k]? = some x/\X.N[i]? = some x/\(X.env.kindOf x=some .cell∨X.env.kindOf x=some .free) /\
  ((relabel scope X.env).names.lookup x=some .cell∨(relabel scope X.env).names.lookup x=some .free)/\cl.lookup x=X.env.cells.lookup x
 |_,_,_,_,.nil _,e=>by simp at e
 |j,_,0,_,.cons h1 h2 h3 h4 h5 _,e=>by simp at e;subst e;exact⟨_,h1,h2,h3,h4,h5⟩
 |j,_,k+1,i,.cons _ _ _ _ _ t,e=>by
  obtain⟨x,q,r⟩:=t.get (k:=k) (i:=i) (by simpa using e);exact⟨x,by rw[show j+(k+1)=j+1+k by omega];exact q,r⟩
structure CompSc (X:Cx)(scope:Scope)(cl:List (Str×Addr)):Prop where
 clos:closureFor scope X.env=pure cl
 nocell:∀y∈scope.names,y.2≠.cell
 kind:scope.kind=.function
 names:∀y∈scope.names,y.2=.local->scope.names.lookup y.1=some .local
 sub:∀x c,cl.lookup x=some c->X.env.cells.lookup x=some c
 has:∀x,((relabel scope X.env).names.lookup x=some .cell∨(relabel scope X.env).names.lookup x=some .free)->∃c,cl.lookup x=some c
noncomputable def cG:List (Str×NameKind)->List (Str×Addr)->List (Str×Addr)->List (Str×Addr)
 |[],_,cs=>cs
 | (n,k)::r,cells,cs=>cG r cells (if k == .free then (match cells.lookup n with|some c=>(n,c)::cs|none=>cs)else cs)
theorem ur:∀(names:List (Str×NameKind))(cs:List (Str×Addr)),(∀y∈names,y.2=.free->(env.cells.lookup y.1).isSome=true) ->
    (do let mut cs:=cs
        for (name,kind)in names do
          if kind == .free then cs:=(name,←cellOf env name)::cs
        return cs:Sem (List (Str×Addr)))=pure (cG names env.cells cs):=by
  intro names;induction names with
  |nil=>intro cs _;rfl
  |cons y r ih=>
    intro cs h;obtain⟨n,k⟩:=y;have Fd:=λcs=>ih cs λy hy=>h y (mZ _ hy);by_cases hk:k=.free
    . subst hk;have hc:=h (n,.free) mX rfl;cases q:env.cells.lookup n with
      |none=>rw[q]at hc;cases hc
      |some c=>
        have e1:cG ((n,.free)::r) env.cells cs=cG r env.cells ((n,c)::cs):=by
          rw[cG,q];rfl
        rw[e1,←Fd ((n,c)::cs)];have e2:cellOf env n=pure c:=by unfold cellOf;rw[q]
        simp only[List.forIn_cons,beq_self_eq_true,if_true,e2];rfl
    . have hb:(k == NameKind.free)=false:=by simpa using hk
      have e1:cG ((n,k)::r) env.cells cs=cG r env.cells cs:=by rw[cG,hb];rfl
      rw[e1,←Fd cs];simp only[List.forIn_cons,hb,uV,if_false];rfl
theorem kM:∀(names:List (Str×NameKind))(cs:List (Str×Addr)),(∀y d,cs.lookup y=some d->cells.lookup y=some d)->(cG names cells cs).lookup x=some c->cells.lookup x=some c
 |[],cs,h,e=>h x c e
 | (n,k)::r,cs,h,e=>by
  rw[cG]at e;refine kM r _ (λy d q=>?_) e;split at q
  ·split at q
   ·rename_i c' ec;rw[List.lookup_cons]at q;split at q
    ·rename_i hy;cases q
     rw[eq_of_beq hy];exact ec
    ·exact h y d q
   ·exact h y d q
  ·exact h y d q
theorem mO:∀(names:List (Str×NameKind))(cs:List (Str×Addr)),(cs.lookup x).isSome=true->((cG names cells cs).lookup x).isSome=true
 |[],cs,h=>h
 | (n,k)::r,cs,h=>by
  rw[cG];refine mO r _ ?_;split
  ·split
   ·rw[List.lookup_cons];split
    ·rfl
    ·exact h
   ·exact h
  ·exact h
theorem kN:∀(names:List (Str×NameKind))(cs:List (Str×Addr)),(x,NameKind.free)∈names->(cells.lookup x).isSome=true->((cG names cells cs).lookup x).isSome=true
 | (n,k)::r,cs,hm,hc=>by
  rw[cG];rcases vP hm with e|e
  ·cases e
   refine mO r _ ?_;cases q:cells.lookup x with
   |none=>rw[q]at hc;cases hc
   |some c=>simp
  ·exact kN r _ e hc
theorem ik {α:Type}{x:Str}{k:α}:∀ {l:List (Str×α)},l.lookup x=some k->(x,k)∈l
 | (n,j)::r,h=>by
  rw[List.lookup_cons]at h;split at h
  ·rename_i e;cases h
   rw[eq_of_beq e];exact mX
  ·exact mZ _ (ik h)
theorem Ch {X:Cx}{scope:Scope}(h1:∀y∈scope.names,y.2≠.cell)(h2:scope.kind=.function)(h3:∀y∈scope.names,y.2=.local->scope.names.lookup y.1=some .local)(HG:(scope.names.all λy=>!(y.2 == NameKind.free) || (X.env.cells.lookup y.1).isSome)=true):
  CompSc X scope (cG scope.names X.env.cells []):=by
 have h4:∀y∈scope.names,y.2=.free->(X.env.cells.lookup y.1).isSome=true:=λy hy e=>by
  have:=List.all_eq_true.mp HG y hy;rw[e]at this;simpa using this
 have frees:∀x,((relabel scope X.env).names.lookup x=some .cell∨(relabel scope X.env).names.lookup x=some .free)->(x,NameKind.free)∈scope.names:=λx h=>by
  have:∃k,(x,k)∈(relabel scope X.env).names/\(k=.cell∨k=.free):=by
   rcases h with h|h
   ·exact⟨_,ik h,.inl rfl⟩
   ·exact⟨_,ik h,.inr rfl⟩
  obtain⟨k,hm,hk⟩:=this;obtain⟨⟨n,j⟩,hj,e⟩:=List.mem_map.mp hm;dsimp only at e;split at e
  ·rename_i hc;rw[vC,vC]at hc;cases e
   rw[←eq_of_beq hc.1.1];exact hj
  ·cases e
   rcases hk with rfl|rfl
   ·exact absurd rfl (h1 _ hj)
   ·exact hj
 exact⟨ur scope.names [] h4,h1,h2,h3,λx c e=>kM scope.names [] (λy d q=>by cases q) e,λx h=>by
  have:=kN (x:=x) scope.names [] (frees x h) (h4 _ (frees x h) rfl);exact Option.isSome_iff_exists.mp this⟩
theorem z9 {scope:Scope}{cells:List (Str×Addr)}{x:Str}(h:(x,NameKind.free)∈scope.names)(hc:(cells.lookup x).isSome=true):(cG scope.names cells []).lookup x=cells.lookup x:=by
 obtain⟨c,e⟩:=Option.isSome_iff_exists.mp (kN (x:=x) scope.names [] h hc);rw[e,kM scope.names [] (λy d q=>by cases q) e]
noncomputable def ut (nT:Nat)(cap:List Nat)(σ:St):St:=List.replicate nT none++cap.map λi=>(σ[i]?).join
noncomputable def eP (nT:Nat)(cap:List Nat)(ρ:Env):Env:=List.replicate nT none++cap.map λi=>match ρ[i]? with|some (some (d,_))=>some (d,false)|_=>none
theorem sI {α:Type}{nT:Nat}{cap:List Nat}{f:Nat->Option α}{j:Nat}{v:α}(h:(List.replicate nT none++cap.map f)[j]? = some (some v)):∃k i,j=nT+k/\cap[k]? = some i/\f i=some v:=by
 by_cases hj:j<nT
 ·rw[List.getElem?_append_left (by simpa using hj),List.getElem?_replicate,if_pos hj]at h;cases h
 ·rw[List.getElem?_append_right (by simpa using Nat.not_lt.mp hj),List.length_replicate,vA]at h;obtain⟨i,h1,h2⟩:=oY h;exact⟨j - nT,i,by omega,h1,h2⟩
theorem zF {α:Type}{nT:Nat}{cap:List Nat}{f:Nat->Option α}{k i:Nat}{v:α}(h1:cap[k]? = some i)(h2:f i=some v):(List.replicate nT none++cap.map f)[nT+k]? = some (some v):=by
 rw[List.getElem?_append_right (by simp),List.length_replicate,vA,Nat.add_sub_cancel_left,h1];simp[h2]
theorem cQ.caps {K:Frag}{B:Hp}{σ:St}{ρ:Env}{nT:Nat}{cap:List Nat}(h:cQ K B σ ρ):cQ K B (ut nT cap σ) (eP nT cap ρ):=⟨h.tb,λj d b q=>by
 obtain⟨k,i,rfl,h1,h2⟩:=sI q;split at h2
 ·rename_i d' b' e;cases h2
  obtain⟨v,g1,g2⟩:=h.at' i _ _ e;exact⟨v,zF h1 (by rw[g1];rfl),g2⟩
 ·cases h2⟩
noncomputable def dv (tg:FG)(c:FT)(fe:FE)(ρ:Env):List D->Option (List D)
 |[]=>some []
 |d::r=>(tg d ρ).bind λρ1=>(c ρ1).bind λb=>if b=true then (fe ρ1).bind λx=>(dv tg c fe ρ r).map (x.1 :: ·)else dv tg c fe ρ r
@[simp] theorem Dp (tg:FG)(c:FT)(fe:FE)(ρ:Env):dv tg c fe ρ []=some []:=by rw[dv]
@[simp] theorem qZ (tg:FG)(c:FT)(fe:FE)(ρ:Env)(d:D)(r:List D):dv tg c fe ρ (d::r)=(tg d ρ).bind λρ1=>(c ρ1).bind λb=>if b=true then (fe ρ1).bind λx=>(dv tg c fe ρ r).map (x.1 :: ·)else dv tg c fe ρ r:=by rw[dv]
@[simp] def bY (fi:FA)(nT:Nat)(cap:List Nat)(tg:FG)(c:FT)(fe:FE):FE:=λρ=>(fi ρ).bind λam=>if am.length<=sizeLine then (dv tg c fe (eP nT cap ρ) am).map λds=>(.lst ds,true)else none
def AM (K:Frag)(n:Nat)(tg:FG)(g:TG):Prop:=∀(B H:Hp)(σ:St)(ρ ρ1:Env)(v:V)(d:D)(Q:St->Hp->Prop),(∀i,i<n->ρ[i]? = some none)->cQ K B σ ρ->aF B H->Is K B v d->tg d ρ=some ρ1 ->
 ρ.length=σ.length->(∀σ1,cQ K B σ1 ρ1->(∀B',cQ K B' σ ρ->cQ K B' σ1 ρ)->ρ.length=σ1.length->Q σ1 H)->g v σ H Q
theorem pc {K:Frag}{n i:Nat}(hi:i<n):AM K n (gj i) (iJ i):=by
 intro B H σ ρ ρ1 v d Q cl rep s h e hl k;cases e
 have vm:i<σ.length:=by
  have:=(vV (cl i hi)).1;omega
 refine k _ ⟨rep.tb,λj e b q=>?_⟩ ?_ (by simpa using hl)
 ·rcases be q with⟨rfl,p⟩|⟨ne,p⟩
  ·cases p
   exact⟨v,by simp[vm],h⟩
  ·obtain⟨w,h1,h2⟩:=rep.at' j e b p;exact⟨w,by rw[vB ne];exact h1,h2⟩
 ·intro B' Fe;refine⟨Fe.tb,λj e b q=>?_⟩;obtain⟨w,h1,h2⟩:=Fe.at' j e b q;have ne:i≠j:=λz=>by subst z;rw[cl i hi]at q;cases q
  exact⟨w,by rw[vB ne];exact h1,h2⟩
def JC (X:Cx)(lU:List Expr)(c:FT):Prop:=∀(aa:List (Addr×Obj))(s:Shared)(σ:St)(H:Hp)(Q:Bool->Hp->Prop),Inv X aa σ H s->uq X.K c σ H Q ->
 wq X (forIn lU true λc r=>if r=true then do let ok ←isTrue c X.env (eval c X.env);pure (ForInStep.yield ok)else pure (ForInStep.yield r)) (TP X aa σ Q) X.xe s
@[simp] noncomputable def gg:FT:=λ_=>some true
theorem io:JC X [] gg:=by
 intro aa s σ H Q I h;obtain⟨B,ρ,c,sB,rep,e,q⟩:=h;cases e
 exact wpAny_tests_nil ⟨H,I,q H (.refl H)⟩
theorem kO (h:JT X e f):JC X [e] f:=λaa s σ H Q I q=>wpAny_tests_one (h aa s σ H Q I q)
inductive CI (Y:Cx)(tn:Nat->Heap->Prop)(fp:List Addr)(N1 H2:Hp)(κ:Env)(a:Addr)(l:List D->Option (List D))(am ds:List D)(s:Shared):Nat->Prop
 |mk (i:Nat) (N:Hp) (vs:List V) (es r:List D) (σ:St) (H:Hp) (I:Inv Y [] σ H s) (ti:tn i s.heap) (hn:∀b∈fp,H b=none) (hi:i<=am.length) (rp:cQ Y.K N1 σ κ) (hl:κ.length=σ.length)
   (x:Ext N1 N H2 H) (n0:N a=none) (h0:H a=some (.lst vs)) (vl:vs.length<=i) (iv:IsL Y.K N vs es) (er:l (am.drop i)=some r) (ed:es++r=ds):CI Y tn fp N1 H2 κ a l am ds s (am.length - i)
theorem Ext.both (x:Ext N1 N H2 H)(y:Ext N1 N' H H'):Ext N (join N N') H H'/\aF N' (join N N'):=by
 refine⟨⟨y.hh,c8,λa o e=>?_,λa o e=>?_⟩,λa o e=>?_⟩
 ·cases z:N a with
  |some u'=>rw[c8 _ _ z]at e;cases e;exact y.hh _ _ (x.nh _ _ z)
  |none=>rw[cj z]at e;exact y.nh _ _ e
 ·cases z:N a with
  |some u'=>rw[c8 _ _ z]at e;cases e;exact .inl rfl
  |none=>
   rw[cj z]at e;exact(y.new a o e).elim (λz'=>by rw[x.bn _ _ z']at z;cases z) .inr
 ·exact(y.new a o e).elim (λz=>c8 _ _ (x.bn _ _ z)) λz=>by rw[cj (x.nh.free z)];exact e
theorem Ext.off (x:Ext B N H H')(h:B a=none)(h':H a=some o):N a=none:=by
 cases z:N a with
 |none=>rfl
 |some u=>
  rcases x.new _ _ z with z|z
  ·rw[h]at z;cases z
  ·rw[h']at z;cases z
theorem uu {Y:Cx}(gi:Y.calm=true)(hE:∀x s,¬Y.xe x s)(hg:PG Y tg g)(y8:AM Y.K nT kE g)(hc:JC Y lU fc)(he:JE Y m6 fe)(T:Turn Y.prog Y.w Y.K tg J fp it tn)(Ff:∀i,i<nT->κ[i]? = some none)
  (J1:mi Y.K J N1 am) (hsz:am.length<=sizeLine) (hD:H2 a=none) (HH:∀H',(∀b∈fp,H' b=none)->∀b∈fp,iK Y [] H' b)
  (hR:∀s4 σ' H' N vs,Inv Y [] σ' H' s4->Ext N1 N H2 H'->N a=none->H' a=some (.lst vs)->IsL Y.K N vs ds->R (.ok .next) s4) (h:CI Y tn fp N1 H2 κ a (dv kE fc fe κ) am ds s am.length):
  codeAny (model Y.prog Y.w) Y.A (.compLoop (.ListComp m6 [⟨tg,bL,lU,0⟩] scope pos) 0 (.ref it) (.ref a) Y.env) R s:=by
 refine nZ hE (λn s=>CI Y tn fp N1 H2 κ a (dv kE fc fe κ) am ds s n) (λn s' h=>?_) _ h;obtain⟨i,N,vs,es,r,σ',H',I',ti,hn,hi,rp,bp,x,Gk,Fg,CP,Fh,er,Gm⟩:=h;have sH:aF N1 H':=x.bn.trans x.nh;by_cases eM:i<am.length
 ·obtain⟨go,yl⟩:=(J1 i H' sH).1 am[i] (by simp[eM]);refine bG (T.item Y rfl rfl rfl gi i [] s' σ' H' Y.xe I' (HH _ hn) ti go) λq s4 ⟨u,eu,hq⟩=>?_;subst eu;refine bG hq λ_ s5 ⟨xv,H5,I5,rx,y5,t5,Hx⟩=>?_;obtain⟨N5,x5,i5⟩:=yl xv H5 y5;obtain⟨x6,c5⟩:=x.both x5;have Jl:(join N N5) a=none:=x6.off Gk Fg;have Gn:aF (join N N5) H5:=x6.nh;rw[List.drop_eq_getElem_cons eM]at er;unfold dv at er;obtain⟨ρ1,e1,er⟩:=oX er;obtain⟨b,e2,er⟩:=oX er;have fin:∀(s9:Shared)(σ9:St)(H9 N9:Hp)(Fj:List V)(Go r9:List D),Inv Y (j4 fp s5.heap) σ9 H9 s9->cQ Y.K N1 σ9 κ->κ.length=σ9.length->Ext N1 N9 H2 H9->N9 a=none->H9 a=some (.lst Fj) ->
    Fj.length<=i+1->IsL Y.K N9 Fj Go->dv kE fc fe κ (am.drop (i+1))=some r9->Go++r9=ds->∃m,m<am.length - i/\CI Y tn fp N1 H2 κ a (dv kE fc fe κ) am ds s9 m:=λs9 σ9 H9 N9 Fj Go r9 I9 Lh l9 x9 n9 h9 v9 i9 Li Lj=>
   ⟨_,by omega,i+1,N9,Fj,Go,r9,σ9,H9,I9.pins_of λp hp=>by simp at hp,T.keep _ _ _ t5 λb hb o e=>(I9.pin (b,o) (mY _ (fM hb e))).1,λb hb=>by
    obtain⟨o,e,d⟩:=T.obj _ _ t5 b hb;exact(I9.pin (b,o) (mY _ (fM hb e))).2.1,eM,Lh,l9,x9,n9,h9,v9,i9,Li,Lj⟩
  refine bG (hg (j4 fp s5.heap) s5 σ' H5 xv u (λσ6 H6=>H6=H5/\cQ Y.K (join N N5) σ6 ρ1/\cQ Y.K N1 σ6 κ/\κ.length=σ6.length) (I5.pinned (HH _ Hx) (T.obj _ _ t5)) rx
   (y8 (join N N5) H5 σ' κ ρ1 xv am[i] _ Ff (rp.mono (x.bn.trans c8)) Gn (i5.mono c5) e1 bp λσ1 r1 r2 l1=>⟨rfl,r1,r2 N1 rp,l1⟩)) λ_ s6 ⟨σ6,H6,I6,eH,Jm,Jn,l6⟩=>?_
  subst eH;have HJ:H6 a=some (.lst vs):=x5.hh _ _ Fg;refine bG (hc _ s6 σ6 H6 (λc H7=>c=b/\aF H6 H7) I6 ⟨join N N5,ρ1,b,Gn,Jm,e2,λH7 h7=>⟨rfl,h7⟩⟩) λok s7 ⟨H7,I7,eb,h7⟩=>?_;subst eb;have x7:Ext N1 (join N N5) H2 H7:=(x.trans x6).trans (.grow Gn h7);cases ok with
  |false=>
   rw[if_neg (by decide)]at er ⊢;exact fin s7 σ6 H7 (join N N5) vs es r I7 Jn l6 x7 Jl (h7 _ _ HJ) (Nat.le_succ_of_le CP) (Fh.mono c8) er Gm
  |true=>
   rw[if_pos rfl]at er ⊢;obtain⟨y,e3,er⟩:=oX er;obtain⟨r',e4,er⟩:=oY er;subst er;refine bG (he _ s7 σ6 H7 (λv H8=>∃N8,Ext (join N N5) N8 H7 H8/\Is Y.K N8 v y.1) I7 ⟨join N N5,ρ1,y.1,y.2,Gn.trans h7,Jm,e3,λv H8 N8 x8 i8 _=>⟨N8,x8,i8⟩⟩) λw8 s8 ⟨v8,H8,I8,r8,N8,x8,i8⟩=>?_;refine bG (mI _ s8 σ6 H8 (.ref a) [v8] (.ref a) [w8] (λ_ H9=>H9=upd H8 a (.lst (vs++[v8]))) I8 rfl (.cons r8 .nil) ⟨_,vs,v8,rfl,rfl,x8.hh _ _ (h7 _ _ HJ),by omega,rfl⟩) λ_ s9 ⟨_,H9,I9,_,e9⟩=>?_;subst e9;have Jo:=x8.off Jl (h7 _ _ HJ);exact fin s9 σ6 _ N8 (vs++[v8]) (es++[y.1]) r' I9 Jn l6 ((x7.trans x8).upd hD Jo) Jo au (by rw[uZ,List.length_singleton];omega) ((Fh.mono (c8.trans x8.bn)).append (.cons i8 .nil)) e4 (by rw[List.append_assoc];exact Gm)
 ·obtain rfl:i=am.length:=by omega
  rw[List.drop_eq_nil_of_le (vT _)]at er;cases er
  rw[uQ]at Gm;subst Gm;refine bG (T.done Y rfl rfl rfl gi am.length [] s' σ' H' Y.xe I' (HH _ hn) ti ((J1 _ H' sH).2 (vT _))) λq s4 ⟨hq,I9⟩=>?_;subst hq;exact hR s4 σ' H' N vs I9 x Gk Fg Fh
theorem kP {X:Cx}(gi:X.calm=true){tg bL m6:Expr}{lU:List Expr}{scope:Scope}{pos:Pos}{cl:List (Str×Addr)}{N':List Str}{nT:Nat}{cap:List Nat}{kE:FG}{g:TG}{fc:FT}{fe:FE}
  (S:CompSc X scope cl) (cp:jy X N' scope cl nT cap)
  (hg:∀C s H fp,PG (eO X N' scope cl C s H fp) tg g) (y8:AM X.K nT kE g) (hc:∀C s H fp,JC (eO X N' scope cl C s H fp) lU fc) (he:∀C s H fp,JE (eO X N' scope cl C s H fp) m6 fe)
  {aa:List (Addr×Obj)}{σ:St}{H2:Hp}{s2:Shared}{it:Addr}{fp:List Addr}{tn:Nat->Heap->Prop}{J:It}{N1:Hp}{ρ:Env}{am ds:List D}{E:Value->Shared->Prop}
  (I2:Inv X aa σ H2 s2) (T:Turn X.prog X.w X.K tg J fp it tn) (fK:tn 0 s2.heap) (f2:∀b∈fp,iK X aa H2 b)
  (rep:cQ X.K N1 σ ρ) (sN:aF N1 H2) (J1:mi X.K J N1 am) (hsz:am.length<=sizeLine) (ec:dv kE fc fe (eP nT cap ρ) am=some ds) {RR:Value->Addr->Result->Shared->Prop}
  (Lk:∀(Dd C:Addr)(s':Shared)(H' N:Hp)(vs:List V)(m:Str->Option Value),H2 Dd=none->Inv X aa σ H' s'->s'.heap.Ns C m->iK X aa H' C->Ext N1 N H2 H'->N Dd=some (.lst vs)->IsL X.K N vs ds->RR (.ref Dd) C (.ok .next) s'):
  wq X (newList []) (λacc s₃=>wq X (newFunctionEnv scope X.env.globals cl [] X.env.qual none .none (some X.env)) (λFk s₄=>
   codeAny (model X.prog X.w) X.A (.compStart (.ListComp m6 [⟨tg,bL,lU,0⟩] scope pos) 0 (.ref it) acc { Fk with scope:=relabel scope X.env }) (RR acc Fk.locals) s₄) E s₃) E s2:=by
 refine wpAny_newObj_type (wpAny_newFunctionEnv S.nocell (by intro y hy;simp at hy) (λh₁ sn hsb₁=>?_) S.kind);dsimp only at sn hsb₁ ⊢;have hD:H2 s2.heap.objs.size=none:=I2.fresh;have I3:Inv X aa σ (upd H2 s2.heap.objs.size (.lst [])) { s2 with heap:=s2.heap.push { cls:=.type "list",dict:=none,data:=.seq ([]:List Value).toArray } }:=I2.lnew (t':=s2.toks) (ys:=[]) (its:=[]) .nil (uN _);generalize hH3:s2.heap.push { cls:=.type "list",dict:=none,data:=.seq ([]:List Value).toArray }=g3 at sn hsb₁ I3 ⊢;have hC:g3.objs.size=s2.heap.objs.size+1:=by rw[←hH3,Heap.size_push]
 have A4:∀b o,s2.heap.get? b=some o->g3.get? b=some o:=λb o e=>hH3 ▸ vZ _ e;have vp:∀b o,g3.get? b=some o->h₁.get? b=some o:=λb o e=>hsb₁.extBut b o (vS (vX e)) (vZ _ e);have Dy:∀b o,g3.get? b=some o->b≠g3.objs.size:=λb o e=>vS (vX e);have Jp:∀b∈fp,∃o,s2.heap.get? b=some o:=λb hb=>let ⟨o,e,_⟩:=T.obj 0 s2.heap fK b hb;⟨o,e⟩;have Ll:∀b∈fp,b≠s2.heap.objs.size:=λb hb=>let ⟨o,e⟩:=Jp b hb;vS (vX e);have Jq:∀b∈fp,b≠g3.objs.size:=λb hb=>let ⟨o,e⟩:=Jp b hb;Dy b o (A4 b o e);have Jr:∀x c,X.env.cells.lookup x=some c->c≠g3.objs.size:=λx c e=>by
  obtain⟨v,z⟩:=I3.cell x c e;exact vS z.lt
 have Lm:(upd H2 s2.heap.objs.size (HO.lst [])) g3.objs.size=none:=I3.hok.fresh (vT _);have stk:∀b∈vz X.stack,∃o,s2.heap.get? b=some o:=λb hb=>by
  obtain⟨_,o,ho,_⟩:=(I2.stack).mem hb;exact⟨o,ho⟩
 -- the block's context
 let Y:Cx:=eO X N' scope cl g3.objs.size { s2 with heap:=g3 } (upd H2 s2.heap.objs.size (.lst [])) fp;have ok:Y.Ok:=by
  refine⟨I2.ok.mod,?_,I2.ok.glob,I2.ok.blt,vT _,λx y c e1 e2=>I2.ok.inj x y c (S.sub x c e1) (S.sub y c e2),λx h=>S.has x h,λx c h=>absurd h uX,I2.ok.hd,I2.ok.frames,.inl rfl,λb hb=>⟨Jq b hb,λx c e=>(f2 b hb).2.2.2.2.1 x c (S.sub x c e)⟩,λb o e=>?_,?_,λb o e hb=>?_,λb hb hz=>?_,I3.stack,λb hb=>I3.stkFree b hb⟩
  ·show(relabel scope X.env).kind=.function;exact S.kind
  ·exact I3.bs b o e
  ·exact vR I3.ok.bsz I3.sz
  ·have h1:=(f2 b hb).2.2.2.1;rcases h1 with z|z
   ·exact I2.ok.noex b o e z
   ·exact absurd (vQ (vX e) (vR I2.ok.bsz z)) (Nat.lt_irrefl _)
  ·rcases vP (I2.stkSub b hz)with z|z
   ·exact(f2 b hb).2.1 z
   ·exact(f2 b hb).2.2.1 z
 have I4:Inv Y [] (ut nT cap σ) (upd H2 s2.heap.objs.size (.lst [])) { s2 with heap:=h₁,toks:=s2.toks+([]:List (Str×Value)).length }:=by
  refine⟨ok,rfl,I2.bare,Un.kept vp,⟨_,sn,λj x v e1 e2 e3=>?_⟩,λx c e=>?_,Lm,λx c e=>I3.freeC x c (S.sub x c e),λp hp=>absurd (show p∈[]from hp) List.not_mem_nil,I3.hok.kept vp,?_⟩
  ·obtain⟨k,i,rfl,h1,h2⟩:=sI e2;obtain⟨y,g1,g2,Js,g4,g5⟩:=cp.get h1;have Jt:N'[nT+k]? = some x:=e1;rw[g1]at Jt;cases Jt;have HD:σ[i]? = some (some v):=by
    cases q:σ[i]? with
    |none=>rw[q]at h2;cases h2
    |some z=>rw[q]at h2;have:z=some v:=h2;rw[this]
   obtain⟨m,_,hl⟩:=I3.loc;obtain⟨u,r,l⟩:=hl i _ v g2 HD (Js.elim (λz=>.inr (.inl z)) λz=>.inr (.inr z));refine⟨u,r,?_⟩;rcases l with⟨l,_⟩|⟨_,c,lc,ic⟩
   ·rcases Js with z|z<;>(rw[z]at l;cases l)
   ·refine .inr ⟨g4,c,by show cl.lookup _=some c;rw[g5];exact lc,?_⟩;obtain⟨o,ho,hd⟩:=ic;exact⟨o,vp _ _ ho,hd⟩
  ·obtain⟨v,o,ho,hd⟩:=I3.cell x c (S.sub x c e);exact⟨v,o,vp _ _ ho,hd⟩
  ·show(ut nT cap σ).length=N'.length;unfold ut;rw[cp.len];simp
 have jI:∀s₃:Shared,s₃={ s2 with heap:=h₁,toks:=s2.toks+([]:List (Str×Value)).length }->codeAny (model Y.prog Y.w) Y.A (.compLoop (.ListComp m6 [⟨tg,bL,lU,0⟩] scope pos) 0 (.ref it) (.ref s2.heap.objs.size) Y.env) (RR (.ref s2.heap.objs.size) g3.objs.size) s₃:=by
  rintro s₃ rfl;refine uu (Y:=Y) gi (λ_ _ z=>z) (hg _ _ _ _) y8 (hc _ _ _ _) (he _ _ _ _) T (λi hi=>?_) J1 hsz hD (λH' hn b hb=>⟨hn b hb,Jq b hb,ok.exfs b hb,.inl hb,λx c e=>(f2 b hb).2.2.2.2.1 x c (S.sub x c e),λp hp=>absurd (show p∈[]from hp) List.not_mem_nil⟩) (λs4 σ' H' N vs I9 x Gk Fg Fh=>?_)
   ⟨0,N1,[],[],ds,ut nT cap σ,_,I4,T.keep _ _ _ fK λb hb o e=>vp _ _ (A4 _ _ e),λb hb=>?_,uN _,rep.caps,?_,(Ext.refl sN).upd hD (sN.free hD),sN.free hD,au,uN _,.nil,by simpa using ec,rfl⟩
  ·unfold eP;rw[List.getElem?_append_left (by simpa using hi),List.getElem?_replicate,if_pos hi]
  ·obtain⟨m,hm,_⟩:=I9.loc;have k:aF N (upd N s2.heap.objs.size (.lst vs)):=λa o e=>by rw[a8 (λz=>by subst z;rw[Gk]at e;cases e)];exact e
   refine Lk s2.heap.objs.size g3.objs.size s4 H' (upd N s2.heap.objs.size (.lst vs)) vs m hD (I2.call' (ch:=fp) I9.os ((Un.laid A4 (vT _) hD).trans I9.base) I9.hok I9.bare λb hb=>⟨(f2 b hb).2.2.2.1,(f2 b hb).2.1,(f2 b hb).2.2.2.2.1,(f2 b hb).2.2.2.2.2⟩) hm (I2.fpOk (by rw[hC];exact Nat.le_succ _) I9.free) ⟨x.hh,x.bn.trans k,λa o e=>?_,λa o e=>?_⟩ au (Fh.mono k)
   ·by_cases z:a=s2.heap.objs.size
    ·subst z;rw[au]at e;cases e;exact Fg
    ·rw[a8 z]at e;exact x.nh _ _ e
   ·by_cases z:a=s2.heap.objs.size
    ·subst z;exact .inr hD
    ·rw[a8 z]at e;exact x.new _ _ e
  ·rw[a8 (Ll b hb)];exact(f2 b hb).1
  ·unfold eP ut;simp
 exact codeAny_compStart_list (jI _ rfl) (T.self _ 0 _ _ _ (T.keep _ _ _ fK λb hb o e=>vp _ _ (A4 _ _ e)) (jI _ rfl))
theorem zG (gi:X.calm=true) 
  (S:CompSc X scope cl) (cp:jy X N' scope cl nT cap) (hi:JI X tg bL fi)
  (hg:∀C s H fp,PG (eO X N' scope cl C s H fp) tg g) (y8:AM X.K nT kE g) (hc:∀C s H fp,JC (eO X N' scope cl C s H fp) lU fc) (he:∀C s H fp,JE (eO X N' scope cl C s H fp) m6 fe)
  (hs:∀x,foldedSetIterable bL X.env x=pure x:=by intro _;rfl):
  JE X (.ListComp m6 [⟨tg,bL,lU,0⟩] scope pos) (bY fi nT cap kE fc fe):=by
 intro aa s σ H Q I h;obtain⟨B,ρ,d,b,sB,rep,e,q⟩:=h;obtain⟨am,ei,e⟩:=oX e;have hsz:am.length<=sizeLine:=Decidable.byContradiction λz=>by rw[if_neg z]at e;cases e
 rw[if_pos hsz]at e;obtain⟨ds,ec,e⟩:=oY e;cases e
 rw[eval_ListComp];refine wpAny_comprehension_free (use:=none) rfl hs S.clos S.kind S.names (bG (hi aa s σ H (λJ H2=>∃N1,Ext B N1 H H2/\mi X.K J N1 am) I ⟨B,ρ,am,sB,rep,ei,λJ H2 N1 x1 j1=>⟨N1,x1,j1⟩⟩) λv s1 h1=>bG h1 λGg s2 h2=>?_);obtain⟨it,fp,tn,J,H2,e,I2,T,fK,f2,N1,x1,j1⟩:=h2;subst e;refine kP gi S cp hg y8 hc he I2 T fK f2 (rep.mono x1.bn) x1.nh j1 hsz ec (RR:=λacc C=>compPost (model X.prog X.w) X.A X.xe none (EP X aa σ Q) acc C) ?_;intro Dd C s' H' N vs m hD I' hm fC x hN hl;refine⟨m,hm,λh' gV=>⟨.ref Dd,H',?_,rfl,q _ H' N (x1.trans x) (.lst (eN.of hN) hl) λ_=>⟨Dd,vs,ds,rfl,rfl,x1.hh.free hD,hN,hl⟩⟩⟩;obtain⟨c0,c1,c2,c3,c4,c5⟩:=fC;exact I'.turned (t':=s'.toks) (λb o hb e=>(gV.2 b hb).trans e) c0 c1 c3 c4 c5
theorem zH (gi:X.calm=true) 
  (hN:X.N.Nodup) (Fl:X.N[i]? = some y) (hy:X.env.kindOf y=some .local)
  (A5:swapsWith (.ListComp m6 [⟨tg,bL,lU,0⟩] scope pos) (some (.Name y py)) spos.line X.env=pure true)
  (S:CompSc X scope cl) (cp:jy X N' scope cl nT cap) (hi:JI X tg bL fi)
  (hg:∀C s H fp,PG (eO X N' scope cl C s H fp) tg g) (y8:AM X.K nT kE g) (hc:∀C s H fp,JC (eO X N' scope cl C s H fp) lU fc) (he:∀C s H fp,JE (eO X N' scope cl C s H fp) m6 fe)
  (hs:∀x,foldedSetIterable bL X.env x=pure x:=by intro _;rfl):
  JS X (.Assign [.Name y py] (.ListComp m6 [⟨tg,bL,lU,0⟩] scope pos) spos) (b8 i (bY fi nT cap kE fc fe)):=by
 intro aa s σ H E I h;have h2:za (tD X.K (bY fi nT cap kE fc fe)) (iJ i) E σ H:=sG h;obtain⟨B,ρ,d,b,sB,rep,e,q⟩:=h2;obtain⟨am,ei,e⟩:=oX e;have hsz:am.length<=sizeLine:=Decidable.byContradiction λz=>by rw[if_neg z]at e;cases e
 rw[if_pos hsz]at e;obtain⟨ds,ec,e⟩:=oY e;cases e
 rw[exec_Assign_Name_used _ _ _ _ A5];refine wX (wpAny_standAt (wX ?_));show wpAny _ _ (do let _ ←comprehension (.ListComp m6 [⟨tg,bL,lU,0⟩] scope pos) scope X.env _ (newList []) false (eval bL X.env) (some (assign (.Name y py) X.env))) _ _ s;refine wX (wpAny_mono (wpAny_comprehension_free (use:=some (assign (.Name y py) X.env)) (Q:=λ_ s'=>SP X aa E .next s') rfl hs S.clos S.kind S.names
  (bG (hi aa s σ H (λJ H2=>∃N1,Ext B N1 H H2/\mi X.K J N1 am) I ⟨B,ρ,am,sB,rep,ei,λJ H2 N1 x1 j1=>⟨N1,x1,j1⟩⟩) λv s1 h1=>bG h1 λGg s2 h2=>?_)) (λ_ s' hq=>wY (wY hq)) λ_ _ e=>e)
 obtain⟨it,fp,tn,J,H2,e,I2,T,fK,f2,N1,x1,j1⟩:=h2;subst e;refine kP gi S cp hg y8 hc he I2 T fK f2 (rep.mono x1.bn) x1.nh j1 hsz ec (RR:=λacc C=>compPost (model X.prog X.w) X.A X.xe (some (assign (.Name y py) X.env)) (λ_ s'=>SP X aa E .next s') acc C) ?_;intro Dd C s' H' N vs m hD I' hm fC x Ju hl;show wpAny _ _ (assign (.Name y py) X.env (.ref Dd)) _ _ s';obtain⟨c0,c1,c2,c3,c4,c5⟩:=fC;refine wpAny_assign_Name (mB I' hN Fl (.inl hy) (r:=show aG (.ref Dd) (.ref Dd)from rfl) (λs9 I9 ⟨a,sb,ha⟩=>?_) (.inr hy));have nC:C≠a:=by
  rcases ha with z|z
  ·rw[z];exact c1
  ·exact λw=>c4 y a z w.symm
 refine⟨m,hm.sameBut sb nC,λh' gV=>⟨_,H',?_,q _ H' N (x1.trans x) (.lst (eN.of Ju) hl) λ_=>⟨Dd,vs,ds,rfl,rfl,x1.hh.free hD,Ju,hl⟩⟩⟩;exact I9.turned (t':=s9.toks) (λb o hb e=>(gV.2 b hb).trans e) c0 c1 c3 c4 c5
section
variable {X:Cx}{a b c e:Expr}{pos:Pos}
theorem PE.to (h:PE X e t)(k:∀σ H Q,t' σ H Q->t σ H Q):PE X e t':=λaa s σ H Q I q=>h aa s σ H Q I (k σ H Q q)
theorem PT.to (h:PT X e t)(k:∀σ H Q,t' σ H Q->t σ H Q):PT X e t':=λaa s σ H Q I q=>h aa s σ H Q I (k σ H Q q)
theorem PW.to (h:PW X e t)(k:∀σ H Q,t' σ H Q->t σ H Q):PW X e t':=λwh aa s σ H Q I q=>h wh aa s σ H Q I (k σ H Q q)
theorem PA.to (h:PA X es t)(k:∀σ H Q,t' σ H Q->t σ H Q):PA X es t':=λpos aa s σ H Q I q=>h pos aa s σ H Q I (k σ H Q q)
theorem PS.to {st:Stmt}{t t':TS}(h:PS X st t)(k:∀E σ H,t' E σ H->t E σ H):PS X st t':=λaa s σ H E I q=>h aa s σ H E I (k E σ H q)
theorem nN.to {st:List Stmt}{t t':TS}(h:nN X st t)(k:∀E σ H,t' E σ H->t E σ H):nN X st t':=λaa s σ H E I q=>h aa s σ H E I (k E σ H q)
theorem PI.to (h:PI X tg it t)(k:∀σ H Q,t' σ H Q->t σ H Q):PI X tg it t':=λaa s σ H Q I q=>h aa s σ H Q I (k σ H Q q)
theorem uv {K:Frag}{d:D}{v:V}(i:∀B,Is K B v d){σ:St}{H:Hp}{Q:VK}(h:tD K (fC d) σ H Q):tC v σ H Q:=by
 obtain⟨B,ρ,d',b,s,r,e,q⟩:=h;cases e
 exact q.one s (i B)
theorem af (i:Nat)(hN:X.N[i]? = some x:=by rfl)(hv:yF X.env.scope x:=by first|exact Or.inl rfl|exact Or.inr (Or.inl rfl)|exact Or.inr (Or.inr rfl))(hd:(x == ("__debug__" : Str))=false:=by decide)
  (jZ:(x == ("__classdict__" : Str))=false:=by decide):JE X (.Name x pos) (ag i):=PE.to (j0 hN hv hd jZ) λ_ _ _ h=>Ce h
theorem ak:JE X (.Constant (.int i) j pos) (fC (.int i)):=PE.to B1 λ_ _ _ h=>uv (λ_=>.int i) h
theorem ft:JE X (.Constant (.bool i) j pos) (fC (.bl i)):=PE.to DA λ_ _ _ h=>uv (λ_=>.bl i) h
theorem fO:JE X (.Constant .none j pos) (fC .non):=PE.to B3 λ_ _ _ h=>uv (λ_=>.non) h
theorem aA:JE X (.Constant (.str x) j pos) (fC (.str x)):=PE.to B4 λ_ _ _ h=>uv (λ_=>.str x) h
theorem zI (hg:Gl X x)(hm:X.mg x=some u)(r:aG v u)(i:∀B,Is X.K B v d)(hd:(x == ("__debug__" : Str))=false:=by decide):JE X (.Name x pos) (fC d):=PE.to (ku hg hm r hd) λ_ _ _ h=>uv i h
theorem aq (ho:bW X (binaryOp op) (rD X.K f))(ha:JE X a fa)(hb:JE X b fb):JE X (.BinOp a op b pos) (f2 f fa fb):=PE.to (DR ho ha hb) λ_ _ _ h=>zx h
theorem eQ (ho:bW X (compareOp op) (rD X.K f))(ha:JE X a fa)(hb:JE X b fb)(hm:behindInMarks op b=false:=by first|exact kH _ (by decide) (by decide)|rfl):JE X (.Compare a [op] [b] pos) (f2 f fa fb):=PE.to (zg ho ha hb hm) λ_ _ _ h=>zx h
theorem oe {K:Frag}{f:FE}{σ:St}{H:Hp}{Q:Bool->Hp->Prop}(h:uq K (br f) σ H Q):tD K f σ H λx H'=>∃k,x=.bl k/\Q k H':=by
 obtain⟨B,ρ,c,s,r,e,q⟩:=h;unfold br at e;split at e
 ·rename_i c' b' ef;cases e
  refine⟨B,ρ,.bl c,b',s,r,ef,λv H' N x i _=>?_⟩;cases i
  exact⟨c,rfl,q H' x.hh⟩
 ·cases e
theorem aI (ho:bW X (compareOp op) (rD X.K f))(ha:JE X a fa)(hb:JE X b fb)(hm:behindInMarks op b=false:=by first|exact kH _ (by decide) (by decide)|rfl):JT X (.Compare a [op] [b] pos) (br (f2 f fa fb)) :=
 PT.to (sv ho ha hb hm) λ_ _ _ h=>zx (oe h)
theorem bN (h:JE X e f)(he:∀lQ,isTrue e X.env lQ=(do let v ←lQ;standAt e.pos;holding [v] (truthy v)):=by intro _;rfl):JT X e (br f):=PT.to (B5 h he) λ_ _ _ q=>oe q
@[simp] noncomputable def dQ (f g:D->D->OB)(fa fb fc:FE):FE:=λρ=>(fa ρ).bind λx=>(fb ρ).bind λy=>match f x.1 y.1 with
 |some (.bl true,_)=>(fc ρ).bind λz=>g y.1 z.1
 |some (.bl false,_)=>some (.bl false,false)
 |_=>none
theorem pe {K:Frag}{f g:D->D->OB}{fa fb fc:FE}{σ:St}{H:Hp}{Q:VK}(h:tD K (dQ f g fa fb fc) σ H Q):qM (rD K f) (rD K g) (tD K fa) (tD K fb) (tD K fc) σ H Q:=by
 obtain⟨B,ρ,d,b,s,r,e,q⟩:=h;obtain⟨x,ex,e⟩:=oX e;obtain⟨y,ey,e⟩:=oX e;refine⟨B,ρ,x.1,x.2,s,r,ex,λv H1 N1 x1 i1 _=>⟨N1,ρ,y.1,y.2,x1.nh,r.mono x1.bn,ey,λv2 H2 N2 x2 i2 _=>?_⟩⟩;split at e
 ·rename_i b' ef;obtain⟨z,ez,e⟩:=oX e;refine⟨N2,x.1,y.1,.bl true,b',x2.nh,i1.mono x2.bn,i2,ef,λv3 H3 N3 x3 i3 _=>?_⟩;cases i3
  refine⟨true,rfl,?_⟩;rw[if_pos rfl];refine⟨N3,ρ,z.1,z.2,x3.nh,r.mono (x1.bn.trans (x2.bn.trans x3.bn)),ez,λv4 H4 N4 x4 i4 _=>⟨N4,y.1,z.1,d,b,x4.nh,i2.mono (x3.bn.trans x4.bn),i4,e,?_⟩⟩;exact q.into ((x1.trans x2).trans (x3.trans x4))
 ·rename_i b' ef;cases e
  refine⟨N2,x.1,y.1,.bl false,b',x2.nh,i1.mono x2.bn,i2,ef,λv3 H3 N3 x3 i3 _=>?_⟩;cases i3
  refine⟨false,rfl,?_⟩;rw[if_neg (by decide)];exact(q.into ((x1.trans x2).trans x3)).one x3.nh (.bl false)
 ·cases e
theorem pf (ho:bW X (compareOp op) (rD X.K f))(sj:bW X (compareOp vn) (rD X.K g))(ha:JE X a fa)(hb:JE X b fb)(hc:JE X c fc)
  (hm:lastMarks [op,vn] [b,c]=false:=by with_unfolding_all rfl):JE X (.Compare a [op,vn] [b,c] pos) (dQ f g fa fb fc):=PE.to (wj ho sj ha hb hc hm) λ_ _ _ h=>pe h
theorem ph (ho:bW X (compareOp op) (rD X.K f))(sj:bW X (compareOp vn) (rD X.K g))(ha:JE X a fa)(hb:JE X b fb)(hc:JE X c fc)
  (hm:lastMarks [op,vn] [b,c]=false:=by with_unfolding_all rfl):JT X (.Compare a [op,vn] [b,c] pos) (br (dQ f g fa fb fc)):=PT.to (wk ho sj ha hb hc hm) λ_ _ _ h=>pe (oe h)
theorem zJ {K:Frag}{f g:FT}{σ:St}{H:Hp}{Q:Bool->Hp->Prop}(h:uq K (gX f g) σ H Q):DB (uq K f) (uq K g) σ H Q:=by
 obtain⟨B,ρ,c,s,r,e,q⟩:=h;unfold gX at e;cases ef:f ρ with
 |none=>rw[ef]at e;cases e
 |some k=>
  rw[ef]at e;refine⟨B,ρ,k,s,r,ef,λH1 h1=>?_⟩;cases k with
  |true=>rw[if_pos rfl];exact⟨B,ρ,c,s.trans h1,r,e,λH2 h2=>q H2 (h1.trans h2)⟩
  |false=>rw[if_neg (by decide)];cases e;exact q H1 h1
theorem Ci {K:Frag}{f g:FT}{σ:St}{H:Hp}{Q:Bool->Hp->Prop}(h:uq K (cn f g) σ H Q):IH (uq K f) (uq K g) σ H Q:=by
 obtain⟨B,ρ,c,s,r,e,q⟩:=h;unfold cn at e;cases ef:f ρ with
 |none=>rw[ef]at e;cases e
 |some k=>
  rw[ef]at e;refine⟨B,ρ,k,s,r,ef,λH1 h1=>?_⟩;cases k with
  |false=>rw[if_neg (by decide)];exact⟨B,ρ,c,s.trans h1,r,e,λH2 h2=>q H2 (h1.trans h2)⟩
  |true=>rw[if_pos rfl];cases e;exact q H1 h1
theorem zK {K:Frag}{f:FT}{σ:St}{H:Hp}{Q:Bool->Hp->Prop}(h:uq K (bX f) σ H Q):DC (uq K f) σ H Q:=by
 obtain⟨B,ρ,c,s,r,e,q⟩:=h;obtain⟨k,ek,e⟩:=oY e;subst e;exact⟨B,ρ,k,s,r,ek,λH1 h1=>q H1 h1⟩
variable {rest:List Expr}
theorem og (ha:JT X a f):JW X (.BoolOp .And [a] pos) f:=yX ha
theorem c9 (ha:JT X a f):JW X (.BoolOp .Or [a] pos) f:=B6 ha
theorem oh (ha:JT X a f)(hb:JW X (.BoolOp .And (b::rest) pos) g):JW X (.BoolOp .And (a::b::rest) pos) (gX f g):=PW.to (B7 ha hb) λ_ _ _ h=>zJ h
theorem cN (ha:JT X a f)(hb:JW X (.BoolOp .Or (b::rest) pos) g):JW X (.BoolOp .Or (a::b::rest) pos) (cn f g):=PW.to (DD ha hb) λ_ _ _ h=>Ci h
theorem gl (h:JW X e f):JT X e f:=h.pt
theorem bZ (ha:JT X a f):JT X (.UnaryOp .Not a pos) (bX f):=PT.to (B8 ha) λ_ _ _ h=>zK h
@[simp] noncomputable def j7 (f g:FE):FE:=λρ=>match f ρ with|some (.bl true,_)=>g ρ|some (.bl false,_)=>some (.bl false,false)|_=>none
@[simp] noncomputable def Cj (f g:FE):FE:=λρ=>match f ρ with|some (.bl true,_)=>some (.bl true,false)|some (.bl false,_)=>g ρ|_=>none
@[simp] noncomputable def wJ (f:FE):FE:=λρ=>match f ρ with|some (.bl c,_)=>some (.bl (!c),false)|_=>none
theorem fP (ha:JE X a f)(hb:JE X (.BoolOp .And (b::rest) pos) g):JE X (.BoolOp .And (a::b::rest) pos) (j7 f g):=PE.to (BA ha hb) λσ H Q h=>by
 obtain⟨B,ρ,d,k,s,r,e,q⟩:=h;unfold j7 at e;split at e
 ·rename_i b' ef;refine⟨B,ρ,_,_,s,r,ef,λv H1 N1 x1 i1 _=>?_⟩;cases i1
  refine⟨true,rfl,?_⟩;rw[if_pos rfl];exact⟨N1,ρ,d,k,x1.nh,r.mono x1.bn,e,q.into x1⟩
 ·rename_i b' ef;cases e
  refine⟨B,ρ,_,_,s,r,ef,λv H1 N1 x1 i1 _=>?_⟩;cases i1
  refine⟨false,rfl,?_⟩;rw[if_neg (by decide)];exact(q.into x1).one x1.nh (.bl false)
 ·cases e
theorem wK (ha:JE X a f)(hb:JE X (.BoolOp .Or (b::rest) pos) g):JE X (.BoolOp .Or (a::b::rest) pos) (Cj f g):=PE.to (DG ha hb) λσ H Q h=>by
 obtain⟨B,ρ,d,k,s,r,e,q⟩:=h;unfold Cj at e;split at e
 ·rename_i b' ef;cases e
  refine⟨B,ρ,_,_,s,r,ef,λv H1 N1 x1 i1 _=>?_⟩;cases i1
  refine⟨true,rfl,?_⟩;rw[if_pos rfl];exact(q.into x1).one x1.nh (.bl true)
 ·rename_i b' ef;refine⟨B,ρ,_,_,s,r,ef,λv H1 N1 x1 i1 _=>?_⟩;cases i1
  refine⟨false,rfl,?_⟩;rw[if_neg (by decide)];exact⟨N1,ρ,d,k,x1.nh,r.mono x1.bn,e,q.into x1⟩
 ·cases e
theorem eT (h:JE X a f):JE X (.BoolOp op [a] pos) f:=B9 h
theorem Ck (ha:JE X a f):JE X (.UnaryOp .Not a pos) (wJ f):=PE.to (BB ha) λσ H Q h=>by
 obtain⟨B,ρ,d,k,s,r,e,q⟩:=h;unfold wJ at e;split at e
 ·rename_i c b' ef;cases e
  refine⟨B,ρ,_,_,s,r,ef,λv H1 N1 x1 i1 _=>?_⟩;cases i1
  exact⟨c,rfl,(q.into x1).one x1.nh (.bl _)⟩
 ·cases e
variable {es:List Expr}
theorem ai:JA X [] ah:=PA.to fN λ_ _ _ h=>z0 h
theorem aj (ha:JE X e f)(hr:JA X es g)(hs:starEach (e::es) X.env=(false,eval e X.env)::starEach es X.env:=by rfl):JA X (e::es) (ae f g):=PA.to (dD ha hr hs) λ_ _ _ h=>wB h
@[simp] noncomputable def bM:List D->OB:=λds=>if ds.length<=sizeLine then some (.tup ds,false)else none
@[simp] noncomputable def aS:List D->OB:=λds=>if ds.length<=sizeLine then some (.lst ds,true)else none
theorem bO {x1}(h:JA X es f):JE X (.Tuple es x1 pos) (fA bM f):=PE.to (BS h) λσ H Q q=>by
 obtain⟨B,ρ,ds,s,r,e,k⟩:=zy q;refine⟨B,ρ,ds,s,r,e,λvs H1 N1 x1 i1=>?_⟩;obtain⟨B2,Jv,d,b,s2,i2,e2,k2⟩:=k vs H1 N1 x1 i1;unfold bM at e2;split at e2
 ·rename_i hz;cases e2
  refine⟨by rw[i2.length];exact hz,λp hp=>k2 _ _ (upd B2 p (.tup vs)) (.laid s2 hp) (.tup (eZ.of au) (i2.mono (Ext.laid s2 hp).bn)) (by simp)⟩
 ·cases e2
theorem bI (h:JA X es f):JE X (.List es pos) (fA aS f):=PE.to (BU h) λσ H Q q=>by
 obtain⟨B,ρ,ds,s,r,e,k⟩:=zy q;refine⟨B,ρ,ds,s,r,e,λvs H1 N1 x1 i1=>?_⟩;obtain⟨B2,Jv,d,b,s2,i2,e2,k2⟩:=k vs H1 N1 x1 i1;unfold aS at e2;split at e2
 ·rename_i hz;cases e2
  refine⟨by rw[i2.length];exact hz,λp hp=>k2 _ _ (upd B2 p (.lst vs)) (.laid s2 hp) (.lst (eN.of au) (i2.mono (Ext.laid s2 hp).bn)) λ_=>⟨p,vs,Jv,rfl,rfl,hp,au,i2.mono (Ext.laid s2 hp).bn⟩⟩
 ·cases e2
end
section
variable {X:Cx}
theorem gt (h:bW X f r)(k:∀x y H Q,r' x y H Q->r x y H Q):bW X f r':=λaa s σ H x y v u Q I rx ry q=>h aa s σ H x y v u Q I rx ry (k x y H Q q)
noncomputable def yJ (f g:D->D->OB):D->D->OB:=λx y=>match f x y with|some r=>some r|none=>g x y
theorem kQ (h:bW X s (rD X.K f))(h':bW X s (rD X.K g)):bW X s (rD X.K (yJ f g)):=by
 intro aa st σ H x y v u Q I rx ry q;obtain⟨B,dx,dy,d,b,sB,ix,iy,e,q⟩:=q;unfold yJ at e;split at e
 ·rename_i r ef;cases e
  exact h aa st σ H x y v u Q I rx ry ⟨B,dx,dy,_,_,sB,ix,iy,ef,q⟩
 ·exact h' aa st σ H x y v u Q I rx ry ⟨B,dx,dy,_,_,sB,ix,iy,e,q⟩
@[simp] noncomputable def pi (C:Int->Int->Bool)(g:Int->Int->D):D->D->OB
 |.int i,.int j=>if C i j=true then some (g i j,false)else none
 |_,_=>none
theorem iP (h:bW X s (rI C g))(hC:∀i j,C' i j=true->C i j)(hg:∀i j B,Is X.K B (g i j) (g' i j)):bW X s (rD X.K (pi C' g')):=by
 refine gt h λx y H Q q=>?_;obtain⟨B,dx,dy,d,b,sB,ix,iy,e,q⟩:=q;cases ix<;>try (cases e;done)
 cases iy<;>try (cases e;done)
 rename_i i j;simp only[pi]at e;split at e
 ·rename_i hc;cases e
  exact⟨i,j,rfl,rfl,hC i j hc,q.one sB (hg i j B)⟩
 ·cases e
theorem fu (h:bW X s (zc g))(hg:∀i j B,Is X.K B (g i j) (g' i j)):bW X s (rD X.K (pi (λ_ _=>true) g')):=by
 refine gt h λx y H Q q=>?_;obtain⟨B,dx,dy,d,b,sB,ix,iy,e,q⟩:=q;cases ix<;>try (cases e;done)
 cases iy<;>try (cases e;done)
 rename_i i j;simp only[pi,if_true]at e;cases e
 exact⟨i,j,rfl,rfl,q.one sB (hg i j B)⟩
abbrev Cm:D->D->OB:=pi (λ_ _=>true) λi j=>.int (i+j)
abbrev Cn:D->D->OB:=pi (λ_ _=>true) λi j=>.int (i - j)
abbrev Ep:D->D->OB:=pi (λi j=>decide ((-18446744073709551616<i/\i<18446744073709551616)∨(-18446744073709551616<j/\j<18446744073709551616))) λi j=>.int (i*j)
abbrev bt:D->D->OB:=pi (λ_ j=>decide (0<j/\j<1073741824)) λi j=>.int (i / j)
abbrev aP:D->D->OB:=pi (λ_ j=>decide (0<j)) λi j=>.int (i % j)
abbrev Co:D->D->OB:=pi (λi j=>decide (0<=j/\j<=1000000/\i.natAbs<18446744073709551616)) λi j=>.int (i ^ j.toNat)
abbrev IS:D->D->OB:=pi (λ_ _=>true) λi j=>.bl (decide (i<j))
abbrev GN:D->D->OB:=pi (λ_ _=>true) λi j=>.bl (decide (i<=j))
abbrev Dq:D->D->OB:=pi (λ_ _=>true) λi j=>.bl (decide (j<i))
abbrev IT:D->D->OB:=pi (λ_ _=>true) λi j=>.bl (decide (j<=i))
theorem Er:bW X (binaryOp .Add) (rD X.K Cm):=fu BM λ_ _ _=>.int _
theorem AN:bW X (binaryOp .Sub) (rD X.K Cn):=fu BN λ_ _ _=>.int _
theorem Es:bW X (binaryOp .Mult) (rD X.K Ep):=iP BO (λi j h=>by have h:=of_decide_eq_true h;unfold ze;omega) λ_ _ _=>.int _
theorem bj:bW X (binaryOp .FloorDiv) (rD X.K bt):=iP zf (λi j h=>by have h:=of_decide_eq_true h;unfold DU;omega) λ_ _ _=>.int _
theorem bq:bW X (binaryOp .Mod) (rD X.K aP):=iP BP (λ_ _ h=>of_decide_eq_true h) λ_ _ _=>.int _
theorem Et:bW X (binaryOp .Pow) (rD X.K Co):=iP BQ (λi j h=>by have h:=of_decide_eq_true h;unfold DV;omega) λ_ _ _=>.int _
theorem GO:bW X (compareOp .Lt) (rD X.K IS):=fu DW λ_ _ _=>.bl _
theorem GP:bW X (compareOp .LtE) (rD X.K GN):=fu DX λ_ _ _=>.bl _
theorem Cp:bW X (compareOp .Gt) (rD X.K Dq):=fu DY λ_ _ _=>.bl _
theorem GQ:bW X (compareOp .GtE) (rD X.K IT):=fu DZ λ_ _ _=>.bl _
@[simp] noncomputable def Dr (C:Str->Str->Bool)(g:Str->Str->D):D->D->OB
 |.str i,.str j=>if C i j=true then some (g i j,false)else none
 |_,_=>none
abbrev zL:D->D->OB:=Dr (λi j=>decide (i.length+j.length<=sizeLine)) λi j=>.str (i++j)
abbrev FX:D->D->OB:=Dr (λ_ _=>true) λi j=>.bl (!decide (j.cps.toList<i.cps.toList))
theorem Cq:bW X (binaryOp .Add) (rD X.K zL):=by
 refine gt qN λx y H Q q=>?_;obtain⟨B,dx,dy,d,b,sB,ix,iy,e,q⟩:=q;cases ix<;>try (cases e;done)
 cases iy<;>try (cases e;done)
 rename_i i j;simp only[zL,Dr]at e;split at e
 ·rename_i hc;cases e
  exact⟨i,j,rfl,rfl,of_decide_eq_true hc,q.one sB (.str _)⟩
 ·cases e
theorem Eu:bW X (compareOp .LtE) (rD X.K FX):=by
 intro aa s σ H x y v u Q I rx ry q;obtain⟨B,dx,dy,d,b,sB,ix,iy,e,q⟩:=q;cases ix<;>try (cases e;done)
 cases iy<;>try (cases e;done)
 rename_i i j;simp only[FX,Dr,if_true]at e;cases e
 obtain⟨t,rfl⟩:=rx;obtain⟨t',rfl⟩:=ry;exact PySem.P.le_str ⟨.bl _,H,I,rfl,q.one sB (.bl _)⟩
end
section
variable {X:Cx}{a b c e:Expr}{pos:Pos}{st:Stmt}{rest:List Stmt}
theorem fQ:oK X [] aY:=nN.to yY λ_ _ _ h=>wE h
theorem al (h1:JS X st g)(h2:oK X rest h):oK X (st::rest) (aC g h):=nN.to (wb h1 h2) λ_ _ _ q=>z4 q
theorem bu (h1:JS X st g):oK X [st] g:=yZ h1
theorem gY {c:Expr}{a b:List Stmt}{fc:FT}{g h:FS}(hc:JT X c fc)(ha:oK X a g)(hb:oK X b h):JS X (.If c a b pos) (eJ fc g h):=PS.to (DK hc ha hb) λ_ _ _ q=>Cf q
theorem wL (he:JE X e f):JS X (.Return (some e) pos) (aW f):=PS.to (wc he) λ_ _ _ q=>z5 q
theorem kz (i:Nat)(hN:X.N[i]? = some x:=by rfl)(hv:yF X.env.scope x:=by first|exact Or.inl rfl|exact Or.inr (Or.inl rfl)|exact Or.inr (Or.inr rfl))(hd:(x == ("__debug__" : Str))=false:=by decide)
  (jZ:(x == ("__classdict__" : Str))=false:=by decide):JS X (.Return (some (.Name x p)) pos) (iN i):=PS.to (wc (j0 hN hv hd jZ)) λ_ _ _ q=>wF q
theorem aR (hN:X.N.Nodup)(he:JE X e f)(hi:X.N[i]? = some x:=by rfl)(hx:Bz X.env.scope x:=by first|exact Or.inl rfl|exact Or.inr rfl)(hs:swapsWith e (some (.Name x p)) pos.line X.env=pure false:=by rfl)
  (hf:X.fn x=true∨X.env.scope.names.lookup x=some .local:=by first|exact .inl rfl|exact .inr rfl):JS X (.Assign [.Name x p] e pos) (b8 i f):=PS.to (BI hN hi hx he hs hf) λ_ _ _ q=>sG q
theorem Cr (hp:PassesOwn (model X.prog X.w) X.A X.env X.xe)(hc:X.calm=true)(hi:JI X tg bL fi)(hg:PG X tg t)(ht:z7 X.K kE t)(hb:oK X body g)
  (hs:∀x,foldedSetIterable bL X.env x=pure x:=by intro _;rfl):JS X (.For tg bL body [] pos) (iO fi kE g):=PS.to (wg hp hc hi hg hb hs) λ_ _ _ q=>z8 ht q
theorem zM (hp:PassesOwn (model X.prog X.w) X.A X.env X.xe)(hc:X.calm=true)(hi:PI X tg bL (FW X.K fi))(hg:PG X tg t)(ht:z7 X.K kE t)(hb:oK X body g)
  (hs:∀x,foldedSetIterable bL X.env x=pure x:=by intro _;rfl):JS X (.For tg bL body [] pos) (jL fi kE g):=PS.to (wg hp hc hi hg hb hs) λ_ _ _ q=>wI ht q
theorem ip (he:JE X e f)(hN:X.N[i]? = some x:=by rfl)(hv:yF X.env.scope x:=by first|exact Or.inl rfl|exact Or.inr (Or.inl rfl)|exact Or.inr (Or.inr rfl))(hd:(x == ("__debug__" : Str))=false:=by decide)
  (jZ:(x == ("__classdict__" : Str))=false:=by decide)
  (fG:attributeBase (.Name x p) "append" X.env (eval (.Name x p) X.env)=eval (.Name x p) X.env:=by rfl)
  (oI:((backTo c6 (starEach [e] X.env)).all (λx=>!x.1) && (backToKw c6 (keywordEach [] X.env)).all (λx=>x.1.isSome)
   && decide ([e].length+([]:List Keyword).length+(if([]:List Keyword).isEmpty then 0 else 1)<30))=true:=by rfl)
  (fH:(dI.endLine == c6.line)=true:=by rfl) (hs:starEach [e] X.env=[(false,eval e X.env)]:=by rfl) (A5:swapsWith (.Call (.Attribute (.Name x p) "append" dI) [e] [] c6) none pos.line X.env=pure false:=by rfl):
  JS X (.Expr (.Call (.Attribute (.Name x p) "append" dI) [e] [] c6) pos) (ij i f):=by
 refine PS.to (nO (sD PySem.F.plainAttrs_list PySem.F.slot_list_append PySem.F.type_list_append mI (j0 hN hv hd jZ) (dD he fN hs) fG oI fH hs rfl) A5) λE σ H q=>?_;obtain⟨a,us,h1,h2,k⟩:=z6 q;exact⟨_,h1,.inl ⟨rfl,us,eN.of h2⟩,k⟩
end
@[simp] noncomputable def aL (g:FS)(n k:Nat):List D->OB:=λds=>if ds.length=n then
 match g (ds.map (λd=>some (d,false))++List.replicate k none) with
 |some (.rt d b)=>some (d,b)
 |some (.nx _)=>some (.non,false)
 |_=>none
 else none
def AO (K:Frag)(f:List D->OB):Sp:=λvs H Q _=>∃(B:Hp)(ds:List D)(d:D)(b:Bool),(aF B H/\Tb K B)/\IsL K B vs ds/\f ds=some (d,b)/\Fin K B H d b Q
theorem pq {K:Frag}{B H:Hp}{vs:List V}{ds:List D}{N:List Str}(sB:aF B H)(tb:Tb K B)(i:IsL K B vs ds):cx K B H B H (L2.gf N vs) (ds.map (λd=>some (d,false))++List.replicate (N.length - vs.length) none):=by
 have nf:∀(j:Nat)(d:D)(b:Bool),(ds.map (λd=>some (d,false))++List.replicate (N.length - vs.length) none:Env)[j]? = some (some (d,b))->b=false/\ds[j]? = some d:=λj d b e=>by
  by_cases hj:j<ds.length
  ·rw[List.getElem?_append_left (by simpa using hj),vA]at e;obtain⟨d',h1,h2⟩:=oY e;cases h2
   exact⟨rfl,h1⟩
  ·rw[List.getElem?_append_right (by simpa using Nat.not_lt.mp hj),List.getElem?_replicate]at e;split at e<;>cases e
 have no:∀a,¬own (L2.gf N vs) (ds.map (λd=>some (d,false))++List.replicate (N.length - vs.length) none) a:=λa ⟨j,d,h,_⟩=>by
  obtain⟨z,_⟩:=nf j d true h;cases z
 refine⟨sB,tb,.refl sB,?_,λj d e=>?_,λj d e=>?_,λj k a d e h=>?_⟩
 ·unfold L2.gf;rw[uZ,uZ,vH,vH,List.length_replicate,List.length_replicate,i.length]
 ·obtain⟨_,e1⟩:=nf j d false e;obtain⟨v,h1,h2⟩:=i.get e1;refine⟨v,?_,h2.mono λa o e=>by rw[bH (no a)];exact e⟩;unfold L2.gf;have hj:j<vs.length:=(vV h1).1;rw[List.getElem?_append_left (by simpa using hj),vA,h1]<;>rfl
 ·obtain⟨z,_⟩:=nf j d true e;cases z
 ·obtain⟨z,_⟩:=nf j d true h;cases z
section
variable {P:Program}{w:World}{K:Frag}{mg:Str->Option Value}{base:Heap}
theorem Ev {x qual:Str}{st:Stmt}{f:Addr}{fd:FuncData}{N ps:List Str}{k:Nat}{g:FS}(F:CO K x qual st f fd)(S:FnScope N ps (ax st))
  (hb:∀(cw:Value)(A:Around)(outer:List PySem.Env)(s:Shared)(H:Hp)(E:XK),dr k (A.deeper (envOfC qual (ax st) s.heap.objs.size f cw))->oK (ke qW P w K mg base N qual (ax st) f cw A outer s H E).nox (bD st) g):
  jJ P w K mg base qW (k+1) f fd ps (AO K (aL g ps.length (N.length - ps.length))):=by
 have len:∀vs H Q E,AO K (aL g ps.length (N.length - ps.length)) vs H Q E->vs.length=ps.length:=λvs H Q E h=>by
  obtain⟨B,ds,d,b,sB,i,e,q⟩:=h;unfold aL at e;split at e
  ·rename_i hl;rw[i.length];exact hl
  ·cases e
 refine F.ok S len λcw A outer s H vs Q E hr h=>⟨_,hb cw A outer s H E hr,?_⟩;have bp:=len vs H Q E h;obtain⟨B,ds,d,b,sB,i,e,q⟩:=h;unfold aL at e;rw[if_pos (by rw[←i.length];exact bp)]at e;have s0:=pq (N:=N) sB.1 sB.2 i;rw[bp]at s0;split at e
 ·rename_i d' b' eg;cases e
  exact⟨B,H,_,_,⟨B,s0⟩,eg,λv H' N' x' i' f'=>q v H' N' x' i' f'⟩
 ·rename_i ρ' eg;cases e
  exact⟨B,H,_,_,⟨B,s0⟩,eg,λσ' H' ⟨N',s'⟩=>q .non H' N' s'.ext .non (by simp)⟩
 ·cases e
structure Fn (P:Program)(w:World)(K:Frag)(mg:Str->Option Value)(base:Heap)(k:Nat)(x:Str)(f:List D->OB):Prop where
 ex:∃(ad:Addr)(fd:FuncData)(ps:List Str),jJ P w K mg base qW k ad fd ps (AO K f)/\mg x=some (.ref ad)/\PySem.W.keepIn K (.ref ad)=true/\mC K fd ps []
theorem Fn.eq (F:Fn P w K mg base k x f)(h:∀ds r,f' ds=some r->f ds=some r):Fn P w K mg base k x f':=by
 obtain⟨ad,fd,ps,F1,h2⟩:=F.ex;exact⟨ad,fd,ps,F1.imp λvs H Q E ⟨B,ds,d,b,sB,i,e,q⟩=>⟨B,ds,d,b,sB,i,h _ _ e,q⟩,h2⟩
end
theorem sJ (F:Fn X.prog X.w X.K X.mg X.base k x f)(hr:dr k X.A)(ha:JA X (e::es) fa)(hg:Gl X x:=by rfl)
  (qD:(x == ("__debug__" : Str))=false:=by decide) (he:starEach (e::es) X.env=(false,eval e X.env)::starEach es X.env:=by rfl) (kD:(backTo pos (starEach es X.env)).any (·.1)=false:=by rfl):
  JE X (.Call (.Name x p) (e::es) [] pos) (fA f fa):=by
 obtain⟨ad,fd,ps,F1,hm,hk,hb⟩:=F.ex;refine PE.to (zi F1 hr hg hm hk hb .nil Eh ha qD he kD) λσ H Q q=>?_;obtain⟨B,ρ,d,b,s,r,e,q⟩:=q;obtain⟨ds,ex,e⟩:=oX e;exact⟨B,ρ,ds,s,r,ex,λvs H1 N1 x1 i1=>by
  show AO X.K f (vs++[]) H1 Q _;rw[uQ];exact⟨N1,ds,d,b,⟨x1.nh,r.tb.mono x1.bn⟩,i1,e,q.into x1⟩⟩
mutual
@[simp] def ci:D->D->Bool
 |.non,.non=>true
 |.bl a,.bl b=>a == b
 |.bl a,.int b=>decide ((if a then 1 else 0)=b)
 |.int a,.bl b=>decide (a=(if b then 1 else 0))
 |.int a,.int b=>decide (a=b)
 |.str a,.str b=>decide (a=b)
 |.tup xs,.tup ys=>gm xs ys
 |.lst xs,.lst ys=>gm xs ys
 |_,_=>false
@[simp] def gm:List D->List D->Bool
 |[],[]=>true
 |x::xs,y::ys=>ci x y && gm xs ys
 |_,_=>false
end
@[simp] theorem pr (a:Str)(b:Str):ci (.str a) (.str b)=decide (a=b):=by simp only[ci]
@[simp] noncomputable def aJ:Nat->D->Bool
 |_,.non=>true
 |_,.bl _=>true
 |_,.int _=>true
 |_,.str _=>true
 |_,.ty _=>false
 |_,.dk _ _=>false
 |_,.dt _ _=>false
 |0,.tup _=>false
 |0,.lst _=>false
 |n+1,.tup ds=>ds.all (aJ n)
 |n+1,.lst ds=>ds.all (aJ n)
theorem pv:∀ {xs ys:List D},gm xs ys=true->xs.length=ys.length
 |[],[],_=>rfl
 |x::xs,y::ys,h=>by
  simp only[gm,vC]at h;rw[vD,vD,pv h.2]
 |[],_::_,h=>by simp[gm]at h
 |_::_,[],h=>by simp[gm]at h
theorem sK (h:xs.length≠ys.length):gm xs ys=false:=by
 cases e:gm xs ys with
 |false=>rfl
 |true=>exact absurd (pv e) h
theorem iq (f:Nat->Bool):∀ {xs ys:List D},xs.length=ys.length->(∀(j:Nat) x y,xs[j]? = some x->ys[j]? = some y->f j=ci x y)->(List.range xs.length).all f=gm xs ys
 |[],[],_,_=>by simp[gm]
 |x::xs,y::ys,hl,h=>by
  have e:=iq (λj=>f (j+1)) (xs:=xs) (ys:=ys) (by simpa using hl) λj a b h1 h2=>h (j+1) a b (by simpa using h1) (by simpa using h2);rw[vD,List.range_succ_eq_map,List.all_cons,List.all_map,gm,←h 0 x y rfl rfl,←e];rfl
 |[],_::_,hl,_=>by simp at hl
 |_::_,[],hl,_=>by simp at hl
section
variable {X:Cx}{aa:List (Addr×Obj)}{σ:St}{H:Hp}{s:Shared}
theorem sL (I:Inv X aa σ H s)(h1:eZ X.K H a vs)(h2:eN X.K H a ws):False:=by
 obtain⟨its,_,⟨o,e,c,_⟩,_⟩:=I.tuple h1;obtain⟨its',_,⟨o',n',e',c',_⟩,_⟩:=I.list h2;rw[e]at e';cases e';rw[c]at c';injection c' with z;exact absurd z (by decide)
theorem sM (I:Inv X aa σ H s)(e:s.heap.get? a=some o)(d:o.data=.seq its n):(∀aZ ob,H a≠some (.dK aZ ob))/\∀aZ,H a≠some (.dT aZ):=by
 refine⟨λaZ ob h=>?_,λaZ h=>?_⟩
 ·obtain⟨_,_,_,_,_,o',es,ep,e',_,d',_⟩:=(show bC X.prog X.w H s.heap a (.dK aZ ob)from I.hok a _ h);rw[e]at e';cases e';rw[d]at d';cases d'
 ·obtain⟨_,_,_,_,o',es,ep,e',_,d',_⟩:=(show bC X.prog X.w H s.heap a (.dT aZ)from I.hok a _ h);rw[e]at e';cases e';rw[d]at d';cases d'
theorem px (I:Inv X aa σ H s)(h1:eZ X.K H a vs):(∀aZ ob,H a≠some (.dK aZ ob))/\∀aZ,H a≠some (.dT aZ):=by
 obtain⟨its,_,⟨o,e,c,n,d⟩,_⟩:=I.tuple h1;exact sM I e d
theorem pz (I:Inv X aa σ H s)(h1:eN X.K H a vs):(∀aZ ob,H a≠some (.dK aZ ob))/\∀aZ,H a≠some (.dT aZ):=by
 obtain⟨its,_,p,_⟩:=I.list h1;obtain⟨o,e,c,n,d⟩:=p.isList;exact sM I e d
theorem sO (I:Inv X aa σ H s):∀(n:Nat){v:V}{d d':D},Is X.K H v d->Is X.K H v d'->aJ n d=true->ci d d'=true:=by
 have lists:∀ {p:D->Bool}(ih:∀ {v:V}{d d':D},Is X.K H v d->Is X.K H v d'->p d=true->ci d d'=true) {vs:List V}{ds vN:List D},IsL X.K H vs ds->IsL X.K H vs vN->ds.all p=true->gm ds vN=true:=by
  intro p ih vs;induction vs with
  |nil=>intro ds vN h h' _;cases h;cases h';simp[gm]
  |cons v vs Ln=>
   intro ds vN h h' hp;cases h with
   |cons h1 h2=>
    cases h' with
    |cons h3 h4=>
     rw[List.all_cons,vC]at hp;rw[gm,ih h1 h3 hp.1,Ln h2 h4 hp.2];rfl
 intro n;induction n with
 |zero=>
  intro v d d' h h' hp;cases h<;>cases h'<;>first|(simp[aJ]at hp;done)|simp[ci]
 |succ n ih=>
  intro v d d' h h' hp;cases h with
  |tup h1 h2=>
   cases h' with
   |tup h3 h4=>
    rw[I.tuple_inj h3 h1]at h4;rw[ci];exact lists ih h2 h4 (by simpa [aJ]using hp)
   |lst h3 h4=>exact(sL I h1 h3).elim
   |dk h3 _ _=>exact((px I h1).1 _ _ h3).elim
   |dt h3 _ _=>exact((px I h1).2 _ h3).elim
  |lst h1 h2=>
   cases h' with
   |lst h3 h4=>
    rw[I.list_inj h3 h1]at h4;rw[ci];exact lists ih h2 h4 (by simpa [aJ]using hp)
   |tup h3 h4=>exact(sL I h3 h1).elim
   |dk h3 _ _=>exact((pz I h1).1 _ _ h3).elim
   |dt h3 _ _=>exact((pz I h1).2 _ h3).elim
  |ty=>simp[aJ]at hp
  |dk=>simp[aJ]at hp
  |dt=>simp[aJ]at hp
  |_=>cases h'<;>simp[ci]
theorem AQ {α:Type}{p:α->Bool}{l:List α}{j:Nat}{x:α}(h:l.all p=true)(e:l[j]? = some x):p x=true:=List.all_eq_true.mp h x (List.mem_of_getElem? e)
theorem p0 {A:Around}{p:D->Bool}(ih:∀ {v1 v2:V}{d1 d2:D}{u1 u2:Value},p d1=true->p d2=true->Is X.K H v1 d1->Is X.K H v2 d2->aG v1 u1->aG v2 u2->SeqAt.EqAt A s u1 u2 (ci d1 d2))
  {vs ws:List V}{ds es:List D}{its m8:List Value}(i1:IsL X.K H vs ds) (i2:IsL X.K H ws es) (r1:a9 vs its) (r2:a9 ws m8) (p1:ds.all p=true) (p2:es.all p=true):
  ∀j (h1:j<its.toArray.size) (h2:j<m8.toArray.size),SeqAt.EqAt A s its.toArray[j] m8.toArray[j] (ci (ds.getD j .non) (es.getD j .non)):=by
 intro j h1 h2;rw[vG]at h1 h2;have l1:=r1.length;have l2:=r2.length;have l3:=i1.length;have l4:=i2.length;have hv:j<vs.length:=by omega
 have hw:j<ws.length:=by omega
 have hd:j<ds.length:=by omega
 have he:j<es.length:=by omega
 obtain⟨u,e1,q1⟩:=r1.get (i:=j) (x:=vs[j]) (by simp[hv]);obtain⟨u',e2,q2⟩:=r2.get (i:=j) (x:=ws[j]) (by simp[hw]);obtain⟨v,e3,q3⟩:=i1.get (i:=j) (d:=ds[j]) (by simp[hd]);obtain⟨w,e4,q4⟩:=i2.get (i:=j) (d:=es[j]) (by simp[he]);have a1:its.toArray[j]=u:=by have z:=(vV e1).2;simpa using z
 have a2:m8.toArray[j]=u':=by have z:=(vV e2).2;simpa using z
 have a3:vs[j]=v:=by simpa [hv]using e3
 have a4:ws[j]=w:=by simpa [hw]using e4
 have a5:ds.getD j .non=ds[j]:=by simp[List.getD,hd]
 have a6:es.getD j .non=es[j]:=by simp[List.getD,he]
 rw[a1,a2,a5,a6];exact ih (AQ p1 (j:=j) (by simp[hd])) (AQ p2 (j:=j) (by simp[he])) (a3 ▸ q3) (a4 ▸ q4) q1 q2
theorem sP {xs ys:List D}(j:Nat)(x y:D)(h1:xs[j]? = some x)(h2:ys[j]? = some y):ci (xs.getD j .non) (ys.getD j .non)=ci x y:=by
 simp[List.getD,h1,h2]
abbrev GS (A:Around)(s:Shared)(u1 u2:Value)(b:Bool):Prop:=SeqAt.RcAt A s u1 u2 b/\SeqAt.EqAt A s u1 u2 b/\SeqAt.RcNeAt A s u1 u2 (!b)
theorem sQ {a1 a2:Addr}(rc:SeqAt.RcAt A s (.ref a1) (.ref a2) b)(rn:SeqAt.RcNeAt A s (.ref a1) (.ref a2) (!b))(h:a1=a2->b=true):GS A s (.ref a1) (.ref a2) b:=by
 refine⟨rc,?_,rn⟩;by_cases ha:a1=a2
 ·subst ha;rw[h rfl];exact SeqAt.EqAt.same _
 ·exact SeqAt.EqAt.of_refs ha rc
theorem p5 (p1:aJ 0 d1=true)(p2:aJ 0 d2=true)(i1:Is X.K H v1 d1)(i2:Is X.K H v2 d2)(r1:aG v1 u1)(r2:aG v2 u2):GS A s u1 u2 (ci d1 d2):=by
 cases i1 with
 |non=>
  cases r1
  cases i2 with
  |non=>cases r2;rw[ci];exact⟨.none_none,.same _,.none_none⟩
  |bl b=>cases r2;simp only[ci];exact⟨.none_bool _,.none_bool _,.none_bool _⟩
  |int b=>obtain⟨t',rfl⟩:=r2;simp only[ci];exact⟨.none_int _ _,.none_int _ _,.none_int _ _⟩
  |str b=>obtain⟨t',rfl⟩:=r2;simp only[ci];exact⟨.none_str _ _,.none_str _ _,.none_str _ _⟩
  |_=>simp at p2
 |bl a=>
  cases r1
  cases i2 with
  |non=>cases r2;simp only[ci];exact⟨.bool_none _,.bool_none _,.bool_none _⟩
  |bl b=>cases r2;rw[ci];exact⟨.bool_bool _ _,.bool_bool _ _,.bool_bool _ _⟩
  |int b=>obtain⟨t',rfl⟩:=r2;rw[ci,←Bool.beq_eq_decide_eq];exact⟨.bool_int _ _ _,.bool_int _ _ _,.bool_int _ _ _⟩
  |str b=>obtain⟨t',rfl⟩:=r2;simp only[ci];exact⟨.bool_str _ _ _,.bool_str _ _ _,.bool_str _ _ _⟩
  |_=>simp at p2
 |int a=>
  obtain⟨t,rfl⟩:=r1;cases i2 with
  |non=>cases r2;simp only[ci];exact⟨.int_none _ _,.int_none _ _,.int_none _ _⟩
  |bl b=>cases r2;rw[ci,←Bool.beq_eq_decide_eq];exact⟨.int_bool _ _ _,.int_bool _ _ _,.int_bool _ _ _⟩
  |int b=>obtain⟨t',rfl⟩:=r2;rw[ci,←Bool.beq_eq_decide_eq];exact⟨.int_int _ _ _ _,.int_int _ _ _ _,.int_int _ _ _ _⟩
  |str b=>obtain⟨t',rfl⟩:=r2;simp only[ci];exact⟨.int_str _ _ _ _,.int_str _ _ _ _,.int_str _ _ _ _⟩
  |_=>simp at p2
 |str a=>
  obtain⟨t,rfl⟩:=r1;cases i2 with
  |non=>cases r2;simp only[ci];exact⟨.str_none _ _,.str_none _ _,.str_none _ _⟩
  |bl b=>cases r2;simp only[ci];exact⟨.str_bool _ _ _,.str_bool _ _ _,.str_bool _ _ _⟩
  |int b=>obtain⟨t',rfl⟩:=r2;simp only[ci];exact⟨.str_int _ _ _ _,.str_int _ _ _ _,.str_int _ _ _ _⟩
  |str b=>obtain⟨t',rfl⟩:=r2;rw[ci,←Bool.beq_eq_decide_eq];exact⟨.str_str _ _ _ _,.str_str _ _ _ _,.str_str _ _ _ _⟩
  |_=>simp at p2
 |_=>simp at p1
theorem AR (I:Inv X aa σ H s):∀(n:Nat){A:Around}{v1 v2:V}{d1 d2:D}{u1 u2:Value},A.units+n<cLine->aJ n d1=true->aJ n d2=true->Is X.K H v1 d1->Is X.K H v2 d2->aG v1 u1->aG v2 u2->GS A s u1 u2 (ci d1 d2):=by
 intro n;induction n with
 |zero=>exact λ_ p1 p2 i1 i2 r1 r2=>p5 p1 p2 i1 i2 r1 r2
 |succ n ih=>
  intro A v1 v2 d1 d2 u1 u2 hu p1 p2 i1 i2 r1 r2;have cF:A.units<cLine:=by omega
  have Fd:∀ {v1 v2:V}{d1 d2:D}{u1 u2:Value},aJ n d1=true->aJ n d2=true->Is X.K H v1 d1->Is X.K H v2 d2->aG v1 u1->aG v2 u2->SeqAt.EqAt A.in1 s u1 u2 (ci d1 d2):=λp1 p2 i1 i2 r1 r2=>(ih (A:=A.in1) (by show A.units+1+n<cLine;omega) p1 p2 i1 i2 r1 r2).2.1;by_cases f2:aJ 0 d2=true
  ·by_cases f1:aJ 0 d1=true
   ·exact p5 f1 f2 i1 i2 r1 r2
   ·cases i1 with
    |tup h1 k1=>
     cases r1
     obtain⟨its,A6,t1,z1⟩:=I.tuple h1;cases i2 with
     |non=>cases r2;simp only[ci];exact⟨.tuple_none t1 cF,.tuple_none t1 cF,.tuple_none t1 cF⟩
     |bl=>cases r2;simp only[ci];exact⟨.tuple_bool _ t1 cF,.tuple_bool _ t1 cF,.tuple_bool _ t1 cF⟩
     |int=>obtain⟨t,rfl⟩:=r2;simp only[ci];exact⟨.tuple_int _ _ t1 cF,.tuple_int _ _ t1 cF,.tuple_int _ _ t1 cF⟩
     |str=>obtain⟨t,rfl⟩:=r2;simp only[ci];exact⟨.tuple_str _ _ t1 cF,.tuple_str _ _ t1 cF,.tuple_str _ _ t1 cF⟩
     |_=>simp at f2
    |lst h1 k1=>
     cases r1
     obtain⟨its,A6,t1,z1⟩:=I.list h1;replace t1:=t1.isList;cases i2 with
     |non=>cases r2;simp only[ci];exact⟨.list_none t1 cF,.list_none t1 cF,.list_none t1 cF⟩
     |bl=>cases r2;simp only[ci];exact⟨.list_bool _ t1 cF,.list_bool _ t1 cF,.list_bool _ t1 cF⟩
     |int=>obtain⟨t,rfl⟩:=r2;simp only[ci];exact⟨.list_int _ _ t1 cF,.list_int _ _ t1 cF,.list_int _ _ t1 cF⟩
     |str=>obtain⟨t,rfl⟩:=r2;simp only[ci];exact⟨.list_str _ _ t1 cF,.list_str _ _ t1 cF,.list_str _ _ t1 cF⟩
     |_=>simp at f2
    |_=>simp at f1 p1
  ·cases i2 with
   |tup h2 k2=>
    cases r2
    obtain⟨m8,Fm,t2,z2⟩:=I.tuple h2;cases i1 with
    |tup h1 k1=>
     cases r1
     obtain⟨its,A6,t1,z1⟩:=I.tuple h1;rename_i a2 ws es a1 vs ds;have he:=p0 (A:=A.in1) (p:=aJ n) Fd k1 k2 A6 Fm (by simpa using p1) (by simpa using p2);have HK:((List.range (min its.toArray.size m8.toArray.size)).all (λj=>ci (ds.getD j .non) (es.getD j .non)) && its.toArray.size == m8.toArray.size)=ci (.tup ds) (.tup es):=by
      rw[ci,vG,vG,←A6.length,←Fm.length,k1.length,k2.length];by_cases hl:ds.length=es.length
      ·rw[←hl,Nat.min_self,beq_self_eq_true,Bool.and_true];exact iq _ hl λj x y e1 e2=>sP j x y e1 e2
      ·rw[sK hl,beq_eq_false_iff_ne.mpr hl,Bool.and_false]
     have rc:=SeqAt.RcAt.tuples t1 t2 cF he;have rn:=SeqAt.RcNeAt.tuples t1 t2 cF he;rw[HK]at rc rn;exact sQ rc rn λe=>by subst e;exact sO I (n+1) (.tup h1 k1) (.tup h2 k2) p1
    |lst h1 k1=>cases r1;obtain⟨its,A6,t1,z1⟩:=I.list h1;simp only[ci];exact⟨.list_tuple t1.isList t2 cF,.list_tuple t1.isList t2 cF,.list_tuple t1.isList t2 cF⟩
    |non=>cases r1;simp only[ci];exact⟨.none_tuple t2 cF,.none_tuple t2 cF,.none_tuple t2 cF⟩
    |bl=>cases r1;simp only[ci];exact⟨.bool_tuple _ t2 cF,.bool_tuple _ t2 cF,.bool_tuple _ t2 cF⟩
    |int=>obtain⟨t,rfl⟩:=r1;simp only[ci];exact⟨.int_tuple _ _ t2 cF,.int_tuple _ _ t2 cF,.int_tuple _ _ t2 cF⟩
    |str=>obtain⟨t,rfl⟩:=r1;simp only[ci];exact⟨.str_tuple _ _ t2 cF,.str_tuple _ _ t2 cF,.str_tuple _ _ t2 cF⟩
    |_=>simp at p1
   |lst h2 k2=>
    cases r2
    obtain⟨m8,Fm,t2,z2⟩:=I.list h2;replace t2:=t2.isList;cases i1 with
    |lst h1 k1=>
     cases r1
     obtain⟨its,A6,t1,z1⟩:=I.list h1;replace t1:=t1.isList;rename_i a2 ws es a1 vs ds;have he:=p0 (A:=A.in1) (p:=aJ n) Fd k1 k2 A6 Fm (by simpa using p1) (by simpa using p2);have both:SeqAt.RcAt A s (.ref a1) (.ref a2) (ci (.lst ds) (.lst es))/\SeqAt.RcNeAt A s (.ref a1) (.ref a2) (!ci (.lst ds) (.lst es)):=by
      have hz:its.toArray.size=ds.length/\m8.toArray.size=es.length:=by rw[vG,vG,←A6.length,←Fm.length,k1.length,k2.length];exact⟨rfl,rfl⟩
      by_cases hl:ds.length=es.length
      ·have HK:(List.range its.toArray.size).all (λj=>ci (ds.getD j .non) (es.getD j .non))=ci (.lst ds) (.lst es):=by
        rw[ci,hz.1];exact iq _ hl λj x y e1 e2=>sP j x y e1 e2
       have hs:=(hz.1.trans hl).trans hz.2.symm;have rc:=SeqAt.RcAt.lists t1 t2 hs cF he;have rn:=SeqAt.RcNeAt.lists t1 t2 hs cF he;rw[HK]at rc rn;exact⟨rc,rn⟩
      ·have hs:(its.toArray.size != m8.toArray.size)=true:=by rw[hz.1,hz.2];exact bne_iff_ne.mpr hl
       rw[ci,sK hl];exact⟨.lists_lengths t1 t2 hs cF,.lists_lengths t1 t2 hs cF⟩
     exact sQ both.1 both.2 λe=>by subst e;exact sO I (n+1) (.lst h1 k1) (.lst h2 k2) p1
    |tup h1 k1=>cases r1;obtain⟨its,A6,t1,z1⟩:=I.tuple h1;simp only[ci];exact⟨.tuple_list t1 t2 cF,.tuple_list t1 t2 cF,.tuple_list t1 t2 cF⟩
    |non=>cases r1;simp only[ci];exact⟨.none_list t2 cF,.none_list t2 cF,.none_list t2 cF⟩
    |bl=>cases r1;simp only[ci];exact⟨.bool_list _ t2 cF,.bool_list _ t2 cF,.bool_list _ t2 cF⟩
    |int=>obtain⟨t,rfl⟩:=r1;simp only[ci];exact⟨.int_list _ _ t2 cF,.int_list _ _ t2 cF,.int_list _ _ t2 cF⟩
    |str=>obtain⟨t,rfl⟩:=r1;simp only[ci];exact⟨.str_list _ _ t2 cF,.str_list _ _ t2 cF,.str_list _ _ t2 cF⟩
    |_=>simp at p1
   |_=>simp at f2 p2
@[simp] def eY:D->D->OB:=λx y=>if aJ 40 x=true/\aJ 40 y=true then some (.bl (ci x y),false)else none
@[simp] def yK:D->D->OB:=λx y=>if aJ 40 x=true/\aJ 40 y=true then some (.bl (!ci x y),false)else none
theorem dR (hu:X.A.units+40<cLine):bW X (compareOp .Eq) (rD X.K eY):=by
 intro aa s σ H x y v u Q I rx ry q;obtain⟨B,dx,dy,d,b,sB,ix,iy,e,q⟩:=q;unfold eY at e;split at e
 ·rename_i hp;cases e
  exact(AR I 40 hu hp.1 hp.2 (ix.mono sB) (iy.mono sB) rx ry).1 _ _ _ _ ⟨.bl _,H,I,rfl,q.one sB (.bl _)⟩
 ·cases e
theorem uw (hu:X.A.units+40<cLine):bW X (compareOp .NotEq) (rD X.K yK):=by
 intro aa s σ H x y v u Q I rx ry q;obtain⟨B,dx,dy,d,b,sB,ix,iy,e,q⟩:=q;unfold yK at e;split at e
 ·rename_i hp;cases e
  exact(AR I 40 hu hp.1 hp.2 (ix.mono sB) (iy.mono sB) rx ry).2.2 _ _ _ _ ⟨.bl _,H,I,rfl,q.one sB (.bl _)⟩
 ·cases e
end
section
variable {X:Cx}{a b e:Expr}{pos:Pos}
theorem sR {K:Frag}{H:Hp}{vs:List V}{ds:List D}{i:Int}{d:D}(h:IsL K H vs ds)(e:mH ds i=some d):∃v,mH vs i=some v/\Is K H v d:=by
 unfold mH at e ⊢;rw[h.length];cases q:wv ds.length i with
 |none=>rw[q]at e;cases e
 |some j=>rw[q]at e;exact h.get e
@[simp] def cW:D->D->OB
 |.lst ds,.int i=>(mH ds i).map λd=>(d,false)
 |.tup ds,.int i=>(mH ds i).map λd=>(d,false)
 |.str z,.int i=>if z.length<=sizeLine then (mH z.cps.toList i).map λc=>(.str ⟨#[c]⟩,false)else none
 |_,_=>none
theorem GU:ww X (rD X.K cW):=by
 intro value slice aa s σ H x y v u Q I rx ry q hs;obtain⟨B,dx,dy,d,b,sB,ix,iy,e,q⟩:=q;cases ix<;>try (cases e;done)
 all_goals (cases iy<;>try (cases e;done))
 ·simp only[cW]at e;split at e
  ·rename_i hz;obtain⟨c,e1,e2⟩:=oY e;cases e2
   exact qS value slice aa s σ H _ _ v u Q I rx ry ⟨_,_,c,rfl,rfl,hz,e1,q.one sB (.str _)⟩ hs
  ·cases e
 ·rename_i h hl i;simp only[cW]at e;obtain⟨c,e1,e2⟩:=oY e;cases e2
  obtain⟨w,h1,h2⟩:=sR hl e1;exact wy value slice aa s σ H _ _ v u Q I rx ry ⟨_,_,_,w,rfl,rfl,aK sB h,h1,q.one sB h2⟩ hs
 ·rename_i h hl i;simp only[cW]at e;obtain⟨c,e1,e2⟩:=oY e;cases e2
  obtain⟨w,h1,h2⟩:=sR hl e1;exact zr value slice aa s σ H _ _ v u Q I rx ry ⟨_,_,_,w,rfl,rfl,sB.seq h,h1,q.one sB h2⟩ hs
theorem cH (ha:JE X a fa)(hb:JE X b fb)(hs:ky b:=by intro _ _;rfl):JE X (.Subscript a b pos) (f2 cW fa fb):=PE.to (wx GU ha hb hs) λ_ _ _ h=>zx h
abbrev FO:=Env->Option (Option Int)
def Kx (K:Frag)(f:FO):TO:=λσ H Q=>∃(B:Hp)(ρ:Env)(o:Option Int),aF B H/\cQ K B σ ρ/\f ρ=some o/\∀H',aF H H'->Q o H'
abbrev JO (X:Cx)(e:Option Expr)(f:FO):Prop:=PO X e (Kx X.K f)
@[simp] noncomputable def gZ:FO:=λ_=>some none
@[simp] noncomputable def gu (f:FE):FO:=λρ=>match f ρ with|some (.int i,_)=>some (some i)|_=>none
theorem iQ:JO X none gZ:=λaa s σ H Q I h=>zn aa s σ H Q I (by
 obtain⟨B,ρ,o,sB,r,e,q⟩:=h;cases e
 exact q H (.refl H))
theorem iR (h:JE X e f):JO X (some e) (gu f):=λaa s σ H Q I q=>zo h aa s σ H Q I (by
 obtain⟨B,ρ,o,sB,r,e,q⟩:=q;unfold gu at e;split at e
 ·rename_i i b' ef;cases e
  refine⟨B,ρ,_,_,sB,r,ef,λv H1 N1 x1 i1 _=>?_⟩;cases i1
  exact⟨i,rfl,q H1 x1.hh⟩
 ·cases e)
def kR (ds:List D)(lo hi:Option Int):List D:=(ds.drop (HT.bV ds.length 0 lo)).take (HT.bV ds.length ds.length hi - HT.bV ds.length 0 lo)
theorem oi {K:Frag}{H:Hp}{vs:List V}{ds:List D}{lo hi:Option Int}(h:IsL K H vs ds):IsL K H (ma vs lo hi) (kR ds lo hi):=by
 unfold ma kR;rw[h.length];exact(h.drop _).take _
theorem b7.to (h:b7 X f r)(k:∀xs H Q,r' xs H Q->r xs H Q):b7 X f r':=λaa s σ H xs us Q I rs q=>h aa s σ H xs us Q I rs (k xs H Q q)
variable {es:List Expr}{x:Str}{p:Pos}{id T:String}
theorem ar (hc:b7 X (.builtin id) (yI X.K f))(hm:X.mg x=none)(hv:bootBuiltins x=some (.builtin id))(ha:JA X (e::es) fa)(hg:Gl X x:=by rfl)(hn:x ≠ "__name__":=by decide)(qD:(x == ("__debug__" : Str))=false:=by decide)
  (he:starEach (e::es) X.env=(false,eval e X.env)::starEach es X.env:=by rfl) (kD:(backTo pos (starEach es X.env)).any (·.1)=false:=by rfl):JE X (.Call (.Name x p) (e::es) [] pos) (fA f fa):=PE.to (kI hc hg hm hv ha hn qD he kD) λ_ _ _ h=>zy h
theorem j8 (hc:b7 X (.type T) (yI X.K f))(hm:X.mg x=none)(hv:bootBuiltins x=some (.type T))(ha:JA X (e::es) fa)(hg:Gl X x:=by rfl)(hn:x ≠ "__name__":=by decide)(qD:(x == ("__debug__" : Str))=false:=by decide)
  (he:starEach (e::es) X.env=(false,eval e X.env)::starEach es X.env:=by rfl) (kD:(backTo pos (starEach es X.env)).any (·.1)=false:=by rfl):JE X (.Call (.Name x p) (e::es) [] pos) (fA f fa):=PE.to (j6 hc hg hm hv ha hn qD he kD) λ_ _ _ h=>zy h
@[simp] noncomputable def cy:List D->OB
 |[.lst ds]=>some (.int ds.length,false)
 |[.tup ds]=>some (.int ds.length,false)
 |[.str z]=>if z.length<=sizeLine then some (.int z.length,false)else none
 |_=>none
theorem dw:b7 X (.builtin "len") (yI X.K cy):=by
 refine b7.to (b7.or nV nW) λxs H Q q=>?_;obtain⟨B,ds,d,b,sB,i,e,q⟩:=q;cases i with
 |nil=>simp[cy]at e
 |cons i1 i2=>
  cases i2 with
  |cons _ _=>cases i1<;>simp[cy]at e
  |nil=>
   cases i1<;>try (simp[cy]at e;done)
   ·simp only[cy]at e;split at e
    ·rename_i hz;cases e
     exact .inr ⟨_,rfl,hz,q.one sB (.int _)⟩
    ·cases e
   ·rename_i h hl;simp only[cy]at e;cases e
    refine .inl ⟨_,_,rfl,.inr (aK sB h),?_⟩;rw[hl.length];exact q.one sB (.int _)
   ·rename_i h hl;simp only[cy]at e;cases e
    refine .inl ⟨_,_,rfl,.inl (sB.seq h),?_⟩;rw[hl.length];exact q.one sB (.int _)
theorem cO (hm:X.mg x=none)(hv:bootBuiltins x=some (.type n))(hg:Gl X x:=by rfl)(hn:x ≠ "__name__":=by decide)(hd:(x == ("__debug__" : Str))=false:=by decide):JE X (.Name x pos) (fC (.ty n)) :=
 PE.to (yW hg hm hv (v:=.ty n) rfl hn hd) λ_ _ _ h=>uv (λ_=>.ty n) h
end
theorem Ew (hr:dr k A):A.units+40<cLine:=by have:=hr.un;omega
section
variable {X:Cx}{a b e:Expr}{pos:Pos}{x:Str}{p:Pos}
theorem ca (h:∃u v,X.mg x=some u/\aG v u/\∀B,Is X.K B v d)(hg:Gl X x:=by rfl)(hd:(x == ("__debug__" : Str))=false:=by decide):JE X (.Name x pos) (fC d):=by
 obtain⟨u,v,hm,r,i⟩:=h;exact zI hg hm r i hd
@[simp] noncomputable def sS:D->D->OB
 |.int i,.int j=>some (.int (i+j),false)
 |.str i,.str j=>if i.length+j.length<=sizeLine then some (.str (i++j),false)else none
 |_,_=>none
theorem zN:bW X (binaryOp .Add) (rD X.K sS):=by
 refine gt (r:=rD X.K (yJ Cm zL)) (kQ Er Cq) λx y H Q q=>?_;obtain⟨B,dx,dy,d,b,sB,ix,iy,e,q⟩:=q;refine⟨B,dx,dy,d,b,sB,ix,iy,?_,q⟩;cases dx<;>try (cases e;done)
 all_goals (cases dy<;>try (cases e;done))
 all_goals (simp[sS]at e;simp[yJ,Cm,zL,pi,Dr,e])
@[simp] def gU:D->D->OB:=Ep
theorem ir:bW X (binaryOp .Mult) (rD X.K gU):=Es
@[simp] def yL:D->D->OB:=IS
theorem p6:bW X (compareOp .Lt) (rD X.K yL):=GO
@[simp] noncomputable def p7:D->D->OB
 |.int i,.int j=>some (.bl (decide (i<=j)),false)
 |.str i,.str j=>some (.bl (!decide (j.cps.toList<i.cps.toList)),false)
 |_,_=>none
theorem iS:bW X (compareOp .LtE) (rD X.K p7):=by
 refine gt (r:=rD X.K (yJ GN FX)) (kQ GP Eu) λx y H Q q=>?_;obtain⟨B,dx,dy,d,b,sB,ix,iy,e,q⟩:=q;refine⟨B,dx,dy,d,b,sB,ix,iy,?_,q⟩;cases dx<;>try (cases e;done)
 all_goals (cases dy<;>try (cases e;done))
 all_goals (simp[p7]at e;simp[yJ,GN,FX,pi,Dr,e])
@[simp] noncomputable def kh:D->D->Option Bool
 |.non,.non=>some true
 |_,.non=>some false
 |.bl a,.bl b=>some (a == b)
 |_,.bl _=>some false
 |_,_=>none
@[simp] def FY:D->D->OB:=λx y=>(kh x y).map λb=>(.bl b,false)
@[simp] def iu:D->D->OB:=λx y=>(kh x y).map λb=>(.bl (!b),false)
theorem sT {K:Frag}{B:Hp}{x y:V}{v u:Value}{dx dy:D}{k:Bool}(ix:Is K B x dx)(iy:Is K B y dy)(rx:aG x v)(ry:aG y u)(e:kh dx dy=some k):plainIs v u=true/\(v == u)=k:=by
 cases iy<;>(first|(cases dx<;>simp[kh]at e;done)|skip)
 all_goals (cases ix)
 all_goals (first|(obtain⟨t,rfl⟩:=rx)|cases rx)
 all_goals (cases ry)
 all_goals (simp only[kh,Option.some.injEq]at e;subst e)
 all_goals (first|exact⟨rfl,rfl⟩|skip)
 all_goals (rename_i c d;cases c<;>cases d<;>exact⟨rfl,rfl⟩)
theorem Cs:bW X (compareOp .Is) (rD X.K FY):=by
 intro aa s σ H x y v u Q I rx ry q;obtain⟨B,dx,dy,d,b,sB,ix,iy,e,q⟩:=q;obtain⟨k,ek,e⟩:=oY e;cases e
 obtain⟨h1,h2⟩:=sT ix iy rx ry ek;refine wpAny_is_plain h1 ⟨.bl k,H,I,by rw[h2];rfl,q.one sB (.bl _)⟩
theorem sU:bW X (compareOp .IsNot) (rD X.K iu):=by
 intro aa s σ H x y v u Q I rx ry q;obtain⟨B,dx,dy,d,b,sB,ix,iy,e,q⟩:=q;obtain⟨k,ek,e⟩:=oY e;cases e
 obtain⟨h1,h2⟩:=sT ix iy rx ry ek;refine wpAny_isNot_plain h1 ⟨.bl (!k),H,I,by rw[h2];rfl,q.one sB (.bl _)⟩
@[simp] noncomputable def dS:D->Bool
 |.non=>true|.bl _=>true|.int _=>true|.str _=>true
 |_=>false
noncomputable def AS (x:D)(ds:List D):Bool:=ds.any λy=>ci y x
@[simp] noncomputable def hJ:D->Option (List D)
 |.lst ds=>some ds
 |.tup ds=>some ds
 |_=>none
@[simp] def sV:D->D->OB:=λx y=>(hJ y).bind λds=>if dS x=true/\ds.all dS=true then some (.bl (AS x ds),false)else none
theorem ra {K:Frag}{B:Hp}{v:V}{d:D}(i:Is K B v d)(h:dS d=true):gW v=true:=by
 cases i<;>first|rfl|(simp[dS]at h)
theorem GV {K:Frag}{B:Hp}{v w:V}{d e:D}(i:Is K B v d)(j:Is K B w e)(h:dS d=true)(h':dS e=true):yH v w=ci d e:=by
 cases i<;>(first|(simp[dS]at h;done)|skip)
 all_goals (cases j<;>(first|(simp[dS]at h';done)|skip))
 all_goals (simp only[yH,ci,Bool.beq_eq_decide_eq])
theorem wM {K:Frag}{B:Hp}:∀ {vs:List V}{ds:List D},IsL K B vs ds->ds.all dS=true->vs.all gW=true
 |_,_,.nil,_=>rfl
 |_,_,.cons i t,h=>by
  rw[List.all_cons,vC]at h;rw[List.all_cons,ra i h.1,wM t h.2];rfl
theorem Ct {K:Frag}{B:Hp}{v:V}{d:D}(j:Is K B v d)(hd:dS d=true):∀ {vs:List V}{ds:List D},IsL K B vs ds->ds.all dS=true->FU v vs=AS d ds
 |_,_,.nil,_=>rfl
 |_,_,.cons i t,h=>by
  rw[List.all_cons,vC]at h;have e:=Ct j hd t h.2;unfold FU AS at *;rw[List.any_cons,List.any_cons,e,GV i j h.1 hd]
theorem sW:bW X (compareOp .In) (rD X.K sV):=by
 refine gt uk λx y H Q q=>?_;obtain⟨B,dx,dy,d,b,sB,ix,iy,e,q⟩:=q;obtain⟨ds,es,e⟩:=oX e;split at e
 ·rename_i hf;cases e
  cases iy<;>simp only[hJ]at es<;>try (cases es;done)
  ·rename_i h hl;cases es
   exact⟨_,_,rfl,.inr (aK sB h),ra ix hf.1,wM hl hf.2,by rw[if_neg (by decide),Ct ix hf.1 hl hf.2];exact q.one sB (.bl _)⟩
  ·rename_i h hl;cases es
   exact⟨_,_,rfl,.inl (sB.seq h),ra ix hf.1,wM hl hf.2,by rw[if_neg (by decide),Ct ix hf.1 hl hf.2];exact q.one sB (.bl _)⟩
 ·cases e
theorem cY:bootBuiltins "len" = some (.builtin "len"):=PySem.boot_len
theorem aB:bootBuiltins "isinstance" = some (.builtin "isinstance"):=by decide +kernel
theorem wN:bootBuiltins "min" = some (.builtin "min"):=by decide +kernel
theorem p8:bootBuiltins "all" = some (.builtin "all"):=by decide +kernel
theorem wO:bootBuiltins "int" = some (.type "int"):=by decide +kernel
theorem wP:bootBuiltins "bool" = some (.type "bool"):=by decide +kernel
theorem wQ:bootBuiltins "str" = some (.type "str"):=by decide +kernel
theorem kS:bootBuiltins "list" = some (.type "list"):=by decide +kernel
theorem dE:bootBuiltins "tuple" = some (.type "tuple"):=by decide +kernel
@[simp] noncomputable def Ky:List D->OB
 |[.int i,.int j]=>some (.int (if j > i then j else i),false)
 |_=>none
@[simp] noncomputable def mj:List D->OB
 |[.int i,.int j]=>some (.int (if j<i then j else i),false)
 |_=>none
theorem wR {K:Frag}{B:Hp}{xs:List V}{i j:Int}(h:IsL K B xs [.int i,.int j]):xs=[.int i,.int j]:=by
 cases h with
 |cons h1 h2=>cases h1;cases h2 with|cons h3 h4=>cases h3;cases h4;rfl
theorem wS (hc:X.calm=true:=by rfl):b7 X (.builtin "min") (yI X.K mj):=by
 refine b7.to (uh hc) λxs H Q q=>?_;obtain⟨B,ds,d,b,sB,i,e,q⟩:=q;match ds,e with
 |[.int i',.int j'],e=>simp only[mj]at e;cases e;exact⟨i',j',wR i,q.one sB (.int _)⟩
@[simp] noncomputable def dU:D->String
 |.non=>"NoneType" | .bl _=>"bool" | .int _=>"int" | .str _=>"str" | .ty _=>"type" | .tup _=>"tuple" | .lst _=>"list" | .dk _ _=>"dict" | .dt _ _=>"dict"
@[simp] noncomputable def rb:D->Bool
 |.ty _=>true
 |_=>false
@[simp] noncomputable def sX (t n:String):OB :=
 if n = "int" then some (.bl (t == "int" || t == "bool"),false)else if n = "bool" then some (.bl (t == "bool"),false)else if n = "str" then some (.bl (t == "str"),false)
 else if n = "list" then some (.bl (t == "list"),false)else if n = "tuple" then some (.bl (t == "tuple"),false)else none
@[simp] def ay:List D->OB
 |[d,.ty n]=>if rb d=true then none else sX (dU d) n
 |_=>none
theorem zO {aa:List (Addr×Obj)}{σ:St}{H:Hp}{s:Shared}{A:Around}{E:Value->Shared->Prop}{Q:Value->Shared->Prop}{c:Value}{b:Bool}{v:V}{d:D}{u:Value}(I:Inv X aa σ H s)(i:Is X.K H v d)(hd:∀n,d≠.ty n)(rx:aG v u)(e:PySem.W.kitOne X.K (.type (dU d)) c=some b)(h:∀tk,Q (.bool b) { s with toks:=tk }):
  wpAny (model X.prog X.w) A (call (.builtin "isinstance") [u,c]) Q E s:=by
 cases i with
 |non=>exact dJ I rx .non e h
 |bl y=>exact dJ I rx (.bl y) e h
 |int y=>exact dJ I rx (.int y) e h
 |str y=>exact dJ I rx (.str y) e h
 |ty n=>exact absurd rfl (hd n)
 |dk h1 _ _=>exact dJ I rx (.dK h1) e h
 |dt h1 _ _=>exact dJ I rx (.dT h1) e h
 |tup ht _=>
  cases rx
  obtain⟨its,_,⟨o,h1,h2,_⟩,_⟩:=I.tuple ht;exact kia_one PySem.W.kitx_tuple I.kIn ⟨o,h1,h2⟩ e (λz=>nomatch z) h
 |lst hl _=>
  cases rx
  obtain⟨its,_,⟨o,n,h1,h2,_⟩,_⟩:=I.list hl;exact kia_one PySem.W.kitx_list I.kIn ⟨o,h1,h2⟩ e (λz=>nomatch z) h
theorem wT (K:Frag)(d:D)(hd:∀n,d≠.ty n):
  PySem.W.kitOne K (.type (dU d)) (.type "int")=some (dU d == "int" || dU d == "bool")/\PySem.W.kitOne K (.type (dU d)) (.type "bool")=some (dU d == "bool")/\PySem.W.kitOne K (.type (dU d)) (.type "str")=some (dU d == "str") /\
   PySem.W.kitOne K (.type (dU d)) (.type "list")=some (dU d == "list")/\PySem.W.kitOne K (.type (dU d)) (.type "tuple")=some (dU d == "tuple"):=by
 cases d<;>(first|exact absurd rfl (hd _)|skip)
 all_goals (simp only[dU];refine⟨?_,?_,?_,?_,?_⟩<;>kernel_rfl)
theorem aD:b7 X (.builtin "isinstance") (yI X.K ay):=by
 intro aa s σ H xs us Q I rs q;obtain⟨B,ds,d,b,sB,i,e,q⟩:=q;cases i with
 |nil=>cases e
 |cons i1 i=>cases i with
 |nil=>cases e
 |cons i2 i=>
  cases i2<;>try (cases e;done)
  cases i<;>try (cases e;done)
  rename_i dx n;obtain⟨u1,u2,rfl,r1,r2⟩:=wl rs;cases r2
  simp only[ay]at e;split at e
  ·cases e
  ·rename_i ht;have hd:∀n,dx≠.ty n:=λn z=>by subst z;exact ht rfl
   obtain⟨k1,k2,k3,k4,k5⟩:=wT X.K dx hd;have fin:∀ {k:Bool},PySem.W.kitOne X.K (.type (dU dx)) (.type n)=some k->Fin X.K B H (.bl k) false Q->wq X (call (.builtin "isinstance") [u1,.type n]) (EP X aa σ Q) X.xe s:=λ{k} hk q=>
    zO I (i1.mono sB) hd r1 hk λtk=>⟨.bl k,H,I.tok tk,rfl,q.one sB (.bl k)⟩
   unfold sX at e;split at e
   ·rename_i z;subst z;cases e;exact fin k1 q
   split at e
   ·rename_i z;subst z;cases e;exact fin k2 q
   split at e
   ·rename_i z;subst z;cases e;exact fin k3 q
   split at e
   ·rename_i z;subst z;cases e;exact fin k4 q
   split at e
   ·rename_i z;subst z;cases e;exact fin k5 q
   ·cases e
@[simp] def wU (f:FE):FA:=λρ=>(f ρ).bind λx=>hJ x.1
theorem sY (h:JE X e f):JI X tg e (wU f):=by
 intro aa s σ H R I q;obtain⟨B,ρ,ds,sB,r,e',q⟩:=q;obtain⟨x,ex,es⟩:=oX e';obtain⟨xd,xb⟩:=x;cases xd<;>simp only[hJ]at es<;>try (cases es;done)
 ·cases es
  refine BJ h aa s σ H R I ⟨B,ρ,_,_,sB,r,ex,λv H1 N1 x1 i1 _=>?_⟩;cases i1 with
  |@tup a vs _ ht hl=>
   refine⟨a,rfl,⟨vs,aK x1.nh ht⟩,q _ H1 N1 x1 λi H2 s2=>⟨λd ed=>?_,λbp=>⟨vs,aK s2 ht,by rw[hl.length];exact bp⟩⟩⟩;obtain⟨v,ev,iv⟩:=hl.get ed;refine⟨⟨vs,v,aK s2 ht,ev⟩,λy H3 hy=>?_⟩;obtain⟨rfl,hy⟩:=hy;have:=hy vs (aK s2 ht);rw[ev]at this;cases this;exact⟨N1,.refl s2,iv⟩
 ·cases es
  refine zb h aa s σ H R I ⟨B,ρ,_,_,sB,r,ex,λv H1 N1 x1 i1 _=>?_⟩;cases i1 with
  |@lst a vs _ ht hl=>
   refine⟨a,rfl,⟨vs,x1.nh.seq ht⟩,q _ H1 N1 x1 λi H2 s2=>⟨λd ed=>?_,λbp=>⟨vs,s2.seq ht,by rw[hl.length];exact bp⟩⟩⟩;obtain⟨v,ev,iv⟩:=hl.get ed;refine⟨⟨vs,v,s2.seq ht,ev⟩,λy H3 hy=>?_⟩;obtain⟨rfl,hy⟩:=hy;have:=hy vs (s2.seq ht);rw[ev]at this;cases this;exact⟨N1,.refl s2,iv⟩
noncomputable def dW (lo:Int)(n:Nat):List D:=(List.range n).map λ(k:Nat)=>.int (lo+(k:Int))
theorem wV {K:Frag}{B:Hp}(lo:Int)(n:Nat):mi K (FQ lo n) B (dW lo n):=by
 intro i H s;unfold dW;refine⟨λd ed=>?_,λhl=>by rw[vH,List.length_range]at hl;exact hl⟩;rw[vA]at ed;obtain⟨k,ek,ed⟩:=oY ed;have hk:=vV ek;obtain⟨eM,hk⟩:=hk;rw[List.length_range]at eM;rw[List.getElem_range]at hk;subst hk;subst ed;refine⟨eM,λx H' hy=>?_⟩;obtain⟨rfl,rfl⟩:=hy;exact⟨B,.refl s,.int _⟩
@[simp] def eU (f:FE):FA:=λρ=>match f ρ with
 |some (.int j,_)=>if -1000<=j/\j<=1000 then some (dW 0 j.toNat)else none
 |_=>none
theorem iT (hm:X.mg "range" = none)(h:JE X a f)(hg:Gl X "range":=by rfl)(hs:starEach [a] X.env=[(false,eval a X.env)]:=by rfl):PI X tg (.Call (.Name "range" p) [a] [] pos) (FW X.K (eU f)):=by
 refine PI.to (ue hg hm (aj h ai hs) hs) λσ H R q=>?_;obtain⟨B,ρ,ds,sB,r,e',q⟩:=q;unfold eU at e';split at e'
 ·rename_i j b' ef;split at e'
  ·rename_i hj;cases e'
   refine⟨B,ρ,[.int j],sB,r,by simp[ae,ah,ef],λvs H1 N1 x1 i1=>?_⟩;cases i1 with
   |cons i1 i2=>
    cases i1;cases i2
    exact⟨j,rfl,by omega,by omega,q _ H1 N1 x1 λ_=>wV 0 j.toNat⟩
  ·cases e'
 ·cases e'
theorem wW (hm:X.mg "range" = none)(h:JE X a f)(hg:Gl X "range":=by rfl)(hs:starEach [a] X.env=[(false,eval a X.env)]:=by rfl):JI X tg (.Call (.Name "range" p) [a] [] pos) (eU f) :=
 PI.to (iT hm h hg hs) λσ H R ⟨B,ρ,ds,sB,r,e',q⟩=>⟨B,ρ,ds,sB,r,e',λJ H' N x h=>q J H' N x (h _)⟩
end
def eG (K:Frag)(x:Str)(st:Stmt):Prop:=∃(f:Addr)(fd:FuncData),CO K x x st f fd/\nsIn K mainGlobals x=some (some (.ref f))
theorem def_mk {K:Frag}{x:Str}{st:Stmt}{f:Addr}{oc:Value}{od an:Option Addr}{lZ:Array (Option Value)}{kV doc pm cw ct:Value}(a:nsIn K mainGlobals x=some (some (.ref f)))
  (l:K.lookup f=some ⟨oc,od,.func (fnOf x x (cR st) (bD st) (ax st) .none kV doc pm an cw ct),lZ⟩) (c:PySem.W.codeIn K cw x=true) (k:PySem.W.keepIn K (.ref f)=true):eG K x st:=⟨f,_,Ca l c k,a⟩
section
variable {P:Program}{w:World}{K:Frag}{mg:Str->Option Value}{base:Heap}
theorem eG.fn {x:Str}{st:Stmt}{N ps:List Str}{k:Nat}{g:FS}{h:Heap}(F:eG K x st)(X:K.In h)(G:h.Ns mainGlobals mg)(S:FnScope N ps (ax st))
  (tZ:∀(kV doc pm:Value)(an:Option Addr)(cw ct:Value)(us:List Value),us.length=ps.length->bindArgs (fnOf x x (cR st) (bD st) (ax st) .none kV doc pm an cw ct) ⟨us,[]⟩=pure (ps.zip us))
  (hb:∀(f:Addr)(cw:Value)(A:Around)(outer:List PySem.Env)(s:Shared)(H:Hp)(E:XK),dr k (A.deeper (envOfC x (ax st) s.heap.objs.size f cw))->oK (ke qW P w K mg base N x (ax st) f cw A outer s H E).nox (bD st) g):
  Fn P w K mg base (k+1) x (aL g ps.length (N.length - ps.length)):=by
 obtain⟨f,fd,F1,a⟩:=F;exact⟨f,fd,ps,Ev F1 S (hb f),mg_of X G a,F1.kp,F1.binds tZ⟩
end
def Ex (H:Hp):Prop:=∀b,H b=none∨(∃o xs,H b=some (.frz o (.lst xs)))∨∃q,H b=some (.tbl q)
noncomputable def kT (gs:List (Addr×Str))(G:Hp):Hp:=λb=>match gs.lookup b with|some q=>some (.tbl q)|none=>G b
theorem cZ (e:gs.lookup b=some q):kT gs G b=some (.tbl q):=by unfold kT;rw[e]
theorem fw (e:gs.lookup b=none):kT gs G b=G b:=by unfold kT;rw[e]
theorem ux {P:Program}{w:World}{K:Frag}{mg mb:Str->Option Value}{k:Nat}{fa a:Addr}{fd:FuncData}{x:Str}{sp:Sp}{s₁:Shared}{vs:List Value}{ns:List Int}(gs:List (Addr×Str))
  (ht:∀b q,gs.lookup b=some q->s₁.heap.get? b=some (PySem.W.tabObj #[])/\isCodeTable s₁.heap b) (Lp:PySem.W.noTabs K=true)
  (KX:K.In s₁.heap) (Fo:s₁.heap.Ns mainGlobals mg) (hb:s₁.heap.Ns builtinsNs mb) (Lq:∀x:Str,x ≠ "__name__"->mb x=bootBuiltins x) (HL:s₁.heap.NoLimit)
  (HM:∃bm ob,mg "__builtins__" = some (.ref bm)/\bm≠builtinsNs/\s₁.heap.get? bm=some ob/\ob.cls=.type "module"/\ob.dict=some builtinsNs/\ob.data=.plain) (hg:s₁.gens=#[])
  (ha:s₁.heap.get? a=some { cls:=.type "list",data:=.seq vs.toArray }) (hi:IntsAre vs ns) (hl:ns.length<=sizeLine) (hr:dr k callerA)
  (F:∀base:Heap,K.In base->base.Ns mainGlobals mg->jJ P w K mg base qW k fa fd [x] sp) (Fp:∀(s:Shared)(u:Value),BindsTo s fd ⟨[u],[]⟩ [(x,u)])
  (Dz:∀H:Hp,(∀b q,gs.lookup b=some q->H b=some (.tbl q))->eN K H a (ns.map V.int)->sp [.ref a] H (λv _=>v=.bl true) λ_ _ _=>False):
  codeAny (model P w) callerA (.call (.ref fa) ⟨[.ref a],[]⟩) (λr s'=>r=.ok (.ret (.bool true))/\OldK s₁.heap s'.heap/\s'.os=s₁.os/\AllBare s'.gens) s₁:=by
 have rv:=L2.fj hi;have HN:=hi.length;have Fq:∀H:Hp,Ex H->(∀b q,gs.lookup b=some q->H b=some (.tbl q))->eN K H a (ns.map V.int)->kr P w H s₁.heap->(∀b q,H b=some (.tbl q)->s₁.heap.get? b=some (PySem.W.tabObj #[])/\isCodeTable s₁.heap b) ->
   (∀b o u,H b=some (.frz o u)->b=a)->(∀b o u,H b=some (.frz o u)->K.lookup b=none) ->
   codeAny (model P w) callerA (.call (.ref fa) ⟨[.ref a],[]⟩) (λr s'=>r=.ok (.ret (.bool true))/\OldK s₁.heap s'.heap/\s'.os=s₁.os/\AllBare s'.gens) s₁:=by
  intro H hO hT hS hok hA hB hK;have EV:∀ {b:Addr}{o:Obj},s₁.heap.get? b=some o->(o.cls≠.none)->(o.cls≠.type "list")->H b=none:=λ{b o} e d d'=>by
   rcases hO b with q|⟨ob,xs,q⟩|⟨u,q⟩
   ·exact q
   ·have e':b=a:=hB b _ _ q;subst e';rw[ha]at e;cases e;exact absurd rfl d'
   ·rw[(hA b u q).1]at e;cases e;exact absurd rfl d
  have Lr:∀ {b:Addr}{o:Obj}{es:Array DictEntry}{ep:Nat},s₁.heap.get? b=some o->o.data=.dict es ep->H b=none:=λ{b o es ep} e d=>by
   rcases hO b with q|⟨ob,xs,q⟩|⟨u,q⟩
   ·exact q
   ·have e':b=a:=hB b _ _ q;subst e';rw[ha]at e;cases e;cases d
   ·rw[(hA b u q).1]at e;cases e;cases d
  have Gp:∀ {b:Addr}{m:Str->Option Value},s₁.heap.Ns b m->(oQ s₁.heap H).Ns b m:=λ{b m} ⟨o,es,ep,e,d,r⟩=>⟨o,es,ep,kG e (Lr e d),d,r⟩;have Jw:K.In (oQ s₁.heap H):=λb o e=>kG (KX b o e) (by
   rcases hO b with q|⟨ob,xs,q⟩|⟨u,q⟩
   ·exact q
   ·rw[hK b _ _ q]at e;cases e
   ·have z:=(hA b u q).1;rw[KX b o e]at z;cases z
    have:=List.all_eq_true.mp Lp _ (PySem.W.mem_of_lookupK e);simp at this)
  have hM:Mod K mg (oQ s₁.heap H):=⟨Jw,Gp Fo,⟨mb,Gp hb,Lq⟩,let ⟨mc,h1,h2⟩:=HL;⟨mc,Gp h1,h2⟩,by
   obtain⟨bm,ob,b1,b2,b3,b4,b5⟩:=HM;exact⟨bm,ob,b1,b2,kG b3 (EV b3 (by rw[b4];exact λz=>nomatch z) (by rw[b4];intro z;injection z with z;exact absurd z (by decide))),b4,b5⟩⟩
  have e0:Env0 P w K mg (oQ s₁.heap H) callerA [] s₁ H:=⟨rfl,hM,λb o e=>yU e,Nat.le_of_eq (uc _ _),trivial,λb hb=>absurd (show b∈([]:List Addr)from hb) (by simp),hok,.of_eq hg⟩;refine codeAny_mono ((F _ Jw (Gp Fo)).run callerA [] s₁ H ⟨[.ref a],[]⟩ [.ref a] [.ref a] _ _ hr e0 (Fp s₁ (.ref a)) (.cons rfl .nil) (Dz H hT hS)) λr s' h=>?_;cases r with
  |error e=>exact False.elim h
  |ok fl=>
   cases fl with
   |next=>exact False.elim h
   |brk=>exact False.elim h
   |cont=>exact False.elim h
   |ret u=>
    obtain⟨v,H',os,bare,un,Fs,r',q⟩:=h;have q':v=.bl true:=q;subst q';obtain rfl:u=Value.bool true:=r';have kp:∀b o,H b=none->s₁.heap.get? b=some o->s'.heap.get? b=some o:=λb o n e=>un.keep b o e n (by intro z;exact absurd (show b∈([]:List Addr)from z) (by simp)) (by simp);refine⟨rfl,⟨λb o e=>?_,λb o e=>un.there b o e (by simp)⟩,os,bare⟩;rcases hO b with z|⟨ob,xs,z⟩|⟨u,z⟩
    ·exact .inl (kp b o z e)
    ·have z2:=un.frzs b ob _ z;obtain⟨e1,_⟩:=hok b _ z;obtain⟨e2,_⟩:=Fs b _ z2;rw[e]at e1;cases e1;exact .inl e2
    ·obtain⟨e1,e2⟩:=hA b u z;rw[e]at e1;cases e1;obtain⟨ps,e3,_⟩:=Fs b _ (un.tbls b u z);exact .inr (.inl ⟨e2,rfl,#[],ps,rfl,by simpa using e3⟩)
 have CQ:∀q,gs.lookup a≠some q:=λq z=>by
  have:=(ht a q z).1;rw[ha]at this;cases this
 have ta:gs.lookup a=none:=by
  cases z:gs.lookup a with
  |none=>rfl
  |some q=>exact absurd z (CQ q)
 have Bm:∀(G:Hp) b q,gs.lookup b=some q->bC P w (kT gs G) s₁.heap b (.tbl q):=λG b q z=>⟨#[],(ht b q z).1,trivial,λpos cv c=>by cases c⟩;cases hk:K.lookup a with
 |some o=>
  have e:=KX a o hk;rw[ha]at e;cases e
  refine Fq (kT gs λ_=>none) (λb=>?_) (λb q z=>cZ z) (.inr ⟨_,vs.toArray,_,hk,rfl,rfl,rfl,by rw[vG,HN];exact hl,by simpa using rv⟩) (λb u z=>?_) (λb q z=>?_) (λb o u z=>?_) λb o u z=>?_
  all_goals cases zt:gs.lookup b with
   |none=>first|exact .inl (fw zt)|(rw[fw zt]at z;cases z)
   |some q'=>first|exact .inr (.inr ⟨q',cZ zt⟩)|(rw[cZ zt]at z;cases z;done)|(rw[cZ zt]at z;cases z;first|exact Bm _ b _ zt|exact ht b _ zt)
 |none=>
  refine Fq (kT gs λb=>if b=a then some (.frz { cls:=.type "list",data:=.seq vs.toArray } (.lst (ns.map V.int)))else none) (λb=>?_) (λb q z=>cZ z) (.inl (.inr ⟨{ cls:=.type "list",data:=.seq vs.toArray },by rw[fw ta,if_pos rfl]⟩)) (λb u z=>?_) (λb q z=>?_) (λb o u z=>?_) λb o u z=>?_
  all_goals cases zt:gs.lookup b with
   |some q'=>first|exact .inr (.inr ⟨q',cZ zt⟩)|(rw[cZ zt]at z;cases z;done)|(rw[cZ zt]at z;cases z;first|exact Bm _ b _ zt|exact ht b _ zt)
   |none=>
    first
    |rw[fw zt]at z
    |rw[fw zt]
    by_cases hb:b=a
    ·first
     |rw[if_pos hb]at z
     |rw[if_pos hb]
     first
     |exact .inr (.inl ⟨_,_,rfl⟩)
     | (cases z;subst hb;exact⟨ha,by rw[vH];exact hl,vs,_,rv,ha⟩)
     |exact hb
     | (rw[hb];exact hk)
     |cases z
    ·first
     | (rw[if_neg hb]at z;cases z)
     |exact .inl (if_neg hb)
noncomputable def oj (L:List (Str×Option (Addr×Addr))):List (Addr×Str):=L.filterMap λp=>p.2.map λq=>(q.2,Cd p.1)
structure kF (K:Frag)(L:List (Str×Option (Addr×Addr))):Prop where
 names:L=oZ.map λx=>(x,PySem.W.tabIn K x)
 apart:((oj L).map (·.1)).Nodup
 none:PySem.W.noTabs K=true
theorem hU {α β:Type}[BEq α][LawfulBEq α]:∀ {l:List (α×β)}{a:α}{b:β},(l.map (·.1)).Nodup->(a,b)∈l->l.lookup a=some b
 | (c,d)::l,a,b,nd,h=>by
  rw[List.lookup_cons];rcases vP h with e|h
  ·cases e;simp
  ·have ne:a≠c:=λz=>(List.nodup_cons.mp nd).1 (by rw[←z];exact List.mem_map.mpr ⟨(a,b),h,rfl⟩);rw[show(a == c)=false by simpa using ne];exact hU (List.nodup_cons.mp nd).2 h
theorem gv {α β:Type}[BEq α][LawfulBEq α]:∀ {l:List (α×β)}{a:α}{b:β},l.lookup a=some b->(a,b)∈l
 | (c,d)::l,a,b,h=>by
  rw[List.lookup_cons]at h;cases e:a == c with
  |true=>rw[e]at h;cases h;rw[eq_of_beq e];exact mX
  |false=>rw[e]at h;exact mZ _ (gv h)
theorem kF.tb {K:Frag}{L:List (Str×Option (Addr×Addr))}(F:kF K L){H:Hp}(h:∀b q,(oj L).lookup b=some q->H b=some (.tbl q)):Tb K H:=λx hx c P e=>by
 refine h P (Cd x) (hU F.apart ?_);rw[F.names];exact List.mem_filterMap.mpr ⟨(x,PySem.W.tabIn K x),List.mem_map.mpr ⟨x,hx,rfl⟩,by rw[e];rfl⟩
theorem tab_no {K:Frag}{x:Str}(e:nsIn K mainGlobals x=some none):PySem.W.tabIn K x=none:=by unfold PySem.W.tabIn;rw[e]
theorem tabs_fit {K:Frag}{t0 t1 t2 t3 t4:Option (Addr×Addr)}(h0:PySem.W.tabIn K "in_order" = t0)(h1:PySem.W.tabIn K "has_seal" = t1)(h2:PySem.W.tabIn K "is_first_death" = t2)(h3:PySem.W.tabIn K "bases_by" = t3)(h4:PySem.W.tabIn K "as_heard" = t4)
  (ap:((oj [("in_order",t0),("has_seal",t1),("is_first_death",t2),("bases_by",t3),("as_heard",t4)]).map (·.1)).Nodup) (nt:PySem.W.noTabs K=true):kF K [("in_order",t0),("has_seal",t1),("is_first_death",t2),("bases_by",t3),("as_heard",t4)] :=
 ⟨by subst h0;subst h1;subst h2;subst h3;subst h4;rfl,ap,nt⟩
theorem eG.law {P:Program}{w:World}{K:Frag}{mg:Str->Option Value}{x y:Str}{st:Stmt}{N:List Str}{k:Nat}{g:FS}{h:Heap}{fa:Addr}(F:eG K x st)(X:K.In h)(G:h.Ns mainGlobals mg)(HP:mg x=some (.ref fa))(S:FnScope N [y] (ax st))
  (tZ:∀(kV doc pm:Value)(an:Option Addr)(cw ct:Value)(u:Value),bindArgs (fnOf x x (cR st) (bD st) (ax st) .none kV doc pm an cw ct) ⟨[u],[]⟩=pure [(y,u)])
  (hb:∀(base:Heap),K.In base->base.Ns mainGlobals mg->∀(f:Addr)(cw:Value)(A:Around)(outer:List PySem.Env)(s:Shared)(H:Hp)(E:XK),dr k (A.deeper (envOfC x (ax st) s.heap.objs.size f cw))->oK (ke qW P w K mg base N x (ax st) f cw A outer s H E).nox (bD st) g):
  ∃fd:FuncData,(∀(s:Shared)(u:Value),BindsTo s fd ⟨[u],[]⟩ [(y,u)])/\∀base:Heap,K.In base->base.Ns mainGlobals mg->jJ P w K mg base qW (k+1) fa fd [y] (AO K (aL g 1 (N.length - 1))):=by
 obtain⟨f,fd,F1,a⟩:=F;have e:=HP.symm.trans (mg_of X G a);cases e
 refine⟨fd,λs u=>?_,λbase kb nb=>Ev F1 S (hb base kb nb _)⟩;obtain⟨oc,od,kV,doc,pm,an,cw,ct,lZ,rfl,lk,jZ⟩:=F1.ex;exact .of_eq (tZ kV doc pm an cw ct u)
section
variable {X:Cx}{a b e:Expr}{pos:Pos}{x:Str}{p:Pos}
@[simp] noncomputable def zP:D->D->OB
 |.lst xs,.lst ys=>if xs.length+ys.length<=sizeLine then some (.lst (xs++ys),true)else none
 |_,_=>none
theorem Cu:bW X (binaryOp .Add) (rD X.K zP):=by
 intro aa s σ H x y v u Q I rx ry q;obtain⟨B,dx,dy,d,bb,sB,ix,iy,ee,q⟩:=q;cases ix<;>try (cases ee;done)
 all_goals (cases iy<;>try (cases ee;done))
 rename_i l vs ds h hl l' ws es h' yS;simp only[zP]at ee;split at ee
 ·rename_i hz;cases ee
  cases rx
  cases ry
  obtain⟨its,r1,p1,z1⟩:=I.list (sB.seq h);obtain⟨m8,r2,p2,z2⟩:=I.list (sB.seq h');obtain⟨⟨c1,d1,t1,s1⟩,o1,e1,n1,k1⟩:=p1.isList;obtain⟨⟨c2,d2,t2,s2⟩,o2,e2,n2,k2⟩:=p2.isList;dsimp only at e1 k1 e2 k2;subst e1;subst k1;subst e2;subst k2;have hsz:its.toArray.size+m8.toArray.size<=sizeLine:=by
   rw[vG,vG,←r1.length,←r2.length,hl.length,yS.length];exact hz
  have ea:its.toArray++m8.toArray=(its++m8).toArray:=by simp
  refine concat_meets ⟨_,o1,rfl⟩ ⟨_,o2,rfl⟩ noFill_list_add seq_list_add PySem.F.slot_list_add PySem.F.entry_list_add (PySem.F.args_list_add_2 _ _) (list_addW l l' its.toArray m8.toArray n1 n2 d1 d2 s1 s2 hsz) ⟨o1,o2,?_⟩;rw[ea];have xt:=Ext.laid (o:=.lst (vs++ws)) sB I.fresh;have il:=(hl.append yS).mono xt.bn;exact⟨.ref s.heap.objs.size,_,I.lnew (t':=s.toks) (r1.append r2) (by rw[uZ,hl.length,yS.length];exact hz),rfl,q _ _ _ xt (.lst (eN.of au) il) λ_=>⟨_,_,_,rfl,rfl,I.fresh,au,il⟩⟩
 ·cases ee
@[simp] noncomputable def zQ:D->D->OB
 |.tup xs,.tup ys=>if xs.length+ys.length<=sizeLine/\xs.isEmpty=false then some (.tup (xs++ys),false)else none
 |_,_=>none
theorem Cv:bW X (binaryOp .Add) (rD X.K zQ):=by
 refine gt zp λx y H Q q=>?_;obtain⟨B,dx,dy,d,bb,sB,ix,iy,ee,q⟩:=q;cases ix<;>try (cases ee;done)
 all_goals (cases iy<;>try (cases ee;done))
 rename_i l vs ds h hl l' ws es h' yS;simp only[zQ]at ee;split at ee
 ·rename_i hz;cases ee
  have l1:=hl.length;have l2:=yS.length;refine⟨l,l',vs,ws,rfl,rfl,aK sB h,aK sB h',λz=>?_,by omega,λz=>?_,λ_ pp hp=>?_⟩
  ·subst z;cases hl
   simp at hz
  ·subst z;cases yS
   rw[uQ]at q;exact q.one sB (.tup h hl)
  ·have xt:=Ext.laid (o:=.tup (vs++ws)) sB hp;exact q _ _ _ xt (.tup (eZ.of au) ((hl.append yS).mono xt.bn)) (by simp)
 ·cases ee
@[simp] noncomputable def wZ:D->D->OB
 |.bl i,.int j=>some (.int ((if i=true then 1 else 0)+j),false)
 |.int i,.bl j=>some (.int (i+b2i j),false)
 |_,_=>none
theorem Cw:bW X (binaryOp .Add) (rD X.K wZ):=by
 intro aa s σ H x y v u Q I rx ry q;obtain⟨B,dx,dy,d,bb,sB,ix,iy,ee,q⟩:=q;cases ix<;>try (cases ee;done)
 all_goals (cases iy<;>try (cases ee;done))
 ·simp only[wZ]at ee;cases ee
  cases rx
  obtain⟨t,rfl⟩:=ry;exact IntBool.add_bool_int ⟨.int _,H,I.tok _,⟨_,rfl⟩,q.one sB (.int _)⟩
 ·simp only[wZ]at ee;cases ee
  exact ug aa s σ H _ _ v u Q I rx ry ⟨_,_,rfl,rfl,q.one sB (.int _)⟩
@[simp] noncomputable def bv:D->D->OB
 |.int i,.int j=>some (.int (i+j),false)
 |.str i,.str j=>if i.length+j.length<=sizeLine then some (.str (i++j),false)else none
 |.lst xs,.lst ys=>if xs.length+ys.length<=sizeLine then some (.lst (xs++ys),true)else none
 |.tup xs,.tup ys=>if xs.length+ys.length<=sizeLine/\xs.isEmpty=false then some (.tup (xs++ys),false)else none
 |.bl i,.int j=>some (.int ((if i=true then 1 else 0)+j),false)
 |.int i,.bl j=>some (.int (i+b2i j),false)
 |_,_=>none
theorem bg:bW X (binaryOp .Add) (rD X.K bv):=by
 refine gt (r:=rD X.K (yJ sS (yJ zP (yJ zQ wZ)))) (kQ zN (kQ Cu (kQ Cv Cw))) λx y H Q q=>?_;obtain⟨B,dx,dy,d,bb,sB,ix,iy,ee,q⟩:=q;refine⟨B,dx,dy,d,bb,sB,ix,iy,?_,q⟩;cases dx<;>try (cases ee;done)
 all_goals (cases dy<;>try (cases ee;done))
 all_goals (simp[bv]at ee;simp[yJ,sS,zP,zQ,wZ,ee])
@[simp] noncomputable def GW:D->Option Bool
 |.bl b=>some b
 |_=>none
def re:List D->Option (List Bool)
 |[]=>some []
 |d::ds=>(GW d).bind λb=>(re ds).map (b :: ·)
@[simp] theorem Ey:re []=some []:=rfl
@[simp] theorem uy (d:D)(ds:List D):re (d::ds)=(GW d).bind λb=>(re ds).map (b :: ·):=rfl
theorem sZ {K:Frag}{B:Hp}:∀ {vs:List V}{ds:List D}{bs:List Bool}{its:List Value},L2.a9 vs its->IsL K B vs ds->re ds=some bs->its=bs.map Value.bool
 |_,_,_,_,.nil,.nil,e=>by cases e;rfl
 |_,_,_,_,.cons r rr,.cons i ii,e=>by
  rw[uy]at e;obtain⟨b,e1,e⟩:=oX e;obtain⟨bs,e2,e⟩:=oY e;subst e;cases i<;>simp only[GW]at e1<;>try (cases e1;done)
  cases e1
  cases r
  rw[sZ rr ii e2];rfl
@[simp] def ml:List D->OB
 |[.lst ds]=>(re ds).map λbs=>(.bl (bs.all id),false)
 |_=>none
theorem p9 (hc:X.calm=true:=by rfl):b7 X (.builtin "all") (yI X.K ml):=by
 intro aa s σ H xs us Q I rs q;obtain⟨B,ds,d,bb,sB,i,ee,q⟩:=q;cases i with
 |nil=>cases ee
 |cons i1 i=>
  cases i with
  |cons _ _=>cases i1<;>cases ee
  |nil=>
   cases i1<;>try (cases ee;done)
   rename_i l vs es h hl;obtain⟨bs,eb,ee⟩:=oY ee;cases ee
   obtain⟨u1,rfl,r1⟩:=iL rs;cases r1
   obtain⟨its,rv,p1,z1⟩:=I.list (sB.seq h);have ei:=sZ rv hl eb;have eM:l<s.heap.objs.size:=by obtain⟨_,e0,_⟩:=p1.isList;exact vX e0
   refine call_all_walk (wpAny_pyIter_list p1.isList ⟨_,_,_,_,_,_,λj=>(bs[j]?).getD true,rfl,Walks.list (A:=X.A.in1) (I.ok.hd hc) s.heap.objs.size l (vS eM) its.toArray,⟨⟨_,vY _ rfl,rfl,rfl⟩,p1.isList.push _⟩,λj v s' Q' E' hP hQ=>?_,λh' tk hk=>?_⟩)
   ·have Jx:its[j]? = some v:=by simpa using hP
    rw[ei,vA]at Jx;obtain⟨c,e1,e2⟩:=oY Jx;subst e2;dsimp only at hQ;rw[e1]at hQ;exact wpAny_truthy_bool hQ
   ·have ea:((List.range its.toArray.size).all λj=>(bs[j]?).getD true)=bs.all id:=by
     rw[vG,ei,vH];exact LSm.range_all bs
    rw[ea];refine⟨.bl _,H,I.kept λc o e0=>?_,rfl,q.one sB (.bl _)⟩;exact hk c o (λhm=>by rw[List.mem_singleton.mp hm]at e0;exact Nat.lt_irrefl _ (vX e0)) (vZ _ e0)
end
noncomputable def FZ (z:Str):It:=⟨λi _=>i<z.cps.size,λi H v H'=>H'=H/\∃c,z.cps[i]? = some c/\v=.str ⟨#[c]⟩,λi _=>z.cps.size<=i⟩
theorem pA {P:Program}{w:World}{K:Frag}{tg:Expr}(z:Str)(t:Tok)(it:Addr):Turn P w K tg (FZ z) [it] it (λi h=>h.IsStrIter it "str_ascii_iterator" z t i) where
 mem:=List.mem_singleton.mpr rfl
 obj:=λi h st b hb=>by
  have eb:=List.mem_singleton.mp hb;subst eb;obtain⟨o,e1,_,d1⟩:=st;exact⟨o,e1,λv zz=>by rw[d1]at zz;cases zz⟩
 keep:=λi h h' st k=>let ⟨o,e1,r⟩:=st;⟨o,k it (List.mem_singleton.mpr rfl) o e1,r⟩
 item:=by
  intro X hP hw hK hc i aa s σ H E I hf st hg;subst hP hw hK;have CS:i<z.cps.size:=hg;obtain⟨f0,f1,f2,f3,f4,f5⟩:=hf it (List.mem_singleton.mpr rfl);refine wpAny_pyNext_ascii_item st (c:=z.cps[i]) (by simp[CS]) λh' a7 sb=>?_;obtain⟨o,e1,c1,d1⟩:=id a7;exact⟨_,rfl,oV (s:={ s with heap:=h',toks:=s.toks+1 }) e1 c1 d1 (by decide) ⟨.str ⟨#[z.cps[i]]⟩,H,I.turned (λb o hb e2=>(sb.2 b hb).trans e2) f0 f1 f3 f4 f5,⟨_,rfl⟩,⟨rfl,_,by simp[CS],rfl⟩,a7,λb hb=>(hf b hb).1⟩⟩
 done:=by
  intro X hP hw hK hc i aa s σ H E I hf st hg;subst hP hw hK;have CS:z.cps.size<=i:=hg;obtain⟨f0,f1,f2,f3,f4,f5⟩:=hf it (List.mem_singleton.mpr rfl);exact wpAny_pyNext_ascii_end (I.ok.hd hc) st (by simp;omega) λh' eb=>⟨rfl,I.turned (t':=s.toks) (λb o hb e2=>eb b o hb e2) f0 f1 f3 f4 f5⟩
 self:=λ_ _ _ _ _ st h=>wpAny_pyIter_striter_ascii st h
theorem pB {P:Program}{w:World}{K:Frag}{tg:Expr}(z:Str)(t:Tok)(it:Addr):Turn P w K tg (FZ z) [it] it (λi h=>h.IsStrIter it "str_iterator" z t i) where
 mem:=List.mem_singleton.mpr rfl
 obj:=λi h st b hb=>by
  have eb:=List.mem_singleton.mp hb;subst eb;obtain⟨o,e1,_,d1⟩:=st;exact⟨o,e1,λv zz=>by rw[d1]at zz;cases zz⟩
 keep:=λi h h' st k=>let ⟨o,e1,r⟩:=st;⟨o,k it (List.mem_singleton.mpr rfl) o e1,r⟩
 item:=by
  intro X hP hw hK hc i aa s σ H E I hf st hg;subst hP hw hK;have CS:i<z.cps.size:=hg;obtain⟨f0,f1,f2,f3,f4,f5⟩:=hf it (List.mem_singleton.mpr rfl);refine wpAny_pyNext_wide_item st (c:=z.cps[i]) (by simp[CS]) λh' a7 sb=>?_;obtain⟨o,e1,c1,d1⟩:=id a7;exact⟨_,rfl,oV (s:={ s with heap:=h',toks:=s.toks+1 }) e1 c1 d1 (by decide) ⟨.str ⟨#[z.cps[i]]⟩,H,I.turned (λb o hb e2=>(sb.2 b hb).trans e2) f0 f1 f3 f4 f5,⟨_,rfl⟩,⟨rfl,_,by simp[CS],rfl⟩,a7,λb hb=>(hf b hb).1⟩⟩
 done:=by
  intro X hP hw hK hc i aa s σ H E I hf st hg;subst hP hw hK;have CS:z.cps.size<=i:=hg;obtain⟨f0,f1,f2,f3,f4,f5⟩:=hf it (List.mem_singleton.mpr rfl);exact wpAny_pyNext_wide_end (I.ok.hd hc) st (by simp;omega) λh' eb=>⟨rfl,I.turned (t':=s.toks) (λb o hb e2=>eb b o hb e2) f0 f1 f3 f4 f5⟩
 self:=λ_ _ _ _ _ st h=>wpAny_pyIter_striter_wide st h
section
variable {X:Cx}{a b e:Expr}{pos:Pos}{x:Str}{p:Pos}{tg:Expr}
theorem xa {l:Expr}{tl:TE}(hl:PE X l tl):PI X tg l (λσ H R=>tl σ H λx H1=>∃z,x=.str z/\R (FZ z) H1):=by
 intro aa s σ H R I h;refine bG (hl aa s σ H _ I h) λv s1 ⟨x,H1,I1,r1,q1⟩=>?_;obtain⟨z,rfl,q⟩:=q1;obtain⟨t,rfl⟩:=r1;have fp:∀b∈[s1.heap.objs.size],iK X aa H1 b:=λb hb=>by
  rw[List.mem_singleton.mp hb];exact I1.fpOk (vT _) (I1.hok.fresh (vT _))
 cases ha:z.cps.all (· < 128) with
 |true=>exact wpAny_pyIter_ascii ha ⟨_,[s1.heap.objs.size],_,_,H1,rfl,I1.kept (t':=s1.toks) λb o e=>vZ _ e,pA z t _,⟨_,vY _ rfl,rfl,rfl⟩,fp,q⟩
 |false=>exact wpAny_pyIter_wide ha ⟨_,[s1.heap.objs.size],_,_,H1,rfl,I1.kept (t':=s1.toks) λb o e=>vZ _ e,pB z t _,⟨_,vY _ rfl,rfl,rfl⟩,fp,q⟩
noncomputable def pC (z:Str):List D:=z.cps.toList.map λc=>.str ⟨#[c]⟩
theorem xc {K:Frag}{B:Hp}(z:Str):mi K (FZ z) B (pC z):=by
 intro i H s;refine⟨λd ed=>?_,λhl=>by unfold pC at hl;show z.cps.size<=i;simpa using hl⟩;unfold pC at ed;rw[vA]at ed;obtain⟨c,ec,rfl⟩:=oY ed;have Jy:z.cps[i]? = some c:=by simpa using ec
 refine⟨(Array.getElem?_eq_some_iff.mp Jy).1,λv H' hy=>?_⟩;obtain⟨rfl,c',e1,rfl⟩:=hy;rw[Jy]at e1;cases e1;exact⟨B,.refl s,.str _⟩
@[simp] def Cy:D->Option (List D)
 |.lst ds=>some ds
 |.tup ds=>some ds
 |.str z=>some (pC z)
 |_=>none
@[simp] def cA (f:FE):FA:=λρ=>(f ρ).bind λx=>Cy x.1
theorem cI (h:JE X e f):JI X tg e (cA f):=by
 intro aa s σ H R I q;obtain⟨B,ρ,ds,sB,r,e',q⟩:=q;obtain⟨xx,ex,es⟩:=oX e';obtain⟨xd,xb⟩:=xx;cases xd with
 |lst l=>exact sY h aa s σ H R I ⟨B,ρ,ds,sB,r,by unfold wU;rw[ex];exact es,q⟩
 |tup l=>exact sY h aa s σ H R I ⟨B,ρ,ds,sB,r,by unfold wU;rw[ex];exact es,q⟩
 |str z=>
  cases es
  refine xa h aa s σ H R I ⟨B,ρ,_,_,sB,r,ex,λv H1 N1 x1 i1 _=>?_⟩;cases i1
  exact⟨z,rfl,q _ H1 N1 x1 (xc z)⟩
 |_=>cases es
theorem zR:v0 X (λx lo hi H Q=>∃z,x=.str z/\z.length<=sizeLine/\Q (.str (Txt.slice z lo hi)) H):=by
 intro aa s σ H x v vl vu lo hi sl Q I rx hs pl pu h;obtain⟨z,rfl,hz,q⟩:=h;obtain⟨t,rfl⟩:=rx;have fin:∀lo hi,Q (.str (Txt.slice z lo hi)) H->(Txt.slice z lo hi).length<=sizeLine/\∀t' k,EP X aa σ Q (.str (Txt.slice z lo hi) t') { s with toks:=k }:=λlo hi q=>
  ⟨vR (Txt.slice_le z _ _) hz,λt' k=>⟨.str _,H,I.tok k,⟨t',rfl⟩,q⟩⟩
 refine⟨"str",_,PySem.F.slot_str_getitem.lookup,typeIs_str _ _ _,?_⟩;cases pl with
 |none=>
  cases pu with
  |none=>exact wpAny_getItem_str_slice (l:=none) (u:=none) (st:=none) hs rfl (post_val_or_str (fin _ _ q))
  |int j tj=>exact wpAny_getItem_str_slice (l:=none) (u:=some (j,tj)) (st:=none) hs rfl (post_val_or_str (fin _ _ q))
 |int i ti=>
  cases pu with
  |none=>exact wpAny_getItem_str_slice (l:=some (i,ti)) (u:=none) (st:=none) hs rfl (post_val_or_str (fin _ _ q))
  |int j tj=>exact wpAny_getItem_str_slice (l:=some (i,ti)) (u:=some (j,tj)) (st:=none) hs rfl (post_val_or_str (fin _ _ q))
theorem uz {A:Around}{E:Value->Shared->Prop}{s:Shared}{prog:Program}{w:World}{t sl:Addr}{am:Array Value}{vl vu:Value}{lo hi:Option Int}{Q:Value->Shared->Prop}(ht:IsTup s.heap t am)(hs:s.heap.IsSliceOf sl vl vu .none)(pl:IsPart vl lo)(pu:IsPart vu hi)
  (h0:HT.bV am.size 0 lo=0) (h1:HT.bV am.size am.size hi=am.size) (h:Q (.ref t) s):wpAny (model prog w) A (getItem (.ref t) (.ref sl)) Q E s:=by
 obtain⟨os,A1,Gi,A2⟩:=id hs
 have hT:s.TypeIs (.ref sl) "slice":=⟨os,A1,Gi⟩
 unfold getItem
 try with_reducible refine wpAny_holding ?_
 first|refine wX (wY ?_)|skip
 refine wX (wpAny_sequenceKey ht.typeIs (by decide) ?_)
 refine wX (wpAny_callSpecial?_slot (name:=Str.ofString "__getitem__") ht.typeIs PyProof.Rows.slot_tuple_getitem (wpAny_call_entry PyProof.Rows.slot_tuple_getitem ht.typeIs entry_tuple_getitem ?_ (args_tuple_getitem _ _)))
 show wpAny _ _ (Builtin.Tuple.tupleItemsOf (.ref t)>>=_) _ _ s
 refine wX (tupleItemsOf_ ht ?_)
 refine wX (wpAny_typeOf hT ?_)
 rw[if_pos (by decide)]
 refine wX (HT.fg hs pl pu ?_)
 have Ls:(((HT.bV am.size 0 lo:Nat):Int) == 0 && (1:Int) == 1 && (HT.bV am.size am.size hi - HT.bV am.size 0 lo) == am.size)=true:=by
  rw[h0,h1];simp
 show wpAny _ _ (if(((HT.bV am.size 0 lo:Nat):Int) == 0 && (1:Int) == 1 && (HT.bV am.size am.size hi - HT.bV am.size 0 lo) == am.size)=true then _ else _) _ _ s
 rw[if_pos Ls]
 refine wX ?_
 unfold Builtin.Tuple.tupleIsExact
 refine wX (wpAny_typeOf ht.typeIs (wY ?_))
 show wpAny _ _ (if((Value.type "tuple") == Value.type "tuple")=true then _ else _) _ _ s
 rw[if_pos (by decide)]
 refine wX (wpAny_rule ?_)
 exact wY ⟨_,rfl,wY h⟩
theorem zS:v0 X (λx lo hi H Q=>∃a xs,x=.ref a/\eZ X.K H a xs/\HT.bV xs.length 0 lo=0/\HT.bV xs.length xs.length hi=xs.length/\Q (.ref a) H):=by
 intro aa s σ H x v vl vu lo hi sl Q I rx hs pl pu h;obtain⟨a,xs,rfl,hx,h0,h1,q⟩:=h;cases rx
 obtain⟨its,r,ht,hz⟩:=I.tuple hx;have bp:its.toArray.size=xs.length:=by rw[vG];exact r.length.symm
 refine⟨"tuple",_,PyProof.Rows.slot_tuple_getitem.lookup,ht.typeIs,?_⟩;exact uz ht hs pl pu (by rw[bp];exact h0) (by rw[bp];exact h1) ⟨.ref a,H,I,rfl,q⟩
@[simp] def yM (fa:FE)(fl fh:FO):FE:=λρ=>(fa ρ).bind λx=>(fl ρ).bind λl=>(fh ρ).bind λh=>match x.1 with
 |.lst ds=>some (.lst (kR ds l h),true)
 |.tup ds=>some (.tup (kR ds l h),false)
 |.str z=>if z.length<=sizeLine then some (.str (Txt.slice z l h),false)else none
 |_=>none
theorem rf {ds:List D}{lo hi:Option Int}(h0:HT.bV ds.length 0 lo=0)(h1:HT.bV ds.length ds.length hi=ds.length):kR ds lo hi=ds:=by
 unfold kR;rw[h0,h1];simp
theorem gy {lo hi:Option Expr}{p2:Pos}{fa:FE}{fl fh:FO}(ha:JE X e fa)(hl:JO X lo fl)(hh:JO X hi fh):JE X (.Subscript e (.Slice lo hi none p2) pos) (yM fa fl fh):=by
 refine PE.to (wu (v0.or (v0.or zu BX) (v0.or zR zS)) ha hl hh) λσ H Q q=>?_;obtain⟨B,ρ,d,b,sB,r,e,q⟩:=q;obtain⟨x,ex,e⟩:=oX e;obtain⟨l,el,e⟩:=oX e;obtain⟨h,eh,e⟩:=oX e;refine⟨B,ρ,x.1,x.2,sB,r,ex,λv H1 N1 x1 i1 _=>⟨N1,ρ,l,x1.nh,r.mono x1.bn,el,λH2 h2=>⟨N1,ρ,h,x1.nh.trans h2,r.mono x1.bn,eh,λH3 h3=>?_⟩⟩⟩;have s3:aF N1 H3:=x1.nh.trans (h2.trans h3);have q3:=q.into (x1.trans (.grow x1.nh (h2.trans h3)));obtain⟨xd,xb⟩:=x;dsimp only at e i1;cases i1 with
 |@tup a' vs ds hs hv=>
  cases e
  by_cases hw:HT.bV ds.length 0 l=0/\HT.bV ds.length ds.length h=ds.length
  ·rw[rf hw.1 hw.2]at q3;exact .inr (.inr ⟨a',vs,rfl,aK s3 hs,by rw[hv.length];exact hw.1,by rw[hv.length];exact hw.2,q3.one s3 (.tup hs hv)⟩)
  ·refine .inl (.inr ⟨a',vs,rfl,aK s3 hs,by rw[hv.length];exact hw,λp hp=>?_⟩);have x4:=Ext.laid (o:=.tup (ma vs l h)) s3 hp;exact q3 _ _ _ x4 (.tup (eZ.of au) ((oi hv).mono x4.bn)) (by simp)
 |@lst a' vs ds hs hv=>
  cases e
  refine .inl (.inl ⟨a',vs,rfl,s3.seq hs,λp hp=>?_⟩);have x4:=Ext.laid (o:=.lst (ma vs l h)) s3 hp;exact q3 _ _ _ x4 (.lst (eN.of au) ((oi hv).mono x4.bn)) λ_=>⟨p,_,_,rfl,rfl,hp,au,(oi hv).mono x4.bn⟩
 |str z=>
  dsimp only at e;split at e
  ·rename_i hz;cases e
   exact .inr (.inl ⟨z,rfl,hz,q3.one s3 (.str _)⟩)
  ·cases e
 |_=>cases e
theorem const_int {K:Frag}{y:Str}{i:Int}{t:Tok}(e:nsIn K mainGlobals y=some (some (.int i t))):∃u v,nsIn K mainGlobals y=some (some u)/\aG v u/\∀B,Is K B v (.int i):=⟨_,.int i,e,⟨t,rfl⟩,λ_=>.int i⟩
noncomputable def om:Value->D->Bool
 |.none,.non=>true
 |.bool a,.bl b=>a == b
 |.int i _,.int j=>decide (i=j)
 |.str i _,.str j=>decide (i=j)
 |_,_=>false
def fR:List Value->List D->Bool
 |[],[]=>true
 |u::us,d::ds=>om u d && fR us ds
 |_,_=>false
theorem gJ {K:Frag}{B:Hp}:∀ {u:Value}{d:D},om u d=true->∃v,aG v u/\Is K B v d
 |.none,.non,_=>⟨.non,rfl,.non⟩
 |.bool a,.bl b,h=>by
  have:a=b:=eq_of_beq h;subst this;exact⟨.bl a,rfl,.bl a⟩
 |.int i t,.int j,h=>by
  have:i=j:=of_decide_eq_true h;subst this;exact⟨.int i,⟨t,rfl⟩,.int i⟩
 |.str i t,.str j,h=>by
  have:i=j:=of_decide_eq_true h;subst this;exact⟨.str i,⟨t,rfl⟩,.str i⟩
theorem fT {K:Frag}:∀ {us:List Value}{ds:List D},fR us ds=true->∃vs,L2.a9 vs us/\∀B,IsL K B vs ds
 |[],[],_=>⟨[],.nil,λ_=>.nil⟩
 |u::us,d::ds,h=>by
  rw[fR,vC]at h;obtain⟨vs,r,i⟩:=fT (K:=K) h.2;obtain⟨v,r1,_⟩:=gJ (K:=K) (B:=λ_=>none) h.1;refine⟨v::vs,.cons r1 r,λB=>?_⟩;obtain⟨v',HQ,i'⟩:=gJ (K:=K) (B:=B) h.1;have:v'=v:=by have z1:=r1.abs;rw[HQ.abs]at z1;exact vK z1
  subst this;exact .cons i' (i B)
theorem const_tup {K:Frag}{y:Str}{a:Addr}{od:Option Addr}{its:Array Value}{n:Nat}{lZ:Array (Option Value)}{ds:List D}(e:nsIn K mainGlobals y=some (some (.ref a)))
  (l:K.lookup a=some ⟨.type "tuple",od,.seq its n,lZ⟩) (h:(decide (its.size<=1000) && fR its.toList ds)=true):∃u v,nsIn K mainGlobals y=some (some u)/\aG v u/\∀B,Is K B v (.tup ds):=by
 rw[vC]at h;obtain⟨vs,r,i⟩:=fT (K:=K) h.2;exact⟨_,.ref a,e,rfl,λB=>.tup (.inr ⟨_,its,n,l,rfl,rfl,Nat.le_of_lt (Nat.lt_of_le_of_lt (of_decide_eq_true h.1) (by decide)),r⟩) (i B)⟩
end
section
variable {X:Cx}{a b o e:Expr}{pos:Pos}{x:Str}{p:Pos}{tg:Expr}
theorem Cz {name:Str}{id:String}{dI c6:Pos}{op:D->D->OB}{fo fe:FE}(slot:Slot "str" name id)(yR:typeOf (.builtin id)=pure (.type "method_descriptor"))
  (hm:yG X id (λx xs H Q=>∃y,xs=[y]/\rD X.K op x y H Q)) (y9:∀dx dy r,op dx dy=some r->∃z,dx=.str z) (ho:JE X o fo) (he:JE X e fe)
  (fG:attributeBase o name X.env (eval o X.env)=eval o X.env:=by rfl)
  (oI:((backTo c6 (starEach [e] X.env)).all (λx=>!x.1) && (backToKw c6 (keywordEach [] X.env)).all (λx=>x.1.isSome)
   && decide ([e].length+([]:List Keyword).length+(if([]:List Keyword).isEmpty then 0 else 1)<30))=true:=by rfl)
  (fH:(dI.endLine == c6.line)=true:=by rfl) (hs:starEach [e] X.env=[(false,eval e X.env)]:=by rfl):
  JE X (.Call (.Attribute o name dI) [e] [] c6) (f2 op fo fe):=by
 refine PE.to (sD PySem.F.plainAttrs_str slot yR hm ho (dD he fN hs) fG oI fH hs rfl) λσ H Q q=>?_;obtain⟨B,ρ,d,bb,sB,r,ee,q⟩:=q;obtain⟨x1,ex,ee⟩:=oX ee;obtain⟨y1,ey,ee⟩:=oX ee;obtain⟨z,hz⟩:=y9 _ _ _ ee;refine⟨B,ρ,x1.1,x1.2,sB,r,ex,λv H1 N1 HR i1 _=>?_⟩;rw[hz]at i1;cases i1
 refine⟨show "str" = "str" from rfl,N1,ρ,y1.1,y1.2,HR.nh,r.mono HR.bn,ey,λv2 H2 N2 ua i2 _=>⟨v2,rfl,N2,.str z,y1.1,d,bb,ua.nh,.str z,i2,by rw[←hz];exact ee,q.into (HR.trans ua)⟩⟩
@[simp] noncomputable def C0:D->Option Str
 |.str z=>some z
 |_=>none
def eK:List D->Option (List Str)
 |[]=>some []
 |d::ds=>(C0 d).bind λz=>(eK ds).map (z :: ·)
@[simp] theorem Ds:eK []=some []:=rfl
@[simp] theorem rg (d:D)(ds:List D):eK (d::ds)=(C0 d).bind λz=>(eK ds).map (z :: ·):=rfl
@[simp] theorem Dt (zs:List Str):eK (zs.map D.str)=some zs:=by
 induction zs with
 |nil=>rfl
 |cons z zs ih=>simp[ih]
theorem fz {K:Frag}{B:Hp}:∀ {vs:List V}{ds:List D}{zs:List Str}{its:List Value},L2.a9 vs its->IsL K B vs ds->eK ds=some zs->StrsAre its zs
 |_,_,_,_,.nil,.nil,e=>by cases e;exact .nil
 |_,_,_,_,.cons r rr,.cons i ii,e=>by
  rw[rg]at e;obtain⟨z,e1,e⟩:=oX e;obtain⟨zs,e2,e⟩:=oY e;subst e;cases i<;>simp only[C0]at e1<;>try (cases e1;done)
  cases e1
  obtain⟨t,rfl⟩:=r;exact .cons _ t (fz rr ii e2)
@[simp] def iU:D->D->OB
 |.str sep,.lst ds=>(eK ds).bind λzs=>if(zs.map (·.length)).sum+zs.length*sep.length<=16777216 then some (.str (Txt.join sep zs),false)else none
 |.str sep,.tup ds=>(eK ds).bind λzs=>if(zs.map (·.length)).sum+zs.length*sep.length<=16777216 then some (.str (Txt.join sep zs),false)else none
 |_,_=>none
theorem C1:yG X "str.join" (λx xs H Q=>∃y,xs=[y]/\rD X.K iU x y H Q):=by
 intro aa s σ H x xs v us Q I rx rs h;obtain⟨y,rfl,B,dx,dy,d,bb,sB,ix,iy,ee,q⟩:=h;obtain⟨u1,rfl,r1⟩:=iL rs;cases ix<;>(try (simp[iU]at ee;done))
 obtain⟨t,rfl⟩:=rx;cases iy<;>(try (simp[iU]at ee;done))
 ·rename_i h hl;simp only[iU]at ee;obtain⟨zs,ez,ee⟩:=oX ee;split at ee
  ·rename_i hok;cases ee
   cases r1
   obtain⟨its,rv,p1,z1⟩:=I.tuple (aK sB h);exact join_tuple p1 (by simpa using fz rv hl ez) hok λt' k=>⟨.str _,H,I.tok k,⟨t',rfl⟩,q.one sB (.str _)⟩
  ·cases ee
 ·rename_i h hl;simp only[iU]at ee;obtain⟨zs,ez,ee⟩:=oX ee;split at ee
  ·rename_i hok;cases ee
   cases r1
   obtain⟨its,rv,p1,z1⟩:=I.list (sB.seq h);exact join_list p1.isList (by simpa using fz rv hl ez) hok λt' k=>⟨.str _,H,I.tok k,⟨t',rfl⟩,q.one sB (.str _)⟩
  ·cases ee
theorem xf (dx dy:D)(r:D×Bool)(h:iU dx dy=some r):∃z,dx=.str z:=by
 cases dx<;>first|exact⟨_,rfl⟩|(cases dy<;>simp[iU]at h)
noncomputable def dz:List Nat->List D->Env->Option Env
 |[],[],ρ=>some ρ
 |i::is,d::ds,ρ=>dz is ds (ρ.set i (some (d,false)))
 |_,_,_=>none
@[simp] theorem mP (ρ:Env):dz [] [] ρ=some ρ:=by rw[dz]
@[simp] theorem iz (i:Nat)(is:List Nat)(d:D)(ds:List D)(ρ:Env):dz (i::is) (d::ds) ρ=dz is ds (ρ.set i (some (d,false))):=by rw[dz]
@[simp] theorem Ez (d:D)(ds:List D)(ρ:Env):dz [] (d::ds) ρ=none:=by simp only[dz]
@[simp] theorem E1 (i:Nat)(is:List Nat)(ρ:Env):dz (i::is) [] ρ=none:=by simp only[dz]
@[simp] def rh (is:List Nat):FG:=λd ρ=>match d with|.tup ds=>dz is ds ρ|_=>none
def kU:List Nat->BD
 |[]=>DN
 |i::is=>AE (iJ i) (kU is)
theorem xg:aF (cr N (own σ ρ)) (cr N (own (σ.set i (some v)) (ρ.set i (some (d,false))))):=cV λa u e q=>⟨e,λz=>q (by
 rcases nY z with⟨_,d',p⟩|⟨j,_,d',q1,q2⟩
 ·cases p
 ·exact⟨j,d',q1,q2⟩)⟩
theorem mQ {K:Frag}:∀ {is:List Nat}{vs:List V}{ds:List D}{B0 H0 N H:Hp}{σ:St}{ρ ρ':Env}{Q:St->Hp->Prop},cx K B0 H0 N H σ ρ->IsL K (cr N (own σ ρ)) vs ds->dz is ds ρ=some ρ'->(∀σ',cx K B0 H0 N H σ' ρ'->Q σ' H)->kU is vs σ H Q
 |[],_,_,_,_,_,_,_,_,_,_,s,.nil,e,k=>by
  rw[mP]at e;cases e;exact⟨rfl,k _ s⟩
 |[],_,_,_,_,_,_,_,_,_,_,_,.cons _ _,e,_=>by simp at e
 |_::_,_,_,_,_,_,_,_,_,_,_,_,.nil,e,_=>by simp at e
 |i::is,_,_,_,_,_,_,_,_,_,_,s,.cons h hs,e,k=>by
  rw[iz]at e;exact⟨_,_,rfl,mQ (s.bind h) (hs.mono xg) e k⟩
theorem j9:∀ {is:List Nat}{ds:List D}{ρ ρ':Env},dz is ds ρ=some ρ'->ds.length=is.length
 |[],[],_,_,_=>rfl
 |_::_,_::_,_,_,e=>by rw[iz]at e;simp[j9 e]
 |[],_::_,_,_,e=>by simp at e
 |_::_,[],_,_,e=>by simp at e
theorem AT {K:Frag}{is:List Nat}:z7 K (rh is) (BF K is.length (kU is)):=by
 intro B0 H0 N H σ ρ ρ' v d Q s h e k;cases h with
 |@tup a vs ds ht hl=>
  have e':dz is ds ρ=some ρ':=e;exact⟨a,vs,rfl,aK (bf.trans s.ext.nh) ht,by rw[hl.length];exact j9 e',mQ s hl e' λσ' s'=>k σ' H ⟨N,s'⟩⟩
 |_=>cases e
theorem mR {K:Frag}{n:Nat}{B H:Hp}{ρ0:Env}{Q:St->Hp->Prop}(cl:∀i,i<n->ρ0[i]? = some none):∀ {is:List Nat}{vs:List V}{ds:List D}{σ:St}{ρ ρ1:Env},(∀i∈is,i<n)->cQ K B σ ρ->IsL K B vs ds->dz is ds ρ=some ρ1->ρ.length=σ.length->ρ.length=ρ0.length ->
  (∀σ1,cQ K B σ1 ρ1->(∀B',cQ K B' σ ρ0->cQ K B' σ1 ρ0)->ρ0.length=σ1.length->Q σ1 H)->kU is vs σ H Q
 |[],_,_,_,_,_,_,rp,.nil,e,l1,l2,k=>by
  rw[mP]at e;cases e;exact⟨rfl,k _ rp (λ_ z=>z) (by omega)⟩
 |[],_,_,_,_,_,_,_,.cons _ _,e,_,_,_=>by simp at e
 |_::_,_,_,_,_,_,_,_,.nil,e,_,_,_=>by simp at e
 |i::is,_,_,σ,ρ,_,hn,rp,.cons (v:=v) h hs,e,l1,l2,k=>by
  rw[iz]at e;have hi:=hn i mX;have vm:i<σ.length:=by
   have:=(vV (cl i hi)).1;omega
  refine⟨_,_,rfl,mR cl (λj hj=>hn j (mZ _ hj)) ⟨rp.tb,λj d b q=>?_⟩ hs e (by simpa using l1) (by simpa using l2) λσ1 r1 r2 l=>k σ1 r1 (λB' z=>r2 B' ⟨z.tb,λj d b q=>?_⟩) l⟩
  ·rcases be q with⟨rfl,pp⟩|⟨ne,pp⟩
   ·cases pp
    exact⟨v,by simp[vm],h⟩
   ·obtain⟨w,h1,h2⟩:=rp.at' j d b pp;exact⟨w,by rw[vB ne];exact h1,h2⟩
  ·obtain⟨w,h1,h2⟩:=z.at' j d b q;have ne:i≠j:=λz=>by subst z;rw[cl i hi]at q;cases q
   exact⟨w,by rw[vB ne];exact h1,h2⟩
theorem AU {K:Frag}{n:Nat}{is:List Nat}(hn:∀i∈is,i<n):AM K n (rh is) (BF K is.length (kU is)):=by
 intro B H σ ρ ρ1 v d Q cl rep s h e hl k;cases h with
 |@tup a vs ds ht hv=>
  have e':dz is ds ρ=some ρ1:=e;exact⟨a,vs,rfl,aK s ht,by rw[hv.length];exact j9 e',mR cl hn rep hv e' hl rfl k⟩
 |_=>cases e
end
section
variable {prog:Program}{w:World}{A:Around}{E:Value->Shared->Prop}{s:Shared}
theorem rj (st:s.heap.IsTupleIter it l i)(ht:s.heap.IsTuple l am)(hv:am[i]? = some v)
  (k:∀h',h'.IsTupleIter it l (i+1)->Heap.SameBut it s.heap h'->Q v { s with heap:=h' }):wpAny (model prog w) A (Builtin.SmallTypes.nextOf (.ref it)) Q E s:=by
 obtain⟨o1,g1,c1,d1⟩:=id st;obtain⟨o2,g2,_,n2,d2⟩:=ht;unfold Builtin.SmallTypes.nextOf;refine wX (wpAny_callSpecial?_slot (name:=Str.ofString "__next__") st.typeIs PySem.F.slot_tuple_iterator_next (wpAny_call_entry PySem.F.slot_tuple_iterator_next st.typeIs PySem.F.entry_tuple_iterator_next ?_ (PySem.F.args_tuple_iterator_next_1 _)));show wpAny _ _ (field (.ref it) 0>>=_) _ _ _;refine wX (wpAny_field g1 d1 (x:=.ref l) rfl ?_);show wpAny _ _ (if(Value.ref l == Value.none)=true then _ else _) _ _ _;rw[if_neg (λz=>uX z:¬((Value.ref l == Value.none)=true))];show wpAny _ _ (field (.ref it) 1>>=_) _ _ _;refine wX (wpAny_field g1 d1 (x:=.int i 0) rfl ?_);show wpAny _ _ (seqItems? (.ref l)>>=_) _ _ _;refine wX (wpAny_seqItems g2 d2 ?_);simp only[hv,Int.toNat_natCast];refine wX (wpAny_setField g1 d1 (by simp) (wY ⟨v,rfl,wY (k _ ?_ (vW ..))⟩));exact⟨_,Heap.get?_update_self _ g1 (Obj.isFreed_of_fields (Obj.data_mapFields d1 _)),(Obj.cls_mapFields ..).trans c1,by rw[Obj.data_mapFields d1];simp[rawInt]⟩
theorem u0 (hA:A.handled=none)(st:s.heap.IsTupleIter it l i)(ht:s.heap.IsTuple l am)(hv:am[i]? = none)
  (k:∀h' x,Heap.ExtBut it s.heap h'->(∃o,h'.get? x=some o/\o.cls=.type "StopIteration")->E (.ref x) { s with heap:=h' }):wpAny (model prog w) A (Builtin.SmallTypes.nextOf (.ref it)) Q E s:=by
 obtain⟨o1,g1,c1,d1⟩:=id st;obtain⟨o2,g2,_,n2,d2⟩:=ht;unfold Builtin.SmallTypes.nextOf;refine wX (wpAny_callSpecial?_slot (name:=Str.ofString "__next__") st.typeIs PySem.F.slot_tuple_iterator_next (wpAny_call_entry PySem.F.slot_tuple_iterator_next st.typeIs PySem.F.entry_tuple_iterator_next ?_ (PySem.F.args_tuple_iterator_next_1 _)));show wpAny _ _ (field (.ref it) 0>>=_) _ _ _;refine wX (wpAny_field g1 d1 (x:=.ref l) rfl ?_);show wpAny _ _ (if(Value.ref l == Value.none)=true then _ else _) _ _ _;rw[if_neg (λz=>uX z:¬((Value.ref l == Value.none)=true))];show wpAny _ _ (field (.ref it) 1>>=_) _ _ _;refine wX (wpAny_field g1 d1 (x:=.int i 0) rfl ?_);show wpAny _ _ (seqItems? (.ref l)>>=_) _ _ _;refine wX (wpAny_seqItems g2 d2 ?_);simp only[hv,Int.toNat_natCast];refine wX (wpAny_rule (wX (wpAny_setField g1 d1 (by simp) ?_)));show wpAny _ _ (newExc (.type "StopIteration") []>>=_) _ _ _;refine wX ?_;simp only[newTuple,newExc];refine wX (wpAny_newObj_type ?_ (by size_fits));refine wX (m:=firstArgMember _ _) (wpAny_of_eq (a:=Value.none) (by first|(simp only[firstArgMember];rfl)|rfl) ?_);refine wpAny_newObj_type ?_ (by size_fits);simp only[raiseNew];refine wX (wpAny_handled ?_);first|rw[hA]|rw[show A.in1.handled=none from hA]
 exact wX (wY (wpAny_throw (k _ _ (((vW ..).extBut.push _).push _) ⟨_,vY _ rfl,rfl⟩)))
end
def iH:Bool->Heap->Addr->Addr->Nat->Prop
 |true,h,it,a,i=>h.IsListIter it a i
 |false,h,it,a,i=>h.IsTupleIter it a i
def i0:Bool->Heap->Addr->Array Value->Prop
 |true,h,a,am=>h.IsList a am
 |false,h,a,am=>h.IsTuple a am
def ki (k:Bool)(K:Frag)(H:Hp)(a:Addr)(xs:List V):Prop:=match k with|true=>eN K H a xs|false=>eZ K H a xs
theorem iH.ob (st:iH k h it a i):∃o,h.get? it=some o/\∀v,o.data≠.cell v:=by
 cases k<;>(obtain⟨o,g,_,d⟩:=st;exact⟨o,g,λv z=>by rw[d]at z;cases z⟩)
theorem iH.upon (st:iH k h it a i)(g:∀o,h.get? it=some o->h'.get? it=some o):iH k h' it a i:=by
 cases k<;>(obtain⟨o,e,r⟩:=st;exact⟨o,g o e,r⟩)
theorem i0.upon (st:i0 k h a am)(g:∀o,h.get? a=some o->h'.get? a=some o):i0 k h' a am:=by
 cases k<;>(obtain⟨o,e,r⟩:=st;exact⟨o,g o e,r⟩)
theorem i0.lt (st:i0 k h a am):a<h.objs.size:=by
 cases k<;>(obtain⟨o,e,r⟩:=st;exact vX e)
theorem ki.same {k:Bool}{K:Frag}{H H':Hp}{a:Addr}{xs:List V}(h:ki k K H a xs)(e:aF H H'):ki k K H' a xs:=by
 cases k
 ·exact aK e h
 ·exact e.seq h
theorem ki.vals (I:Inv X aa σ H s)(h:ki k X.K H a xs):∃its:List Value,a9 xs its/\i0 k s.heap a its.toArray/\xs.length<=sizeLine:=by
 cases k
 ·exact I.tuple h
 ·obtain⟨its,r,p,z⟩:=I.list h;exact⟨its,r,p.isList,z⟩
theorem ki.inj (I:Inv X aa σ H s)(h:ki k X.K H a xs)(h':ki k X.K H a ys):xs=ys:=by
 cases k
 ·exact I.tuple_inj h h'
 ·exact I.list_inj h h'
section
variable {prog:Program}{w:World}{A:Around}{E:Value->Shared->Prop}{s:Shared}
theorem dL (st:iH k s.heap it l i)(ht:i0 k s.heap l am)(hv:am[i]? = some v)
  (q:∀h',iH k h' it l (i+1)->Heap.SameBut it s.heap h'->Q v { s with heap:=h' }):wpAny (model prog w) A (Builtin.SmallTypes.nextOf (.ref it)) Q E s:=by
 cases k
 ·exact rj st ht hv q
 ·exact wpAny_nextOf_list_item st ht hv q
theorem iV (hA:A.handled=none)(st:iH k s.heap it l i)(ht:i0 k s.heap l am)(hv:am[i]? = none)
  (q:∀h' x,Heap.ExtBut it s.heap h'->(∃o,h'.get? x=some o/\o.cls=.type "StopIteration")->E (.ref x) { s with heap:=h' }):wpAny (model prog w) A (Builtin.SmallTypes.nextOf (.ref it)) Q E s:=by
 cases k
 ·exact u0 hA st ht hv q
 ·exact wpAny_nextOf_list_end hA st ht hv q
end
noncomputable def Ga (k:Bool)(l:Addr):Obj:={ cls:=.type (if k=true then "list_iterator" else "tuple_iterator"),data:=.fields #[.ref l,.int 0 0] }
theorem td (ht:i0 k s.heap l am)
  (q:Q (.ref s.heap.objs.size) { s with heap:=s.heap.push (Ga k l) }):wpAny (model prog w) A (pyIter (.ref l)) Q E s:=by
 cases k
 ·exact wpAny_pyIter_tuple ht q
 ·exact wpAny_pyIter_list ht q
theorem i0.push (st:i0 k h a am)(o:Obj):i0 k (h.push o) a am:=st.upon λ_ e=>vZ _ e
section
variable (k1 k2:Bool) (h:Heap) (l1 l2:Addr)
abbrev zA:Heap:=h.push (Ga k1 l1)
abbrev zB:Heap:=(zA k1 h l1).push (Ga k2 l2)
abbrev zC:Heap:=(zB k1 k2 h l1 l2).push { cls:=.type "tuple",data:=.seq #[.ref h.objs.size,.ref (zA k1 h l1).objs.size] }
abbrev zD:Heap:=(zC k1 k2 h l1 l2).push { cls:=.type "tuple",data:=.seq #[.none,.none] }
abbrev zE:Heap:=(zD k1 k2 h l1 l2).push { cls:=.type "zip",data:=.fields #[.none,.bool false,.bool false,.ref (zB k1 k2 h l1 l2).objs.size,.ref (zC k1 k2 h l1 l2).objs.size] }
end
theorem rl (k1 k2:Bool)(l1 l2:Addr)(xs ys:Array Value):Meets (Builtin.«zip.__new__» ⟨[.type "zip",.ref l1,.ref l2],[]⟩) (λ_ R s=>i0 k1 s.heap l1 xs/\i0 k2 s.heap l2 ys /\
   R (.ok (.ret (.ref (zD k1 k2 s.heap l1 l2).objs.size))) { s with heap:=zE k1 k2 s.heap l1 l2 }) :=
 .of_wp λprog w A R s hs=>by
  obtain⟨hp,g,d,tk,os⟩:=s;obtain⟨q1,q2,hs⟩:=hs;have yA:=sub_zip;have p1:i0 k1 (Shared.heap ⟨hp,g,d,tk,os⟩) l1 xs:=q1;have p2:i0 k2 (Shared.heap ⟨hp.push (Ga k1 l1),g,d,tk,os⟩) l2 ys:=i0.push q2 _;wp_walk using td p1,td p2;exact⟨_,rfl,hs⟩
section
variable {prog:Program}{w:World}{A:Around}{E:Value->Shared->Prop}{s:Shared}
theorem tf (q1:i0 k1 s.heap l1 xs)(q2:i0 k2 s.heap l2 ys)
  (q:∀h',IsZip h' (s.heap.objs.size+4) (s.heap.objs.size+2) (s.heap.objs.size+3) .none->IsPair h' (s.heap.objs.size+2) (.ref s.heap.objs.size) (.ref (s.heap.objs.size+1))->IsPair h' (s.heap.objs.size+3) .none .none ->
   iH k1 h' s.heap.objs.size l1 0->iH k2 h' (s.heap.objs.size+1) l2 0->(∀c o,s.heap.get? c=some o->h'.get? c=some o)->Q (.ref (s.heap.objs.size+4)) { s with heap:=h' }):
  wpAny (model prog w) A (call (.type "zip") [.ref l1,.ref l2]) Q E s:=by
 refine callType_new PySem.F.called_zip (by decide) (PySem.F.typeCall_zip_2 _ _) (PySem.F.newCall_zip_2 _ _) (λobj=>PySem.F.args_object_init_3 obj _ _) PySem.F.entry_zip_new (rl k1 k2 l1 l2 xs ys) ⟨q1,q2,?_⟩;have n1:(zA k1 s.heap l1).objs.size=s.heap.objs.size+1:=Heap.size_push ..;have n2:(zB k1 k2 s.heap l1 l2).objs.size=s.heap.objs.size+2:=by rw[Heap.size_push,n1]
 have n3:(zC k1 k2 s.heap l1 l2).objs.size=s.heap.objs.size+3:=by rw[Heap.size_push,n2]
 have n4:(zD k1 k2 s.heap l1 l2).objs.size=s.heap.objs.size+4:=by rw[Heap.size_push,n3]
 have u5:∀ {c o},(zD k1 k2 s.heap l1 l2).get? c=some o->(zE k1 k2 s.heap l1 l2).get? c=some o:=λe=>vZ _ e;have u4:∀ {c o},(zC k1 k2 s.heap l1 l2).get? c=some o->(zE k1 k2 s.heap l1 l2).get? c=some o:=λe=>u5 (vZ _ e);have u3:∀ {c o},(zB k1 k2 s.heap l1 l2).get? c=some o->(zE k1 k2 s.heap l1 l2).get? c=some o:=λe=>u4 (vZ _ e);have u2:∀ {c o},(zA k1 s.heap l1).get? c=some o->(zE k1 k2 s.heap l1 l2).get? c=some o:=λe=>u3 (vZ _ e);have u1:∀ {c o},s.heap.get? c=some o->(zE k1 k2 s.heap l1 l2).get? c=some o:=λe=>u2 (vZ _ e);have g5:(zE k1 k2 s.heap l1 l2).get? (zD k1 k2 s.heap l1 l2).objs.size=some _:=vY _ rfl;have g4:(zE k1 k2 s.heap l1 l2).get? (zC k1 k2 s.heap l1 l2).objs.size=some _:=u5 (vY _ rfl);have g3:(zE k1 k2 s.heap l1 l2).get? (zB k1 k2 s.heap l1 l2).objs.size=some _:=u4 (vY _ rfl);have g2:(zE k1 k2 s.heap l1 l2).get? (zA k1 s.heap l1).objs.size=some _:=u3 (vY _ (by cases k2<;>rfl))
 have g1:(zE k1 k2 s.heap l1 l2).get? s.heap.objs.size=some _:=u2 (vY _ (by cases k1<;>rfl))
 rw[n2,n3,n4]at g5;rw[n1,n2]at g3;rw[n3]at g4;rw[n1]at g2;show _/\_;rw[n4];refine⟨⟨_,g5,rfl⟩,q _ g5 g3 g4 ?_ ?_ λc o e=>u1 e⟩
 ·cases k1<;>exact⟨_,g1,rfl,rfl⟩
 ·cases k2<;>exact⟨_,g2,rfl,rfl⟩
structure ZApart (z TI TO i1 i2:Addr):Prop where
 tz:TI≠z
 oz:TO≠z
 az:i1≠z
 bz:i2≠z
 oa:TO≠i1
 ob:TO≠i2
 to:TI≠TO
 ta:TI≠i1
 tb:TI≠i2
 ab:i1≠i2
theorem pD {k1 k2:Bool}{z TI TO i1 i2 l1 l2:Addr}{j:Nat}{xs ys:Array Value}{x y a b:Value}{Q:Value->Shared->Prop}(D:ZApart z TI TO i1 i2)(m1:l1≠z/\l1≠TO/\l1≠i1)(m2:l2≠z/\l2≠TO/\l2≠i1/\l2≠i2)
  (hz:IsZip s.heap z TI TO .none) (hI:IsPair s.heap TI (.ref i1) (.ref i2)) (hO:IsPair s.heap TO a b) (t1:iH k1 s.heap i1 l1 j) (t2:iH k2 s.heap i2 l2 j) (q1:i0 k1 s.heap l1 xs) (q2:i0 k2 s.heap l2 ys) (hx:xs[j]? = some x) (hy:ys[j]? = some y)
  (q:∀h',IsZip h' z TI TO (rawInt s.heap.objs.size)->IsPair h' TO x y->iH k1 h' i1 l1 (j+1)->iH k2 h' i2 l2 (j+1)->IsPair h' s.heap.objs.size x y->h'.objs.size=s.heap.objs.size+1 ->
   (∀c o,c≠z->c≠TO->c≠i1->c≠i2->s.heap.get? c=some o->h'.get? c=some o)->Q (.ref s.heap.objs.size) { s with heap:=h' }):
  wpAny (model prog w) A (Builtin.«zip.__next__» ⟨[.ref z],[]⟩) (λfin s'=>∃v,fin=.done (.ret v)/\Q v s') E s:=by
 show wpAny _ _ (field (.ref z) 2>>=_) _ _ s;refine wX (wpAny_field hz rfl (x:=.bool false) rfl ?_);show wpAny _ _ (field (.ref z) 3>>=_) _ _ s;refine wX (wpAny_field hz rfl (x:=.ref TI) rfl (wX (wpAny_seqItems hI rfl ?_)));show wpAny _ _ (Builtin.SmallTypes.ownedTupleIsFree (.ref z)>>=_) _ _ s;refine wX ?_;unfold Builtin.SmallTypes.ownedTupleIsFree;refine wX (wpAny_field hz rfl (x:=.none) rfl (wY ?_));simp only[if_true];refine wX (wpAny_rule (wX (wpAny_field hz rfl (x:=.ref TO) rfl (wX (wpAny_setField_rec hz (by simp) λg1 hz1 s1=>?_)))));replace hz1:IsZip g1 z TI TO .ellipsis:=hz1;refine wX ?_;simp only[List.forIn_cons,List.forIn_nil,List.zipIdx_cons,List.zipIdx_nil];refine wX (wX (wpAny_onRaise ?_));show wpAny _ _ (Builtin.SmallTypes.nextOf (.ref i1)>>=_) _ _ { s with heap:=g1 };refine wX (dL (s:={ s with heap:=g1 }) (t1.upon λo e=>s1.extBut _ _ D.az e) (q1.upon λo e=>s1.extBut _ _ m1.1 e) hx λg2 t12 s2=>wY ?_);have Ft:IsPair g2 TO a b:=s2.extBut _ _ D.oa (s1.extBut _ _ D.oz hO);refine wX (wpAny_seqItems Ft rfl (wX (wpAny_updateSeq_pair Ft λg3 hO3 s3=>?_)));replace hO3:IsPair g3 TO x b:=hO3;refine wX (wpAny_letGo (wY (wX (wX (wpAny_onRaise ?_)))));show wpAny _ _ (Builtin.SmallTypes.nextOf (.ref i2)>>=_) _ _ { s with heap:=g3 };have CT:∀ {c o},c≠z->c≠TO->c≠i1->s.heap.get? c=some o->g3.get? c=some o:=λc1 c2 c3 e=>s3.extBut _ _ c2 (s2.extBut _ _ c3 (s1.extBut _ _ c1 e));refine wX (dL (s:={ s with heap:=g3 }) (t2.upon λo e=>CT D.bz D.ob.symm D.ab.symm e) (q2.upon λo e=>CT m2.1 m2.2.1 m2.2.2.1 e) hy λg4 t24 s4=>wY ?_);have Jz:IsPair g4 TO x b:=s4.extBut _ _ D.ob hO3;refine wX (wpAny_seqItems Jz rfl (wX (wpAny_updateSeq_pair Jz λg5 hO5 s5=>?_)));replace hO5:IsPair g5 TO x y:=hO5;refine wX (wpAny_letGo (wY (wY (wX (wpAny_seqItems hO5 rfl (wX (wpAny_newTuple ?_)))))));have sz:g5.objs.size=s.heap.objs.size:=by rw[s5.1,s4.1,s3.1,s2.1,s1.1]
 have Lu:∀c o,c≠z->c≠TO->c≠i1->c≠i2->s.heap.get? c=some o->g5.get? c=some o:=λc o c1 c2 c3 c4 e=>s5.extBut _ _ c2 (s4.extBut _ _ c4 (CT c1 c2 c3 e));have J0:IsZip g5 z TI TO .ellipsis:=s5.extBut _ _ D.oz.symm (s4.extBut _ _ D.bz.symm (s3.extBut _ _ D.oz.symm (s2.extBut _ _ D.az.symm hz1)));have Lv:iH k1 g5 i1 l1 (j+1):=t12.upon λo e=>s5.extBut _ _ D.oa.symm (s4.extBut _ _ D.ab (s3.extBut _ _ D.oa.symm e));have Lx:iH k2 g5 i2 l2 (j+1):=t24.upon λo e=>s5.extBut _ _ D.ob.symm e;have J2:z<g5.objs.size:=vX J0;show wpAny _ _ (Builtin.SmallTypes.ownedTupleHandOut (.ref z) (.ref g5.objs.size)>>=_) _ _ { s with heap:=g5.push { cls:=.type "tuple",data:=.seq #[x,y] } };refine wX ?_;unfold Builtin.SmallTypes.ownedTupleHandOut;have Ly:IsZip (g5.push { cls:=.type "tuple",data:=.seq #[x,y] }) z TI TO .ellipsis:=vZ _ J0;refine wX (wpAny_setField_rec Ly (by simp) λg7 hz7 s7=>?_);replace hz7:IsZip g7 z TI TO (rawInt g5.objs.size):=hz7;refine wpAny_setField_rec hz7 (by simp) λg8 hz8 s8=>?_;replace hz8:IsZip g8 z TI TO (rawInt g5.objs.size):=hz8;have Gq:∀c o,c≠z->g5.get? c=some o->g8.get? c=some o:=λc o c1 e=>s8.extBut _ _ c1 (s7.extBut _ _ c1 (vZ _ e));have J3:IsPair g8 g5.objs.size x y:=s8.extBut _ _ (Nat.ne_of_gt J2) (s7.extBut _ _ (Nat.ne_of_gt J2) (vY _ rfl));have J4:g8.objs.size=g5.objs.size+1:=by rw[s8.1,s7.1,Heap.size_push]
 rw[sz]at hz8 J3 J4;refine wY ⟨_,rfl,?_⟩;show Q (.ref g5.objs.size) _;rw[sz];exact q g8 hz8 (Gq _ _ D.oz hO5) (Lv.upon λo e=>Gq _ o D.az e) (Lx.upon λo e=>Gq _ o D.bz e) J3 J4 λc o c1 c2 c3 c4 e=>Gq c o c1 (Lu c o c1 c2 c3 c4 e)
end
section
variable {prog:Program}{w:World}{A:Around}{E:Value->Shared->Prop}{s:Shared}
theorem tm {k1 k2:Bool}{z TI TO i1 i2 l1 l2:Addr}{j:Nat}{xs ys:Array Value}{a b:Value}{Q:PySem.Fin->Shared->Prop}(hA:A.handled=none)(D:ZApart z TI TO i1 i2)(m1:l1≠z/\l1≠TO/\l1≠i1)(m2:l2≠z/\l2≠TO/\l2≠i1/\l2≠i2)
  (hz:IsZip s.heap z TI TO .none) (hI:IsPair s.heap TI (.ref i1) (.ref i2)) (hO:IsPair s.heap TO a b) (t1:iH k1 s.heap i1 l1 j) (t2:iH k2 s.heap i2 l2 j) (q1:i0 k1 s.heap l1 xs) (q2:i0 k2 s.heap l2 ys) (he:xs[j]? = none∨ys[j]? = none)
  (q:∀h' x,(∀c o,c≠z->c≠TO->c≠i1->c≠i2->s.heap.get? c=some o->h'.get? c=some o)->(∃o,h'.get? x=some o/\o.cls=.type "StopIteration")->E (.ref x) { s with heap:=h' }):
  wpAny (model prog w) A (Builtin.«zip.__next__» ⟨[.ref z],[]⟩) Q E s:=by
 show wpAny _ _ (field (.ref z) 2>>=_) _ _ s;refine wX (wpAny_field hz rfl (x:=.bool false) rfl ?_);show wpAny _ _ (field (.ref z) 3>>=_) _ _ s;refine wX (wpAny_field hz rfl (x:=.ref TI) rfl (wX (wpAny_seqItems hI rfl ?_)));show wpAny _ _ (Builtin.SmallTypes.ownedTupleIsFree (.ref z)>>=_) _ _ s;refine wX ?_;unfold Builtin.SmallTypes.ownedTupleIsFree;refine wX (wpAny_field hz rfl (x:=.none) rfl (wY ?_));simp only[if_true];refine wX (wpAny_rule (wX (wpAny_field hz rfl (x:=.ref TO) rfl (wX (wpAny_setField_rec hz (by simp) λg1 hz1 s1=>?_)))));replace hz1:IsZip g1 z TI TO .ellipsis:=hz1;refine wX ?_;simp only[List.forIn_cons,List.forIn_nil,List.zipIdx_cons,List.zipIdx_nil];refine wX (wX (wpAny_onRaise ?_));show wpAny _ _ (Builtin.SmallTypes.nextOf (.ref i1)>>=_) _ _ { s with heap:=g1 };cases hx:xs[j]? with
 |none=>
  refine wX (iV (s:={ s with heap:=g1 }) hA (t1.upon λo e=>s1.extBut _ _ D.az e) (q1.upon λo e=>s1.extBut _ _ m1.1 e) hx λg2 x s2 hX=>?_);obtain⟨oU,eX,cX⟩:=hX;have Gr:IsZip g2 z TI TO .ellipsis:=s2 _ _ D.az.symm hz1;have nz:x≠z:=λz'=>by subst z';rw[Gr]at eX;cases eX;simp at cX
  exact wpAny_setField_rec Gr (by simp) λg3 _ s3=>q g3 x (λc o c1 _ c3 _ e=>s3.extBut _ _ c1 (s2 _ _ c3 (s1.extBut _ _ c1 e))) ⟨oU,s3.extBut _ _ nz eX,cX⟩
 |some v=>
  have hy:ys[j]? = none:=by
   rcases he with h|h
   ·rw[hx]at h;cases h
   ·exact h
  refine wX (dL (s:={ s with heap:=g1 }) (t1.upon λo e=>s1.extBut _ _ D.az e) (q1.upon λo e=>s1.extBut _ _ m1.1 e) hx λg2 t12 s2=>wY ?_);have Ft:IsPair g2 TO a b:=s2.extBut _ _ D.oa (s1.extBut _ _ D.oz hO);refine wX (wpAny_seqItems Ft rfl (wX (wpAny_updateSeq_pair Ft λg3 hO3 s3=>?_)));refine wX (wpAny_letGo (wY (wX (wX (wpAny_onRaise ?_)))));show wpAny _ _ (Builtin.SmallTypes.nextOf (.ref i2)>>=_) _ _ { s with heap:=g3 };have CT:∀ {c o},c≠z->c≠TO->c≠i1->s.heap.get? c=some o->g3.get? c=some o:=λc1 c2 c3 e=>s3.extBut _ _ c2 (s2.extBut _ _ c3 (s1.extBut _ _ c1 e));refine wX (iV (s:={ s with heap:=g3 }) hA (t2.upon λo e=>CT D.bz D.ob.symm D.ab.symm e) (q2.upon λo e=>CT m2.1 m2.2.1 m2.2.2.1 e) hy λg4 x s4 hX=>?_);obtain⟨oU,eX,cX⟩:=hX;have J5:IsZip g4 z TI TO .ellipsis:=s4 _ _ D.bz.symm (s3.extBut _ _ D.oz.symm (s2.extBut _ _ D.az.symm hz1));have nz:x≠z:=λz'=>by subst z';rw[J5]at eX;cases eX;simp at cX
  exact wpAny_setField_rec J5 (by simp) λg5 _ s5=>q g5 x (λc o c1 c2 c3 c4 e=>s5.extBut _ _ c1 (s4 _ _ c4 (CT c1 c2 c3 e))) ⟨oU,s5.extBut _ _ nz eX,cX⟩
end
theorem oo {X:Cx}{aa:List (Addr×Obj)}{σ:St}{H:Hp}{s:Shared}{h':Heap}{t':Nat}{ch:List Addr}(I:Inv X aa σ H s)(f:∀b∈ch,iK X aa H b)(k:∀b o,b∉ch->s.heap.get? b=some o->h'.get? b=some o):Inv X aa σ H { s with heap:=h',toks:=t' }:=by
 have Bj:∀b u,H b=some u->b∉ch:=λb u e z=>by rw[(f b z).1]at e;cases e
 refine I.step (g':=s.gens) (d':=s.drawn) (ch:=ch) (λb hb=>?_) (λb o _ _ hc e _=>k b o hc e) (λb o _ _ hc e _=>⟨o.slots,k b o hc e⟩) (λ_ _ _ _ n=>n)
  (λb o hc e=>⟨o,k b o hc e⟩) (λ_ _ e=>e) (λ_ _ _ e=>e) (λ_ _ e=>e) (λm hm=>?_) (λb u e=>?_) I.bare
 ·obtain⟨_,f1,_,f3,f4,f5⟩:=f b hb;exact⟨f3,f1,f4,f5⟩
 ·obtain⟨o,es,ep,ho,r⟩:=hm;exact⟨o,es,ep,k _ o (λz=>(f _ z).2.1 rfl) ho,r⟩
 ·refine(I.hok b u e).stay (λc v hc q=>k c v ?_ q) (λ_ q=>q) (λ_ _ q=>q) λ_ _ _ q=>q;rcases hc with z|z
  ·rw[z];exact Bj b u e
  ·exact Bj c _ z
theorem AV {X:Cx}{aa:List (Addr×Obj)}{σ:St}{H:Hp}{s:Shared}{h':Heap}{t':Nat}{ch:List Addr}{a:Addr}{ob:HO}(I:Inv X aa σ H s)(f:∀b∈ch,iK X aa H b)(k:∀b o,b∉ch->s.heap.get? b=some o->h'.get? b=some o)(ha:s.heap.objs.size<=a)
  (new:bC X.prog X.w (upd H a ob) h' a ob):Inv X aa σ (upd H a ob) { s with heap:=h',toks:=t' }:=by
 have hn:H a=none:=I.hok.fresh ha;have Bj:∀b u,H b=some u->b∉ch:=λb u e z=>by rw[(f b z).1]at e;cases e
 have na:∀b o,s.heap.get? b=some o->b≠a:=λb o e=>vS (vQ (vX e) ha);refine I.step (g':=s.gens) (d':=s.drawn) (ch:=ch) (λb hb=>?_) (λb o _ _ hc e _=>k b o hc e) (λb o _ _ hc e _=>⟨o.slots,k b o hc e⟩) (λb o _ e n=>by rw[a8 (na b o e)];exact n)
  (λb o hc e=>⟨o,k b o hc e⟩) (λb xs e=>by rw[a8 (ba e hn)];exact e) (λb o u e=>by rw[a8 (ba e hn)];exact e) (λb ps e=>by rw[a8 (ba e hn)];exact e) (λm hm=>?_) (λb u e=>?_) I.bare
 ·obtain⟨_,f1,_,f3,f4,f5⟩:=f b hb;exact⟨f3,f1,f4,f5⟩
 ·obtain⟨o,es,ep,ho,r⟩:=hm;exact⟨o,es,ep,k _ o (λz=>(f _ z).2.1 rfl) ho,r⟩
 ·by_cases hb:b=a
  ·subst hb;rw[au]at e;cases e;exact new
  ·rw[a8 hb]at e;refine(I.hok b u e).stay (λc v hc q=>k c v ?_ q) (λc q=>?_) (λc xs q=>?_) λc o xs q=>?_
   ·rcases hc with z|z
    ·rw[z];exact Bj b u e
    ·exact Bj c _ z
   ·rw[a8 (ba q hn)];exact q
   ·rw[a8 (ba q hn)];exact q
   ·rw[a8 (ba q hn)];exact q
noncomputable def GY (K:Frag)(k1 k2:Bool)(a1 a2:Addr):It :=
  ⟨λi H=>∃xs ys x y,ki k1 K H a1 xs/\ki k2 K H a2 ys/\xs[i]? = some x/\ys[i]? = some y,
   λi H v H'=>∃T x y,v=.ref T/\H T=none/\H'=upd H T (.tup [x,y])/\(∀xs,ki k1 K H a1 xs->xs[i]? = some x)/\(∀ys,ki k2 K H a2 ys->ys[i]? = some y),
   λi H=>∃xs ys,ki k1 K H a1 xs/\ki k2 K H a2 ys/\(xs.length<=i∨ys.length<=i)⟩
theorem xh {P:Program}{w:World}{K:Frag}{es:List Expr}{kt:Nat}{pt:Pos}{k1 k2:Bool}{a1 a2 z TI TO i1 i2:Addr}(D:ZApart z TI TO i1 i2)(m1:a1≠z/\a1≠TO/\a1≠i1)(m2:a2≠z/\a2≠TO/\a2≠i1/\a2≠i2):
  Turn P w K (.Tuple es kt pt) (GY K k1 k2 a1 a2) [z,TI,TO,i1,i2] z (λi h=>IsZip h z TI TO .none/\IsPair h TI (.ref i1) (.ref i2)/\(∃a b,IsPair h TO a b)/\iH k1 h i1 a1 i/\iH k2 h i2 a2 i) where
 mem:=by simp
 obj:=λi h st b hb=>by
  obtain⟨hz,hI,⟨a,c,hO⟩,t1,t2⟩:=st;simp at hb;rcases hb with rfl|rfl|rfl|rfl|rfl
  ·exact⟨_,hz,λv z=>by cases z⟩
  ·exact⟨_,hI,λv z=>by cases z⟩
  ·exact⟨_,hO,λv z=>by cases z⟩
  ·exact t1.ob
  ·exact t2.ob
 keep:=λi h h' st k=>by
  obtain⟨hz,hI,⟨a,c,hO⟩,t1,t2⟩:=st;exact⟨k z (by simp) _ hz,k TI (by simp) _ hI,⟨a,c,k TO (by simp) _ hO⟩,t1.upon λo e=>k i1 (by simp) o e,t2.upon λo e=>k i2 (by simp) o e⟩
 item:=by
  intro X hP hw hK hc i aa s σ H E I hf st hg;subst hP hw hK;obtain⟨hz,hI,⟨a,c,hO⟩,t1,t2⟩:=st;obtain⟨xs,ys,x,y,q1,q2,hx,hy⟩:=hg;obtain⟨its,r1,p1,z1⟩:=q1.vals I;obtain⟨m8,r2,p2,z2⟩:=q2.vals I;obtain⟨u,hu,ru⟩:=r1.get hx;obtain⟨v,hv,rv⟩:=r2.get hy;have hT:s.TypeIs (.ref z) "zip":=⟨_,hz,rfl⟩;have fresh:H s.heap.objs.size=none:=I.hok.fresh (vT _);have lt:∀ {c o},s.heap.get? c=some o->c≠s.heap.objs.size:=λe=>vS (vX e);have l1:i1≠s.heap.objs.size:=by obtain⟨o,e,_⟩:=t1.ob;exact lt e
  have l2:i2≠s.heap.objs.size:=by obtain⟨o,e,_⟩:=t2.ob;exact lt e
  unfold pyNext;refine wX (wpAny_attempt (wpAny_callSpecial?_slot (name:=Str.ofString "__next__") hT PySem.F.slot_zip_next (wpAny_call_entry PySem.F.slot_zip_next hT PySem.F.entry_zip_next (pD D m1 m2 hz hI hO t1 t2 p1 p2 (by simpa using hu) (by simpa using hv) λh' b1 b2 b3 b4 b5 b6 bk=>wY ?_) (PySem.F.args_zip_next_1 _))));refine⟨_,rfl,wpAny_letOwnedTupleGo_zip (s:={ s with heap:=h' }) b1 λh2 c1 s2=>?_⟩;have D2:Heap.SameBut z h' h2:=s2;have kk:∀b o,b∉[z,TI,TO,i1,i2]->s.heap.get? b=some o->h2.get? b=some o:=λb o hb e=>
   D2.extBut _ _ (λq=>hb (by simp[q])) (bk b o (λq=>hb (by simp[q])) (λq=>hb (by simp[q])) (λq=>hb (by simp[q])) (λq=>hb (by simp[q])) e)
  have I1:Inv X aa σ H { s with heap:=h2 }:=oo (t':=s.toks) I hf kk;have zT:s.heap.objs.size≠z:=(lt hz).symm;have new:bC X.prog X.w (upd H s.heap.objs.size (.tup [x,y])) h2 s.heap.objs.size (.tup [x,y]):=⟨by show 2<=sizeLine;decide,[u,v],.cons ru (.cons rv .nil),⟨_,D2.extBut _ _ zT b5,rfl,_,rfl⟩⟩;refine⟨.ref s.heap.objs.size,upd H s.heap.objs.size (.tup [x,y]),?_,rfl,⟨_,x,y,rfl,fresh,rfl,λzs hq=>by rw[ki.inj I hq q1];exact hx,λzs hq=>by rw[ki.inj I hq q2];exact hy⟩,?_,λb hb=>?_⟩
  ·exact AV (s:=s) (t':=s.toks) I hf kk (vT _) new
  ·exact⟨c1,D2.extBut _ _ D.tz (bk _ _ D.tz D.to D.ta D.tb hI),⟨_,_,D2.extBut _ _ D.oz b2⟩,b3.upon λo e=>D2.extBut _ _ D.az e,b4.upon λo e=>D2.extBut _ _ D.bz e⟩
  ·have D4:b≠s.heap.objs.size:=by
    simp at hb;rcases hb with rfl|rfl|rfl|rfl|rfl
    ·exact lt hz
    ·exact lt hI
    ·exact lt hO
    ·exact l1
    ·exact l2
   rw[a8 D4];exact(hf b hb).1
 done:=by
  intro X hP hw hK hc i aa s σ H E I hf st hg;subst hP hw hK;obtain⟨hz,hI,⟨a,c,hO⟩,t1,t2⟩:=st;obtain⟨xs,ys,q1,q2,hl⟩:=hg;obtain⟨its,r1,p1,z1⟩:=q1.vals I;obtain⟨m8,r2,p2,z2⟩:=q2.vals I;have hT:s.TypeIs (.ref z) "zip":=⟨_,hz,rfl⟩;have n1:=r1.length;have n2:=r2.length;unfold pyNext;refine wX (wpAny_attempt (wpAny_callSpecial?_slot (name:=Str.ofString "__next__") hT PySem.F.slot_zip_next (wpAny_call_entry PySem.F.slot_zip_next hT PySem.F.entry_zip_next (tm (I.ok.hd hc) D m1 m2 hz hI hO t1 t2 p1 p2 (hl.imp (λq=>by simp;omega) λq=>by simp;omega) λh' x hk hX=>?_) (PySem.F.args_zip_next_1 _))));obtain⟨o,eo,co⟩:=hX;refine wX (wpAny_isInstance (T:="StopIteration") (b:=true) ⟨o,eo,co⟩ isSubtype_stop (wY ⟨rfl,?_⟩));exact oo (t':=s.toks) I hf λb o hb e=>hk b o (λq=>hb (by simp[q])) (λq=>hb (by simp[q])) (λq=>hb (by simp[q])) (λq=>hb (by simp[q])) e
 self:=λ_ _ _ _ _ st h=>wpAny_pyIter_zip st.1 h
section
variable {X:Cx}{a b e:Expr}{pos:Pos}{p:Pos}
theorem AW:bootBuiltins "zip" = some (.type "zip"):=by decide +kernel
def E2 (K:Frag)(ta:TA):TI:=λσ H R=>ta σ H λvs H1=>∃(k1 k2:Bool)(l1 l2:Addr)(xs ys:List V),vs=[.ref l1,.ref l2]/\ki k1 K H1 l1 xs/\ki k2 K H1 l2 ys/\R (GY K k1 k2 l1 l2) H1
theorem C2 {es:List Expr}{kt:Nat}{pt:Pos}{ta:TA}(hg:Gl X "zip")(hm:X.mg "zip" = none)(ha:PA X [a,b] ta)(hs:starEach [a,b] X.env=[(false,eval a X.env),(false,eval b X.env)]:=by rfl)(dN:starEach [b] X.env=[(false,eval b X.env)]:=by rfl):
  PI X (.Tuple es kt pt) (.Call (.Name "zip" p) [a,b] [] pos) (E2 X.K ta):=by
 intro aa s σ H R I h;refine Call_ (ig I hg hm AW (PyProof.Rows.callWith_type1 (bG (ha pos aa s σ H _ I h) λus s1 ⟨vs,H1,I1,r1,q1⟩=>?_) (by rw[hs,dN]) (by rw[dN];rfl)));obtain⟨k1,k2,l1,l2,xs,ys,rfl,h1,h2,q⟩:=q1;obtain⟨u1,u2,rfl,HS,HU⟩:=r1.two;cases HS
 cases HU
 obtain⟨its,v1,p1,z1⟩:=h1.vals I1;obtain⟨m8,v2,p2,z2⟩:=h2.vals I1;have Af:=p1.lt;have A7:=p2.lt;refine tf p1 p2 λh' c1 c2 c3 c4 c5 ck=>?_;have D:ZApart (s1.heap.objs.size+4) (s1.heap.objs.size+2) (s1.heap.objs.size+3) s1.heap.objs.size (s1.heap.objs.size+1):=by
  constructor<;>(intro z;exact absurd z (by first|exact vS (Nat.add_lt_add_left (by decide) _)|exact Nat.ne_of_gt (Nat.add_lt_add_left (by decide) _)|exact vS (Nat.lt_add_of_pos_right (by decide))|exact Nat.ne_of_gt (Nat.lt_add_of_pos_right (by decide))))
 have nf:∀ {l:Addr}(n:Nat),l<s1.heap.objs.size->l≠s1.heap.objs.size+n:=λn hl=>vS (vQ hl (Nat.le_add_right _ n));refine wpAny_pyIter_zip c1 ⟨s1.heap.objs.size+4,[s1.heap.objs.size+4,s1.heap.objs.size+2,s1.heap.objs.size+3,s1.heap.objs.size,s1.heap.objs.size+1],_,_,H1,rfl,I1.kept (t':=s1.toks) ck,
  xh D ⟨nf 4 Af,nf 3 Af,nf 0 Af⟩ ⟨nf 4 A7,nf 3 A7,nf 0 A7,nf 1 A7⟩,⟨c1,c2,⟨_,_,c3⟩,c4,c5⟩,λb hb=>?_,q⟩
 have A8:s1.heap.objs.size<=b:=by
  simp at hb;rcases hb with rfl|rfl|rfl|rfl|rfl
  ·exact Nat.le_add_right _ 4
  ·exact Nat.le_add_right _ 2
  ·exact Nat.le_add_right _ 3
  ·exact vT _
  ·exact Nat.le_add_right _ 1
 exact I1.fpOk A8 (I1.hok.fresh A8)
noncomputable def dX (xs ys:List D):List D:=List.zipWith (λx y=>.tup [x,y]) xs ys
@[simp] def u6 (fa fb:FE):FA:=λρ=>(fa ρ).bind λx=>(fb ρ).bind λy=>(hJ x.1).bind λxs=>(hJ y.1).map λys=>dX xs ys
theorem tq {K:Frag}{B:Hp}{v:V}{d:D}{ds:List D}(h:Is K B v d)(e:hJ d=some ds):∃k a vs,v=.ref a/\ki k K B a vs/\IsL K B vs ds:=by
 cases h with
 |tup ht hl=>cases e;exact⟨false,_,_,rfl,ht,hl⟩
 |lst ht hl=>cases e;exact⟨true,_,_,rfl,ht,hl⟩
 |_=>cases e
theorem C3 {H s}(I:Inv X aa σ H s)(h1:ki k1 X.K N l1 vs)(i1:IsL X.K N vs ds)(h2:ki k2 X.K N l2 ws)(i2:IsL X.K N ws es):mi X.K (GY X.K k1 k2 l1 l2) N (dX ds es):=by
 intro i H' sm;have n1:=i1.length;have n2:=i2.length;refine⟨λd ed=>?_,λhl=>⟨vs,ws,h1.same sm,h2.same sm,?_⟩⟩
 ·unfold dX at ed;rw[List.getElem?_zipWith]at ed;cases e1:ds[i]? with
  |none=>rw[e1]at ed;simp at ed
  |some x=>
   cases e2:es[i]? with
   |none=>rw[e1,e2]at ed;simp at ed
   |some y=>
    rw[e1,e2]at ed;simp at ed;subst ed;obtain⟨v,ev,iv⟩:=i1.get e1;obtain⟨w,ew,iw⟩:=i2.get e2;refine⟨⟨vs,ws,v,w,h1.same sm,h2.same sm,ev,ew⟩,λr H2 hy=>?_⟩;obtain⟨T,v',w',rfl,hT,rfl,f1,f2⟩:=hy;have e3:=f1 vs (h1.same sm);have e4:=f2 ws (h2.same sm);rw[ev]at e3;cases e3;rw[ew]at e4;cases e4;have xt:=Ext.laid (o:=.tup [v,w]) sm hT;exact⟨_,xt,.tup (eZ.of au) (.cons (iv.mono xt.bn) (.cons (iw.mono xt.bn) .nil))⟩
 ·unfold dX at hl;rw[List.length_zipWith]at hl;omega
theorem xi {es:List Expr}{kt:Nat}{pt:Pos}{fa fb:FE}(hm:X.mg "zip" = none)(ha:JE X a fa)(hb:JE X b fb)(hg:Gl X "zip":=by rfl)(hs:starEach [a,b] X.env=[(false,eval a X.env),(false,eval b X.env)]:=by rfl)(dN:starEach [b] X.env=[(false,eval b X.env)]:=by rfl):
  JI X (.Tuple es kt pt) (.Call (.Name "zip" p) [a,b] [] pos) (u6 fa fb):=by
 intro aa s σ H R I q;refine C2 hg hm (aj ha (aj hb ai dN) (by rw[hs,dN])) hs dN aa s σ H R I ?_;obtain⟨B,ρ,ds,sB,r,ee,q⟩:=q;obtain⟨x1,ex,ee⟩:=oX ee;obtain⟨y1,ey,ee⟩:=oX ee;obtain⟨xs,HV,ee⟩:=oX ee;obtain⟨ys,HW,ee⟩:=oY ee;subst ee;refine⟨B,ρ,[x1.1,y1.1],sB,r,by simp[ae,ah,ex,ey],λvs H1 N1 xt i1=>?_⟩;cases i1 with
 |cons j1 j2=>
  cases j2 with
  |cons j2 j3=>
   cases j3
   obtain⟨k1,l1,us,rfl,s1,m1⟩:=tq j1 HV;obtain⟨k2,l2,ws,rfl,s2,m2⟩:=tq j2 HW;exact⟨k1,k2,l1,l2,us,ws,rfl,s1.same xt.nh,s2.same xt.nh,q _ H1 N1 xt (C3 I s1 m1 s2 m2)⟩
end
noncomputable def unown1 (ρ:Env)(i:Nat):Env:=match ρ[i]? with
 |some (some (d,true))=>ρ.set i (some (d,false))
 |_=>ρ
theorem cx.unown1 {K:Frag}{B0 H0 N H:Hp}{σ:St}{ρ:Env}(s:cx K B0 H0 N H σ ρ)(i:Nat):cx K B0 H0 N H σ (unown1 ρ i):=by
 unfold DL.unown1;split
 ·rename_i d hd;obtain⟨a,ob,h1,h2,h3,h4⟩:=s.ow i d hd;have get:∀ {j:Nat}{e:D}{b:Bool},(ρ.set i (some (d,false)))[j]? = some (some (e,b))->(i=j/\e=d/\b=false)∨(i≠j/\ρ[j]? = some (some (e,b))):=λq=>by
   rcases be q with⟨z,p⟩|⟨z,p⟩
   ·cases p;exact .inl ⟨z,rfl,rfl⟩
   ·exact .inr ⟨z,p⟩
  have o:∀c,own σ (ρ.set i (some (d,false))) c->own σ ρ c/\c≠a:=λc ⟨j,e,q1,q2⟩=>by
   rcases get q1 with⟨_,_,z⟩|⟨ne,q⟩
   ·cases z
   ·exact⟨⟨j,e,q,q2⟩,λz=>by subst z;exact ne (s.inj i j _ _ _ hd q h1 q2)⟩
  have c:aF (cr N (own σ ρ)) (cr N (own σ (ρ.set i (some (d,false))))):=cV λb u e q=>⟨e,λz=>q (o b z).1⟩;have na:¬own σ (ρ.set i (some (d,false))) a:=λz=>(o a z).2 rfl;refine⟨s.bh,s.tb,s.ext,by rw[List.length_set];exact s.len,λj e q=>?_,λj e q=>?_,λj k b e f q q' z1 z2=>?_⟩
  ·rcases get q with⟨rfl,rfl,_⟩|⟨_,q⟩
   ·exact⟨_,h1,(h4.mono c).is (by rw[bH na];exact h2)⟩
   ·obtain⟨v,k1,k2⟩:=s.sh j e q;exact⟨v,k1,k2.mono c⟩
  ·rcases get q with⟨_,_,z⟩|⟨_,q⟩
   ·cases z
   ·obtain⟨a',o',k1,k2,k3,k4⟩:=s.ow j e q;exact⟨a',o',k1,k2,k3,k4.mono c⟩
  ·rcases get q with⟨_,_,z⟩|⟨_,q⟩
   ·cases z
   ·rcases get q' with⟨_,_,z⟩|⟨_,q'⟩
    ·cases z
    ·exact s.inj j k b e f q q' z1 z2
 ·exact s
@[simp] noncomputable def Gb (is:List Nat)(g:FS):FS:=λρ=>g (is.foldl unown1 ρ)
theorem cx.unowns {K:Frag}{B0 H0 N H:Hp}{σ:St}:∀(is:List Nat){ρ:Env},cx K B0 H0 N H σ ρ->cx K B0 H0 N H σ (is.foldl DL.unown1 ρ)
 |[],_,s=>s
 |i::is,_,s=>cx.unowns is (s.unown1 i)
theorem C4 {K:Frag}{is:List Nat}{g:FS}{E:Ends}{σ:St}{H:Hp}(q:mM K (Gb is g) E σ H):mM K g E σ H:=by
 obtain⟨B0,H0,ρ,r,⟨N,s⟩,e,p⟩:=q;exact⟨B0,H0,_,r,⟨N,s.unowns is⟩,e,p⟩
theorem E3 {X:Cx}{st:Stmt}{g:FS}(is:List Nat)(h:JS X st g):JS X st (Gb is g):=PS.to h λ_ _ _ q=>C4 q
@[simp] noncomputable def rm:FS:=λ_=>none
section
variable {X:Cx}{pos:Pos}
theorem pE {st:Stmt}:JS X st rm:=λaa s σ H E I q=>by
 obtain⟨B0,H0,ρ,r,_,e,_⟩:=q;cases e
end
inductive CRows (K:Frag)(P:Params):List DictEntry->List (Str×D)->Prop where
 |nil:CRows K P [] []
 |tup {x:Str}{t:Tok}{h:Int}{a:Addr}{its:Array Value}{n:Nat}{lZ:Array (Option Value)}{ds:List D}{r:List DictEntry}{aZ:List (Str×D)}(hh:h=PyData.keyHash P x)
   (l:K.lookup a=some ⟨.type "tuple",none,.seq its n,lZ⟩) (f:(decide (its.size<=1000) && fR its.toList ds)=true) (tl:CRows K P r aZ):CRows K P (⟨h,.str x t,.ref a⟩::r) ((x,.tup ds)::aZ)
 |flat {x:Str}{t:Tok}{h:Int}{u:Value}{d:D}{r:List DictEntry}{aZ:List (Str×D)}(hh:h=PyData.keyHash P x) (f:om u d=true) (tl:CRows K P r aZ):CRows K P (⟨h,.str x t,u⟩::r) ((x,d)::aZ)
theorem CRows.lit {K:Frag}{P:Params}:∀ {es:List DictEntry}{aZ:List (Str×D)},CRows K P es aZ->PySem.W.KeysLit P es
 |_,_,.nil=>trivial
 |_,_,.tup hh _ _ tl=>⟨⟨_,_,rfl,hh⟩,tl.lit⟩
 |_,_,.flat hh _ tl=>⟨⟨_,_,rfl,hh⟩,tl.lit⟩
theorem CRows.find {K:Frag}{P:Params}(y:Str):∀ {es:List DictEntry}{aZ:List (Str×D)},CRows K P es aZ->match aZ.lookup y with
  |none=>es.find? (λe=>Value.isStrOf y e.key)=none
  |some d=>∃e v,es.find? (λe=>Value.isStrOf y e.key)=some e/\aG v e.val/\∀B,Is K B v d
 |_,_,.nil=>rfl
 |_,_,.tup (x:=x) (t:=t) (a:=a) (ds:=ds) hh l f tl=>by
  by_cases e:y=x
  ·subst e;rw[List.lookup_cons_self];rw[vC]at f;obtain⟨vs,r,i⟩:=fT (K:=K) f.2;exact⟨_,.ref a,List.find?_cons_of_pos (by simp[Value.isStrOf]),rfl,λB=>.tup (.inr ⟨_,_,_,l,rfl,rfl,Nat.le_of_lt (Nat.lt_of_le_of_lt (of_decide_eq_true f.1) (by decide)),r⟩) (i B)⟩
  ·have ih:=tl.find y;rw[List.lookup_cons,beq_eq_false_iff_ne.mpr e];have nf:Value.isStrOf y (Value.str x t)=false:=by
    rw[Bool.eq_false_iff];intro z;obtain⟨t',q⟩:=Value.isStrOf_shape z;injection q with q1;exact e q1.symm
   simp only[List.find?_cons,nf];exact ih
 |_,_,.flat (x:=x) (t:=t) (u:=u) (d:=d) hh f tl=>by
  by_cases e:y=x
  ·subst e;rw[List.lookup_cons_self];obtain⟨v,r1,_⟩:=gJ (K:=K) (B:=λ_=>none) f;refine⟨_,v,List.find?_cons_of_pos (by simp[Value.isStrOf]),r1,λB=>?_⟩;obtain⟨v',HQ,i'⟩:=gJ (K:=K) (B:=B) f;have:v'=v:=by have z1:=r1.abs;rw[HQ.abs]at z1;exact vK z1
   subst this;exact i'
  ·have ih:=tl.find y;rw[List.lookup_cons,beq_eq_false_iff_ne.mpr e];have nf:Value.isStrOf y (Value.str x t)=false:=by
    rw[Bool.eq_false_iff];intro z;obtain⟨t',q⟩:=Value.isStrOf_shape z;injection q with q1;exact e q1.symm
   simp only[List.find?_cons,nf];exact ih
def iW (K:Frag)(P:Params)(a:Addr)(aZ:List (Str×D)):Prop:=∃es n,K.lookup a=some ⟨.type "dict",none,.dict es n,#[]⟩/\CRows K P es.toList aZ/\(a == sysModules)=false
theorem const_dict {K:Frag}{P:Params}{y:Str}{a:Addr}{es:Array DictEntry}{n:Nat}{aZ:List (Str×D)}(e:nsIn K mainGlobals y=some (some (.ref a)))(l:K.lookup a=some ⟨.type "dict",none,.dict es n,#[]⟩)(r:CRows K P es.toList aZ)(s:(a == sysModules)=false):
  ∃a,nsIn K mainGlobals y=some (some (.ref a))/\iW K P a aZ:=⟨a,e,es,n,l,r,s⟩
section
variable {X:Cx}{a b e:Expr}{pos:Pos}{x:Str}{p:Pos}
theorem iW.map {aa:List (Addr×Obj)}{σ:St}{H:Hp}{s:Shared}{d:Addr}{aZ:List (Str×D)}(I:Inv X aa σ H s)(h:iW X.K X.w.params d aZ):∃f:Str->Option Value,s.heap.MapOf (strKind X.prog X.w) d f/\(d == sysModules)=false /\
  ∀y,match aZ.lookup y with|none=>f y=none|some dd=>∃u v,f y=some u/\aG v u/\∀B,Is X.K B v dd:=by
 obtain⟨es,n,l,r,sm⟩:=h;refine⟨_,PySem.W.mapOf_K I.kIn l r.lit,sm,λy=>?_⟩;have:=r.find y;have ff:findBy Value.isStrOf es y=(es.toList.find? λe=>Value.isStrOf y e.key).map (·.val):=by
  unfold findBy;obtain⟨es⟩:=es;rw[List.find?_toArray]
 cases hl:aZ.lookup y with
 |none=>rw[hl]at this;dsimp only at this ⊢;rw[ff,this];rfl
 |some dd=>
  rw[hl]at this;obtain⟨en,v,e1,e2,e3⟩:=this;exact⟨en.val,v,by rw[ff,e1];rfl,e2,e3⟩
@[simp] noncomputable def gn (aZ:List (Str×D)):D->OB
 |.str y=>(aZ.lookup y).map λd=>(d,false)
 |_=>none
@[simp] noncomputable def kW (aZ:List (Str×D)):D->OB
 |.str y=>some (.bl (!(aZ.lookup y).isSome),false)
 |_=>none
theorem oq (h:∃d,X.mg x=some (.ref d)/\iW X.K X.w.params d aZ)(hb:JE X b f)(hg:Gl X x:=by rfl)(hd:(x == ("__debug__" : Str))=false:=by decide)(hs:ky b:=by intro _ _;rfl):JE X (.Subscript (.Name x p) b pos) (f1 (gn aZ) f):=by
 obtain⟨d,hm,cd⟩:=h;have ix:ww X (λx y H Q=>∃z dd,x=.ref d/\y=.str z/\aZ.lookup z=some dd/\∀v,(∀B,Is X.K B v dd)->Q v H):=by
  intro value slice aa s σ H x y v u Q I rx ry q hs;obtain⟨z,dd,rfl,rfl,el,q⟩:=q;cases rx
  obtain⟨t,rfl⟩:=ry;obtain⟨f,hM,sm,hf⟩:=cd.map I;have:=hf z;rw[el]at this;obtain⟨u,v,e1,e2,e3⟩:=this;exact tail_any hM.typeIs slot_dict_getitem.lookup (wpAny_getItem_of (strKind_is X.prog X.w z t) hM e1 ⟨v,H,I.tok _,e2,q v e3⟩) hs
 refine PE.to (wx ix (ku (v:=.ref d) hg hm rfl hd) hb hs) λσ H Q q=>?_;obtain⟨B,ρ,d',bb,sB,r,ee,q⟩:=q;obtain⟨x1,ex,ee⟩:=oX ee;refine⟨B,ρ,x1.1,x1.2,sB,r,ex,λv H1 N1 xt i1 _=>?_⟩;obtain⟨xd,xb⟩:=x1;cases i1<;>try (simp[gn]at ee;done)
 rename_i z _;simp only[gn]at ee;obtain⟨dd,e1,e2⟩:=oY ee;cases e2
 exact⟨z,_,rfl,rfl,e1,λv hv=>(q.into xt).one xt.nh (hv _)⟩
@[simp] noncomputable def dF:List D->OB
 |[.lst ds]=>some (.lst ds,true)
 |[.tup ds]=>some (.lst ds,true)
 |_=>none
@[simp] noncomputable def dY:List D->OB
 |[.lst ds]=>some (.tup ds,false)
 |[.tup ds]=>some (.tup ds,false)
 |_=>none
theorem xj:b7 X (.type "list") (yI X.K dF):=by
 refine b7.to nX λxs H Q q=>?_;obtain⟨B,ds,d,bb,sB,i,ee,q⟩:=q;cases i with
 |nil=>simp[dF]at ee
 |cons i1 i2=>
  cases i2 with
  |cons _ _=>cases i1<;>simp[dF]at ee
  |nil=>
   cases i1<;>try (simp[dF]at ee;done)
   ·rename_i l0 vs es h hl;simp only[dF]at ee;cases ee
    refine⟨_,_,rfl,.inr (aK sB h),λl hp=>?_⟩;have xt:=Ext.laid (o:=.lst vs) sB hp;exact q _ _ _ xt (.lst (eN.of au) (hl.mono xt.bn)) λ_=>⟨_,_,_,rfl,rfl,hp,au,hl.mono xt.bn⟩
   ·rename_i l0 vs es h hl;simp only[dF]at ee;cases ee
    refine⟨_,_,rfl,.inl (sB.seq h),λl hp=>?_⟩;have xt:=Ext.laid (o:=.lst vs) sB hp;exact q _ _ _ xt (.lst (eN.of au) (hl.mono xt.bn)) λ_=>⟨_,_,_,rfl,rfl,hp,au,hl.mono xt.bn⟩
theorem zU:b7 X (.type "tuple") (yI X.K dY):=by
 refine b7.to mf λxs H Q q=>?_;obtain⟨B,ds,d,bb,sB,i,ee,q⟩:=q;cases i with
 |nil=>simp[dY]at ee
 |cons i1 i2=>
  cases i2 with
  |cons _ _=>cases i1<;>simp[dY]at ee
  |nil=>
   cases i1<;>try (simp[dY]at ee;done)
   ·rename_i l0 vs es h hl;simp only[dY]at ee;cases ee
    exact⟨_,_,rfl,.inr ⟨aK sB h,q.one sB (.tup h hl)⟩⟩
   ·rename_i l0 vs es h hl;simp only[dY]at ee;cases ee
    refine⟨_,_,rfl,.inl ⟨sB.seq h,λl hp=>?_⟩⟩;have xt:=Ext.laid (o:=.tup vs) sB hp;exact q _ _ _ xt (.tup (eZ.of au) (hl.mono xt.bn)) (by simp)
end
section
variable {X:Cx}{a b e:Expr}{pos:Pos}{x:Str}{p:Pos}
@[simp] def xk (i:Nat)(fk fv:FE):FS:=λρ=>match ρ[i]? with
 |some (some (.lst ds,true))=>(fv ρ).bind λv=>(fk ρ).bind λk=>match k.1 with
  |.int j=>(wv ds.length j).bind λn=>if aQ v.1=true then some (.nx (ρ.set i (some (.lst (ds.set n v.1),true))))else none
  |_=>none
 |_=>none
theorem C5 (hv:JE X e fv)(hk:JE X k fk)(hN:X.N[i]? = some y:=by rfl)(HX:yF X.env.scope y:=by first|exact Or.inl rfl|exact Or.inr (Or.inl rfl)|exact Or.inr (Or.inr rfl))(hd:(y == ("__debug__" : Str))=false:=by decide)
  (jZ:(y == ("__classdict__" : Str))=false:=by decide)
  (ha:∀v,assign (.Subscript (.Name y py) k pt) X.env v=(do
   let ov ←holding [v] (eval (.Name y py) X.env)
   let iv ←holding [v,ov] (eval k X.env)
   standAt pt
   holding [v,ov,iv] (setItem ov iv v)
   release [v,ov,iv] []):=by intro _;rfl)
  (hs:swapsWithSole [.Subscript (.Name y py) k pt] e pos.line X.env=pure false:=by rfl) (hw:swappedStores [.Subscript (.Name y py) k pt] e X.env=pure none:=by rfl)
  (h1:(assignEach [.Subscript (.Name y py) k pt] X.env).map (·.2)=[assign (.Subscript (.Name y py) k pt) X.env]:=by rfl):JS X (.Assign [.Subscript (.Name y py) k pt] e pos) (xk i fk fv):=by
 refine PS.to (BH hv (BG (j0 hN HX hd jZ) hk wz ha) hs hw h1) λE σ H q=>?_;obtain⟨B0,H0,ρ,r,⟨N,s⟩,ee,p⟩:=q;unfold xk at ee;split at ee
 ·rename_i ds ei;obtain⟨v,ev,ee⟩:=oX ee;obtain⟨kk,ek,ee⟩:=oX ee;obtain⟨kd,kb⟩:=kk;cases kd with
  |int j=>
   dsimp only at ee;obtain⟨n,en,ee⟩:=oX ee;split at ee
   ·rename_i hn;cases ee
    refine⟨N,ρ,v.1,v.2,s.ext.nh,s.rep,ev,λv1 H1 N1 x1 i1 _=>?_⟩;have s1:=s.grow x1;obtain⟨l,vs,vN,z,h1,h2,h3,h4⟩:=s1.owL i _ ei;cases z
    refine⟨_,h1,N1,ρ,_,_,s1.ext.nh,s1.rep,ek,λkv H2 N2 x2 i2 _=>?_⟩;cases i2
    have s2:=s1.grow x2;obtain⟨l',Gj,vN,z,k1,k2,k3,k4⟩:=s2.owL i _ ei;cases z
    rw[h1]at k1;cases k1;exact⟨l,Gj,j,n,rfl,rfl,s2.ext.nh _ _ k2,by rw[k4.length];exact en,p σ _ ⟨_,s2.write ei h1 (IsL.set (s2.flat (i1.mono x2.bn) hn) n k4)⟩⟩
   ·cases ee
  |_=>cases ee
 ·cases ee
@[simp] noncomputable def zV (i:Nat)(g:List D->Option (List D)):FS:=λρ=>match ρ[i]? with
 |some (some (.lst ds,true))=>(g ds).map λes=>.nx (ρ.set i (some (.lst es,true)))
 |_=>none
theorem rq (hN:X.N[i]? = some y:=by rfl)(hv:yF X.env.scope y:=by first|exact Or.inl rfl|exact Or.inr (Or.inl rfl)|exact Or.inr (Or.inr rfl))(hd:(y == ("__debug__" : Str))=false:=by decide)
  (jZ:(y == ("__classdict__" : Str))=false:=by decide) (fG:attributeBase (.Name y py) "reverse" X.env (eval (.Name y py) X.env)=eval (.Name y py) X.env:=by rfl)
  (fH:(dI.endLine == c6.line)=true:=by rfl) (A5:swapsWith (.Call (.Attribute (.Name y py) "reverse" dI) [] [] c6) none pos.line X.env=pure false:=by rfl):
  JS X (.Expr (.Call (.Attribute (.Name y py) "reverse" dI) [] [] c6) pos) (zV i λds=>some ds.reverse):=by
 refine PS.to (nO (BZ PySem.F.plainAttrs_list PySem.F.slot_list_reverse PySem.F.type_list_reverse qV (j0 hN hv hd jZ) fG fH) A5) λE σ H q=>?_;obtain⟨B0,H0,ρ,r,⟨N,s⟩,ee,p⟩:=q;unfold zV at ee;split at ee
 ·rename_i ds ei;cases ee
  obtain⟨l,vs,vN,z,h1,h2,h3,h4⟩:=s.owL i _ ei;cases z
  exact⟨_,h1,.inl ⟨rfl,vs,eN.of (s.ext.nh _ _ h2)⟩,l,vs,rfl,rfl,s.ext.nh _ _ h2,p σ _ ⟨_,s.write ei h1 h4.reverse⟩⟩
 ·cases ee
@[simp] def mm (i:Nat)(f:FE):FS:=λρ=>match ρ[i]? with
 |some (some (.lst ds,true))=>(f ρ).bind λx=>match x.1 with
  |.lst es=>if x.2=true/\aV es=true/\ds.length+es.length<=sizeLine then some (.nx (ρ.set i (some (.lst (ds++es),true))))else none
  |_=>none
 |_=>none
theorem rz (he:JE X e f)(hN:X.N[i]? = some y:=by rfl)(hv:yF X.env.scope y:=by first|exact Or.inl rfl|exact Or.inr (Or.inl rfl)|exact Or.inr (Or.inr rfl))(hd:(y == ("__debug__" : Str))=false:=by decide)
  (jZ:(y == ("__classdict__" : Str))=false:=by decide)
  (fG:attributeBase (.Name y py) "extend" X.env (eval (.Name y py) X.env)=eval (.Name y py) X.env:=by rfl)
  (oI:((backTo c6 (starEach [e] X.env)).all (λx=>!x.1) && (backToKw c6 (keywordEach [] X.env)).all (λx=>x.1.isSome)
   && decide ([e].length+([]:List Keyword).length+(if([]:List Keyword).isEmpty then 0 else 1)<30))=true:=by rfl)
  (fH:(dI.endLine == c6.line)=true:=by rfl) (hs:starEach [e] X.env=[(false,eval e X.env)]:=by rfl) (A5:swapsWith (.Call (.Attribute (.Name y py) "extend" dI) [e] [] c6) none pos.line X.env=pure false:=by rfl):
  JS X (.Expr (.Call (.Attribute (.Name y py) "extend" dI) [e] [] c6) pos) (mm i f):=by
 refine PS.to (nO (sD PySem.F.plainAttrs_list PySem.F.slot_list_extend PySem.F.type_list_extend ul (j0 hN hv hd jZ) (dD he fN hs) fG oI fH hs rfl) A5) λE σ H q=>?_;obtain⟨B0,H0,ρ,r,⟨N,s⟩,ee,p⟩:=q;unfold mm at ee;split at ee
 ·rename_i ds ei;obtain⟨v,ev,ee⟩:=oX ee;obtain⟨vd,vb⟩:=v;cases vd with
  |lst es=>
   dsimp only at ee;split at ee
   ·rename_i hc;cases ee
    obtain⟨l,vs,vN,z,h1,h2,h3,h4⟩:=s.owL i _ ei;cases z
    refine⟨_,h1,.inl ⟨rfl,vs,eN.of (s.ext.nh _ _ h2)⟩,N,ρ,_,_,s.ext.nh,s.rep,ev,λv1 H1 N1 x1 i1 f1=>?_⟩;obtain⟨l2,ws,sk,rfl,z,g1,g2,g3⟩:=f1 hc.1;cases z
    have s1:=s.grow x1;obtain⟨l',Gj,vN,z,k1,k2,_,k4⟩:=s1.owL i _ ei;cases z
    rw[h1]at k1;cases k1;exact⟨l,l2,Gj,ws,rfl,rfl,s1.ext.nh _ _ k2,x1.nh _ _ g2,by rw[k4.length,g3.length];exact hc.2.2,p σ _ ⟨_,s1.write ei h1 (k4.append (s1.flats g3 hc.2.1))⟩⟩
   ·cases ee
  |_=>cases ee
 ·cases ee
end
open AutoSeq1 (wpAny_loadPart')
set_option maxRecDepth 100000
end DL
namespace DL
open PySem PySem.Spec PyProof.Rows
def fU (xs:Array Nat):Prop:=xs.toList.Pairwise (· < ·)
theorem fU.lt {xs:Array Nat}(h:fU xs){i j a b:Nat}(hi:xs[i]? = some a)(hj:xs[j]? = some b)(l:i<j):a<b:=by
 obtain⟨h1,e1⟩:=Array.getElem?_eq_some_iff.mp hi;obtain⟨h2,e2⟩:=Array.getElem?_eq_some_iff.mp hj;have:=List.pairwise_iff_getElem.mp h i j (by simpa using h1) (by simpa using h2) l;simp only[Array.getElem_toList]at this;rw[←e1,←e2];exact this
theorem kX {xs:Array Nat}(h:fU xs)(j:Nat):∀(fuel lo hi:Nat),hi<=xs.size->lo<=hi->hi - lo<=fuel->(∀i a,i<lo->xs[i]? = some a->a<j)->(∀i a,hi<=i->xs[i]? = some a->j<=a) ->
  (SetTable.below.go xs j fuel lo hi<=xs.size/\(∀i a,i<SetTable.below.go xs j fuel lo hi->xs[i]? = some a->a<j)/\∀i a,SetTable.below.go xs j fuel lo hi<=i->xs[i]? = some a->j<=a)
 |0,lo,hi,h1,h2,h3,h4,h5=>by
  have:lo=hi:=by omega
  subst this;exact⟨h1,h4,h5⟩
 |fuel+1,lo,hi,h1,h2,h3,h4,h5=>by
  unfold SetTable.below.go;by_cases hl:lo<hi
  ·rw[if_pos hl];have hm:(lo+hi) / 2<xs.size:=by omega
   have em:xs[(lo+hi) / 2]? = some (xs.getD ((lo+hi) / 2) j):=by rw[Array.getD_eq_getD_getElem?,Array.getElem?_eq_getElem hm];rfl
   show(if xs.getD ((lo+hi) / 2) j<j then _ else _)<=_/\_;by_cases hc:xs.getD ((lo+hi) / 2) j<j
   ·rw[if_pos hc];refine kX h j fuel _ _ h1 (by omega) (by omega) (λi a hia ha=>?_) h5;by_cases hx:i=(lo+hi) / 2
    ·rw[hx,em]at ha;cases ha;exact hc
    ·exact Nat.lt_trans (h.lt ha em (by omega)) hc
   ·rw[if_neg hc];refine kX h j fuel _ _ (by omega) (by omega) (by omega) h4 λi a hia ha=>?_;by_cases hx:i=(lo+hi) / 2
    ·rw[hx,em]at ha;cases ha;omega
    ·have:=h.lt em ha (by omega);omega
  ·rw[if_neg hl];have:lo=hi:=by omega
   subst this;exact⟨h1,h4,h5⟩
theorem kY {xs:Array Nat}(h:fU xs)(j:Nat):SetTable.below xs j<=xs.size/\(∀i a,i<SetTable.below xs j->xs[i]? = some a->a<j)/\∀i a,SetTable.below xs j<=i->xs[i]? = some a->j<=a :=
 kX h j xs.size 0 xs.size (vT _) (uN _) (by omega) (λ_ _ h=>absurd h (Nat.not_lt_zero _)) λi a h1 h2=>by
  have:=(Array.getElem?_eq_some_iff.mp h2).1;omega
theorem r0 {xs:Array Nat}(h:fU xs){i a:Nat}(e:xs[i]? = some a):SetTable.below xs (a+1)=i+1:=by
 obtain⟨h1,h2,h3⟩:=kY h (a+1);have hi:=(Array.getElem?_eq_some_iff.mp e).1;by_cases c:SetTable.below xs (a+1)<i+1
 ·have:=h3 i a (by omega) e;omega
 ·by_cases c2:i+1<SetTable.below xs (a+1)
  ·obtain⟨b,hb⟩:∃b,xs[i+1]? = some b:=⟨_,Array.getElem?_eq_getElem (by omega)⟩;have:=h2 (i+1) b c2 hb;have:=h.lt e hb (by omega);omega
  ·omega
theorem r6 {xs:Array Nat}(h:fU xs):SetTable.below xs 0=0:=by
 obtain⟨h1,h2,_⟩:=kY h 0;by_cases c:0<SetTable.below xs 0
 ·obtain⟨b,hb⟩:∃b,xs[0]? = some b:=⟨_,Array.getElem?_eq_getElem (by omega)⟩;exact absurd (h2 0 b c hb) (Nat.not_lt_zero _)
 ·omega
theorem xl {xs:Array Nat}(h:fU xs){j:Nat}(hj:xs[SetTable.below xs j]? ≠ some j):fU (SetTable.insertAt xs (SetTable.below xs j) j):=by
 obtain⟨h1,h2,h3⟩:=kY h j;have e:(SetTable.insertAt xs (SetTable.below xs j) j).toList=xs.toList.take (SetTable.below xs j)++j::xs.toList.drop (SetTable.below xs j):=by
  unfold SetTable.insertAt;simp[Array.toList_extract,List.extract];exact List.take_of_length_le (by simp)
 unfold fU;rw[e,List.pairwise_append,List.pairwise_cons];have lo:∀a∈xs.toList.take (SetTable.below xs j),a<j:=λa ha=>by
  obtain⟨i,hi⟩:=List.mem_iff_getElem?.mp ha;rw[List.getElem?_take]at hi;split at hi
  ·rename_i hl;exact h2 i a hl (by simpa using hi)
  ·cases hi
 have up:∀a∈xs.toList.drop (SetTable.below xs j),j<a:=λa ha=>by
  obtain⟨i,hi⟩:=List.mem_iff_getElem?.mp ha;rw[List.getElem?_drop,Array.getElem?_toList]at hi;have h4:=h3 _ a (by omega) hi;rcases Nat.lt_or_eq_of_le h4 with h5|h5
  ·exact h5
  ·subst h5;by_cases h0:i=0
   ·subst h0;exact absurd hi hj
   ·obtain⟨b,hb⟩:∃b,xs[SetTable.below xs j]? = some b:=⟨_,Array.getElem?_eq_getElem (by have:=(Array.getElem?_eq_some_iff.mp hi).1;omega)⟩;have:=h3 _ b (vT _) hb;have:=h.lt hb hi (by omega);omega
 refine⟨List.Pairwise.sublist (List.take_sublist _ _) h,⟨up,List.Pairwise.sublist (List.drop_sublist _ _) h⟩,λa ha b hb=>?_⟩;rcases vP hb with rfl|hb
 ·exact lo a ha
 ·exact Nat.lt_trans (lo a ha) (up b hb)
theorem i6 {t:SetTable}{f:Nat->Int}{h:Int}:∀(fuel:Nat)(p:SetTable.Probe)(j:Nat)(d:Option Nat),(∀d,p.dummy=some d->t.place[SetTable.below t.place d]? ≠ some d)->SetTable.probe.go t f h fuel p=some (.empty j d)->t.place[SetTable.below t.place j]? ≠ some j/\∀e,d=some e->t.place[SetTable.below t.place e]? ≠ some e
 |0,_,_,_,_,h=>by simp[SetTable.probe.go]at h
 |fuel+1,p,j,d,hd,hg=>by
  unfold SetTable.probe.go at hg;cases hs:t.slot p.j with
  |empty=>
   rw[hs]at hg;cases hg
   refine⟨λz=>?_,hd⟩;unfold SetTable.slot at hs;simp[z]at hs
  |dummy=>
   rw[hs]at hg;refine i6 fuel _ j d (λe he=>?_) hg;have:e=p.j:=by
    unfold SetTable.advance at he;split at he<;>exact(vK he).symm
   subst this;intro z;unfold SetTable.slot at hs;simp[z]at hs
  |live i=>
   rw[hs]at hg;dsimp only at hg;split at hg
   ·cases hg
   ·refine i6 fuel _ j d (λe he=>hd e ?_) hg;unfold SetTable.advance at he;split at he<;>exact he
theorem xm {t:SetTable}{h:Int}{j:Nat}{w:Bool}(e:t.freeSlot h=some (j,w)):t.place[SetTable.below t.place j]? ≠ some j:=by
 unfold SetTable.freeSlot at e;split at e
 ·rename_i j' d hp;obtain⟨h1,h2⟩:=i6 _ _ _ _ (λd hd=>by cases hd) hp;cases e
  cases d with
  |none=>exact h1
  |some d=>exact h2 d rfl
 ·cases e
theorem fW (n:Nat):fU (Array.range n):=by unfold fU;rw[Array.toList_range];exact List.pairwise_lt_range
theorem u7 {mask finger Fu:Nat}{led pl:Bool}{CU:Array Int}{t:SetTable}{o:Array Nat}(e:SetTable.laid mask finger Fu led pl CU=some (t,o)):fU t.place:=by
 unfold SetTable.laid at e;obtain⟨ow,_,e⟩:=oX e;cases e
 unfold fU;show(List.map _ _).Pairwise _;refine List.pairwise_map.mpr ?_;refine List.Pairwise.filterMap _ (λa b h x hx y hy=>?_) List.pairwise_lt_range;obtain⟨_,_,rfl⟩:=oY hx;obtain⟨_,_,rfl⟩:=oY hy;exact h
theorem u8 (t:SetTable)(es:Array (Int×Value))(n:Nat):(relayAll t es n).2.1.led=t.led:=by
 unfold relayAll;split
 ·rename_i t' order h;unfold SetTable.relaid SetTable.laid at h;obtain⟨ow,_,h⟩:=oX h;cases h
  dsimp only;split<;>rfl
 ·rfl
theorem rA (t:SetTable)(es:Array (Int×Value))(n:Nat)(h:fU t.place):fU (relayAll t es n).2.1.place:=by
 unfold relayAll;split
 ·rename_i t' order e;dsimp only;split
  ·exact u7 e
  ·exact fW _
 ·exact fW _
theorem xn (t:SetTable)(es:Array (Int×Value))(hh:Int)(x:Value)(h:fU t.place):fU (layNew t es hh x).2.1.place:=by
 unfold layNew;split
 ·rename_i slot wd e;dsimp only[SetTable.put,SetTable.orStandIn];repeat' (first|exact xl h (xm e)|exact fW _|split)
 ·exact fW _
theorem zW (t:SetTable)(es:Array (Int×Value))(h:Int)(x:Value):(layNew t es h x).2.1.led=t.led:=by
 unfold layNew;split
 ·dsimp only[SetTable.put,SetTable.orStandIn];repeat' (first|rfl|split)
 ·rfl
structure TabT (w:World)(es:Array (Int×Value))(t:SetTable):Prop where
 fits:t.fits es.size=true
 led:t.led = !w.params.followText "set-order"
 rise:fU t.place
structure KOf {prog:Program}{w:World}{κ:Type}[DecidableEq κ](kd:PySem.KeyKind prog w κ)(kf:Value->κ)(mk:κ->Tok->Value):Prop where
 is:∀k t,kd.is k (mk k t)=true
 of:∀ {k v},kd.is k v=true->∃t,v=mk k t
 kf:∀k t,kf (mk k t)=k
 sc:∀k t,(mk k t).scannable=true
def eV {prog:Program}{w:World}{κ:Type}[DecidableEq κ](kd:PySem.KeyKind prog w κ)(kf:Value->κ)(h:Heap)(a:Addr)(ts:List κ):Prop :=
 ∃o es ep t,h.get? a=some o/\o.ExactSet/\o.data=.set es ep t/\ElemsOf kd es.toList/\(es.toList.map (λe=>kf e.2)).Perm ts/\ts.Nodup/\ts.length<scanBound/\TabT w es t
noncomputable def fX {κ:Type}[DecidableEq κ](ts:List κ)(x:κ):List κ:=if x∈ts then ts else ts++[x]
theorem xo {κ:Type}[DecidableEq κ](ts:List κ)(x:κ):(fX ts x).length<=ts.length+1:=by unfold fX;split<;>simp
section
variable {prog:Program}{w:World}{A:Around}{E:Value->Shared->Prop}{s:Shared}{κ:Type}[DecidableEq κ] {kd:PySem.KeyKind prog w κ}{kf:Value->κ}{mk:κ->Tok->Value}
theorem KOf.key (K0:KOf kd kf mk)(h:kd.is k v=true):kf v=k:=by obtain⟨t,rfl⟩:=K0.of h;exact K0.kf _ _
theorem mS (K0:KOf kd kf mk){es:Array (Int×Value)}{ts:List κ}(yT:ElemsOf kd es.toList)(hp:(es.toList.map (λe=>kf e.2)).Perm ts)(k:κ):k∈ts ↔ ∃e∈es.toList,kd.is k e.2=true:=by
 rw[←hp.mem_iff,List.mem_map];constructor
 ·rintro⟨e,he,rfl⟩;obtain⟨⟨k',hk,_⟩,_⟩:=yT e he;exact⟨e,he,by rw[K0.key hk];exact hk⟩
 ·rintro⟨e,he,hk⟩;exact⟨e,he,K0.key hk⟩
theorem mT {h:Heap}{a:Addr}{o:Obj}{es:Array (Int×Value)}{ep:Nat}{t:SetTable}(ho:h.get? a=some o)(hd:o.data=.set es ep t)(sk:Array (Int×Value))(t':SetTable):
  (h.update a (Obj.putSet sk t')).get? a=some { o with data:=.set sk (ep+1) t' }:=by
 have:=Heap.get?_update_self (Obj.putSet sk t') ho (by rw[putSet_of sk t' hd];rfl);rw[putSet_of sk t' hd]at this;exact this
theorem kZ {g:Bool->Sem Unit}(hg:∀(b:Bool)(s₁:Shared)(Q':Unit->Shared->Prop),Q' () s₁->wpAny (model prog w) A (g b) Q' E s₁)
  {a:Addr}{o:Obj}{es:Array (Int×Value)}{ep:Nat}{t:SetTable}(ho:s.heap.get? a=some o) (vO:o.ExactSet) (hd:o.data=.set es ep t)
  {jz:Array (Int×Value)}{t2:SetTable}{ts:List κ}(vt:ElemsOf kd jz.toList) (CV:(jz.toList.map (λe=>kf e.2)).Perm ts) (nd:ts.Nodup)
  (yB:ts.length<scanBound) (Lz:t2.fits jz.size=true) (EY:t2.led = !w.params.followText "set-order") (kD:fU t2.place) {qF:Bool}{R:Option Bool->Shared->Prop}
  (h:∀h',Heap.SameBut a s.heap h'->eV kd kf h' a ts->R (some true) { s with heap:=h' }):
  wpAny (model prog w) A (do
    storeSet a jz t2
    if(!qF && t2.tooFull)=true then do
      g (relayAll t2 jz (SetTable.grown jz.size)).2.2
      storeSet a (relayAll t2 jz (SetTable.grown jz.size)).1 (relayAll t2 jz (SetTable.grown jz.size)).2.1
      pure (some true)
     else pure (some true)) R E s:=by
 have J6:jz.size=ts.length:=by rw[←CV.length_eq,vH,vF]
 refine wX (wpAny_storeSet_of ho hd ?_ (fits_of_scanBound (by rw[J6];exact yB)));have D5:=mT ho hd jz t2;have Fv:=vW s.heap a (Obj.putSet jz t2);split
 ·have hp:=relayAll_perm t2 jz (SetTable.grown jz.size);have HY:=relayAll_fits t2 jz (SetTable.grown jz.size);have A8:=u8 t2 jz (SetTable.grown jz.size);have HZ:=rA t2 jz (SetTable.grown jz.size) kD;generalize hRl:relayAll t2 jz (SetTable.grown jz.size)=Rl at hp HY A8 HZ ⊢;obtain⟨Gs,t3,J7⟩:=Rl;dsimp only at hp HY A8 HZ ⊢;have Ia:ElemsOf kd Gs.toList:=vt.perm hp;have hsz:Gs.size=jz.size:=by rw[←vF,hp.length_eq,vF]
  refine wX (hg _ _ _ ?_);refine wX (wpAny_storeSet_of D5 rfl ?_ (fits_of_scanBound (by rw[hsz,J6];exact yB)));have D0:=mT D5 rfl Gs t3;exact wY (h _ (Fv.trans (vW _ a _)) ⟨_,Gs,_,t3,D0,vO,rfl,Ia,(hp.map _).trans CV,nd,yB,HY,A8.trans EY,HZ⟩)
 ·exact wY (h _ Fv ⟨_,jz,_,t2,D5,vO,rfl,vt,CV,nd,yB,Lz,EY,kD⟩)
theorem rB (K0:KOf kd kf mk){a:Addr}{ts:List κ}{k:κ}{tk:Tok}{Q:Bool->Shared->Prop}(hS:eV kd kf s.heap a ts)(Fw:ts.length+1<scanBound)
  (h:∀b h',Heap.SameBut a s.heap h'->eV kd kf h' a (fX ts k)->Q b { s with heap:=h' }):
  wpAny (model prog w) A (setAddHashed a (mk k tk) (kd.hash k)) Q E s:=by
 have hS0:=hS;obtain⟨o,es,ep,t,ho,vO,hd,yT,oJ,nd,hb,hf,yC,kD⟩:=hS;have A0:kd.is k (mk k tk)=true:=K0.is k tk;have sz:es.size=ts.length:=by rw[←oJ.length_eq,vH,vF]
 unfold setAddHashed setAddHashedIn;refine wpAny_holding (wX (wpAny_setState_of ho hd hf ?_));dsimp only;rw[byScan_of (x:=mk k tk) (K0.sc k tk) (by rw[sz];exact hb) yT];simp only[↓reduceIte];unfold setAddByScan;refine wX ?_;refine wX (wpAny_rule ?_);refine wX (wpAny_setScan_of A0 ho hd hf yT ?_);cases hr:List.findIdx? (λe=>kd.is k e.2) es.toList with
 |some j=>
  dsimp only;obtain⟨hj,L0,_⟩:=List.findIdx?_eq_some_iff_getElem.mp hr;have hm:k∈ts:=(mS K0 yT oJ k).mpr ⟨es.toList[j],List.getElem_mem hj,L0⟩;refine wY (wY ?_);have e:fX ts k=ts:=by unfold fX;rw[if_pos hm]
  exact h false s.heap (Heap.SameBut.refl a s.heap) (by rw[e];exact hS0)
 |none=>
  dsimp only;have hm:k∉ts:=λz=>by
   obtain⟨e,he,hp⟩:=(mS K0 yT oJ k).mp z;have:=List.findIdx?_eq_none_iff.mp hr e he;rw[hp]at this;exact Bool.noConfusion this
  have ea:fX ts k=ts++[k]:=by unfold fX;rw[if_neg hm]
  have L1:∀(b:Bool){s₁:Shared}{Q':Unit->Shared->Prop},Q' () s₁->wpAny (model prog w) A (match b with|true=>rule "set.scan.the-table-gave-way" | false=>pure ()) Q' E s₁ :=
   λb s₁ Q' hq=>by cases b<;>first|exact wY hq|exact wpAny_rule hq
  have fJ:=layNew_perm t es (kd.hash k) (mk k tk);have qG:=layNew_fits t es (kd.hash k) (mk k tk);have Fy:=xn t es (kd.hash k) (mk k tk) kD;have Bn:=zW t es (kd.hash k) (mk k tk);generalize hL:layNew t es (kd.hash k) (mk k tk)=L at fJ qG Bn Fy ⊢;obtain⟨jz,t1,qF,Fx⟩:=L;dsimp only at fJ qG Bn Fy ⊢;rw[Array.toList_push]at fJ;have vt:ElemsOf kd jz.toList:=(yT.push A0 (K0.sc k tk)).perm fJ;have CV:(jz.toList.map (λe=>kf e.2)).Perm (ts++[k]):=(fJ.map _).trans (by rw[List.map_append,List.map_singleton,K0.kf];exact oJ.append_right _);have Ib:(ts++[k]).Nodup:=by
   rw[List.nodup_append];refine⟨nd,by simp,λx hx y hy=>?_⟩;rw[List.mem_singleton]at hy;subst hy;exact λz=>hm (z ▸ hx)
  have yB:(ts++[k]).length<scanBound:=by rw[uZ];exact Fw
  refine wX (L1 _ ?_);have CW:∀h',Heap.SameBut a s.heap h'->eV kd kf h' a (ts++[k])->Q true { s with heap:=h' }:=λh' hsb vv=>h true h' hsb (by rw[ea];exact vv);have gw:∀(b:Bool)(s₁:Shared)(Q':Unit->Shared->Prop),Q' () s₁->wpAny (model prog w) A (match b with|true=>rule "set.scan.the-table-gave-way" | false=>pure ()) Q' E s₁:=λb s₁ Q' hq=>by cases b<;>first|exact wY hq|exact wpAny_rule hq
  split
  ·refine wX ?_;rw[hashByValue_scannable 8 (x:=mk k tk) (K0.sc k tk)];refine wY ?_;cases plainKind (mk k tk) with
   |false=>exact kZ gw ho vO hd vt CV Ib yB (SetTable.fits_plain_off qG) (Bn.trans yC) Fy λh' hsb vv=>wY (CW h' hsb vv)
   |true=>exact kZ gw ho vO hd vt CV Ib yB qG (Bn.trans yC) Fy λh' hsb vv=>wY (CW h' hsb vv)
  ·refine wX (wY ?_);exact kZ gw ho vO hd vt CV Ib yB qG (Bn.trans yC) Fy λh' hsb vv=>wY (CW h' hsb vv)
end
section
variable {κ:Type}[DecidableEq κ] {ts:List κ}{x y:κ}
def cu (ss:List κ):List κ:=ss.foldl fX []
theorem rC (h:ts.Nodup)(x:κ):(fX ts x).Nodup:=by
 unfold fX;split
 ·exact h
 ·rename_i hm;rw[List.nodup_append];refine⟨h,by simp,λy hy z hz=>?_⟩;rw[List.mem_singleton]at hz;subst hz;exact λe=>hm (e ▸ hy)
theorem xp:y∈fX ts x↔y∈ts∨y=x:=by
 unfold fX;split
 ·rename_i hm;exact⟨.inl,λz=>z.elim id λe=>e ▸ hm⟩
 ·simp
theorem ot (ss:List κ):∀ts:List κ,(ss.foldl fX ts).length<=ts.length+ss.length:=by
 induction ss with
 |nil=>intro ts;simp
 |cons x r ih=>intro ts;rw[List.foldl_cons];have:=ih (fX ts x);have:=xo ts x;simp only[vD];omega
theorem iX (ss:List κ):(cu ss).length<=ss.length:=by have:=ot ss [];simpa [cu]using this
theorem u9 (ss:List κ)(x:κ):cu (ss++[x])=fX (cu ss) x:=by unfold cu;rw[List.foldl_append];rfl
end
theorem StrsAre.at:∀ {vs:List Value}{ss:List Str},StrsAre vs ss->∀(i:Nat)(v:Value),vs[i]? = some v->∃x t,v=.str x t/\ss[i]? = some x
 |_,_,.nil,i,v,h=>by simp at h
 |_,_,.cons x t hr,0,v,h=>by simp at h;exact⟨x,t,h.symm,rfl⟩
 |_,_,.cons x t hr,i+1,v,h=>by
  simp only[List.getElem?_cons_succ]at h;exact StrsAre.at hr i v h
theorem eV.at {prog:Program}{w:World}{κ:Type}[DecidableEq κ]{kd:PySem.KeyKind prog w κ}{kf:Value->κ}{ts:List κ}(x:eV kd kf h a ts)(k:∀o,h.get? a=some o->h'.get? a=some o):eV kd kf h' a ts:=by
 obtain⟨o,es,ep,t,ho,r⟩:=x;exact⟨o,es,ep,t,k o ho,r⟩
section
variable {prog:Program}{w:World}{A:Around}{R:Result->Shared->Prop}{I:Addr}{fp wr:List Addr}{G:Array GenState->Array GenState->Prop}{n:Nat}{P:Nat->Value->Prop}{St:Nat->Shared->Prop}{κ:Type}[DecidableEq κ] {kd:PySem.KeyKind prog w κ}{kf:Value->κ}{mk:κ->Tok->Value}
theorem ou (K0:KOf kd kf mk)(W:WalksS prog w A.in1 I fp wr G n P St)(S:Addr)(ub:S∉fp)(ss:List κ)(hn:ss.length=n)
  (CY:∀i v,P i v->∃x t,v=mk x t/\ss[i]? = some x) (hb:n+1<scanBound):
  ∀(k i:Nat)(s:Shared),n - i=k->i<=n->St i s->eV kd kf s.heap S (cu (ss.take i)) ->
   (∀s',Moved (S::wr) G s s'->eV kd kf s'.heap S (cu ss)->R (.ok (.ret .none)) s') ->
   codeAny (model prog w) A (.builtin "set.update.loop" ⟨[.ref S,.ref I],[]⟩) R s:=by
 have J8:S∉wr:=λh=>ub (W.sub _ h);have yA:∀b∈wr,b∈S::wr:=λb hb=>mZ _ hb;intro k;induction k with
 |zero=>
  intro i s hk hi nM hS hR;have Fz:i=n:=by omega
  subst Fz;refine codeAny_builtin PyProof.Rows.F.entry_set_update_loop ?_;rw[Around.under_plainId PyProof.Rows.F.plain_set_update_loop _];show wpAny _ A.in1 (pyNext (.ref I)>>=_) _ _ s;refine wX (W.done s _ _ nM λs' hm=>?_);show wpAny _ A.in1 (ret Value.none) _ _ s';refine wY (hR s' (hm.mono yA) ?_);rw[List.take_of_length_le (by omega)]at hS;exact hS.at λo e=>hm.heap S _ J8 e
 |succ k ih=>
  intro i s hk hi nM hS hR;have eM:i<n:=by omega
  refine codeAny_builtin PyProof.Rows.F.entry_set_update_loop ?_;rw[Around.under_plainId PyProof.Rows.F.plain_set_update_loop _];show wpAny _ A.in1 (pyNext (.ref I)>>=_) _ _ s;refine wX (W.item i s _ _ eM nM λv s' hP hst' hm=>?_);obtain⟨x,t,rfl,hx⟩:=CY i v hP;have vv:eV kd kf s'.heap S (cu (ss.take i)):=hS.at λo e=>hm.heap S _ J8 e;show wpAny _ A.in1 (holding [mk x t] (setAdd S (mk x t))>>=_) _ _ s';refine wX (wpAny_holding ?_);unfold setAdd;refine wpAny_holding ?_;refine wX (kd.pyHash (k:=x) (K0.is x t) ?_);have hl:(cu (ss.take i)).length+1<scanBound:=by have:=iX (ss.take i);rw[List.length_take]at this;omega
  refine rB K0 (s:={ s' with toks:=s'.toks+1 }) vv hl λb h' hsb Bo=>?_;have Gu:eV kd kf h' S (cu (ss.take (i+1))):=by
   rw[List.take_add_one,hx,Option.toList_some,u9];exact Bo
  refine wY ⟨plainId_quiet PyProof.Rows.F.plain_set_update_loop _,ih (i+1) _ (by omega) eM (W.frame _ s' _ _ hst' (Nat.le_succ _) λb hb o e=>?_) Gu λEU hm'' hS''=>?_⟩
  ·rw[hsb.2 b (λh:b=S=>ub (by rw[←h];exact hb))];exact e
  ·refine hR EU (Moved.trans W.gtrans ((hm.mono yA).then_heap (Nat.le_succ _) λb o hb e=>?_) hm'') hS'';rw[hsb.2 b (λh:b=S=>hb (by rw[h];exact mX))];exact e
end
section
variable {prog:Program}{w:World}{A:Around}{E:Value->Shared->Prop}{s:Shared}{κ:Type}[DecidableEq κ] {kd:PySem.KeyKind prog w κ}{kf:Value->κ}{mk:κ->Tok->Value}
noncomputable abbrev c7 (w:World):Obj:={ cls:=.type "set",dict:=none,data:=.set #[] 0 (.fresh 0 0 (!w.params.followText "set-order")) }
theorem pF (a:Value) 
  (h:Q₁ (.ref s.heap.objs.size) { s with heap:=s.heap.push (c7 w) }):
  codeAny (model prog w) A (.call (.builtin "set.__new__") ⟨[.type "set",a],[]⟩) (wants Q₁ E) s:=by
 refine codeAny_of_tree ?_;show wpAny _ A.in1 (do checkBuiltinCall "set.__new__" ⟨[.type "set",a],[]⟩;again (.builtin "set.__new__" ⟨[.type "set",a],[]⟩)) _ _ s;refine wX (wpAny_of_eq (PySem.F.newCall_set_1 a) (wY ⟨plainId_quiet PySem.F.plain_set_new _,codeAny_builtin PySem.F.entry_set_new ?_⟩));rw[Around.under_plainId PySem.F.plain_set_new _];unfold Builtin.«set.__new__» Builtin.Frozenset.newClass;have yA:=sub_set_self;obtain⟨hp,g,d,tk,os⟩:=s;dsimp only;wp_walk;refine wpAny_askSetting (wY ?_);dsimp only;simp only[newObj];refine wX (wpAny_alloc (wY ?_));exact wY h
set_option maxHeartbeats 3200000 in
theorem mn (K0:KOf kd kf mk){ss:List κ}
  (hh:A.handled=none) (hl:s.heap.IsList l am) (CY:∀(i:Nat)(v:Value),am[i]? = some v->∃x t,v=mk x t/\ss[i]? = some x) (bp:ss.length=am.size) (hb:am.size+1<scanBound)
  (h:∀(h':Heap)(tk:Nat),eV kd kf h' s.heap.objs.size (cu ss) ->
   (∀b o,b<s.heap.objs.size->s.heap.get? b=some o->h'.get? b=some o)->Q (.ref s.heap.objs.size) { s with heap:=h',toks:=tk }):
  wpAny (model prog w) A (call (.type "set") [.ref l]) Q E s:=by
 obtain⟨c,tl,L3⟩:=PySem.F.called_set.mro;have J9:=PySem.F.called_set.made;have yA:=PySem.F.called_set.sub;refine wpAny_call (codeAny_of_tree ?_);show wpAny _ _ (callAny (.type "set") _) _ _ _;refine wY ⟨Code.quiet_builtin _ (by decide +kernel),codeAny_builtin PySem.F.entry_type_call ?_⟩;rw[Around.under_plain (weight_type_call_type "set" [.ref l] []) rfl];have h1:=PySem.F.called_set.notType;have h2:=PySem.F.called_set.canCreate;have M5:=PySem.F.typeCall_set_1 (.ref l);repeat (any_goals (first|assumption|wp_step))
 refine codeAny_mono (pF (.ref l) (E:=E) (Q₁:=λobj s₁=>obj=.ref s.heap.objs.size/\s₁={ s with heap:=s.heap.push (c7 w) }) ⟨rfl,rfl⟩) λr s₁ hr=>?_;cases r with
 |error e=>exact hr
 |ok fl=>
  cases fl with
  |ret obj=>
   obtain⟨rfl,rfl⟩:=hr;have hS:(s.heap.push (c7 w)).get? s.heap.objs.size=some (c7 w):=vY _ rfl;have hT:Shared.TypeIs { s with heap:=s.heap.push (c7 w) } (.ref s.heap.objs.size) "set":=⟨_,hS,rfl⟩;have M6:=PySem.F.called_set.init.lookup;have M7:=PySem.F.called_set.init.bind (.ref s.heap.objs.size);repeat (any_goals (first|assumption|wp_step))
   refine codeAny_mono (codeAny_call_builtin (R:=wants (λr s₂=>r=.none/\∃h' tk,s₂={ s with heap:=h',toks:=tk } /\
     eV kd kf h' s.heap.objs.size (cu ss) /\
     (∀b o,b<s.heap.objs.size->s.heap.get? b=some o->h'.get? b=some o)) E) PySem.F.called_set.init.plain PySem.F.entry_set_init (check_set_init_1 hT ?_)) λr₂ s₂ hr₂=>?_
   ·obtain⟨ol,JB,JD,nl,Gv⟩:=hl;obtain⟨L4,F0,JF,CZ⟩:=ol;simp only at JD Gv;subst JD;subst Gv;have Ie:(s.heap.push (c7 w)).get? l=some { cls:=.type "list",dict:=F0,data:=.seq am nl,slots:=CZ }:=vZ _ JB;have L5:=PySem.F.sub_list_set;have L6:=PySem.F.sub_list_frozenset;have D4:(Value.type "list" == Value.type "dict")=false:=by decide
    have Bn:(s.heap.push (c7 w)).IsList l am:=⟨_,Ie,rfl,nl,rfl⟩;unfold Builtin.«set.__init__» noKeywords Builtin.Frozenset.updateFrom;generalize hPI:pyIter=PI;wp_walk;subst hPI;refine wpAny_pyIter_list Bn ?_;refine wX (wpAny_runValue ?_);have JG:l<s.heap.objs.size:=vX JB;have L7:A.in1.in1.in1.handled=none:=by simp[hh]
    have Ig:l≠(s.heap.push (c7 w)).objs.size:=by
     rw[Heap.size_push];exact vS (Nat.lt_succ_of_lt JG)
    have ub:s.heap.objs.size∉[(s.heap.push (c7 w)).objs.size,l]:=by
     rw[Heap.size_push];simp only[List.mem_cons,List.mem_singleton,List.not_mem_nil,or_false,not_or];exact⟨vS (Nat.lt_succ_self _),Nat.ne_of_gt JG⟩
    refine ou K0 ((Walks.list L7 _ l Ig am).toS) s.heap.objs.size
     ub ss bp CY hb (am.size - 0) 0 _ (by omega) (uN _)
     ⟨⟨_,vY _ rfl,rfl,rfl⟩,(Bn.push _)⟩ ?hS0 ?hR
    case hS0=>
     have Ih:((s.heap.push (c7 w)).push { cls:=.type "list_iterator",data:=.fields #[.ref l,.int 0 0] }).get? s.heap.objs.size
       = some (c7 w):=vZ _ hS
     exact⟨_,#[],0,_,Ih,⟨rfl,rfl,rfl⟩,rfl,λe he=>by simp at he,List.Perm.refl _,List.nodup_nil,(by show(0:Nat)<scanBound;decide),rfl,rfl,List.Pairwise.nil⟩
    case hR=>
     intro s' hm vv
     obtain⟨h',g',d',L8,Hy⟩:=s'
     have eg:g'=s.gens:=hm.gens
     have ed:d'=s.drawn:=hm.drawn
     have eo:Hy=s.os:=hm.os
     subst eg;subst ed;subst eo
     show wpAny _ _ _ _ _ _
     refine wY ?_
     show wpAny _ _ (ret Value.none) _ _ _
     refine wY ⟨rfl,h',L8,rfl,vv,λb o hb e=>?_⟩
     have yB:b≠s.heap.objs.size:=vS hb
     have JH:b≠(s.heap.push (c7 w)).objs.size:=by
      rw[Heap.size_push];exact vS (Nat.lt_succ_of_lt hb)
     exact hm.heap b o (by simp only[List.mem_cons,List.mem_singleton,List.not_mem_nil,or_false,not_or];exact⟨yB,JH⟩) (vZ _ (vZ _ e))
   ·cases r₂ with
    |error e=>exact hr₂
    |ok fl₂=>
     cases fl₂ with
     |ret r=>
      obtain⟨rfl,h',tk,rfl,vv,Bp⟩:=hr₂;repeat (any_goals (first|assumption|wp_step))
      exact h _ _ vv Bp
     |_=>exact hr₂.elim
  |_=>exact hr.elim
end
open Sem (wp)
section
variable {M:Model}{A:Around}{E:Value->Shared->Prop}{s:Shared}
theorem zX (hn:n≠0)(h:∀k d,k<n->Q k { s with drawn:=d }):wpAny M A (choose src n) Q E s:=by
 intro Γ p hG;unfold choose;rw[Sem.wp_choose];refine⟨hn,?_⟩;have:=h _ (s.drawn.bump src) (Nat.mod_lt (M.w.draws src (s.drawn.get src)) (Nat.pos_of_ne_zero hn));simpa using this
end
theorem iY {α:Type}:∀(l:List α)(i:Nat),i<l.length->(l.eraseIdx i).length=l.length - 1:=λl i h=>by rw[List.length_eraseIdx,if_pos h]
theorem i7 {α:Type}:∀(l:List α)(i:Nat)(x:α),l[i]? = some x->(x::l.eraseIdx i).Perm l
 |[],i,x,h=>by simp at h
 |a::l,0,x,h=>by simp at h;subst h;exact List.Perm.refl _
 |a::l,i+1,x,h=>by
  rw[List.eraseIdx_cons_succ];simp only[List.getElem?_cons_succ]at h;exact(List.Perm.swap a x _).trans ((i7 l i x h).cons a)
theorem tt {α:Type}:∀(n:Nat)(xs:List α)(s:Shared)(Q:List α->Shared->Prop),xs.length=n->(∀ys d,ys.Perm xs->Q ys { s with drawn:=d })->wpAny M A (drawOrder n xs) Q E s
 |0,xs,s,Q,hl,h=>by
  have:xs=[]:=List.eq_nil_of_length_eq_zero hl;subst this;exact wY (h [] s.drawn (List.Perm.refl _))
 |n+1,[],s,Q,hl,h=>by simp at hl
 |n+1,x::r,s,Q,hl,h=>by
  show wpAny M A (choose .order (x::r).length>>=λi=>match (x::r)[i]? with
   |some x'=>(do return x'::(←drawOrder n ((x::r).eraseIdx i)))
   |none=>unsupported "internal:drawOrder") Q E s
  refine wX (zX (by simp) λk d hk=>?_);obtain⟨y,hy⟩:∃y,(x::r)[k]? = some y:=⟨_,vU hk⟩;rw[hy];refine wX (tt n _ _ _ (by rw[iY _ _ hk,hl];rfl) λys d' hp=>wY (h _ _ ((hp.cons y).trans (i7 _ _ _ hy))))
theorem tu {α:Type}(next:Nat->Nat):∀(fuel k:Nat)(left:List α)(out:Array α),left.length=fuel->(pickOrder.go next fuel k left out).toList.Perm (out.toList++left)
 |0,k,left,out,hl=>by
  have:left=[]:=List.eq_nil_of_length_eq_zero hl;subst this;unfold pickOrder.go;simp
 |fuel+1,k,left,out,hl=>by
  unfold pickOrder.go;have hk:next k % left.length<left.length:=Nat.mod_lt _ (by omega);obtain⟨y,hy⟩:∃y,left[next k % left.length]? = some y:=⟨_,vU hk⟩;rw[hy];dsimp only;refine(tu next fuel (k+1) _ _ (by rw[iY _ _ hk];omega)).trans ?_;rw[Array.toList_push,List.append_assoc];exact(i7 _ _ _ hy).append_left _
theorem uA {α:Type}(next:Nat->Nat)(xs:Array α):(pickOrder next xs).toList.Perm xs.toList:=by
 have:=tu next xs.size 0 xs.toList #[] (by simp);simpa [pickOrder]using this
theorem aM:Slot "set_iterator" "__next__" "set_iterator.__next__" :=
 .of (owner:="set_iterator") (n:="__next__") (by rw[typeLookup_type,builtinLookup_eq_fast];kernel_rfl) (by decide +kernel) (by decide +kernel) (by decide +kernel)
  (by first|exact .inl (by decide +kernel)|exact .inr (by decide +kernel)) (by rw[isSubtype_type];kernel_rfl)
theorem cJ:entryFor table "set_iterator.__next__" = some Builtin.«set_iterator.__next__»:=entryFor_of_tree (by kernel_rfl)
theorem cS (a:Value):argsOk "set_iterator.__next__" ⟨[a],[]⟩:=by unfold argsOk;kernel_rfl
theorem hV:Slot "set_iterator" "__iter__" "set_iterator.__iter__" :=
 .of (owner:="set_iterator") (n:="__iter__") (by rw[typeLookup_type,builtinLookup_eq_fast];kernel_rfl) (by decide +kernel) (by decide +kernel) (by decide +kernel)
  (by first|exact .inl (by decide +kernel)|exact .inr (by decide +kernel)) (by rw[isSubtype_type];kernel_rfl)
theorem la:entryFor table "set_iterator.__iter__" = some Builtin.«dict_keyiterator.__iter__» :=
 entryFor_alias (id':="dict_keyiterator.__iter__") (by kernel_rfl) rfl (by decide +kernel) (by kernel_rfl)
theorem mo (a:Value):argsOk "set_iterator.__iter__" ⟨[a],[]⟩:=by unfold argsOk;kernel_rfl
theorem kj:entryFor table "set.__iter__" = some Builtin.«frozenset.__iter__» :=
 entryFor_alias (id':="frozenset.__iter__") (by kernel_rfl) rfl (by decide +kernel) (by kernel_rfl)
noncomputable abbrev iA (fst:Value)(i:Nat)(S:Addr)(n ep:Nat):Obj:={ cls:=.type "set_iterator",data:=.fields #[fst,.int i 0,.ref S,.int n 0,.int ep 0] }
section
variable {prog:Program}{w:World}{A:Around}{E:Value->Shared->Prop}{s:Shared}{it S:Addr}{i ep:Nat}{o:Obj}{es:Array (Int×Value)}{t:SetTable}
theorem cb (ho:s.heap.get? it=some (iA fst i S n ep)):s.TypeIs (.ref it) "set_iterator":=⟨_,ho,rfl⟩
theorem oy {k k':Nat}{x:Value}{Q:Option Value->Shared->Prop}(ho:s.heap.get? it=some (iA (.int k 0) i S es.size ep))
  (hS:s.heap.get? S=some o) (hd:o.data=.set es ep t) (hf:t.fits es.size=true)
  (hN:∀(A':Around)(E':Value->Shared->Prop)(Q':Option (Value×Nat)->Shared->Prop),Q' (some (x,k')) s->wpAny (model prog w) A' (setNext S k i ep) Q' E' s)
  (hQ:∀h',h'.get? it=some (iA (.int k' 0) (i+1) S es.size ep)->Heap.SameBut it s.heap h'->Q (some x) { s with heap:=h' }):
  wpAny (model prog w) A (pyNext (.ref it)) Q E s:=by
 unfold pyNext;refine wX (wpAny_attempt (wpAny_callSpecial?_slot (name:=Str.ofString "__next__") (cb ho) aM
  (wpAny_call_entry aM (cb ho) cJ ?_ (cS _))))
 show wpAny _ _ (fieldsOf (.ref it)>>=_) _ _ s;refine wX (wpAny_fieldsOf ho rfl ?_);show wpAny _ _ (setEntries S>>=_) _ _ s;refine wX (wpAny_setEntries_of hS hd hf ?_);rw[if_neg (by simp)];show wpAny _ _ (setNext S _ _ _>>=_) _ _ s;simp only[Int.toNat_natCast];refine wX (hN _ _ _ ?_);dsimp only;refine wX (wpAny_setField_rec ho (by simp) λh1 e1 b1=>?_);refine wX (wpAny_setField_rec e1 (by simp) λh2 e2 b2=>?_);exact wY ⟨x,rfl,wY (hQ h2 (by simpa [rawInt,iA]using e2) (b1.trans b2))⟩
theorem o0 {k:Nat}{Q:Option Value->Shared->Prop}(hh:A.handled=none)(ho:s.heap.get? it=some (iA (.int k 0) i S es.size ep))
  (hS:s.heap.get? S=some o) (hd:o.data=.set es ep t) (hf:t.fits es.size=true)
  (hN:∀(A':Around)(E':Value->Shared->Prop)(Q':Option (Value×Nat)->Shared->Prop),Q' none s->wpAny (model prog w) A' (setNext S k i ep) Q' E' s)
  (hQ:∀h',Heap.ExtBut it s.heap h'->Q none { s with heap:=h' }):
  wpAny (model prog w) A (pyNext (.ref it)) Q E s:=by
 unfold pyNext;refine wX (wpAny_attempt (wpAny_callSpecial?_slot (name:=Str.ofString "__next__") (cb ho) aM
  (wpAny_call_entry aM (cb ho) cJ ?_ (cS _))))
 show wpAny _ _ (fieldsOf (.ref it)>>=_) _ _ s;refine wX (wpAny_fieldsOf ho rfl ?_);show wpAny _ _ (setEntries S>>=_) _ _ s;refine wX (wpAny_setEntries_of hS hd hf ?_);rw[if_neg (by simp)];show wpAny _ _ (setNext S _ _ _>>=_) _ _ s;simp only[Int.toNat_natCast];refine wX (hN _ _ _ ?_);dsimp only;refine wX (wpAny_setField_rec ho (by simp) λh1 e1 b1=>?_);refine wX ?_;simp only[newExc,newTuple];refine wX (wpAny_newObj_type ?_ (by size_fits));refine wX (m:=firstArgMember _ _) (wpAny_of_eq (a:=Value.none) (by first|rfl|(simp only[firstArgMember];rfl)) ?_);refine wpAny_newObj_type ?_ (by size_fits);simp only[raiseNew];refine wX (wpAny_handled ?_);rw[show A.in1.handled=none from hh];refine wX (wY (wpAny_throw ?_));refine wX (wpAny_isInstance (T:="StopIteration") (b:=true) ⟨_,vY _ rfl,rfl⟩ isSubtype_stop ?_);exact wY (hQ _ ((b1.extBut.push _).push _))
theorem mq {T:Addr}{pl:List Nat}{p:Nat}{x:Int×Value}{nt:Nat}{Q:Option Value->Shared->Prop}(ho:s.heap.get? it=some (iA (.ref T) i S es.size ep))
  (hT:s.heap.get? T=some (seqObj "tuple" (pl.map λ(p:Nat)=>Value.int p 0).toArray nt))
  (hS:s.heap.get? S=some o) (hd:o.data=.set es ep t) (hf:t.fits es.size=true) (hp:pl[i]? = some p) (hx:es[p]? = some x)
  (hQ:∀h',h'.get? it=some (iA (.ref T) (i+1) S es.size ep)->Heap.SameBut it s.heap h'->Q (some x.2) { s with heap:=h' }):
  wpAny (model prog w) A (pyNext (.ref it)) Q E s:=by
 unfold pyNext;refine wX (wpAny_attempt (wpAny_callSpecial?_slot (name:=Str.ofString "__next__") (cb ho) aM
  (wpAny_call_entry aM (cb ho) cJ ?_ (cS _))))
 show wpAny _ _ (fieldsOf (.ref it)>>=_) _ _ s;refine wX (wpAny_fieldsOf ho rfl ?_);show wpAny _ _ (setEntries S>>=_) _ _ s;refine wX (wpAny_setEntries_of hS hd hf ?_);rw[if_neg (by simp)];show wpAny _ _ (seqItems? (.ref T)>>=_) _ _ s;refine wX (wpAny_seqItems hT rfl ?_);have e1:(pl.map λ(p:Nat)=>Value.int p 0).toArray[(i:Int).toNat]? = some (.int p 0):=by simp[hp]
 dsimp only;rw[e1];dsimp only;have e2:wpAny (model prog w) A.in1 (setNextDrawn S (p:Int).toNat (ep:Int).toNat) (λy s'=>y=x.2/\s'=s) (λ_ _=>False) s:=by
  unfold setNextDrawn;refine wX (wpAny_setState_of hS hd hf ?_);dsimp only;rw[if_neg (by simp)];simp only[Int.toNat_natCast,hx];exact wY ⟨rfl,rfl⟩
 refine wX (wpAny_mono e2 (λy s' hy=>?_) λ_ _ z=>z.elim);obtain⟨rfl,rfl⟩:=hy;refine wX (wpAny_setField_rec ho (by simp) λh1 e1 b1=>?_);exact wY ⟨_,rfl,wY (hQ h1 (by simpa [rawInt,iA]using e1) b1)⟩
theorem mr {T:Addr}{pl:List Nat}{nt:Nat}{Q:Option Value->Shared->Prop}(hh:A.handled=none)(ho:s.heap.get? it=some (iA (.ref T) i S es.size ep))
  (hT:s.heap.get? T=some (seqObj "tuple" (pl.map λ(p:Nat)=>Value.int p 0).toArray nt))
  (hS:s.heap.get? S=some o) (hd:o.data=.set es ep t) (hf:t.fits es.size=true) (hp:pl[i]? = none)
  (hQ:∀h',Heap.ExtBut it s.heap h'->Q none { s with heap:=h' }):
  wpAny (model prog w) A (pyNext (.ref it)) Q E s:=by
 unfold pyNext;refine wX (wpAny_attempt (wpAny_callSpecial?_slot (name:=Str.ofString "__next__") (cb ho) aM
  (wpAny_call_entry aM (cb ho) cJ ?_ (cS _))))
 show wpAny _ _ (fieldsOf (.ref it)>>=_) _ _ s;refine wX (wpAny_fieldsOf ho rfl ?_);show wpAny _ _ (setEntries S>>=_) _ _ s;refine wX (wpAny_setEntries_of hS hd hf ?_);rw[if_neg (by simp)];show wpAny _ _ (seqItems? (.ref T)>>=_) _ _ s;refine wX (wpAny_seqItems hT rfl ?_);have e1:(pl.map λ(p:Nat)=>Value.int p 0).toArray[(i:Int).toNat]? = none:=by simpa using hp
 dsimp only;rw[e1];dsimp only;refine wX (wpAny_setField_rec ho (by simp) λh0 e0 b0=>?_);refine wX (wpAny_setField_rec e0 (by simp) λh1 e1 b1=>?_);refine wX ?_;simp only[newExc,newTuple];refine wX (wpAny_newObj_type ?_ (by size_fits));refine wX (m:=firstArgMember _ _) (wpAny_of_eq (a:=Value.none) (by first|rfl|(simp only[firstArgMember];rfl)) ?_);refine wpAny_newObj_type ?_ (by size_fits);simp only[raiseNew];refine wX (wpAny_handled ?_);rw[show A.in1.handled=none from hh];refine wX (wY (wpAny_throw ?_));refine wX (wpAny_isInstance (T:="StopIteration") (b:=true) ⟨_,vY _ rfl,rfl⟩ isSubtype_stop ?_);exact wY (hQ _ (((b0.trans b1).extBut.push _).push _))
theorem pG (ho:s.heap.get? it=some (iA fst i S n ep))(h:Q (.ref it) s):wpAny (model prog w) A (pyIter (.ref it)) Q E s:=by
 refine wpAny_pyIter_slot (cb ho) hV (wpAny_call_entry hV (cb ho) la ?_ (mo _));show wpAny _ _ (ret (.ref it)) _ _ s;exact wY ⟨_,rfl,"set_iterator",_,cb ho,aM.lookup,h⟩
end
section
variable {prog:Program}{w:World}{A:Around}{E:Value->Shared->Prop}{s:Shared}{it S:Addr}{i k ep:Nat}{o:Obj}{es:Array (Int×Value)}{t:SetTable}
theorem mU (hS:s.heap.get? S=some o)(hd:o.data=.set es ep t)(hf:t.fits es.size=true)(hb:w.params.followText "set-order" = true)
  (h:Q (((pickOrder (w.params.setOrder S ep) es)[i]?).map λe=>(e.2,k)) s):wpAny (model prog w) A (setNext S k i ep) Q E s:=by
 unfold setNext;refine wX (wpAny_setState_of hS hd hf ?_);dsimp only;unfold setsByText;refine wX (wX (wpAny_askSetting (wY ?_)));show wpAny _ _ (if w.params.followText "set-order" = true then _ else _) _ _ _;rw[if_pos hb,if_neg (by simp)];unfold setWalk setsByText;refine wX (wX (wpAny_setState_of hS hd hf ?_));dsimp only;refine wX (wX (wpAny_askSetting (wY ?_)));show wpAny _ _ (if w.params.followText "set-order" = true then _ else _) _ _ _;rw[if_pos hb];refine wX (wpAny_askSetting (wY ?_));exact wY h
theorem lb (hS:s.heap.get? S=some o)(hd:o.data=.set es ep t)(hf:t.fits es.size=true)(hb:w.params.followText "set-order" = false)(hl:t.led=true)(hz:(!t.plain && decide (es.size > 1))=false)
  (h:Q (match es[SetTable.below t.place k]?,t.place[SetTable.below t.place k]? with
   |some (_,x),some j=>some (x,j+1)
   |_,_=>none) s):wpAny (model prog w) A (setNext S k i ep) Q E s:=by
 unfold setNext;refine wX (wpAny_setState_of hS hd hf ?_);dsimp only;unfold setsByText;refine wX (wX (wpAny_askSetting (wY ?_)));show wpAny _ _ (if w.params.followText "set-order" = true then _ else _) _ _ _;rw[if_neg (by rw[hb];simp)];show wpAny _ _ (if(!t.plain && decide (es.size > 1))=true then _ else _) _ _ _;rw[if_neg (by rw[hz];simp)];show wpAny _ _ ((if(!t.led && !es.isEmpty)=true then unsupported "set:maker-not-led" else pure ())>>=_) _ _ _;rw[hl,if_neg (by simp)];refine wX (wY ?_);exact wY h
theorem mV (hh:A.handled=none)(hd:o.data=.set es ep t)(hf:t.fits es.size=true)(D4:S≠it)(vs:List Value)(hv:vs.length=es.size)(sl:Nat->Nat)
  (hN:∀i x,vs[i]? = some x->∀(A':Around)(E':Value->Shared->Prop)(s:Shared)(Q':Option (Value×Nat)->Shared->Prop),s.heap.get? S=some o->Q' (some (x,sl (i+1))) s->wpAny (model prog w) A' (setNext S (sl i) i ep) Q' E' s)
  (hE:∀(A':Around)(E':Value->Shared->Prop)(s:Shared)(Q':Option (Value×Nat)->Shared->Prop),s.heap.get? S=some o->Q' none s->wpAny (model prog w) A' (setNext S (sl es.size) es.size ep) Q' E' s):
  Walks prog w A it [it,S] [it] es.size (λi v=>vs[i]? = some v) (λi h=>h.get? it=some (iA (.int (sl i) 0) i S es.size ep)/\h.get? S=some o) where
 sub:=λb hb=>by simp at hb;simp[hb]
 frame:=λ_ _ _ st hk=>⟨hk it (by simp) _ st.1,hk S (by simp) _ st.2⟩
 item:=λi s Q E hi st hQ=>by
  obtain⟨x,hx⟩:∃x,vs[i]? = some x:=⟨_,vU (by omega)⟩;refine oy st.1 st.2 hd hf (λA' E' Q' q=>hN i x hx A' E' s Q' st.2 q) λh' h1 h2=>?_;exact hQ x h' s.toks hx ⟨h1,h2.extBut S _ D4 st.2⟩ λb u hb e=>h2.extBut b u (λz=>hb (by simp[z])) e
 done:=λs Q E st hQ=>o0 hh st.1 st.2 hd hf (λA' E' Q' q=>hE A' E' s Q' st.2 q) λh' h1=>hQ h' s.toks λb u hb e=>h1 b u (λz=>hb (by simp[z])) e
 self:=λ_ _ _ _ st hQ=>pG st.1 hQ
theorem rE {T:Addr}{pl:List Nat}{nt:Nat}(hh:A.handled=none)(hd:o.data=.set es ep t)(hf:t.fits es.size=true)(D4:S≠it)(L9:T≠it)(hp:pl.Perm (List.range es.size)):
  Walks prog w A it [it,S,T] [it] es.size (λi v=>(pl.map λp=>(es.getD p (0,.none)).2)[i]? = some v)
   (λi h=>h.get? it=some (iA (.ref T) i S es.size ep)/\h.get? S=some o/\h.get? T=some (seqObj "tuple" (pl.map λ(p:Nat)=>Value.int p 0).toArray nt)) where
 sub:=λb hb=>by simp at hb;simp[hb]
 frame:=λ_ _ _ st hk=>⟨hk it (by simp) _ st.1,hk S (by simp) _ st.2.1,hk T (by simp) _ st.2.2⟩
 item:=λi s Q E hi st hQ=>by
  have bp:pl.length=es.size:=by rw[hp.length_eq,List.length_range]
  obtain⟨p,hx⟩:∃p,pl[i]? = some p:=⟨_,vU (by omega)⟩;have LA:p<es.size:=List.mem_range.mp (hp.mem_iff.mp (List.mem_of_getElem? hx));have he:es[p]? = some (es.getD p (0,.none)):=by rw[Array.getD_eq_getD_getElem?,Array.getElem?_eq_getElem LA];rfl
  refine mq st.1 st.2.2 st.2.1 hd hf hx he λh' h1 h2=>?_;exact hQ _ h' s.toks (by simp[hx]) ⟨h1,h2.extBut S _ D4 st.2.1,h2.extBut T _ L9 st.2.2⟩ λb u hb e=>h2.extBut b u (λz=>hb (by simp[z])) e
 done:=λs Q E st hQ=>by
  have bp:pl.length=es.size:=by rw[hp.length_eq,List.length_range]
  exact mr hh st.1 st.2.2 st.2.1 hd hf (List.getElem?_eq_none (by omega)) λh' h1=>hQ h' s.toks λb u hb e=>h1 b u (λz=>hb (by simp[z])) e
 self:=λ_ _ _ _ st hQ=>pG st.1 hQ
end
theorem rF {α:Type}(es:Array α)(d:α):(List.range es.size).map (λp=>es.getD p d)=es.toList:=by
 apply List.ext_getElem?;intro i;by_cases h:i<es.size
 ·simp[h,Array.getD_eq_getD_getElem?]
 ·simp[h]
section
variable {prog:Program}{w:World}{A:Around}{E:Value->Shared->Prop}{s:Shared}
theorem xq {κ:Type}[DecidableEq κ]{kd:PySem.KeyKind prog w κ}{kf:Value->κ}{mk:κ->Tok->Value}(K0:KOf kd kf mk){S:Addr}{ts:List κ}{Q:Value->Shared->Prop}(hS:eV kd kf s.heap S ts)
  (hQ:∀(h':Heap)(d:Drawn)(it:Addr)(vs:List Value)(fp:List Addr)(St:Nat->Heap->Prop),(∀A',A'.handled=none->Walks prog w A' it fp [it] ts.length (λi v=>vs[i]? = some v) St)->St 0 h' ->
   (∀b u,s.heap.get? b=some u->h'.get? b=some u)->s.heap.objs.size<=it->(∀b∈fp,b=S∨s.heap.objs.size<=b)->vs.length=ts.length->(vs.map kf).Perm ts->(∀v∈vs,∃x t,v=mk x t) ->
   Q (.ref it) { s with heap:=h',drawn:=d }):wpAny (model prog w) A (pyIter (.ref S)) Q E s:=by
 obtain⟨o,es,ep,t,ho,vO,hd,yT,hp,nd,hb,hf,yC,kD⟩:=hS;have sz:es.size=ts.length:=by rw[←hp.length_eq,vH,vF]
 have Db:S<s.heap.objs.size:=vX ho;have JJ:s.TypeIs (.ref S) "set":=⟨_,ho,vO.1⟩;have yD:∀e∈es.toList,∃x t,e.2=mk x t:=λe he=>by
  obtain⟨⟨k,hk,_⟩,_⟩:=yT e he;obtain⟨t,q⟩:=K0.of hk;exact⟨k,t,q⟩
 refine wpAny_pyIter_slot JJ PySem.F.slot_set_iter (wpAny_call_entry PySem.F.slot_set_iter JJ kj ?_ (PySem.F.args_set_iter_1 _));show wpAny _ _ (Builtin.Frozenset.sizeOf S>>=_) _ _ s;unfold Builtin.Frozenset.sizeOf;refine wX (wX (wpAny_setEntries_of ho hd hf (wY ?_)));unfold setDrawn setsByText;refine wX (wX (wpAny_setState_of ho hd hf ?_));dsimp only;refine wX (wX (wpAny_askSetting (wY (wY ?_))));show wpAny _ _ (if(!w.params.followText "set-order" && (!t.plain && decide (es.size > 1)))=true then _ else _) _ _ _;have Dc:(es.toList.map (·.2)).map kf=es.toList.map (λe=>kf e.2):=by rw[List.map_map];rfl
 by_cases Bq:w.params.followText "set-order" = true
 ·rw[if_neg (by rw[Bq];simp)];refine wX (wY ?_);refine wX (wpAny_setEpoch_of ho hd hf ?_);have pp:=uA (w.params.setOrder S ep) es;have bp:((pickOrder (w.params.setOrder S ep) es).toList.map (·.2)).length=es.size:=by rw[vH,pp.length_eq,vF]
  refine wX (wpAny_newObj_type (wY ⟨_,rfl,"set_iterator",_,⟨_,vY _ rfl,rfl⟩,aM.lookup,?_⟩));refine hQ _ s.drawn s.heap.objs.size ((pickOrder (w.params.setOrder S ep) es).toList.map (·.2)) [s.heap.objs.size,S] (λi h=>h.get? s.heap.objs.size=some (iA (.int ((λ_=>0:Nat->Nat) i:Nat) 0) i S es.size ep)/\h.get? S=some o) (λA' hA=>?_) ?_ (λb u e=>vZ _ e) (vT _) (λb hb=>?_) (bp.trans sz) ?_ ?_
  ·rw[←sz];exact mV hA hd hf (vS Db) _ bp (λ_=>0) (λi x hx A' E' s Q' h1 h2=>mU h1 hd hf Bq (by
    rw[vA,Array.getElem?_toList]at hx;obtain⟨e,he,rfl⟩:=oY hx;rw[he];exact h2)) (λA' E' s Q' h1 h2=>mU h1 hd hf Bq (by
    rw[Array.getElem?_eq_none (by rw[←vF,pp.length_eq,vF];exact vT _)];exact h2))
  ·exact⟨vY _ rfl,vZ _ ho⟩
  ·simp only[List.mem_cons,List.not_mem_nil,or_false]at hb;rcases hb with rfl|rfl
   ·exact .inr (vT _)
   ·exact .inl rfl
  ·refine List.Perm.trans ?_ hp;rw[←Dc];exact(pp.map _).map _
  ·intro v hv;obtain⟨e,he,rfl⟩:=List.mem_map.mp hv;exact yD e (pp.mem_iff.mp he)
 ·rw[Bool.not_eq_true]at Bq;have hl:t.led=true:=by rw[yC,Bq];rfl
  by_cases h1:(!t.plain && decide (es.size > 1))=false
  ·rw[if_neg (by rw[h1];simp)];refine wX (wY ?_);refine wX (wpAny_setEpoch_of ho hd hf ?_);refine wX (wpAny_newObj_type (wY ⟨_,rfl,"set_iterator",_,⟨_,vY _ rfl,rfl⟩,aM.lookup,?_⟩));have F3:∀i,i<=es.size->SetTable.below t.place (if i=0 then 0 else t.place.getD (i - 1) 0+1)=i:=λi hi=>by
    by_cases h0:i=0
    ·rw[if_pos h0,r6 kD,h0]
    ·rw[if_neg h0,r0 kD (i:=i - 1) (by rw[Array.getD_eq_getD_getElem?,Array.getElem?_eq_getElem (by have:t.place.size=es.size:=by { simp only[SetTable.fits,vC,beq_iff_eq,decide_eq_true_eq]at hf;exact hf.1 };omega)];rfl)];omega
   have M8:t.place.size=es.size:=by
    simp only[SetTable.fits,vC,beq_iff_eq,decide_eq_true_eq]at hf;exact hf.1
   refine hQ _ s.drawn s.heap.objs.size (es.toList.map (·.2)) [s.heap.objs.size,S] (λi h=>h.get? s.heap.objs.size=some (iA (.int ((λi=>if i=0 then 0 else t.place.getD (i - 1) 0+1:Nat->Nat) i:Nat) 0) i S es.size ep)/\h.get? S=some o) (λA' hA=>?_) ?_ (λb u e=>vZ _ e) (vT _) (λb hb=>?_) (by rw[vH,vF,sz]) (by rw[Dc];exact hp) ?_
   ·rw[←sz];refine mV hA hd hf (vS Db) _ (by simp) (λi=>if i=0 then 0 else t.place.getD (i - 1) 0+1) (λi x hx A' E' s Q' q1 q2=>lb q1 hd hf Bq hl h1 ?_) (λA' E' s Q' q1 q2=>lb q1 hd hf Bq hl h1 ?_)
    ·rw[F3 i (by have:=(vV hx).1;simp at this;omega)];rw[vA,Array.getElem?_toList]at hx;obtain⟨e,he,rfl⟩:=oY hx;have hi:=(Array.getElem?_eq_some_iff.mp he).1;rw[he,show t.place[i]? = some (t.place.getD i 0) by rw[Array.getD_eq_getD_getElem?,Array.getElem?_eq_getElem (by omega)];rfl];exact q2
    ·rw[F3 es.size (vT _),Array.getElem?_eq_none (vT _)];exact q2
   ·exact⟨vY _ rfl,vZ _ ho⟩
   ·simp only[List.mem_cons,List.not_mem_nil,or_false]at hb;rcases hb with rfl|rfl
    ·exact .inr (vT _)
    ·exact .inl rfl
   ·intro v hv;obtain⟨e,he,rfl⟩:=List.mem_map.mp hv;exact yD e he
  ·rw[if_pos (by rw[Bq];simpa using h1)];refine wX (tt es.size (List.range es.size) _ _ (by simp) λpl d pp=>?_);refine wX (wpAny_newTuple ?_ (by rw[vH,pp.length_eq,List.length_range,sz];exact fits_of_scanBound hb));refine wX (wpAny_setEpoch_of (vZ _ ho) hd hf ?_);refine wX (wpAny_newObj_type (wY ⟨_,rfl,"set_iterator",_,⟨_,vY _ rfl,rfl⟩,aM.lookup,?_⟩));have hsz:(s.heap.push (seqObj "tuple" (pl.map λ(p:Nat)=>Value.int p 0).toArray 0)).objs.size=s.heap.objs.size+1:=size_push' _ _;have fJ:((pl.map λp=>(es.getD p (0,.none)).2)).Perm (es.toList.map (·.2)):=by
    have:=(pp.map λp=>es.getD p (0,Value.none)).map (·.2);rw[rF]at this;rw[List.map_map]at this;exact this
   refine hQ _ d _ (pl.map λp=>(es.getD p (0,.none)).2) [(s.heap.push (seqObj "tuple" (pl.map λ(p:Nat)=>Value.int p 0).toArray 0)).objs.size,S,s.heap.objs.size] (λi h=>h.get? (s.heap.push (seqObj "tuple" (pl.map λ(p:Nat)=>Value.int p 0).toArray 0)).objs.size=some (iA (.ref s.heap.objs.size) i S es.size ep)/\h.get? S=some o/\h.get? s.heap.objs.size=some (seqObj "tuple" (pl.map λ(p:Nat)=>Value.int p 0).toArray 0)) (λA' hA=>?_) ?_ (λb u e=>vZ _ (vZ _ e)) ?_ (λb hb=>?_) ?_ ?_ ?_
   ·rw[←sz];exact rE (nt:=0) hA hd hf (by show S≠(s.heap.push _).objs.size;rw[size_push'];exact vS (Nat.lt_succ_of_lt Db)) (by show s.heap.objs.size≠(s.heap.push _).objs.size;rw[size_push'];exact vS (Nat.lt_succ_self _)) pp
   ·exact⟨vY _ rfl,vZ _ (vZ _ ho),vZ _ (vY _ rfl)⟩
   ·show s.heap.objs.size<=(s.heap.push _).objs.size;rw[size_push'];omega
   ·simp only[List.mem_cons,List.not_mem_nil,or_false]at hb;rcases hb with rfl|rfl|rfl
    ·refine .inr ?_;show s.heap.objs.size<=(s.heap.push _).objs.size;rw[size_push'];omega
    ·exact .inl rfl
    ·exact .inr (vT _)
   ·rw[fJ.length_eq,vH,vF,sz]
   ·exact((fJ.map kf).trans (by rw[Dc])).trans hp
   ·intro v hv;obtain⟨e,he,rfl⟩:=List.mem_map.mp (fJ.mem_iff.mp hv);exact yD e he
end
theorem uB (h:ItemsOf (λi v=>vs[i]? = some v) acc vs.length):acc.toList=vs:=by
 apply List.ext_getElem?;intro i;by_cases hi:i<acc.size
 ·have e:acc[i]? = some acc[i]:=Array.getElem?_eq_getElem hi;rw[Array.getElem?_toList,e,h.2 i _ e]
 ·rw[List.getElem?_eq_none (by rw[vF];omega),List.getElem?_eq_none (by rw[←h.1];omega)]
section
variable {prog:Program}{w:World}{A:Around}{E:Value->Shared->Prop}{s:Shared}{κ:Type}[DecidableEq κ] {kd:PySem.KeyKind prog w κ}{kf:Value->κ}{mk:κ->Tok->Value}
theorem pH (K0:KOf kd kf mk)(hh:A.handled=none)(hS:eV kd kf s.heap S ts)
  (hQ:∀s' vs,(∀b u,s.heap.get? b=some u->s'.heap.get? b=some u)->s'.gens=s.gens->s'.os=s.os->vs.length=ts.length->(vs.map kf).Perm ts->(∀v∈vs,∃x t,v=mk x t)->Q vs s'):
  wpAny (model prog w) A (collect (.ref S)) Q E s:=by
 have yR:∀(s1:Shared),eV kd kf s1.heap S ts->s1.TypeIs (.ref S) "set":=λs1 h=>by
  obtain⟨o,_,_,_,ho,vO,_⟩:=h;exact⟨o,ho,vO.1⟩
 have eM:S<s.heap.objs.size:=by obtain⟨o,_,_,_,ho,_⟩:=hS;exact vX ho
 have F4:ts.length<scanBound:=by obtain⟨_,_,_,_,_,_,_,_,_,_,h,_⟩:=hS;exact h
 unfold collect;refine wX (wpAny_runValue (codeAny_builtin PySem.F.entry_proto_collect ?_));rw[Around.under_plainId PySem.F.plain_proto_collect _];show wpAny _ A.in1 (newList []>>=λl=>again (.builtin "list.__iadd__" ⟨[l,.ref S],[]⟩)) _ _ s;refine wX (wpAny_newObj_type ?_);refine wY ⟨plainId_quiet PySem.F.plain_list_iadd _,codeAny_builtin PySem.F.entry_list_iadd ?_⟩;rw[Around.under_plainId PySem.F.plain_list_iadd _];show wpAny _ A.in1 (Builtin.List.listExtendWith (.ref s.heap.objs.size) (.ref S) (.ref s.heap.objs.size)) _ _ _;unfold Builtin.List.listExtendWith;have Ii:eV kd kf (s.heap.push { cls:=.type "list",data:=.seq ([]:List Value).toArray }) S ts:=hS.at λo e=>vZ _ e;refine wX (wpAny_typeOf (yR _ Ii) ?_);have JK:s.heap.objs.size≠S:=Nat.ne_of_gt eM;have h1:Builtin.List.listSameRef (.ref s.heap.objs.size) (.ref S)=false:=by simp[Builtin.List.listSameRef,JK]
 have h2:(Value.type "set" == Value.type "list")=false:=by decide
 have h3:(Value.type "set" == Value.type "tuple")=false:=by decide
 simp only[h1,h2,h3,Bool.or_false,uV,if_false];refine wX (xq K0 (s:={ s with heap:=s.heap.push { cls:=.type "list",data:=.seq ([]:List Value).toArray } }) Ii λh' d it vs fp St W nM hk Gw hfp CP fJ y9=>?_);have Bo:eV kd kf h' S ts:=Ii.at λo e=>hk _ _ e;refine wX (wpAny_holding ?_);unfold Builtin.List.listLengthHint;refine wX (wpAny_specialOf (yR _ Bo) PySem.F.slot_set_len.lookup ?_);wp_delta;refine wX (wpAny_isInstance (yR _ Bo) sub_set_self ?_);show wpAny _ A.in1 (typeOf (Value.ref S)>>=_) _ _ _;refine wX (wpAny_typeOf (yR _ Bo) ?_);refine wY ?_;rw[if_pos (by decide)];refine wX (wpAny_rule ?_);refine wX ?_;have F5:(s.heap.push { cls:=.type "list",data:=.seq ([]:List Value).toArray }).objs.size=s.heap.objs.size+1:=size_push' _ _;have JL:h'.get? s.heap.objs.size=some { cls:=.type "list",data:=.seq ([]:List Value).toArray }:=hk _ _ (vY _ rfl);show wpAny _ A.in1 (updateSeq s.heap.objs.size (·.push .none)>>=λ_=>updateSeq s.heap.objs.size (·.pop)) _ _ _;refine wX (wpAny_updateSeq JL rfl ?_);have JM:=Heap.get?_update_self (Obj.mapSeq (·.push Value.none)) JL rfl;refine wpAny_updateSeq JM rfl ?_;have LB:=Heap.get?_update_self (Obj.mapSeq (·.pop)) JM rfl;have ub:s.heap.objs.size∉fp:=λhm=>by
  rcases hfp _ hm with z|z
  ·exact JK z
  ·rw[F5]at z;exact absurd z (Nat.not_succ_le_self _)
 have JN:∀b u,b≠s.heap.objs.size->h'.get? b=some u ->
   ((h'.update s.heap.objs.size (Obj.mapSeq (·.push Value.none))).update s.heap.objs.size (Obj.mapSeq (·.pop))).get? b=some u :=
  λb u hb e=>(Heap.get?_update_other _ _ (Ne.symm hb)).trans ((Heap.get?_update_other _ _ (Ne.symm hb)).trans e)
 have W0:=W A.in1 hh;refine wY ⟨plainId_quiet PySem.F.plain_extend_loop _,codeAny_extend_loopS W0.toS (fits_of_scanBound F4) _ ub _ ts.length 0 _ _ _ rfl (uN _)
  (W0.frame 0 _ _ nM λb hb u e=>JN b u (λz=>ub (z ▸ hb)) e) LB (ItemsOf.nil _) λs' acc' c' hm hL' hacc=>?_⟩
 show wpAny _ A (load s.heap.objs.size>>=_) _ _ s';refine wX (wpAny_load hL' ?_);rw[←CP]at hacc;refine wY ?_;show Q acc'.toList s';rw[uB hacc];refine hQ s' vs (λb u e=>hm.heap b u (λhb=>?_) (JN b u (vS (vX e)) (hk _ _ (vZ _ e)))) hm.gens hm.os CP fJ y9;have hl:=vX e;simp only[List.mem_cons,List.not_mem_nil,or_false]at hb;rcases hb with rfl|rfl
 ·exact absurd hl (Nat.lt_irrefl _)
 ·rw[F5]at Gw;exact absurd (vQ hl (Nat.le_of_succ_le Gw)) (Nat.lt_irrefl _)
def pI (prog:Program)(w:World)(kf:Value->κ)(mk:κ->Tok->Value)(bd:Nat)(R:List κ->List Value->Prop):Prop:=∀ {E:Value->Shared->Prop}{ts:List κ}{vs:List Value}{A:Around}{s:Shared}{a:Addr}{P},(∀v∈vs,∃x t,v=mk x t)->(vs.map kf).Perm ts->vs.length<bd ->
 s.heap.get? a=some (seqObj "list" vs.toArray 0)->(∀out:Array Value,R ts out.toList->P (.done (.ret .none)) { s with heap:=sortedHeap s.heap a vs out })->wpAny (model prog w) A (Builtin.«list.sort» ⟨[.ref a],[]⟩) P E s
theorem rG (K0:KOf kd kf mk)(so:pI prog w kf mk bd R)(tZ:bd<=4000)(hh:A.handled=none)(hS:eV kd kf s.heap S ts)(vw:ts.length<bd)
  (hQ:∀(s1:Shared)(h':Heap)(a:Addr)(out:Array Value)(n:Nat),(∀b u,s.heap.get? b=some u->s1.heap.get? b=some u)->s1.os=s.os->s1.gens=s.gens->(∀b u,s1.heap.get? b=some u->h'.get? b=some u)->s1.heap.objs.size<=a->h'.get? a=some (seqObj "list" out n) ->
   R ts out.toList->Q (.ref a) { s1 with heap:=h' }):
  wpAny (model prog w) A (call (.builtin "sorted") [.ref S]) Q E s:=by
 refine Calls.call_function_entry kind_sorted plain_sorted entry_sorted (args_sorted1 _) ?_;unfold Builtin.«sorted»;refine wX (m:=checkCount "sorted" 1 1 _) (wY ?_);refine wX (pH K0 (A:=A.in1) (by exact hh) hS λs1 vs hk hg A1 CP fJ y9=>?_);refine wX (wpAny_newList ?_ (by rw[CP,sizeLine_eq];omega));have ES:(s1.heap.push (seqObj "list" vs.toArray 0)).get? s1.heap.objs.size=some (seqObj "list" vs.toArray 0):=vY _ rfl;show wpAny _ _ _ _ _ { s1 with heap:=s1.heap.push (seqObj "list" vs.toArray 0) };refine wX (wpAny_holding (wpAny_call_entry slot_list_sort ⟨_,ES,rfl⟩ entry_list_sort (so y9 fJ (by rw[CP];exact vw) ES λout hr=>⟨_,rfl,?_⟩) (args_list_sort _)));obtain⟨e,he⟩:=sortedHeap_at (out:=out) ES;refine wY ⟨_,rfl,hQ s1 _ _ _ e hk A1 hg (λb u q=>?_) (vT _) he hr⟩;have hl:=vX q;rw[sortedHeap_old (vS hl) (by rw[size_push'];exact Nat.lt_succ_of_lt hl)];exact vZ _ q
end
end DL
namespace DL
open PySem PySem.Spec PyProof.Rows L2
def o5 (a b:Str):Prop:=¬b.cps.toList<a.cps.toList
theorem tw:ltCps b.cps.toList a.cps.toList=false↔o5 a b:=by rw[ltCps_eq,decide_eq_false_iff_not];rfl
theorem mW (h:o5 a b)(k:o5 b c):o5 a c:=by
 unfold o5 at *;exact List.not_lt.mpr (List.le_trans (List.not_lt.mp h) (List.not_lt.mp k))
theorem xr (h:o5 a b)(k:o5 b a):a=b:=by
 have e:a.cps.toList=b.cps.toList:=List.le_antisymm (List.not_lt.mp h) (List.not_lt.mp k);obtain⟨a⟩:=a;obtain⟨b⟩:=b;have:a=b:=Array.toList_inj.mp e;rw[this]
noncomputable def rH (x:Str):List Str->List Str
 |[]=>[x]
 |y::r=>if ltCps y.cps.toList x.cps.toList then y::rH x r else x::y::r
noncomputable def iZ (l:List Str):List Str:=l.foldr rH []
theorem jA (x:Str):∀l,(rH x l).Perm (x::l)
 |[]=>List.Perm.refl _
 |y::r=>by
  unfold rH;split
  ·exact((jA x r).cons y).trans (List.Perm.swap x y r)
  ·exact List.Perm.refl _
theorem ej:∀l,(iZ l).Perm l
 |[]=>List.Perm.refl _
 |x::l=>(jA x (iZ l)).trans ((ej l).cons x)
theorem nc (x:Str):∀l,l.Pairwise o5->(rH x l).Pairwise o5
 |[],_=>by simp[rH]
 |y::r,h=>by
  obtain⟨h1,h2⟩:=List.pairwise_cons.mp h;unfold rH;split
  ·rename_i hl;refine List.pairwise_cons.mpr ⟨λz hz=>?_,nc x r h2⟩;rcases vP ((jA x r).mem_iff.mp hz)with rfl|hz
   ·rw[ltCps_eq,decide_eq_true_eq]at hl;exact λk=>List.lt_irrefl _ (List.lt_trans hl k)
   ·exact h1 z hz
  ·rename_i hl;rw[Bool.not_eq_true]at hl;have D6:o5 x y:=tw.mp hl;refine List.pairwise_cons.mpr ⟨λz hz=>?_,h⟩;rcases vP hz with rfl|hz
   ·exact D6
   ·exact mW D6 (h1 z hz)
theorem lf:∀l,(iZ l).Pairwise o5
 |[]=>List.Pairwise.nil
 |x::l=>nc x _ (lf l)
theorem jM:∀(l:List Str)(p:Str),risingS p l=true->(p::l).Pairwise o5
 |[],p,_=>List.pairwise_singleton _ _
 |x::r,p,h=>by
  have h':(!ltCps x.cps.toList p.cps.toList && risingS x r)=true:=h;rw[vC]at h';have JP:o5 p x:=tw.mp (by simpa using h'.1);have ih:=jM r x h'.2;refine List.pairwise_cons.mpr ⟨λz hz=>?_,ih⟩;rcases vP hz with rfl|hz
  ·exact JP
  ·exact mW JP ((List.pairwise_cons.mp ih).1 z hz)
theorem pJ:∀(l:List Str),sortedS l=true->l.Pairwise o5
 |[],_=>List.Pairwise.nil
 |x::r,h=>jM r x h
theorem pK (a:Str):o5 a a:=List.lt_irrefl _
theorem lg:∀(l1 l2:List Str),l1.Perm l2->l1.Pairwise o5->l2.Pairwise o5->l1=l2
 |[],l2,p,_,_=>(List.nil_perm.mp p).symm
 |x::r1,[],p,_,_=>absurd p.length_eq (by simp)
 |x::r1,y::r2,p,h1,h2=>by
  have D6:o5 x y:=by
   rcases vP (p.mem_iff.mpr (mX ..))with z|z
   ·rw[z];exact pK _
   ·exact(List.pairwise_cons.mp h1).1 y z
  have Ij:o5 y x:=by
   rcases vP (p.mem_iff.mp (mX ..))with z|z
   ·rw[z];exact pK _
   ·exact(List.pairwise_cons.mp h2).1 x z
  have e:=xr D6 Ij;subst e;rw[lg r1 r2 (List.Perm.cons_inv p) (List.pairwise_cons.mp h1).2 (List.pairwise_cons.mp h2).2]
theorem uC (p:l'.Perm l)(h:sortedS l'=true):l'=iZ l:=lg _ _ (p.trans (ej l).symm) (pJ _ h) (lf l)
section
variable {X:Cx}
noncomputable def pL {prog:Program}{w:World}{κ:Type}[DecidableEq κ](kd:PySem.KeyKind prog w κ)(kf:Value->κ)(S:Addr)(ts:List κ):HO:=.ext λh=>eV kd kf h S ts
theorem uD (I:Inv X aa σ H s)(k:∀b u,s.heap.get? b=some u->s1.heap.get? b=some u)(ho:s1.os=s.os)(hg:s1.gens=s.gens):Inv X aa σ H s1:=by
 have I1:=I.step (g':=s.gens) (d':=s1.drawn) (t':=s1.toks) (h':=s1.heap) (H':=H) (ch:=[]) (λ_ z=>nomatch z) (λb o _ _ _ e _=>k b o e) (λb o _ _ _ e _=>⟨o.slots,k b o e⟩) (λ_ _ _ _ n=>n)
  (λb o _ e=>⟨o,k b o e⟩) (λ_ _ e=>e) (λ_ _ _ e=>e) (λ_ _ e=>e) (λm hm=>?_) (I.hok.kept k) I.bare
 ·obtain⟨h1,g1,d1,t1,o1⟩:=s1;cases ho;cases hg
  exact I1
 ·obtain⟨o,es,ep,ho,r⟩:=hm;exact⟨o,es,ep,k _ o ho,r⟩
variable {κ:Type}[DecidableEq κ] {kd:PySem.KeyKind X.prog X.w κ}{kf:Value->κ}{mk:κ->Tok->Value}{sf:List κ->List κ}{mv:κ->V}
def xu (mk:κ->Tok->Value)(its:List Value)(ss:List κ):Prop:=its.length=ss.length/\∀(i:Nat)(v:Value),its[i]? = some v->∃x t,v=mk x t/\ss[i]? = some x
theorem jN (K0:KOf kd kf mk)(hc:X.calm=true):b7 X (.type "set") (λxs H Q=>∃p ys ss,xs=[.ref p]/\eN X.K H p ys/\(∀its,a9 ys its->xu mk its ss)/\ss.length<4000/\∀S,H S=none->Q (.ref S) (upd H S (pL kd kf S (cu ss)))):=by
 intro aa s σ H xs us Q I r h;obtain⟨p,ys,ss,rfl,hq,hs,vw,q⟩:=h;obtain⟨u,rfl,rx⟩:=iL r;cases rx
 obtain⟨its,r',pl,hz⟩:=I.list hq;obtain⟨bp,nM⟩:=hs its r';refine mn K0 (I.ok.hd hc) pl.isList (by simpa using nM) (by simp[bp]) (by simp only[vG];unfold scanBound;omega) λh' tk hS hk=>?_;refine⟨.ref s.heap.objs.size,_,I.laid (t':=tk) (λb u e=>hk b u (vX e) e) (vT _) ?_,rfl,q _ (I.hok.fresh (vT _))⟩;refine⟨hS,?_,λh1 h2 z k=>z.at k⟩;obtain⟨o,_,_,_,ho,_⟩:=hS;exact⟨o,ho⟩
theorem kl (K0:KOf kd kf mk)(so:pI X.prog X.w kf mk bd λts=>a9 ((sf ts).map mv))(sl:∀ts,(sf ts).length=ts.length)(tZ:bd<=4000)(hc:X.calm=true):b7 X (.builtin "sorted") (λxs H Q=>∃S ts,xs=[.ref S]/\H S=some (pL kd kf S ts)/\ts.length<bd/\∀l,H l=none->Q (.ref l) (upd H l (.lst ((sf ts).map mv)))):=by
 intro aa s σ H xs us Q I r h;obtain⟨S,ts,rfl,hS,vw,q⟩:=h;obtain⟨u,rfl,rx⟩:=iL r;cases rx
 refine rG K0 so tZ (I.ok.hd hc) (I.hok S _ hS).1 vw λs1 h' a out n k1 ho hg k2 hp he hv=>?_;have I1:=uD I k1 ho hg;refine⟨.ref a,_,I1.laid (t':=s1.toks) k2 hp (show bC X.prog X.w _ h' _ (.lst _)from ⟨?_,out.toList,n,hv,he⟩),rfl,q _ (I1.hok.fresh hp)⟩;rw[vH,sl,sizeLine_eq];omega
end
theorem IU {prog:Program}{w:World}:KOf (PySem.strKind prog w) strOf .str:=⟨strKind_is prog w,λh=>Value.isStrOf_shape h,λ_ _=>rfl,λ_ _=>rfl⟩
theorem ng:∀ {its:List Value}{zs:List Str},StrsAre its zs->a9 (zs.map V.str) its
 |_,_,.nil=>.nil
 |_,_,.cons x t r=>.cons ⟨t,rfl⟩ (ng r)
theorem Kz {prog:Program}{w:World}:pI prog w strOf .str 64 λts=>a9 ((iZ ts).map V.str):=λh1 h2 h3 ho h=>by
 have nM:=strsAre_map _ h1;refine list_sort_treeK strKind_oneLt ho nM.keysOf (λv₁ v₂ rest e=>keyKind_strs (by rw[←e];exact nM)) h3 λa7 a1 a2=>?_;obtain⟨Ik,b1,b2,b3⟩:=sorted_out_str nM a1 a2;have e:=uC (b2.trans h2) b3;subst e;exact h _ (ng b1)
theorem uE (ts:List Str):(iZ ts).length=ts.length:=(ej ts).length_eq
theorem StrsAre.keys (h:StrsAre its ss):xu .str its ss:=⟨by rw[←h.strs,vH],StrsAre.at h⟩
@[simp] def lh:D->OB
 |.lst ds=>(eK ds).bind λss=>if ss.length<64 then some (.lst ((iZ (cu ss)).map .str),true)else none
 |_=>none
@[simp] def ja:D->OB
 |.lst ds=>(eK ds).bind λss=>if ss.length<4000 then some (.int ((cu ss).length:Nat),false)else none
 |_=>none
theorem xw:bootBuiltins "sorted" = some (.builtin "sorted"):=by decide +kernel
theorem AX:bootBuiltins "set" = some (.type "set"):=by decide +kernel
theorem pM {K:Frag}{N:Hp}:∀(zs:List Str),IsL K N (zs.map V.str) (zs.map D.str)
 |[]=>.nil
 |z::zs=>.cons (.str z) (pM zs)
@[simp] def pN {κ:Type}[DecidableEq κ](ef:List D->Option (List κ))(sf:List κ->List κ)(md:κ->D)(bd:Nat):D->OB
 |.lst ds=>(ef ds).bind λss=>if ss.length<bd then some (.lst ((sf (cu ss)).map md),true)else none
 |_=>none
section
variable {X:Cx}{e:Expr}{pos pos2 p p2:Pos}{κ:Type}[DecidableEq κ] {kd:PySem.KeyKind X.prog X.w κ}{kf:Value->κ}{mk:κ->Tok->Value}{sf:List κ->List κ}{mv:κ->V}{md:κ->D}{ef:List D->Option (List κ)}
theorem pO (K0:KOf kd kf mk)(so:pI X.prog X.w kf mk bd λts=>a9 ((sf ts).map mv))(sl:∀ts,(sf ts).length=ts.length)(im:∀ {N:Hp}(zs:List κ),IsL X.K N (zs.map mv) (zs.map md))(ka:∀ {B ys ds its ss},a9 ys its->IsL X.K B ys ds->ef ds=some ss->xu mk its ss)
  (tZ:bd<=4000) (hc:X.calm=true) (m1:X.mg "sorted" = none) (m2:X.mg "set" = none) (he:JE X e f) (g1:Gl X "sorted":=by rfl) (g2:Gl X "set":=by rfl)
  (h1:starEach [e] X.env=(false,eval e X.env)::starEach [] X.env:=by rfl):JE X (.Call (.Name "sorted" p) [.Call (.Name "set" p2) [e] [] pos2] [] pos) (f1 (pN ef sf md bd) f):=by
 refine PE.to (kI (kl K0 so sl tZ hc) g1 m1 xw (dD (j6 (jN K0 hc) g2 m2 AX (dD he fN h1) (he:=h1)) fN)) λσ H Q q=>?_;obtain⟨B,ρ,d',bb,sB,r,ee,q⟩:=q;obtain⟨x1,ex,ee⟩:=oX ee;refine⟨B,ρ,x1.1,x1.2,sB,r,ex,λv H1 N1 xt i1 fr=>?_⟩;obtain⟨xd,xb⟩:=x1;cases i1<;>try (simp[pN]at ee;done)
 rename_i l0 vs ds h hl;simp only[pN]at ee;obtain⟨ss,ez,ee⟩:=oX ee;split at ee
 ·rename_i vw;cases ee
  refine⟨_,_,ss,rfl,xt.nh.seq h,λits r'=>ka r' hl ez,by omega,λS hS=>⟨S,_,rfl,au,Nat.lt_of_le_of_lt (iX ss) vw,λl yS=>?_⟩⟩;have x2:=Ext.laid (o:=pL kd kf S (cu ss)) xt.nh hS;have x3:=Ext.laid (o:=.lst ((sf (cu ss)).map mv)) x2.nh yS;have Gx:H l=none:=((xt.trans x2).hh).free yS;exact q _ _ _ ((xt.trans x2).trans x3) (.lst (eN.of au) (im _)) λ_=>⟨_,_,_,rfl,rfl,Gx,au,im _⟩
 ·cases ee
theorem rJ (hc:X.calm=true)(m1:X.mg "sorted" = none)(m2:X.mg "set" = none)(he:JE X e f)(g1:Gl X "sorted":=by rfl)(g2:Gl X "set":=by rfl)
  (h1:starEach [e] X.env=(false,eval e X.env)::starEach [] X.env:=by rfl):JE X (.Call (.Name "sorted" p) [.Call (.Name "set" p2) [e] [] pos2] [] pos) (f1 lh f):=by
 rw[show lh=pN eK iZ .str 64 from funext λd=>by cases d<;>rfl]
 exact pO IU Kz uE pM (λr' hl ez=>StrsAre.keys (fz r' hl ez)) (by decide) hc m1 m2 he g1 g2 h1
end
end DL
namespace DL
open PySem PySem.Spec PySem.W PyProof.Rows
inductive Run (n:Nat)(lt:Nat->Nat->Bool){α:Type}:KasT α->α->Prop where
 |ret (a:α):Run n lt (.ret a) a
 |ask {i j:Nat}{k:Bool->KasT α}{a:α}(hi:i<n) (hj:j<n) (h:Run n lt (k (lt i j)) a):Run n lt (.ask i j k) a
theorem Run.bind {n:Nat}{lt:Nat->Nat->Bool}{α β:Type}{t:KasT α}{f:α->KasT β}{a:α}{b:β}(h:Run n lt t a)(k:Run n lt (f a) b):Run n lt (t.bind f) b:=by
 induction h with
 |ret a=>exact k
 |ask hi hj _ ih=>exact .ask hi hj (ih k)
section
variable {n:Nat}{rk:Nat->Int}
structure Arr (n:Nat)(p:Array Nat):Prop where
 size:p.size=n
 perm:p.toList.Perm (List.range n)
theorem Arr.lt {p:Array Nat}(h:Arr n p){k:Nat}(hk:k<n):p.getD k 0<n:=by
 have Bp:k<p.size:=by rw[h.size];exact hk
 have:p.getD k 0=p[k]:=by rw[Array.getD_eq_getD_getElem?,Array.getElem?_eq_getElem Bp];rfl
 rw[this];exact List.mem_range.mp (h.perm.mem_iff.mp (by simp))
end
theorem uF {a b c:List Int}(h:a<b)(k:b<c):a<c:=List.lt_trans h k
theorem uG {a b c:List Int}(h:¬b<a)(k:¬c<b):¬c<a:=List.not_lt.mpr (List.le_trans (List.not_lt.mp h) (List.not_lt.mp k))
theorem xy {a b:List Int}(h:¬b<a)(k:¬a<b):a=b:=List.le_antisymm (List.not_lt.mp h) (List.not_lt.mp k)
section
variable {α:Type}(f:α->List Int)
def zY (a b:α):Prop:=¬f b<f a
noncomputable def rK (x:α):List α->List α
 |[]=>[x]
 |y::r=>if f y<f x then y::rK x r else x::y::r
noncomputable def ni (l:List α):List α:=l.foldr (rK f) []
theorem jB (x:α):∀l,(rK f x l).Perm (x::l)
 |[]=>List.Perm.refl _
 |y::r=>by
  unfold rK;split
  ·exact((jB x r).cons y).trans (List.Perm.swap x y r)
  ·exact List.Perm.refl _
theorem fY:∀l,(ni f l).Perm l
 |[]=>List.Perm.refl _
 |x::l=>(jB f x (ni f l)).trans ((fY l).cons x)
theorem nj (x:α):∀l,l.Pairwise (zY f)->(rK f x l).Pairwise (zY f)
 |[],_=>by simp[rK]
 |y::r,h=>by
  obtain⟨h1,h2⟩:=List.pairwise_cons.mp h;unfold rK;split
  ·rename_i hl;refine List.pairwise_cons.mpr ⟨λz hz=>?_,nj x r h2⟩;rcases vP ((jB f x r).mem_iff.mp hz)with rfl|hz
   ·exact λk=>List.lt_irrefl _ (uF hl k)
   ·exact h1 z hz
  ·rename_i hl;refine List.pairwise_cons.mpr ⟨λz hz=>?_,h⟩;rcases vP hz with rfl|hz
   ·exact hl
   ·exact uG hl (h1 z hz)
theorem li:∀l,(ni f l).Pairwise (zY f)
 |[]=>List.Pairwise.nil
 |x::l=>nj f x _ (li l)
theorem nk:∀(l1 l2:List α),(∀x∈l1,∀y∈l1,f x=f y->x=y)->l1.Perm l2->l1.Pairwise (zY f)->l2.Pairwise (zY f)->l1=l2
 |[],l2,_,p,_,_=>(List.nil_perm.mp p).symm
 |x::r1,[],_,p,_,_=>absurd p.length_eq (by simp)
 |x::r1,y::r2,hi,p,h1,h2=>by
  have hy:y∈x::r1:=p.mem_iff.mpr (mX ..);have D6:zY f x y:=by
   rcases vP hy with z|z
   ·rw[z];exact List.lt_irrefl _
   ·exact(List.pairwise_cons.mp h1).1 y z
  have Ij:zY f y x:=by
   rcases vP (p.mem_iff.mp (mX ..))with z|z
   ·rw[z];exact List.lt_irrefl _
   ·exact(List.pairwise_cons.mp h2).1 x z
  have e:x=y:=hi x (mX ..) y hy (xy D6 Ij);subst e;rw[nk r1 r2 (λa ha b hb=>hi a (mZ _ ha) b (mZ _ hb)) (List.Perm.cons_inv p) (List.pairwise_cons.mp h1).2 (List.pairwise_cons.mp h2).2]
theorem xz (hi:∀x∈l,∀y∈l,f x=f y->x=y)(p:l'.Perm l)(h:l'.Pairwise (zY f)):l'=ni f l :=
 nk f _ _ (λx hx y hy=>hi x (p.mem_iff.mp hx) y (p.mem_iff.mp hy)) (p.trans (fY f l).symm) h (li f l)
end
inductive At where
 |i (n:Int)
 |s (z:Str)
noncomputable def K1:At->List Int
 |.i n=>[n]
 |.s z=>z.cps.toList.map (λ(c:Nat)=>(c:Int)+1)++[0]
noncomputable def E6 (xs:List At):List Int:=xs.flatMap K1
noncomputable def C6:List At->List At->Option Bool
 |[],ys=>some (!ys.isEmpty)
 |_::_,[]=>some false
 |.i a::xs,.i b::ys=>if a=b then C6 xs ys else some (decide (a<b))
 |.s a::xs,.s b::ys=>if a=b then C6 xs ys else some (decide (a.cps.toList<b.cps.toList))
 |_::_,_::_=>none
noncomputable def E7 (ks:List (List At)):Bool:=ks.all λx=>ks.all λy=>(C6 x y).isSome
def K2:At->Value->Prop
 |.i n,v=>∃t,v=.int n t
 |.s z,v=>∃t,v=.str z t
def E8 (h:Heap)(xs:List At)(v:Value):Prop:=∃a o its n,v=.ref a/\h.get? a=some o/\o.cls=.type "tuple"/\o.data=.seq its n/\Paired K2 xs its.toList
noncomputable def x0 (ks:List (List At)):Bool:=ks.all (λx=>match x with|.i _::_=>true|_=>false) || ks.all (λx=>match x with|.s _::_=>true|_=>false)
end DL
namespace DL
open PySem PySem.Spec PySem.W PyProof.Rows L2
noncomputable def E9:D->Option At
 |.int n=>some (.i n)
 |.str z=>some (.s z)
 |_=>none
def rL:List D->Option (List At)
 |[]=>some []
 |d::ds=>(E9 d).bind λa=>(rL ds).map (a :: ·)
def GZ:D->Option (List At)
 |.tup es=>rL es
 |_=>none
def AY:List D->Option (List (List At))
 |[]=>some []
 |d::ds=>(GZ d).bind λa=>(AY ds).map (a :: ·)
noncomputable def jO:List D->Option (List Int)
 |[]=>some []
 |.int n::ds=>(jO ds).map (n :: ·)
 |_::_=>none
def gz (ns:List Int):List Int:=ni (λn=>[n]) ns
section
variable {X:Cx}
theorem tx {K:Frag}{B:Hp}:∀ {vs:List V}{ds:List D}{ns:List Int}{its:List Value},a9 vs its->IsL K B vs ds->jO ds=some ns->IntsAre its ns
 |_,_,_,_,.nil,.nil,h=>by simp only[jO]at h;cases h;exact .nil
 |_,_,_,_,.cons r rr,.cons i ii,h=>by
  cases i<;>simp only[jO]at h<;>try (cases h;done)
  obtain⟨t,h2,h⟩:=oY h;subst h;obtain⟨u,rfl⟩:=r;exact .cons _ u (tx rr ii h2)
theorem fj:∀ {its:List Value}{zs:List Int},IntsAre its zs->a9 (zs.map V.int) its
 |_,_,.nil=>.nil
 |_,_,.cons x t r=>.cons ⟨t,rfl⟩ (fj r)
theorem pP {K:Frag}{N:Hp}:∀(zs:List Int),IsL K N (zs.map V.int) (zs.map D.int)
 |[]=>.nil
 |z::zs=>.cons (.int z) (pP zs)
theorem xA (p:l'.Perm l)(h:l'.Pairwise (·<=·)):l'=gz l:=by
 refine xz _ (λx _ y _ e=>by injection e) p (h.imp λ{a b} hab=>?_);unfold zY;intro z;rw[List.cons_lt_cons_iff]at z;rcases z with z|⟨_,z⟩
 ·omega
 ·exact List.lt_irrefl _ z
end
end DL
namespace DL
open PySem PySem.Spec PyProof.Rows L2
section
variable {X:Cx}{e:Expr}{pos pos2 p p2:Pos}
theorem mw:b7 X (.builtin "len") (λxs H Q=>∃S ts,xs=[.ref S]/\H S=some (pL (PySem.strKind X.prog X.w) strOf S ts)/\Q (.int (ts.length:Nat)) H):=by
 intro aa s σ H xs us Q I r h;obtain⟨S,ts,rfl,hS,q⟩:=h;obtain⟨u,rfl,rx⟩:=iL r;cases rx
 have hT:eV (PySem.strKind X.prog X.w) strOf s.heap S ts:=(I.hok S _ hS).1;obtain⟨o,es,ep,t,ho,vO,hd,yT,hp,nd,hb,hf,_⟩:=hT;have sz:es.size=ts.length:=by rw[←hp.length_eq,vH,vF]
 have JQ:ts.length<4096:=hb;exact PySem.call_len_set ho vO hd hf (by rw[sz];omega) ⟨.int (ts.length:Nat),H,I.tok _,⟨_,by rw[sz]⟩,q⟩
theorem uH (hc:X.calm=true)(m1:X.mg "len" = none)(m2:X.mg "set" = none)(he:JE X e f)(g1:Gl X "len":=by rfl)(g2:Gl X "set":=by rfl)
  (h1:starEach [e] X.env=(false,eval e X.env)::starEach [] X.env:=by rfl):JE X (.Call (.Name "len" p) [.Call (.Name "set" p2) [e] [] pos2] [] pos) (f1 ja f):=by
 refine PE.to (kI mw g1 m1 cY (dD (j6 (jN IU hc) g2 m2 AX (dD he fN h1) (he:=h1)) fN)) λσ H Q q=>?_;obtain⟨B,ρ,d',bb,sB,r,ee,q⟩:=q;obtain⟨x1,ex,ee⟩:=oX ee;refine⟨B,ρ,x1.1,x1.2,sB,r,ex,λv H1 N1 xt i1 fr=>?_⟩;obtain⟨xd,xb⟩:=x1;cases i1<;>try (simp[ja]at ee;done)
 rename_i l0 vs ds h hl;simp only[ja]at ee;obtain⟨ss,ez,ee⟩:=oX ee;split at ee
 ·rename_i vw;cases ee
  refine⟨_,_,ss,rfl,xt.nh.seq h,λits r'=>StrsAre.keys (fz r' hl ez),vw,λS hS=>⟨S,_,rfl,au,?_⟩⟩;have x2:=Ext.laid (o:=pL (PySem.strKind X.prog X.w) strOf S (cu ss)) xt.nh hS;exact(q.into (xt.trans x2)).one (xt.trans x2).nh (.int _)
 ·cases ee
end
section
variable {X:Cx}{a:Expr}{pos:Pos}{x:Str}{p:Pos}{d:Addr}{aZ:List (Str×D)}
theorem uJ (cd:iW X.K X.w.params d aZ):bW X (compareOp .NotIn) (λx y H Q=>∃z,x=.str z/\y=.ref d/\Q (.bl (!(aZ.lookup z).isSome)) H):=by
 rintro aa s σ H _ _ v u Q I rx ry ⟨z,rfl,rfl,q⟩;cases ry
 obtain⟨t,rfl⟩:=rx;obtain⟨f,hM,sm,hf⟩:=cd.map I;refine wpAny_notIn_of (strKind_is X.prog X.w z t) sm hM ⟨.bl (!(aZ.lookup z).isSome),H,I.tok _,?_,q⟩;have:=hf z;cases el:aZ.lookup z with
 |none=>rw[el]at this;dsimp only at this;rw[this];rfl
 |some dd=>rw[el]at this;obtain⟨_,_,e1,_⟩:=this;rw[e1];rfl
theorem uK (h:∃d,X.mg x=some (.ref d)/\iW X.K X.w.params d aZ)(ha:JE X a f)(hg:Gl X x:=by rfl)(hd:(x == ("__debug__" : Str))=false:=by decide)(hm:behindInMarks .NotIn (.Name x p)=false:=by rfl):JT X (.Compare a [.NotIn] [.Name x p] pos) (br (f1 (kW aZ) f)):=by
 obtain⟨d,hmg,cd⟩:=h;refine PT.to (sv (uJ cd) ha (ku (v:=.ref d) hg hmg rfl hd) hm) λσ H Q q=>?_;obtain⟨B,ρ,d',bb,sB,r,ee,q⟩:=oe q;obtain⟨x1,ex,ee⟩:=oX ee;refine⟨B,ρ,x1.1,x1.2,sB,r,ex,λv H1 N1 xt i1 fr=>?_⟩;obtain⟨xd,xb⟩:=x1;cases i1<;>try (simp[kW]at ee;done)
 rename_i z;simp only[kW]at ee;cases ee
 exact⟨z,rfl,rfl,(q.into xt).one xt.nh (.bl _)⟩
end
section
variable {prog:Program}{w:World}{A:Around}{E:Value->Shared->Prop}{s:Shared}
theorem rM {a:Addr}{o:Obj}{its:Array Value}{n:Nat}{x:Value}{e:Value->Bool}{j:Nat}{P:PySem.Fin->Shared->Prop}(ho:s.heap.get? a=some o)(hd:o.data=.seq its n)
  (he:∀y∈its,MeetsSeq.EqGives y x (e y)) (hj:j<its.size) (Gw:e its[j]=true) (D1:∀m (hm:m<its.size),m<j->e its[m]=false)
  (h:P (.done (.ret (.int j s.toks))) { s with toks:=s.toks+1 }):wpAny (model prog w) A (Builtin.«tuple.index» ⟨[.ref a,x],[]⟩) P E s:=by
 show wpAny _ _ (Builtin.Tuple.tupleItemsOf (.ref a)>>=_) _ _ s;refine wX (wpAny_tupleItemsOf ho hd ?_);dsimp only;refine wX (wY (wX (wY (wX ?_))));rw[Std.Legacy.Range.forIn_eq_forIn_range'];refine wpAny_forIn_list _
  (λrest r s'=>r.1=none/\s'=s/\∃i,i<=j/\rest=List.range' i (its.size - i))
  _ ?_ ?_ _ _ ⟨rfl,rfl,0,uN _,?_⟩
 ·rintro k rest r s' ⟨hr,rfl,i,hi,hz⟩;have eM:i<its.size:=by omega
  obtain⟨m,hm⟩:∃m,its.size - i=m+1:=⟨its.size - i - 1,by omega⟩;rw[hm,List.range'_succ]at hz;injection hz with z1 z2;have z1:=z1.symm;subst z1;subst z2;have hg:its[i]? = some its[i]:=by simp[eM]
  simp only[hg];refine wX (he _ (Array.getElem_mem eM) prog w _ _ _ _ ?_);by_cases hij:i=j
  ·subst hij;rw[Gw];simp only[if_true];refine wX ?_;show wpAny _ _ (mkInt (i:Int)>>=λv=>ret v) _ _ _;exact wX (wpAny_mkInt (wY (wY (wY h))))
  ·rw[D1 i eM (by omega)];simp only[uV,if_false];exact wY ⟨rfl,rfl,i+1,by omega,by rw[show its.size - (i+1)=m by omega]⟩
 ·rintro⟨r1,r2⟩ s' ⟨hr,rfl,i,hi,hz⟩;exfalso;have:(List.range' i (its.size - i)).length=0:=by rw[←hz];rfl
  rw[List.length_range']at this;omega
 ·simp
end
theorem CRows.findT {K:Frag}{P:Params}(y:Str){ds:List D}:∀ {es:List DictEntry}{aZ:List (Str×D)},CRows K P es aZ->aZ.lookup y=some (.tup ds) ->
  ∃e a its n lZ,es.find? (λe=>Value.isStrOf y e.key)=some e/\e.val=.ref a/\K.lookup a=some ⟨.type "tuple",none,.seq its n,lZ⟩/\fR its.toList ds=true
 |_,_,.nil,h=>by simp at h
 |_,_,.tup (x:=x) (t:=t) (a:=a) (ds:=vN) hh l f tl,h=>by
  by_cases e:y=x
  ·subst e;rw[List.lookup_cons_self]at h;cases h
   rw[vC]at f;exact⟨_,a,_,_,_,List.find?_cons_of_pos (by simp[Value.isStrOf]),rfl,l,f.2⟩
  ·rw[List.lookup_cons,beq_eq_false_iff_ne.mpr e]at h;have nf:Value.isStrOf y (Value.str x t)=false:=by
    rw[Bool.eq_false_iff];intro z;obtain⟨t',q⟩:=Value.isStrOf_shape z;injection q with q1;exact e q1.symm
   simp only[List.find?_cons,nf];exact tl.findT y h
 |_,_,.flat (x:=x) (t:=t) (u:=u) (d:=d) hh f tl,h=>by
  by_cases e:y=x
  ·subst e;rw[List.lookup_cons_self]at h;cases h
   cases u<;>simp[om]at f
  ·rw[List.lookup_cons,beq_eq_false_iff_ne.mpr e]at h;have nf:Value.isStrOf y (Value.str x t)=false:=by
    rw[Bool.eq_false_iff];intro z;obtain⟨t',q⟩:=Value.isStrOf_shape z;injection q with q1;exact e q1.symm
   simp only[List.find?_cons,nf];exact tl.findT y h
section
variable {X:Cx}{b e:Expr}{pos:Pos}{x:Str}{p:Pos}
def Ha (K:Frag):V->List V->Hp->VK->Prop:=λx xs H Q=>∃(a:Addr)(o:Obj)(its:Array Value)(n:Nat)(zs:List Str)(y:Str),x=.ref a/\xs=[.str y]/\K.lookup a=some o/\o.cls=.type "tuple"/\o.data=.seq its n/\StrsAre its.toList zs/\zs.findIdx (· == y)<zs.length/\Q (.int (zs.findIdx (· == y):Nat)) H
noncomputable def AZ (y:Str):Value->Bool
 |.str z _=>z == y
 |_=>false
theorem t6:∀ {its:List Value}{zs:List Str},StrsAre its zs->∀(i:Nat)(hi:i<its.length),∃(h:i<zs.length)(t:Tok),its[i]=.str zs[i] t
 |_,_,.cons z t h,0,_=>⟨by simp,t,rfl⟩
 |_,_,.cons z t h,i+1,hi=>by
  obtain⟨h',t',e⟩:=t6 h i (by simpa using hi);exact⟨by simpa using h',t',by simpa using e⟩
 |_,_,.nil,i,hi=>by simp at hi
theorem pQ:∀ {its:List Value}{zs:List Str},StrsAre its zs->its.length=zs.length
 |_,_,.nil=>rfl
 |_,_,.cons _ _ h=>by rw[vD,vD,pQ h]
theorem xB:yG X "tuple.index" (Ha X.K):=by
 intro aa s σ H x xs v us Q I rx rv h;obtain⟨a,o,its,n,zs,y,rfl,rfl,lk,hc,hd,hz,hk,q⟩:=h;cases rx
 obtain⟨u,rfl,⟨t,rfl⟩⟩:=rv.one;have ho:=I.kIn a o lk;have hl:=pQ hz;rw[vF]at hl;have at':∀(i:Nat)(hi:i<its.size),∃(h:i<zs.length)(t:Tok),its[i]=.str zs[i] t:=λi hi=>by
  obtain⟨h',t',e⟩:=t6 hz i (by simpa using hi);exact⟨h',t',by simpa using e⟩
 refine wpAny_call_entry PySem.F.slot_tuple_index ⟨o,ho,hc⟩ PySem.F.entry_tuple_index (rM (e:=AZ y) (j:=zs.findIdx (· == y)) ho hd (λz hm=>?_) (by omega) ?_ (λm hm eM=>?_) ⟨_,rfl,.int (zs.findIdx (· == y):Nat),H,I.tok _,⟨_,rfl⟩,q⟩) (PySem.F.args_tuple_index_2 _ _)
 ·obtain⟨i,hi,rfl⟩:=Array.mem_iff_getElem.mp hm;obtain⟨_,t',e'⟩:=at' i hi;rw[e'];exact eqGives_str _ _ _ _
 ·obtain⟨_,t',e'⟩:=at' (zs.findIdx (· == y)) (by omega);rw[e'];exact List.findIdx_getElem (p:=(· == y)) (w:=hk)
 ·obtain⟨_,t',e'⟩:=at' m hm;rw[e'];have:=List.not_of_lt_findIdx (p:=(· == y)) (xs:=zs) eM;simpa [AZ]using this
@[simp] def lj (aZ:List (Str×D)):D->D->OB
 |.str y,.str z=>match aZ.lookup y with
  |some (.tup ds)=>(eK ds).bind λzs=>if zs.findIdx (· == z)<zs.length then some (.int (zs.findIdx (· == z):Nat),false)else none
  |_=>none
 |_,_=>none
theorem zZ {aZ:List (Str×D)}{f g:FE}{dI c6:Pos}(h:∃d,X.mg x=some (.ref d)/\iW X.K X.w.params d aZ)(hb:JE X b f)(he:JE X e g)(hg:Gl X x:=by rfl)(qD:(x == ("__debug__" : Str))=false:=by decide)(hs:ky b:=by intro _ _;rfl)
  (fG:attributeBase (.Subscript (.Name x p) b pos) "index" X.env (eval (.Subscript (.Name x p) b pos) X.env)=eval (.Subscript (.Name x p) b pos) X.env:=by rfl)
  (oI:((backTo c6 (starEach [e] X.env)).all (λx=>!x.1) && (backToKw c6 (keywordEach [] X.env)).all (λx=>x.1.isSome)
   && decide ([e].length+([]:List Keyword).length+(if([]:List Keyword).isEmpty then 0 else 1)<30))=true:=by rfl)
  (fH:(dI.endLine == c6.line)=true:=by rfl) (nM:starEach [e] X.env=[(false,eval e X.env)]:=by rfl):
  JE X (.Call (.Attribute (.Subscript (.Name x p) b pos) "index" dI) [e] [] c6) (f2 (lj aZ) f g):=by
 obtain⟨d,hm,cd⟩:=h;have ix:ww X (λx y H Q=>∃z ds,x=.ref d/\y=.str z/\aZ.lookup z=some (.tup ds)/\∀a its n lZ,X.K.lookup a=some ⟨.type "tuple",none,.seq its n,lZ⟩->fR its.toList ds=true->Q (.ref a) H):=by
  intro value slice aa s σ H x y v u Q I rx ry q hs;obtain⟨z,ds,rfl,rfl,el,q⟩:=q;cases rx
  obtain⟨t,rfl⟩:=ry;obtain⟨es,n,l,r,sm⟩:=cd;have hM:=PySem.W.mapOf_K (prog:=X.prog) (w:=X.w) I.kIn l r.lit;obtain⟨en,a,its,n',lZ,e1,e2,e3,e4⟩:=r.findT z el;have ff:findBy Value.isStrOf es z=some (.ref a):=by
   unfold findBy;obtain⟨es⟩:=es;rw[List.find?_toArray,e1,←e2];rfl
  exact tail_any hM.typeIs slot_dict_getitem.lookup (wpAny_getItem_of (strKind_is X.prog X.w z t) hM ff ⟨.ref a,H,I.tok _,rfl,q a _ _ _ e3 e4⟩) hs
 refine PE.to (sD (T:="tuple") PySem.F.plainAttrs_tuple PySem.F.slot_tuple_index PySem.F.type_tuple_index xB (wx ix (ku (v:=.ref d) hg hm rfl qD) hb hs) (dD he fN nM) fG oI fH nM rfl) λσ H Q q=>?_;obtain⟨B,ρ,d',bb,sB,r,ee,q⟩:=q;obtain⟨x1,ex,ee⟩:=oX ee;obtain⟨y1,ey,ee⟩:=oX ee;obtain⟨xd,xb⟩:=x1;obtain⟨yd,yb⟩:=y1;cases xd with
 |str z=>
  cases yd with
  |str y=>
   refine⟨B,ρ,_,xb,sB,r,ex,λv H1 N1 xt i1 _=>?_⟩;cases i1
   simp only[lj]at ee;split at ee
   ·rename_i ds el;obtain⟨zs,ez,ee⟩:=oX ee;split at ee
    ·rename_i hk;cases ee
     refine⟨z,ds,rfl,rfl,el,λa its n lZ l fl=>⟨.inr (.inl ⟨rfl,_,l,rfl,rfl⟩),N1,ρ,_,yb,xt.nh,r.mono xt.bn,ey,λv2 H2 N2 ua i2 _=>?_⟩⟩;cases i2
     obtain⟨vs,rv,iv⟩:=fT (K:=X.K) fl;exact⟨a,_,its,n,zs,y,rfl,rfl,l,rfl,rfl,fz rv (iv N2) ez,hk,(q.into (xt.trans ua)).one ua.nh (.int _)⟩
    ·cases ee
   ·cases ee
  |_=>simp[lj]at ee
 |_=>simp[lj]at ee
end
open PySem.W (tabIn tabObj CodeHd kla_fn kla_obj kla_eval kla_makeFunction kla_makeFunctionHit kla_callFunE kla_codeExpr envX)
section
variable {P:Program}{w:World}{K:Frag}{mg:Str->Option Value}{base:Heap}
theorem eG.fnL {x:Str}{st:Stmt}{N ps:List Str}{k:Nat}{g:FS}{h:Heap}(F:eG K x st)(X:K.In h)(G:h.Ns mainGlobals mg)(S:FnScope N ps (ax st))
  (tZ:∀(kV doc pm:Value)(an:Option Addr)(cw ct:Value)(us:List Value),us.length=ps.length->bindArgs (fnOf x x (cR st) (bD st) (ax st) .none kV doc pm an cw ct) ⟨us,[]⟩=pure (ps.zip us))
  (hb:∀(f:Addr)(cw:Value)(A:Around)(outer:List PySem.Env)(s:Shared)(H:Hp)(E:XK),(∀c P,tabIn K x=some (c,P)->cw=.ref c)->dr k (A.deeper (envOfC x (ax st) s.heap.objs.size f cw))->oK (ke qW P w K mg base N x (ax st) f cw A outer s H E).nox (bD st) g):
  Fn P w K mg base (k+1) x (aL g ps.length (N.length - ps.length)):=by
 obtain⟨f,fd,F1,a⟩:=F;have F2:=F1;obtain⟨oc,od,kV,doc,pm,an,cw,ct,lZ,rfl,lk,jZ⟩:=F2.ex;have hc:∀c P,tabIn K x=some (c,P)->cw=.ref c:=λc P e=>by
  unfold tabIn at e;simp only[a,lk]at e;split at e
  ·rename_i c' _;split at e
   ·split at e
    ·cases e;rfl
    ·cases e
   ·cases e
  ·cases e
 have len:∀vs H Q E,AO K (aL g ps.length (N.length - ps.length)) vs H Q E->vs.length=ps.length:=λvs H Q E h=>by
  obtain⟨B,ds,d,b,sB,i,e,q⟩:=h;unfold aL at e;split at e
  ·rename_i hl;rw[i.length];exact hl
  ·cases e
 refine⟨f,_,ps,AI lk jZ S len λA outer s H vs Q E hr h=>⟨_,nN.nox (hb f cw A outer s H E hc hr),?_⟩,mg_of X G a,F1.kp,F1.binds tZ⟩;have bp:=len vs H Q E h;obtain⟨B,ds,d,b,sB,i,e,q⟩:=h;unfold aL at e;rw[if_pos (by rw[←i.length];exact bp)]at e;have s0:=pq (N:=N) sB.1 sB.2 i;rw[bp]at s0;split at e
 ·rename_i d' b' eg;cases e
  exact⟨B,H,_,_,⟨B,s0⟩,eg,λv H' N' x' i' f'=>q v H' N' x' i' f'⟩
 ·rename_i ρ' eg;cases e
  exact⟨B,H,_,_,⟨B,s0⟩,eg,λσ' H' ⟨N',s'⟩=>q .non H' N' s'.ext .non (by simp)⟩
 ·cases e
end
inductive lW (X:Cx)(N':List Str)(scope:Scope)(cl:List (Str×Addr)):Nat->List Nat->Prop where
 |nil {j:Nat}(h:N'.length=j):lW X N' scope cl j []
 |cons {j i:Nat}{r:List Nat}{x:Str}(h1:N'[j]? = some x) (h2:X.N[i]? = some x) (h3:X.env.kindOf x=some .cell∨X.env.kindOf x=some .free)
   (h4:scope.names.lookup x=some .free) (h5:cl.lookup x=X.env.cells.lookup x) (t:lW X N' scope cl (j+1) r):lW X N' scope cl j (i::r)
theorem lW.len:∀ {j:Nat}{cap:List Nat},lW X N' scope cl j cap->N'.length=j+cap.length
 |_,_,.nil h=>by rw[h];rfl
 |j,i::r,.cons _ _ _ _ _ t=>by rw[t.len,vD];omega
theorem lW.get:∀ {j:Nat}{cap:List Nat}{k i:Nat},lW X N' scope cl j cap->cap[k]? = some i->∃x,N'[j+k]? = some x/\X.N[i]? = some x/\(X.env.kindOf x=some .cell∨X.env.kindOf x=some .free) /\
  scope.names.lookup x=some .free/\cl.lookup x=X.env.cells.lookup x
 |_,_,_,_,.nil _,e=>by simp at e
 |j,_,0,_,.cons h1 h2 h3 h4 h5 _,e=>by simp at e;subst e;exact⟨_,h1,h2,h3,h4,h5⟩
 |j,_,k+1,i,.cons _ _ _ _ _ t,e=>by
  obtain⟨x,q,r⟩:=t.get (k:=k) (i:=i) (by simpa using e);exact⟨x,by rw[show j+(k+1)=j+1+k by omega];exact q,r⟩
end DL
namespace DL
open PySem PySem.Spec PySem.W PyProof.Rows L2
noncomputable def EA (f:D->Option D):List D->Option (List D)
 |[]=>some []
 |d::ds=>(f d).bind λx=>(EA f ds).map (x :: ·)
def xC (ks:List (List At))(ds:List D):List D:=(ni (λp:List At×D=>E6 p.1) (ks.zip ds)).map (·.2)
@[simp] def xD (kd:List D->Option (List (List At)))(ok:List (List At)->Bool)(f:FE)(kf:Env->D->Option D):FE:=λρ=>(f ρ).bind λx=>match x.1 with
 |.lst ds=>(EA (kf ρ) ds).bind λLC=>(kd LC).bind λks=>if ks.length<64/\E7 ks=true/\ok ks=true/\(ks.map E6).Nodup then some (.lst (xC ks ds),true)else none
 |_=>none
@[simp] abbrev Hb:FE->(Env->D->Option D)->FE:=xD AY x0
section
variable {prog:Program}{w:World}{A:Around}{E:Value->Shared->Prop}{s:Shared}{op:CmpOp}
theorem E8.type (h:E8 s.heap xs v):s.TypeIs v "tuple":=by
 obtain⟨a,o,its,n,rfl,ho,hc,_⟩:=h;exact⟨o,ho,hc⟩
end
end DL
namespace DL
open PySem PySem.Spec PyProof.Rows L2
section
variable {X:Cx}
@[simp] def jb:List D->OB
 |[d,.tup [.ty n,.ty m]]=>if rb d=true then none else if n = "list"/\m = "tuple" then some (.bl (dU d == "list" || dU d == "tuple"),false)else none
 |_=>none
theorem uL (K:Frag)(d:D)(hd:∀n,d≠.ty n):PySem.W.kitAny K (.type (dU d)) [.type "list",.type "tuple"]=some (dU d == "list" || dU d == "tuple"):=by
 obtain⟨_,_,_,k4,k5⟩:=wT K d hd;unfold PySem.W.kitAny;rw[k4];cases dU d == "list" with
 |true=>rfl
 |false=>
  unfold PySem.W.kitAny;rw[k5];cases dU d == "tuple" with
  |true=>rfl
  |false=>rfl
theorem xE (I:Inv X aa σ H s)(i:Is X.K H v d)(hd:∀n,d≠.ty n)(rx:aG v u)(ht:IsTup s.heap tp its.toArray)(e:PySem.W.kitAny X.K (.type (dU d)) its=some b)(h:∀tk,Q (.bool b) { s with toks:=tk }):
  wpAny (model X.prog X.w) A (call (.builtin "isinstance") [u,.ref tp]) Q E s:=by
 obtain⟨⟨cls,dd,data,sl⟩,ho,hc,n,JR⟩:=id ht;dsimp only at hc JR;subst hc;subst JR;cases i with
 |non=>cases (show u=Value.none from rx);exact PySem.W.kia_tup PySem.W.kitx_none I.kIn True.intro ho e (λz=>nomatch z) h
 |bl y=>cases (show u=Value.bool y from rx);exact PySem.W.kia_tup PySem.W.kitx_bool I.kIn True.intro ho e (λz=>nomatch z) h
 |int i=>obtain⟨t,q⟩:=(show ∃t,u=Value.int i t from rx);cases q;exact PySem.W.kia_tup PySem.W.kitx_int I.kIn True.intro ho e (λz=>nomatch z) h
 |str y=>obtain⟨t,q⟩:=(show ∃t,u=Value.str y t from rx);cases q;exact PySem.W.kia_tup PySem.W.kitx_str I.kIn True.intro ho e (λz=>nomatch z) h
 |ty n=>exact absurd rfl (hd n)
 |dk h1 _ _=>
  cases rx
  obtain⟨_,_,_,vs,_,o,es,ep,e1,e2,_⟩:=(show bC X.prog X.w H s.heap _ (.dK _ _)from I.hok _ _ h1);exact PySem.W.kia_tup PySem.W.kitx_dict I.kIn ⟨o,e1,e2.1⟩ ho e (λz=>nomatch z) h
 |dt h1 _ _=>
  cases rx
  obtain⟨_,_,xs,_,o,es,ep,e1,e2,_⟩:=(show bC X.prog X.w H s.heap _ (.dT _)from I.hok _ _ h1);exact PySem.W.kia_tup PySem.W.kitx_dict I.kIn ⟨o,e1,e2.1⟩ ho e (λz=>nomatch z) h
 |tup ht _=>
  cases rx
  obtain⟨its,_,⟨o,h1,h2,_⟩,_⟩:=I.tuple ht;exact PySem.W.kia_tup PySem.W.kitx_tuple I.kIn ⟨o,h1,h2⟩ ho e (λz=>nomatch z) h
 |lst hl _=>
  cases rx
  obtain⟨its,_,⟨o,n,h1,h2,_⟩,_⟩:=I.list hl;exact PySem.W.kia_tup PySem.W.kitx_list I.kIn ⟨o,h1,h2⟩ ho e (λz=>nomatch z) h
theorem uM:b7 X (.builtin "isinstance") (yI X.K jb):=by
 intro aa s σ H xs us Q I rs q;obtain⟨B,ds,d,b,sB,i,e,q⟩:=q;cases i with
 |nil=>cases e
 |@cons _ dx _ _ i1 i=>
  cases i with
  |nil=>cases e
  |cons i2 i=>
   cases i with
   |cons _ _=>simp[jb]at e
   |nil=>
    cases i2<;>try (cases e;done)
    rename_i hs hl;cases hl with
    |nil=>cases e
    |cons j1 hl=>
     cases j1<;>try (cases e;done)
     cases hl with
     |nil=>cases e
     |cons j2 hl=>
      cases j2<;>try (cases e;done)
      cases hl with
      |cons _ _=>simp[jb]at e
      |nil=>
       obtain⟨u1,u2,rfl,r1,r2⟩:=wl rs;simp only[jb]at e;split at e
       ·cases e
       ·rename_i ht;have hd:∀n,dx≠.ty n:=λn z=>by subst z;exact ht rfl
        split at e
        ·rename_i hh;obtain⟨rfl,rfl⟩:=hh;cases e
         cases r2
         obtain⟨its,rv,p,_⟩:=I.tuple (aK sB hs);obtain⟨w1,w2,rfl,LD,LF⟩:=rv.two;cases LD
         cases LF
         exact xE I (i1.mono sB) hd r1 p (uL X.K dx hd) λtk=>⟨.bl _,H,I.tok tk,rfl,q.one sB (.bl _)⟩
        ·cases e
end
@[simp] noncomputable def Ba:D->Option iG
 |.int i=>some (.inl i)
 |.str x=>some (.inr x)
 |_=>none
noncomputable def xF {κ:Type}[DecidableEq κ]:List κ->List D->κ->Option D
 |k'::ks,d::ds,k=>if k'=k then some d else xF ks ds k
 |_,_,_=>none
section
variable {X:Cx}{o e i:Expr}{pos:Pos}
@[simp] def M0:D->D->OB
 |.dk ks vs,y=>(Ba y).bind λk=>(xF ks vs k).map λd=>(d,false)
 |_,_=>none
@[simp] def M1:D->D->OB
 |y,.dk ks vs=>(Ba y).map λk=>(.bl (xF ks vs k).isSome,false)
 |_,_=>none
end
section
variable {prog:Program}{w:World}{A:Around}{E:Value->Shared->Prop}{s:Shared}
abbrev jC (h:Heap)(z TI TO T0:Addr)(f:Bool):Prop:=h.get? z=some { cls:=.type "zip",dict:=none,data:=.fields #[rawInt T0,.bool f,.bool false,.ref TI,.ref TO],slots:=#[] }
theorem xG (e:s.heap.get? a=some o)(h:Q (some o) s):wpAny (model prog w) A (loadIfAlive a) Q E s:=by
 intro Γ p hΓ;unfold loadIfAlive;simp only[Sem.wp];rw[e];exact h
theorem nn {z TI TO T0:Addr}{f:Bool}{oT:Obj}{Q:Bool->Shared->Prop}(hz:jC s.heap z TI TO T0 f)(hT:s.heap.get? T0=some oT)
  (q:∀h',jC h' z TI TO T0 true->Heap.SameBut z s.heap h'->Q false { s with heap:=h' }):wpAny (model prog w) A (Builtin.SmallTypes.ownedTupleIsFree (.ref z)) Q E s:=by
 unfold Builtin.SmallTypes.ownedTupleIsFree;refine wX (wpAny_field hz rfl (x:=rawInt T0) rfl ?_);show wpAny _ _ (loadIfAlive ((T0:Int).toNat)>>=_) _ _ _;rw[Int.toNat_natCast];refine wX (xG hT ?_);simp only[Option.isNone_some,uV,if_false];refine wX (wpAny_field hz rfl (x:=.bool f) rfl ?_);cases f with
 |true=>
  rw[if_neg (show ¬((Value.bool true != Value.bool true)=true)from uX)];exact wY (q s.heap hz (.refl _ _))
 |false=>
  rw[if_pos (show((Value.bool false != Value.bool true)=true)from rfl)];refine wX (wpAny_setField_rec hz (by simp) λh' hz' s'=>wY (q h' hz' s'))
end
section
variable {prog:Program}{w:World}{A:Around}{E:Value->Shared->Prop}{s:Shared}
theorem uO {k1 k2:Bool}{z TI TO T0 i1 i2 l1 l2:Addr}{f:Bool}{oT:Obj}{j:Nat}{xs ys:Array Value}{x y:Value}{Q:Value->Shared->Prop}(D:ZApart z TI TO i1 i2)(m1:l1≠z/\l1≠TO/\l1≠i1)(m2:l2≠z/\l2≠TO/\l2≠i1/\l2≠i2)
  (hz:jC s.heap z TI TO T0 f) (hT:s.heap.get? T0=some oT) (hI:IsPair s.heap TI (.ref i1) (.ref i2)) (t1:iH k1 s.heap i1 l1 j) (t2:iH k2 s.heap i2 l2 j) (q1:i0 k1 s.heap l1 xs) (q2:i0 k2 s.heap l2 ys) (hx:xs[j]? = some x) (hy:ys[j]? = some y)
  (q:∀h',jC h' z TI TO T0 true->iH k1 h' i1 l1 (j+1)->iH k2 h' i2 l2 (j+1)->IsPair h' s.heap.objs.size x y ->
   (∀c o,c≠z->c≠i1->c≠i2->s.heap.get? c=some o->h'.get? c=some o)->Q (.ref s.heap.objs.size) { s with heap:=h' }):
  wpAny (model prog w) A (Builtin.«zip.__next__» ⟨[.ref z],[]⟩) (λfin s'=>∃v,fin=.done (.ret v)/\Q v s') E s:=by
 show wpAny _ _ (field (.ref z) 2>>=_) _ _ s;refine wX (wpAny_field hz rfl (x:=.bool false) rfl ?_);show wpAny _ _ (field (.ref z) 3>>=_) _ _ s;refine wX (wpAny_field hz rfl (x:=.ref TI) rfl (wX (wpAny_seqItems hI rfl ?_)));show wpAny _ _ (Builtin.SmallTypes.ownedTupleIsFree (.ref z)>>=_) _ _ s;refine wX (nn hz hT λg1 hz1 s1=>?_);simp only[uV,if_false];refine wX ?_;simp only[←Array.forIn_toList,List.forIn_cons,List.forIn_nil];refine wX (wX (wpAny_holding ?_));show wpAny _ _ (Builtin.SmallTypes.nextOf (.ref i1)>>=_) _ _ { s with heap:=g1 };refine wX (dL (s:={ s with heap:=g1 }) (t1.upon λo e=>s1.extBut _ _ D.az e) (q1.upon λo e=>s1.extBut _ _ m1.1 e) hx λg2 t12 s2=>wY ?_);refine wY (wX (wX (wpAny_holding ?_)));show wpAny _ _ (Builtin.SmallTypes.nextOf (.ref i2)>>=_) _ _ { s with heap:=g2 };have De:∀ {c o},c≠z->c≠i1->s.heap.get? c=some o->g2.get? c=some o:=λc1 c3 e=>s2.extBut _ _ c3 (s1.extBut _ _ c1 e);refine wX (dL (s:={ s with heap:=g2 }) (t2.upon λo e=>De D.bz D.ab.symm e) (q2.upon λo e=>De m2.1 m2.2.2.1 e) hy λg4 t24 s4=>wY ?_);refine wY (wY ?_);refine wX (wpAny_newTuple (hsz:=(by decide:2<=sizeLine)) ?_);have sz:g4.objs.size=s.heap.objs.size:=by rw[s4.1,s2.1,s1.1]
 have LG:∀c o,c≠z->c≠i1->c≠i2->s.heap.get? c=some o->g4.get? c=some o:=λc o c1 c3 c4 e=>s4.extBut _ _ c4 (De c1 c3 e);refine wY ⟨_,rfl,?_⟩;show Q (.ref g4.objs.size) { s with heap:=g4.push { cls:=.type "tuple",data:=.seq #[x,y] } };have hp:IsPair (g4.push { cls:=.type "tuple",data:=.seq #[x,y] }) g4.objs.size x y:=vY _ rfl;rw[sz]at hp ⊢;exact q _ (vZ _ (s4.extBut _ _ D.bz.symm (s2.extBut _ _ D.az.symm hz1))) (t12.upon λo e=>vZ _ (s4.extBut _ _ D.ab e)) (t24.upon λo e=>vZ _ e) hp λc o c1 c3 c4 e=>vZ _ (LG c o c1 c3 c4 e)
theorem xH {k1 k2:Bool}{z TI TO T0 i1 i2 l1 l2:Addr}{f:Bool}{oT:Obj}{j:Nat}{xs ys:Array Value}{Q:PySem.Fin->Shared->Prop}(hA:A.handled=none)(D:ZApart z TI TO i1 i2)(m1:l1≠z/\l1≠TO/\l1≠i1)(m2:l2≠z/\l2≠TO/\l2≠i1/\l2≠i2)
  (hz:jC s.heap z TI TO T0 f) (hT:s.heap.get? T0=some oT) (hI:IsPair s.heap TI (.ref i1) (.ref i2)) (t1:iH k1 s.heap i1 l1 j) (t2:iH k2 s.heap i2 l2 j) (q1:i0 k1 s.heap l1 xs) (q2:i0 k2 s.heap l2 ys) (he:xs[j]? = none∨ys[j]? = none)
  (q:∀h' x,(∀c o,c≠z->c≠i1->c≠i2->s.heap.get? c=some o->h'.get? c=some o)->(∃o,h'.get? x=some o/\o.cls=.type "StopIteration")->E (.ref x) { s with heap:=h' }):
  wpAny (model prog w) A (Builtin.«zip.__next__» ⟨[.ref z],[]⟩) Q E s:=by
 show wpAny _ _ (field (.ref z) 2>>=_) _ _ s;refine wX (wpAny_field hz rfl (x:=.bool false) rfl ?_);show wpAny _ _ (field (.ref z) 3>>=_) _ _ s;refine wX (wpAny_field hz rfl (x:=.ref TI) rfl (wX (wpAny_seqItems hI rfl ?_)));show wpAny _ _ (Builtin.SmallTypes.ownedTupleIsFree (.ref z)>>=_) _ _ s;refine wX (nn hz hT λg1 hz1 s1=>?_);simp only[uV,if_false];refine wX ?_;simp only[←Array.forIn_toList,List.forIn_cons,List.forIn_nil];refine wX (wX (wpAny_holding ?_));show wpAny _ _ (Builtin.SmallTypes.nextOf (.ref i1)>>=_) _ _ { s with heap:=g1 };cases hx:xs[j]? with
 |none=>
  exact wX (iV (s:={ s with heap:=g1 }) hA (t1.upon λo e=>s1.extBut _ _ D.az e) (q1.upon λo e=>s1.extBut _ _ m1.1 e) hx λg2 x s2 hX=>q g2 x (λc o c1 c3 _ e=>s2 _ _ c3 (s1.extBut _ _ c1 e)) hX)
 |some v=>
  have hy:ys[j]? = none:=by
   rcases he with h|h
   ·rw[hx]at h;cases h
   ·exact h
  refine wX (dL (s:={ s with heap:=g1 }) (t1.upon λo e=>s1.extBut _ _ D.az e) (q1.upon λo e=>s1.extBut _ _ m1.1 e) hx λg2 t12 s2=>wY ?_);refine wY (wX (wX (wpAny_holding ?_)));show wpAny _ _ (Builtin.SmallTypes.nextOf (.ref i2)>>=_) _ _ { s with heap:=g2 };have De:∀ {c o},c≠z->c≠i1->s.heap.get? c=some o->g2.get? c=some o:=λc1 c3 e=>s2.extBut _ _ c3 (s1.extBut _ _ c1 e);exact wX (iV (s:={ s with heap:=g2 }) hA (t2.upon λo e=>De D.bz D.ab.symm e) (q2.upon λo e=>De m2.1 m2.2.2.1 e) hy λg4 x s4 hX=>q g4 x (λc o c1 c3 c4 e=>s4 _ _ c4 (De c1 c3 e)) hX)
end
structure ZA (k1 k2:Bool)(z TI TO i1 i2 l1 l2:Addr):Prop where
 D:ZApart z TI TO i1 i2
 m1:l1≠z/\l1≠TO/\l1≠i1
 m2:l2≠z/\l2≠TO/\l2≠i1/\l2≠i2
def xI (k1 k2:Bool)(z TI TO i1 i2 l1 l2 S:Addr)(i:Nat)(h:Heap):Prop :=
 IsPair h TI (.ref i1) (.ref i2)/\iH k1 h i1 l1 i/\iH k2 h i2 l2 i/\((IsZip h z TI TO .none/\∃a b,IsPair h TO a b)∨∃T0 f oT oO,jC h z TI TO T0 f/\h.get? T0=some oT/\T0∉[z,TI,TO,i1,i2]/\T0≠S/\h.get? TO=some oO)
theorem xI.keep {k1 k2:Bool}{z TI TO i1 i2 l1 l2 S:Addr}{i:Nat}{h h':Heap}(st:xI k1 k2 z TI TO i1 i2 l1 l2 S i h)(hS:S∉[z,TI,TO,i1,i2])(k:∀b o,b≠S->h.get? b=some o->h'.get? b=some o):xI k1 k2 z TI TO i1 i2 l1 l2 S i h':=by
 obtain⟨a1,a2,a3,a4⟩:=st;have n:∀ {b},b∈[z,TI,TO,i1,i2]->b≠S:=λhb e=>hS (e ▸ hb);refine⟨k _ _ (n (by simp)) a1,a2.upon λo e=>k _ o (n (by simp)) e,a3.upon λo e=>k _ o (n (by simp)) e,?_⟩;rcases a4 with⟨b1,a,b,b2⟩|⟨T0,f,oT,oO,b1,b2,b3,b4,b5⟩
 ·exact .inl ⟨k _ _ (n (by simp)) b1,a,b,k _ _ (n (by simp)) b2⟩
 ·exact .inr ⟨T0,f,oT,oO,k _ _ (n (by simp)) b1,k _ _ b4 b2,b3,b4,k _ _ (n (by simp)) b5⟩
section
variable {prog:Program}{w:World}{A:Around}{E:Value->Shared->Prop}{s:Shared}{k1 k2:Bool}{z TI TO i1 i2 l1 l2 S:Addr}{j:Nat}{xs ys:Array Value}
theorem xI.ty (st:xI k1 k2 z TI TO i1 i2 l1 l2 S j h):∃o,h.get? z=some o/\o.cls=.type "zip":=by
 obtain⟨_,_,_,a4⟩:=st;rcases a4 with⟨b1,_⟩|⟨T0,f,oT,oO,b1,_⟩
 ·exact⟨_,b1,rfl⟩
 ·exact⟨_,b1,rfl⟩
theorem xJ (Z:ZA k1 k2 z TI TO i1 i2 l1 l2)(hS:S<s.heap.objs.size)(st:xI k1 k2 z TI TO i1 i2 l1 l2 S j s.heap)(q1:i0 k1 s.heap l1 xs)(q2:i0 k2 s.heap l2 ys)(hx:xs[j]? = some x)(hy:ys[j]? = some y)
  (q:∀h',xI k1 k2 z TI TO i1 i2 l1 l2 S (j+1) h'->IsPair h' s.heap.objs.size x y->(∀c o,c∉[z,TI,TO,i1,i2]->s.heap.get? c=some o->h'.get? c=some o)->Q (some (.ref s.heap.objs.size)) { s with heap:=h' }):
  wpAny (model prog w) A (pyNext (.ref z)) Q E s:=by
 have hT:s.TypeIs (.ref z) "zip":=st.ty;obtain⟨hI,t1,t2,a4⟩:=st;have lt:∀ {c o},s.heap.get? c=some o->s.heap.objs.size≠c:=λe=>Nat.ne_of_gt (vX e);obtain⟨o1,e1,_⟩:=t1.ob;obtain⟨o2,e2,_⟩:=t2.ob;unfold pyNext;rcases a4 with⟨hz,a,b,hO⟩|⟨T0,f,oT,oO,hz,h0,n0,nS,hO⟩
 ·refine wX (wpAny_attempt (wpAny_callSpecial?_slot (name:=Str.ofString "__next__") hT PySem.F.slot_zip_next (wpAny_call_entry PySem.F.slot_zip_next hT PySem.F.entry_zip_next (pD Z.D Z.m1 Z.m2 hz hI hO t1 t2 q1 q2 hx hy λh' b1 b2 b3 b4 b5 b6 bk=>wY ?_) (PySem.F.args_zip_next_1 _))));refine q h' ⟨bk _ _ Z.D.tz Z.D.to Z.D.ta Z.D.tb hI,b3,b4,.inr ⟨_,false,_,_,b1,b5,?_,Nat.ne_of_gt hS,b2⟩⟩ b5 λc o hc e=>bk c o (λz=>hc (by simp[z])) (λz=>hc (by simp[z])) (λz=>hc (by simp[z])) (λz=>hc (by simp[z])) e;simp only[List.mem_cons,List.not_mem_nil,or_false,not_or];exact⟨lt hz,lt hI,lt hO,lt e1,lt e2⟩
 ·refine wX (wpAny_attempt (wpAny_callSpecial?_slot (name:=Str.ofString "__next__") hT PySem.F.slot_zip_next (wpAny_call_entry PySem.F.slot_zip_next hT PySem.F.entry_zip_next (uO Z.D Z.m1 Z.m2 hz h0 hI t1 t2 q1 q2 hx hy λh' b1 b3 b4 b5 bk=>wY ?_) (PySem.F.args_zip_next_1 _))));exact q h' ⟨bk _ _ Z.D.tz Z.D.ta Z.D.tb hI,b3,b4,.inr ⟨T0,true,oT,oO,b1,bk _ _ (λz=>n0 (by simp[z])) (λz=>n0 (by simp[z])) (λz=>n0 (by simp[z])) h0,n0,nS,bk _ _ Z.D.oz Z.D.oa Z.D.ob hO⟩⟩ b5 λc o hc e=>bk c o (λz=>hc (by simp[z])) (λz=>hc (by simp[z])) (λz=>hc (by simp[z])) e
theorem xK (hA:A.handled=none)(Z:ZA k1 k2 z TI TO i1 i2 l1 l2)(st:xI k1 k2 z TI TO i1 i2 l1 l2 S j s.heap)(q1:i0 k1 s.heap l1 xs)(q2:i0 k2 s.heap l2 ys)(he:xs[j]? = none∨ys[j]? = none)
  (q:∀h',(∀c o,c∉[z,TI,TO,i1,i2]->s.heap.get? c=some o->h'.get? c=some o)->Q none { s with heap:=h' }):wpAny (model prog w) A (pyNext (.ref z)) Q E s:=by
 have hT:s.TypeIs (.ref z) "zip":=st.ty;obtain⟨hI,t1,t2,a4⟩:=st;unfold pyNext;rcases a4 with⟨hz,a,b,hO⟩|⟨T0,f,oT,oO,hz,h0,n0,nS,hO⟩
 ·refine wX (wpAny_attempt (wpAny_callSpecial?_slot (name:=Str.ofString "__next__") hT PySem.F.slot_zip_next (wpAny_call_entry PySem.F.slot_zip_next hT PySem.F.entry_zip_next (tm hA Z.D Z.m1 Z.m2 hz hI hO t1 t2 q1 q2 he λh' x hk hX=>?_) (PySem.F.args_zip_next_1 _))));obtain⟨o,eo,co⟩:=hX;exact wX (wpAny_isInstance (T:="StopIteration") (b:=true) ⟨o,eo,co⟩ isSubtype_stop (wY (q h' λc o hc e=>hk c o (λz=>hc (by simp[z])) (λz=>hc (by simp[z])) (λz=>hc (by simp[z])) (λz=>hc (by simp[z])) e)))
 ·refine wX (wpAny_attempt (wpAny_callSpecial?_slot (name:=Str.ofString "__next__") hT PySem.F.slot_zip_next (wpAny_call_entry PySem.F.slot_zip_next hT PySem.F.entry_zip_next (xH hA Z.D Z.m1 Z.m2 hz h0 hI t1 t2 q1 q2 he λh' x hk hX=>?_) (PySem.F.args_zip_next_1 _))));obtain⟨o,eo,co⟩:=hX;exact wX (wpAny_isInstance (T:="StopIteration") (b:=true) ⟨o,eo,co⟩ isSubtype_stop (wY (q h' λc o hc e=>hk c o (λz=>hc (by simp[z])) (λz=>hc (by simp[z])) (λz=>hc (by simp[z])) e)))
end
theorem xL (h:a≠b):upd (upd H a o) b u=upd (upd H b u) a o:=by
 funext c;unfold upd;by_cases h1:c=b
 ·by_cases h2:c=a
  ·exact absurd (h2.symm.trans h1) h
  ·rw[if_pos h1,if_neg h2,if_pos h1]
 ·rw[if_neg h1];by_cases h2:c=a
  ·rw[if_pos h2,if_pos h2]
  ·rw[if_neg h2,if_neg h2,if_neg h1]
theorem pR (h:H a=none):aF H (upd H a o):=λb u e=>by rw[a8 (ba e h)];exact e
theorem uP (h:(dX ds es)[i]? = some d):(dX ds es).take (i+1)=(dX ds es).take i++[d]:=by
 rw[List.take_add_one,h];rfl
theorem rN:typeLookup (.type "zip") "__len__" = pure none:=by rw[typeLookup_type,builtinLookup_eq_fast];kernel_rfl
theorem pS:typeLookup (.type "zip") "__length_hint__" = pure none:=by rw[typeLookup_type,builtinLookup_eq_fast];kernel_rfl
section
variable {X:Cx}{aa:List (Addr×Obj)}{σ:St}{B H0:Hp}{A:Around}{R:Result->Shared->Prop}{k1 k2:Bool}{z TI TO i1 i2 l1 l2 S:Addr}{us ws:List V}{ds es:List D}
theorem uR (hA:A.handled=none)(Z:ZA k1 k2 z TI TO i1 i2 l1 l2)(hS:S∉[z,TI,TO,i1,i2])(h1:ki k1 X.K B l1 us)(j1:IsL X.K B us ds)(h2:ki k2 X.K B l2 ws)(j2:IsL X.K B ws es)
  (hR:∀Hc N vs s',Inv X aa σ (upd Hc S (.lst vs)) s'->Hc S=none->Ext B N H0 Hc->IsL X.K N vs (dX ds es)->R (.ok (.ret .none)) s'):
  ∀(k i:Nat)(s:Shared)(Hc N:Hp)(vs:List V),(dX ds es).length - i=k->i<=(dX ds es).length->Inv X aa σ (upd Hc S (.lst vs)) s->Hc S=none->Ext B N H0 Hc->(∀b∈[z,TI,TO,i1,i2],iK X aa (upd Hc S (.lst vs)) b) ->
   xI k1 k2 z TI TO i1 i2 l1 l2 S i s.heap->IsL X.K N vs ((dX ds es).take i) ->
   codeAny (model X.prog X.w) A (.builtin "list.extend.loop" ⟨[.ref S,.ref z,.none],[]⟩) R s:=by
 have n1:=j1.length;have n2:=j2.length;have nz:(dX ds es).length=min ds.length es.length:=by unfold dX;rw[List.length_zipWith]
 intro k;induction k with
 |zero=>
  intro i s Hc N vs hk hi I hc xt fp st il;have Fz:i=(dX ds es).length:=by omega
  have sm:aF B (upd Hc S (.lst vs)):=(xt.bn.trans xt.nh).trans (pR hc);obtain⟨its,r1,p1,z1⟩:=(h1.same sm).vals I;obtain⟨m8,r2,p2,z2⟩:=(h2.same sm).vals I;have e1:=r1.length;have e2:=r2.length;refine codeAny_builtin PySem.F.entry_extend_loop ?_;rw[Around.under_plainId PySem.F.plain_extend_loop _];show wpAny _ A.in1 (pyNext (.ref z)>>=_) _ _ s;refine wX (xK (A:=A.in1) hA Z st p1 p2 ?_ λh' Bp=>?_)
  ·by_cases q:ds.length<=es.length
   ·left;simp;omega
   ·right;simp;omega
  ·refine wY (hR Hc N vs _ (oo (t':=s.toks) I fp Bp) hc xt ?_);rw[Fz,List.take_length]at il;exact il
 |succ k ih=>
  intro i s Hc N vs hk hi I hc xt fp st il;have eM:i<(dX ds es).length:=by omega
  have sm:aF B (upd Hc S (.lst vs)):=(xt.bn.trans xt.nh).trans (pR hc);obtain⟨its,r1,p1,z1⟩:=(h1.same sm).vals I;obtain⟨m8,r2,p2,z2⟩:=(h2.same sm).vals I;have d1:i<ds.length:=by omega
  have d2:i<es.length:=by omega
  obtain⟨x,hx,ix⟩:=j1.get (vU d1);obtain⟨y,hy,iy⟩:=j2.get (vU d2);obtain⟨u,hu,ru⟩:=r1.get hx;obtain⟨v,hv,rv⟩:=r2.get hy;have el:(dX ds es)[i]? = some (.tup [ds[i],es[i]]):=by
   unfold dX;rw[List.getElem?_zipWith,vU d1,vU d2]
  obtain⟨zl,acc,c,LH,M9,eS⟩:=I.lstM au;have JU:S<s.heap.objs.size:=vX eS;refine codeAny_builtin PySem.F.entry_extend_loop ?_;rw[Around.under_plainId PySem.F.plain_extend_loop _];show wpAny _ A.in1 (pyNext (.ref z)>>=_) _ _ s;refine wX (xJ (A:=A.in1) Z JU st p1 p2 (by simpa using hu) (by simpa using hv) λh' a7 hp Bp=>?_);have fr:upd Hc S (.lst vs) s.heap.objs.size=none:=I.hok.fresh (vT _);have nS:s.heap.objs.size≠S:=Nat.ne_of_gt JU;have JV:Hc s.heap.objs.size=none:=by rw[a8 nS]at fr;exact fr
  have new:bC X.prog X.w (upd (upd Hc S (.lst vs)) s.heap.objs.size (.tup [x,y])) h' s.heap.objs.size (.tup [x,y]):=⟨by show 2<=sizeLine;decide,[u,v],.cons ru (.cons rv .nil),⟨_,hp,rfl,_,rfl⟩⟩;have I1:Inv X aa σ (upd (upd Hc S (.lst vs)) s.heap.objs.size (.tup [x,y])) { s with heap:=h' }:=AV (s:=s) (t':=s.toks) I fp Bp (vT _) new;rw[xL nS.symm]at I1;have JX:h'.get? S=some { cls:=.type "list",data:=.seq acc.toArray c }:=Bp S _ hS eS;have ua:Ext B (upd N s.heap.objs.size (.tup [x,y])) H0 (upd Hc s.heap.objs.size (.tup [x,y])):=xt.trans (Ext.laid xt.nh JV);have vl:vs.length=i:=by rw[il.length,List.length_take];omega
  have zs:=zl;show wpAny _ A.in1 (updateSeq S (·.push (Value.ref s.heap.objs.size))>>=_) _ _ _;refine wX ?_;have lz:(vs++[V.ref s.heap.objs.size]).length<=sizeLine:=by
   rw[uZ,vl];have a1:=z1;show i+1<=sizeLine;omega
  have I2:=I1.lset (t':=s.toks) (ys:=vs++[.ref s.heap.objs.size]) (its':=acc++[.ref s.heap.objs.size]) (f:=(·.push (Value.ref s.heap.objs.size))) au JX (by simp) (LH.append (.cons (show aG (.ref _) (.ref _)from rfl) .nil)) lz;rw[kq]at I2;refine wpAny_updateSeq JX rfl (wY ⟨plainId_quiet PySem.F.plain_extend_loop _,ih (i+1) _ _ _ (vs++[.ref s.heap.objs.size]) (by omega) eM I2 (by rw[a8 nS.symm];exact hc) ua (λb hb=>?_) (a7.keep hS λb o hb e=>(Heap.get?_update_other _ _ (Ne.symm hb)).trans e) ?_⟩) (by simp;omega) (by simp;omega)
  ·obtain⟨f0,f1,f2,f3,f4,f5⟩:=fp b hb;refine⟨?_,f1,f2,f3,f4,f5⟩;have nb:b≠S:=λe=>hS (e ▸ hb);rw[a8 nb]at f0 ⊢;have nT:b≠s.heap.objs.size:=by
    obtain⟨hI,t1,t2,a4⟩:=st;obtain⟨o1,e1,_⟩:=t1.ob;obtain⟨o2,e2,_⟩:=t2.ob;simp only[List.mem_cons,List.not_mem_nil,or_false]at hb;have lt:∀ {c o},s.heap.get? c=some o->c≠s.heap.objs.size:=λe=>vS (vX e);have hO:∃o,s.heap.get? TO=some o/\∃o,s.heap.get? z=some o:=by
     rcases a4 with⟨hz,a,b,hO⟩|⟨T0,f,oT,oO,hz,h0,n0,nS,hO⟩
     ·exact⟨_,hO,_,hz⟩
     ·exact⟨_,hO,_,hz⟩
    obtain⟨o3,e3,o4,e4⟩:=hO;rcases hb with rfl|rfl|rfl|rfl|rfl
    ·exact lt e4
    ·exact lt hI
    ·exact lt e3
    ·exact lt e1
    ·exact lt e2
   rw[a8 nT];exact f0
  ·rw[uP el];exact(il.mono (Ext.laid xt.nh JV).bn).append (.cons (.tup (eZ.of au) (.cons (ix.mono ua.bn) (.cons (iy.mono ua.bn) .nil))) .nil)
end
section
variable {X:Cx}{aa:List (Addr×Obj)}{σ:St}{B H:Hp}{s:Shared}{k1 k2:Bool}{z TI TO i1 i2 l1 l2:Addr}{us ws:List V}{ds es:List D}
theorem mx (hA:X.A.handled=none)(I:Inv X aa σ H s)(Z:ZA k1 k2 z TI TO i1 i2 l1 l2)(fp:∀b∈[z,TI,TO,i1,i2],iK X aa H b)
  (hI:IsPair s.heap TI (.ref i1) (.ref i2)) (t1:iH k1 s.heap i1 l1 0) (t2:iH k2 s.heap i2 l2 0) (hz:IsZip s.heap z TI TO .none) (hO:IsPair s.heap TO a b)
  (sB:aF B H) (h1:ki k1 X.K B l1 us) (j1:IsL X.K B us ds) (h2:ki k2 X.K B l2 ws) (j2:IsL X.K B ws es)
  (q:∀(S:Addr)(Hc N:Hp)(vs:List V),Hc S=none->Ext B N H Hc->IsL X.K N vs (dX ds es)->Q (.ref S) (upd Hc S (.lst vs))):
  wq X (call (.type "list") [.ref z]) (EP X aa σ Q) X.xe s:=by
 have lt:∀ {c o},s.heap.get? c=some o->s.heap.objs.size≠c:=λe=>Nat.ne_of_gt (vX e);have ub:s.heap.objs.size∉[z,TI,TO,i1,i2]:=by
  obtain⟨o1,e1,_⟩:=t1.ob;obtain⟨o2,e2,_⟩:=t2.ob;simp only[List.mem_cons,List.not_mem_nil,or_false,not_or];exact⟨lt hz,lt hI,lt hO,lt e1,lt e2⟩
 have nz:s.heap.objs.size≠z:=lt hz;have LJ:xI k1 k2 z TI TO i1 i2 l1 l2 s.heap.objs.size 0 s.heap:=⟨hI,t1,t2,.inl ⟨hz,a,b,hO⟩⟩;have hc:H s.heap.objs.size=none:=I.fresh;refine callType_codes (Q₁:=λobj s₁=>obj=.ref s.heap.objs.size/\s₁={ s with heap:=s.heap.push { cls:=.type "list",data:=.seq #[] } }) PySem.F.called_list (PySem.F.typeCall_list_1 _) PySem.F.entry_list_init
  (code_list_new _ ⟨rfl,rfl⟩) λobj s₁ h₁=>?_
 obtain⟨rfl,rfl⟩:=h₁;have hS:(s.heap.push { cls:=.type "list",data:=.seq #[] }).get? s.heap.objs.size=some { cls:=.type "list",data:=.seq ([]:List Value).toArray }:=vY _ rfl;have I1:Inv X aa σ (upd H s.heap.objs.size (.lst [])) { s with heap:=s.heap.push { cls:=.type "list",data:=.seq #[] } }:=I.lnew (t':=s.toks) (its:=[]) .nil (uN _);have LK:xI k1 k2 z TI TO i1 i2 l1 l2 s.heap.objs.size 0 (s.heap.push { cls:=.type "list",data:=.seq #[] }):=LJ.keep ub λb o _ e=>vZ _ e;refine⟨⟨_,hS,rfl⟩,PySem.F.args_list_init_2 _ _,?_⟩;show wpAny _ _ (do let old ←Builtin.List.listItems (.ref s.heap.objs.size);Builtin.List.listUpdate (.ref s.heap.objs.size) (λ_=>#[]);letGo old.toList.reverse;Builtin.List.listExtendWith (.ref s.heap.objs.size) (.ref z) .none) _ _ _;refine wX ?_;unfold Builtin.List.listItems;refine wX (wpAny_seqItems hS rfl (wY ?_));show wpAny _ _ (updateSeq s.heap.objs.size (λ_=>#[])>>=λ_=>letGo (#[]:Array Value).toList.reverse>>=λ_=>Builtin.List.listExtendWith (.ref s.heap.objs.size) (.ref z) .none) _ _ _;refine wX (wpAny_updateSeq hS rfl ?_);have I2:=I1.lset (t':=s.toks) (ys:=[]) (its':=[]) (f:=λ_=>#[]) au hS rfl .nil (uN _);have fK:=LK.keep (h':=(s.heap.push { cls:=.type "list",data:=.seq #[] }).update s.heap.objs.size (Obj.mapSeq λ_=>(#[]:Array Value))) ub λb o hb e=>(Heap.get?_update_other _ _ (Ne.symm hb)).trans e;rw[kq]at I2;generalize hg2:(s.heap.push { cls:=.type "list",data:=.seq #[] }).update s.heap.objs.size (Obj.mapSeq λ_=>(#[]:Array Value))=g2 at I2 fK ⊢;obtain⟨_,vo,c2,v2,_,Bo⟩:=I2.lstM au;have e2:=v2.zero;subst e2;refine wX (wpAny_letGo ?_);unfold Builtin.List.listExtendWith;refine wX (wpAny_typeOf (T:="zip") fK.ty ?_);have fL:Builtin.List.listSameRef (.ref s.heap.objs.size) (.ref z)=false:=by simp[Builtin.List.listSameRef,nz]
 have dN:(Value.type "zip" == Value.type "list")=false:=by decide
 have vx:(Value.type "zip" == Value.type "tuple")=false:=by decide
 simp only[fL,dN,vx,Bool.or_false,uV,if_false];have Gr:IsZip g2 z TI TO .none:=by
  rw[←hg2];exact(Heap.get?_update_other _ _ nz).trans (vZ _ hz)
 refine wX (wpAny_pyIter_zip Gr ?_);refine wX (wpAny_holding ?_);unfold Builtin.List.listLengthHint;refine wX (wpAny_specialOf (T:="zip") fK.ty rN ?_);show wpAny _ _ (specialOf (Value.ref z) (Str.ofString "__length_hint__")>>=_) _ _ _;refine wX (wpAny_specialOf (T:="zip") fK.ty pS ?_);refine wY ?_;show wpAny _ _ (rule "list.extend.makes-room" >>= λ_=>Builtin.List.listTouch (.ref s.heap.objs.size)>>=λ_=>
  again (.builtin "list.extend.loop" ⟨[.ref s.heap.objs.size,.ref z,.none],[]⟩)) _ _ _
 refine wX (wpAny_rule ?_);refine wX ?_;show wpAny _ _ (updateSeq s.heap.objs.size (·.push .none)>>=λ_=>updateSeq s.heap.objs.size (·.pop)) _ _ _;refine wX (wpAny_updateSeq Bo rfl ?_);have I3:=I2.lset (t':=s.toks) (ys:=[.non]) (its':=[.none]) (f:=(·.push .none)) au Bo rfl (.cons (show aG .non .none from rfl) .nil) (by show 1<=sizeLine;decide);have iI:=fK.keep (h':=g2.update s.heap.objs.size (Obj.mapSeq (·.push .none))) ub λb o hb e=>(Heap.get?_update_other _ _ (Ne.symm hb)).trans e;rw[kq]at I3;generalize hg3:g2.update s.heap.objs.size (Obj.mapSeq (·.push .none))=g3 at I3 iI ⊢;obtain⟨_,LL,c3,v3,_,Gu⟩:=I3.lstM au;obtain⟨n3,rfl,r3⟩:=v3.one;cases r3
 refine wpAny_updateSeq (hz:=by simp<;>decide) Gu rfl ?_
 have I4:=I3.lset (t':=s.toks) (ys:=[]) (its':=[]) (f:=(·.pop)) au Gu rfl .nil (uN _);have vy:=iI.keep (h':=g3.update s.heap.objs.size (Obj.mapSeq (·.pop))) ub λb o hb e=>(Heap.get?_update_other _ _ (Ne.symm hb)).trans e;rw[kq]at I4;refine wY ⟨plainId_quiet PySem.F.plain_extend_loop _,uR (A:=X.A.in1) (B:=B) (H0:=H) hA Z ub h1 j1 h2 j2 (λHc N vs s' I' Ge xt il=>?_) _ 0 _ H B [] rfl (uN _) I4 hc (Ext.refl sB) (λb hb=>?_) vy .nil⟩
 ·exact⟨rfl,.ref s.heap.objs.size,_,I',rfl,q _ Hc N vs Ge xt il⟩
 ·obtain⟨f0,f1⟩:=fp b hb;refine⟨?_,f1⟩;have nb:b≠s.heap.objs.size:=λe=>ub (e ▸ hb);rw[a8 nb];exact f0
end
@[simp] def IV (fa fb:FE):FE:=λρ=>(u6 fa fb ρ).map λds=>(.lst ds,true)
section
variable {X:Cx}{a b:Expr}{pos p pos2 p2:Pos}
theorem rO (Il:X.calm=true)(hl:X.mg "list" = none)(hm:X.mg "zip" = none)(ha:JE X a fa)(hb:JE X b fb)(LM:Gl X "list":=by rfl)(hg:Gl X "zip":=by rfl)
  (hs:starEach [a,b] X.env=[(false,eval a X.env),(false,eval b X.env)]:=by rfl) (dN:starEach [b] X.env=[(false,eval b X.env)]:=by rfl)
  (vx:starEach [.Call (.Name "zip" p2) [a,b] [] pos2] X.env=[(false,eval (.Call (.Name "zip" p2) [a,b] [] pos2) X.env)]:=by rfl):
  JE X (.Call (.Name "list" p) [.Call (.Name "zip" p2) [a,b] [] pos2] [] pos) (IV fa fb):=by
 intro aa s σ H Q I q;obtain⟨B,ρ,d,bb,sB,r,ee,fin⟩:=q;obtain⟨zs,JY,e2⟩:=oY ee;cases e2
 clear ee;have ee:=JY;clear JY;obtain⟨x1,ex,ee⟩:=oX ee;obtain⟨y1,ey,ee⟩:=oX ee;obtain⟨xs,HV,ee⟩:=oX ee;obtain⟨ys,HW,ee⟩:=oY ee;subst ee;refine wpAny_Call_Name_kw (ig I LM hl kS ?_ (by decide) (by decide));refine PyProof.Rows.callWith_type1 ?_ (by rw[vx];rfl) rfl;rw[vx];show wpAny _ _ (spliced ((false,eval (.Call (.Name "zip" p2) [a,b] [] pos2) X.env)::backTo pos [])) _ _ s;refine Calls.spliced_cons ?_;refine wpAny_Call_Name_kw (ig I hg hm AW ?_ (by decide) (by decide));refine PyProof.Rows.callWith_type1 (bG (aj ha (aj hb ai dN) (by rw[hs,dN]) pos2 aa s σ H (λvs H1=>∃N1,Ext B N1 H H1/\IsL X.K N1 vs [x1.1,y1.1]) I ⟨B,ρ,[x1.1,y1.1],sB,r,by simp[ae,ah,ex,ey],λvs H1 N1 xt i1=>⟨N1,xt,i1⟩⟩) λus s1 ⟨vs,H1,I1,r1,N1,xt,il⟩=>?_) (by rw[hs,dN]) (by rw[dN];rfl);cases il with
 |cons j1 j2=>
  cases j2 with
  |cons j2 j3=>
   cases j3
   obtain⟨k1,l1,MA,rfl,h1,m1⟩:=tq j1 HV;obtain⟨k2,l2,MB,rfl,h2,m2⟩:=tq j2 HW;obtain⟨u1,u2,rfl,HS,HU⟩:=r1.two;cases HS
   cases HU
   obtain⟨its,v1,p1,z1⟩:=(h1.same xt.nh).vals I1;obtain⟨m8,v2,p2,z2⟩:=(h2.same xt.nh).vals I1;have Af:=p1.lt;have A7:=p2.lt;refine tf p1 p2 λh' c1 c2 c3 c4 c5 ck=>?_;have D:ZApart (s1.heap.objs.size+4) (s1.heap.objs.size+2) (s1.heap.objs.size+3) s1.heap.objs.size (s1.heap.objs.size+1):=by
    constructor<;>(intro z;exact absurd z (by first|exact vS (Nat.add_lt_add_left (by decide) _)|exact Nat.ne_of_gt (Nat.add_lt_add_left (by decide) _)|exact vS (Nat.lt_add_of_pos_right (by decide))|exact Nat.ne_of_gt (Nat.lt_add_of_pos_right (by decide))))
   have nf:∀ {l:Addr}(n:Nat),l<s1.heap.objs.size->l≠s1.heap.objs.size+n:=λn hl=>vS (vQ hl (Nat.le_add_right _ n));refine Calls.spliced_nil ?_;refine mx (s:={ s1 with heap:=h' }) (k1:=k1) (k2:=k2) (B:=N1) (H:=H1) (I1.ok.hd Il) (I1.kept (t':=s1.toks) ck) ⟨D,⟨nf 4 Af,nf 3 Af,nf 0 Af⟩,⟨nf 4 A7,nf 3 A7,nf 0 A7,nf 1 A7⟩⟩ (λb hb=>?_) c2 c4 c5 c1 c3 xt.nh h1 m1 h2 m2 λS Hc N vs hS ua il2=>?_
   ·have A8:s1.heap.objs.size<=b:=by
     simp at hb;rcases hb with rfl|rfl|rfl|rfl|rfl
     ·exact Nat.le_add_right _ 4
     ·exact Nat.le_add_right _ 2
     ·exact Nat.le_add_right _ 3
     ·exact vT _
     ·exact Nat.le_add_right _ 1
    exact I1.fpOk A8 (I1.hok.fresh A8)
   ·have x3:=(xt.trans ua).trans (Ext.laid (o:=.lst vs) ua.nh hS);have JZ:=il2.mono (Ext.laid (o:=.lst vs) ua.nh hS).bn;exact fin _ _ _ x3 (.lst (eN.of au) JZ) λ_=>⟨_,_,_,rfl,rfl,(xt.trans ua).hh.free hS,au,JZ⟩
end
end DL
namespace L2
open PySem PySem.Spec PyProof.Rows
theorem KV.get {aZ:List (iG×V)}{vs:List (iG×Value)}(r:KV aZ vs){i:Nat}{k:iG}{x:V}(h:aZ[i]? = some (k,x)):∃u,vs[i]? = some (k,u)/\aG x u:=by
 unfold KV at r;induction r generalizing i with
 |nil=>simp at h
 |@cons p q ps qs hq t ih=>
  cases i with
  |zero=>
   cases (show p=(k,x)from vK h)
   obtain⟨q1,q2⟩:=q;exact⟨q2,by rw[show k=q1 from hq.1];rfl,hq.2⟩
  |succ i=>exact ih h
end L2
namespace DL
open PySem PySem.Spec PyProof.Rows L2
@[simp] abbrev gp (i:Nat)(j:Int):FE:=f2 cW (ag i) (fC (.int j))
theorem bT (F:Fn X.prog X.w X.K X.mg X.base k x f)(hr:dr j X.A)(ha:JA X (e::es) fa)(hj:k<=j:=by decide)(hg:Gl X x:=by rfl)(qD:(x == ("__debug__" : Str))=false:=by decide)(he:starEach (e::es) X.env=(false,eval e X.env)::starEach es X.env:=by rfl)(kD:(backTo pos (starEach es X.env)).any (·.1)=false:=by rfl):JE X (.Call (.Name x p) (e::es) [] pos) (fA f fa):=sJ F (hr.mono hj) ha hg qD he kD
theorem EB (h1:∀y∈scope.names,y.2≠.cell:=by decide +kernel)(h2:scope.kind=.function:=by rfl)(h3:∀y∈scope.names,y.2=.local->scope.names.lookup y.1=some .local:=by decide +kernel)(HG:(scope.names.all λy=>!(y.2 == NameKind.free) || (X.env.cells.lookup y.1).isSome)=true:=by rfl):CompSc X scope (cG scope.names X.env.cells []):=Ch h1 h2 h3 HG
theorem IW (h1:N'[j]? = some x)(h2:X.N[i]? = some x)(t:jy X N' scope (cG scope.names X.env.cells []) (j+1) r)(h3:X.env.kindOf x=some .cell∨X.env.kindOf x=some .free:=by exact Or.inl rfl)(h4:(relabel scope X.env).names.lookup x=some .cell∨(relabel scope X.env).names.lookup x=some .free:=by exact Or.inl rfl)(hf:(x,NameKind.free)∈scope.names:=by decide +kernel)(hc:(X.env.cells.lookup x).isSome=true:=by rfl):jy X N' scope (cG scope.names X.env.cells []) j (i::r):=.cons h1 h2 h3 h4 (z9 hf hc) t
end DL
namespace DL
open PySem PySem.Spec PySem.W PyProof.Rows L2
def Hd:D->Option (List At)
 |.tup [.int n,.tup es]=>(rL es).map (.i n :: ·)
 |_=>none
def Bb:List D->Option (List (List At))
 |[]=>some []
 |d::ds=>(Hd d).bind λa=>(Bb ds).map (a :: ·)
@[simp] abbrev He:FE->(Env->D->Option D)->FE:=xD Bb λ_=>true
end DL
namespace DL
open PySem PySem.Spec PyProof.Rows L2
def EC:Nat->(List Value->Prop)->Prop
 |0,P=>P []
 |n+1,P=>∀a,EC n λl=>P (a::l)
theorem C7:∀n P,EC n P->∀us:List Value,us.length=n->P us
 |0,_,h,[],_=>h
 |n+1,_,h,a::us,e=>C7 n _ (h a) us (Nat.succ.inj e)
section
variable {P:Program}{w:World}{K:Frag}{mg:Str->Option Value}{base:Heap}
def KC (K:Frag)(mg:Str->Option Value)(x:Str)(c:D):Prop:=∃u v,mg x=some u/\aG v u/\∀B,Is K B v c
def KD (w:World)(K:Frag)(mg:Str->Option Value)(x:Str)(c:List (Str×D)):Prop:=∃d,mg x=some (.ref d)/\iW K w.params d c
theorem kc_of {x:Str}{c:D}{h:Heap}(X:K.In h)(G:h.Ns mainGlobals mg)(k:∃u v,nsIn K mainGlobals x=some (some u)/\aG v u/\∀B,Is K B v c):KC K mg x c:=let ⟨u,v,e,r⟩:=k;⟨u,v,mg_of X G e,r⟩
theorem kd_of {x:Str}{c:List (Str×D)}{h:Heap}(X:K.In h)(G:h.Ns mainGlobals mg)(k:∃d,nsIn K mainGlobals x=some (some (.ref d))/\iW K w.params d c):KD w K mg x c:=let ⟨d,e,r⟩:=k;⟨d,mg_of X G e,r⟩
theorem eG.fqL {x:Str}{st:Stmt}{k:Nat}{F':List D->OB}(F:eG K x st)(B:∃h,K.In h/\h.Ns mainGlobals mg)(g:FS)(N:List Str)(n:Nat)
  (hb:∀ {f:Addr}{cw:Value}{A:Around}{outer:List PySem.Env}{s:Shared}{H:Hp}{E:XK},N.Nodup->dr k (A.deeper (envOfC x (ax st) s.heap.objs.size f cw))->(A.deeper (envOfC x (ax st) s.heap.objs.size f cw)).units+40<cLine->(∀c P,PySem.W.tabIn K x=some (c,P)->cw=.ref c)->oK (ke qW P w K mg base N x (ax st) f cw A outer s H E).nox (bD st) g)
  (S:FnScope N (N.take n) (ax st):=by refine⟨rfl,rfl,rfl,?_,rfl,?_,?_⟩<;>decide +kernel)
  (tZ:∀(kV doc pm:Value)(an:Option Addr)(cw ct:Value)(us:List Value),us.length=(N.take n).length->bindArgs (fnOf x x (cR st) (bD st) (ax st) .none kV doc pm an cw ct) ⟨us,[]⟩=pure ((N.take n).zip us):=by
   exact λ_ _ _ _ _ _=>C7 _ _ (by(repeat intro);rfl))
  (e:aL g (N.take n).length (N.length - (N.take n).length)=F':=by rfl):
  Fn P w K mg base (k+1) x F':=let ⟨_,X,G⟩:=B;e ▸ F.fnL X G S tZ λ_ _ _ _ _ _ _ hc hr=>hb S.nd hr (Ew hr) hc
theorem eG.fq {x:Str}{st:Stmt}{k:Nat}{F':List D->OB}(F:eG K x st)(B:∃h,K.In h/\h.Ns mainGlobals mg)(g:FS)(N:List Str)(n:Nat)
  (hb:∀ {f:Addr}{cw:Value}{A:Around}{outer:List PySem.Env}{s:Shared}{H:Hp}{E:XK},N.Nodup->dr k (A.deeper (envOfC x (ax st) s.heap.objs.size f cw))->(A.deeper (envOfC x (ax st) s.heap.objs.size f cw)).units+40<cLine->oK (ke qW P w K mg base N x (ax st) f cw A outer s H E).nox (bD st) g)
  (S:FnScope N (N.take n) (ax st):=by refine⟨rfl,rfl,rfl,?_,rfl,?_,?_⟩<;>decide +kernel)
  (tZ:∀(kV doc pm:Value)(an:Option Addr)(cw ct:Value)(us:List Value),us.length=(N.take n).length->bindArgs (fnOf x x (cR st) (bD st) (ax st) .none kV doc pm an cw ct) ⟨us,[]⟩=pure ((N.take n).zip us):=by
   exact λ_ _ _ _ _ _=>C7 _ _ (by(repeat intro);rfl))
  (e:aL g (N.take n).length (N.length - (N.take n).length)=F':=by rfl):
  Fn P w K mg base (k+1) x F':=F.fqL B g N n (λn r u _=>hb n r u) S tZ e
end
section
variable {X:Cx}{x:Str}{pos:Pos}
theorem yN (i:Nat)(hN:X.N.Nodup)(hi:X.N[i]? = some x:=by rfl)(hx:Bz X.env.scope x:=by first|exact Or.inl rfl|exact Or.inr rfl)(hf:X.fn x=true∨X.env.scope.names.lookup x=some .local:=by first|exact .inl rfl|exact .inr rfl):PG X (.Name x pos) (iJ i):=su hN hi hx hf
theorem Du {fp}(i:Nat)(hN:N'.Nodup:=by decide +kernel)(hi:(eO X N' scope cl C s H fp).N[i]? = some x:=by rfl)(hx:Bz (eO X N' scope cl C s H fp).env.scope x:=by exact Or.inl rfl)(hf:(eO X N' scope cl C s H fp).fn x=true∨(eO X N' scope cl C s H fp).env.scope.names.lookup x=some .local:=by first|exact .inl rfl|exact .inr rfl):PG (eO X N' scope cl C s H fp) (.Name x pos) (iJ i):=su hN hi hx hf
theorem jc (N':List Str)(hi:JI X tg bL fi)(hc:∀ {C s H fp},JC (eO X N' scope (cG scope.names X.env.cells []) C s H fp) lU fc)(he:∀ {C s H fp},JE (eO X N' scope (cG scope.names X.env.cells []) C s H fp) m6 fe)
  (y8:AM X.K nT kE g:=by first|exact pc (by decide)|exact AU (by decide)) (hg:∀ {C s H fp},PG (eO X N' scope (cG scope.names X.env.cells []) C s H fp) tg g:=by intros;first|exact Du 0|exact nP rfl (cU (Du 0) (cU (Du 1) kx)))
  (cp:jy X N' scope (cG scope.names X.env.cells []) nT cap:=by repeat first|exact .nil rfl|refine IW rfl rfl ?_)
  (S:CompSc X scope (cG scope.names X.env.cells []):=by exact EB) (gi:X.calm=true:=by rfl)
  (hs:∀x,foldedSetIterable bL X.env x=pure x:=by intro _;rfl):
  JE X (.ListComp m6 [⟨tg,bL,lU,0⟩] scope pos) (bY fi nT cap kE fc fe):=zG gi S cp hi (λ_ _ _ _=>hg) y8 (λ_ _ _ _=>hc) (λ_ _ _ _=>he) hs
theorem xM (N':List Str)(hN:X.N.Nodup)(hi:JI X tg bL fi)(hc:∀ {C s H fp},JC (eO X N' scope (cG scope.names X.env.cells []) C s H fp) lU fc)(he:∀ {C s H fp},JE (eO X N' scope (cG scope.names X.env.cells []) C s H fp) m6 fe)
  (y8:AM X.K nT kE g:=by first|exact pc (by decide)|exact AU (by decide)) (hg:∀ {C s H fp},PG (eO X N' scope (cG scope.names X.env.cells []) C s H fp) tg g:=by intros;first|exact Du 0|exact nP rfl (cU (Du 0) (cU (Du 1) kx)))
  (cp:jy X N' scope (cG scope.names X.env.cells []) nT cap:=by repeat first|exact .nil rfl|refine IW rfl rfl ?_)
  (Fl:X.N[i]? = some y:=by rfl) (hy:X.env.kindOf y=some .local:=by rfl)
  (A5:swapsWith (.ListComp m6 [⟨tg,bL,lU,0⟩] scope pos) (some (.Name y py)) spos.line X.env=pure true:=by rfl)
  (S:CompSc X scope (cG scope.names X.env.cells []):=by exact EB) (gi:X.calm=true:=by rfl)
  (hs:∀x,foldedSetIterable bL X.env x=pure x:=by intro _;rfl):
  JS X (.Assign [.Name y py] (.ListComp m6 [⟨tg,bL,lU,0⟩] scope pos) spos) (b8 i (bY fi nT cap kE fc fe)):=zH gi hN Fl hy A5 S cp hi (λ_ _ _ _=>hg) y8 (λ_ _ _ _=>hc) (λ_ _ _ _=>he) hs
theorem pT (hi:JI X tg bL fi)(hg:PG X tg t)(ht:z7 X.K kE t)(hb:oK X body g)(hp:PassesOwn (model X.prog X.w) X.A X.env X.xe:=by exact PassesOwn.never)(hc:X.calm=true:=by rfl)
  (hs:∀x,foldedSetIterable bL X.env x=pure x:=by intro _;rfl):JS X (.For tg bL body [] pos) (iO fi kE g):=Cr hp hc hi hg ht hb hs
theorem xN (hi:PI X tg bL (FW X.K fi))(hg:PG X tg t)(ht:z7 X.K kE t)(hb:oK X body g)(hp:PassesOwn (model X.prog X.w) X.A X.env X.xe:=by exact PassesOwn.never)(hc:X.calm=true:=by rfl)
  (hs:∀x,foldedSetIterable bL X.env x=pure x:=by intro _;rfl):JS X (.For tg bL body [] pos) (jL fi kE g):=zM hp hc hi hg ht hb hs
end
@[simp] abbrev fV (i:Nat)(g:FA):FA:=ae (ag i) g
@[simp] abbrev fI (n:Int):FE:=fC (.int n)
@[simp] abbrev fS (s:PySem.Str):FE:=fC (.str s)
section
variable {X:Cx}{es:List Expr}{g:FA}{pos:Pos}
theorem aH {x:Str}{p:Pos}(i:Nat)(hr:JA X es g)(hN:X.N[i]? = some x:=by rfl)(hv:yF X.env.scope x:=by first|exact Or.inl rfl|exact Or.inr (Or.inl rfl)|exact Or.inr (Or.inr rfl))(hd:(x == ("__debug__" : Str))=false:=by decide)(jZ:(x == ("__classdict__" : Str))=false:=by decide)
  (hs:starEach (.Name x p::es) X.env=(false,eval (.Name x p) X.env)::starEach es X.env:=by rfl):JA X (.Name x p::es) (fV i g):=aj (af i hN hv hd jZ) hr hs
theorem eI {i:Int}{j:Nat}(hr:JA X es g):JA X (.Constant (.int i) j pos::es) (ae (fC (.int i)) g):=aj ak hr
theorem bi (F:Fn X.prog X.w X.K X.mg X.base k x f)(hr:dr j X.A)(ha:JA X (e::es) g:=by repeat first|exact ai|refine aH _ ?_|refine aj aA ?_)(hj:k<=j:=by decide)(hg:Gl X x:=by rfl)(qD:(x == ("__debug__" : Str))=false:=by decide)(he:starEach (e::es) X.env=(false,eval e X.env)::starEach es X.env:=by rfl)(kD:(backTo pos (starEach es X.env)).any (·.1)=false:=by rfl):JE X (.Call (.Name x p) (e::es) [] pos) (fA f g):=sJ F (hr.mono hj) ha hg qD he kD
theorem bE (he:JE X e f):oK X [.Return (some e) pos] (aW f):=bu (wL he)
theorem bU {c:Expr}{fc:FT}(hc:JT X c fc)(he:JE X e f):JS X (.If c [.Return (some e) p] [] pos) (eJ fc (aW f) aY):=gY hc (bu (wL he)) fQ
theorem bJ (i:Nat)(hN:X.N[i]? = some x:=by rfl)(hv:yF X.env.scope x:=by first|exact Or.inl rfl|exact Or.inr (Or.inl rfl)|exact Or.inr (Or.inr rfl))(hd:(x == ("__debug__" : Str))=false:=by decide)(jZ:(x == ("__classdict__" : Str))=false:=by decide):JE X (.Subscript (.Name x p) (.Constant (.int n) j q) pos) (gp i n):=cH (af i hN hv hd jZ) ak
end
end DL
namespace TS
open PySem PyProof.Rows
noncomputable def o6:Bool->Keyed->Array Keyed->Nat->Nat->Nat->StateT SortSt Sem (Option Nat):=sortPriv% PySem.Builtin.gallop
noncomputable abbrev key (p:Keyed):Int:=numOf p.1
def le (p q:Keyed):Prop:=key p<=key q
def kn (l:List Keyed):Prop:=∀p∈l,∃n t,p.1=.int n t
section
variable {prog:Program}{w:World}{A:Around}{E:Value->Shared->Prop}{s:Shared}
variable {left:Bool}{gk:Keyed}{du:Array Keyed}{base n hint:Nat}{st:SortSt}{Q:Option Nat->SortSt->Prop}{P:Nat->Bool}
theorem dj {x y:Keyed}{Q:Option Bool->SortSt->Prop}(hk:kindOf st=oneType')(hx:∃n t,x.1=.int n t)(hy:∃n t,y.1=.int n t)(h:Q (some (decide (key x<key y))) st):wpS (model prog w) A E s (lt' x y) Q st:=by
 obtain⟨a,t,e1⟩:=hx;obtain⟨b,u,e2⟩:=hy;rw[lt'_eq];refine wpS_bind (wpS_get ?_);rw[hk,keyLt'_oneType,e1,e2];refine wpS_bind (wpS_lift (wpAny_attempt (oneLt_int ⟨rfl,?_⟩)));refine wpS_pure ?_;have:key x=a:=by show numOf x.1=a;rw[e1];rfl
 have h2:key y=b:=by show numOf y.1=b;rw[e2];rfl
 rw[this,h2]at h;exact h
theorem aO {du:Array Keyed}{i:Nat}{Q:Keyed->SortSt->Prop}(h:i<du.size)(hq:Q du[i] st):wpS (model prog w) A E s (elem' du i) Q st:=by
 rw[elem'_eq,getElem?_pos du i h];exact wpS_pure hq
theorem kn.at {a:Array Keyed}(h:kn a.toList){i:Nat}(hi:i<a.size):∃n t,a[i].1=.int n t:=h _ (by simp)
structure Gl (P:Nat->Bool)(left:Bool)(x:Keyed)(du:Array Keyed)(base n:Nat)(st:SortSt):Prop where
 kd:kindOf st=oneType'
 ix:∃n t,x.1=.int n t
 ia:kn du.toList
 sz:base+n<=du.size
 tT:left=true->∀i (h:base+i<du.size),P i=decide (key du[base+i]<key x)
 tF:left=false->∀i (h:base+i<du.size),P i = !decide (key x<key du[base+i])
 mono:∀i j,i<=j->j<n->P j=true->P i=true
theorem jd {i:Nat}{m₁ m₂:Keyed->StateT SortSt Sem (Option Bool)}{Q:Option Bool->SortSt->Prop}(G:Gl P left gk du base n st)(hi:i<n)
  (h1:∀y (Q:Option Bool->SortSt->Prop),(∃n t,y.1=.int n t)->Q (some (decide (key y<key gk))) st->wpS (model prog w) A E s (m₁ y) Q st)
  (h2:∀y (Q:Option Bool->SortSt->Prop),(∃n t,y.1=.int n t)->Q (some (!decide (key gk<key y))) st->wpS (model prog w) A E s (m₂ y) Q st) (h:Q (some (P i)) st):
  wpS (model prog w) A E s (elem' du (base+i)>>=λy=>if left=true then m₁ y else m₂ y) Q st:=by
 have hs:base+i<du.size:=vQ (Nat.add_lt_add_left hi _) G.sz;refine wpS_bind (aO hs ?_);cases left with
 |true=>rw[if_pos rfl];refine h1 _ _ (G.ia.at hs) ?_;rw[←G.tT rfl i hs];exact h
 |false=>rw[if_neg (by decide)];refine h2 _ _ (G.ia.at hs) ?_;rw[←G.tF rfl i hs];exact h
theorem ll {f:Nat->Option (Option Nat)×Nat×Nat->StateT SortSt Sem (ForInStep (Option (Option Nat)×Nat×Nat))}{Q:Option (Option Nat)×Nat×Nat->SortSt->Prop}
  (f0:∀x l,f x (none,l,l)=pure (.done (none,l,l)))
  (f1:∀x l r (Q:ForInStep (Option (Option Nat)×Nat×Nat)->SortSt->Prop),l<r->r<=n->(∀m,m=l+(r - l) / 2->(P m=true->Q (.yield (none,m+1,r)) st)/\(P m=false->Q (.yield (none,l,m)) st))->wpS (model prog w) A E s (f x (none,l,r)) Q st)
  (mono:∀i j,i<=j->j<n->P j=true->P i=true) {lo hi:Nat}(LN:lo<=hi) (hn:hi<=n) (h1:∀i,i<lo->P i=true) (h2:∀i,hi<=i->i<n->P i=false)
  (h:∀k,k<=n->(∀i,i<k->P i=true)->(∀i,k<=i->i<n->P i=false)->Q (none,k,k) st):wpS (model prog w) A E s (forIn [0:n] (none,lo,hi) f) Q st:=by
 refine wpS_forRange (I:=λx c a7=>a7=st/\∃l r,c=(none,l,r)/\l<=r/\r<=n/\r - l<=n - x/\(∀i,i<l->P i=true)/\(∀i,r<=i->i<n->P i=false)) ?step ?fin ⟨rfl,lo,hi,rfl,LN,hn,by omega,h1,h2⟩
 case fin=>
  rintro c a7 ⟨rfl,l,r,rfl,a1,a2,a3,a4,a5⟩
  obtain rfl:l=r:=by omega
  exact h l a2 a4 a5
 case step=>
  rintro x c a7 _ hx ⟨rfl,l,r,rfl,a1,a2,a3,a4,a5⟩
  by_cases hge:r<=l
  ·obtain rfl:l=r:=by omega
   rw[f0]
   exact wpS_pure (h l a2 a4 a5)
  ·refine f1 x l r _ (by omega) a2 λm em=>⟨λhp=>⟨rfl,_,_,rfl,by omega,a2,by omega,λi hi=>mono i _ (by omega) (by omega) hp,a5⟩,λhp=>⟨rfl,_,_,rfl,by omega,by omega,by omega,a4,λi hi hn=>?_⟩⟩
   cases hq:P i with
   |false=>rfl
   |true=>rw[mono _ i hi hn hq]at hp;cases hp
theorem lm (G:Gl P left gk du base n st)(hh:hint<n)
  (h:∀k,k<=n->(∀i,i<k->P i=true)->(∀i,k<=i->i<n->P i=false)->Q (some k) st):wpS (model prog w) A E s (o6 left gk du base n hint) Q st:=by
 have mono:=G.mono;have F6:∀i j,i<=j->j<n->P i=false->P j=false:=λi j hij hj hp=>by
  cases hq:P j with
  |false=>rfl
  |true=>rw[mono i j hij hj hq]at hp;cases hp
 refine wpS_bind (jd G hh (λy Q hy hq=>dj G.kd hy G.ix hq) (λy Q hy hq=>wpS_bind (dj G.kd G.ix hy (wpS_pure hq))) ?_);dsimp only;cases hr:P hint with
 |true=>
  rw[if_pos rfl];refine wpS_bind (wpS_mono (wpS_forRange (I:=λx c a7=>a7=st/\∃l o,c=(none,l,o)/\x+1<=o/\l<o/\l<n - hint/\P (hint+l)=true)
   (Q:=λc a7=>a7=st/\∃l o,c=(none,l,o)/\l<o/\l<n - hint/\P (hint+l)=true/\(o<n - hint->P (hint+o)=false)) ?step ?fin ⟨rfl,0,1,rfl,by omega,by omega,by omega,hr⟩) ?post)
  case fin=>
   rintro c a7 ⟨rfl,l,o,rfl,a1,a2,a3,a4⟩
   exact⟨rfl,l,o,rfl,a2,a3,a4,λz=>by omega⟩
  case step=>
   rintro x c a7 _ hx ⟨rfl,l,o,rfl,a1,a2,a3,a4⟩
   dsimp only
   by_cases hge:o ≥ n - hint
   ·rw[if_pos hge]
    exact wpS_pure ⟨rfl,l,o,rfl,a2,a3,a4,λz=>by omega⟩
   ·rw[if_neg hge]
    refine wpS_bind (jd G (by omega) (λy Q hy hq=>dj G.kd hy G.ix hq) (λy Q hy hq=>wpS_bind (dj G.kd G.ix hy (wpS_pure hq))) ?_)
    dsimp only
    cases hp:P (hint+o) with
    |true=>rw[if_neg (by decide)];exact wpS_pure ⟨rfl,o,_,rfl,by omega,by omega,by omega,hp⟩
    |false=>rw[if_pos (by decide)];exact wpS_pure ⟨rfl,l,o,rfl,a2,a3,a4,λ_=>hp⟩
  case post=>
   rintro c a7 ⟨rfl,l,o,rfl,a2,a3,a4,a5⟩
   refine wpS_bind (ll (λx l=>?z) (λx l r Q Im hrn hq=>?o) mono (lo:=hint+l+1) (hi:=hint+min o (n - hint)) (by omega) (by omega) (λi hi=>mono i _ (by omega) (by omega) a4) (λi hi hn=>F6 (hint+o) i (by omega) hn (a5 (by omega))) λk k1 k2 k3=>wpS_pure (h k k1 k2 k3))
   case z=>dsimp only;rw[if_pos (vT _)]
   case o=>
    dsimp only
    rw[if_neg (by omega)]
    refine wpS_bind (jd G (by omega) (λy Q hy hq=>dj G.kd hy G.ix hq) (λy Q hy hq=>wpS_bind (dj G.kd G.ix hy (wpS_pure hq))) ?_)
    obtain⟨q1,q2⟩:=hq _ rfl
    dsimp only
    cases hp:P (l+(r - l) / 2) with
    |true=>rw[if_pos rfl];exact wpS_pure (q1 hp)
    |false=>rw[if_neg (by decide)];exact wpS_pure (q2 hp)
 |false=>
  rw[if_neg (by decide)];refine wpS_bind (wpS_mono (wpS_forRange (I:=λx c a7=>a7=st/\∃l o,c=(none,l,o)/\x+1<=o/\l<o/\l<=hint/\P (hint - l)=false)
   (Q:=λc a7=>a7=st/\∃l o,c=(none,l,o)/\l<o/\l<=hint/\P (hint - l)=false/\(o<=hint->P (hint - o)=true)) ?step ?fin ⟨rfl,0,1,rfl,by omega,by omega,by omega,hr⟩) ?post)
  case fin=>
   rintro c a7 ⟨rfl,l,o,rfl,a1,a2,a3,a4⟩
   exact⟨rfl,l,o,rfl,a2,a3,a4,λz=>by omega⟩
  case step=>
   rintro x c a7 _ hx ⟨rfl,l,o,rfl,a1,a2,a3,a4⟩
   dsimp only
   by_cases hge:o ≥ hint+1
   ·rw[if_pos hge]
    exact wpS_pure ⟨rfl,l,o,rfl,a2,a3,a4,λz=>by omega⟩
   ·rw[if_neg hge]
    refine wpS_bind (jd G (by omega) (λy Q hy hq=>dj G.kd hy G.ix hq) (λy Q hy hq=>wpS_bind (dj G.kd G.ix hy (wpS_pure hq))) ?_)
    dsimp only
    cases hp:P (hint - o) with
    |true=>rw[if_pos rfl];exact wpS_pure ⟨rfl,l,o,rfl,a2,a3,a4,λ_=>hp⟩
    |false=>rw[if_neg (by decide)];exact wpS_pure ⟨rfl,o,_,rfl,by omega,by omega,by omega,hp⟩
  case post=>
   rintro c a7 ⟨rfl,l,o,rfl,a2,a3,a4,a5⟩
   refine wpS_bind (ll (λx l=>?z) (λx l r Q Im hrn hq=>?o) mono (lo:=hint+1 - min o (hint+1)) (hi:=hint - l) (by omega) (by omega) (λi hi=>mono i (hint - o) (by omega) (by omega) (a5 (by omega))) (λi hi hn=>F6 (hint - l) i (by omega) hn a4) λk k1 k2 k3=>wpS_pure (h k k1 k2 k3))
   case z=>dsimp only;rw[if_pos (vT _)]
   case o=>
    dsimp only
    rw[if_neg (by omega)]
    refine wpS_bind (jd G (by omega) (λy Q hy hq=>dj G.kd hy G.ix hq) (λy Q hy hq=>wpS_bind (dj G.kd G.ix hy (wpS_pure hq))) ?_)
    obtain⟨q1,q2⟩:=hq _ rfl
    dsimp only
    cases hp:P (l+(r - l) / 2) with
    |true=>rw[if_pos rfl];exact wpS_pure (q1 hp)
    |false=>rw[if_neg (by decide)];exact wpS_pure (q2 hp)
end
noncomputable def my:Nat->StateT SortSt Sem Unit:=sortPriv% PySem.Builtin.setMinGallop
noncomputable def xO:Array Keyed->Array Keyed->StateT SortSt Sem (Array Keyed):=sortPriv% PySem.Builtin.mergeLo
variable {R:Keyed->Keyed->Prop}
structure MI (R:Keyed->Keyed->Prop)(A B o A' B':List Keyed):Prop where
 pm:(o++A'++B').Perm (A++B)
 s1:(o++A').Pairwise R
 s2:(o++B').Pairwise R
theorem MI.a {A B o x A' B':List Keyed}(h:MI R A B o (x++A') B')(hl:∀p∈x,∀q∈B',R p q):MI R A B (o++x) A' B':=by
 refine⟨by simpa using h.pm,by simpa using h.s1,?_⟩;have s1:=h.s1;have s2:=h.s2;rw[←List.append_assoc]at s1;refine List.pairwise_append.mpr ⟨(List.pairwise_append.mp s1).1,(List.pairwise_append.mp s2).2.1,λp hp q hq=>?_⟩;rcases List.mem_append.mp hp with hp|hp
 ·exact(List.pairwise_append.mp s2).2.2 p hp q hq
 ·exact hl p hp q hq
theorem MI.swap {A B o A' B':List Keyed}(h:MI R A B o A' B'):MI R B A o B' A' :=
 ⟨by
  have:(o++B'++A').Perm (o++A'++B'):=by
   rw[List.append_assoc,List.append_assoc];exact List.Perm.append_left _ List.perm_append_comm
  exact this.trans (h.pm.trans List.perm_append_comm),h.s2,h.s1⟩
theorem MI.b {A B o x A' B':List Keyed}(h:MI R A B o A' (x++B'))(hl:∀p∈x,∀q∈A',R p q):MI R A B (o++x) A' B':=(h.swap.a hl).swap
def Mg (R:Keyed->Keyed->Prop)(A B r:List Keyed):Prop:=r.Perm (A++B)/\r.Pairwise R
theorem MI.doneB {A B o A':List Keyed}(h:MI R A B o A' []):Mg R A B (o++A'):=⟨by simpa using h.pm,h.s1⟩
theorem MI.doneA {A B o B':List Keyed}(h:MI R A B o [] B'):Mg R A B (o++B'):=⟨by simpa using h.pm,h.s2⟩
theorem MI.last {A B o B':List Keyed}{x:Keyed}(h:MI R A B o [x] B')(hl:∀p∈B',R p x):Mg R A B (o++B'++[x]):=by
 have:=(show MI R A B o [x] (B'++[]) by simpa using h).b λp hp q hq=>by simp at hq;subst hq;exact hl p hp
 exact this.doneB
theorem je {a:Array Keyed}{i k:Nat}{p:Keyed}(h:p∈(a.toList.drop i).take k):∃j,i<=j/\j<i+k/\j<a.size/\key p=K a j:=by
 obtain⟨j,hj,e⟩:=List.mem_iff_getElem.mp h;rw[List.length_take,List.length_drop,vF]at hj;rw[List.getElem_take,List.getElem_drop]at e;refine⟨i+j,by omega,by omega,by omega,?_⟩;rw[K_eq (by omega)];subst e;rfl
theorem ln {a:Array Keyed}{i:Nat}{p:Keyed}(h:p∈a.toList.drop i):∃j,i<=j/\j<a.size/\key p=K a j:=by
 obtain⟨j,hj,e⟩:=List.mem_iff_getElem.mp h;rw[List.length_drop,vF]at hj;rw[List.getElem_drop]at e;refine⟨i+j,by omega,by omega,?_⟩;rw[K_eq (by omega)];subst e;rfl
theorem dm (a:Array Keyed)(i j:Nat):(a.extract i j).toList=(a.toList.drop i).take (j - i):=by
 rw[Array.toList_extract,List.extract_eq_take_drop]
theorem gK (a:Array Keyed)(i:Nat):(a.extract i a.size).toList=a.toList.drop i:=by
 rw[dm,List.take_of_length_le];rw[List.length_drop,vF];exact vT _
theorem kA {a:Array Keyed}{i:Nat}(h:i<a.size):a.toList.drop i=[a[i]]++a.toList.drop (i+1):=by
 rw[List.drop_eq_getElem_cons (by simpa using h)];simp
theorem lq (a:Array Keyed)(i k:Nat):a.toList.drop i=(a.toList.drop i).take k++a.toList.drop (i+k):=by
 rw[←List.drop_drop,List.take_append_drop]
def jP (a:Array Keyed):Prop:=∀i j,i<=j->j<a.size->K a i<=K a j
def Sm (st a7:SortSt):Prop:=kindOf a7=oneType'/\arrOf a7=arrOf st/\pendingOf a7=pendingOf st/\failedOf a7=failedOf st
section
variable {prog:Program}{w:World}{A:Around}{E:Value->Shared->Prop}{s:Shared}{st:SortSt}
theorem jf {s₀:SortSt}{g:Nat}{Q:Unit->SortSt->Prop}(hs:Sm s₀ st)(h:∀a7,Sm s₀ a7->Q () a7):wpS (model prog w) A E s (my g) Q st:=wpS_modify (h _ hs)
theorem lr {x:Keyed}{du:Array Keyed}{base n hint:Nat}{Q:Option Nat->SortSt->Prop}(hk:kindOf st=oneType')(hx:∃n t,x.1=.int n t)(hi:kn du.toList)(hs:∀i j,i<=j->j<n->K du (base+i)<=K du (base+j))(hn:base+n<=du.size)(hh:hint<n)
  (h:∀k,k<=n->(∀i,i<k->K du (base+i)<key x)->(∀i,k<=i->i<n->key x<=K du (base+i))->Q (some k) st):wpS (model prog w) A E s (o6 true x du base n hint) Q st:=by
 refine lm (P:=λi=>decide (K du (base+i)<key x)) ⟨hk,hx,hi,hn,λ_ i h=>by rw[K_eq h],λe=>Bool.noConfusion e,λi j hij hj hp=>?_⟩ hh λk h1 h2 h3=>h k h1 (λi hi=>by simpa using h2 i hi) λi hi hj=>by simpa using h3 i hi hj
 simp only[decide_eq_true_eq]at hp ⊢;exact Int.lt_of_le_of_lt (hs i j hij hj) hp
theorem ls {x:Keyed}{du:Array Keyed}{base n hint:Nat}{Q:Option Nat->SortSt->Prop}(hk:kindOf st=oneType')(hx:∃n t,x.1=.int n t)(hi:kn du.toList)(hs:∀i j,i<=j->j<n->K du (base+i)<=K du (base+j))(hn:base+n<=du.size)(hh:hint<n)
  (h:∀k,k<=n->(∀i,i<k->K du (base+i)<=key x)->(∀i,k<=i->i<n->key x<K du (base+i))->Q (some k) st):wpS (model prog w) A E s (o6 false x du base n hint) Q st:=by
 refine lm (P:=λi=>!decide (key x<K du (base+i))) ⟨hk,hx,hi,hn,λe=>Bool.noConfusion e,λ_ i h=>by rw[K_eq h],λi j hij hj hp=>?_⟩ hh λk h1 h2 h3=>h k h1 (λi hi=>by simpa using h2 i hi) λi hi hj=>by simpa using h3 i hi hj
 simp only[Bool.not_eq_true',decide_eq_false_iff_not]at hp ⊢;exact λz=>hp (Int.lt_of_lt_of_le z (hs i j hij hj))
end
abbrev M:=StateT SortSt Sem
abbrev T2:=Option (Array Keyed)×Array Keyed×Nat×Nat×Nat×Nat×Nat
abbrev T1:=Option (Array Keyed)×Array Keyed×Nat×Nat×Nat×Nat
noncomputable def dn (a b out:Array Keyed)(ia ib:Nat):Array Keyed:=out++a.extract ia a.size++b.extract ib b.size
noncomputable def lastA (a b out:Array Keyed)(ia ib:Nat):Array Keyed:=out++b.extract ib b.size++a.extract ia a.size
theorem pU {a:Array Keyed}{i:Nat}(h:i<a.size):key a[i]=K a i:=(K_eq h).symm
structure Lo (a b:Array Keyed):Prop where
 ia:kn a.toList
 ib:kn b.toList
 sa:jP a
 sb:jP b
 last:∀j,j<b.size->K b j<=K a (a.size - 1)
def LI (a b out:Array Keyed)(ia ib:Nat):Prop:=MI le a.toList b.toList out.toList (a.toList.drop ia) (b.toList.drop ib)
abbrev lX (a b r:Array Keyed):Prop:=Mg le a.toList b.toList r.toList
section
variable {a b out:Array Keyed}{ia ib k:Nat}
theorem LI.takeA (h:LI a b out ia ib){x:Int}(h1:∀i,i<k->K a (ia+i)<=x)(h2:∀j,ib<=j->j<b.size->x<=K b j):LI a b (out++a.extract ia (ia+k)) (ia+k) ib:=by
 unfold LI at h ⊢;rw[lq a ia k]at h;rw[Array.toList_append,dm,Nat.add_sub_cancel_left];refine h.a λp hp q hq=>?_;obtain⟨j,j1,j2,_,e⟩:=je hp;obtain⟨i,i1,i2,e2⟩:=ln hq;show key p<=key q;rw[e,e2];have:=h1 (j - ia) (by omega);rw[show ia+(j - ia)=j by omega]at this;exact Int.le_trans this (h2 i i1 i2)
theorem LI.swap (h:LI a b out ia ib):LI b a out ib ia:=MI.swap h
theorem LI.takeB (h:LI a b out ia ib){x:Int}(h1:∀i,i<k->K b (ib+i)<=x)(h2:∀j,ia<=j->j<a.size->x<=K a j):LI a b (out++b.extract ib (ib+k)) ia (ib+k):=(h.swap.takeA h1 h2).swap
theorem xP (out a:Array Keyed)(h:ia<a.size):out.push a[ia]=out++a.extract ia (ia+1):=by
 apply Array.ext';rw[Array.toList_push,Array.toList_append,dm,Nat.add_sub_cancel_left,kA h];rfl
theorem LI.pushA (h:LI a b out ia ib)(hi:ia<a.size)(h2:∀j,ib<=j->j<b.size->K a ia<=K b j):LI a b (out.push a[ia]) (ia+1) ib:=by
 rw[xP out a hi];exact h.takeA (λi hi=>by rw[show ia+i=ia by omega];exact Int.le_refl _) h2
theorem LI.pushB (h:LI a b out ia ib)(hi:ib<b.size)(h2:∀j,ia<=j->j<a.size->K b ib<=K a j):LI a b (out.push b[ib]) ia (ib+1):=(h.swap.pushA hi h2).swap
theorem LI.dnB (h:LI a b out ia ib)(e:ib=b.size):lX a b (dn a b out ia ib):=by
 unfold LI at h;unfold lX dn;rw[Array.toList_append,Array.toList_append,gK,gK];have z:b.toList.drop ib=[]:=List.drop_eq_nil_of_le (by simp[e]);rw[z]at h ⊢;rw[uQ];exact h.doneB
theorem LI.dnA (h:LI a b out ia ib)(e:ia=a.size):lX a b (dn a b out ia ib):=by
 unfold LI at h;unfold lX dn;rw[Array.toList_append,Array.toList_append,gK,gK];have z:a.toList.drop ia=[]:=List.drop_eq_nil_of_le (by simp[e]);rw[z]at h ⊢;rw[uQ];exact h.doneA
theorem LI.lastA (h:LI a b out ia ib)(e:ia+1=a.size)(L:Lo a b):lX a b (lastA a b out ia ib):=by
 unfold LI at h;unfold lX TS.lastA;rw[Array.toList_append,Array.toList_append,gK,gK];have z:a.toList.drop ia=[a[ia]]:=by rw[kA (by omega),List.drop_eq_nil_of_le (by simp;omega),uQ]
 rw[z]at h ⊢;refine h.last λp hp=>?_;obtain⟨j,_,j2,e2⟩:=ln hp;show key p<=key _;rw[e2];have:=L.last j j2;rw[show a.size - 1=ia by omega,K_eq (xs:=a) (i:=ia) (by omega)]at this;exact this
end
def P2 (a b:Array Keyed)(st:SortSt)(n:Nat)(c:T2)(a7:SortSt):Prop:=Sm st a7/\match c.1 with
 |some r=>lX a b r
 |none=>LI a b c.2.1 c.2.2.1 c.2.2.2.1/\c.2.2.1+1<a.size/\c.2.2.2.1<b.size/\n<=c.2.2.1+c.2.2.2.1
def P1 (a b:Array Keyed)(st:SortSt)(n:Nat)(c:T1)(a7:SortSt):Prop:=Sm st a7/\match c.1 with
 |some r=>lX a b r
 |none=>LI a b c.2.1 c.2.2.1 c.2.2.2.1/\c.2.2.1+1<a.size/\c.2.2.2.1<b.size/\n<=c.2.2.1+c.2.2.2.1
section
variable {prog:Program}{w:World}{A:Around}{E:Value->Shared->Prop}{s:Shared}{a b out:Array Keyed}{ia ib mg ac bc n:Nat}{st a7:SortSt}
theorem pV {Q:Array Keyed->SortSt->Prop}(L:Lo a b)(ha:0<a.size)(hb:0<b.size)(h0:K b 0<=K a 0)(hs:Sm st st)(h:∀r t,lX a b r->Sm st t->Q r t):wpS (model prog w) A E s (xO a b) Q st:=by
 refine wpS_bind (wpS_lift (wpAny_rule ⟨rfl,?_⟩));refine wpS_bind (aO hb ?_);have l0:LI a b #[] 0 0:=⟨by simp,by
  show(a.toList).Pairwise le;rw[List.pairwise_iff_getElem];intro i j hi hj hij;have:=L.sa i j (by omega) (by simpa using hj);rw[K_eq (by simpa using hi),K_eq (by simpa using hj)]at this;simpa [le]using this,by
  show(b.toList).Pairwise le;rw[List.pairwise_iff_getElem];intro i j hi hj hij;have:=L.sb i j (by omega) (by simpa using hj);rw[K_eq (by simpa using hi),K_eq (by simpa using hj)]at this;simpa [le]using this⟩
 have l1:LI a b #[b[0]] 0 1:=l0.pushB hb λj _ j2=>Int.le_trans h0 (L.sa 0 j (by omega) j2);by_cases e1:1=b.size
 ·rw[if_pos (by simpa using e1)];exact wpS_pure (h _ _ (l1.dnB e1) hs)
 rw[if_neg (by simpa using e1)];by_cases e2:0+1=a.size
 ·rw[if_pos (by simpa using e2)];exact wpS_pure (h _ _ (l1.lastA e2 L) hs)
 rw[if_neg (by simpa using e2)];refine wpS_bind (wpS_get ?_);refine wpS_bind (wpS_mono (wpS_forRange (I:=λx c a7=>c.1=none/\Sm st a7/\LI a b c.2.1 c.2.2.1 c.2.2.2.1/\c.2.2.1+1<a.size/\c.2.2.2.1<b.size/\x<=c.2.2.1+c.2.2.2.1)
  (Q:=λc a7=>Sm st a7/\∃r,c.1=some r/\lX a b r) ?step ?fin ⟨rfl,hs,l1,by show 0+1<_;omega,by show 1<_;omega,by show 0<=_;omega⟩) ?post)
 case fin=>
  rintro⟨c,out,ia,ib,mg⟩ a7 ⟨rfl,_,_,h1,h2,h3⟩
  dsimp only at h1 h2 h3
  omega
 case post=>
  rintro⟨c,out,ia,ib,mg⟩ a7 ⟨gV,r,rfl,hr⟩
  exact wpS_pure (h _ _ hr gV)
 case step=>
  rintro x ⟨c,out,ia,ib,mg⟩ a7 _ hx ⟨rfl,fL,l2,h1,h2,h3⟩
  dsimp only at l2 h1 h2 h3
  refine wpS_bind (wpS_mono (wpS_forRange (I:=λy c a7=>c.1=none/\P1 a b st (x+y) c a7) (Q:=λc a7=>P1 a b st (x+1) c a7) ?step1 ?fin1 ⟨rfl,fL,l2,h1,h2,h3⟩) ?post1)
  case fin1=>
   rintro⟨c,out,ia,ib,ac,bc⟩ a7 ⟨rfl,_,_,h1,h2,h3⟩
   dsimp only at h1 h2 h3
   omega
  case step1=>
   rintro y ⟨c,out,ia,ib,ac,bc⟩ a7 _ hy ⟨rfl,fL,l2,h1,h2,h3⟩
   dsimp only at l2 h1 h2 h3 ⊢
   refine wpS_bind (aO h2 (wpS_bind (aO (by omega) (wpS_bind (dj fL.1 (L.ib.at h2) (L.ia.at (by omega)) ?_)))))
   have e1:key b[ib]=K b ib:=(K_eq h2).symm
   have e2:key a[ia]=K a ia:=(K_eq (by omega)).symm
   dsimp only
   rw[e1,e2]
   by_cases c:K b ib<K a ia
   ·rw[if_pos (by simpa using c)]
    refine wpS_bind (aO h2 ?_)
    have h':=l2.pushB h2 λj j1 j2=>Int.le_trans (Int.le_of_lt c) (L.sa _ _ j1 j2)
    by_cases e:ib+1=b.size
    ·rw[if_pos (by simpa using e)]
     exact wpS_pure ⟨fL,h'.dnB e⟩
    ·rw[if_neg (by simpa using e)]
     split
     ·exact wpS_pure ⟨fL,h',h1,by show ib+1<_;omega,by show x+1<=ia+(ib+1);omega⟩
     ·exact wpS_pure ⟨rfl,fL,h',h1,by show ib+1<_;omega,by show x+(y+1)<=ia+(ib+1);omega⟩
   ·rw[if_neg (by simpa using c)]
    refine wpS_bind (aO (by omega) ?_)
    have h':=l2.pushA (by omega) λj j1 j2=>Int.le_trans (Int.not_lt.mp c) (L.sb _ _ j1 j2)
    by_cases e:ia+1+1=a.size
    ·rw[if_pos (by simpa using e)]
     exact wpS_pure ⟨fL,h'.lastA e L⟩
    ·rw[if_neg (by simpa using e)]
     split
     ·exact wpS_pure ⟨fL,h',by show ia+1+1<_;omega,h2,by show x+1<=ia+1+ib;omega⟩
     ·exact wpS_pure ⟨rfl,fL,h',by show ia+1+1<_;omega,h2,by show x+(y+1)<=ia+1+ib;omega⟩
  case post1=>
   rintro⟨c,out,ia,ib,ac,bc⟩ a7 ⟨fL,hp⟩
   cases c with
   |some r=>exact wpS_pure ⟨fL,r,rfl,hp⟩
   |none=>
    dsimp -zeta only
    refine wpS_bind (wpS_lift (wpAny_rule ⟨rfl,?_⟩))
    refine wpS_bind (wpS_mono (wpS_forRange (I:=λy c a7=>c.1=none/\P2 a b st (x+1) c a7) (Q:=λc a7=>P2 a b st (x+1) c a7) ?step2 ?fin2 ⟨rfl,fL,hp⟩) ?post2)
    case fin2=>exact λc a7 h=>h.2
    case step2=>
     rintro y ⟨c,out,ia,ib,mg,ac,bc⟩ a7 _ _ ⟨rfl,fL,l2,h1,h2,h3⟩
     dsimp only at l2 h1 h2 h3 ⊢
     by_cases hg:mg > 1
     case' pos=>rw[if_pos hg]
     case' neg=>rw[if_neg hg]
     all_goals
      refine wpS_bind (jf fL λt dN=>?_)
      refine wpS_bind (aO h2 (wpS_bind (ls dN.1 (L.ib.at h2) L.ia (λi j hij hj=>L.sa _ _ (by omega) (by omega)) (by omega) (by omega) λk k1 k2 k3=>?_)))
      have ek:key b[ib]=K b ib:=(K_eq h2).symm
      rw[ek]at k2 k3
      have k4:∀j,ia+k<=j->j<a.size->K b ib<=K a j:=λj j1 j2=>by
       have:=k3 (j - ia) (by omega) (by omega);rw[show ia+(j - ia)=j by omega]at this;exact Int.le_of_lt this
      dsimp only
      by_cases k0:k > 0
      case' pos=>
       rw[if_pos k0]
       have l3:=l2.takeA (k:=k) k2 (λj j1 j2=>L.sb _ _ j1 j2)
       have h4:x+1<=ia+k+ib:=by omega
       by_cases e:ia+k+1=a.size
       ·rw[if_pos (by simpa using e)]
        exact wpS_pure ⟨dN,l3.lastA e L⟩
       rw[if_neg (by simpa using e)]
       by_cases e2:ia+k=a.size
       ·rw[if_pos (by simpa using e2)]
        exact wpS_pure ⟨dN,l3.dnA e2⟩
       rw[if_neg (by simpa using e2)]
       have h5:ia+k+1<a.size:=by omega
       have k5:=k4
      case' neg=>
       rw[if_neg k0]
       have l3:=l2
       have h4:=h3
       have h5:=h1
       have k5:∀j,ia<=j->j<a.size->K b ib<=K a j:=λj j1 j2=>k4 j (by omega) j2
      all_goals
       clear l2 h1 h3 k1 k2 k3 k4
       refine wpS_bind (aO h2 ?_)
       have l4:=l3.pushB h2 k5
       by_cases e:ib+1=b.size
       ·rw[if_pos (by simpa using e)]
        exact wpS_pure ⟨dN,l4.dnB e⟩
       rw[if_neg (by simpa using e)]
       refine wpS_bind (aO (Nat.lt_of_succ_lt h5) (wpS_bind (lr dN.1 (L.ia.at (Nat.lt_of_succ_lt h5)) L.ib (λi j hij hj=>L.sb _ _ (by omega) (by omega)) (by omega) (by omega) λk k1 k2 k3=>?_)))
       rw[pU (Nat.lt_of_succ_lt h5)]at k2 k3
       have k4:∀j,ib+1+k<=j->j<b.size->K a _<=K b j:=λj j1 j2=>by
        have:=k3 (j - (ib+1)) (by omega) (by omega);rwa [show ib+1+(j - (ib+1))=j by omega]at this
       dsimp only
       by_cases q0:k > 0
       case' pos=>
        rw[if_pos q0]
        have l5:=l4.takeB (k:=k) (λi hi=>Int.le_of_lt (k2 i hi)) (λj hj hz=>L.sa _ _ hj hz)
        by_cases e2:ib+1+k=b.size
        ·rw[if_pos (by simpa using e2)]
         exact wpS_pure ⟨dN,l5.dnB e2⟩
        rw[if_neg (by simpa using e2)]
        have h6:ib+1+k<b.size:=by omega
        have k6:=k4
       case' neg=>
        rw[if_neg q0]
        have l5:=l4
        have h6:ib+1<b.size:=by omega
        have k6:=λj (j1:ib+1<=j) j2=>k4 j (by omega) j2
       all_goals
        refine wpS_bind (aO (Nat.lt_of_succ_lt h5) ?_)
        have l6:=l5.pushA (Nat.lt_of_succ_lt h5) k6
        split
        next e3=>exact wpS_pure ⟨dN,l6.lastA (by simpa using e3) L⟩
        next e3=>
         have h7:=Nat.lt_of_le_of_ne h5 (by simpa using e3)
         split
         ·exact wpS_pure ⟨dN,l6,h7,h6,by dsimp only;omega⟩
         ·exact wpS_pure ⟨rfl,dN,l6,h7,h6,by dsimp only;omega⟩
    case post2=>
     rintro⟨c,out,ia,ib,mg,ac,bc⟩ a7 ⟨fL,hp⟩
     cases c with
     |some r=>exact wpS_pure ⟨fL,r,rfl,hp⟩
     |none=>
      dsimp only
      exact wpS_bind (jf fL λt dN=>wpS_pure ⟨rfl,dN,hp⟩)
end
noncomputable def xQ:Array Keyed->Array Keyed->StateT SortSt Sem (Array Keyed):=sortPriv% PySem.Builtin.mergeHi
abbrev U2:=Option (Array Keyed)×Nat×Nat×Array Keyed×Nat×Nat×Nat
abbrev U1:=Option (Array Keyed)×Nat×Nat×Array Keyed×Nat×Nat
noncomputable def dh (a b out:Array Keyed)(na nb:Nat):Array Keyed:=a.extract 0 na++b.extract 0 nb++out.reverse
noncomputable def fstB (a b out:Array Keyed)(na nb:Nat):Array Keyed:=b.extract 0 nb++a.extract 0 na++out.reverse
def ge (p q:Keyed):Prop:=key q<=key p
structure Hi (a b:Array Keyed):Prop where
 ia:kn a.toList
 ib:kn b.toList
 sa:jP a
 sb:jP b
 fst:∀j,j<a.size->K b 0<=K a j
def HI (a b out:Array Keyed)(na nb:Nat):Prop:=MI ge a.toList b.toList out.toList (a.toList.take na).reverse (b.toList.take nb).reverse
theorem lu {a:Array Keyed}{n:Nat}{p:Keyed}(h:p∈(a.toList.take n).reverse):∃j,j<n/\j<a.size/\key p=K a j:=by
 have h:p∈(a.toList.drop 0).take n:=by simpa using h
 obtain⟨j,_,j2,j3,e⟩:=je h;exact⟨j,by omega,j3,e⟩
theorem xR (a:Array Keyed){k n:Nat}(h:k<=n):(a.toList.take n).reverse=((a.toList.drop k).take (n - k)).reverse++(a.toList.take k).reverse:=by
 rw[←List.reverse_append];congr 1;rw[←List.drop_take,show a.toList.take k=(a.toList.take n).take k by rw[List.take_take,Nat.min_eq_left h]];exact(List.take_append_drop k _).symm
section
variable {a b out:Array Keyed}{na nb k:Nat}
theorem HI.takeA (h:HI a b out na nb)(hk:k<=na){x:Int}(h1:∀j,k<=j->j<na->j<a.size->x<=K a j)(h2:∀j,j<nb->j<b.size->K b j<=x):HI a b (out++(a.extract k na).reverse) k nb:=by
 unfold HI at h ⊢;rw[xR a hk]at h;rw[Array.toList_append,Array.toList_reverse,dm];refine h.a λp hp q hq=>?_;obtain⟨j,j1,j2,j3,e⟩:=je (List.mem_reverse.mp hp);obtain⟨i,i1,i2,e2⟩:=lu hq;show key q<=key p;rw[e,e2];exact Int.le_trans (h2 i i1 i2) (h1 j j1 (by omega) j3)
theorem HI.swap (h:HI a b out na nb):HI b a out nb na:=MI.swap h
theorem HI.takeB (h:HI a b out na nb)(hk:k<=nb){x:Int}(h1:∀j,k<=j->j<nb->j<b.size->x<=K b j)(h2:∀j,j<na->j<a.size->K a j<=x):HI a b (out++(b.extract k nb).reverse) na k:=(h.swap.takeA hk h1 h2).swap
theorem xS (out a:Array Keyed){i n:Nat}(hi:i<a.size)(e:n=i+1):out.push a[i]=out++(a.extract i n).reverse:=by
 subst e;apply Array.ext';rw[Array.toList_push,Array.toList_append,Array.toList_reverse,dm,Nat.add_sub_cancel_left,kA hi];rfl
theorem HI.pushA (h:HI a b out na nb)(h0:0<na)(hi:na - 1<a.size)(h2:∀j,j<nb->j<b.size->K b j<=K a (na - 1)):HI a b (out.push a[na - 1]) (na - 1) nb:=by
 rw[xS out a hi (n:=na) (by omega)];exact h.takeA (by omega) (λj j1 j2 _=>by rw[show j=na - 1 by omega];exact Int.le_refl _) h2
theorem HI.pushB (h:HI a b out na nb)(h0:0<nb)(hi:nb - 1<b.size)(h2:∀j,j<na->j<a.size->K a j<=K b (nb - 1)):HI a b (out.push b[nb - 1]) na (nb - 1):=(h.swap.pushA h0 hi h2).swap
theorem Mg.rev {A B r:List Keyed}(h:Mg ge A B r):Mg le A B r.reverse:=⟨(List.reverse_perm r).trans h.1,List.pairwise_reverse.mpr h.2⟩
theorem uS (a:Array Keyed)(n:Nat):(a.extract 0 n).toList=a.toList.take n:=by rw[dm];rfl
theorem HI.dhA (h:HI a b out na nb)(e:na=0):lX a b (dh a b out na nb):=by
 unfold HI at h;unfold lX dh;subst e;have:=h.doneA.rev;rw[Array.toList_append,Array.toList_append,uS,uS,Array.toList_reverse];simpa using this
theorem HI.dhB (h:HI a b out na nb)(e:nb=0):lX a b (dh a b out na nb):=by
 unfold HI at h;unfold lX dh;subst e;have:=h.doneB.rev;rw[Array.toList_append,Array.toList_append,uS,uS,Array.toList_reverse];simpa using this
theorem HI.fstB (h:HI a b out na nb)(e:nb=1)(hb:0<b.size)(L:Hi a b):lX a b (fstB a b out na nb):=by
 unfold HI at h;unfold lX TS.fstB;subst e;have z:(b.toList.take 1).reverse=[b[0]]:=by
  have:b.toList=[b[0]]++b.toList.drop 1:=by have:=kA hb;simpa using this
  rw[this];rfl
 rw[z]at h;have:=(h.swap.last λp hp=>?_).rev
 ·have z2:b.toList.take 1=[b[0]]:=by rw[←List.reverse_reverse (b.toList.take 1),z];rfl
  rw[Array.toList_append,Array.toList_append,uS,uS,Array.toList_reverse,z2];refine⟨?_,by simpa using this.2⟩;have:=this.1.trans List.perm_append_comm;simpa using this
 ·obtain⟨j,_,j2,e2⟩:=lu hp;show key _<=key p;rw[e2];have:=L.fst j j2;rw[K_eq (xs:=b) hb]at this;exact this
end
def V2 (a b:Array Keyed)(st:SortSt)(n:Nat)(c:U2)(a7:SortSt):Prop:=Sm st a7/\match c.1 with
 |some r=>lX a b r
 |none=>HI a b c.2.2.2.1 c.2.1 c.2.2.1/\(0<c.2.1/\c.2.1<=a.size)/\(1<c.2.2.1/\c.2.2.1<=b.size)/\c.2.1+c.2.2.1<=n
def V1 (a b:Array Keyed)(st:SortSt)(n:Nat)(c:U1)(a7:SortSt):Prop:=Sm st a7/\match c.1 with
 |some r=>lX a b r
 |none=>HI a b c.2.2.2.1 c.2.1 c.2.2.1/\(0<c.2.1/\c.2.1<=a.size)/\(1<c.2.2.1/\c.2.2.1<=b.size)/\c.2.1+c.2.2.1<=n
section
variable {prog:Program}{w:World}{A:Around}{E:Value->Shared->Prop}{s:Shared}{a b out:Array Keyed}{na nb mg ac bc n:Nat}{st a7:SortSt}
theorem jQ {a:Array Keyed}(h:jP a):a.toList.Pairwise le:=by
 rw[List.pairwise_iff_getElem];intro i j hi hj hij;have:=h i j (by omega) (by simpa using hj);rw[K_eq (by simpa using hi),K_eq (by simpa using hj)]at this;simpa [le]using this
theorem pW {Q:Array Keyed->SortSt->Prop}(L:Hi a b)(ha:0<a.size)(hb:0<b.size)(h0:K b (b.size - 1)<=K a (a.size - 1))(hs:Sm st st)(h:∀r t,lX a b r->Sm st t->Q r t):wpS (model prog w) A E s (xQ a b) Q st:=by
 refine wpS_bind (wpS_lift (wpAny_rule ⟨rfl,?_⟩));refine wpS_bind (aO (by omega) ?_);have tk:∀c:Array Keyed,c.toList.take c.size=c.toList:=λc=>List.take_of_length_le (by simp);have l0:HI a b #[] a.size b.size:=by
  unfold HI;rw[tk,tk];exact⟨by simpa using(List.reverse_perm a.toList).append (List.reverse_perm b.toList),List.pairwise_reverse.mpr (jQ L.sa),List.pairwise_reverse.mpr (jQ L.sb)⟩
 have l1:HI a b #[a[a.size - 1]] (a.size - 1) b.size:=l0.pushA ha (by omega) λj j1 j2=>Int.le_trans (L.sb j (b.size - 1) (by omega) (by omega)) h0;by_cases e1:a.size - 1=0
 ·rw[if_pos (by simpa using e1)];exact wpS_pure (h _ _ (l1.dhA e1) hs)
 rw[if_neg (by simpa using e1)];by_cases e2:b.size=1
 ·rw[if_pos (by simpa using e2)];exact wpS_pure (h _ _ (l1.fstB e2 hb L) hs)
 rw[if_neg (by simpa using e2)];refine wpS_bind (wpS_get ?_);refine wpS_bind (wpS_mono (wpS_forRange (I:=λx c a7=>c.1=none/\Sm st a7/\HI a b c.2.2.2.1 c.2.1 c.2.2.1/\(0<c.2.1/\c.2.1<=a.size)/\(1<c.2.2.1/\c.2.2.1<=b.size)/\c.2.1+c.2.2.1+x<=a.size+b.size)
  (Q:=λc a7=>Sm st a7/\∃r,c.1=some r/\lX a b r) ?step ?fin ⟨rfl,hs,l1,by show 0<a.size - 1/\a.size - 1<=a.size;omega,by show 1<b.size/\b.size<=b.size;omega,by show a.size - 1+b.size+0<=_;omega⟩) ?post)
 case fin=>
  rintro⟨c,na,nb,out,mg⟩ a7 ⟨rfl,_,_,h1,h2,h3⟩
  dsimp only at h1 h2 h3
  omega
 case post=>
  rintro⟨c,na,nb,out,mg⟩ a7 ⟨gV,r,rfl,hr⟩
  exact wpS_pure (h _ _ hr gV)
 case step=>
  rintro x ⟨c,na,nb,out,mg⟩ a7 _ hx ⟨rfl,fL,l2,h1,h2,h3⟩
  dsimp only at l2 h1 h2 h3
  refine wpS_bind (wpS_mono (wpS_forRange (I:=λy c a7=>c.1=none/\V1 a b st (a.size+b.size - x - y) c a7/\x+y<=a.size+b.size) (Q:=λc a7=>V1 a b st (a.size+b.size - x - 1) c a7) ?step1 ?fin1 ⟨rfl,⟨fL,l2,h1,h2,by dsimp only;omega⟩,by omega⟩) ?post1)
  case fin1=>
   rintro⟨c,na,nb,out,ac,bc⟩ a7 ⟨rfl,⟨_,_,h1,h2,h3⟩,h4⟩
   dsimp only at h1 h2 h3
   omega
  case step1=>
   rintro y ⟨c,na,nb,out,ac,bc⟩ a7 _ hy ⟨rfl,⟨fL,l2,h1,h2,h3⟩,h4⟩
   dsimp only at l2 h1 h2 h3
   have b1:nb - 1<b.size:=by omega
   have a1:na - 1<a.size:=by omega
   refine wpS_bind (aO b1 (wpS_bind (aO a1 (wpS_bind (dj fL.1 (L.ib.at b1) (L.ia.at a1) ?_)))))
   dsimp only
   rw[pU b1,pU a1]
   by_cases c:K b (nb - 1)<K a (na - 1)
   ·rw[if_pos (by simpa using c)]
    refine wpS_bind (aO a1 ?_)
    have h':=l2.pushA h1.1 a1 λj j1 j2=>Int.le_trans (L.sb j (nb - 1) (by omega) b1) (Int.le_of_lt c)
    by_cases e:na - 1=0
    ·rw[if_pos (by simpa using e)]
     exact wpS_pure ⟨fL,h'.dhA e⟩
    ·rw[if_neg (by simpa using e)]
     split
     ·exact wpS_pure ⟨fL,h',by show 0<na - 1/\na - 1<=_;omega,h2,by show na - 1+nb<=_;omega⟩
     ·exact wpS_pure ⟨rfl,⟨fL,h',by show 0<na - 1/\na - 1<=_;omega,h2,by show na - 1+nb<=_;omega⟩,by omega⟩
   ·rw[if_neg (by simpa using c)]
    refine wpS_bind (aO b1 ?_)
    have h':=l2.pushB (by omega) b1 λj j1 j2=>Int.le_trans (L.sa j (na - 1) (by omega) a1) (Int.not_lt.mp c)
    by_cases e:nb - 1=1
    ·rw[if_pos (by simpa using e)]
     exact wpS_pure ⟨fL,h'.fstB e (by omega) L⟩
    ·rw[if_neg (by simpa using e)]
     split
     ·exact wpS_pure ⟨fL,h',h1,by show 1<nb - 1/\nb - 1<=_;omega,by show na+(nb - 1)<=_;omega⟩
     ·exact wpS_pure ⟨rfl,⟨fL,h',h1,by show 1<nb - 1/\nb - 1<=_;omega,by show na+(nb - 1)<=_;omega⟩,by omega⟩
  case post1=>
   rintro⟨c,na,nb,out,ac,bc⟩ a7 ⟨fL,hp⟩
   cases c with
   |some r=>exact wpS_pure ⟨fL,r,rfl,hp⟩
   |none=>
    dsimp -zeta only
    refine wpS_bind (wpS_lift (wpAny_rule ⟨rfl,?_⟩))
    refine wpS_bind (wpS_mono (wpS_forRange (I:=λy c a7=>c.1=none/\V2 a b st (a.size+b.size - x - 1) c a7) (Q:=λc a7=>V2 a b st (a.size+b.size - x - 1) c a7) ?step2 ?fin2 ⟨rfl,fL,hp⟩) ?post2)
    case fin2=>exact λc a7 h=>h.2
    case step2=>
     rintro y ⟨c,na,nb,out,mg,ac,bc⟩ a7 _ _ ⟨rfl,fL,l2,h1,h2,h3⟩
     dsimp only at l2 h1 h2 h3 ⊢
     have b1:nb - 1<b.size:=by omega
     by_cases hg:mg > 1
     case' pos=>rw[if_pos hg]
     case' neg=>rw[if_neg hg]
     all_goals
      refine wpS_bind (jf fL λt dN=>?_)
      refine wpS_bind (aO b1 (wpS_bind (ls dN.1 (L.ib.at b1) L.ia (λi j hij hj=>L.sa _ _ (by omega) (by omega)) (by omega) (by omega) λk k1 k2 k3=>?_)))
      rw[pU b1]at k2 k3
      simp only[Nat.zero_add]at k2 k3
      dsimp only
      by_cases k0:na - k > 0
      case' pos=>
       rw[if_pos k0]
       have l3:=l2.takeA (k:=k) k1 (λj j1 j2 _=>Int.le_of_lt (k3 j j1 j2)) (λj j1 j2=>L.sb _ _ (by omega) b1)
       by_cases e:k=0
       ·rw[if_pos (by simpa using e)]
        exact wpS_pure ⟨dN,l3.dhA e⟩
       rw[if_neg (by simpa using e)]
       have h4:k+nb<=a.size+b.size - x - 1:=by omega
       have h5:0<k/\k<=a.size:=by omega
       have a1:k - 1<a.size:=by omega
       have k5:∀j,j<k->j<a.size->K a j<=K b (nb - 1):=λj j1 j2=>k2 j j1
      case' neg=>
       rw[if_neg k0]
       have l3:=l2
       have h4:=h3
       have h5:=h1
       have a1:na - 1<a.size:=by omega
       have k5:∀j,j<na->j<a.size->K a j<=K b (nb - 1):=λj j1 j2=>k2 j (by omega)
      all_goals
       clear l2 h1 h3 k1 k2 k3
       refine wpS_bind (aO b1 ?_)
       have l4:=l3.pushB (by omega) b1 k5
       by_cases e:nb - 1=1
       ·rw[if_pos (by simpa using e)]
        exact wpS_pure ⟨dN,l4.fstB e (by omega) L⟩
       rw[if_neg (by simpa using e)]
       refine wpS_bind (aO a1 (wpS_bind (lr dN.1 (L.ia.at a1) L.ib (λi j hij hj=>L.sb _ _ (by omega) (by omega)) (by omega) (by omega) λm m1 m2 m3=>?_)))
       rw[pU a1]at m2 m3
       simp only[Nat.zero_add]at m2 m3
       dsimp only
       by_cases q0:nb - 1 - m > 0
       case' pos=>
        rw[if_pos q0]
        have l5:=l4.takeB (k:=m) m1 (λj j1 j2 _=>m3 j j1 j2) (λj hj hz=>L.sa _ _ (by omega) a1)
        by_cases e2:m=1
        ·rw[if_pos (by simpa using e2)]
         exact wpS_pure ⟨dN,l5.fstB e2 (by omega) L⟩
        rw[if_neg (by simpa using e2)]
        by_cases e3:m=0
        ·rw[if_pos (by simpa using e3)]
         exact wpS_pure ⟨dN,l5.dhB e3⟩
        rw[if_neg (by simpa using e3)]
        have h6:1<m/\m<=b.size:=by omega
        have h7:m<=nb:=by omega
        have k6:=λj (j1:j<m) (j2:j<b.size)=>Int.le_of_lt (m2 j j1)
       case' neg=>
        rw[if_neg q0]
        have l5:=l4
        have h6:1<nb - 1/\nb - 1<=b.size:=by omega
        have h7:nb - 1<=nb:=by omega
        have k6:=λj (j1:j<nb - 1) (j2:j<b.size)=>Int.le_of_lt (m2 j (by omega))
       all_goals
        refine wpS_bind (aO a1 ?_)
        have l6:=l5.pushA h5.1 a1 k6
        split
        next e3=>exact wpS_pure ⟨dN,l6.dhA (by simpa using e3)⟩
        next e3=>
         have e4:=Nat.pos_of_ne_zero (λz=>e3 (by simpa using z))
         have h8:=vR (Nat.sub_le _ 1) h5.2
         split
         ·exact wpS_pure ⟨dN,l6,⟨e4,h8⟩,h6,by dsimp only;omega⟩
         ·exact wpS_pure ⟨rfl,dN,l6,⟨e4,h8⟩,h6,by dsimp only;omega⟩
    case post2=>
     rintro⟨c,na,nb,out,mg,ac,bc⟩ a7 ⟨fL,hp⟩
     cases c with
     |some r=>exact wpS_pure ⟨fL,r,rfl,hp⟩
     |none=>
      dsimp only
      obtain⟨p1,p2,p3,p4⟩:=hp
      exact wpS_bind (jf fL λt dN=>wpS_pure ⟨rfl,dN,p1,p2,p3,by dsimp only at p4 ⊢;omega⟩)
end
theorem Aa {l:List Keyed}{i:Nat}(p:Keyed)(h:i<l.length):l.set i p=l.take i++p::l.drop (i+1):=List.set_eq_take_append_cons_drop.trans (if_pos h)
theorem t7 (sa:Nat):∀(m:List Keyed)(c:Nat)(du:Array Keyed),sa+c+m.length<=du.size ->
  ((m.zipIdx c).foldl (λ(a:Array Keyed) (pj:Keyed×Nat)=>a.setIfInBounds (sa+pj.2) pj.1) du).toList=du.toList.take (sa+c)++m++du.toList.drop (sa+c+m.length)
 |[],c,du,_=>by simp
 |p::m,c,du,h=>by
  rw[vD]at h;rw[List.zipIdx_cons,List.foldl_cons,t7 sa m (c+1) _ (by rw[Array.size_setIfInBounds];omega)];rw[Array.toList_setIfInBounds,Aa p (by rw[vF];dsimp only;omega)];dsimp only;have hl:(du.toList.take (sa+c)).length=sa+c:=by rw[List.length_take,vF];omega
  have e1:(du.toList.take (sa+c)++p::du.toList.drop (sa+c+1)).take (sa+(c+1))=du.toList.take (sa+c)++[p]:=by
   rw[show sa+(c+1)=(du.toList.take (sa+c)).length+1 by omega,List.take_length_add_append];rfl
  have e2:(du.toList.take (sa+c)++p::du.toList.drop (sa+c+1)).drop (sa+(c+1)+m.length)=du.toList.drop (sa+c+(m.length+1)):=by
   rw[show sa+(c+1)+m.length=(du.toList.take (sa+c)).length+(m.length+1) by omega,List.drop_length_add_append,List.drop_succ_cons,List.drop_drop];congr 1;omega
  rw[e1,e2];simp
theorem jR {a:Array Keyed}{i j m:Nat}(h:i+m<j)(hj:j<=a.size):K (a.extract i j) m=K a (i+m):=by
 apply K_congr;rw[Array.getElem?_extract_of_lt (by omega),getElem?_pos]
theorem SortedTo.of {a:Array Keyed}(h:a.toList.Pairwise le):jP a:=by
 intro i j hij hj;rcases Nat.eq_or_lt_of_le hij with e|e
 ·subst e;exact Int.le_refl _
 ·have:=List.pairwise_iff_getElem.mp h i j (by simp;omega) (by simpa using hj) e;rw[K_eq (by omega),K_eq hj];simpa [le]using this
structure F7 (a₀:Array Keyed)(n1 n2 p1 p2:Nat)(st:SortSt):Prop where
 perm:(arrOf st).Perm a₀
 kind:kindOf st=oneType'
 failed:failedOf st=none
 pend:pendingOf st=#[(0,n1,p1),(n1,n2,p2)]
 size:n1+n2=a₀.size
 pos:0<n1/\0<n2
 s1:∀i j,i<=j->j<n1->K (arrOf st) i<=K (arrOf st) j
 s2:∀i j,n1<=i->i<=j->j<n1+n2->K (arrOf st) i<=K (arrOf st) j
section
variable {prog:Program}{w:World}{A:Around}{E:Value->Shared->Prop}{s:Shared}{a₀:Array Keyed}{n1 n2 p1 p2:Nat}{st:SortSt}
theorem Ab {t:SortSt}{Q:PUnit->SortSt->Prop}(h:Q ⟨⟩ t):wpS (model prog w) A E s (set t:StateT SortSt Sem PUnit) Q st:=by
 unfold wpS;rw[StateT.run_set];exact wY ⟨rfl,h⟩
theorem pX {Q:Bool->SortSt->Prop}(h0:IntKeys a₀)(T:F7 a₀ n1 n2 p1 p2 st)
  (h:∀a7,(arrOf a7).Perm a₀->failedOf a7=none->pendingOf a7=#[(0,n1+n2,p1)]->SortedTo (arrOf a7) a₀.size->Q true a7):wpS (model prog w) A E s (mergeAt' 0) Q st:=by
 have hz:(arrOf st).size=n1+n2:=by rw[T.perm.size_eq,T.size]
 have hI:kn (arrOf st).toList:=λp hp=>h0 p ((Array.perm_iff_toList_perm.mp T.perm).mem_iff.mp hp);obtain⟨q1,q2⟩:=T.pos;have MC:=T.size;refine wpS_bind (wpS_get ?_);have g0:(#[(0,n1,p1),(n1,n2,p2)]:Array (Nat×Nat×Nat))[0]? = some (0,n1,p1):=rfl;have g1:(#[(0,n1,p1),(n1,n2,p2)]:Array (Nat×Nat×Nat))[0+1]? = some (n1,n2,p2):=rfl;have LO:=hz;unfold arrOf at LO;have pd:=T.pend;unfold pendingOf at pd;rw[pd,g0,g1];dsimp -zeta only;refine wpS_bind (Ab ?_);refine wpS_bind (aO (by omega) (wpS_bind (ls T.kind (hI.at (by omega)) hI (λi j hij hj=>T.s1 _ _ (by omega) (by omega)) (by omega) (by omega) λk k1 k2 k3=>?_)));dsimp -zeta only;simp only[Nat.zero_add]at k2 k3 ⊢;have ek:key (arrOf st)[n1]=K (arrOf st) n1:=(K_eq (by omega)).symm;rw[ek]at k2 k3;have ep:((#[(0,n1,p1),(n1,n2,p2)]:Array (Nat×Nat×Nat)).setIfInBounds 0 (0,n1+n2,p1)).eraseIdxIfInBounds 1=#[(0,n1+n2,p1)]:=by apply Array.ext';simp[Array.eraseIdxIfInBounds]
 rw[ep];by_cases e1:n1 - k=0
 ·rw[if_pos (by simpa using e1)];refine wpS_pure (h _ T.perm T.failed rfl λi j hij hj=>?_);show K (arrOf st) i<=K (arrOf st) j;by_cases c1:j<n1
  ·exact T.s1 i j hij c1
  ·by_cases c2:i<n1
   ·exact Int.le_trans (k2 i (by omega)) (T.s2 n1 j (vT _) (by omega) (by omega))
   ·exact T.s2 i j (by omega) hij (by omega)
 rw[if_neg (by simpa using e1)];refine wpS_bind (aO (by omega) (wpS_bind (lr T.kind (hI.at (by omega)) hI (λi j hij hj=>T.s2 _ _ (by omega) (by omega) (by omega)) (by omega) (by omega) λm m1 m2 m3=>?_)));have em:key ((arrOf st)[k+(n1 - k) - 1]'(by omega))=K (arrOf st) (n1 - 1):=by
  refine(K_eq (by omega)).symm.trans ?_;rw[show k+(n1 - k) - 1=n1 - 1 by omega]
 rw[em]at m2 m3;dsimp only;by_cases e2:m=0
 ·rw[if_pos (by simpa using e2)];refine wpS_pure (h _ T.perm T.failed rfl λi j hij hj=>?_);show K (arrOf st) i<=K (arrOf st) j;by_cases c1:j<n1
  ·exact T.s1 i j hij c1
  ·by_cases c2:i<n1
   ·have:=m3 (j - n1) (by omega) (by omega);rw[show n1+(j - n1)=j by omega]at this;exact Int.le_trans (T.s1 i (n1 - 1) (by omega) (by omega)) this
   ·exact T.s2 i j (by omega) hij (by omega)
 rw[if_neg (by simpa using e2)];have hx:((arrOf st).extract k n1).size=n1 - k:=by rw[Array.size_extract];omega
 have hy:((arrOf st).extract n1 (n1+m)).size=m:=by rw[Array.size_extract];omega
 have ix:kn ((arrOf st).extract k n1).toList:=λp hp=>hI p (by rw[dm]at hp;exact List.mem_of_mem_drop (List.mem_of_mem_take hp));have iy:kn ((arrOf st).extract n1 (n1+m)).toList:=λp hp=>hI p (by rw[dm]at hp;exact List.mem_of_mem_drop (List.mem_of_mem_take hp));have sx:jP ((arrOf st).extract k n1):=λi j hij hj=>by
  rw[hx]at hj;rw[jR (by omega) (by omega),jR (by omega) (by omega)];exact T.s1 _ _ (by omega) (by omega)
 have sy:jP ((arrOf st).extract n1 (n1+m)):=λi j hij hj=>by
  rw[hy]at hj;rw[jR (by omega) (by omega),jR (by omega) (by omega)];exact T.s2 _ _ (by omega) (by omega) (by omega)
 have below:∀j,j<m->K ((arrOf st).extract n1 (n1+m)) j<=K ((arrOf st).extract k n1) (((arrOf st).extract k n1).size - 1):=λj hj=>by
  rw[hx,jR (by omega) (by omega),jR (by omega) (by omega),show k+(n1 - k - 1)=n1 - 1 by omega];exact Int.le_of_lt (m2 j hj)
 have above:∀j,j<n1 - k->K ((arrOf st).extract n1 (n1+m)) 0<=K ((arrOf st).extract k n1) j:=λj hj=>by
  rw[jR (by omega) (by omega),jR (by omega) (by omega)];exact Int.le_of_lt (k3 (k+j) (by omega) (by omega))
 have fin:∀(r:Array Keyed)(t:SortSt),lX ((arrOf st).extract k n1) ((arrOf st).extract n1 (n1+m)) r->Sm (setPending st #[(0,n1+n2,p1)]) t->failedOf t=none/\Q true (setArr t (List.foldl (λ(a:Array Keyed) (x:Keyed×Nat)=>a.setIfInBounds (k+x.snd) x.fst) (arrOf t) r.toList.zipIdx)):=λr t hr ht=>by
  obtain⟨t1,t2,t3,t4⟩:=ht;have Ka:failedOf t=none:=t4.trans T.failed;have Kb:arrOf t=arrOf st:=t2;have hl:r.toList.length=(n1 - k)+m:=by
   rw[hr.1.length_eq,uZ,vF,vF,hx,hy]
  have pa:=t7 k r.toList 0 (arrOf st) (by rw[hl];omega);rw[hl,show k+0=k by omega,show k+(n1 - k+m)=n1+m by omega]at pa;have LQ:(arrOf st).toList=(arrOf st).toList.take k++(((arrOf st).extract k n1).toList++((arrOf st).extract n1 (n1+m)).toList)++(arrOf st).toList.drop (n1+m):=by
   rw[dm,dm,show n1+m - n1=m by omega];have z1:=lq (arrOf st) n1 m;have z2:=lq (arrOf st) k (n1 - k);rw[show k+(n1 - k)=n1 by omega,z1]at z2;rw[List.append_assoc,List.append_assoc,←z2,List.take_append_drop]
  refine⟨Ka,h _ ?_ Ka t3 ?_⟩
  ·show(List.foldl (λ(a:Array Keyed) (x:Keyed×Nat)=>a.setIfInBounds (k+x.snd) x.fst) (arrOf t) r.toList.zipIdx).Perm a₀;rw[Kb];refine Array.Perm.trans (Array.perm_iff_toList_perm.mpr ?_) T.perm;rw[pa];refine List.Perm.trans ?_ (List.Perm.of_eq LQ.symm);exact((List.Perm.refl _).append hr.1).append (List.Perm.refl _)
  ·show SortedTo (List.foldl (λ(a:Array Keyed) (x:Keyed×Nat)=>a.setIfInBounds (k+x.snd) x.fst) (arrOf t) r.toList.zipIdx) a₀.size;rw[Kb];have ps:(List.foldl (λ(a:Array Keyed) (x:Keyed×Nat)=>a.setIfInBounds (k+x.snd) x.fst) (arrOf st) r.toList.zipIdx).toList.Pairwise le:=by
    rw[pa];have F8:∀p∈r.toList,(∃j,k<=j/\j<n1/\key p=K (arrOf st) j)∨∃j,n1<=j/\j<n1+m/\key p=K (arrOf st) j:=λp hp=>by
     rcases List.mem_append.mp (hr.1.mem_iff.mp hp)with hp|hp
     ·rw[dm]at hp;obtain⟨j,j1,j2,_,e⟩:=je hp;exact .inl ⟨j,j1,by omega,e⟩
     ·rw[dm]at hp;obtain⟨j,j1,j2,_,e⟩:=je hp;exact .inr ⟨j,j1,by omega,e⟩
    have Io:∀p∈(arrOf st).toList.drop (n1+m),∃j,n1+m<=j/\j<n1+n2/\key p=K (arrOf st) j:=λp hp=>by
     obtain⟨j,j1,j2,e⟩:=ln hp;exact⟨j,j1,by omega,e⟩
    have F9:∀p∈(arrOf st).toList.take k,∃j,j<k/\key p=K (arrOf st) j:=λp hp=>by
     obtain⟨j,j1,j2,e⟩:=lu (List.mem_reverse.mpr hp);exact⟨j,j1,e⟩
    have Kc:∀j,n1+m<=j->j<n1+n2->K (arrOf st) (n1 - 1)<=K (arrOf st) j:=λj j1 j2=>by
     have:=m3 (j - n1) (by omega) (by omega);rwa [show n1+(j - n1)=j by omega]at this
    refine List.pairwise_append.mpr ⟨List.pairwise_append.mpr ⟨?_,hr.2,λp hp q hq=>?_⟩,?_,λp hp q hq=>?_⟩
    ·rw[List.pairwise_iff_getElem];intro i j hi hj hij;rw[List.length_take,vF]at hi hj;have:=T.s1 i j (by omega) (by omega);rw[K_eq (by omega),K_eq (by omega)]at this;rw[List.getElem_take,List.getElem_take];simpa [le]using this
    ·obtain⟨i,i1,e⟩:=F9 p hp;show key p<=key q;rcases F8 q hq with⟨j,j1,j2,e2⟩|⟨j,j1,j2,e2⟩
     ·rw[e,e2];exact T.s1 i j (by omega) j2
     ·rw[e,e2];exact Int.le_trans (k2 i i1) (T.s2 n1 j (vT _) j1 (by omega))
    ·rw[List.pairwise_iff_getElem];intro i j hi hj hij;rw[List.length_drop,vF]at hi hj;have:=T.s2 (n1+m+i) (n1+m+j) (by omega) (by omega) (by omega);rw[K_eq (by omega),K_eq (by omega)]at this;rw[List.getElem_drop,List.getElem_drop];simpa [le]using this
    ·obtain⟨j,j1,j2,e2⟩:=Io q hq;show key p<=key q;rw[e2];rcases List.mem_append.mp hp with hp|hp
     ·obtain⟨i,i1,e⟩:=F9 p hp;rw[e];exact Int.le_trans (T.s1 i (n1 - 1) (by omega) (by omega)) (Kc j j1 j2)
     ·rcases F8 p hp with⟨i,i1,i2,e⟩|⟨i,i1,i2,e⟩
      ·rw[e];exact Int.le_trans (T.s1 i (n1 - 1) (by omega) (by omega)) (Kc j j1 j2)
      ·rw[e];exact T.s2 i j i1 (by omega) j2
   intro i j hij hj;refine SortedTo.of ps i j hij ?_;have:=congrArg List.length pa;rw[uZ,uZ,List.length_take,List.length_drop,vF,hl,vF]at this;omega
 have Kd:Sm (setPending st #[(0,n1+n2,p1)]) (setPending st #[(0,n1+n2,p1)]):=⟨T.kind,rfl,rfl,rfl⟩;have put:∀(r:Array Keyed)(t:SortSt),lX ((arrOf st).extract k n1) ((arrOf st).extract n1 (n1+m)) r->Sm (setPending st #[(0,n1+n2,p1)]) t->∀ {v:Bool}{Q':Bool->SortSt->Prop},v=(failedOf t).isNone->Q'=Q->wpS (model prog w) A E s (pure v) Q' (setArr t (List.foldl (λ(a:Array Keyed) (x:Keyed×Nat)=>a.setIfInBounds (k+x.snd) x.fst) (arrOf t) r.toList.zipIdx)):=λr t hr ht v Q' e e2=>by
  obtain⟨f1,f2⟩:=fin r t hr ht;rw[f1]at e;subst e;subst e2;exact wpS_pure f2
 split
 ·exact wpS_bind (pV (a:=(arrOf st).extract k n1) (b:=(arrOf st).extract n1 (n1+m)) ⟨ix,iy,sx,sy,λj hj=>below j (by omega)⟩ (by omega) (by omega) (above 0 (by omega)) Kd λr t hr ht=>wpS_bind (wpS_modify (wpS_bind (wpS_get (put r t hr ht rfl rfl)))))
 ·refine wpS_bind (pW (a:=(arrOf st).extract k n1) (b:=(arrOf st).extract n1 (n1+m)) ⟨ix,iy,sx,sy,λj hj=>above j (by omega)⟩ (by omega) (by omega) ?_ Kd λr t hr ht=>wpS_bind (wpS_modify (wpS_bind (wpS_get (put r t hr ht rfl rfl)))));rw[hy];exact below (m - 1) (by omega)
end
structure Bs (a₀:Array Keyed)(lo:Nat)(s₀ st:SortSt):Prop where
 perm:(arrOf st).Perm a₀
 kind:kindOf st=oneType'
 failed:failedOf st=none
 pend:pendingOf st=pendingOf s₀
 low:∀i,i<lo->K (arrOf st) i=K (arrOf s₀) i
section
variable {a₀:Array Keyed}{st s₀:SortSt}{lo n:Nat}{xs:Array Keyed}
theorem Bs.size (h:Bs a₀ lo s₀ st):(arrOf st).size=a₀.size:=h.perm.size_eq
theorem Bs.setArr (h:Bs a₀ lo s₀ st){xs:Array Keyed}(hp:xs.Perm (arrOf st))(hl:∀i,i<lo->K xs i=K (arrOf st) i):Bs a₀ lo s₀ (setArr st xs) :=
 ⟨hp.trans h.perm,h.kind,h.failed,h.pend,λi hi=>(hl i hi).trans (h.low i hi)⟩
theorem Bs.at (h:Bs a₀ lo s₀ st)(h0:IntKeys a₀){i:Nat}(hi:i<a₀.size):∃t q,(arrOf st)[i]? = some (.int (K (arrOf st) i) t,q):=by
 have Fl:i<(arrOf st).size:=by rw[h.size];exact hi
 obtain⟨n,t,hn⟩:=h0 (arrOf st)[i] ((Array.perm_iff_toList_perm.mp h.perm).mem_iff.mp (by simp));refine⟨t,(arrOf st)[i].2,?_⟩;have e:(arrOf st)[i]? = some (arrOf st)[i]:=getElem?_pos _ i Fl;have e2:(arrOf st)[i]=(.int n t,(arrOf st)[i].2):=Prod.ext hn rfl;unfold K;rw[e,e2];rfl
def Sg (xs:Array Keyed)(lo n:Nat):Prop:=∀i j,i<=j->j<n->K xs (lo+i)<=K xs (lo+j)
def Ns (xs:Array Keyed)(lo n:Nat):Prop:=∀i j,i<=j->j<n->K xs (lo+j)<=K xs (lo+i)
theorem Sg.one:Sg xs lo 1:=λi j _ hj=>by rw[show i=j by omega];exact Int.le_refl _
theorem Sg.more (h:Sg xs lo n)(hn:1<=n)(c:K xs (lo+n - 1)<=K xs (lo+n)):Sg xs lo (n+1):=λi j hij hj=>by
 by_cases e:j<n
 ·exact h i j hij e
 ·rw[show j=n by omega];by_cases e2:i=n
  ·rw[e2];exact Int.le_refl _
  ·refine Int.le_trans (h i (n - 1) (by omega) (by omega)) ?_;rw[show lo+(n - 1)=lo+n - 1 by omega];exact c
theorem Ns.more (h:Ns xs lo n)(hn:1<=n)(c:K xs (lo+n)<=K xs (lo+n - 1)):Ns xs lo (n+1):=λi j hij hj=>by
 by_cases e:j<n
 ·exact h i j hij e
 ·rw[show j=n by omega];by_cases e2:i=n
  ·rw[e2];exact Int.le_refl _
  ·refine Int.le_trans c ?_;rw[show lo+n - 1=lo+(n - 1) by omega];exact h i (n - 1) (by omega) (by omega)
end
abbrev ED:=Option (Option Nat)×Nat
abbrev EE:=Option (Option Nat)×Nat×Nat
section
variable {prog:Program}{w:World}{A:Around}{E:Value->Shared->Prop}{s:Shared}{a₀:Array Keyed}{st s₀:SortSt}{lo a n eW:Nat}
theorem gL {i j:Nat}{Q:Option Bool->SortSt->Prop}(hB:Bs a₀ lo s₀ st)(h0:IntKeys a₀)(hi:i<a₀.size)(hj:j<a₀.size)
  (h:Q (some (decide (K (arrOf st) i<K (arrOf st) j))) st):wpS (model prog w) A E s (ltAt' i j) Q st:=by
 obtain⟨t,p,e1⟩:=hB.at h0 hi;obtain⟨u,q,e2⟩:=hB.at h0 hj;exact wpS_ltAt hB.kind e1 e2 h
theorem jg {c:Prop}[Decidable c]{β:Type}{m₁ m₂:M β}{Q:β->SortSt->Prop}(h1:c->wpS (model prog w) A E s m₁ Q st)(h2:¬c->wpS (model prog w) A E s m₂ Q st):wpS (model prog w) A E s (if decide c=true then m₁ else m₂) Q st:=by
 by_cases h:c
 ·rw[if_pos (by simpa using h)];exact h1 h
 ·rw[if_neg (by simpa using h)];exact h2 h
theorem t8 {f:Nat->ED->M (ForInStep ED)}{Q:ED->SortSt->Prop}
  (hf:∀x n (Q:ForInStep ED->SortSt->Prop),1<=n->n<eW->(K (arrOf st) (lo+n)<K (arrOf st) (lo+n - 1)->Q (.done (none,n)) st)->(¬K (arrOf st) (lo+n)<K (arrOf st) (lo+n - 1)->Q (.yield (none,n+1)) st)->wpS (model prog w) A E s (f x (none,n)) Q st)
  (ha:1<=a) (LR:a<=eW) (hs:Sg (arrOf st) lo a)
  (h:∀n,a<=n->n<=eW->Sg (arrOf st) lo n->(n=eW∨K (arrOf st) (lo+n)<K (arrOf st) (lo+n - 1))->Q (none,n) st):wpS (model prog w) A E s (forIn [a:eW] ((none,a):ED) f) Q st:=by
 refine wpS_forRange (I:=λx c a7=>a7=st/\c=(none,x)/\Sg (arrOf st) lo x) ?step ?fin ⟨rfl,rfl,hs⟩
 case fin=>
  rintro c a7 ⟨rfl,rfl,gV⟩
  rw[show max a eW=eW by omega]at gV ⊢
  exact h eW LR (vT _) gV (.inl rfl)
 case step=>
  rintro x c a7 hax hxn ⟨rfl,rfl,gV⟩
  exact hf x x _ (by omega) hxn (λc=>h x hax (by omega) gV (.inr c)) λc=>⟨rfl,rfl,gV.more (by omega) (Int.not_lt.mp c)⟩
theorem Bs.turn (hB:Bs a₀ lo s₀ st)(hn:lo+n<=a₀.size)(hs:Ns (arrOf st) lo n):
  Bs a₀ lo s₀ (PyProof.Rows.setArr st (mirror (arrOf st) lo (lo+n) ((lo+n - lo) / 2)))/\Sg (arrOf (PyProof.Rows.setArr st (mirror (arrOf st) lo (lo+n) ((lo+n - lo) / 2)))) lo n:=by
 have hsz:lo+n<=(arrOf st).size:=by rw[hB.size];omega
 refine⟨hB.setArr (mirror_perm _ _ _ _) λi hi=>by rw[K_mirror hsz,if_neg (by omega)],λi j hij hj=>?_⟩;show K (mirror (arrOf st) lo (lo+n) ((lo+n - lo) / 2)) (lo+i)<=K (mirror (arrOf st) lo (lo+n) ((lo+n - lo) / 2)) (lo+j);rw[K_mirror hsz,K_mirror hsz,if_pos (by omega),if_pos (by omega)];have:=hs (n - 1 - j) (n - 1 - i) (by omega) (by omega);rwa [show lo+(n - 1 - i)=lo+(lo+n) - 1 - (lo+i) by omega,show lo+(n - 1 - j)=lo+(lo+n) - 1 - (lo+j) by omega]at this
theorem Ac {f:Nat->EE->M (ForInStep EE)}{Q:EE->SortSt->Prop}
  (hf:∀x n q a7 (Q:ForInStep EE->SortSt->Prop),Bs a₀ lo s₀ a7->1<=n->n<eW ->
   (K (arrOf a7) (lo+n)<K (arrOf a7) (lo+n - 1)->Q (.yield (none,n+1,0)) (if q > 0 then PyProof.Rows.setArr a7 (mirror (arrOf a7) (lo+n - (q+1)) (lo+n) ((lo+n - (lo+n - (q+1))) / 2))else a7)) ->
   (K (arrOf a7) (lo+n - 1)<K (arrOf a7) (lo+n)->Q (.done (none,n,q)) a7)->(K (arrOf a7) (lo+n)=K (arrOf a7) (lo+n - 1)->Q (.yield (none,n+1,q+1)) a7)->wpS (model prog w) A E s (f x (none,n,q)) Q a7)
  (hn:lo+eW<=a₀.size) (h1:1<=n) (FC:n<=eW) (hB:Bs a₀ lo s₀ st) (hs:Ns (arrOf st) lo n)
  (h:∀m qI a7,Bs a₀ lo s₀ a7->n<=m->m<=eW->Ns (arrOf a7) lo m->qI+1<=m->(∀i,lo+m - (qI+1)<=i->i<lo+m->K (arrOf a7) i=K (arrOf a7) (lo+m - 1))->Q (none,m,qI) a7):
  wpS (model prog w) A E s (forIn [n:eW] ((none,n,0):EE) f) Q st:=by
 refine wpS_forRange (I:=λx c a7=>∃qI,c=(none,x,qI)/\Bs a₀ lo s₀ a7/\Ns (arrOf a7) lo x/\qI+1<=x /\
   (∀i,lo+x - (qI+1)<=i->i<lo+x->K (arrOf a7) i=K (arrOf a7) (lo+x - 1))) ?step ?fin ⟨0,rfl,hB,hs,by omega,λi h1 h2=>by congr 1;omega⟩
 case fin=>
  rintro c a7 ⟨qI,rfl,kc,gV,hq,he⟩
  rw[show max n eW=eW by omega]at gV hq he ⊢
  exact h eW qI a7 kc FC (vT _) gV hq he
 case step=>
  rintro x c a7 hax hxn ⟨qI,rfl,kc,gV,hq,he⟩
  have hsz:lo+x<=(arrOf a7).size:=by rw[kc.size];omega
  refine hf x x qI a7 _ kc (by omega) hxn (λc=>?_) (λc=>h x qI a7 kc hax (by omega) gV hq he) λc=>⟨qI+1,rfl,kc,gV.more (by omega) (Int.le_of_eq c),by omega,λi h1 h2=>?_⟩
  ·by_cases hneq:qI > 0
   ·rw[if_pos hneq]
    have km:=K_mirror_equal hsz he
    refine⟨0,rfl,kc.setArr (mirror_perm _ _ _ _) (λi _=>km i),Ns.more (λi j hij hj=>?_) (by omega) ?_,by omega,λi h1 h2=>by congr 1;omega⟩
    ·show K (mirror (arrOf a7) _ _ _) _<=K (mirror (arrOf a7) _ _ _) _
     rw[km,km];exact gV i j hij hj
    ·show K (mirror (arrOf a7) _ _ _) _<=K (mirror (arrOf a7) _ _ _) _
     rw[km,km];exact Int.le_of_lt c
   ·rw[if_neg hneq]
    exact⟨0,rfl,kc,gV.more (by omega) (Int.le_of_lt c),by omega,λi h1 h2=>by congr 1;omega⟩
  ·rw[show lo+(x+1) - 1=lo+x by omega]
   by_cases Gy:i=lo+x
   ·subst Gy;rfl
   ·rw[c];exact he i (by omega) (by omega)
theorem t9 {Q:Option Nat->SortSt->Prop}(h0:IntKeys a₀)(hn:lo+eW<=a₀.size)(h1:1<=eW)(hB:Bs a₀ lo s₀ st)
  (h:∀m a7,Bs a₀ lo s₀ a7->1<=m->m<=eW->Sg (arrOf a7) lo m->Q (some m) a7):wpS (model prog w) A E s (countRun' lo eW) Q st:=by
 rw[countRun'_eq];refine wpS_bind (t8 (λx n Q a1 a2 q1 q2=>wpS_bind (gL hB h0 (by omega) (by omega) (jg (λc=>wpS_pure (q1 c)) λc=>wpS_pure (q2 c)))) (vT 1) h1 Sg.one λn hn1 hn2 hsn hor=>?_);dsimp only;by_cases FC:n=eW
 ·rw[if_pos (by simpa using FC)];exact wpS_pure (h n st hB hn1 hn2 hsn)
 rw[if_neg (by simpa using FC)];have eM:=hor.resolve_left FC;by_cases hgt:n > 1;case' pos=>
  rw[if_pos hgt]
  refine wpS_bind (gL hB h0 (by omega) (by omega) ?_)
  dsimp only
  by_cases c:K (arrOf st) lo<K (arrOf st) (lo+n - 1)
  ·rw[if_pos (by simpa using c)]
   exact wpS_pure (h n st hB hn1 hn2 hsn)
  rw[if_neg (by simpa using c)]
  have hsz:lo+n<=(arrOf st).size:=by rw[hB.size];omega
  have lS:∀k,lo<=k->k<lo+n->K (arrOf st) k=K (arrOf st) (lo+n - 1):=λk k1 k2=>by
   have a1:=hsn 0 (k - lo) (by omega) (by omega);have a2:=hsn (k - lo) (n - 1) (by omega) (by omega);rw[show lo+(k - lo)=k by omega]at a1 a2;rw[show lo+(n - 1)=lo+n - 1 by omega]at a2;rw[Nat.add_zero]at a1;omega
  have km:=K_mirror_equal hsz lS
  refine wpS_bind (wpS_reverse ?_)
  have Ke:=hB.setArr (mirror_perm _ _ _ _) λi _=>km i
  have fL:=Ns.more (lo:=lo) (n:=n) (xs:=mirror (arrOf st) lo (lo+n) ((lo+n - lo) / 2)) (λi j hij hj=>by rw[km,km,lS _ (by omega) (by omega),lS (lo+i) (by omega) (by omega)];exact Int.le_refl _) hn1 (by rw[km,km];exact Int.le_of_lt eM)
 case' neg=>
  rw[if_neg hgt]
  have Ke:=hB
  have fL:Ns (arrOf st) lo (n+1):=by
   obtain rfl:n=1:=by omega
   refine Ns.more (λi j hij hj=>?_) (vT _) (Int.le_of_lt eM);rw[show i=j by omega];exact Int.le_refl _
 all_goals
  refine wpS_bind (wpS_lift (wpAny_rule ⟨rfl,?_⟩))
  refine wpS_bind (Ac (λx n q a7 Q wa a1 a2 q1 q2 q3=>?turn) hn (by omega) (by omega) Ke fL λm qI a7 kc hm1 hm2 gV hq he=>?_)
  case turn=>
   refine wpS_bind (gL wa h0 (by dsimp only;omega) (by dsimp only;omega) ?_)
   dsimp only
   refine jg (λc=>?_) λc=>wpS_bind (gL wa h0 (by omega) (by omega) ?_)
   ·replace q1:=q1 c
    split at q1
    next e=>rw[if_pos e];exact wpS_bind (wpS_reverse (wpS_pure q1))
    next e=>rw[if_neg e];exact wpS_pure q1
   ·exact jg (λd=>wpS_pure (q2 d)) λd=>wpS_pure (q3 (Int.le_antisymm (Int.not_lt.mp d) (Int.not_lt.mp c)))
  have hsz:lo+m<=(arrOf a7).size:=by rw[kc.size];omega
  dsimp only
  by_cases hneq:qI > 0
  case' pos=>
   rw[if_pos hneq]
   have km:=K_mirror_equal hsz he
   refine wpS_bind (wpS_reverse ?_)
   obtain⟨qH,vx⟩:=(kc.setArr (mirror_perm _ _ _ _) λi _=>km i).turn (n:=m) (by omega) λi j hij hj=>by
    show K (mirror (arrOf a7) _ _ _) _<=K (mirror (arrOf a7) _ _ _) _;rw[km,km];exact gV i j hij hj
  case' neg=>
   rw[if_neg hneq]
   obtain⟨qH,vx⟩:=kc.turn (n:=m) (by omega) gV
  all_goals
   refine wpS_bind (wpS_reverse (wpS_bind (t8 (λx n Q a1 a2 q1 q2=>wpS_bind (gL qH h0 (by omega) (by omega) (jg (λc=>wpS_pure (q1 c)) λc=>wpS_pure (q2 c)))) (by omega) hm2 vx λm' hm1 hm2 hsm _=>wpS_pure (h m' _ qH (by omega) hm2 hsm))))
theorem xT {i j:Nat}{Q:Unit->SortSt->Prop}(h:Q () (setArr st (bubble (arrOf st) i (i - j)))):wpS (model prog w) A E s (moveDown' i j) Q st:=by
 rw[moveDown'_eq];exact wpS_modify h
theorem tE {ok:Nat}{Q:Bool->SortSt->Prop}(h0:IntKeys a₀)(hn:lo+n<=a₀.size)(hok:ok<=n)(hB:Bs a₀ lo s₀ st)(hs:Sg (arrOf st) lo ok)
  (h:∀a7,Bs a₀ lo s₀ a7->Sg (arrOf a7) lo n->Q true a7):wpS (model prog w) A E s (binarySort' lo n ok) Q st:=by
 rw[binarySort'_eq];refine wpS_bind (wpS_mono (wpS_forRange (I:=λk c a7=>c=(none,())/\Bs a₀ lo s₀ a7/\Sg (arrOf a7) lo (min k n))
  (Q:=λc a7=>c=(none,())/\Bs a₀ lo s₀ a7/\Sg (arrOf a7) lo n) ?step ?fin ?init) ?post)
 case post=>
  rintro c a7 ⟨rfl,kc,gV⟩
  exact wpS_pure (h a7 kc gV)
 case init=>
  refine⟨rfl,hB,λi j hij hj=>?_⟩
  by_cases h1:ok=0
  ·rw[show i=j by omega];exact Int.le_refl _
  ·exact hs i j hij (by omega)
 case fin=>
  rintro c a7 ⟨hc,kc,gV⟩
  refine⟨hc,kc,?_⟩
  rwa [show min (max (max ok 1) n) n=n by omega]at gV
 case step=>
  rintro k c a7 hak hkn ⟨rfl,kc,gV⟩
  rw[show min k n=k by omega]at gV
  refine wpS_bind (wpS_mono (wpS_forRange (I:=λx c st''=>st''=a7/\∃l r,c=(none,l,r)/\l<=r/\r<=k/\r - l<=k - x /\
    (∀i,i<l->K (arrOf a7) (lo+i)<=K (arrOf a7) (lo+k))/\(∀i,r<=i->i<k->K (arrOf a7) (lo+k)<K (arrOf a7) (lo+i)))
   (Q:=λc st''=>st''=a7/\∃l r,c=(none,l,r)/\l<=k /\
    (∀i,i<l->K (arrOf a7) (lo+i)<=K (arrOf a7) (lo+k))/\(∀i,l<=i->i<k->K (arrOf a7) (lo+k)<K (arrOf a7) (lo+i))) ?istep ?ifin ?iinit) ?ipost)
  case iinit=>exact⟨rfl,0,k,rfl,by omega,by omega,by omega,λi hi=>by omega,λi h1 h2=>by omega⟩
  case ifin=>
   rintro c st'' ⟨rfl,l,r,rfl,Im,Ip,hm,Df,D7⟩
   obtain rfl:l=r:=by omega
   exact⟨rfl,l,l,rfl,Ip,Df,D7⟩
  case istep=>
   rintro x c st'' _ Kf ⟨rfl,l,r,rfl,Im,Ip,hm,Df,D7⟩
   dsimp only
   by_cases hge:l ≥ r
   ·rw[if_pos hge]
    obtain rfl:l=r:=by omega
    exact wpS_pure ⟨rfl,l,l,rfl,Ip,Df,D7⟩
   ·rw[if_neg hge]
    refine wpS_bind (gL kc h0 (by omega) (by omega) ?_)
    dsimp only
    by_cases c:K (arrOf st'') (lo+k)<K (arrOf st'') (lo+(l+r) / 2)
    ·rw[if_pos (by simpa using c)]
     exact wpS_pure ⟨rfl,l,(l+r) / 2,rfl,by omega,by omega,by omega,Df,λi h1 h2=>Int.lt_of_lt_of_le c (gV _ _ h1 h2)⟩
    ·rw[if_neg (by simpa using c)]
     exact wpS_pure ⟨rfl,(l+r) / 2+1,r,rfl,by omega,by omega,by omega,λi h1=>Int.le_trans (gV i ((l+r) / 2) (by omega) (by omega)) (Int.not_lt.mp c),D7⟩
  case ipost=>
   rintro c st'' ⟨rfl,l,r,rfl,Kg,Df,D7⟩
   have Iq:lo+k<(arrOf st'').size:=by rw[kc.size];omega
   refine wpS_bind (xT (wpS_pure ⟨rfl,kc.setArr (bubble_perm _ _ _) (λi hi=>?_),?_⟩))
   ·rw[K_bubble Iq (by omega),if_neg (by omega),if_neg (by omega)]
   rw[show min (k+1) n=k+1 by omega]
   intro i j hij hj
   show K (bubble (arrOf st'') (lo+k) (lo+k - (lo+l))) (lo+i)<=K (bubble (arrOf st'') (lo+k) (lo+k - (lo+l))) (lo+j)
   rw[K_bubble Iq (by omega),K_bubble Iq (by omega),show lo+k - (lo+k - (lo+l))=lo+l by omega]
   have dN:∀p q,lo<=p->p<=q->q<lo+k->K (arrOf st'') p<=K (arrOf st'') q:=λp q p1 p2 p3=>by
    have:=gV (p - lo) (q - lo) (by omega) (by omega);rwa [show lo+(p - lo)=p by omega,show lo+(q - lo)=q by omega]at this
   have EY:∀p,lo<=p->p<lo+l->K (arrOf st'') p<=K (arrOf st'') (lo+k):=λp p1 p2=>by
    have:=Df (p - lo) (by omega);rwa [show lo+(p - lo)=p by omega]at this
   have Kh:∀p,lo+l<=p->p<lo+k->K (arrOf st'') (lo+k)<=K (arrOf st'') p:=λp p1 p2=>by
    have:=D7 (p - lo) (by omega) (by omega);rw[show lo+(p - lo)=p by omega]at this;exact Int.le_of_lt this
   repeat' split
   all_goals first
    | (exfalso;omega)
    |exact Int.le_refl _
    |exact EY _ (by omega) (by omega)
    |exact Kh _ (by omega) (by omega)
    |exact dN _ _ (by omega) (by omega) (by omega)
end
theorem rP {n:Nat}(h1:64<=n)(h2:n<127):minRun' n n 0=(n+1) / 2:=by
 obtain⟨f,hf⟩:∃f,n=f+1+1:=⟨n - 2,by omega⟩;have e:minRun' (f+1+1) n 0=(n+1) / 2:=by
  rw[minRun'_succ,if_neg (by omega),minRun'_succ,if_pos (by omega)];omega
 rwa [←hf]at e
structure One (a₀:Array Keyed)(n:Nat)(st:SortSt):Prop where
 perm:(arrOf st).Perm a₀
 kind:kindOf st=oneType'
 failed:failedOf st=none
 pend:pendingOf st=#[(0,n,0)]
 sg:Sg (arrOf st) 0 n
section
variable {prog:Program}{w:World}{A:Around}{E:Value->Shared->Prop}{s:Shared}{a₀:Array Keyed}{st:SortSt}
theorem uT {Q:Unit->SortSt->Prop}(h0:IntKeys a₀)(hB:SBase a₀ st)(vw:64<=a₀.size)(Dg:a₀.size<127)
  (h:∀a7,(arrOf a7).Perm a₀->failedOf a7=none->SortedTo (arrOf a7) a₀.size->Q () a7):wpS (model prog w) A E s sortRuns' Q st:=by
 rw[sortRuns'_eq];refine wpS_bind (wpS_get ?_);dsimp only;simp only[hB.size,rP vw Dg];refine wpS_bind (wpS_mono (wpS_forRange
  (I:=λx c a7=>(x=0/\c=(none,0)/\SBase a₀ a7)∨(x=1/\∃n,c=(none,n)/\n<a₀.size/\(a₀.size+1) / 2<=n/\One a₀ n a7)∨(1<=x/\c=(none,a₀.size)/\(One a₀ a₀.size a7∨∃n1 n2 p1 p2,F7 a₀ n1 n2 p1 p2 a7)))
  (Q:=λc a7=>c=(none,a₀.size)/\(One a₀ a₀.size a7∨∃n1 n2 p1 p2,F7 a₀ n1 n2 p1 p2 a7)) ?step ?fin (.inl ⟨rfl,rfl,hB⟩)) ?post)
 case fin=>
  rintro c a7 (⟨hx,_,_⟩|⟨hx,_⟩|⟨_,hc,hD⟩)
  ·omega
  ·omega
  ·exact⟨hc,hD⟩
 case step=>
  rintro x c a7 _ hx (⟨rfl,rfl,kc⟩|⟨rfl,n,rfl,n1,n2,O⟩|⟨MD,rfl,hD⟩)
  ·dsimp only
   rw[if_neg (by omega)]
   simp only[Nat.sub_zero,Nat.zero_add]
   refine wpS_bind (t9 h0 (s₀:=a7) (lo:=0) (by omega) (by omega) ⟨kc.perm,kc.kind,kc.failed,rfl,λ_ _=>rfl⟩ λm fK wa hm1 hm2 dN=>?_)
   dsimp only
   by_cases eM:m<(a₀.size+1) / 2
   ·rw[if_pos eM]
    simp only[show min a₀.size ((a₀.size+1) / 2)=(a₀.size+1) / 2 by omega]
    refine wpS_bind (wpS_lift (wpAny_rule ⟨rfl,?_⟩))
    refine wpS_bind (tE h0 (s₀:=a7) (lo:=0) (by omega) (by omega) wa dN λiI qH vx=>?_)
    rw[if_neg (by decide)]
    refine wpS_bind (wpS_get ?_)
    have hp:pendingOf iI=#[]:=qH.pend.trans kc.pend
    have hb:(pendingOf iI).back? = none:=by rw[hp];rfl
    rw[hb]
    dsimp only
    exact wpS_bind (wpS_modify (wpS_pure (.inr (.inl ⟨by decide,_,rfl,by omega,by omega,qH.perm,qH.kind,qH.failed,by show(pendingOf iI).push _=_;rw[hp];rfl,vx⟩))))
   ·rw[if_neg eM]
    refine wpS_bind (wpS_get ?_)
    have hp:pendingOf fK=#[]:=wa.pend.trans kc.pend
    have hb:(pendingOf fK).back? = none:=by rw[hp];rfl
    rw[hb]
    dsimp only
    refine wpS_bind (wpS_modify (wpS_pure ?_))
    have O:One a₀ m (setPending fK ((pendingOf fK).push (0,m,0))):=⟨wa.perm,wa.kind,wa.failed,by show(pendingOf fK).push _=_;rw[hp];rfl,dN⟩
    by_cases e:m=a₀.size
    ·subst e;exact .inr (.inr ⟨by decide,rfl,.inl O⟩)
    ·exact .inr (.inl ⟨by decide,_,rfl,by omega,by omega,O⟩)
  ·dsimp only
   rw[if_neg (by omega)]
   simp only[show min (a₀.size - n) ((a₀.size+1) / 2)=a₀.size - n by omega]
   refine wpS_bind (t9 h0 (s₀:=a7) (lo:=n) (by omega) (by omega) ⟨O.perm,O.kind,O.failed,rfl,λ_ _=>rfl⟩ λm fK wa hm1 hm2 dN=>?_)
   dsimp only
   have two:∀iI,Bs a₀ n a7 iI->Sg (arrOf iI) n (a₀.size - n)->∀pw,F7 a₀ n (a₀.size - n) pw 0 (setPending (setPending iI #[(0,n,pw)]) #[(0,n,pw),(n,a₀.size - n,0)]):=λiI qH vx pw=>
    ⟨qH.perm,qH.kind,qH.failed,rfl,by omega,by omega,λi j hij hj=>by
     show K (arrOf iI) i<=K (arrOf iI) j;rw[qH.low i (by omega),qH.low j hj];have:=O.sg i j hij hj;rwa [Nat.zero_add,Nat.zero_add]at this,λi j hi hij hj=>by
     show K (arrOf iI) i<=K (arrOf iI) j;have:=vx (i - n) (j - n) (by omega) (by omega);rwa [show n+(i - n)=i by omega,show n+(j - n)=j by omega]at this⟩
   have jI:∀(pw:Nat)(iI:SortSt),pendingOf iI=#[(0,n,0)]->(pendingOf iI).size=1/\(pendingOf iI).modify ((pendingOf iI).size - 1) (λx=>(x.fst,x.2.fst,pw))=#[(0,n,pw)]:=λpw iI hp=>by
    rw[hp];exact⟨rfl,rfl⟩
   by_cases eM:m<(a₀.size+1) / 2
   ·rw[if_pos eM]
    refine wpS_bind (wpS_lift (wpAny_rule ⟨rfl,?_⟩))
    refine wpS_bind (tE h0 (s₀:=a7) (lo:=n) (by omega) (by omega) wa dN λiI qH vx=>?_)
    rw[if_neg (by decide)]
    refine wpS_bind (wpS_get ?_)
    have hp:pendingOf iI=#[(0,n,0)]:=qH.pend.trans O.pend
    have hb:(pendingOf iI).back? = some (0,n,0):=by rw[hp];rfl
    rw[hb]
    dsimp only
    refine wpS_bind (wpS_mono (wpS_forRange (I:=λx c vy=>c=(none,())/\vy=iI) (Q:=λc vy=>c=(none,())/\vy=iI) ?_ (λ_ _ z=>z) ⟨rfl,rfl⟩) ?_)
    ·rintro x c vy _ _ ⟨rfl,rfl⟩
     refine wpS_bind (wpS_get ?_)
     rw[if_neg (by rw[hp];simp)]
     exact wpS_pure ⟨rfl,rfl⟩
    ·rintro c vy ⟨rfl,rfl⟩
     dsimp only
     refine wpS_bind (wpS_modify ?_)
     rw[(jI _ _ hp).2]
     refine wpS_bind (wpS_modify (wpS_pure (.inr (.inr ⟨by decide,by congr 1;omega,.inr ⟨n,a₀.size - n,_,0,two _ qH vx _⟩⟩))))
   ·rw[if_neg eM]
    obtain rfl:m=a₀.size - n:=by omega
    refine wpS_bind (wpS_get ?_)
    have hp:pendingOf fK=#[(0,n,0)]:=wa.pend.trans O.pend
    have hb:(pendingOf fK).back? = some (0,n,0):=by rw[hp];rfl
    rw[hb]
    dsimp only
    refine wpS_bind (wpS_mono (wpS_forRange (I:=λx c vy=>c=(none,())/\vy=fK) (Q:=λc vy=>c=(none,())/\vy=fK) ?_ (λ_ _ z=>z) ⟨rfl,rfl⟩) ?_)
    ·rintro x c vy _ _ ⟨rfl,rfl⟩
     refine wpS_bind (wpS_get ?_)
     rw[if_neg (by rw[hp];simp)]
     exact wpS_pure ⟨rfl,rfl⟩
    ·rintro c vy ⟨rfl,rfl⟩
     dsimp only
     refine wpS_bind (wpS_modify ?_)
     rw[(jI _ _ hp).2]
     refine wpS_bind (wpS_modify (wpS_pure (.inr (.inr ⟨by decide,by congr 1;omega,.inr ⟨n,a₀.size - n,_,0,two _ wa dN _⟩⟩))))
  ·dsimp only
   rw[if_pos (vT _)]
   exact wpS_pure ⟨rfl,hD⟩
 case post=>
  rintro c a7 ⟨rfl,hD⟩
  dsimp only
  refine wpS_bind (wpS_mono (wpS_forRange (I:=λx c fK=>c=(none,())/\(One a₀ a₀.size fK∨(x=0/\∃n1 n2 p1 p2,F7 a₀ n1 n2 p1 p2 fK)∨((arrOf fK).Perm a₀/\failedOf fK=none/\(pendingOf fK).size=1/\SortedTo (arrOf fK) a₀.size)))
   (Q:=λc fK=>c=(none,())/\(arrOf fK).Perm a₀/\failedOf fK=none/\SortedTo (arrOf fK) a₀.size) ?_ ?_ ⟨rfl,hD.imp id λz=>.inl ⟨rfl,z⟩⟩) ?_)
  ·rintro x c fK _ _ ⟨rfl,hD⟩
   refine wpS_bind (wpS_get ?_)
   rcases hD with O|⟨rfl,n1,n2,p1,p2,T⟩|⟨d1,d2,d3,d4⟩
   ·rw[if_pos (by rw[O.pend];exact vT 1)]
    exact wpS_pure ⟨rfl,O.perm,O.failed,λi j hij hj=>by have:=O.sg i j hij hj;rwa [Nat.zero_add,Nat.zero_add]at this⟩
   ·rw[if_neg (by rw[T.pend];simp)]
    simp only[T.pend]
    refine wpS_bind ?_
    show wpS _ _ _ _ (mergeAt' 0) _ _
    refine pX h0 T λiI a1 a2 a3 a4=>?_
    rw[if_neg (by decide)]
    exact wpS_pure ⟨rfl,.inr (.inr ⟨a1,a2,by rw[a3];rfl,a4⟩)⟩
   ·rw[if_pos (by rw[d3];exact vT 1)]
    exact wpS_pure ⟨rfl,d1,d2,d4⟩
  ·rintro c fK ⟨rfl,hD⟩
   rcases hD with O|⟨z,_⟩|⟨d1,d2,d3,d4⟩
   ·exact⟨rfl,O.perm,O.failed,λi j hij hj=>by have:=O.sg i j hij hj;rwa [Nat.zero_add,Nat.zero_add]at this⟩
   ·omega
   ·exact⟨rfl,d1,d2,d4⟩
  ·rintro c fK ⟨rfl,d1,d2,d3⟩
   exact wpS_pure (h _ d1 d2 d3)
end
theorem mz {prog:Program}{w:World}{A:Around}{E:Value->Shared->Prop}{s:Shared}{a:Addr}{vs:List Value}{ns:List Int}{n:Nat}{P:Fin->Shared->Prop}(ho:s.heap.get? a=some (seqObj "list" vs.toArray n))
  (hI:IntsAre vs ns) (Dg:vs.length<127)
  (h:∀(out:Array Value)(D8:List Int),IntsAre out.toList D8->D8.Perm ns->D8.Pairwise (·<=·)->P (.done (.ret .none)) { s with heap:=sortedHeap s.heap a vs out }):
  wpAny (model prog w) A (Builtin.«list.sort» ⟨[.ref a],[]⟩) P E s:=by
 by_cases vw:vs.length<64
 ·exact list_sort_tree ho hI vw h
 rw[list_sort_plain];have ha:a<s.heap.objs.size:=vX ho;refine wX (listItems_at ho rfl ?_);refine wX (listUpdate_at ho rfl ?_);obtain⟨e1,D5⟩:∃e1,(s.heap.update a (Obj.mapSeq λ_=>#[])).get? a=some (seqObj "list" #[] e1):=⟨_,get?_update_seq ho (λ_=>#[])⟩;refine wX (seqEpoch_at D5 rfl ?_);refine wX (wpAny_newTuple ?_);refine wX (wpAny_newList ?_);refine wpAny_holding ?_;have Ki:(((s.heap.update a (Obj.mapSeq λ_=>#[])).push (seqObj "tuple" vs.toArray 0)).push (seqObj "list" #[] 0)).get? a=some (seqObj "list" #[] e1):=by
  rw[Heap.get?_push_ne _ _ _ (by rw[size_push',Heap.size_update];exact vS (Nat.lt_succ_of_lt ha)),Heap.get?_push_ne _ _ _ (by rw[Heap.size_update];exact vS ha)];exact D5
 show wpAny (model prog w) A _ P E { s with heap:=((s.heap.update a (Obj.mapSeq λ_=>#[])).push (seqObj "tuple" vs.toArray 0)).push (seqObj "list" #[] 0) };dsimp only;have hsz:¬vs.toArray.size<2:=by rw[vG];omega
 rw[if_neg hsz,if_neg hsz];obtain⟨v₁,v₂,rest,rfl⟩:∃v₁ v₂ rest,vs=v₁::v₂::rest:=by
  match vs,vw with
  |[],h=>exact absurd (show 0<64 by decide) h
  |[_],h=>exact absurd (show 1<64 by decide) h
  |v₁::v₂::rest,_=>exact⟨v₁,v₂,rest,rfl⟩
 rw[keyKind_ints hI];refine wX (wY ?_);refine wX (wpAny_mono (uT (a₀:=pairsOf (v₁::v₂::rest)) (st:=SortSt.mk' oneType' ((v₁::v₂::rest).toArray.zip (v₁::v₂::rest).toArray) #[] 7 none)
  (Q:=λ_ a7=>(arrOf a7).Perm (pairsOf (v₁::v₂::rest))/\failedOf a7=none/\SortedTo (arrOf a7) (pairsOf (v₁::v₂::rest)).size)
  hI.intKeys ⟨Array.Perm.refl _,rfl,rfl,rfl⟩ (by rw[pairsOf_size];omega) (by rw[pairsOf_size];exact Dg) λa7 a1 a2 a3=>⟨a1,a2,a3⟩) ?_ λ_ _ e=>e)
 rintro⟨⟨⟩,a7⟩ s' ⟨rfl,hp,hf,hs⟩;dsimp only;refine wX (seqEpoch_at Ki rfl ?_);refine wX (listUpdate_at Ki rfl ?_ (hsz2:=by refine vR (Nat.le_of_eq ((Array.size_map ..).trans (hp.size_eq.trans (pairsOf_size _)))) ?_;rw[sizeLine_eq];omega));rw[hf];simp only[bne_self_eq_false,uV,if_false];obtain⟨D8,h1,h2,h3⟩:=sorted_out hI hp hs;exact wY (h _ D8 h1 h2 h3)
end TS
namespace DL
open PySem PySem.Spec PySem.W PyProof.Rows L2
noncomputable def xU:Value->Int
 |.int n _=>n
 |_=>0
theorem K3 {prog:Program}{w:World}:KOf (PySem.intKind prog w) xU .int:=⟨intKind_is prog w,λh=>Value.isInt_shape h,λ_ _=>rfl,λ_ _=>rfl⟩
theorem pY:∀(vs:List Value),(∀v∈vs,∃x t,v=.int x t)->IntsAre vs (vs.map xU)
 |[],_=>.nil
 |v::vs,h=>by
  obtain⟨x,t,rfl⟩:=h v mX;exact .cons x t (pY vs λu hu=>h u (mZ _ hu))
theorem K4 {prog:Program}{w:World}:pI prog w xU .int 127 λts=>a9 ((gz ts).map V.int):=λh1 h2 h3 ho h=>
 TS.mz ho (pY _ h1) h3 λout D8 a1 a2 a3=>h out (by have e:=xA (a2.trans h2) a3;subst e;exact fj a1)
theorem IntsAre.at:∀ {vs:List Value}{ss:List Int},IntsAre vs ss->∀(i:Nat)(v:Value),vs[i]? = some v->∃x t,v=.int x t/\ss[i]? = some x
 |_,_,.nil,i,v,h=>by simp at h
 |_,_,.cons x t hr,0,v,h=>by simp at h;exact⟨x,t,h.symm,rfl⟩
 |_,_,.cons x t hr,i+1,v,h=>by
  simp only[List.getElem?_cons_succ]at h;exact IntsAre.at hr i v h
@[simp] def jh:D->OB:=pN jO gz .int 127
theorem jS {X:Cx}{e:Expr}{pos pos2 p p2:Pos}(hc:X.calm=true)(m1:X.mg "sorted" = none)(m2:X.mg "set" = none)(he:JE X e f)(g1:Gl X "sorted":=by rfl)(g2:Gl X "set":=by rfl)
  (h1:starEach [e] X.env=(false,eval e X.env)::starEach [] X.env:=by rfl):JE X (.Call (.Name "sorted" p) [.Call (.Name "set" p2) [e] [] pos2] [] pos) (f1 jh f) :=
 pO K3 K4 (λts=>(fY _ ts).length_eq) pP (λr' hl ez=>have h:=tx r' hl ez;⟨IntsAre.length h,IntsAre.at h⟩) (by decide) hc m1 m2 he g1 g2 h1
def EF (ns:List Int):Prop:=∀i∈ns,Builtin.Int.intBits i<=1048576
abbrev C8:D->D->OB:=pi (λi j=>decide (Builtin.Int.intBits i<=2097152/\Builtin.Int.intBits j<=2097152)) λi j=>.int (i*j)
theorem C9 {X:Cx}:bW X (binaryOp .Mult) (rD X.K C8):=iP (C:=λi j=>Builtin.Int.intBits i<=2097152/\Builtin.Int.intBits j<=2097152) (g:=λi j=>.int (i*j)) (DS λ_ _ _ _ _ _ _ hc q=>mul_int q (IntMulOk.of_le hc.1 hc.2 (by decide))) (λ_ _ h=>of_decide_eq_true h) λ_ _ _=>.int _
theorem CA {ns:List Int}(h:WData.layableAll [WData.list (ns.map WData.int)]=true):EF ns:=λi hi=>by
 have h1:(WData.list (ns.map WData.int)).layable=true:=layableW_arg h _ (List.mem_singleton.mpr rfl);have h2:=layableW_item h1 (WData.int i) (List.mem_map.mpr ⟨i,hi,rfl⟩);unfold WData.layable at h2;have h3:=of_decide_eq_true (vC _ _ ▸ h2).2;unfold WData.weight at h3;unfold Builtin.Int.intBits;omega
theorem walkB {l:PySem.W.OpenLaw}{q:Program}{FD:List Str}{XP:(Str->Option Value)->Heap->Prop}{YP:World->Heap->Prop}{d:DefRec}{K:Params->Frag}{k:Nat}{x:Str}{f:List D->OB}{L:List (Str×Option (Addr×Addr))}(hn:l.most=some 63)(LS:d.params.defaults=[])(hr:dr k callerA)
  (hY:∀(w:World)(h:Heap),YP w h->(K w.params).In h) (hT:∀w:World,kF (K w.params) L) (hD:(L.all λp=>p.2.isNone || ((recsOf q).find? λe=>e.name == p.1).isSome)=true)
  (F:∀(w:World)(mg:Str->Option Value)(fa:Addr)(h:Heap),(K w.params).In h->h.Ns mainGlobals mg->mg d.name=some (.ref fa) ->
   ∃fd:FuncData,(∀(s:Shared)(u:Value),BindsTo s fd ⟨[u],[]⟩ [(x,u)])/\∀base:Heap,(K w.params).In base->base.Ns mainGlobals mg->jJ l.prog w (K w.params) mg base qW k fa fd [x] (AO (K w.params) f))
  (ht:∀ns:List Int,ns.length<=63->EF ns->∃b,f [.lst (ns.map .int)]=some (.bl true,b)):PySem.W.WalkO q FD XP YP l.row.toRowW d [] (λf vs=>PySem.call f vs):=by
 intro w s₀ s₁ mg mb G Y fa o pm cd doc dV kV ho hd jZ hD' hmg hg args vals as qE hlay hrd HB Df;obtain rfl:dV=.none:=Dflts.none hD' LS;obtain rfl:kV=.none:=Dflts.noKw hD';obtain⟨a,vs,ns,rfl,rfl,Ir,FF,bp⟩:=Att.um hn qE HB;have KX:=hY w _ Y;obtain⟨fd,hb,hF⟩:=F w mg fa _ KX G.T.g hmg;refine enter_call (codeAny_mono (ux (oj L) (λb u e=>?_) (hT w).none KX G.T.g G.T.b G.T.builtins G.T.nolimit G.T.bmain hg Ir FF (vR bp (by decide)) hr hF hb λH hH hS=>?_) λr s' hq=>?_)
 ·obtain⟨p,hp,e2⟩:=List.mem_filterMap.mp (gv e);obtain⟨⟨c,P⟩,e3,e4⟩:=oY e2;cases e4
  have Iu:=List.all_eq_true.mp hD p hp;rw[e3]at Iu;rw[Option.isNone_some,Bool.false_or]at Iu;obtain⟨r,LU⟩:=Option.isSome_iff_exists.mp Iu;have LV:PySem.W.tabIn (K w.params) p.1=some (c,P):=by
   rw[(hT w).names]at hp;obtain⟨y,_,rfl⟩:=List.mem_map.mp hp;exact e3
  obtain⟨h1,h2⟩:=PySem.W.tab_of G.T KX LU LV;exact⟨h2,(h1.tab h2).isCodeTable⟩
 ·obtain⟨b,e⟩:=ht ns bp (CA hlay);exact⟨H,_,_,b,⟨.refl H,(hT w).tb hH⟩,.cons (.lst hS (.flat rfl)) .nil,e,λv H' N x' i' _=>by cases i';rfl⟩
 ·obtain⟨rfl,h2,h3,h4⟩:=hq;exact⟨.inl ⟨.bool true,.bool true,[],rfl,λ_=>rfl,.bool true,Att.uo l _,λ_=>⟨List.Pairwise.nil,λ_ hm=>(nomatch hm)⟩⟩,h2,h3,h4⟩
structure OneK (α:Type)[DecidableEq α] where
 v:α->V
 ev:Value->α->Bool
 as:List D->Option (List α)
 rel:∀ {a:α}{u:Value},aG (v a) u->∀b,ev u b=decide (a=b)
 eq:∀ {A:Around}{s:Shared}{a b:α}{u u':Value},aG (v a) u->aG (v b) u'->PySem.SeqAt.EqAt A s u u' (ev u b)
 is:∀ {K:Frag}{B:Hp}{ws:List V}{ds:List D}{l:List α},IsL K B ws ds->as ds=some l->ws=l.map v
end DL
namespace DL
open PySem L2
theorem ji (I:Nat->Env->Prop)(ds:List D)(ρ0:Env)(h0:I 0 ρ0)
  (step:∀i d ρ,ds[i]? = some d->I i ρ->∃ρ1 ρ',tg d ρ=some ρ1/\(g ρ1=some (.nx ρ')∨g ρ1=some (.ct ρ'))/\I (i+1) ρ'):
  ∃ρ',dO tg g ds ρ0=some (.nx ρ')/\I ds.length ρ':=by
 have key:∀(es:List D)(i:Nat)(ρ:Env),ds.drop i=es->i+es.length=ds.length->I i ρ->∃ρ',dO tg g es ρ=some (.nx ρ')/\I ds.length ρ':=by
  intro es;induction es with
  |nil=>intro i ρ e hl h;refine⟨ρ,by rw[wH],?_⟩;rw[←hl];exact h
  |cons d es ih=>
   intro i ρ e hl h;have hd:ds[i]? = some d:=by
    have:(ds.drop i)[0]? = some d:=by rw[e];rfl
    rwa [List.getElem?_drop,Nat.add_zero]at this
   obtain⟨ρ1,ρ',h1,h2,h3⟩:=step i d ρ hd h;have he:ds.drop (i+1)=es:=by rw[←List.drop_drop,e];rfl
   obtain⟨ρ2,k1,k2⟩:=ih (i+1) ρ' he (by simp at hl;omega) h3;refine⟨ρ2,?_,k2⟩;rw[mN,h1];rcases h2 with h2|h2<;>simp only[vJ,h2]<;>exact k1
 exact key ds 0 ρ0 (by simp) (by simp) h0
theorem lv (n:Nat)(I:Nat->Env->Prop)(ρ0:Env)(h0:I 0 ρ0)
  (step:∀(i:Nat) ρ,i<n->I i ρ->∃ρ1 ρ',tg (.int (i:Int)) ρ=some ρ1/\(g ρ1=some (.nx ρ')∨g ρ1=some (.ct ρ'))/\I (i+1) ρ'):
  ∃ρ',dO tg g (dW 0 n) ρ0=some (.nx ρ')/\I n ρ':=by
 have hl:(dW 0 n).length=n:=by simp[dW]
 obtain⟨ρ',h1,h2⟩:=ji (tg:=tg) (g:=g) I (dW 0 n) ρ0 h0 λi d ρ hd h=>by
  unfold dW at hd;rw[vA]at hd;obtain⟨k,hk,hd⟩:=oY hd;obtain⟨eM,hk⟩:=vV hk;rw[List.length_range]at eM;rw[List.getElem_range]at hk;subst hk;rw[Int.zero_add]at hd;subst hd;exact step i ρ eM h
 rw[hl]at h2;exact⟨ρ',h1,h2⟩
theorem jD {α:Type}{xs:List α}{j:Nat}(h:j<xs.length):mH xs (j:Int)=some xs[j]:=zq (by simp[h])
theorem o7 {α:Type}{xs:List α}{i:Int}(h0:0<=i)(h:i.toNat<xs.length):mH xs i=some xs[i.toNat]:=by
 have:=jD h;rwa [Int.toNat_of_nonneg h0]at this
@[simp] theorem bw (xs:List Int):aV (xs.map D.int)=true:=by
 induction xs with
 |nil=>simp
 |cons x xs ih=>simp[ih]
@[simp] theorem yO (n:Nat)(xs:List Int):(xs.map D.int).all (aJ n)=true:=by
 induction xs with
 |nil=>simp
 |cons x xs ih=>simpa using ih
@[simp] theorem Ad (xs:List Int):(xs.map D.int).all dS=true:=by
 induction xs with
 |nil=>simp
 |cons x xs ih=>simpa using ih
theorem uU (n:Nat):dW 0 n=((List.range n).map λ(k:Nat)=>(k:Int)).map D.int:=by
 unfold dW;rw[List.map_map];apply List.map_congr_left;intro k _;simp
mutual
def jj:D->D->Bool
 |.non,.non=>true
 |.bl a,.bl b=>a == b
 |.int a,.int b=>decide (a=b)
 |.str a,.str b=>decide (a=b)
 |.ty a,.ty b=>decide (a=b)
 |.tup xs,.tup ys=>lx xs ys
 |.lst xs,.lst ys=>lx xs ys
 |_,_=>false
def lx:List D->List D->Bool
 |[],[]=>true
 |x::xs,y::ys=>jj x y && lx xs ys
 |_,_=>false
end
mutual
theorem tG:∀ {x y:D},jj x y=true->x=y
 |.non,.non,_=>rfl
 |.bl a,.bl b,h=>by simp[jj]at h;rw[h]
 |.int a,.int b,h=>by simp[jj]at h;rw[h]
 |.str a,.str b,h=>by simp[jj]at h;rw[h]
 |.ty a,.ty b,h=>by simp[jj]at h;rw[h]
 |.tup xs,.tup ys,h=>by rw[jj]at h;rw[ly h]
 |.lst xs,.lst ys,h=>by rw[jj]at h;rw[ly h]
theorem ly:∀ {xs ys:List D},lx xs ys=true->xs=ys
 |[],[],_=>rfl
 |x::xs,y::ys,h=>by
  rw[lx,vC]at h;rw[tG h.1,ly h.2]
end
def EG (r:OB)(d:D)(b:Bool):Bool:=match r with
 |some (e,c)=>jj e d && c == b
 |none=>false
theorem g6 (h:EG r d b=true):r=some (d,b):=by
 unfold EG at h;split at h
 ·rw[vC]at h;rw[tG h.1,eq_of_beq h.2]
 ·cases h
section
variable {f:FE}{c:FT}{g g' h:FS}{ρ ρ':Env}{i:Nat}{d:D}{b:Bool}{r:Option Res}{ds:List D}
theorem aw (hl:ds.length=n)(e:g (ds.map (λd=>some (d,false))++List.replicate k none)=some (.rt d b)):aL g n k ds=some (d,b):=by
 unfold aL;rw[if_pos hl,e]
theorem np (n:aQ d=true):setE ρ i d b=ρ.set i (some (d,false)):=by unfold setE;rw[if_pos n]
theorem pZ (n:aV ds=true):setE ρ i (.lst ds) true=ρ.set i (some (.lst ds,true)):=by
 unfold setE;rw[if_neg (by simp),if_pos ⟨rfl,by simpa using n⟩]
theorem Bc (e:f ρ=some (d,b))(k:h (setE ρ i d b)=r):aC (b8 i f) h ρ=r:=by simp[e];exact k
theorem rQ (e:f ρ=some (d,b))(n:aQ d=true)(k:h (ρ.set i (some (d,false)))=r):aC (b8 i f) h ρ=r:=Bc e (by rw[np n];exact k)
theorem cK (e:f ρ=some (.lst ds,true))(n:aV ds=true)(k:h (ρ.set i (some (.lst ds,true)))=r):aC (b8 i f) h ρ=r:=Bc e (by rw[pZ n];exact k)
theorem cC (e:g ρ=some (.nx ρ'))(k:h ρ'=r):aC g h ρ=r:=by unfold aC;rw[e];exact k
theorem Hf (e:g ρ=some (.rt d b)):aC g h ρ=some (.rt d b):=by unfold aC;rw[e]
theorem m4 (e:c ρ=some true)(k:g ρ=r):eJ c g g' ρ=r:=by unfold eJ;rw[e];exact k
theorem l7 (e:c ρ=some false)(k:g' ρ=r):eJ c g g' ρ=r:=by unfold eJ;rw[e];exact k
theorem et (e:c ρ=some true)(k:g ρ=some (.rt d b)):aC (eJ c g g') h ρ=some (.rt d b):=Hf (m4 e k)
theorem av (e:c ρ=some false)(k:h ρ=r):aC (eJ c g aY) h ρ=r:=cC (l7 e rfl) k
theorem aE (e:f ρ=some (d,b)):aW f ρ=some (.rt d b):=by simp[e]
theorem kB (e:ρ[i]? = some (some (d,b)))(hb:AK d=false:=by rfl):iN i ρ=some (.rt d b):=by simp only[iN,e,hb];simp
theorem qa (e:f ρ=some (d,b))(n:aQ d=true):b8 i f ρ=some (.nx (ρ.set i (some (d,false)))):=by
 show(f ρ).map _=_;rw[e,Option.map_some,np n]
theorem tH (e:f ρ=some (.lst ds,true))(n:aV ds=true):b8 i f ρ=some (.nx (ρ.set i (some (.lst ds,true)))):=by
 show(f ρ).map _=_;rw[e,Option.map_some,pZ n]
theorem iB (e:ρ[i]? = some (some (.lst ds,true)))(ef:f ρ=some (d,b))(n:aQ d=true)(l:ds.length<sizeLine):ij i f ρ=some (.nx (ρ.set i (some (.lst (ds++[d]),true)))):=by
 simp[e,ef,n,l]
theorem l8 (e:fi ρ=some ds)(k:dO tg g ds ρ=some (.nx ρ')):jL fi tg g ρ=some (.nx ρ'):=by unfold jL;rw[e];exact k
theorem jk (e:fi (mh ρ)=some ds)(k:dO tg g ds ρ=some (.nx ρ')):iO fi tg g ρ=some (.nx ρ'):=by unfold iO;rw[e];exact k
theorem gM {f:FE}{j:Nat}(e:f ρ=some (.int j,b))(hj:j<=1000):eU f ρ=some (dW 0 j):=by
 unfold eU;rw[e];simp only[];rw[if_pos (by omega)];simp
theorem bo (e:f ρ=some (.bl x,b)):br f ρ=some x:=by unfold br;rw[e]
theorem ao (e:fa ρ=some ds)(k:F ds=x):fA F fa ρ=x:=by unfold fA;rw[e,vJ];exact k
theorem jl {f1 g1:D->D->OB}{fa fb fc:FE}{x y z:D}{b1 b2 b3 b4 p q:Bool}(ea:fa ρ=some (x,b1))(eb:fb ρ=some (y,b2))(ec:fc ρ=some (z,b3))(e1:f1 x y=some (.bl p,b4))(e2:p=true->g1 y z=some (.bl q,false)):dQ f1 g1 fa fb fc ρ=some (.bl (p && q),false):=by
 unfold dQ;rw[ea,eb,ec];simp only[vJ,e1];cases p
 ·rfl
 ·exact e2 rfl
theorem g9 {f1 f2:FE}{p q b1:Bool}(e1:f1 ρ=some (.bl p,b1))(e2:p=true->f2 ρ=some (.bl q,false)):j7 f1 f2 ρ=some (.bl (p && q),false):=by
 unfold j7;rw[e1];cases p
 ·rfl
 ·exact e2 rfl
theorem tI {f1 f2:FE}{p q b1:Bool}(e1:f1 ρ=some (.bl p,b1))(e2:p=false->f2 ρ=some (.bl q,false)):Cj f1 f2 ρ=some (.bl (p || q),false):=by
 unfold Cj;rw[e1];cases p
 ·exact e2 rfl
 ·rfl
theorem Ae {f1:FE}{p b1:Bool}(e1:f1 ρ=some (.bl p,b1)):wJ f1 ρ=some (.bl (!p),false):=by
 unfold wJ;rw[e1]
theorem aN (e1:f ρ=some (d,b))(e2:fr ρ=some xs):ae f fr ρ=some (d::xs):=by
 unfold ae;rw[e1,vJ,e2,vJ]
theorem da (e1:fa ρ=some (x,b1))(e2:fb ρ=some (y,b2))(e3:op x y=z):f2 op fa fb ρ=z:=by
 unfold f2;rw[e1,vJ,e2,vJ];exact e3
theorem cL (e1:c1 ρ=some p)(e2:p=true->c2 ρ=some q):gX c1 c2 ρ=some (p && q):=by
 unfold gX;rw[e1];cases p
 ·rfl
 ·exact e2 rfl
theorem b9 (e1:c1 ρ=some p)(e2:p=false->c2 ρ=some q):cn c1 c2 ρ=some (p || q):=by
 unfold cn;rw[e1];cases p
 ·exact e2 rfl
 ·rfl
theorem dG (e1:c1 ρ=some p):bX c1 ρ=some (!p):=by
 unfold bX;rw[e1];rfl
end
theorem Af (a c:Nat):decide ([a]<[c])=decide (a<c):=by
 congr 1;rw[List.cons_lt_cons_iff];simp
@[simp] theorem tJ (a c:Nat):p7 (.str ⟨#[a]⟩) (.str ⟨#[c]⟩)=some (.bl (decide (a<=c)),false):=by
 unfold p7;show some (D.bl (!decide ([c]<[a])),false)=_;rw[Af];congr 3;by_cases h:c<a
 ·rw[decide_eq_true h,decide_eq_false (by omega)];rfl
 ·rw[decide_eq_false h,decide_eq_true (by omega)];rfl
theorem ce (h:n<=100000):n<sizeLine:=Nat.lt_of_le_of_lt h (by decide)
theorem cf (h:n<=100000):n<=sizeLine:=Nat.le_of_lt (ce h)
theorem nq {α:Type}(l:List α)(g:α->D)(p:α->Bool)(h:α->D)(e:fi ρ=some (l.map g))(hl:l.length<=100000)
  (k:∀x∈l,∃ρ1,tg (g x) (eP nT cap ρ)=some ρ1/\c ρ1=some (p x)/\(p x=true->∃b,fe ρ1=some (h x,b))):bY fi nT cap tg c fe ρ=some (.lst ((l.filter p).map h),true):=by
 have key:∀l':List α,(∀x∈l',x∈l)->dv tg c fe (eP nT cap ρ) (l'.map g)=some ((l'.filter p).map h):=by
  intro l';induction l' with
  |nil=>intro _;simp
  |cons x l' ih=>
   intro hm;obtain⟨ρ1,h1,h2,h3⟩:=k x (hm x mX);have ih:=ih λy hy=>hm y (mZ _ hy);rw[List.map_cons,qZ,h1,vJ,h2,vJ];cases hp:p x with
   |false=>simp[hp,ih]
   |true=>
    obtain⟨b,h4⟩:=h3 hp;simp[hp,ih,h4]
 unfold bY;rw[e,vJ,if_pos (cf (by simpa using hl)),key l λ_ h=>h,Option.map_some]
theorem lA {α:Type}(l:List α)(g:α->D)(h:α->D)(e:fi ρ=some (l.map g))(hl:l.length<=100000)
  (k:∀x∈l,∃ρ1,tg (g x) (eP nT cap ρ)=some ρ1/\∃b,fe ρ1=some (h x,b)):bY fi nT cap tg gg fe ρ=some (.lst (l.map h),true):=by
 have:=nq (c:=gg) (fe:=fe) l g (λ_=>true) h e hl λx hx=>by
  obtain⟨ρ1,h1,h2⟩:=k x hx;exact⟨ρ1,h1,rfl,λ_=>h2⟩
 rw[List.filter_eq_self.mpr λ_ _=>rfl]at this;exact this
@[simp] theorem qc {α:Type}(f:α->Bool)(l:List α):re (l.map λx=>.bl (f x))=some (l.map f):=by
 induction l with
 |nil=>rfl
 |cons x l ih=>simp[ih]
theorem qS (h0:0<=i)(h:i.toNat<z.cps.size)(hz:z.length<=100000):cW (.str z) (.int i)=some (.str ⟨#[z.cps.toList.getD i.toNat 0]⟩,false):=by
 have hh:i.toNat<z.cps.toList.length:=by simpa using h
 simp only[cW];rw[if_pos (cf hz),o7 h0 hh];simp[List.getD,h]
theorem rR (h0:0<=i)(h:i.toNat<ds.length):cW (.lst ds) (.int i)=some (ds.getD i.toNat .non,false):=by
 simp only[cW];rw[o7 h0 h];simp[List.getD,h]
theorem wy (h0:0<=i)(h:i.toNat<ds.length):cW (.tup ds) (.int i)=some (ds.getD i.toNat .non,false):=by
 simp only[cW];rw[o7 h0 h];simp[List.getD,h]
theorem tK {xs:List Int}{i:Int}(h0:0<=i)(h:i.toNat<xs.length):cW (.lst (xs.map .int)) (.int i)=some (.int (xs.getD i.toNat 0),false):=by
 rw[rR h0 (by simpa using h)];simp[List.getD,h]
theorem uW (z:Str):pC z=z.cps.toList.map λc=>.str ⟨#[c]⟩:=rfl
theorem mod_lt {x m:Int}(hm:0<m):0<=x % m/\x % m<m:=⟨Int.emod_nonneg _ (by omega),Int.emod_lt_of_pos _ hm⟩
theorem o8:cy [.lst ds]=some (.int ds.length,false):=rfl
theorem xV (h:0<=v):HT.bV n d (some v)=min v.toNat n:=by
 show(if v<0 then (v+(n:Int)).toNat else min v.toNat n)=_;rw[if_neg (by omega)]
theorem db (x y:D)(e1:fa ρ=some (x,false))(e2:fb ρ=some (y,false))(e3:op x y=z):f2 op fa fb ρ=z:=da e1 e2 e3
theorem tL (e:f ρ=some (.bl x,false)):br f ρ=some x:=bo e
theorem bR (e1:f ρ=some (d,false))(e2:fr ρ=some xs):ae f fr ρ=some (d::xs):=aN e1 e2
theorem v7 (ds:List D)(e:fa ρ=some ds)(k:F ds=x):fA F fa ρ=x:=ao e k
theorem xW (d:D)(e:f ρ=some (d,false))(n:aQ d=true)(k:h (ρ.set i (some (d,false)))=r):aC (b8 i f) h ρ=r:=rQ e n k
@[simp] noncomputable abbrev M2 (rows:List D)(FH:Int)(t:Env):Env:=some (.tup rows,false)::some (.int FH,false)::t
@[simp] noncomputable abbrev eR (ns:List Int)(zs:List Str)(ms:Int)(Iv:List Str)(R:List D)(a b:OB)(t:Env):Env:=some (.lst (ns.map .int),false)::some (.lst (zs.map .str),false)::some (.int ms,false)::a::some (.lst (Iv.map .str),true)::some (.lst R,true)::b::t
end DL
namespace Lw
open PySem DL
noncomputable def hW:D:=(.int 255)
noncomputable def lB:D:=(.int 9999)
noncomputable def gA:D:=(.int 9)
noncomputable def gB:D:=(.int 8)
noncomputable def hZ:D:=(.int 20)
noncomputable def cT:D:=(.int 8)
noncomputable def dc:D:=(.int 60)
noncomputable def aU:List (PySem.Str×D):=[(("root" : Str),(.tup [(.str "office"),(.str "matters"),(.str "further"),(.str "rule")])),(("named" : Str),(.tup [(.str "day"),(.str "office"),(.str "person")])),(("chosen" : Str),(.tup [(.str "day"),(.str "by"),(.str "office"),(.str "person"),(.str "since")])),(("heir" : Str),(.tup [(.str "day"),(.str "by"),(.str "office"),(.str "person")])),(("death" : Str),(.tup [(.str "day"),(.str "person")])),(("lost" : Str),(.tup [(.str "day"),(.str "person")])),(("found" : Str),(.tup [(.str "day"),(.str "person")])),(("leave" : Str),(.tup [(.str "day"),(.str "by"),(.str "person"),(.str "matters"),(.str "stretch"),(.str "further")])),(("paper" : Str),(.tup [(.str "day"),(.str "by"),(.str "matters"),(.str "stretch"),(.str "whom"),(.str "pieces")])),(("like" : Str),(.tup [(.str "day"),(.str "by"),(.str "matters"),(.str "stretch"),(.str "whom"),(.str "of"),(.str "changes")])),(("copy" : Str),(.tup [(.str "day"),(.str "by"),(.str "of")])),(("call" : Str),(.tup [(.str "day"),(.str "by"),(.str "of")]))]
noncomputable def cg:D:=(.tup [(.str "by"),(.str "person"),(.str "whom")])
noncomputable def tM:D:=(.tup [(.str "open"),(.str "first"),(.str "last")])
def lC:FS :=
  (aW (j7 (fA ay (fV 0 (ae (fC (.ty "int")) ah))) (j7 (wJ (fA ay (fV 0 (ae (fC (.ty "bool")) ah)))) (dQ p7 p7 (ag 1) (ag 0) (ag 2)))))
def cB:=aL lC 3 0
def qd:FS :=
  (aW (fA cB (fV 0 (ae (fI 0) (ae (fC lB) ah)))))
def e8:=aL qd 1 0
def jm:FS :=
  (aC (eJ (cn (bX (br (fA ay (fV 0 (ae (fC (.ty "tuple")) ah))))) (cn (br (f2 yK (fA cy (fV 0 ah)) (fI 2))) (bX (br (fA e8 (ae (gp 0 0) ah)))))) (aW (fC (.bl false))) aY)
  (aW (Cj (f2 FY (gp 0 1) (fC .non)) (j7 (fA e8 (ae (gp 0 1) ah)) (f2 yL (gp 0 0) (gp 0 1))))))
def cM:=aL jm 1 0
def jn:FS :=
  (aW (fA cB (fV 0 (ae (fI 1) (ae (fC hW) ah)))))
def dH:=aL jn 1 0
def nr:FS :=
  (aC (eJ (cn (bX (br (fA ay (fV 0 (ae (fC (.ty "str")) ah))))) (bX (br (dQ p7 p7 (fI 1) (fA cy (fV 0 ah)) (fC gB))))) (aW (fC (.bl false))) aY)
  (aW (fA ml (ae (bY (cA (ag 0)) 1 [] (gj 0) gg (dQ p7 p7 (fS "a") (ag 0) (fS "z"))) ah))))
def dM:=aL nr 1 0
def nu:FS :=
  (aW (j7 (fA ay (fV 0 (ae (fC (.ty "str")) ah))) (f2 sV (ag 0) (fC tM))))
def nv:=aL nu 1 0
def lD:FS :=
  (aW (fA dM (fV 0 ah)))
def eA:=aL lD 1 0
def jT:FS :=
  (aC (eJ (cn (bX (br (fA ay (fV 0 (ae (fC (.ty "tuple")) ah))))) (bX (br (dQ p7 p7 (fI 1) (fA cy (fV 0 ah)) (fC cT))))) (aW (fC (.bl false))) aY)
  (aW (fA ml (ae (bY (cA (ag 0)) 1 [] (gj 0) gg (fA eA (fV 0 ah))) ah))))
def eL:=aL jT 1 0
def jU:FS :=
  (aC (eJ (cn (bX (br (fA ay (fV 0 (ae (fC (.ty "tuple")) ah))))) (br (f2 yK (fA cy (fV 0 ah)) (fI 2)))) (aW (fC (.bl false))) aY)
  (aW (j7 (fA cB (ae (gp 0 0) (ae (fI 0) (ae (f2 Cn (fC cT) (fI 1)) ah)))) (fA eA (ae (gp 0 1) ah)))))
def de:=aL jU 1 0
def jo:FS :=
  (aC (eJ (cn (bX (br (fA ay (fV 0 (ae (fC (.ty "tuple")) ah))))) (bX (br (fA ml (ae (bY (cA (ag 0)) 1 [] (gj 0) gg (fA de (fV 0 ah))) ah))))) (aW (fC (.bl false))) aY)
  (aC (b8 1 (bY (cA (ag 0)) 1 [] (gj 0) gg (gp 0 0)))
  (aW (fA ml (ae (bY (u6 (ag 1) (yM (ag 1) (gu (fI 1)) gZ)) 2 [] (rh [0,1]) gg (f2 yL (ag 0) (ag 1))) ah)))))
def fZ:=aL jo 1 1
def nw:FS :=
  (aC (eJ (cn (br (f2 eY (ag 0) (fS "day"))) (br (f2 eY (ag 0) (fS "since")))) (aW (fA e8 (fV 1 ah))) aY)
  (aC (eJ (cn (br (f2 eY (ag 0) (fS "office"))) (cn (br (f2 eY (ag 0) (fS "by"))) (br (f2 eY (ag 0) (fS "person"))))) (aW (fA dM (fV 1 ah))) aY)
  (aC (eJ (br (f2 eY (ag 0) (fS "whom"))) (aW (Cj (f2 FY (ag 1) (fC .non)) (fA dM (fV 1 ah)))) aY)
  (aC (eJ (br (f2 eY (ag 0) (fS "matters"))) (aW (fA dH (fV 1 ah))) aY)
  (aC (eJ (br (f2 eY (ag 0) (fS "stretch"))) (aW (fA cM (fV 1 ah))) aY)
  (aC (eJ (br (f2 eY (ag 0) (fS "further"))) (aW (fA cB (fV 1 (ae (fI 0) (ae (fC gA) ah))))) aY)
  (aC (eJ (br (f2 eY (ag 0) (fS "rule"))) (aW (fA nv (fV 1 ah))) aY)
  (aC (eJ (br (f2 eY (ag 0) (fS "of"))) (aW (fA cB (fV 1 (ae (fI 0) (ae (f2 Cn (fC dc) (fI 1)) ah))))) aY)
  (aC (eJ (br (f2 eY (ag 0) (fS "pieces"))) (aW (fA eL (fV 1 ah))) aY)
  (aW (fA fZ (fV 1 ah))))))))))))
def aT:=aL nw 2 0
def ny:FS :=
  (aC (eJ (cn (bX (br (fA ay (fV 0 (ae (fC (.ty "tuple")) ah))))) (cn (br (f2 eY (fA cy (fV 0 ah)) (fI 0))) (bX (br (fA ay (ae (gp 0 0) (ae (fC (.ty "str")) ah))))))) (aW (fC (.bl false))) aY)
  (aC (eJ (cn (br (f1 (kW aU) (gp 0 0))) (br (f2 yK (fA cy (fV 0 ah)) (f2 bv (fI 1) (fA cy (ae (f1 (gn aU) (gp 0 0)) ah)))))) (aW (fC (.bl false))) aY)
  (aW (fA ml (ae (bY (u6 (f1 (gn aU) (gp 0 0)) (yM (ag 0) (gu (fI 1)) gZ)) 2 [] (rh [0,1]) gg (fA aT (fV 0 (fV 1 ah)))) ah)))))
def jE:=aL ny 1 0
def nA:FS :=
  (aW (f2 cW (gp 0 1) (fI 0)))
def bA:=aL nA 1 0
def nB:FS :=
  (aW (f2 cW (gp 0 1) (f2 bv (fI 1) (f2 (lj aU) (fA bA (fV 0 ah)) (ag 1)))))
def cD:=aL nB 2 0
def qe:FS :=
  (aC (eJ (br (f2 eY (fA bA (fV 0 ah)) (fS "root"))) (aW (fC .non)) aY)
  (aW (fA cD (fV 0 (ae (fS "day") ah)))))
def jp:=aL qe 1 0
def jV:FS :=
  (aC (b8 1 (fA jp (fV 0 ah)))
  (aC (eJ (br (f2 FY (ag 1) (fC .non))) (aW (fC (.bl true))) aY)
  (aC (eJ (gX (br (f2 eY (fA bA (fV 0 ah)) (fS "chosen"))) (br (f2 yL (fA cD (fV 0 (ae (fS "since") ah))) (ag 1)))) (aW (fC (.bl false))) aY)
  (aW (f2 p7 (ag 1) (gp 0 0))))))
def gC:=aL jV 1 1
def qf:FS :=
  (aC (eJ (cn (bX (br (fA ay (fV 0 (ae (fC (.ty "tuple")) ah))))) (br (f2 yK (fA cy (fV 0 ah)) (fI 2)))) (aW (fC (.bl false))) aY)
  (aW (j7 (fA e8 (ae (gp 0 0) ah)) (j7 (fA jE (ae (gp 0 1) ah)) (fA gC (fV 0 ah))))))
def lE:=aL qf 1 0
def gD:FS :=
  (aW (bY (cA (ag 0)) 1 [] (gj 0) (br (f2 eY (fA bA (fV 0 ah)) (fS "root"))) (fA cD (fV 0 (ae (fS "office") ah)))))
def eB:=aL gD 1 0
def fB:FS :=
  (aW (j7 (f2 eY (fA bA (fV 1 ah)) (fS "root")) (f2 sV (fA cD (fV 1 (ae (fS "office") ah))) (fA eB (fV 0 ah)))))
def cP:=aL fB 2 0
def lF:FS :=
  (aW (IV (f1 (gn aU) (fA bA (fV 0 ah))) (yM (gp 0 1) (gu (fI 1)) gZ)))
def bP:=aL lF 1 0
def jW:FS :=
  (aC (b8 1 (bY (cA (fA bP (fV 0 ah))) 2 [] (rh [0,1]) (gX (br (f2 sV (ag 0) (fC cg))) (br (f2 iu (ag 1) (fC .non)))) (ag 1)))
  (aW (f1 lh (ag 1))))
def df:=aL jW 1 1
def gh:FS :=
  (mm 1 (fA df (fV 2 ah)))
def gE:FS :=
  (aC (b8 1 (fA aS ah))
  (aC (iO (cA (ag 0)) (gj 2) gh)
  (aW (f1 ja (ag 1)))))
def eC:=aL gE 1 2
def jq:FS :=
  (aC (eJ (cn (br (f2 IT (ag 1) (fC dc))) (bX (br (fA lE (ae (f2 cW (ag 0) (ag 1)) ah))))) (aW (fC (.bl true))) aY)
  (aW (Cj (fA cP (ae (yM (ag 0) gZ (gu (ag 1))) (ae (f2 cW (ag 0) (ag 1)) ah))) (f2 Dq (fA eC (ae (yM (ag 0) gZ (gu (f2 bv (ag 1) (fI 1)))) ah)) (fC hZ)))))
def ga:=aL jq 2 0
def gF:FS :=
  (eJ (br (fA ga (fV 1 (fV 2 ah)))) rm aY)
def ie:FS :=
  (aC (eJ (bX (br (fA jb (fV 0 (ae (fA bM (ae (fC (.ty "list")) (ae (fC (.ty "tuple")) ah))) ah))))) rm aY)
  (aC (b8 1 (fA dY (fV 0 ah)))
  (aC (jL (eU (fA cy (fV 1 ah))) (gj 2) gF)
  (iN 1))))
def bx:=aL ie 1 2
def gb:FS :=
  (eJ (cn (br (f2 eY (ag 2) (fS "day"))) (br (f2 eY (ag 2) (fS "since")))) (ij 1 (ag 3)) (eJ (br (f2 eY (ag 2) (fS "stretch"))) (mm 1 (bY (cA (ag 3)) 1 [] (gj 0) (br (f2 iu (ag 0) (fC .non))) (ag 0))) aY))
def gN:FS :=
  (aC (b8 1 (fA aS (ae (gp 0 0) ah)))
  (aC (iO (cA (fA bP (fV 0 ah))) (rh [2,3]) gb)
  (iN 1)))
def fD:=aL gN 1 3
def iC:FS :=
  (mm 1 (fA fD (fV 2 ah)))
def gO:FS :=
  (aC (b8 1 (fA aS (ae (fI 0) ah)))
  (aC (iO (cA (ag 0)) (gj 2) iC)
  (aW (f1 jh (ag 1)))))
def bS:=aL gO 1 2
def qg:FS :=
  (aC (eJ (br (f2 yL (ag 1) (fA cy (fV 0 ah)))) (aW (f2 cW (ag 0) (ag 1))) aY)
  (aC (b8 2 (f2 bv (f2 gU (fI 9973) (ag 1)) (fI 11)))
  (aC (eJ (br (f2 Dq (fA cy (fV 0 ah)) (fI 0))) (b8 2 (f2 bv (f2 bv (f2 gU (f2 cW (ag 0) (f2 aP (f2 gU (ag 1) (fI 7)) (fA cy (fV 0 ah)))) (fI 48271)) (f2 gU (f2 gU (ag 1) (ag 1)) (fI 1013))) (fI 3))) aY)
  (aW (f2 aP (f2 C8 (ag 2) (ag 2)) (fI 2147483647))))))
def bK:=aL qg 2 1
def lG:FS :=
  (aC (b8 6 (fA dF (fV 2 ah)))
  (aC (xk 6 (ag 3) (f2 cW (ag 1) (f2 aP (f2 bv (f2 bt (ag 0) (fI 64)) (f2 gU (fI 3) (ag 5))) (fI 26))))
  (ij 4 (f2 iU (fS "") (ag 6)))))
def nD:FS :=
  (aC (b8 1 (fS "abcdefghijklmnopqrstuvwxyz"))
  (aC (b8 2 (bY (eU (f2 bv (fI 1) (f2 aP (ag 0) (fI 8)))) 1 [1,0] (gj 0) gg (f2 cW (ag 1) (f2 aP (f2 bt (ag 2) (f2 bv (fI 3) (f2 gU (fI 4) (ag 0)))) (fI 26)))))
  (aC (b8 3 (f2 aP (f2 bt (ag 0) (fI 8)) (fA cy (fV 2 ah))))
  (aC (b8 4 (fA aS ah))
  (aC (jL (eU (fI 6)) (gj 5) lG)
  (iN 4))))))
def jF:=aL nD 1 6
def qh:FS :=
  (aC (b8 4 (fA bM (ae (f2 aP (f2 bt (ag 0) (fI 13)) (fI 40)) (ae (f2 cW (fA aS (ae (fC .non) (ae (f2 bv (f2 bv (f2 aP (f2 bt (ag 0) (fI 13)) (fI 40)) (fI 1)) (f2 aP (f2 bt (ag 0) (fI 11)) (fI 900))) ah))) (f2 aP (f2 bt (ag 0) (fI 7)) (fI 2))) ah))))
  (aC (b8 5 (f2 cW (ag 3) (f2 aP (f2 bt (ag 0) (fI 3)) (fI 4))))
  (aC (b8 6 (f2 cW (ag 3) (f2 aP (f2 bt (ag 0) (fI 17)) (fI 4))))
  (aC (b8 7 (fA aS (ae (fA bM (ae (fS "named") (fV 2 (ae (gp 3 4) (fV 5 ah))))) (ae (fA bM (ae (fS "chosen") (fV 2 (fV 5 (ae (gp 3 4) (fV 6 (ae (fA mj (ae (fI 9999) (ae (f2 bv (ag 2) (f2 aP (f2 bt (ag 0) (fI 19)) (fI 50))) ah))) ah))))))) ah))))
  (aC (b8 7 (f2 bv (ag 7) (fA aS (ae (fA bM (ae (fS "heir") (fV 2 (fV 5 (ae (gp 3 5) (fV 6 ah)))))) (ae (fA bM (ae (fS "death") (fV 2 (fV 5 ah)))) (ae (fA bM (ae (fS "lost") (fV 2 (fV 5 ah)))) (ae (fA bM (ae (fS "found") (fV 2 (fV 6 ah)))) ah)))))))
  (aC (b8 7 (f2 bv (ag 7) (fA aS (ae (fA bM (ae (fS "leave") (fV 2 (fV 5 (fV 6 (ae (f2 bv (fI 1) (f2 aP (f2 bt (ag 0) (fI 5)) (fI 255))) (fV 4 (ae (f2 aP (f2 bt (ag 0) (fI 23)) (fI 10)) ah)))))))) ah))))
  (aC (b8 7 (f2 bv (ag 7) (fA aS (ae (fA bM (ae (fS "paper") (fV 2 (fV 5 (ae (f2 bv (fI 1) (f2 aP (f2 bt (ag 0) (fI 5)) (fI 255))) (fV 4 (ae (f2 cW (fA aS (ae (fC .non) (fV 6 ah))) (f2 aP (ag 0) (fI 2))) (ae (fA bM (fV 5 (fV 6 ah))) ah)))))))) ah))))
  (aC (b8 7 (f2 bv (ag 7) (fA aS (ae (fA bM (ae (fS "like") (fV 2 (fV 5 (ae (f2 bv (fI 1) (f2 aP (f2 bt (ag 0) (fI 5)) (fI 255))) (fV 4 (ae (fC .non) (ae (f2 aP (f2 bt (ag 0) (fI 29)) (fI 60)) (ae (fA bM (ae (fA bM (ae (fI 0) (fV 6 ah))) ah)) ah))))))))) ah))))
  (aW (f2 cW (f2 bv (ag 7) (fA aS (ae (fA bM (ae (fS "copy") (fV 2 (fV 6 (ae (f2 aP (f2 bt (ag 0) (fI 29)) (fI 60)) ah))))) (ae (fA bM (ae (fS "call") (fV 2 (fV 5 (ae (f2 aP (f2 bt (ag 0) (fI 31)) (fI 60)) ah))))) ah)))) (ag 1)))))))))))
def fE:=aL qh 4 4
def nE:FS :=
  (aC (b8 4 (f2 aP (fA bK (fV 0 (ae (f2 bv (fI 2) (ag 3)) ah))) (f2 Co (fI 10) (fI 15))))
  (aC (b8 5 (f2 aP (f2 bt (ag 4) (fI 12)) (f2 cW (fA aS (ae (fI 3) (ae (fI 31) (ae (fI 10000) ah)))) (f2 aP (fA bK (fV 0 (ae (fI 1) ah))) (fI 3)))))
  (aC (b8 6 (fA bM (ae (fS "root") (ae (f2 cW (ag 1) (f2 bv (fI 4) (f2 aP (ag 3) (fI 2)))) (ae (f2 bv (fI 1) (f2 aP (f2 bt (ag 4) (fI 5)) (fI 255))) (ae (f2 aP (f2 bt (ag 4) (fI 7)) (fI 10)) (ae (f2 cW (fA aS (ae (fS "open") (ae (fS "first") (ae (fS "last") ah)))) (f2 aP (f2 bt (ag 4) (fI 9)) (fI 3))) ah)))))))
  (aC (eJ (cn (br (f2 Dq (ag 3) (fI 1))) (br (f2 yL (f2 aP (ag 4) (fI 12)) (fI 11)))) (b8 6 (fA fE (ae (f2 bt (ag 4) (fI 12)) (ae (f2 aP (ag 4) (fI 11)) (fV 5 (fV 1 ah)))))) aY)
  (ij 2 (fA bM (ae (fA mj (ae (fI 9999) (ae (f2 bv (ag 5) (f2 cW (fA aS (ae (fI 0) (ae (fI 0) (ae (fI 1) (ae (f2 aP (f2 bt (ag 4) (fI 37)) (fI 99)) ah))))) (f2 aP (f2 bt (ag 4) (fI 41)) (fI 4)))) ah))) (fV 6 ah))))))))
def qi:FS :=
  (aC (b8 1 (fA jF (ae (fA bK (fV 0 (ae (fI 0) ah))) ah)))
  (aC (b8 2 (fA aS ah))
  (aC (jL (eU (f2 cW (fA aS (ae (fA mj (ae (fI 24) (ae (f2 bv (fA cy (fV 0 ah)) (fI 1)) ah))) (ae (fI 24) ah))) (f2 aP (f2 bt (fA bK (fV 0 (ae (fI 1) ah))) (fI 3)) (fI 2)))) (gj 3) nE)
  (iN 2))))
def jr:=aL qi 1 6
def jG:FS :=
  (eJ (gX (br (fA ay (fV 4 (ae (fC (.ty "tuple")) ah)))) (gX (br (f2 sV (gp 3 0) (fA bM (ae (fS "leave") (ae (fS "paper") (ae (fS "like") ah)))))) (br (f2 eY (fA cy (fV 4 ah)) (fI 2))))) (b8 1 (f2 bv (ag 1) (bY (cA (ag 4)) 1 [] (gj 0) (br (fA ay (fV 0 (ae (fC (.ty "int")) ah)))) (ag 0)))) aY)
def gP:FS :=
  (aC (ij 1 (ag 2))
  (aC (eJ (br (f2 yK (gp 3 0) (fS "root"))) (ij 1 (gp 3 1)) aY)
  (aC (eJ (br (f2 eY (gp 3 0) (fS "chosen"))) (ij 1 (gp 3 5)) aY)
  (Gb [3] (iO (cA (ag 3)) (gj 4) jG)))))
def js:FS :=
  (aC (b8 1 (fA aS (ae (fI 0) ah)))
  (aC (iO (cA (ag 0)) (rh [2,3]) gP)
  (aW (f1 jh (ag 1)))))
def jt:=aL js 1 4
def qj:FS :=
  (aC (eJ (cn (bX (br (fA ay (fV 0 (ae (fC (.ty "list")) ah))))) (br (f2 yK (ag 0) (ag 1)))) (aW (fC (.bl false))) aY)
  (aW (f2 eY (fA cy (ae (bY (cA (ag 0)) 1 [] (gj 0) (cn (bX (br (fA ay (fV 0 (ae (fC (.ty "int")) ah))))) (br (fA ay (fV 0 (ae (fC (.ty "bool")) ah))))) (ag 0)) ah)) (fI 0))))
def di:=aL qj 2 0
def tN:FS :=
  (aC (b8 1 (fA jr (fV 0 ah)))
  (aC (b8 2 (fA bx (ae (fA dF (fV 1 ah)) ah)))
  (aC (b8 3 (fA jt (fV 1 ah)))
  (aC (b8 4 (fA bS (fV 2 ah)))
  (aC (eJ (bX (br (fA di (fV 4 (fV 3 ah))))) (aW (fC (.bl false))) aY)
  (aC (ij 4 (fI 3))
  (aC (zV 4 λds=>some ds.reverse)
  (aW (j7 (fA di (ae (fA bS (fV 2 ah)) (fV 3 ah))) (fA di (ae (fA bS (ae (fA bx (ae (fA aS ah) ah)) ah)) (ae (fA aS (ae (fI 0) ah)) ah))))))))))))
def F_law:=aL tN 1 4
end Lw
namespace DL
open PySem L2
theorem lH:∀(n m:Nat)(d:D),n<=m->aJ n d=true->aJ m d=true
 |n,m,.non,_,_=>by simp
 |n,m,.bl _,_,_=>by simp
 |n,m,.int _,_,_=>by simp
 |n,m,.str _,_,_=>by simp
 |n,m,.ty _,_,h=>by cases n<;>simp[aJ]at h
 |n,m,.dk _ _,_,h=>by simp at h
 |n,m,.dt _ _,_,h=>by simp at h
 |0,m,.tup _,_,h=>by simp[aJ]at h
 |0,m,.lst _,_,h=>by simp[aJ]at h
 |n+1,0,_,h,_=>by omega
 |n+1,m+1,.tup ds,hl,h=>by
  simp only[aJ,List.all_eq_true]at h ⊢;exact λd hd=>lH n m d (by omega) (h d hd)
 |n+1,m+1,.lst ds,hl,h=>by
  simp only[aJ,List.all_eq_true]at h ⊢;exact λd hd=>lH n m d (by omega) (h d hd)
theorem jH:∀(ds:List D),(∀d∈ds,ci d d=true)->gm ds ds=true
 |[],_=>by simp only[gm]
 |d::ds,h=>by
  simp only[gm,h d mX,Bool.true_and];exact jH ds λe he=>h e (mZ _ he)
theorem lI:∀(n:Nat)(d:D),aJ n d=true->ci d d=true
 |n,.non,_=>by simp
 |n,.bl _,_=>by simp
 |n,.int _,_=>by simp
 |n,.str _,_=>by simp
 |n,.ty _,h=>by cases n<;>simp[aJ]at h
 |n,.dk _ _,h=>by simp at h
 |n,.dt _ _,h=>by simp at h
 |0,.tup _,h=>by simp[aJ]at h
 |0,.lst _,h=>by simp[aJ]at h
 |n+1,.tup ds,h=>by
  simp only[aJ,List.all_eq_true]at h;simp only[ci];exact jH ds λd hd=>lI n d (h d hd)
 |n+1,.lst ds,h=>by
  simp only[aJ,List.all_eq_true]at h;simp only[ci];exact jH ds λd hd=>lI n d (h d hd)
end DL
namespace Lw
open PySem DL L2
theorem vE (d:D)(r:List D):mH (d::r) 0=some d:=by have:=jD (xs:=d::r) (j:=0) (by simp);simpa using this
theorem yP (d e:D)(r:List D):mH (d::e::r) 1=some e:=by have:=jD (xs:=d::e::r) (j:=1) (by simp);simpa using this
theorem cE (zs:List Str):aV (zs.map D.str)=true:=by
 induction zs with
 |nil=>rfl
 |cons a l ih=>simp[ih]
theorem eE {ds:List D}(h:∀d∈ds,aQ d=true):aV ds=true:=by
 induction ds with
 |nil=>rfl
 |cons d r ih=>simp[h d (by simp),ih λe he=>h e (by simp[he])]
theorem CB (d:D)(r:List D):kR (d::r) (some 1) none=r:=by
 unfold kR;rw[xV (v:=1) (by decide)];have:HT.bV (d::r).length (d::r).length none=(d::r).length:=rfl;rw[this];have:min (1:Int).toNat (d::r).length=1:=by simp
 rw[this];simp
theorem qk (rows:List D)(n:Nat):kR rows none (some (n:Int))=rows.take n:=by
 unfold kR;rw[HT.wn,HT.zk];simp
theorem nF {op:D->OB}{fa:FE}{ρ:DL.Env}{x:D}{b:Bool}{z:OB}(e1:fa ρ=some (x,b))(e2:op x=z):f1 op fa ρ=z:=by unfold f1;rw[e1];exact e2
theorem ql (parts:List Str)(rest:List D):dX (parts.map .str) rest=(parts.zip rest).map λx=>.tup [.str x.1,x.2]:=by
 induction parts generalizing rest with
 |nil=>rfl
 |cons a l ih=>
  cases rest with
  |nil=>rfl
  |cons d r=>have:=ih r;unfold dX at this ⊢;simp[this]
theorem ju {α:Type}(l:List α):ml [.lst (l.map λ_=>.bl true)]=some (.bl true,false):=by
 have:=qc (λ_:α=>true) l;simp only[ml,this,Option.map_some];congr 2;simp
noncomputable def jX (c:Nat):Bool:=decide (97<=c) && decide (c<=122)
theorem CC:("a" : Str)=⟨#[97]⟩:=by decide +kernel
theorem CD:("z" : Str)=⟨#[122]⟩:=by decide +kernel
theorem qm (c:Nat)(ρ:DL.Env)(h:ρ[0]? = some (some (.str ⟨#[c]⟩,false))):dQ p7 p7 (fC (.str "a")) (ag 0) (fC (.str "z")) ρ=some (.bl (jX c),false):=by
 refine jl (x:=.str ⟨#[97]⟩) (y:=.str ⟨#[c]⟩) (z:=.str ⟨#[122]⟩) (b1:=false) (b2:=false) (b3:=false) (b4:=false) ?_ ?_ ?_ (tJ _ _) λ_=>tJ _ _
 ·rw[CC];rfl
 ·simp[h]
 ·rw[CD];rfl
noncomputable def m5 (z:Str):Bool:=(decide (1<=z.length) && decide (z.length<=8)) && z.cps.toList.all jX
theorem qo (z:Str):z.cps.toList.length=z.length:=by simp[Str.length]
theorem jv {z:Str}(h:m5 z=true):dM [.str z]=some (.bl true,false):=by
 unfold m5 at h;rw[vC,vC]at h;obtain⟨⟨h1,h8⟩,ha⟩:=h;have h1:=of_decide_eq_true h1;have h8:=of_decide_eq_true h8;have hl:z.length<=sizeLine:=cf (by omega);refine aw rfl (av (b9 (p:=false) (q:=false) (by simp) λ_=>dG (p:=true) (bo (b:=false) ((jl (x:=.int 1) (y:=.int z.length) (z:=.int 8) (b1:=false) (b2:=false) (b3:=false) (b4:=false) (p:=true) (q:=true) rfl (by simp[hl]) rfl (by simp;omega) λ_=>by simp;omega).trans rfl))) (aE (ao (ds:=[.lst (z.cps.toList.map λc=>.bl (jX c))]) ?_ ?_)))
 ·have:=lA (fi:=cA (ag 0)) (nT:=1) (cap:=[]) (tg:=gj 0) (fe:=dQ p7 p7 (fC (.str "a")) (ag 0) (fC (.str "z"))) (ρ:=[some (.str z,false)]) z.cps.toList (λc=>.str ⟨#[c]⟩) (λc=>.bl (jX c)) (by simp[uW]) (by rw[qo];omega) λc _=>
   ⟨_,rfl,false,qm c _ (by simp[eP])⟩
  exact aN (b:=true) this rfl
 ·simp only[ml,qc,Option.map_some,List.all_map];congr 2;exact congrArg D.bl ha
theorem fF {d lo hi:Int}(h1:lo<=d)(h2:d<=hi):cB [.int d,.int lo,.int hi]=some (.bl true,false):=by
 refine aw rfl (aE ((g9 (p:=true) (q:=true) (b1:=false) (by simp) λ_=>(g9 (p:=true) (q:=true) (b1:=false) (Ae (p:=false) (b1:=false) (by simp)) λ_=>(jl (x:=.int lo) (y:=.int d) (z:=.int hi) (b1:=false) (b2:=false) (b3:=false) (b4:=false) (p:=true) (q:=true) rfl rfl rfl (by simp;omega) λ_=>by simp;omega).trans rfl).trans rfl).trans rfl))
theorem gQ {d:Int}(h1:0<=d)(h2:d<=9999):e8 [.int d]=some (.bl true,false):=aw rfl (aE (ao (ds:=[.int d,.int 0,.int 9999]) rfl (fF h1 h2)))
theorem qp {d:Int}(h1:1<=d)(h2:d<=255):dH [.int d]=some (.bl true,false):=aw rfl (aE (ao (ds:=[.int d,.int 1,.int 255]) rfl (fF h1 h2)))
theorem qq {d:Int}(h1:0<=d)(h2:d<=9999):cM [.tup [.int d,.non]]=some (.bl true,false):=by
 refine aw rfl (av (b9 (p:=false) (q:=false) (by simp) λ_=>b9 (p:=false) (q:=false) (by simp) λ_=>dG (p:=true) (bo (b:=false) (ao (ds:=[.int d]) (by simp[vE]) (gQ h1 h2)))) (aE ((tI (p:=true) (q:=true) (b1:=false) (by simp[yP,kh]) (by simp)).trans rfl)))
theorem nG {z:Str}(h:m5 z=true):eA [.str z]=some (.bl true,false):=aw rfl (aE (ao (ds:=[.str z]) rfl (jv h)))
theorem rS {ps:List Str}(h1:1<=ps.length)(h8:ps.length<=8)(h:∀p∈ps,m5 p=true):eL [.tup (ps.map .str)]=some (.bl true,false):=by
 refine aw rfl (av (b9 (p:=false) (q:=false) (by simp) λ_=>dG (p:=true) (bo (b:=false) ((jl (x:=.int 1) (y:=.int ps.length) (z:=.int 8) (b1:=false) (b2:=false) (b3:=false) (b4:=false) (p:=true) (q:=true) rfl (by simp) rfl (by simp;omega) λ_=>by simp;omega).trans rfl))) (aE (ao (ds:=[.lst (ps.map λ_=>.bl true)]) ?_ (ju ps))));have:=lA (fi:=cA (ag 0)) (nT:=1) (cap:=[]) (tg:=gj 0) (fe:=fA eA (ae (ag 0) ah)) (ρ:=[some (.tup (ps.map .str),false)]) ps (λp=>.str p) (λ_=>.bl true) (by simp) (by omega) λp hp=>
  ⟨_,rfl,false,ao (ds:=[.str p]) (by simp[eP]) (nG (h p hp))⟩
 exact aN (b:=true) this rfl
theorem cq {p q:Str}{v:D}{b:Bool}(h:decide (p=q)=b):br (f2 eY (ag 0) (fC (.str q))) [some (.str p,false),some (v,false)]=some b:=bo (b:=false) (da (x:=.str p) (y:=.str q) (b1:=false) (b2:=false) rfl rfl (by simp[←h]))
theorem c2 {p q r:Str}{v:D}(h:(decide (p=q) || decide (p=r))=false):cn (br (f2 eY (ag 0) (fC (.str q)))) (br (f2 eY (ag 0) (fC (.str r)))) [some (.str p,false),some (v,false)]=some false:=(b9 (cq rfl) λ_=>cq rfl).trans (by rw[h])
theorem c3 {p q r t:Str}{v:D}(h:(decide (p=q) || (decide (p=r) || decide (p=t)))=false):cn (br (f2 eY (ag 0) (fC (.str q)))) (cn (br (f2 eY (ag 0) (fC (.str r)))) (br (f2 eY (ag 0) (fC (.str t))))) [some (.str p,false),some (v,false)]=some false:=(b9 (cq rfl) λ_=>b9 (cq rfl) λ_=>cq rfl).trans (by rw[h])
theorem K5 {p q r:Str}{v:D}(h:(decide (p=q) || decide (p=r))=true):cn (br (f2 eY (ag 0) (fC (.str q)))) (br (f2 eY (ag 0) (fC (.str r)))) [some (.str p,false),some (v,false)]=some true:=(b9 (cq rfl) λ_=>cq rfl).trans (by rw[h])
theorem K6 {p q r t:Str}{v:D}(h:(decide (p=q) || (decide (p=r) || decide (p=t)))=true):cn (br (f2 eY (ag 0) (fC (.str q)))) (cn (br (f2 eY (ag 0) (fC (.str r)))) (br (f2 eY (ag 0) (fC (.str t))))) [some (.str p,false),some (v,false)]=some true:=(b9 (cq rfl) λ_=>b9 (cq rfl) λ_=>cq rfl).trans (by rw[h])
theorem tO {p:Str}{v:D}(h0:(decide (p=("day" : Str)) || decide (p=("since" : Str)))=false)(hp:(decide (p=("office" : Str)) || (decide (p=("by" : Str)) || decide (p=("person" : Str))))=true)(h:dM [v]=some (.bl true,false)):aT [.str p,v]=some (.bl true,false):=aw rfl (av (c2 h0) (et (K6 hp) (aE (ao (ds:=[v]) rfl h))))
theorem uY {v:D}(h:eL [v]=some (.bl true,false)):aT [.str "pieces",v]=some (.bl true,false):=aw rfl (av (c2 (by decide +kernel)) (av (c3 (by decide +kernel)) (av (cq (by decide +kernel)) (av (cq (by decide +kernel)) (av (cq (by decide +kernel)) (av (cq (by decide +kernel)) (av (cq (by decide +kernel)) (av (cq (by decide +kernel)) (et (cq (by decide +kernel)) (aE (ao (ds:=[v]) rfl h)))))))))))
theorem xX {p:Str}{v:D}(hp:(decide (p=("day" : Str)) || decide (p=("since" : Str)))=true)(h:e8 [v]=some (.bl true,false)):aT [.str p,v]=some (.bl true,false):=aw rfl (et (K5 hp) (aE (ao (ds:=[v]) rfl h)))
theorem Ag:aT [.str "whom",.non]=some (.bl true,false):=g6 (by decide +kernel)
theorem rT {v:D}(h:dH [v]=some (.bl true,false)):aT [.str "matters",v]=some (.bl true,false):=aw rfl (av (c2 (by decide +kernel)) (av (c3 (by decide +kernel)) (av (cq (by decide +kernel)) (et (cq (by decide +kernel)) (aE (ao (ds:=[v]) rfl h))))))
theorem rU {v:D}(h:cM [v]=some (.bl true,false)):aT [.str "stretch",v]=some (.bl true,false):=aw rfl (av (c2 (by decide +kernel)) (av (c3 (by decide +kernel)) (av (cq (by decide +kernel)) (av (cq (by decide +kernel)) (et (cq (by decide +kernel)) (aE (ao (ds:=[v]) rfl h)))))))
theorem rV {d:Int}(h1:0<=d)(h2:d<=9):aT [.str "further",.int d]=some (.bl true,false):=aw rfl (av (c2 (by decide +kernel)) (av (c3 (by decide +kernel)) (av (cq (by decide +kernel)) (av (cq (by decide +kernel)) (av (cq (by decide +kernel)) (et (cq (by decide +kernel)) (aE (ao (ds:=[.int d,.int 0,.int 9]) rfl (fF h1 h2)))))))))
theorem EH {d:Int}(h1:0<=d)(h2:d<=59):aT [.str "of",.int d]=some (.bl true,false):=aw rfl (av (c2 (by decide +kernel)) (av (c3 (by decide +kernel)) (av (cq (by decide +kernel)) (av (cq (by decide +kernel)) (av (cq (by decide +kernel)) (av (cq (by decide +kernel)) (av (cq (by decide +kernel)) (et (cq (by decide +kernel)) (aE (ao (ds:=[.int d,.int 0,.int 59]) (by simp[dc]) (fF h1 h2)))))))))))
noncomputable def row (h:Int)(kind:Str)(rest:List D):D:=.tup [.int h,.tup (.str kind::rest)]
noncomputable def eF (z:Str):Bool:=AS (.str z) [.str "by",.str "person",.str "whom"]
noncomputable def there:D->Bool
 |.non=>false
 |_=>true
@[simp] theorem Hg:there .non=false:=rfl
@[simp] theorem Hh (z:Str):there (.str z)=true:=rfl
@[simp] theorem Hj (z:Int):there (.int z)=true:=rfl
@[simp] theorem Hk (z:List D):there (.tup z)=true:=rfl
theorem qr (d:D)(h:rb d=false):iu d .non=some (.bl (there d),false):=by
 cases d<;>simp[kh,there]at h ⊢
noncomputable def pick (l:List (Str×D)):List D:=(l.filter λx=>eF x.1 && there x.2).map (·.2)
structure Nm6 (zs:List Str):Prop where
 len:zs.length=6
 nd:zs.Nodup
 nm:∀z∈zs,m5 z=true
noncomputable def off (zs:List Str)(k:Nat):Str:=zs.getD (4+k) ""
theorem CF {zs:List Str}(g:Nm6 zs):¬off zs 0=off zs 1:=by
 obtain⟨l,nd,_⟩:=g;match zs,l with
 |[a,b,c,d,f,g],_=>
  intro h;have h:f=g:=h;simp[h]at nd
structure DeedG (zs:List Str)(k:Nat)(h:Int)(kind:Str)(rest:List D):Prop where
 parts:∃(parts:List Str)(ss:List Str),gn aU (.str kind)=some (.tup (parts.map .str),false)/\parts.length=rest.length/\(∀x∈parts.zip rest,aT [.str x.1,x.2]=some (.bl true,false))/\pick (parts.zip rest)=ss.map .str/\ss.length<=2/\∀s∈ss,s∈zs
 len:rest.length<=10
 flat:∀d∈rest,aQ d=true/\rb d=false
 day:(kind=("root" : Str)/\(k=0∨k=1)/\∃r,rest=.str (off zs k)::r)∨(kind≠("root" : Str)/\(∃(day:Int)(r:List D),rest=.int day::r/\day<=h/\0<=day/\(kind=("chosen" : Str)->∃a b c s,r=[a,b,c,.int s]/\day<=s))/\lj aU (.str kind) (.str "day")=some (.int 0,false))
def qt (zs:List Str)(k:Nat)(r:D):Prop:=∃h kind rest,r=row h kind rest/\0<=h/\h<=9999/\DeedG zs k h kind rest
theorem gR (h:Int)(kind:Str)(rest:List D):bA [row h kind rest]=some (.str kind,false):=aw rfl (aE (by simp[row,yP,vE]))
theorem o9 {h:Int}{k:Str}{rest:List D}{part:Str}{i:Nat}{d:D}(hi:lj aU (.str k) (.str part)=some (.int i,false))(hd:rest[i]? = some d):cD [row h k rest,.str part]=some (d,false):=by
 refine aw rfl (aE ?_);refine da (x:=.tup (.str k::rest)) (y:=.int (1+i)) (b1:=false) (b2:=false) (by simp[row,yP]) (da (x:=.int 1) (y:=.int i) (b1:=false) (b2:=false) rfl (da (x:=.str k) (y:=.str part) (b1:=false) (b2:=false) (ao (ds:=[row h k rest]) rfl (gR _ _ _)) rfl hi) (by simp)) ?_;have eM:i<rest.length:=(vV hd).1;have:mH (.str k::rest) (1+(i:Int))=some d:=by
  have:=jD (xs:=(.str k:D)::rest) (j:=i+1) (by simp;omega);rw[show(1+(i:Int))=((i+1:Nat):Int) by omega,this];simp only[List.getElem_cons_succ];rw[vU eM]at hd;exact hd
 simp[this]
theorem Ah (k q:Str):eY (.str k) (.str q)=some (.bl (decide (k=q)),false):=by simp
noncomputable def xY:D->D
 |.tup [_,.tup (.str _::.int d::_)]=>.int d
 |_=>.non
theorem Ai {k:Nat}{h:Int}{kind:Str}{rest:List D}(g:DeedG zs k h kind rest):jp [row h kind rest]=some (xY (row h kind rest),false):=by
 rcases g.day with⟨e,_,r,rfl⟩|⟨e,⟨day,r,rfl,_⟩,hi⟩
 ·exact aw rfl (et (bo (b:=false) (da (x:=.str kind) (y:=.str "root") (b1:=false) (b2:=false) (ao (ds:=[row h kind (.str (off zs k)::r)]) rfl (gR _ _ _)) rfl (by rw[Ah,decide_eq_true e]))) (aE rfl))
 ·exact aw rfl (av (bo (b:=false) (da (x:=.str kind) (y:=.str "root") (b1:=false) (b2:=false) (ao (ds:=[row h kind (.int day::r)]) rfl (gR _ _ _)) rfl (by rw[Ah,decide_eq_false e]))) (aE (ao (ds:=[row h kind (.int day::r),.str "day"]) rfl (o9 (i:=0) hi rfl))))
theorem xZ {k:Nat}{h:Int}{kind:Str}{rest:List D}(g:DeedG zs k h kind rest):jE [.tup (.str kind::rest)]=some (.bl true,false):=by
 obtain⟨parts,ss,hp,hl,ha,_⟩:=g.parts;have Kg:(aU.lookup kind).isSome=true:=by
  simp only[gn]at hp;obtain⟨d,h1,_⟩:=oY hp;rw[h1];rfl
 have hsz:=g.len;have e0:f2 cW (ag 0) (fC (.int 0)) [some (.tup (.str kind::rest),false)]=some (.str kind,false):=by simp[vE]
 have eg:f1 (gn aU) (f2 cW (ag 0) (fC (.int 0))) [some (.tup (.str kind::rest),false)]=some (.tup (parts.map .str),false):=nF (x:=.str kind) (b:=false) e0 hp;refine aw rfl (av (b9 (p:=false) (q:=false) (by simp) λ_=>b9 (p:=false) (q:=false) (bo (b:=false) (by simp;omega)) λ_=>dG (p:=true) (bo (b:=false) (ao (ds:=[.str kind,.ty "str"]) (aN e0 rfl) (by simp)))) (av (b9 (p:=false) (q:=false) (bo (b:=false) (nF (x:=.str kind) (b:=false) e0 ?_)) λ_=>bo (b:=false) (da (x:=.int ((rest.length+1:Nat):Int)) (y:=.int (1+(parts.length:Int))) (b1:=false) (b2:=false) (by simp) (da (x:=.int 1) (y:=.int parts.length) (b1:=false) (b2:=false) rfl (ao (ds:=[.tup (parts.map .str)]) (aN eg rfl) (by simp)) (by simp)) ?_)) (aE (ao (ds:=[.lst ((parts.zip rest).map λ_=>.bl true)]) ?_ (ju _)))))
 ·simp only[kW,Kg];rfl
 ·simp;omega
 ·have:=lA (fi:=u6 (f1 (gn aU) (f2 cW (ag 0) (fC (.int 0)))) (yM (ag 0) (gu (fC (.int 1))) gZ)) (nT:=2) (cap:=[]) (tg:=rh [0,1]) (fe:=fA aT (ae (ag 0) (ae (ag 1) ah))) (ρ:=[some (.tup (.str kind::rest),false)]) (parts.zip rest) (λx=>.tup [.str x.1,x.2]) (λ_=>.bl true)
   (by
    show(f1 (gn aU) _ _).bind _=_;rw[eg];simp[CB,ql]) (by rw[List.length_zip];omega) λx hx=>by
    have Kj:=g.flat x.2 (List.of_mem_zip hx).2;exact⟨_,rfl,false,ao (ds:=[.str x.1,x.2]) (by simp[eP]) (ha x hx)⟩
  exact aN (b:=true) this rfl
theorem va (r:D):aQ (xY r)=true:=by
 unfold xY;split<;>rfl
theorem rW {k:Nat}{h:Int}{kind:Str}{rest:List D}(g:DeedG zs k h kind rest):gC [row h kind rest]=some (.bl true,false):=by
 have hd:=Ai g;have FI:∀ {hh:FS}{r:Option Res},hh [some (row h kind rest,false),some (xY (row h kind rest),false)]=r->aC (b8 1 (fA jp (ae (ag 0) ah))) hh [some (row h kind rest,false),none]=r:=λe=>rQ (d:=xY (row h kind rest)) (b:=false) (ao (ds:=[row h kind rest]) rfl hd) (va _) e;rcases g.day with⟨e,_,r,rfl⟩|⟨e,⟨day,r,rfl,Gv,Iw,vL⟩,hi⟩
 ·exact aw rfl (FI (et (bo (b:=false) (da (x:=.non) (y:=.non) (b1:=false) (b2:=false) rfl rfl (by simp[kh]))) (aE rfl)))
 ·refine aw rfl (FI (av (bo (b:=false) (da (x:=.int day) (y:=.non) (b1:=false) (b2:=false) rfl rfl (by simp[kh]))) (av ((cL (p:=decide (kind=("chosen" : Str))) (q:=false) (bo (b:=false) (da (x:=.str kind) (y:=.str "chosen") (b1:=false) (b2:=false) (ao (ds:=[row h kind (.int day::r)]) rfl (gR _ _ _)) rfl (Ah _ _))) λhc=>?_).trans (by rw[Bool.and_false])) (aE ?_))))
  ·have hc:=of_decide_eq_true hc;subst hc;obtain⟨a,b,c,s,rfl,hs⟩:=vL rfl;refine bo (b:=false) (da (x:=.int s) (y:=.int day) (b1:=false) (b2:=false) (ao (ds:=[row h ("chosen" : Str) [.int day,a,b,c,.int s],.str "since"]) rfl (o9 (i:=4) (g6 (by decide +kernel)) rfl)) rfl ?_);simp;omega
  ·refine da (x:=.int day) (y:=.int h) (b1:=false) (b2:=false) rfl (by simp[row,vE]) ?_;simp;omega
theorem Aj {k:Nat}{r:D}(g:qt zs k r):lE [r]=some (.bl true,false):=by
 obtain⟨h,kind,rest,rfl,h0,h1,g⟩:=g;refine aw rfl (av (b9 (p:=false) (q:=false) (by simp[row]) λ_=>by simp[row]) (aE ((g9 (p:=true) (q:=true) (b1:=false) (ao (ds:=[.int h]) (by simp[row,vE]) (gQ h0 h1)) λ_=>(g9 (p:=true) (q:=true) (b1:=false) (ao (ds:=[.tup (.str kind::rest)]) (by simp[row,yP]) (xZ g)) λ_=>ao (ds:=[row h kind rest]) rfl (rW g)).trans rfl).trans rfl)))
noncomputable def kindOf:D->Str
 |.tup [_,.tup (.str k::_)]=>k
 |_=>("" : Str)
def lJ (r:D):Bool:=decide (kindOf r=("root" : Str))
noncomputable def nH:D->Str
 |.tup [_,.tup (_::.str o::_)]=>o
 |_=>("" : Str)
theorem Ak:lj aU (.str "root") (.str "office")=some (.int 0,false):=g6 (by decide +kernel)
theorem lK {k:Nat}{r:D}(g:qt zs k r)(h:lJ r=true):cD [r,.str "office"]=some (.str (nH r),false)/\nH r=off zs k/\(k=0∨k=1):=by
 obtain⟨a,kind,rest,rfl,_,_,g⟩:=g;have h:kind=("root" : Str):=of_decide_eq_true h;subst h;rcases g.day with⟨_,hk,r,rfl⟩|⟨e,_⟩
 ·exact⟨o9 (i:=0) Ak rfl,rfl,hk⟩
 ·exact absurd rfl e
theorem lL {k:Nat}{r:D}(g:qt zs k r):bA [r]=some (.str (kindOf r),false):=by
 obtain⟨a,kind,rest,rfl,_⟩:=g;exact gR _ _ _
theorem ya (k:Str)(ws:List Str):AS (.str k) (ws.map .str)=decide (k∈ws):=by
 induction ws with
 |nil=>simp[AS]
 |cons w ws ih=>
  have:AS (.str k) ((w::ws).map .str)=(ci (.str w) (.str k) || AS (.str k) (ws.map .str)):=rfl;rw[this,ih,pr];by_cases e:w=k
  ·simp[e]
  ·have e':¬k=w:=λz=>e z.symm;simp[e,e']
theorem vc (ws:List Str):(ws.map D.str).all dS=true:=by
 induction ws with
 |nil=>rfl
 |cons w ws ih=>simp[dS]
theorem qu (zs:List Str):eK (zs.map .str)=some zs:=by
 induction zs with
 |nil=>rfl
 |cons z zs ih=>simp[ih]
theorem Al (k:Str)(ws:List Str):sV (.str k) (.lst (ws.map .str))=some (.bl (decide (k∈ws)),false):=by
 simp only[sV,hJ,vJ,ya];rw[if_pos ⟨rfl,vc ws⟩]
def nI (zs:List Str)(rows:List D):Prop:=(rows.length<=30/\Nm6 zs)/\∀(j:Nat) r,rows[j]? = some r->qt zs j r
theorem nI.mem {rows:List D}(g:nI zs rows){r:D}(h:r∈rows):∃k,qt zs k r:=by
 obtain⟨j,hj⟩:=List.mem_iff_getElem?.mp h;exact⟨j,g.2 j r hj⟩
theorem ve {rows:List D}(g:nI zs rows){i:Nat}{r:D}(hr:rows[i]? = some r):cP [.tup (rows.take i),r]=some (.bl false,false):=by
 have hi:=(vV hr).1;have gr:=g.2 i r hr;have Gz:=g.1.1;refine aw rfl (aE ((g9 (p:=lJ r) (q:=false) (b1:=false) (da (x:=.str (kindOf r)) (y:=.str "root") (b1:=false) (b2:=false) (ao (ds:=[r]) rfl (lL gr)) rfl (Ah _ _)) λFJ=>?_).trans (by rw[Bool.and_false])));obtain⟨ho,LX,hk⟩:=lK gr FJ;have FK:∀x∈rows.take i,∃j,j<i/\qt zs j x:=λx hx=>by
  obtain⟨j,hj⟩:=List.mem_iff_getElem?.mp hx;rw[List.getElem?_take]at hj;split at hj
  ·rename_i eM;exact⟨j,eM,g.2 j x hj⟩
  ·cases hj
 have hc:=nq (fi:=cA (ag 0)) (nT:=1) (cap:=[]) (tg:=gj 0) (c:=br (f2 eY (fA bA (ae (ag 0) ah)) (fC (.str "root")))) (fe:=fA cD (ae (ag 0) (ae (fC (.str "office")) ah))) (ρ:=[some (.tup (rows.take i),false)]) (rows.take i) (λx=>x) lJ (λx=>.str (nH x)) (by simp) (by simp;omega) λx hx=>by
  obtain⟨j,hj,gx⟩:=FK x hx;exact⟨_,rfl,bo (b:=false) (da (x:=.str (kindOf x)) (y:=.str "root") (b1:=false) (b2:=false) (ao (ds:=[x]) (by simp[eP]) (lL gx)) rfl (Ah _ _)),λhx=>⟨false,ao (ds:=[x,.str "office"]) (by simp[eP]) (lK gx hx).1⟩⟩
 have LY:eB [.tup (rows.take i)]=some (.lst ((((rows.take i).filter lJ).map nH).map .str),true):=by
  rw[List.map_map];exact aw rfl (aE hc)
 refine da (x:=.str (nH r)) (y:=.lst ((((rows.take i).filter lJ).map nH).map .str)) (b1:=false) (b2:=true) (ao (ds:=[r,.str "office"]) rfl ho) (ao (ds:=[.tup (rows.take i)]) rfl LY) ?_;rw[Al];congr 3;refine decide_eq_false λFz=>?_;obtain⟨x,hx,e⟩:=List.mem_map.mp Fz;obtain⟨hx,LZ⟩:=List.mem_filter.mp hx;obtain⟨j,hj,gx⟩:=FK x hx;obtain⟨_,Ma,Kf⟩:=lK gx LZ;rw[LX,Ma]at e;have:=CF g.1.2;rcases hk with rfl|rfl<;>rcases Kf with rfl|rfl
 ·omega
 ·omega
 ·exact this e
 ·omega
theorem qv:∀(ss ts:List Str){x:Str},x∈ss.foldl fX ts->x∈ts∨x∈ss
 |[],ts,x,h=>.inl h
 |y::ss,ts,x,h=>by
  rw[List.foldl_cons]at h;rcases qv ss (fX ts y) h with h|h
  ·rcases xp.mp h with h|h
   ·exact .inl h
   ·exact .inr (h ▸ mX)
  ·exact .inr (mZ _ h)
theorem lM:∀(ss ts:List Str),ts.Nodup->(ss.foldl fX ts).Nodup
 |[],ts,h=>h
 |y::ss,ts,h=>lM ss (fX ts y) (rC h y)
theorem qw {ss:List Str}{x:Str}(h:x∈cu ss):x∈ss:=by
 rcases qv ss [] h with h|h
 ·cases h
 ·exact h
theorem qx:∀(l m:List Str),l.Nodup->(∀x∈l,x∈m)->l.length<=m.length
 |[],m,_,_=>uN _
 |x::l,m,h,s=>by
  rw[List.nodup_cons]at h;have hx:=s x mX;have:=qx l (m.erase x) h.2 λy hy=>(List.mem_erase_of_ne (a:=y) (b:=x) (λe=>h.1 (by rw[←e];exact hy))).mpr (s y (mZ _ hy));rw[List.length_erase_of_mem hx]at this;have:0<m.length:=List.length_pos_of_mem hx;rw[vD];omega
theorem qy {h:Int}{kind:Str}{rest:List D}{parts:List Str}(hp:gn aU (.str kind)=some (.tup (parts.map .str),false)):bP [row h kind rest]=some (.lst ((parts.zip rest).map λx=>.tup [.str x.1,x.2]),true):=by
 refine aw rfl (aE ?_);have e1:f1 (gn aU) (fA bA (ae (ag 0) ah)) [some (row h kind rest,false)]=some (.tup (parts.map .str),false):=nF (x:=.str kind) (b:=false) (ao (ds:=[row h kind rest]) rfl (gR h kind rest)) hp;have e2:yM (f2 cW (ag 0) (fC (.int 1))) (gu (fC (.int 1))) gZ [some (row h kind rest,false)]=some (.tup rest,false):=by simp[row,yP,CB]
 show(((f1 (gn aU) (fA bA (ae (ag 0) ah)) [some (row h kind rest,false)]).bind λx=>(yM (f2 cW (ag 0) (fC (.int 1))) (gu (fC (.int 1))) gZ [some (row h kind rest,false)]).bind λy=>(hJ x.1).bind λxs=>(hJ y.1).map λys=>dX xs ys).map λds=>(D.lst ds,true))=_;rw[e1,e2];simp[ql]
theorem vf {k:Nat}{r:D}(g:qt zs k r):∃ss:List Str,df [r]=some (.lst (ss.map .str),true)/\ss.length<=2/\∀s∈ss,s∈zs:=by
 obtain⟨h,kind,rest,rfl,_,_,g⟩:=g;obtain⟨parts,ss,hp,hl,_,hk,dN,Ix⟩:=g.parts;have FL:=nq (fi:=cA (fA bP (ae (ag 0) ah))) (nT:=2) (cap:=[]) (tg:=rh [0,1]) (c:=gX (br (f2 sV (ag 0) (fC cg))) (br (f2 iu (ag 1) (fC .non)))) (fe:=ag 1)
  (ρ:=[some (row h kind rest,false),none]) (parts.zip rest) (λx=>.tup [.str x.1,x.2]) (λx=>eF x.1 && there x.2) (·.2) (by
   have e1:fA bP (ae (ag 0) ah) [some (row h kind rest,false),none]=_:=ao (ds:=[row h kind rest]) rfl (qy hp);show Option.bind (fA bP (ae (ag 0) ah) [some (row h kind rest,false),none]) _=_;rw[e1];rfl) (by
   have:=g.len;rw[List.length_zip];omega) λx hx=>by
   have Kj:=(g.flat x.2 (List.of_mem_zip hx).2);refine⟨_,rfl,cL (bo (b:=false) ?_) λ_=>bo (b:=false) ?_,λ_=>⟨false,?_⟩⟩
   ·refine da (x:=.str x.1) (y:=cg) (b1:=false) (b2:=false) (by simp[eP]) rfl ?_;simp[cg,eF,dS]
   ·exact da (x:=x.2) (y:=.non) (b1:=false) (b2:=false) (by simp[eP]) rfl (qr _ Kj.2)
   ·simp[eP]
 refine⟨iZ (cu ss),aw rfl (cK (ds:=ss.map .str) ?_ (cE ss) (aE ?_)),?_,?_⟩
 ·exact hk ▸ FL
 ·have:ss.length<64:=by omega
  simp[this]
 ·rw[(ej _).length_eq];exact vR (iX ss) dN
 ·intro s hs;exact Ix s (qw ((ej _).mem_iff.mp hs))
theorem vg {rows:List D}(g:∀r∈rows,∃k,qt zs k r)(hl:rows.length<=60)(Mb:zs.length=6):∃n:Nat,eC [.tup rows]=some (.int n,false)/\n<=6:=by
 obtain⟨ρ',e,ys,v,rfl,hz,h6⟩:=ji (tg:=gj 2) (g:=gh) (λi ρ=>∃(ys:List Str)(v:OB),ρ=[some (.tup rows,false),some (.lst (ys.map .str),true),v]/\ys.length<=2*i/\∀z∈ys,z∈zs) rows
  [some (.tup rows,false),some (.lst [],true),none] ⟨[],none,rfl,by simp,by simp⟩ (by
   rintro i d ρ hd ⟨ys,v,rfl,hz,h6⟩;have hi:=(vV hd).1;obtain⟨k,gd⟩:=g d (List.mem_of_getElem? hd);obtain⟨ss,hp,dN,Ix⟩:=vf gd;have hsz:(ys.map D.str).length+(ss.map D.str).length<=sizeLine:=cf (by simp;omega);refine⟨_,[some (.tup rows,false),some (.lst ((ys++ss).map .str),true),some (d,false)],rfl,.inl ?_,ys++ss,some (d,false),rfl,by simp;omega,?_⟩
   ·have hv:fA df (ae (ag 2) ah) [some (.tup rows,false),some (.lst (ys.map .str),true),some (d,false)]=some (.lst (ss.map .str),true):=ao (ds:=[d]) rfl hp;show mm 1 (fA df (ae (ag 2) ah)) [some (.tup rows,false),some (.lst (ys.map .str),true),some (d,false)]=_;simp only[mm,List.getElem?_cons_succ,List.getElem?_cons_zero,hv,vJ];rw[if_pos ⟨trivial,cE ss,hsz⟩];simp
   ·intro z hz';rcases List.mem_append.mp hz' with h|h
    ·exact h6 z h
    ·exact Ix z h)
 refine⟨(cu ys).length,aw rfl (cK (ds:=[]) (by simp[sizeLine]) rfl (cC (jk (ds:=rows) (by simp[mh]) e) (aE (nF (x:=.lst (ys.map .str)) (b:=false) rfl ?_)))),?_⟩
 ·have:ys.length<4000:=by omega
  simp only[ja,qu,vJ,if_pos this]
 ·exact vR (qx (cu ys) zs (lM ys [] List.nodup_nil) λz hz=>h6 z (qw hz)) (Nat.le_of_eq Mb)
theorem yc {rows:List D}{i:Nat}{r:D}(h:rows[i]? = some r):mH rows (i:Int)=some r:=by
 have eM:i<rows.length:=(vV h).1;rw[jD eM,←h,vU eM]
theorem rX {rows:List D}(g:nI zs rows){i:Nat}(hi:i<rows.length):ga [.tup rows,.int i]=some (.bl false,false):=by
 obtain⟨r,hr⟩:∃r,rows[i]? = some r:=⟨_,vU hi⟩;have ha:=yc hr;have Gz:=g.1.1;have Gy:∀ρ:DL.Env,ρ[0]? = some (some (.tup rows,false))->ρ[1]? = some (some (.int i,false))->f2 cW (ag 0) (ag 1) ρ=some (r,false):=λρ h0 h1=>by simp[h0,h1,ha]
 obtain⟨n,hn,ME⟩:=vg (rows:=rows.take (i+1)) (λx hx=>g.mem (List.mem_of_mem_take hx)) (by simp;omega) g.1.2.len;have EX:=qk rows (i+1);rw[Int.natCast_add]at EX;refine aw rfl (av (b9 (p:=false) (q:=false) (bo (b:=false) (by simp[dc];omega)) λ_=>dG (p:=true) (bo (b:=false) (ao (ds:=[r]) (aN (Gy _ rfl rfl) rfl) (Aj (g.2 i r hr))))) (aE ((tI (p:=false) (q:=false) (b1:=false) (ao (ds:=[.tup (rows.take i),r]) (aN (d:=.tup (rows.take i)) (b:=false) (by simp[qk]) (aN (Gy _ rfl rfl) rfl)) (ve g hr)) λ_=>da (x:=.int n) (y:=.int 20) (b1:=false) (b2:=false) (ao (ds:=[.tup (rows.take (i+1))]) (aN (d:=.tup (rows.take (i+1))) (b:=false) (by simp;exact EX) rfl) hn) rfl (by simp;omega)).trans rfl)))
theorem jY {rows:List D}(g:nI zs rows)(hf:aV rows=true)(d:D)(hd:d=.lst rows∨d=.tup rows):bx [d]=some (.tup rows,false):=by
 have hl:=g.1.1;obtain⟨ρ',e,v,rfl⟩:=lv (tg:=gj 2) (g:=gF) rows.length (λi ρ=>∃v:OB,ρ=[some (d,false),some (.tup rows,false),v])
  [some (d,false),some (.tup rows,false),none] ⟨none,rfl⟩ (by
   rintro i ρ hi ⟨v,rfl⟩;exact⟨_,_,rfl,.inl (l7 (bo (b:=false) (ao (ds:=[.tup rows,.int i]) rfl (rX g hi))) rfl),some (.int i,false),rfl⟩)
 refine aw rfl (av (dG (p:=true) (bo (b:=false) (ao (ds:=[d,.tup [.ty "list",.ty "tuple"]]) (aN rfl (aN (d:=.tup [.ty "list",.ty "tuple"]) (b:=false) (by simp[sizeLine]) rfl)) ?_))) (rQ (d:=.tup rows) (b:=false) (ao (ds:=[d]) rfl ?_) (by simp[hf]) (cC (l8 (gM (j:=rows.length) (b:=false) (by simp) (by omega)) e) (kB rfl))))
 ·rcases hd with rfl|rfl<;>simp
 ·rcases hd with rfl|rfl<;>simp
end Lw
namespace Lw
open PySem PySem.Spec DL L2
noncomputable abbrev sF (d:D):OB:=some (d,false)
noncomputable abbrev lT (ds:List D):OB:=some (.lst ds,true)
theorem ye (a:Int){m:Int}(h:0<m):aP (.int a) (.int m)=some (.int (a % m),false):=by simp[h]
theorem EI (a:Int){m:Int}(h:0<m)(h2:m<1073741824):bt (.int a) (.int m)=some (.int (a / m),false):=by simp[h,h2]
theorem im {f:FE}{ρ:DL.Env}{a m:Int}(e:f ρ=sF (.int a))(h:0<m):f2 aP f (fI m) ρ=sF (.int (a % m)):=db (.int a) (.int m) e rfl (ye a h)
theorem lY {f:FE}{ρ:DL.Env}{a m:Int}(e:f ρ=sF (.int a))(h:0<m)(h2:m<1073741824):f2 bt f (fI m) ρ=sF (.int (a / m)):=db (.int a) (.int m) e rfl (EI a h h2)
theorem rY (a:Int){b:Int}(h : -1000000<=b/\b<=1000000):gU (.int a) (.int b)=some (.int (a*b),false):=by
 have : -18446744073709551616<b/\b<18446744073709551616:=by omega
 simp[this]
theorem oA {k:Int}(h : -1000000000000<=k/\k<=1000000000000):Builtin.Int.intBits k<=64:=intBits_le_64 (by omega) (by omega)
theorem oB {ns:List Int}(hf:EF ns)(k:Nat)(hk:k<=100):∃c:Int,bK [.lst (ns.map .int),.int k]=sF (.int c):=by
 have bp:∀ρ:DL.Env,ρ[0]? = some (sF (.lst (ns.map .int)))->fA cy (fV 0 ah) ρ=sF (.int ns.length):=λρ h=>by
  refine v7 [.lst (ns.map .int)] (bR (by simp[h]) rfl) ?_;rw[o8,vH]
 have fin:∀v:Int,Builtin.Int.intBits v<=2097152->aW (f2 aP (f2 C8 (ag 2) (ag 2)) (fI 2147483647)) [sF (.lst (ns.map .int)),sF (.int k),sF (.int v)]=some (.rt (.int (v*v % 2147483647)) false):=λv hv=>
  aE (im (db (.int v) (.int v) rfl rfl (by simp[hv])) (by decide))
 by_cases h:k<ns.length
 ·refine⟨ns.getD k 0,aw rfl (et (tL (db (.int k) (.int ns.length) rfl (bp _ rfl) (by simp;omega))) (aE (db (.lst (ns.map .int)) (.int k) rfl rfl ?_)))⟩;have:=tK (xs:=ns) (i:=k) (by omega) (by simpa using h);rw[Int.toNat_natCast]at this;exact this
 ·have Mc:Builtin.Int.intBits (9973*(k:Int)+11)<=64:=oA (by omega);have e0:f2 bv (f2 gU (fI 9973) (ag 1)) (fI 11) [sF (.lst (ns.map .int)),sF (.int k),none]=sF (.int (9973*k+11)):=db (.int (9973*k)) (.int 11) (db (.int 9973) (.int k) rfl rfl (rY _ (by omega))) rfl rfl;have t1:br (f2 yL (ag 1) (fA cy (fV 0 ah))) [sF (.lst (ns.map .int)),sF (.int k),none]=some false:=tL (db (.int k) (.int ns.length) rfl (bp _ rfl) (by simp;omega));by_cases hz:0<ns.length
  ·have Gx:(0:Int)<ns.length:=by omega
   have h5:=mod_lt (x:=(k:Int)*7) Gx;obtain⟨j,hj⟩:∃j:Nat,(k:Int)*7 % ns.length=j:=⟨((k:Int)*7 % ns.length).toNat,by omega⟩;have Iy:j<ns.length:=by omega
   have hb:Builtin.Int.intBits (ns.getD j 0)<=1048576:=hf _ (by rw[List.getD_eq_getElem?_getD,vU Iy];exact List.getElem_mem Iy);have ei:f2 cW (ag 0) (f2 aP (f2 gU (ag 1) (fI 7)) (fA cy (fV 0 ah))) [sF (.lst (ns.map .int)),sF (.int k),sF (.int (9973*k+11))]=sF (.int (ns.getD j 0)):=by
    refine db (.lst (ns.map .int)) (.int j) rfl (hj ▸ db (.int (k*7)) (.int ns.length) (db (.int k) (.int 7) rfl rfl (rY _ (by decide))) (bp _ rfl) (ye _ Gx)) ?_;have:=tK (xs:=ns) (i:=j) (by omega) (by simpa using Iy);rw[Int.toNat_natCast]at this;exact this
   generalize ns.getD j 0=x at hb ei;have Iz:(k:Int)*k<=10000/\0<=(k:Int)*k:=by
    have h1:k*k<=100*100:=Nat.mul_le_mul hk hk;rw[←Int.natCast_mul];omega
   have ev:f2 bv (f2 bv (f2 gU (f2 cW (ag 0) (f2 aP (f2 gU (ag 1) (fI 7)) (fA cy (fV 0 ah)))) (fI 48271)) (f2 gU (f2 gU (ag 1) (ag 1)) (fI 1013))) (fI 3) [sF (.lst (ns.map .int)),sF (.int k),sF (.int (9973*k+11))]=sF (.int (x*48271+k*k*1013+3)) :=
    db (.int (x*48271+k*k*1013)) (.int 3) (db (.int (x*48271)) (.int (k*k*1013)) (db (.int x) (.int 48271) ei rfl (rY _ (by decide))) (db (.int (k*k)) (.int 1013) (db (.int k) (.int k) rfl rfl (rY _ (by omega))) rfl (rY _ (by decide))) rfl) rfl rfl
   generalize (k:Int)*k=y at Iz ev;have Md:Builtin.Int.intBits (x*48271+y*1013+3)<=2097152:=by
    have h1:=intBits_mul_le hb (oA (k:=48271) (by decide));have h2:=intBits_add_le h1 (oA (k:=y*1013) (by omega));have h3:=intBits_add_le h2 (oA (k:=3) (by decide));exact vR h3 (by decide)
   exact⟨_,aw rfl (av t1 (xW (.int (9973*k+11)) e0 rfl (cC (m4 (tL (db (.int ns.length) (.int 0) (bp _ rfl) rfl (by simp;omega))) (qa ev rfl)) (fin _ Md))))⟩
  ·refine⟨_,aw rfl (av t1 (xW (.int (9973*k+11)) e0 rfl (cC (l7 (tL (db (.int ns.length) (.int 0) (bp _ rfl) rfl (by rw[show(ns.length:Int)=0 by omega];rfl))) rfl) (fin (9973*k+11) (vR Mc (by decide))))))⟩
theorem CG {ρ:DL.Env}{i n:Nat}{ds:List D}{fk fv:FE}{d:D}{b b':Bool}(e:ρ[i]? = some (some (.lst ds,true)))(ev:fv ρ=some (d,b))(ek:fk ρ=some (.int n,b'))(hn:n<ds.length)(hf:aQ d=true):xk i fk fv ρ=some (.nx (ρ.set i (some (.lst (ds.set n d),true)))):=by
 have hx:wv ds.length (n:Int)=some n:=by
  unfold wv;rw[if_pos (by omega)];simp[hn]
 simp only[xk,e,ev,ek,vJ,hx,if_pos hf]
theorem qz (x:Int):0<=x % 26/\x % 26<26:=mod_lt (by decide)
noncomputable def ko:PySem.Str:="abcdefghijklmnopqrstuvwxyz"
theorem vh:ko.cps.size=26:=by decide +kernel
def yQ (x:Int):Nat:=ko.cps.toList.getD (x % 26).toNat 0
theorem yf (x:Int):cW (.str ko) (.int (x % 26))=sF (.str ⟨#[yQ x]⟩):=DL.qS (qz x).1 (by rw[vh];have:=qz x;omega) (by decide +kernel)
theorem yg:∀i:_root_.Fin 26,jX (ko.cps.toList.getD i.val 0)=true:=by decide +kernel
theorem yh:∀i j:_root_.Fin 26,ko.cps.toList.getD i.val 0=ko.cps.toList.getD j.val 0->i=j:=by decide +kernel
theorem tP (x:Int):jX (yQ x)=true:=yg ⟨(x % 26).toNat,by have:=qz x;omega⟩
theorem Am {x y:Int}(h:yQ x=yQ y):x % 26=y % 26:=by
 have hx:=qz x;have hy:=qz y;have:=yh ⟨(x % 26).toNat,by omega⟩ ⟨(y % 26).toNat,by omega⟩ h;injection this;omega
noncomputable def sg (cs:List Nat):List Str:=cs.map λc=>⟨#[c]⟩
theorem yi:∀cs:List Nat,((sg cs).map (·.length)).sum=cs.length
 |[]=>rfl
 |c::cs=>by
  show 1+((sg cs).map (·.length)).sum=cs.length+1;rw[yi cs];omega
theorem q8:∀(zs:List Str)(y:Str),(Str.join ("" : Str) (y::zs)).cps.toList=(y::zs).flatMap λz=>z.cps.toList
 |[],y=>by rw[List.flatMap_cons,List.flatMap_nil,uQ];rfl
 |z::r,y=>by
  have e3:∀a b:Str,(a++b).cps.toList=a.cps.toList++b.cps.toList:=λa b=>by show(a.cps++b.cps).toList=_;simp
  show(y++("" : Str)++Str.join ("" : Str) (z::r)).cps.toList=_;rw[e3,e3,q8 r z,show("" : Str).cps.toList=[]from rfl,uQ];rfl
theorem yj {zs:List Str}(h:zs≠[]):(Txt.join ("" : Str) zs).cps.toList=zs.flatMap λz=>z.cps.toList:=by
 cases zs with
 |nil=>exact absurd rfl h
 |cons y zs=>
  unfold Txt.join;rw[StrLaws.glued_eq_join];exact q8 zs y
theorem rZ {cs:List Nat}(h:cs≠[]):(Txt.join ("" : Str) (sg cs)).cps.toList=cs:=by
 rw[yj (by simpa [sg]using h)];unfold sg;rw[List.flatMap_map];exact List.flatMap_singleton' cs
theorem EJ {cs:List Nat}(h1:1<=cs.length)(h8:cs.length<=8)(hl:∀c∈cs,jX c=true):m5 (Txt.join ("" : Str) (sg cs))=true:=by
 have e:=rZ (cs:=cs) (λz=>by rw[z]at h1;cases h1);unfold m5;rw[←qo,e,vC,vC,List.all_eq_true];exact⟨⟨decide_eq_true h1,decide_eq_true h8⟩,hl⟩
theorem An (cs:List Nat)(h:cs.length<=1000):iU (.str "") (.lst ((sg cs).map .str))=sF (.str (Txt.join ("" : Str) (sg cs))):=by
 show(eK ((sg cs).map .str)).bind _=_;rw[qu];show(if _ then _ else _)=_;rw[yi,show("" : Str).length=0 from rfl,if_pos (by omega)]
theorem yk (c:Int):∃zs:List Str,jF [.int c]=lT (zs.map .str)/\Nm6 zs:=by
 have h8:=mod_lt (x:=c) (m:=8) (by decide);obtain⟨n,hn⟩:∃n:Nat,1+c % 8=n:=⟨(1+c % 8).toNat,by omega⟩;let bs:List Nat:=(List.range n).map λ(k:Nat)=>yQ (c / (3+4*k));have F3:bs.length=n:=by simp[bs]
 have HM:∀x∈bs,jX x=true:=λx hx=>by obtain⟨k,_,rfl⟩:=List.mem_map.mp hx;exact tP _
 have hb:=lA (fi:=eU (f2 bv (fI 1) (f2 aP (ag 0) (fI 8)))) (nT:=1) (cap:=[1,0]) (tg:=gj 0) (fe:=f2 cW (ag 1) (f2 aP (f2 bt (ag 2) (f2 bv (fI 3) (f2 gU (fI 4) (ag 0)))) (fI 26)))
  (ρ:=[sF (.int c),sF (.str ko),none,none,none,none,none]) (List.range n) (λ(k:Nat)=>.int k) (λ(k:Nat)=>.str ⟨#[yQ (c / (3+4*k))]⟩)
  (by rw[gM (j:=n) (b:=false) (hn ▸ db (.int 1) (.int (c % 8)) rfl (im rfl (by decide)) rfl) (by omega),uU,List.map_map];rfl) (by simp;omega) λk hk=>by
   have hk:=List.mem_range.mp hk;exact⟨_,rfl,false,db (.str ko) (.int (c / (3+4*k) % 26)) rfl (im (db (.int c) (.int (3+4*k)) rfl (db (.int 3) (.int (4*k)) rfl (db (.int 4) (.int k) rfl rfl (rY _ (by omega))) rfl) (EI _ (by omega) (by omega))) (by decide)) (yf _)⟩
 have JQ:(List.range n).map (λ(k:Nat)=>D.str ⟨#[yQ (c / (3+4*k))]⟩)=(sg bs).map .str:=by simp[sg,bs]
 rw[JQ]at hb;have MF:=mod_lt (x:=c / 8) (m:=n) (by omega);obtain⟨a,ha⟩:∃a:Nat,c / 8 % n=a:=⟨(c / 8 % n).toNat,by omega⟩;have Kk:a<bs.length:=by omega
 let nm:Nat->List Nat:=λi=>bs.set a (yQ (c / 64+3*i));have Br:∀i,(nm i).length=n:=λi=>by simp[nm,F3]
 obtain⟨ρ',e,v5,v6,rfl⟩:=lv (tg:=gj 5) (g:=lG) 6 (λi ρ=>∃v5 v6:OB,ρ=[sF (.int c),sF (.str ko),lT ((sg bs).map .str),sF (.int a),lT (((List.range i).map λi=>Txt.join ("" : Str) (sg (nm i))).map .str),v5,v6])
  [sF (.int c),sF (.str ko),lT ((sg bs).map .str),sF (.int a),lT [],none,none] ⟨none,none,rfl⟩ (by
   rintro i ρ hi ⟨v5,v6,rfl⟩;have es:((sg bs).map D.str).set a (.str ⟨#[yQ (c / 64+3*i)]⟩)=(sg (nm i)).map .str:=by simp only[sg,nm,List.map_map,List.map_set,Function.comp]
   refine⟨_,_,rfl,.inl (cK (ds:=(sg bs).map .str) (by simp) (cE _) (cC (CG (n:=a) (ds:=(sg bs).map .str) (d:=.str ⟨#[yQ (c / 64+3*i)]⟩) (b:=false) (b':=false) rfl ?_ rfl (by simpa [sg]using Kk) rfl) (iB (d:=.str (Txt.join ("" : Str) (sg (nm i)))) (b:=false) rfl ?_ rfl (ce (by simp;omega))))),some (.int i,false),some (.lst ((sg (nm i)).map .str),true),?_⟩
   ·exact db (.str ko) (.int ((c / 64+3*i) % 26)) rfl (im (db (.int (c / 64)) (.int (3*i)) (lY rfl (by decide) (by decide)) (db (.int 3) (.int i) rfl rfl (rY _ (by omega))) rfl) (by decide)) (yf _)
   ·rw[es];exact db (.str "") (.lst ((sg (nm i)).map .str)) rfl rfl (An _ (by rw[Br];omega))
   ·rw[es,List.range_succ];simp)
 refine⟨(List.range 6).map λi=>Txt.join ("" : Str) (sg (nm i)),aw rfl (xW (.str ko) rfl rfl (cK hb (cE _) (xW (.int a) ?_ rfl (cK (ds:=[]) (by simp[sizeLine]) rfl (cC (l8 (gM (j:=6) (b:=false) rfl (by decide)) e) (kB rfl)))))),by simp,?_,λz hz=>?_⟩
 ·rw[←ha];refine db (.int (c / 8)) (.int n) (lY rfl (by decide) (by decide)) ?_ (ye _ (by omega));refine v7 [.lst ((sg bs).map .str)] (bR rfl rfl) ?_;rw[o8];simp[sg,F3]
 ·refine List.pairwise_map.mpr (List.Pairwise.imp_of_mem ?_ (List.nodup_range (n:=6)));intro i j hi hj hij e;have e:=congrArg (λz:Str=>z.cps.toList) e;have e:nm i=nm j:=by
   have h1:∀i,nm i≠[]:=λi z=>by have:=Br i;rw[z]at this;simp at this;omega
   simpa only[rZ (h1 i),rZ (h1 j)]using e
  have e:=congrArg (λl:List Nat=>l[a]?) e;simp only[nm,List.getElem?_set_self Kk,Option.some.injEq]at e;have:=Am e;have hi:=List.mem_range.mp hi;have hj:=List.mem_range.mp hj;omega
 ·obtain⟨i,_,rfl⟩:=List.mem_map.mp hz;refine EJ (by rw[Br];omega) (by rw[Br];omega) λx hx=>?_;rcases List.mem_or_eq_of_mem_set hx with h|h
  ·exact HM x h
  ·rw[h];exact tP _
theorem gS {α:Type}(l:List α)(F:α->D){ρ:DL.Env}{fl fx:FE}{b:Bool}{a m:Int}(el:fl ρ=some (.lst (l.map F),b))(ex:fx ρ=sF (.int a))(h0:0<m)(hm:m<=l.length):∃x∈l.take m.toNat,f2 cW fl (f2 aP fx (fI m)) ρ=some (F x,false):=by
 have h:=mod_lt (x:=a) h0;obtain⟨j,hj⟩:∃j:Nat,a % m=j:=⟨(a % m).toNat,by omega⟩;have hl:j<l.length:=by omega
 refine⟨l[j],List.mem_take_iff_getElem.mpr ⟨j,by omega,rfl⟩,da (x:=.lst (l.map F)) (y:=.int j) (b1:=b) (b2:=false) el (hj ▸ im ex h0) ?_⟩;have:(l.map F)[j]? = some (F l[j]):=by rw[vA,vU hl];rfl
 simp[yc this]
noncomputable def gq (zs:List Str)(i:Int):Str:=zs.getD i.toNat ""
theorem kC {zs:List Str}(nm:Nm6 zs){i:Int}(h:i<6):gq zs i∈zs:=by
 have:=nm.len;unfold gq;rw[List.getD_eq_getElem?_getD,vU (by omega)];exact List.getElem_mem _
theorem Bd {zs:List Str}(nm:Nm6 zs){i:Int}(h0:0<=i)(h:i<6):cW (.lst (zs.map .str)) (.int i)=sF (.str (gq zs i)):=by
 have hl:=nm.len;rw[rR h0 (by simp;omega)];congr 2;unfold gq;rw[List.getD_eq_getElem?_getD,List.getD_eq_getElem?_getD,vA,vU (show i.toNat<zs.length by omega)];rfl
theorem ym {x:Int}(h:0<=x):∃y:Int,mj [.int 9999,.int x]=sF (.int y)/\0<=y/\y<=9999/\y<=x/\(x<=9999->y=x)/\(9999<x->y=9999):=⟨if x<9999 then x else 9999,rfl,by split<;>omega,by split<;>omega,by split<;>omega,by split<;>omega,by split<;>omega⟩
noncomputable def wD:Option Str->D
 |none=>.non
 |some z=>.str z
noncomputable def uI:Option Int->D
 |none=>.non
 |some n=>.int n
theorem tQ (o:Option Str):aQ (wD o)=true:=by cases o<;>rfl
theorem Ao (o:Option Int):aQ (uI o)=true:=by cases o<;>rfl
theorem oM {ρ:DL.Env}{fa:FA}(ds:List D)(e:fa ρ=some ds)(h:ds.length<=20:=by exact Nat.le_of_ble_eq_true rfl):fA bM fa ρ=sF (.tup ds):=ao e (by
 have:ds.length<=sizeLine:=cf (by omega);simp[this])
theorem iD {ρ:DL.Env}{fa:FA}(ds:List D)(e:fa ρ=some ds)(h:ds.length<=20:=by exact Nat.le_of_ble_eq_true rfl):fA aS fa ρ=lT ds:=ao e (by
 have:ds.length<=sizeLine:=cf (by omega);simp[this])
theorem EK {ρ:DL.Env}{fx fy:FE}{xs ys:List D}{b b':Bool}(ex:fx ρ=some (.lst xs,b))(ey:fy ρ=some (.lst ys,b'))(h:xs.length+ys.length<=100:=by exact Nat.le_of_ble_eq_true rfl):f2 bv fx fy ρ=lT (xs++ys):=da ex ey (by
 have:xs.length+ys.length<=sizeLine:=cf (by omega);simp only[bv,if_pos this])
def Dv (s:Int)(o:Option Int):Prop:=0<=s/\s<=9999/\∀t,o=some t->s<t/\t<=9999
theorem EL {s:Int}{o:Option Int}(g:Dv s o):cM [.tup [.int s,uI o]]=some (.bl true,false):=by
 obtain⟨h0,h9,ho⟩:=g;cases o with
 |none=>exact qq h0 h9
 |some t=>
  obtain⟨h1,h2⟩:=ho t rfl;refine aw rfl (av (b9 (p:=false) (q:=false) (by simp) λ_=>b9 (p:=false) (q:=false) (by simp) λ_=>dG (p:=true) (bo (b:=false) (ao (ds:=[.int s]) (by simp[vE]) (gQ h0 h9)))) (aE ((tI (p:=false) (q:=true) (b1:=false) (by simp[yP,kh,uI]) λ_=>(g9 (p:=true) (q:=true) (b1:=false) (ao (ds:=[.int t]) (by simp[yP,uI]) (gQ (by omega) h2)) λ_=>by simp[vE,yP,uI];omega).trans rfl).trans rfl)))
noncomputable def oN (c:Int×Str):D:=.tup [.int c.1,.str c.2]
structure ChG (cs:List (Int×Str)):Prop where
 one:∀c∈cs,(0<=c.1/\c.1<=7)/\m5 c.2=true
 up:(cs.map (·.1)).Pairwise (· < ·)
 len:cs.length<=8
theorem yn (l:List D):kR l (some 1) none=l.tail:=by
 cases l with
 |nil=>rfl
 |cons d r=>exact CB d r
theorem yo:∀ {ps:List Int},ps.Pairwise (· < ·)->∀x∈ps.zip ps.tail,x.1<x.2
 |[],_,x,hx=>by cases hx
 |[a],_,x,hx=>by cases hx
 |a::b::r,h,x,hx=>by
  rcases vP hx with rfl|hx
  ·exact(List.pairwise_cons.mp h).1 b (by simp)
  ·exact yo (List.pairwise_cons.mp h).2 x hx
theorem nJ:∀(xs ys:List Int),dX (xs.map .int) (ys.map .int)=(xs.zip ys).map λx=>.tup [.int x.1,.int x.2]
 |[],ys=>rfl
 |x::xs,[]=>rfl
 |x::xs,y::ys=>by have:=nJ xs ys;unfold dX at this ⊢;simp[this]
theorem sd {c:Int×Str}(h:(0<=c.1/\c.1<=7)/\m5 c.2=true):de [oN c]=some (.bl true,false):=by
 refine aw rfl (av (b9 (p:=false) (q:=false) (by simp[oN]) λ_=>by simp[oN]) (aE ((g9 (p:=true) (q:=true) (b1:=false) (ao (ds:=[.int c.1,.int 0,.int 7]) (by simp[oN,vE,cT]) (fF h.1.1 h.1.2)) λ_=>ao (ds:=[.str c.2]) (by simp[oN,yP]) (nG h.2)).trans rfl)))
theorem q9 {cs:List (Int×Str)}(g:ChG cs):fZ [.tup (cs.map oN)]=some (.bl true,false):=by
 have hl:=g.len;have e1:fA ml (ae (bY (cA (ag 0)) 1 [] (gj 0) gg (fA de (ae (ag 0) ah))) ah) [some (.tup (cs.map oN),false),none]=some (.bl true,false):=by
  have:=lA (fi:=cA (ag 0)) (nT:=1) (cap:=[]) (tg:=gj 0) (fe:=fA de (ae (ag 0) ah)) (ρ:=[some (.tup (cs.map oN),false),none]) cs oN (λ_=>.bl true) (by simp) (by omega) λc hc=>
   ⟨_,rfl,false,ao (ds:=[oN c]) (by simp[eP]) (sd (g.one c hc))⟩
  exact ao (aN (b:=true) this rfl) (ju cs)
 have e2:=lA (fi:=cA (ag 0)) (nT:=1) (cap:=[]) (tg:=gj 0) (fe:=f2 cW (ag 0) (fC (.int 0))) (ρ:=[some (.tup (cs.map oN),false),none]) cs oN (λc=>.int c.1) (by simp) (by omega) λc hc=>
  ⟨_,rfl,false,by simp[eP,oN,vE]⟩
 have Me:cs.map (λc=>D.int c.1)=(cs.map (·.1)).map .int:=by rw[List.map_map];rfl
 rw[Me]at e2;refine aw rfl (av (b9 (p:=false) (q:=false) (by simp) λ_=>dG (p:=true) (bo (b:=false) e1)) (cK (ds:=(cs.map (·.1)).map .int) (show bY (cA (ag 0)) 1 [] (gj 0) gg (f2 cW (ag 0) (fC (.int 0))) [some (.tup (cs.map oN),false),none]=_ from e2) (bw _) (aE ?_)));have:=lA (fi:=u6 (ag 1) (yM (ag 1) (gu (fC (.int 1))) gZ)) (nT:=2) (cap:=[]) (tg:=rh [0,1]) (fe:=f2 yL (ag 0) (ag 1)) (ρ:=[some (.tup (cs.map oN),false),some (.lst ((cs.map (·.1)).map .int),true)]) ((cs.map (·.1)).zip (cs.map (·.1)).tail) (λx=>.tup [.int x.1,.int x.2]) (λ_=>.bl true) (by
   have:=nJ (cs.map (·.1)) (cs.map (·.1)).tail;simp[yn]at this ⊢;exact this) (by rw[List.length_zip];simp;omega) λx hx=>
  ⟨_,rfl,false,by have:=yo g.up x hx;simp[eP,this]⟩
 exact ao (aN (b:=true) this rfl) (ju _)
structure PG (zs:List Str)(t:Str×D)(ss:List Str):Prop where
 part:aT [.str t.1,t.2]=some (.bl true,false)
 flat:aQ t.2=true/\rb t.2=false
 pk:(if(eF t.1 && there t.2)=true then [t.2]else [])=ss.map D.str
 ms:∀s∈ss,s∈zs
inductive qJ (zs:List Str):List (Str×D)->List Str->Prop
 |nil:qJ zs [] []
 |cons {t:Str×D}{ss:List Str}{L:List (Str×D)}{Ik:List Str}(h:PG zs t ss) (r:qJ zs L Ik):qJ zs (t::L) (ss++Ik)
theorem qJ.all {zs:List Str}:∀ {L:List (Str×D)}{ss:List Str},qJ zs L ss->∀t∈L,aT [.str t.1,t.2]=some (.bl true,false)/\aQ t.2=true/\rb t.2=false
 |_,_,.nil,t,h=>by cases h
 |_,_,.cons g r,t,h=>by
  rcases vP h with rfl|h
  ·exact⟨g.part,g.flat⟩
  ·exact r.all t h
theorem vi (p:Str)(v:D)(r:List (Str×D)):pick ((p,v)::r)=(if(eF p && there v)=true then [v]else [])++pick r:=by
 unfold pick;rw[List.filter_cons];dsimp only;split<;>rfl
theorem qJ.pick {zs:List Str}:∀ {L:List (Str×D)}{ss:List Str},qJ zs L ss->pick L=ss.map .str
 |_,_,.nil=>rfl
 |_,_,.cons (t:=t) g r=>by
  rw[show t=(t.1,t.2)from rfl,vi,g.pk,r.pick,List.map_append]
theorem qJ.mem {zs:List Str}:∀ {L:List (Str×D)}{ss:List Str},qJ zs L ss->∀s∈ss,s∈zs
 |_,_,.nil,s,h=>by cases h
 |_,_,.cons g r,s,h=>by
  rcases List.mem_append.mp h with h|h
  ·exact g.ms s h
  ·exact r.mem s h
section
variable {zs:List Str}
theorem yp {p:Str}{v:D}{ss:List Str}(part:aT [.str p,v]=some (.bl true,false))(flat:aQ v=true/\rb v=false)(pk:(if(eF p && there v)=true then [v]else [])=ss.map D.str)(ms:∀s∈ss,s∈zs):PG zs (p,v) ss:=⟨part,flat,pk,ms⟩
theorem vj {p:Str}{v:D}(h:eF p=false):(if(eF p && there v)=true then [v]else [])=([]:List Str).map D.str:=by rw[h];rfl
theorem lN {p:Str}{n:Int}(hp:aT [.str p,.int n]=some (.bl true,false))(hx:eF p=false:=by decide +kernel):PG zs (p,.int n) []:=⟨hp,⟨rfl,rfl⟩,vj hx,by simp⟩
theorem gG {n:Int}(h0:0<=n)(h9:n<=9999):PG zs (("day" : Str),.int n) []:=lN (xX (by decide +kernel) (gQ h0 h9))
theorem yq {n:Int}(h0:0<=n)(h9:n<=9999):PG zs (("since" : Str),.int n) []:=lN (xX (by decide +kernel) (gQ h0 h9))
theorem lO {n:Int}(h0:0<=n)(h9:n<=9):PG zs (("further" : Str),.int n) []:=lN (rV h0 h9)
theorem Be {n:Int}(h0:0<=n)(h9:n<=59):PG zs (("of" : Str),.int n) []:=lN (EH h0 h9)
theorem oC {m:Int}(h1:1<=m)(h:m<=255):PG zs (("matters" : Str),.int m) []:=lN (rT (qp h1 h))
theorem Bf {p z:Str}(hz:z∈zs)(nm:Nm6 zs)(h0:(decide (p=("day" : Str)) || decide (p=("since" : Str)))=false)(hp:(decide (p=("office" : Str)) || (decide (p=("by" : Str)) || decide (p=("person" : Str))))=true)(hx:eF p=true):PG zs (p,.str z) [z] :=
 ⟨tO h0 hp (jv (nm.nm z hz)),⟨rfl,rfl⟩,by simp[hx],by simpa using hz⟩
theorem nK {z:Str}(hz:z∈zs)(nm:Nm6 zs):PG zs (("by" : Str),.str z) [z]:=Bf hz nm (by decide +kernel) (by decide +kernel) (by decide +kernel)
theorem qA {z:Str}(hz:z∈zs)(nm:Nm6 zs):PG zs (("person" : Str),.str z) [z]:=Bf hz nm (by decide +kernel) (by decide +kernel) (by decide +kernel)
theorem oD {z:Str}(hz:z∈zs)(nm:Nm6 zs):PG zs (("office" : Str),.str z) [] :=
 yp (tO (by decide +kernel) (by decide +kernel) (jv (nm.nm z hz))) ⟨rfl,rfl⟩ (vj (by decide +kernel)) (by simp)
theorem Ap {z:Str}(hz:z∈[("open" : Str),("first" : Str),("last" : Str)]):PG zs (("rule" : Str),.str z) []:=by
 have h1:aT [.str "rule",.str z]=some (.bl true,false):=by
  simp at hz;rcases hz with rfl|rfl|rfl<;>exact g6 (by decide +kernel)
 exact⟨h1,⟨rfl,rfl⟩,vj (p:=("rule" : Str)) (by decide +kernel),by simp⟩
theorem se {s:Int}{o:Option Int}(g:Dv s o):PG zs (("stretch" : Str),.tup [.int s,uI o]) []:=⟨rU (EL g),by cases o<;>exact⟨rfl,rfl⟩,vj (p:=("stretch" : Str)) (by decide +kernel),by simp⟩
theorem Bg {o:Option Str}(nm:Nm6 zs)(h:∀z,o=some z->z∈zs):∃ss,ss.length<=1/\PG zs (("whom" : Str),wD o) ss:=by
 cases o with
 |none=>exact⟨[],by simp,Ag,⟨rfl,rfl⟩,by simp[wD],by simp⟩
 |some z=>
  refine⟨[z],by simp,yp (aw rfl (av (c2 (by decide +kernel)) (av (c3 (by decide +kernel)) (et (cq (by decide +kernel)) (aE ?_))))) ⟨rfl,rfl⟩ ?_ (by simpa using h z rfl)⟩
  ·exact(tI (p:=false) (q:=true) (b1:=false) (da (x:=.str z) (y:=.non) (b1:=false) (b2:=false) rfl rfl (by simp[kh])) λ_=>ao (ds:=[.str z]) rfl (jv (nm.nm z (h z rfl)))).trans rfl
  ·have:eF ("whom" : Str)=true:=by decide +kernel
   simp[wD,this]
theorem CH {ps:List Str}(h1:1<=ps.length)(h8:ps.length<=8)(h:∀p∈ps,m5 p=true):PG zs (("pieces" : Str),.tup (ps.map .str)) [] :=
 ⟨uY (rS h1 h8 h),⟨by simpa using cE ps,rfl⟩,vj (p:=("pieces" : Str)) (by decide +kernel),by simp⟩
theorem EM {cs:List (Int×Str)}(g:ChG cs):PG zs (("changes" : Str),.tup (cs.map oN)) []:=by
 refine yp (aw rfl (av (c2 (by decide +kernel)) (av (c3 (by decide +kernel)) (av (cq (by decide +kernel)) (av (cq (by decide +kernel)) (av (cq (by decide +kernel)) (av (cq (by decide +kernel)) (av (cq (by decide +kernel)) (av (cq (by decide +kernel)) (av (cq (by decide +kernel)) (aE (ao (ds:=[.tup (cs.map oN)]) rfl (q9 g))))))))))))) ⟨?_,rfl⟩ (vj (by decide +kernel)) (by simp);rw[mJ];exact eE (by intro d hd;obtain⟨x,_,rfl⟩:=List.mem_map.mp hd;rfl)
end
noncomputable def dq (p:Str):Nat:=if decide (p=("day" : Str)) || decide (p=("since" : Str))then 1 else if decide (p=("stretch" : Str))then 2 else 0
noncomputable def ol:Option Int->List Int
 |none=>[]
 |some t=>[t]
inductive DP:List (Str×D)->List Int->Prop
 |nil:DP [] []
 |skip {p:Str}{v:D}{r:List (Str×D)}{ds:List Int}(h:dq p=0) (k:DP r ds):DP ((p,v)::r) ds
 |day {p:Str}{n:Int}{r:List (Str×D)}{ds:List Int}(h:dq p=1) (k:DP r ds):DP ((p,.int n)::r) (n::ds)
 |str {p:Str}{s:Int}{o:Option Int}{r:List (Str×D)}{ds:List Int}(h:dq p=2) (k:DP r ds):DP ((p,.tup [.int s,uI o])::r) (s::ol o++ds)
inductive LP (b:Bool):List D->List Int->Prop
 |nil:LP b [] []
 |txt {z:Str}{r:List D}{ds:List Int}(k:LP b r ds):LP b (.str z::r) ds
 |num {n:Int}{r:List D}{ds:List Int}(k:LP b r ds):LP b (.int n::r) ds
 |non {r:List D}{ds:List Int}(k:LP b r ds):LP b (.non::r) ds
 |one {x:D}{r:List D}{ds:List Int}(k:LP b r ds):LP b (.tup [x]::r) ds
 |pcs {x y:Str}{r:List D}{ds:List Int}(h:b=true) (k:LP b r ds):LP b (.tup [.str x,.str y]::r) ds
 |str {s:Int}{o:Option Int}{r:List D}{ds:List Int}(h:b=true) (k:LP b r ds):LP b (.tup [.int s,uI o]::r) (s::ol o++ds)
theorem cm {tg:FG}{g:FS}{d:D}{ds:List D}{ρ ρ1 ρ':DL.Env}{r:Option Res}(h1:tg d ρ=some ρ1)(h2:g ρ1=some (.nx ρ'))(h3:dO tg g ds ρ'=r):dO tg g (d::ds) ρ=r:=by
 rw[mN,h1];simp only[vJ,h2];exact h3
noncomputable def vI (xs:List Int):List D:=xs.map .int
theorem gH (a b:List Int):vI a++vI b=vI (a++b):=by unfold vI;rw[List.map_append]
theorem Aq (s:Int)(o:Option Int):(([some s,o]:List (Option Int)).filter Option.isSome).map uI=vI (s::ol o):=by cases o<;>rfl
theorem CJ (o:Option Int):iu (uI o) .non=sF (.bl o.isSome):=by cases o<;>simp[uI,kh]
theorem oE {r v3:OB}{acc:OB}(p:Str):cn (br (f2 eY (ag 2) (fS "day"))) (br (f2 eY (ag 2) (fS "since"))) [r,acc,sF (.str p),v3]=some (decide (p=("day" : Str)) || decide (p=("since" : Str))):=b9 (tL (db (.str p) (.str "day") rfl rfl (Ah _ _))) λ_=>tL (db (.str p) (.str "since") rfl rfl (Ah _ _))
theorem qB {r v3:OB}{acc:OB}(p:Str):br (f2 eY (ag 2) (fS "stretch")) [r,acc,sF (.str p),v3]=some (decide (p=("stretch" : Str))):=tL (db (.str p) (.str "stretch") rfl rfl (Ah _ _))
theorem IX {p:Str}(h:dq p=0):(decide (p=("day" : Str)) || decide (p=("since" : Str)))=false/\decide (p=("stretch" : Str))=false:=by
 unfold dq at h;split at h
 ·cases h
 ·rename_i h1;split at h
  ·cases h
  ·rename_i h2;exact⟨Bool.eq_false_iff.mpr h1,Bool.eq_false_iff.mpr h2⟩
theorem K7 {p:Str}(h:dq p=1):(decide (p=("day" : Str)) || decide (p=("since" : Str)))=true:=by
 unfold dq at h;split at h
 ·assumption
 ·split at h<;>cases h
theorem IY {p:Str}(h:dq p=2):(decide (p=("day" : Str)) || decide (p=("since" : Str)))=false/\decide (p=("stretch" : Str))=true:=by
 unfold dq at h;split at h
 ·cases h
 ·rename_i h1;split at h
  ·rename_i h2;exact⟨Bool.eq_false_iff.mpr h1,h2⟩
  ·cases h
theorem tR {ρ:DL.Env}{i:Nat}{s:Int}{o:Option Int}{c:FT}(h:ρ[i]? = some (sF (.tup [.int s,uI o])))(hc:∀o:Option Int,c [sF (uI o)]=some o.isSome):bY (cA (ag i)) 1 [] (gj 0) c (ag 0) ρ=lT (vI (s::ol o)):=by
 have:=nq (fi:=cA (ag i)) (nT:=1) (cap:=[]) (tg:=gj 0) (c:=c) (fe:=ag 0) (ρ:=ρ) ([some s,o]:List (Option Int)) uI Option.isSome uI (by simp[h,uI]) (by simp) λx _=>⟨_,rfl,hc x,λ_=>⟨false,rfl⟩⟩;rw[Aq]at this;exact this
theorem oF:∀ {L:List (Str×D)}{ds:List Int},DP L ds->∀(acc:List Int)(r v2 v3:OB),acc.length+3*L.length<=1000 ->
  ∃w2 w3,dO (rh [2,3]) gb (L.map λx=>.tup [.str x.1,x.2]) [r,lT (vI acc),v2,v3]=some (.nx [r,lT (vI (acc++ds)),w2,w3])
 |_,_,.nil,acc,r,v2,v3,_=>⟨v2,v3,by rw[uQ];rfl⟩
 |_,_,.skip (p:=p) (v:=v) h k,acc,r,v2,v3,hl=>by
  rw[vD]at hl;obtain⟨w2,w3,e⟩:=oF k acc r (sF (.str p)) (sF v) (by omega);exact⟨w2,w3,cm (ρ1:=[r,lT (vI acc),sF (.str p),sF v]) rfl (l7 ((oE p).trans (by rw[(IX h).1])) (l7 ((qB p).trans (by rw[(IX h).2])) rfl)) e⟩
 |_,_,.day (p:=p) (n:=n) h k,acc,r,v2,v3,hl=>by
  rw[vD]at hl;obtain⟨w2,w3,e⟩:=oF k (acc++[n]) r (sF (.str p)) (sF (.int n)) (by simp;omega);rw[List.append_assoc]at e;refine⟨w2,w3,cm (ρ1:=[r,lT (vI acc),sF (.str p),sF (.int n)]) rfl (m4 ((oE p).trans (by rw[K7 h])) ((iB (d:=.int n) (b:=false) (ds:=vI acc) rfl rfl rfl (ce (by simp[vI];omega))).trans ?_)) e⟩;show some (Res.nx [r,lT (vI acc++vI [n]),sF (.str p),sF (.int n)])=_;rw[gH]
 |_,_,.str (p:=p) (s:=s) (o:=o) h k,acc,r,v2,v3,hl=>by
  rw[vD]at hl;have ho:(ol o).length<=1:=by cases o<;>simp[ol]
  obtain⟨w2,w3,e⟩:=oF k (acc++(s::ol o)) r (sF (.str p)) (sF (.tup [.int s,uI o])) (by simp;omega);rw[List.append_assoc]at e;have hx:=tR (ρ:=[r,lT (vI acc),sF (.str p),sF (.tup [.int s,uI o])]) (i:=3) (s:=s) (o:=o) (c:=br (f2 iu (ag 0) (fC .non))) rfl λo=>tL (db (uI o) .non rfl rfl (CJ o));refine⟨w2,w3,cm (ρ1:=[r,lT (vI acc),sF (.str p),sF (.tup [.int s,uI o])]) rfl (l7 ((oE p).trans (by rw[(IY h).1])) (m4 ((qB p).trans (by rw[(IY h).2])) ?_)) e⟩;have hsz:(vI acc).length+(vI (s::ol o)).length<=sizeLine:=cf (by simp[vI];omega);have Br:aV (vI (s::ol o))=true:=bw _;simp only[mm,List.getElem?_cons_succ,List.getElem?_cons_zero,hx,vJ];rw[if_pos ⟨trivial,Br,hsz⟩,gH];rfl
theorem Ar {h:Int}{kind:Str}{L:List (Str×D)}{ds:List Int}(hp:gn aU (.str kind)=some (.tup ((L.map (·.1)).map .str),false))(hl:L.length<=10)(k:DP L ds):fD [row h kind (L.map (·.2))]=lT (vI (h::ds)):=by
 have e:=qy (h:=h) (rest:=L.map (·.2)) hp;have hz:(L.map (·.1)).zip (L.map (·.2))=L:=by
  rw[List.zip_map'];exact(List.map_congr_left λx _=>rfl).trans (List.map_id L)
 rw[hz]at e;obtain⟨w2,w3,er⟩:=oF k [h] (sF (row h kind (L.map (·.2)))) none none (by simp;omega);have er:dO (rh [2,3]) gb (L.map λx=>.tup [.str x.1,x.2]) [sF (row h kind (L.map (·.2))),lT (vI [h]),none,none]=some (.nx [sF (row h kind (L.map (·.2))),lT (vI (h::ds)),w2,w3]):=er;have e0:fA aS (ae (gp 0 0) ah) [sF (row h kind (L.map (·.2))),none,none,none]=lT (vI [h]):=by
  have:gp 0 0 [sF (row h kind (L.map (·.2))),none,none,none]=sF (.int h):=by simp[row,vE]
  exact ao (ds:=[.int h]) (aN (b:=false) this rfl) (by simp[sizeLine,vI])
 have ef:iO (cA (fA bP (fV 0 ah))) (rh [2,3]) gb [sF (row h kind (L.map (·.2))),lT (vI [h]),none,none]=some (.nx [sF (row h kind (L.map (·.2))),lT (vI (h::ds)),w2,w3]):=by
  refine jk (ds:=L.map λx=>.tup [.str x.1,x.2]) ?_ er;have e1:=ao (fa:=ae (ag 0) ah) (ρ:=mh [sF (row h kind (L.map (·.2))),lT (vI [h]),none,none]) (ds:=[row h kind (L.map (·.2))]) rfl e;show Option.bind (fA bP (ae (ag 0) ah) (mh [sF (row h kind (L.map (·.2))),lT (vI [h]),none,none])) _=_;rw[e1];rfl
 have eb:gN [sF (row h kind (L.map (·.2))),none,none,none]=some (.rt (.lst (vI (h::ds))) true):=by
  unfold gN;exact cK e0 (bw _) (cC ef (kB rfl))
 exact aw rfl eb
theorem yr {a0 v1 v2 v4:OB}{kind:Str}{rest:List D}{b:Bool}(hb:sV (.str kind) (.tup [.str "leave",.str "paper",.str "like"])=sF (.bl b)):br (f2 sV (gp 3 0) (fA bM (ae (fS "leave") (ae (fS "paper") (ae (fS "like") ah))))) [a0,v1,v2,sF (.tup (.str kind::rest)),v4]=some b :=
 tL (db (.str kind) (.tup [.str "leave",.str "paper",.str "like"]) (by simp[vE]) (oM _ rfl) hb)
theorem iE {b:Bool}{kind:Str}{rest:List D}(hb:sV (.str kind) (.tup [.str "leave",.str "paper",.str "like"])=sF (.bl b)):∀ {L:List D}{ds:List Int},LP b L ds->∀(acc:List Int)(a0 v2 v4:OB),acc.length+3*L.length<=1000 ->
  ∃w4,dO (gj 4) jG L [a0,lT (vI acc),v2,sF (.tup (.str kind::rest)),v4]=some (.nx [a0,lT (vI (acc++ds)),v2,sF (.tup (.str kind::rest)),w4])
 |_,_,.nil,acc,a0,v2,v4,_=>⟨v4,by rw[uQ];rfl⟩
 |_,_,.txt (z:=z) k,acc,a0,v2,v4,hl=>by
  rw[vD]at hl;obtain⟨w,e⟩:=iE hb k acc a0 v2 (sF (.str z)) (by omega);exact⟨w,cm (ρ1:=[a0,lT (vI acc),v2,sF (.tup (.str kind::rest)),sF (.str z)]) rfl (l7 (cL (p:=false) (q:=false) (by simp) λz=>by cases z) rfl) e⟩
 |_,_,.num (n:=n) k,acc,a0,v2,v4,hl=>by
  rw[vD]at hl;obtain⟨w,e⟩:=iE hb k acc a0 v2 (sF (.int n)) (by omega);exact⟨w,cm (ρ1:=[a0,lT (vI acc),v2,sF (.tup (.str kind::rest)),sF (.int n)]) rfl (l7 (cL (p:=false) (q:=false) (by simp) λz=>by cases z) rfl) e⟩
 |_,_,.non k,acc,a0,v2,v4,hl=>by
  rw[vD]at hl;obtain⟨w,e⟩:=iE hb k acc a0 v2 (sF .non) (by omega);exact⟨w,cm (ρ1:=[a0,lT (vI acc),v2,sF (.tup (.str kind::rest)),sF .non]) rfl (l7 (cL (p:=false) (q:=false) (by simp) λz=>by cases z) rfl) e⟩
 |_,_,.one (x:=x) k,acc,a0,v2,v4,hl=>by
  rw[vD]at hl;obtain⟨w,e⟩:=iE hb k acc a0 v2 (sF (.tup [x])) (by omega);exact⟨w,cm (ρ1:=[a0,lT (vI acc),v2,sF (.tup (.str kind::rest)),sF (.tup [x])]) rfl (l7 ((cL (p:=true) (q:=false) (by simp) λ_=>(cL (p:=b) (q:=false) (yr hb) λ_=>by simp).trans (by rw[Bool.and_false])).trans rfl) rfl) e⟩
 |_,_,.pcs (x:=x) (y:=y) h k,acc,a0,v2,v4,hl=>by
  rw[vD]at hl;obtain⟨w,e⟩:=iE hb k acc a0 v2 (sF (.tup [.str x,.str y])) (by omega);have hx:=nq (fi:=cA (ag 4)) (nT:=1) (cap:=[]) (tg:=gj 0) (c:=br (fA ay (fV 0 (ae (fC (.ty "int")) ah)))) (fe:=ag 0) (ρ:=[a0,lT (vI acc),v2,sF (.tup (.str kind::rest)),sF (.tup [.str x,.str y])]) ([x,y]:List Str) D.str (λ_=>false) D.str (by simp) (by simp) λz _=>⟨_,rfl,by simp[eP],λz=>by cases z⟩;rw[List.filter_eq_nil_iff.mpr (by simp)]at hx;have hsz:(vI acc).length+([]:List D).length<=sizeLine:=cf (by simp[vI];omega);refine⟨w,cm (ρ1:=[a0,lT (vI acc),v2,sF (.tup (.str kind::rest)),sF (.tup [.str x,.str y])]) rfl (m4 ((cL (p:=true) (q:=true) (by simp) λ_=>(cL (p:=b) (q:=true) (yr hb) λ_=>by simp).trans (by rw[h];rfl)).trans rfl) (tH (ds:=vI acc) (da (x:=.lst (vI acc)) (y:=.lst []) (b1:=false) (b2:=true) rfl hx ?_) (bw _))) e⟩;simp only[bv,if_pos hsz,uQ]
 |_,_,.str (s:=s) (o:=o) h k,acc,a0,v2,v4,hl=>by
  rw[vD]at hl;have ho:(ol o).length<=1:=by cases o<;>simp[ol]
  obtain⟨w,e⟩:=iE hb k (acc++(s::ol o)) a0 v2 (sF (.tup [.int s,uI o])) (by simp;omega);rw[List.append_assoc]at e;have hx:=tR (ρ:=[a0,lT (vI acc),v2,sF (.tup (.str kind::rest)),sF (.tup [.int s,uI o])]) (i:=4) (s:=s) (o:=o) (c:=br (fA ay (fV 0 (ae (fC (.ty "int")) ah)))) rfl λo=>by cases o<;>simp[uI]
  have hsz:(vI acc).length+(vI (s::ol o)).length<=sizeLine:=cf (by simp[vI];omega);refine⟨w,cm (ρ1:=[a0,lT (vI acc),v2,sF (.tup (.str kind::rest)),sF (.tup [.int s,uI o])]) rfl (m4 ((cL (p:=true) (q:=true) (by simp) λ_=>(cL (p:=b) (q:=true) (yr hb) λ_=>by simp).trans (by rw[h];rfl)).trans rfl) (tH (ds:=vI (acc++(s::ol o))) (da (x:=.lst (vI acc)) (y:=.lst (vI (s::ol o))) (b1:=false) (b2:=true) rfl hx ?_) (bw _))) e⟩;simp only[bv,if_pos hsz,gH]
def pre (kind:Str)(rest:List D):List Int->Prop:=λds=>
 (kind=("root" : Str)/\ds=[])∨(kind≠("root" : Str)/\∃day r,rest=.int day::r/\((kind≠("chosen" : Str)/\ds=[day])∨(kind=("chosen" : Str)/\∃a b c s,r=[a,b,c,.int s]/\ds=[day,s])))
theorem As {h:Int}{kind:Str}{rest:List D}{b:Bool}{d1 d2 acc:List Int}(hb:sV (.str kind) (.tup [.str "leave",.str "paper",.str "like"])=sF (.bl b))(k:LP b rest d2)(hp:pre kind rest d1)(hl:acc.length+3*rest.length<=900)(a0 v4:OB):
  ∃w4,gP [a0,lT (vI acc),sF (.int h),sF (.tup (.str kind::rest)),v4]=some (.nx [a0,lT (vI (acc++(h::(d1++d2)))),sF (.int h),sF (.tup (.str kind::rest)),w4]):=by
 have e0:∀acc:List Int,∀v4:OB,gp 3 0 [a0,lT (vI acc),sF (.int h),sF (.tup (.str kind::rest)),v4]=sF (.str kind):=λ_ _=>by simp[vE]
 have t1:∀acc:List Int,br (f2 yK (gp 3 0) (fS "root")) [a0,lT (vI acc),sF (.int h),sF (.tup (.str kind::rest)),v4]=some (!decide (kind=("root" : Str))):=λacc=>tL (db (.str kind) (.str "root") (e0 acc v4) rfl (by simp));have t2:∀acc:List Int,br (f2 eY (gp 3 0) (fS "chosen")) [a0,lT (vI acc),sF (.int h),sF (.tup (.str kind::rest)),v4]=some (decide (kind=("chosen" : Str))):=λacc=>tL (db (.str kind) (.str "chosen") (e0 acc v4) rfl (Ah _ _));have jI:∀acc:List Int,acc.length+3*rest.length<=990->∃w4,Gb [3] (iO (cA (ag 3)) (gj 4) jG) [a0,lT (vI acc),sF (.int h),sF (.tup (.str kind::rest)),v4]=some (.nx [a0,lT (vI (acc++d2)),sF (.int h),sF (.tup (.str kind::rest)),w4]):=λacc hl=>by
  obtain⟨w,e⟩:=iE hb (rest:=rest) (LP.txt (z:=kind) k) acc a0 (sF (.int h)) v4 (by rw[vD];omega);exact⟨w,jk (ds:=.str kind::rest) rfl e⟩
 have MG:∀(acc:List Int)(n:Int),(vI acc).length<sizeLine->True:=λ_ _ _=>trivial;have a1:ij 1 (ag 2) [a0,lT (vI acc),sF (.int h),sF (.tup (.str kind::rest)),v4]=some (.nx [a0,lT (vI (acc++[h])),sF (.int h),sF (.tup (.str kind::rest)),v4]):=(iB (d:=.int h) (b:=false) (ds:=vI acc) rfl rfl rfl (ce (by simp[vI];omega))).trans (by
  show some (Res.nx [a0,lT (vI acc++vI [h]),_,_,_])=_;rw[gH])
 rcases hp with⟨hk,rfl⟩|⟨hk,day,r,rfl,hc⟩
 ·obtain⟨w,e⟩:=jI (acc++[h]) (by simp;omega);have Mf:decide (kind=("chosen" : Str))=false:=by subst hk;decide +kernel
  rw[List.append_assoc]at e;exact⟨w,cC a1 (av ((t1 _).trans (by rw[decide_eq_true hk];rfl)) (av ((t2 _).trans (by rw[Mf])) e))⟩
 ·have a2:ij 1 (gp 3 1) [a0,lT (vI (acc++[h])),sF (.int h),sF (.tup (.str kind::.int day::r)),v4]=some (.nx [a0,lT (vI (acc++[h,day])),sF (.int h),sF (.tup (.str kind::.int day::r)),v4]):=(iB (d:=.int day) (b:=false) (ds:=vI (acc++[h])) rfl (by simp[yP]) rfl (ce (by simp[vI];omega))).trans (by
   show some (Res.nx [a0,lT (vI (acc++[h])++vI [day]),_,_,_])=_;rw[gH,List.append_assoc];rfl)
  rcases hc with⟨hc,rfl⟩|⟨hc,a,b',c,s,rfl,rfl⟩
  ·obtain⟨w,e⟩:=jI (acc++[h,day]) (by simp at hl ⊢;omega);rw[List.append_assoc]at e;exact⟨w,cC a1 (cC (m4 ((t1 _).trans (by rw[decide_eq_false hk];rfl)) a2) (av ((t2 _).trans (by rw[decide_eq_false hc])) e))⟩
  ·obtain⟨w,e⟩:=jI (acc++[h,day,s]) (by simp at hl ⊢;omega);rw[List.append_assoc]at e;have h5:gp 3 5 [a0,lT (vI (acc++[h,day])),sF (.int h),sF (.tup [.str kind,.int day,a,b',c,.int s]),v4]=sF (.int s):=by
    have:mH [D.str kind,.int day,a,b',c,.int s] 5=some (.int s):=by have:=jD (xs:=[D.str kind,.int day,a,b',c,.int s]) (j:=5) (by simp);simpa using this
    simp[this]
   have a3:ij 1 (gp 3 5) [a0,lT (vI (acc++[h,day])),sF (.int h),sF (.tup [.str kind,.int day,a,b',c,.int s]),v4]=some (.nx [a0,lT (vI (acc++[h,day,s])),sF (.int h),sF (.tup [.str kind,.int day,a,b',c,.int s]),v4]):=(iB (d:=.int s) (b:=false) (ds:=vI (acc++[h,day])) rfl h5 rfl (ce (by simp[vI];omega))).trans (by
    show some (Res.nx [a0,lT (vI (acc++[h,day])++vI [s]),_,_,_])=_;rw[gH,List.append_assoc];rfl)
   exact⟨w,cC a1 (cC (m4 ((t1 _).trans (by rw[decide_eq_false hk];rfl)) a2) (cC (m4 ((t2 _).trans (by rw[decide_eq_true hc])) a3) e))⟩
noncomputable abbrev w3:D:=.tup [.str "leave",.str "paper",.str "like"]
structure GX (zs:List Str)(k:Nat)(day:Int)(kind:Str)(L:List (Str×D))(ds:List Int):Prop where
 dg:∀h:Int,day<=h->0<=h->h<=9999->DeedG zs k h kind (L.map (·.2))
 hp:gn aU (.str kind)=some (.tup ((L.map (·.1)).map .str),false)
 len:L.length<=8
 dp:DP L ds
 lw:∃b d1 d2,sV (.str kind) w3=sF (.bl b)/\LP b (L.map (·.2)) d2/\pre kind (L.map (·.2)) d1/\ds=d1++d2
 few:ds.length<=3
theorem Au {zs:List Str}{k:Nat}{day:Int}{kind:Str}{L:List (Str×D)}{ss parts:List Str}{d1 d2:List Int}{b:Bool}(g:qJ zs L ss)(h2:ss.length<=2)(hp:L.map (·.1)=parts)
  (A9:∀h:Int,day<=h->0<=h->(kind=("root" : Str)/\(k=0∨k=1)/\∃r,L.map (·.2)=.str (off zs k)::r)∨(kind≠("root" : Str)/\(∃(day:Int)(r:List D),L.map (·.2)=.int day::r/\day<=h/\0<=day/\(kind=("chosen" : Str)->∃a b c s,r=[a,b,c,.int s]/\day<=s))/\lj aU (.str kind) (.str "day")=some (.int 0,false)))
  (dp:DP L (d1++d2)) (lp:LP b (L.map (·.2)) d2) (qE:pre kind (L.map (·.2)) d1) (few:(d1++d2).length<=3)
  (hc:EG (gn aU (.str kind)) (.tup (parts.map .str)) false=true:=by decide +kernel) (Mh:decide (parts.length<=8)=true:=by decide +kernel) (hb:EG (sV (.str kind) w3) (.bl b) false=true:=by decide +kernel):GX zs k day kind L (d1++d2):=by
 have bp:L.length<=8:=by have:=congrArg List.length hp;rw[vH]at this;have:=of_decide_eq_true Mh;omega
 have FM:gn aU (.str kind)=some (.tup ((L.map (·.1)).map .str),false):=by rw[hp];exact g6 hc
 have hz:(L.map (·.1)).zip (L.map (·.2))=L:=by
  rw[List.zip_map'];exact(List.map_congr_left λx _=>rfl).trans (List.map_id L)
 refine⟨λh hd h0 h9=>⟨⟨L.map (·.1),ss,FM,by simp,by rw[hz];exact λx hx=>(g.all x hx).1,by rw[hz];exact g.pick,h2,g.mem⟩,by simp;omega,λd hd=>?_,A9 h hd h0⟩,FM,bp,dp,⟨b,d1,d2,g6 hb,lp,qE,rfl⟩,few⟩;obtain⟨x,hx,rfl⟩:=List.mem_map.mp hd;exact(g.all x hx).2
theorem iF {zs:List Str}{k:Nat}{day:Int}{kind:Str}{r:List D}(h0:0<=day)(hk:decide (kind=("root" : Str))=false:=by decide +kernel)(hc:decide (kind=("chosen" : Str))=false:=by decide +kernel)(hi:EG (lj aU (.str kind) (.str "day")) (.int 0) false=true:=by decide +kernel):
  ∀h:Int,day<=h->0<=h->(kind=("root" : Str)/\(k=0∨k=1)/\∃r',.int day::r=.str (off zs k)::r')∨(kind≠("root" : Str)/\(∃(d:Int)(r':List D),.int day::r=.int d::r'/\d<=h/\0<=d/\(kind=("chosen" : Str)->∃a b c s,r'=[a,b,c,.int s]/\d<=s))/\lj aU (.str kind) (.str "day")=some (.int 0,false)) :=
 λh hd _=>.inr ⟨of_decide_eq_false hk,⟨day,_,rfl,hd,h0,λe=>absurd e (of_decide_eq_false hc)⟩,g6 hi⟩
theorem gc {day:Int}{kind:Str}{r:List D}(hk:decide (kind=("root" : Str))=false:=by decide +kernel)(hc:decide (kind=("chosen" : Str))=false:=by decide +kernel):pre kind (.int day::r) [day]:=.inr ⟨of_decide_eq_false hk,day,r,rfl,.inl ⟨of_decide_eq_false hc,rfl⟩⟩
theorem CK (day s:Int)(o:Option Int):([day]++(s::ol o++[])).length<=3:=by cases o<;>simp[ol]
section
variable {zs:List Str}{k:Nat}{day:Int}(nm:Nm6 zs) (h0:0<=day) (h9:day<=9999)
include nm h0 h9
theorem yt {o p:Str}(ho:o∈zs)(hp:p∈zs):GX zs k day ("named" : Str) [(("day" : Str),.int day),(("office" : Str),.str o),(("person" : Str),.str p)] ([day]++[]) :=
 Au (b:=false) (parts:=[("day" : Str),("office" : Str),("person" : Str)]) (.cons (gG h0 h9) (.cons (oD ho nm) (.cons (qA hp nm) .nil))) (by simp) rfl (iF h0) (.day (by decide +kernel) (.skip (by decide +kernel) (.skip (by decide +kernel) .nil))) (.num (.txt (.txt .nil))) gc (by simp)
theorem Av {b o p:Str}(hb:b∈zs)(ho:o∈zs)(hp:p∈zs):GX zs k day ("heir" : Str) [(("day" : Str),.int day),(("by" : Str),.str b),(("office" : Str),.str o),(("person" : Str),.str p)] ([day]++[]) :=
 Au (b:=false) (parts:=[("day" : Str),("by" : Str),("office" : Str),("person" : Str)]) (.cons (gG h0 h9) (.cons (nK hb nm) (.cons (oD ho nm) (.cons (qA hp nm) .nil)))) (by simp) rfl (iF h0) (.day (by decide +kernel) (.skip (by decide +kernel) (.skip (by decide +kernel) (.skip (by decide +kernel) .nil)))) (.num (.txt (.txt (.txt .nil)))) gc (by simp)
theorem vk {b o p:Str}{s:Int}(hb:b∈zs)(ho:o∈zs)(hp:p∈zs)(hs:day<=s)(Mi:s<=9999):GX zs k day ("chosen" : Str) [(("day" : Str),.int day),(("by" : Str),.str b),(("office" : Str),.str o),(("person" : Str),.str p),(("since" : Str),.int s)] ([day,s]++[]) :=
 Au (b:=false) (parts:=[("day" : Str),("by" : Str),("office" : Str),("person" : Str),("since" : Str)]) (.cons (gG h0 h9) (.cons (nK hb nm) (.cons (oD ho nm) (.cons (qA hp nm) (.cons (yq (by omega) Mi) .nil))))) (by simp) rfl
  (λh hd _=>.inr ⟨by decide +kernel,⟨day,_,rfl,hd,h0,λ_=>⟨_,_,_,s,rfl,hs⟩⟩,g6 (by decide +kernel)⟩)
  (.day (by decide +kernel) (.skip (by decide +kernel) (.skip (by decide +kernel) (.skip (by decide +kernel) (.day (by decide +kernel) .nil))))) (.num (.txt (.txt (.txt (.num .nil))))) (.inr ⟨by decide +kernel,day,_,rfl,.inr ⟨rfl,_,_,_,s,rfl,rfl⟩⟩) (by simp)
theorem si {kind p:Str}(hk:kind=("death" : Str)∨kind=("lost" : Str)∨kind=("found" : Str))(hp:p∈zs):GX zs k day kind [(("day" : Str),.int day),(("person" : Str),.str p)] ([day]++[]):=by
 rcases hk with rfl|rfl|rfl<;>exact Au (b:=false) (parts:=[("day" : Str),("person" : Str)]) (.cons (gG h0 h9) (.cons (qA hp nm) .nil)) (by simp) rfl (iF h0) (.day (by decide +kernel) (.skip (by decide +kernel) .nil)) (.num (.txt .nil)) gc (by simp)
theorem Bh {kind b:Str}{n:Int}(hk:kind=("copy" : Str)∨kind=("call" : Str))(hb:b∈zs)(hn:0<=n/\n<=59):GX zs k day kind [(("day" : Str),.int day),(("by" : Str),.str b),(("of" : Str),.int n)] ([day]++[]):=by
 rcases hk with rfl|rfl<;>exact Au (b:=false) (parts:=[("day" : Str),("by" : Str),("of" : Str)]) (.cons (gG h0 h9) (.cons (nK hb nm) (.cons (Be hn.1 hn.2) .nil))) (by simp) rfl (iF h0) (.day (by decide +kernel) (.skip (by decide +kernel) (.skip (by decide +kernel) .nil))) (.num (.txt (.num .nil))) gc (by simp)
theorem yu {b p:Str}{m s f:Int}{o:Option Int}(hb:b∈zs)(hp:p∈zs)(hm:1<=m/\m<=255)(hs:Dv s o)(hf:0<=f/\f<=9):GX zs k day ("leave" : Str) [(("day" : Str),.int day),(("by" : Str),.str b),(("person" : Str),.str p),(("matters" : Str),.int m),(("stretch" : Str),.tup [.int s,uI o]),(("further" : Str),.int f)] ([day]++(s::ol o++[])) :=
 Au (b:=true) (parts:=[("day" : Str),("by" : Str),("person" : Str),("matters" : Str),("stretch" : Str),("further" : Str)]) (.cons (gG h0 h9) (.cons (nK hb nm) (.cons (qA hp nm) (.cons (oC hm.1 hm.2) (.cons (se hs) (.cons (lO hf.1 hf.2) .nil)))))) (by simp) rfl (iF h0)
  (.day (by decide +kernel) (.skip (by decide +kernel) (.skip (by decide +kernel) (.skip (by decide +kernel) (.str (by decide +kernel) (.skip (by decide +kernel) .nil)))))) (.num (.txt (.txt (.num (.str rfl (.num .nil)))))) gc (CK day s o)
theorem yv {b p q:Str}{m s:Int}{o:Option Int}{wo:Option Str}(hb:b∈zs)(hm:1<=m/\m<=255)(hs:Dv s o)(hw:∀z,wo=some z->z∈zs)(hp:p∈zs)(hq:q∈zs):GX zs k day ("paper" : Str) [(("day" : Str),.int day),(("by" : Str),.str b),(("matters" : Str),.int m),(("stretch" : Str),.tup [.int s,uI o]),(("whom" : Str),wD wo),(("pieces" : Str),.tup (([p,q]:List Str).map .str))] ([day]++(s::ol o++[])):=by
 obtain⟨ss,hl,gw⟩:=Bg nm hw;refine Au (b:=true) (parts:=[("day" : Str),("by" : Str),("matters" : Str),("stretch" : Str),("whom" : Str),("pieces" : Str)]) (.cons (gG h0 h9) (.cons (nK hb nm) (.cons (oC hm.1 hm.2) (.cons (se hs) (.cons gw (.cons (CH (ps:=[p,q]) (by simp) (by simp) (by simp;exact⟨nm.nm p hp,nm.nm q hq⟩)) .nil)))))) (by simp;omega) rfl (iF h0)
  (.day (by decide +kernel) (.skip (by decide +kernel) (.skip (by decide +kernel) (.str (by decide +kernel) (.skip (by decide +kernel) (.skip (by decide +kernel) .nil)))))) (.num (.txt (.num (.str rfl ?_)))) gc (CK day s o)
 cases wo with
 |none=>exact .non (.pcs rfl .nil)
 |some z=>exact .txt (.pcs rfl .nil)
theorem Aw {b z:Str}{m s n:Int}{o:Option Int}(hb:b∈zs)(hm:1<=m/\m<=255)(hs:Dv s o)(hn:0<=n/\n<=59)(hz:z∈zs):GX zs k day ("like" : Str) [(("day" : Str),.int day),(("by" : Str),.str b),(("matters" : Str),.int m),(("stretch" : Str),.tup [.int s,uI o]),(("whom" : Str),wD none),(("of" : Str),.int n),(("changes" : Str),.tup (([((0:Int),z)]:List (Int×Str)).map oN))] ([day]++(s::ol o++[])):=by
 obtain⟨ss,hl,gw⟩:=Bg (o:=none) nm (by simp);exact Au (b:=true) (parts:=[("day" : Str),("by" : Str),("matters" : Str),("stretch" : Str),("whom" : Str),("of" : Str),("changes" : Str)]) (.cons (gG h0 h9) (.cons (nK hb nm) (.cons (oC hm.1 hm.2) (.cons (se hs) (.cons gw (.cons (Be hn.1 hn.2) (.cons (EM (cs:=[((0:Int),z)]) ⟨by simpa using nm.nm z hz,by simp,by simp⟩) .nil))))))) (by simp;omega) rfl (iF h0)
  (.day (by decide +kernel) (.skip (by decide +kernel) (.skip (by decide +kernel) (.str (by decide +kernel) (.skip (by decide +kernel) (.skip (by decide +kernel) (.skip (by decide +kernel) .nil))))))) (.num (.txt (.num (.str rfl (.non (.num (.one .nil))))))) gc (CK day s o)
omit h0 h9 in
theorem Ax {m f:Int}{r:Str}(hk:k=0∨k=1)(hm:1<=m/\m<=255)(hf:0<=f/\f<=9)(hr:r∈[("open" : Str),("first" : Str),("last" : Str)]):GX zs k day ("root" : Str) [(("office" : Str),.str (off zs k)),(("matters" : Str),.int m),(("further" : Str),.int f),(("rule" : Str),.str r)] ([]++[]) :=
 Au (b:=false) (parts:=[("office" : Str),("matters" : Str),("further" : Str),("rule" : Str)]) (.cons (oD (by
   unfold off;have:=nm.len;rw[List.getD_eq_getElem?_getD,vU (by omega)];exact List.getElem_mem _) nm) (.cons (oC hm.1 hm.2) (.cons (lO hf.1 hf.2) (.cons (Ap hr) .nil)))) (by simp) rfl
  (λh _ _=>.inl ⟨rfl,hk,_,rfl⟩) (.skip (by decide +kernel) (.skip (by decide +kernel) (.skip (by decide +kernel) (.skip (by decide +kernel) .nil)))) (.txt (.num (.num (.txt .nil)))) (.inl ⟨rfl,rfl⟩) (by simp)
end
theorem yw (c:Int){day:Int}{k:Nat}(hk:k<=10){zs:List Str}(nm:Nm6 zs)(h0:0<=day)(h9:day<=9999):∃kind L ds,fE [.int c,.int k,.int day,.lst (zs.map .str)]=some (.tup (.str kind::L.map (·.2)),false)/\∀j,GX zs j day kind L ds:=by
 have MH:=nm.len;have ix:∀ {ρ:DL.Env}{f:FE}{i:Int},ρ[3]? = some (sF (.lst (zs.map .str)))->f ρ=sF (.int i)->0<=i->i<6->f2 cW (ag 3) f ρ=sF (.str (gq zs i)):=λ{ρ f i} h e h0 h6=>db (.lst (zs.map .str)) (.int i) (by simp[h]) e (Bd nm h0 h6);let E0:DL.Env:=[sF (.int c),sF (.int k),sF (.int day),sF (.lst (zs.map .str)),none,none,none,none];obtain⟨s,hs⟩:∃s,c / 13 % 40=s:=⟨_,rfl⟩;have Mj:=mod_lt (x:=c / 13) (m:=40) (by decide);rw[hs]at Mj;have Mk:=mod_lt (x:=c / 11) (m:=900) (by decide);obtain⟨o,ho,eo⟩:=gS ([none,some (s+1+c / 11 % 900)]:List (Option Int)) uI (ρ:=E0) (fl:=fA aS (ae (fC .non) (ae (f2 bv (f2 bv (f2 aP (f2 bt (ag 0) (fI 13)) (fI 40)) (fI 1)) (f2 aP (f2 bt (ag 0) (fI 11)) (fI 900))) ah))) (fx:=f2 bt (ag 0) (fI 7)) (b:=true) (a:=c / 7) (m:=2) (iD [.non,.int (s+1+c / 11 % 900)] (bR rfl (bR (db (.int (s+1)) (.int (c / 11 % 900)) (db (.int s) (.int 1) (hs ▸ im (lY rfl (by decide) (by decide)) (by decide)) rfl rfl) (im (lY rfl (by decide) (by decide)) (by decide)) rfl) rfl))) (lY rfl (by decide) (by decide)) (by decide) (by simp);have nM:Dv s o:=by
  have ho:o∈[none,some (s+1+c / 11 % 900)]:=ho;refine⟨by omega,by omega,λt e=>?_⟩;subst e;simp at ho;omega
 have e4:fA bM (ae (f2 aP (f2 bt (ag 0) (fI 13)) (fI 40)) (ae (f2 cW (fA aS (ae (fC .non) (ae (f2 bv (f2 bv (f2 aP (f2 bt (ag 0) (fI 13)) (fI 40)) (fI 1)) (f2 aP (f2 bt (ag 0) (fI 11)) (fI 900))) ah))) (f2 aP (f2 bt (ag 0) (fI 7)) (fI 2))) ah)) E0=sF (.tup [.int s,uI o]):=oM [.int s,uI o] (bR (hs ▸ im (lY rfl (by decide) (by decide)) (by decide)) (bR eo rfl));have Kl:∀x:Int,0<=x % 4/\x % 4<4:=λx=>mod_lt (by decide);have m1:=Kl (c / 3);have m2:=Kl (c / 17);obtain⟨one,h1⟩:∃z,gq zs (c / 3 % 4)=z:=⟨_,rfl⟩;obtain⟨two,h2⟩:∃z,gq zs (c / 17 % 4)=z:=⟨_,rfl⟩;have in1:one∈zs:=h1 ▸ kC nm (by omega);have Bt:two∈zs:=h2 ▸ kC nm (by omega);have Km:gq zs 4∈zs:=kC nm (by decide);have Ml:gq zs 5∈zs:=kC nm (by decide);have I0:=mod_lt (x:=c / 5) (m:=255) (by decide);obtain⟨m,hm⟩:∃m:Int,1+c / 5 % 255=m:=⟨_,rfl⟩;have IA:1<=m/\m<=255:=by omega
 let st:D:=.tup [.int s,uI o];let E:List D->DL.Env:=λx=>[sF (.int c),sF (.int k),sF (.int day),sF (.lst (zs.map .str)),sF st,sF (.str one),sF (.str two),lT x];have em:∀x,f2 bv (fI 1) (f2 aP (f2 bt (ag 0) (fI 5)) (fI 255)) (E x)=sF (.int m):=λx=>hm ▸ db (.int 1) (.int (c / 5 % 255)) rfl (im (lY rfl (by decide) (by decide)) (by decide)) rfl;have IB:∀x:List D,∃wo:Option Str,(∀z,wo=some z->z∈zs)/\(wo=none∨wo=some two)/\f2 cW (fA aS (ae (fC .non) (fV 6 ah))) (f2 aP (ag 0) (fI 2)) (E x)=sF (wD wo):=λx=>by
  obtain⟨wo,Dh,IC⟩:=gS ([none,some two]:List (Option Str)) wD (ρ:=E x) (fl:=fA aS (ae (fC .non) (fV 6 ah))) (fx:=ag 0) (b:=true) (a:=c) (m:=2) (iD [.non,.str two] rfl) rfl (by decide) (by simp);have Dh:wo∈[none,some two]:=Dh;refine⟨wo,λz hz=>?_,by simpa using Dh,IC⟩;subst hz;simp at Dh;exact Dh ▸ Bt
 have MJ:=mod_lt (x:=c / 19) (m:=50) (by decide);obtain⟨y2,Mm,MK,Mn,ML,yB,JH⟩:=ym (x:=day+c / 19 % 50) (by omega);have Kn:=mod_lt (x:=c / 23) (m:=10) (by decide);have Gz:=mod_lt (x:=c / 29) (m:=60) (by decide);have Mo:=mod_lt (x:=c / 31) (m:=60) (by decide);let dA:List D:=[.tup [.str "named",.int day,.str (gq zs 4),.str one],.tup [.str "chosen",.int day,.str one,.str (gq zs 4),.str two,.int y2]];let dB:List D:=[.tup [.str "heir",.int day,.str one,.str (gq zs 5),.str two],.tup [.str "death",.int day,.str one],.tup [.str "lost",.int day,.str one],.tup [.str "found",.int day,.str two]];let dC:List D:=[.tup [.str "leave",.int day,.str one,.str two,.int m,st,.int (c / 23 % 10)]];obtain⟨wo,Dh,_,IC⟩:=IB (dA++dB++dC);let dP:List D:=[.tup [.str "paper",.int day,.str one,.int m,st,wD wo,.tup [.str one,.str two]]];let dK:List D:=[.tup [.str "like",.int day,.str one,.int m,st,.non,.int (c / 29 % 60),.tup [.tup [.int 0,.str two]]]];let dZ:List D:=[.tup [.str "copy",.int day,.str two,.int (c / 29 % 60)],.tup [.str "call",.int day,.str one,.int (c / 31 % 60)]];have AA:aQ st=true:=by simp[st,Ao]
 have Mp:aV dA=true:=by simp[dA]
 have Mq:aV (dA++dB)=true:=by simp[dA,dB]
 have Mr:aV (dA++dB++dC)=true:=by simp[dA,dB,dC,AA]
 have Ms:aV (dA++dB++dC++dP)=true:=by simp[dA,dB,dC,dP,AA,tQ]
 have Mt:aV (dA++dB++dC++dP++dK)=true:=by simp[dA,dB,dC,dP,dK,AA,tQ]
 have key:fE [.int c,.int k,.int day,.lst (zs.map .str)]=sF ((dA++dB++dC++dP++dK++dZ).getD k .non):=by
  refine aw rfl (xW st e4 AA (xW (.str one) (h1 ▸ ix rfl (im (lY rfl (by decide) (by decide)) (by decide)) m1.1 (by omega)) rfl (xW (.str two) (h2 ▸ ix rfl (im (lY rfl (by decide) (by decide)) (by decide)) m2.1 (by omega)) rfl (cK (ds:=dA) ?_ Mp (cK (ds:=dA++dB) ?_ Mq (cK (ds:=dA++dB++dC) ?_ Mr (cK (ds:=dA++dB++dC++dP) ?_ Ms (cK (ds:=dA++dB++dC++dP++dK) ?_ Mt (aE ?_)))))))))
  ·exact iD dA (aN (b:=false) (oM [.str "named",.int day,.str (gq zs 4),.str one] (bR rfl (bR rfl (bR (ix rfl rfl (by decide) (by decide)) (bR rfl rfl))))) (aN (b:=false) (oM [.str "chosen",.int day,.str one,.str (gq zs 4),.str two,.int y2] (bR rfl (bR rfl (bR rfl (bR (ix rfl rfl (by decide) (by decide)) (bR rfl (bR (v7 [.int 9999,.int (day+c / 19 % 50)] (bR rfl (bR (db (.int day) (.int (c / 19 % 50)) rfl (im (lY rfl (by decide) (by decide)) (by decide)) rfl) rfl)) Mm) rfl))))))) rfl))
  ·exact EK (b:=false) rfl (iD dB (aN (b:=false) (oM [.str "heir",.int day,.str one,.str (gq zs 5),.str two] (bR rfl (bR rfl (bR rfl (bR (ix rfl rfl (by decide) (by decide)) (bR rfl rfl)))))) (aN (b:=false) (oM [.str "death",.int day,.str one] rfl) (aN (b:=false) (oM [.str "lost",.int day,.str one] rfl) (aN (b:=false) (oM [.str "found",.int day,.str two] rfl) rfl)))))
  ·exact EK (b:=false) rfl (iD dC (aN (b:=false) (oM [.str "leave",.int day,.str one,.str two,.int m,st,.int (c / 23 % 10)] (bR rfl (bR rfl (bR rfl (bR rfl (bR (em _) (bR rfl (bR (im (lY rfl (by decide) (by decide)) (by decide)) rfl)))))))) rfl))
  ·exact EK (b:=false) rfl (iD dP (aN (b:=false) (oM [.str "paper",.int day,.str one,.int m,st,wD wo,.tup [.str one,.str two]] (bR rfl (bR rfl (bR rfl (bR (em _) (bR rfl (bR IC (bR (oM [.str one,.str two] rfl) rfl)))))))) rfl))
  ·exact EK (b:=false) rfl (iD dK (aN (b:=false) (oM [.str "like",.int day,.str one,.int m,st,.non,.int (c / 29 % 60),.tup [.tup [.int 0,.str two]]] (bR rfl (bR rfl (bR rfl (bR (em _) (bR rfl (bR rfl (bR (im (lY rfl (by decide) (by decide)) (by decide)) (bR (oM [.tup [.int 0,.str two]] (bR (oM [.int 0,.str two] rfl) rfl)) rfl))))))))) rfl))
  ·refine da (x:=.lst (dA++dB++dC++dP++dK++dZ)) (y:=.int k) (b1:=true) (b2:=false) (EK (b:=false) rfl (iD dZ (aN (b:=false) (oM [.str "copy",.int day,.str two,.int (c / 29 % 60)] (bR rfl (bR rfl (bR rfl (bR (im (lY rfl (by decide) (by decide)) (by decide)) rfl))))) (aN (b:=false) (oM [.str "call",.int day,.str one,.int (c / 31 % 60)] (bR rfl (bR rfl (bR rfl (bR (im (lY rfl (by decide) (by decide)) (by decide)) rfl))))) rfl)))) rfl ?_;rw[rR (by omega) (by simp[dA,dB,dC,dP,dK,dZ];omega),Int.toNat_natCast]
 have res:∀ {kind:Str}{L:List (Str×D)}{ds:List Int},(dA++dB++dC++dP++dK++dZ).getD k .non=.tup (.str kind::L.map (·.2))->(∀j,GX zs j day kind L ds)->∃kind L ds,fE [.int c,.int k,.int day,.lst (zs.map .str)]=some (.tup (.str kind::L.map (·.2)),false)/\∀j,GX zs j day kind L ds:=λ{kind L ds} e g=>⟨kind,L,ds,by rw[key,e],g⟩;obtain rfl|rfl|rfl|rfl|rfl|rfl|rfl|rfl|rfl|rfl|rfl:k=0∨k=1∨k=2∨k=3∨k=4∨k=5∨k=6∨k=7∨k=8∨k=9∨k=10:=by omega
 ·exact res rfl λj=>yt nm h0 h9 Km in1
 ·exact res rfl λj=>vk nm h0 h9 in1 Km Bt (by omega) Mn
 ·exact res rfl λj=>Av nm h0 h9 in1 Ml Bt
 ·exact res rfl λj=>si nm h0 h9 (.inl rfl) in1
 ·exact res rfl λj=>si nm h0 h9 (.inr (.inl rfl)) in1
 ·exact res rfl λj=>si nm h0 h9 (.inr (.inr rfl)) Bt
 ·exact res rfl λj=>yu nm h0 h9 in1 Bt IA nM ⟨Kn.1,by omega⟩
 ·exact res rfl λj=>yv nm h0 h9 in1 IA nM Dh in1 Bt
 ·exact res rfl λj=>Aw nm h0 h9 in1 IA nM ⟨Gz.1,by omega⟩ Bt
 ·exact res rfl λj=>Bh nm h0 h9 (.inl rfl) Bt ⟨Gz.1,by omega⟩
 ·exact res rfl λj=>Bh nm h0 h9 (.inr rfl) in1 ⟨Mo.1,by omega⟩
structure Rw where
 h:Int
 kind:Str
 L:List (Str×D)
 ds:List Int
def Rw.d (r:Rw):D:=row r.h r.kind (r.L.map (·.2))
structure GR (zs:List Str)(k:Nat)(r:Rw):Prop where
 h0:0<=r.h
 h9:r.h<=9999
 gx:∃day,day<=r.h/\GX zs k day r.kind r.L r.ds
theorem yx {ns:List Int}(Fo:ns.length<=63)(hf:EF ns):∃(zs:List Str)(M:List Rw),jr [.lst (ns.map .int)]=lT (M.map Rw.d)/\M.length<=24/\Nm6 zs/\∀j r,M[j]? = some r->GR zs j r:=by
 obtain⟨c0,e0⟩:=oB hf 0 (by decide);obtain⟨c1,e1⟩:=oB hf 1 (by decide);obtain⟨zs,en,nm⟩:=yk c0;have Ko:∀ρ:DL.Env,ρ[0]? = some (sF (.lst (ns.map .int)))->fA bK (fV 0 (ae (fI 1) ah)) ρ=sF (.int c1):=λρ h=>v7 [.lst (ns.map .int),.int 1] (bR (by simp[h]) rfl) e1;have bp:∀ρ:DL.Env,ρ[0]? = some (sF (.lst (ns.map .int)))->fA cy (fV 0 ah) ρ=sF (.int ns.length):=λρ h=>by
  refine v7 [.lst (ns.map .int)] (bR (by simp[h]) rfl) ?_;rw[o8,vH]
 obtain⟨n,hn,er⟩:∃n:Nat,n<=24/\f2 cW (fA aS (ae (fA mj (ae (fI 24) (ae (f2 bv (fA cy (fV 0 ah)) (fI 1)) ah))) (ae (fI 24) ah))) (f2 aP (f2 bt (fA bK (fV 0 (ae (fI 1) ah))) (fI 3)) (fI 2)) [sF (.lst (ns.map .int)),lT (zs.map .str),lT [],none,none,none,none]=sF (.int n):=by
  obtain⟨q,hq,eq⟩:∃q:Nat,q<=24/\fA mj (ae (fI 24) (ae (f2 bv (fA cy (fV 0 ah)) (fI 1)) ah)) [sF (.lst (ns.map .int)),lT (zs.map .str),lT [],none,none,none,none]=sF (.int q):=by
   refine⟨if ns.length+1<24 then ns.length+1 else 24,by split<;>omega,v7 [.int 24,.int (ns.length+1)] (bR rfl (bR (db (.int ns.length) (.int 1) (bp _ rfl) rfl rfl) rfl)) ?_⟩
   show some (D.int (if(ns.length:Int)+1<24 then (ns.length:Int)+1 else 24),false)=_;congr 3;split<;>split<;>omega
  obtain⟨x,hx,ex⟩:=gS ([q,24]:List Nat) (λm=>.int (m:Int)) (ρ:=[sF (.lst (ns.map .int)),lT (zs.map .str),lT [],none,none,none,none]) (fl:=fA aS (ae (fA mj (ae (fI 24) (ae (f2 bv (fA cy (fV 0 ah)) (fI 1)) ah))) (ae (fI 24) ah))) (fx:=f2 bt (fA bK (fV 0 (ae (fI 1) ah))) (fI 3)) (b:=true) (a:=c1 / 3) (m:=2) (iD [.int q,.int 24] (bR eq rfl)) (lY (Ko _ rfl) (by decide) (by decide)) (by decide) (by simp);refine⟨x,?_,ex⟩;have hx:x∈[q,24]:=hx;simp at hx;omega
 obtain⟨ρ',e,M,hM,hG,v3,v4,v5,v6,rfl⟩:=lv (tg:=gj 3) (g:=nE) n (λi ρ=>∃M:List Rw,M.length=i/\(∀j r,M[j]? = some r->GR zs j r)/\∃v3 v4 v5 v6:OB,ρ=[sF (.lst (ns.map .int)),lT (zs.map .str),lT (M.map Rw.d),v3,v4,v5,v6])
  [sF (.lst (ns.map .int)),lT (zs.map .str),lT [],none,none,none,none] ⟨[],rfl,λj r h=>by simp at h,none,none,none,none,rfl⟩ (by
   rintro i ρ hi ⟨M,hM,hG,v3,v4,v5,v6,rfl⟩;obtain⟨cc,ID⟩:=oB hf (2+i) (by omega);have ID:bK [.lst (ns.map .int),.int (2+(i:Int))]=sF (.int cc):=by rw[←ID];congr 3
   obtain⟨c,hc⟩:∃c:Int,cc % 10 ^ 15=c:=⟨_,rfl⟩;let E4:DL.Env:=[sF (.lst (ns.map .int)),lT (zs.map .str),lT (M.map Rw.d),sF (.int i),sF (.int c),v5,v6];obtain⟨D3,hD,eD⟩:=gS ([3,31,10000]:List Int) .int (ρ:=E4) (fl:=fA aS (ae (fI 3) (ae (fI 31) (ae (fI 10000) ah)))) (fx:=fA bK (fV 0 (ae (fI 1) ah))) (b:=true) (a:=c1) (m:=3) (iD [.int 3,.int 31,.int 10000] rfl) (Ko _ rfl) (by decide) (by simp);have hD:0<D3/\D3<=10000:=by
    have hD:D3∈[3,31,10000]:=hD;simp at hD;omega
   obtain⟨day,A9⟩:∃day,c / 12 % D3=day:=⟨_,rfl⟩;have Iw:=mod_lt (x:=c / 12) hD.1;rw[A9]at Iw;let E5:D->DL.Env:=λx=>[sF (.lst (ns.map .int)),lT (zs.map .str),lT (M.map Rw.d),sF (.int i),sF (.int c),sF (.int day),sF x];have e4:f2 aP (fA bK (fV 0 (ae (f2 bv (fI 2) (ag 3)) ah))) (f2 Co (fI 10) (fI 15)) [sF (.lst (ns.map .int)),lT (zs.map .str),lT (M.map Rw.d),sF (.int i),v4,v5,v6]=sF (.int c):=by
    refine db (.int cc) (.int (10 ^ 15)) (v7 [.lst (ns.map .int),.int (2+(i:Int))] (bR rfl (bR (db (.int 2) (.int i) rfl rfl rfl) rfl)) ID) (db (.int 10) (.int 15) rfl rfl rfl) ?_;rw[ye _ (by decide),hc]
   have e5:f2 aP (f2 bt (ag 4) (fI 12)) (f2 cW (fA aS (ae (fI 3) (ae (fI 31) (ae (fI 10000) ah)))) (f2 aP (fA bK (fV 0 (ae (fI 1) ah))) (fI 3))) E4=sF (.int day):=db (.int (c / 12)) (.int D3) (lY rfl (by decide) (by decide)) eD (by rw[ye _ hD.1,A9]);have m2:=mod_lt (x:=(i:Int)) (m:=2) (by decide);have I0:=mod_lt (x:=c / 5) (m:=255) (by decide);obtain⟨m,hm⟩:∃m:Int,1+c / 5 % 255=m:=⟨_,rfl⟩;have Kn:=mod_lt (x:=c / 7) (m:=10) (by decide);obtain⟨ru,IE,Mu⟩:=gS ([("open" : Str),("first" : Str),("last" : Str)]:List Str) .str (ρ:=[sF (.lst (ns.map .int)),lT (zs.map .str),lT (M.map Rw.d),sF (.int i),sF (.int c),sF (.int day),v6]) (fl:=fA aS (ae (fS "open") (ae (fS "first") (ae (fS "last") ah)))) (fx:=f2 bt (ag 4) (fI 9)) (b:=true) (a:=c / 9) (m:=3) (iD [.str "open",.str "first",.str "last"] rfl) (lY rfl (by decide) (by decide)) (by decide) (by simp);have IE:ru∈[("open" : Str),("first" : Str),("last" : Str)]:=IE;let rt:D:=.tup [.str "root",.str (gq zs (4+(i:Int) % 2)),.int m,.int (c / 7 % 10),.str ru];have e6:fA bM (ae (fS "root") (ae (f2 cW (ag 1) (f2 bv (fI 4) (f2 aP (ag 3) (fI 2)))) (ae (f2 bv (fI 1) (f2 aP (f2 bt (ag 4) (fI 5)) (fI 255))) (ae (f2 aP (f2 bt (ag 4) (fI 7)) (fI 10)) (ae (f2 cW (fA aS (ae (fS "open") (ae (fS "first") (ae (fS "last") ah)))) (f2 aP (f2 bt (ag 4) (fI 9)) (fI 3))) ah))))) [sF (.lst (ns.map .int)),lT (zs.map .str),lT (M.map Rw.d),sF (.int i),sF (.int c),sF (.int day),v6]=sF rt :=
    oM _ (bR rfl (bR (db (.lst (zs.map .str)) (.int (4+(i:Int) % 2)) rfl (db (.int 4) (.int ((i:Int) % 2)) rfl (im rfl (by decide)) rfl) (Bd nm (by omega) (by omega))) (bR (hm ▸ db (.int 1) (.int (c / 5 % 255)) rfl (im (lY rfl (by decide) (by decide)) (by decide)) rfl) (bR (im (lY rfl (by decide) (by decide)) (by decide)) (bR Mu rfl)))))
   have MM:=mod_lt (x:=c) (m:=11) (by decide);obtain⟨kk,Iz⟩:∃kk:Nat,c % 11=kk:=⟨(c % 11).toNat,by omega⟩;obtain⟨kd,Ld,dd,ed,gd⟩:=yw (c / 12) (k:=kk) (by omega) nm Iw.1 (by omega:day<=9999);have e7:∃kind L ds,GX zs i day kind L ds/\eJ (cn (br (f2 Dq (ag 3) (fI 1))) (br (f2 yL (f2 aP (ag 4) (fI 12)) (fI 11)))) (b8 6 (fA fE (ae (f2 bt (ag 4) (fI 12)) (ae (f2 aP (ag 4) (fI 11)) (fV 5 (fV 1 ah)))))) aY (E5 rt)=some (.nx (E5 (.tup (.str kind::L.map (·.2))))):=by
    have ht:cn (br (f2 Dq (ag 3) (fI 1))) (br (f2 yL (f2 aP (ag 4) (fI 12)) (fI 11))) (E5 rt)=some (decide ((1:Int)<i) || decide (c % 12<11)):=b9 (tL (db (.int i) (.int 1) rfl rfl (by simp))) λ_=>tL (db (.int (c % 12)) (.int 11) (im rfl (by decide)) rfl (by simp));by_cases hq:(decide ((1:Int)<i) || decide (c % 12<11))=true
    ·refine⟨kd,Ld,dd,gd i,m4 (ht.trans (by rw[hq])) (qa (d:=.tup (.str kd::Ld.map (·.2))) (b:=false) (v7 [.int (c / 12),.int kk,.int day,.lst (zs.map .str)] (bR (lY rfl (by decide) (by decide)) (bR (Iz ▸ im rfl (by decide)) rfl)) ed) ?_)⟩;have:=((gd i).dg 9999 (by omega) (by omega) (by omega)).flat;have:aV (Ld.map (·.2))=true:=eE λd hd=>(this d hd).1;simp[this]
    ·have hq:(decide ((1:Int)<i) || decide (c % 12<11))=false:=Bool.eq_false_iff.mpr hq;have Kp:i=0∨i=1:=by
      rw[Bool.or_eq_false_iff]at hq;have:=of_decide_eq_false hq.1;omega
     refine⟨("root" : Str),[(("office" : Str),.str (off zs i)),(("matters" : Str),.int m),(("further" : Str),.int (c / 7 % 10)),(("rule" : Str),.str ru)],_,Ax nm Kp (by omega) (by omega) IE,l7 (ht.trans (by rw[hq])) ?_⟩;have:gq zs (4+(i:Int) % 2)=off zs i:=by
      unfold gq off;rcases Kp with rfl|rfl<;>rfl
     show some (Res.nx (E5 rt))=_;simp only[rt,this];rfl
   obtain⟨kind,L,ds,g,e7⟩:=e7;have MN:=mod_lt (x:=c / 37) (m:=99) (by decide);obtain⟨ad,G0,Mv⟩:=gS ([0,0,1,c / 37 % 99]:List Int) .int (ρ:=E5 (.tup (.str kind::L.map (·.2)))) (fl:=fA aS (ae (fI 0) (ae (fI 0) (ae (fI 1) (ae (f2 aP (f2 bt (ag 4) (fI 37)) (fI 99)) ah))))) (fx:=f2 bt (ag 4) (fI 41)) (b:=true) (a:=c / 41) (m:=4) (iD [.int 0,.int 0,.int 1,.int (c / 37 % 99)] (bR rfl (bR rfl (bR rfl (bR (im (lY rfl (by decide) (by decide)) (by decide)) rfl))))) (lY rfl (by decide) (by decide)) (by decide) (by simp);have G0:0<=ad:=by
    have G0:ad∈[0,0,1,c / 37 % 99]:=G0;simp at G0;omega
   obtain⟨h,eh,Kq,Kr,MO,MP,Kh⟩:=ym (x:=day+ad) (by omega);have Ks:day<=h:=by omega
   let r:Rw:=⟨h,kind,L,ds⟩;have IF:aV (L.map (·.2))=true:=eE λd hd=>((g.dg h Ks Kq Kr).flat d hd).1;refine⟨_,[sF (.lst (ns.map .int)),lT (zs.map .str),lT ((M++[r]).map Rw.d),sF (.int i),sF (.int c),sF (.int day),sF (.tup (.str kind::L.map (·.2)))],rfl,.inl (xW (.int c) e4 rfl (xW (.int day) e5 rfl (xW rt e6 rfl (cC e7 ?_)))),M++[r],by simp[hM],?_,_,_,_,_,rfl⟩
   ·have:=iB (ρ:=E5 (.tup (.str kind::L.map (·.2)))) (i:=2) (f:=fA bM (ae (fA mj (ae (fI 9999) (ae (f2 bv (ag 5) (f2 cW (fA aS (ae (fI 0) (ae (fI 0) (ae (fI 1) (ae (f2 aP (f2 bt (ag 4) (fI 37)) (fI 99)) ah))))) (f2 aP (f2 bt (ag 4) (fI 41)) (fI 4)))) ah))) (fV 6 ah))) (d:=r.d) (b:=false) (ds:=M.map Rw.d) rfl (oM [.int h,.tup (.str kind::L.map (·.2))] (bR (v7 [.int 9999,.int (day+ad)] (bR rfl (bR (db (.int day) (.int ad) rfl Mv rfl) rfl)) eh) rfl)) (by simp[r,Rw.d,row,IF]) (ce (by simp;omega));exact this.trans (by rw[List.map_append];rfl)
   ·intro j r' hj;rw[List.getElem?_append]at hj;split at hj
    ·exact hG j r' hj
    ·rename_i hge;have Mw:j=i:=by
      have:=(vV hj).1;simp at this;omega
     subst Mw;rw[hM,Nat.sub_self]at hj;cases hj
     exact⟨Kq,Kr,day,Ks,g⟩)
 exact⟨zs,M,aw rfl (cK (ds:=zs.map .str) (v7 [.int c0] (bR (v7 [.lst (ns.map .int),.int 0] (bR rfl rfl) e0) rfl) en) (cE _) (cK (ds:=[]) (by simp[sizeLine]) rfl (cC (l8 (gM (j:=n) (b:=false) er (by omega)) e) (kB rfl)))),by omega,nm,hG⟩
noncomputable def Rw.a (r:Rw):List Int:=r.h::r.ds
noncomputable def days (M:List Rw):List Int:=0::M.flatMap Rw.a
theorem yy {M:List Rw}(h:∀r∈M,r.a.length<=4):(M.flatMap Rw.a).length<=4*M.length:=by
 induction M with
 |nil=>simp
 |cons r M ih=>
  have h1:=h r mX;have h2:=ih λr' hr=>h r' (mZ _ hr);rw[List.flatMap_cons,uZ,vD];omega
structure AllR (zs:List Str)(M:List Rw):Prop where
 len:M.length<=24
 nm:Nm6 zs
 at':∀j r,M[j]? = some r->GR zs j r
theorem AllR.mem {zs:List Str}{M:List Rw}(g:AllR zs M){r:Rw}(h:r∈M):∃k,GR zs k r:=by
 obtain⟨j,hj⟩:=List.mem_iff_getElem?.mp h;exact⟨j,g.at' j r hj⟩
theorem AllR.rows {zs:List Str}{M:List Rw}(g:AllR zs M):nI zs (M.map Rw.d):=by
 refine⟨⟨by rw[vH];have:=g.len;omega,g.nm⟩,λj r h=>?_⟩;rw[vA]at h;obtain⟨r',h',rfl⟩:=oY h;have gr:=g.at' j r' h';obtain⟨day,hd,gx⟩:=gr.gx;exact⟨r'.h,r'.kind,_,rfl,gr.h0,gr.h9,gx.dg r'.h hd gr.h0 gr.h9⟩
theorem AllR.flat {zs:List Str}{M:List Rw}(g:AllR zs M):aV (M.map Rw.d)=true:=eE λd hd=>by
 obtain⟨r,hr,rfl⟩:=List.mem_map.mp hd;obtain⟨k,gr⟩:=g.mem hr;obtain⟨day,hd,gx⟩:=gr.gx;have:aV (r.L.map (·.2))=true:=eE λd Hr=>((gx.dg r.h hd gr.h0 gr.h9).flat d Hr).1;simp[Rw.d,row,this]
theorem AllR.few {zs:List Str}{M:List Rw}(g:AllR zs M):∀r∈M,r.a.length<=4:=λr hr=>by
 obtain⟨k,gr⟩:=g.mem hr;obtain⟨day,hd,gx⟩:=gr.gx;have:=gx.few;simp[Rw.a];omega
theorem tS:∀L:List Int,jO (vI L)=some L
 |[]=>rfl
 |n::L=>by
  have:=tS L;unfold vI at this ⊢;rw[List.map_cons,jO,this];rfl
theorem tU {xs:List Int}(h:xs.length<127):jh (.lst (vI xs))=lT (vI (gz (cu xs))):=by
 show(jO (vI xs)).bind _=_;rw[tS,vJ,if_pos h];rfl
theorem nL {M:List Rw}{i:Nat}{r:Rw}(h:M[i]? = some r):(M.take (i+1)).flatMap Rw.a=(M.take i).flatMap Rw.a++r.a:=by
 rw[List.take_succ,h,List.flatMap_append];simp
theorem cz {zs:List Str}{M:List Rw}(g:AllR zs M)(i:Nat):((M.take i).flatMap Rw.a).length<=96:=by
 have h1:=yy (M:=M.take i) λr hr=>g.few r (List.mem_of_mem_take hr);have h2:=g.len;have h3:(M.take i).length<=M.length:=by rw[List.length_take];omega
 omega
theorem lP {zs:List Str}{M:List Rw}(g:AllR zs M):bS [.tup (M.map Rw.d)]=lT (vI (gz (cu (days M)))):=by
 have lS:=cz g M.length;rw[List.take_length]at lS;obtain⟨ρ',e,v2,rfl⟩:=ji (tg:=gj 2) (g:=iC) (λi ρ=>∃v2:OB,ρ=[sF (.tup (M.map Rw.d)),lT (vI (0::(M.take i).flatMap Rw.a)),v2]) (M.map Rw.d) [sF (.tup (M.map Rw.d)),lT (vI [0]),none] ⟨none,rfl⟩ (by
  rintro i d ρ hd ⟨v2,rfl⟩;rw[vA]at hd;obtain⟨r,hr,rfl⟩:=oY hd;obtain⟨day,Mx,gx⟩:=(g.at' i r hr).gx;have ed:=Ar (h:=r.h) gx.hp (by have:=gx.len;omega) gx.dp;refine⟨_,[sF (.tup (M.map Rw.d)),lT (vI (0::(M.take (i+1)).flatMap Rw.a)),sF r.d],rfl,.inl ?_,_,rfl⟩;show mm 1 (fA fD (ae (ag 2) ah)) [sF (.tup (M.map Rw.d)),lT (vI (0::(M.take i).flatMap Rw.a)),sF r.d]=_;have hx:fA fD (ae (ag 2) ah) [sF (.tup (M.map Rw.d)),lT (vI (0::(M.take i).flatMap Rw.a)),sF r.d]=lT (vI r.a):=ao (ds:=[r.d]) rfl ed;have h1:=cz g i;have h2:=g.few r (List.mem_of_getElem? hr);have hsz:(vI (0::(M.take i).flatMap Rw.a)).length+(vI r.a).length<=sizeLine:=cf (by simp only[vI,vH,vD];omega);have Br:aV (vI r.a)=true:=bw _;simp only[mm,List.getElem?_cons_succ,List.getElem?_cons_zero,hx,vJ];rw[if_pos ⟨trivial,Br,hsz⟩,gH,nL hr];rfl)
 rw[vH,List.take_length]at e;have e0:fA aS (ae (fI 0) ah) [sF (.tup (M.map Rw.d)),none,none]=lT (vI [0]):=iD [.int 0] rfl;have ef:iO (cA (ag 0)) (gj 2) iC [sF (.tup (M.map Rw.d)),lT (vI [0]),none]=some (.nx [sF (.tup (M.map Rw.d)),lT (vI (days M)),v2]):=jk (ds:=M.map Rw.d) rfl e;have eb:gO [sF (.tup (M.map Rw.d)),none,none]=some (.rt (.lst (vI (gz (cu (days M))))) true):=by
  unfold gO;exact cK e0 (bw _) (cC ef (aE (nF (x:=.lst (vI (days M))) (b:=false) rfl (tU (by simp only[days,vD];omega)))))
 exact aw rfl eb
theorem yz {zs:List Str}{M:List Rw}(g:AllR zs M):jt [.lst (M.map Rw.d)]=lT (vI (gz (cu (days M)))):=by
 have lS:=cz g M.length;rw[List.take_length]at lS;obtain⟨ρ',e,v2,v3,v4,rfl⟩:=ji (tg:=rh [2,3]) (g:=gP) (λi ρ=>∃v2 v3 v4:OB,ρ=[sF (.lst (M.map Rw.d)),lT (vI (0::(M.take i).flatMap Rw.a)),v2,v3,v4]) (M.map Rw.d) [sF (.lst (M.map Rw.d)),lT (vI [0]),none,none,none] ⟨none,none,none,rfl⟩ (by
  rintro i d ρ hd ⟨v2,v3,v4,rfl⟩;rw[vA]at hd;obtain⟨r,hr,rfl⟩:=oY hd;obtain⟨day,Mx,gx⟩:=(g.at' i r hr).gx;obtain⟨b,d1,d2,hb,lp,qE,A2⟩:=gx.lw;have h1:=cz g i;have h8:=gx.len;obtain⟨w4,e⟩:=As (h:=r.h) (acc:=0::(M.take i).flatMap Rw.a) hb lp qE (by simp only[vD,vH];omega) (sF (.lst (M.map Rw.d))) v4;refine⟨[sF (.lst (M.map Rw.d)),lT (vI (0::(M.take i).flatMap Rw.a)),sF (.int r.h),sF (.tup (.str r.kind::r.L.map (·.2))),v4],_,rfl,.inl e,sF (.int r.h),sF (.tup (.str r.kind::r.L.map (·.2))),w4,?_⟩;rw[nL hr,show r.a=r.h::(d1++d2) by rw[←A2];rfl];rfl)
 rw[vH,List.take_length]at e;have e0:fA aS (ae (fI 0) ah) [sF (.lst (M.map Rw.d)),none,none,none,none]=lT (vI [0]):=iD [.int 0] rfl;have ef:iO (cA (ag 0)) (rh [2,3]) gP [sF (.lst (M.map Rw.d)),lT (vI [0]),none,none,none]=some (.nx [sF (.lst (M.map Rw.d)),lT (vI (days M)),v2,v3,v4]):=jk (ds:=M.map Rw.d) rfl e;have eb:js [sF (.lst (M.map Rw.d)),none,none,none,none]=some (.rt (.lst (vI (gz (cu (days M))))) true):=by
  unfold js;exact cK e0 (bw _) (cC ef (aE (nF (x:=.lst (vI (days M))) (b:=false) rfl (tU (by simp only[days,vD];omega)))))
 exact aw rfl eb
theorem tV {xs:List Int}(h:xs.length<=1000):di [.lst (vI xs),.lst (vI xs)]=sF (.bl true):=by
 have hp:aJ 40 (.lst (vI xs))=true:=by
  show List.all _ _=true;rw[List.all_eq_true];intro d hd;obtain⟨n,_,rfl⟩:=List.mem_map.mp hd;rfl
 have hq:=lI 40 _ hp;have hx:=nq (fi:=cA (ag 0)) (nT:=1) (cap:=[]) (tg:=gj 0) (c:=cn (bX (br (fA ay (fV 0 (ae (fC (.ty "int")) ah))))) (br (fA ay (fV 0 (ae (fC (.ty "bool")) ah))))) (fe:=ag 0) (ρ:=[sF (.lst (vI xs)),sF (.lst (vI xs))]) xs D.int (λ_=>false) D.int (by simp[vI]) (by omega) λz _=>⟨_,rfl,by simp[eP],λz=>by cases z⟩;rw[List.filter_eq_nil_iff.mpr (by simp)]at hx;refine aw rfl (av (b9 (p:=false) (q:=false) (by simp) λ_=>tL (db (.lst (vI xs)) (.lst (vI xs)) rfl rfl ?_)) (aE (db (.int 0) (.int 0) (v7 [.lst []] (aN (b:=true) hx rfl) rfl) rfl (by simp))));simp only[yK,hp,hq];rfl
theorem qC:bS [.tup []]=lT (vI [0]):=by
 have:=lP (zs:=((List.range 6).map λi=>(⟨#[97+i]⟩:Str))) (M:=[]) ⟨by decide,⟨by decide,by decide +kernel,by decide +kernel⟩,λj r h=>by simp at h⟩;exact this
theorem Ay:bx [.lst []]=sF (.tup []):=jY (zs:=((List.range 6).map λi=>(⟨#[97+i]⟩:Str))) (rows:=[]) ⟨⟨by decide,⟨by decide,by decide +kernel,by decide +kernel⟩⟩,λj r h=>by simp at h⟩ rfl (.lst []) (.inl rfl)
theorem y0 (xs:List Int):(gz (cu xs)).length<=xs.length:=by
 have h1:(gz (cu xs)).length=(cu xs).length:=(fY _ (cu xs)).length_eq;rw[h1];exact iX xs
theorem law_true (ns:List Int)(Fo:ns.length<=63)(hf:EF ns):∃b,F_law [.lst (ns.map .int)]=some (.bl true,b):=by
 obtain⟨zs,M,er,hl,nm,hG⟩:=yx Fo hf;have g:AllR zs M:=⟨hl,nm,hG⟩;have IG:=jY g.rows g.flat (.lst (M.map Rw.d)) (.inl rfl);have hm:=lP g;have hw:=yz g;have lS:=cz g M.length;rw[List.take_length]at lS;have hs:=y0 (days M);have Gv:(days M).length<=97:=by simp only[days,vD];omega
 generalize gz (cu (days M))=xs at hm hw hs;have ht:=tV (xs:=xs) (by omega);have IF:aQ (.tup (M.map Rw.d))=true:=by rw[mJ];exact g.flat
 let E:OB->DL.Env:=λv=>[sF (.lst (ns.map .int)),lT (M.map Rw.d),sF (.tup (M.map Rw.d)),lT (vI xs),v];have e1:fA jr (fV 0 ah) [sF (.lst (ns.map .int)),none,none,none,none]=lT (M.map Rw.d):=ao (ds:=[.lst (ns.map .int)]) rfl er;have e2:fA bx (ae (fA dF (fV 1 ah)) ah) [sF (.lst (ns.map .int)),lT (M.map Rw.d),none,none,none]=sF (.tup (M.map Rw.d)):=ao (ds:=[.lst (M.map Rw.d)]) (aN (b:=true) (by simp) rfl) IG;have e3:fA jt (fV 1 ah) [sF (.lst (ns.map .int)),lT (M.map Rw.d),sF (.tup (M.map Rw.d)),none,none]=lT (vI xs):=ao (ds:=[.lst (M.map Rw.d)]) rfl hw;have em:∀v,fA bS (fV 2 ah) (E v)=lT (vI xs):=λv=>ao (ds:=[.tup (M.map Rw.d)]) rfl hm;have e4:fA bS (fV 2 ah) [sF (.lst (ns.map .int)),lT (M.map Rw.d),sF (.tup (M.map Rw.d)),lT (vI xs),none]=lT (vI xs):=em none;have t1:bX (br (fA di (fV 4 (fV 3 ah)))) (E (lT (vI xs)))=some false:=dG (p:=true) (bo (b:=false) (ao (ds:=[.lst (vI xs),.lst (vI xs)]) rfl ht));have a1:ij 4 (fI 3) (E (lT (vI xs)))=some (.nx (E (lT (vI (xs++[3]))))):=(iB (d:=.int 3) (b:=false) (ds:=vI xs) rfl rfl rfl (ce (by simp[vI];omega))).trans (by
  show some (Res.nx (E (lT (vI xs++vI [3]))))=_;rw[gH])
 have a2:zV 4 (λds=>some ds.reverse) (E (lT (vI (xs++[3]))))=some (.nx (E (lT (vI (xs++[3])).reverse))):=rfl;have My:fA bx (ae (fA aS ah) ah) (E (lT (vI (xs++[3])).reverse))=sF (.tup []):=ao (ds:=[.lst []]) (aN (b:=true) (by simp[sizeLine]) rfl) Ay;have r1:fA di (ae (fA bS (fV 2 ah)) (fV 3 ah)) (E (lT (vI (xs++[3])).reverse))=sF (.bl true):=ao (ds:=[.lst (vI xs),.lst (vI xs)]) (aN (em _) rfl) ht;have r2:fA di (ae (fA bS (ae (fA bx (ae (fA aS ah) ah)) ah)) (ae (fA aS (ae (fI 0) ah)) ah)) (E (lT (vI (xs++[3])).reverse))=sF (.bl true) :=
  ao (ds:=[.lst (vI [0]),.lst (vI [0])]) (aN (ao (ds:=[.tup []]) (aN My rfl) qC) (aN (b:=true) (iD [.int 0] rfl) rfl)) (tV (by decide))
 have hb:tN [sF (.lst (ns.map .int)),none,none,none,none]=some (.rt (.bl true) false):=by
  unfold tN;refine cK e1 g.flat (xW (.tup (M.map Rw.d)) e2 IF (cK e3 (bw _) (cK e4 (bw _) (av t1 (cC a1 (cC a2 (aE ?_)))))));exact(g9 (p:=true) (q:=true) (b1:=false) r1 λ_=>r2).trans rfl
 exact⟨false,aw rfl hb⟩
end Lw
namespace Lw
open PySem PySem.Spec PyProof.Rows L2 DL
noncomputable def gT (i:Nat):Stmt:=PySem.Challenge.pw_sealchain_k44_moments.main.body.getD i (.Pass ⟨0,0,0,0⟩)
section
variable {X:Cx}{es sk:List Expr}{f:FE}{g:FA}{pos:Pos}{k:Nat}{a b:Expr}
theorem jw {c:Const}(h:JE X (.Constant c k pos) f)(hr:JA X es g):JA X (.Constant c k pos::es) (ae f g):=aj h hr
theorem jx (h:JE X (.Tuple sk k pos) f)(hr:JA X es g):JA X (.Tuple sk k pos::es) (ae f g):=aj h hr
theorem oG {o:Operator}(h:JE X (.BinOp a o b pos) f)(hr:JA X es g):JA X (.BinOp a o b pos::es) (ae f g):=aj h hr
theorem y3 (h:JE X (.Subscript a b pos) f)(hr:JA X es g):JA X (.Subscript a b pos::es) (ae f g):=aj h hr
theorem Hl {kw:List Keyword}(h:JE X (.Call a sk kw pos) f)(hr:JA X es g):JA X (.Call a sk kw pos::es) (ae f g):=aj h hr
end
structure Tx (w:World)(K:Frag)(mg:Str->Option Value):Prop where
 hX:∃h,K.In h/\h.Ns mainGlobals mg
 d0:eG K "is_whole" (gT 6)
 d1:eG K "is_day" (gT 7)
 d2:eG K "is_stretch" (gT 8)
 d3:eG K "is_matters" (gT 9)
 d4:eG K "is_name" (gT 18)
 d5:eG K "is_rule" (gT 20)
 d6:eG K "is_piece" (gT 19)
 d7:eG K "is_pieces" (gT 21)
 d8:eG K "is_change" (gT 22)
 d9:eG K "is_changes" (gT 23)
 d10:eG K "is_part" (gT 24)
 d11:eG K "is_deed" (gT 25)
 d12:eG K "word_of" (gT 28)
 d13:eG K "part_of" (gT 29)
 d14:eG K "day_of" (gT 30)
 d15:eG K "is_timely" (gT 26)
 d16:eG K "is_row" (gT 27)
 d17:eG K "root_offices" (gT 35)
 d18:eG K "is_second_root" (gT 36)
 d19:eG K "parts_in" (gT 31)
 d20:eG K "people_in" (gT 32)
 d21:eG K "count_people" (gT 37)
 d22:eG K "is_refused" (gT 38)
 d23:eG K "register_of" (gT 39)
 d24:eG K "days_in" (gT 41)
 d25:eG K "moments" (gT 42)
 d26:eG K "_law_cell" (gT 44)
 d27:eG K "_law_names" (gT 45)
 d28:eG K "_law_deed" (gT 46)
 d29:eG K "_law_rows" (gT 47)
 d30:eG K "_law_days" (gT 48)
 d31:eG K "_law_told" (gT 49)
 d32:eG K "law" (gT 50)
 n0:mg "all" = none
 n1:mg "bool" = none
 n2:mg "int" = none
 n3:mg "isinstance" = none
 n4:mg "len" = none
 n5:mg "list" = none
 n6:mg "min" = none
 n7:mg "range" = none
 n8:mg "set" = none
 n9:mg "sorted" = none
 n10:mg "str" = none
 n11:mg "tuple" = none
 n12:mg "zip" = none
 k0:KC K mg "ALL_MATTERS" hW
 k1:KC K mg "LAST_DAY" lB
 k2:KC K mg "MOST_FURTHER" gA
 k3:KC K mg "MOST_LETTERS" gB
 k4:KC K mg "MOST_PEOPLE" hZ
 k5:KC K mg "MOST_PIECES" cT
 k6:KC K mg "MOST_ROWS" dc
 k7:KD w K mg "PARTS" aU
 k8:KC K mg "PERSON_PARTS" cg
 k9:KC K mg "RULES" tM
section
variable {P:Program}{w:World}{K:Frag}{mg:Str->Option Value}{base:Heap}(T:Tx w K mg)
include T
theorem f0:Fn P w K mg base 1 "is_whole" cB:=T.d0.fq T.hX lC ["thing","least","most"] 3 λnd hr hu=>
  (bE (fP (ar aD T.n3 aB (aH 0 (aj (cO T.n2 wO) ai))) (fP (Ck (ar aD T.n3 aB (aH 0 (aj (cO T.n1 wP) ai)))) (eT (pf iS iS (af 1) (af 0) (af 2))))))
theorem f1:Fn P w K mg base 2 "is_day" e8:=T.d1.fq T.hX qd ["thing"] 1 λnd hr hu=>
  (bE (bT (f0 T) hr (aH 0 (eI (aj (ca T.k1) ai)))))
theorem f2:Fn P w K mg base 3 "is_stretch" cM:=T.d2.fq T.hX jm ["thing"] 1 λnd hr hu=>
  (al (bU (gl (cN (bZ (bN (ar aD T.n3 aB (aH 0 (aj (cO T.n11 dE) ai))))) (cN (aI (uw hu) (ar dw T.n4 cY (aH 0 ai)) ak) (c9 (bZ (bN (bT (f1 T) hr (aj (bJ 0) ai)))))))) ft)
   (bE (wK (eQ Cs (bJ 0) fO) (eT (fP (bT (f1 T) hr (aj (bJ 0) ai)) (eT (eQ p6 (bJ 0) (bJ 0))))))))
theorem f3:Fn P w K mg base 2 "is_matters" dH:=T.d3.fq T.hX jn ["thing"] 1 λnd hr hu=>
  (bE (bT (f0 T) hr (aH 0 (eI (aj (ca T.k0) ai)))))
theorem f4:Fn P w K mg base 1 "is_name" dM:=T.d4.fq T.hX nr ["thing"] 1 λnd hr hu=>
  (al (bU (gl (cN (bZ (bN (ar aD T.n3 aB (aH 0 (aj (cO T.n10 wQ) ai))))) (c9 (bZ (ph iS iS ak (ar dw T.n4 cY (aH 0 ai)) (ca T.k3)))))) ft)
   (bE (ar p9 T.n0 p8 (aj (jc ["sign"] (cI (af 0)) io (pf iS iS aA (af 0) aA)) ai))))
theorem f5:Fn P w K mg base 1 "is_rule" nv:=T.d5.fq T.hX nu ["thing"] 1 λnd hr hu=>
  (bE (fP (ar aD T.n3 aB (aH 0 (aj (cO T.n10 wQ) ai))) (eT (eQ sW (af 0) (ca T.k9)))))
theorem f6:Fn P w K mg base 2 "is_piece" eA:=T.d6.fq T.hX lD ["thing"] 1 λnd hr hu=>
  (bE (bi (f4 T) hr))
theorem f7:Fn P w K mg base 3 "is_pieces" eL:=T.d7.fq T.hX jT ["thing"] 1 λnd hr hu=>
  (al (bU (gl (cN (bZ (bN (ar aD T.n3 aB (aH 0 (aj (cO T.n11 dE) ai))))) (c9 (bZ (ph iS iS ak (ar dw T.n4 cY (aH 0 ai)) (ca T.k5)))))) ft)
   (bE (ar p9 T.n0 p8 (aj (jc ["piece"] (cI (af 0)) io (bi (f6 T) hr)) ai))))
theorem f8:Fn P w K mg base 3 "is_change" de:=T.d8.fq T.hX jU ["thing"] 1 λnd hr hu=>
  (al (bU (gl (cN (bZ (bN (ar aD T.n3 aB (aH 0 (aj (cO T.n11 dE) ai))))) (c9 (aI (uw hu) (ar dw T.n4 cY (aH 0 ai)) ak)))) ft)
   (bE (fP (bT (f0 T) hr (aj (bJ 0) (eI (aj (aq AN (ca T.k5) ak) ai)))) (eT (bT (f6 T) hr (aj (bJ 0) ai))))))
theorem f9:Fn P w K mg base 4 "is_changes" fZ:=T.d9.fq T.hX jo ["thing","places"] 1 λnd hr hu=>
  (al (bU (gl (cN (bZ (bN (ar aD T.n3 aB (aH 0 (aj (cO T.n11 dE) ai))))) (c9 (bZ (bN (ar p9 T.n0 p8 (aj (jc ["change"] (cI (af 0)) io (bi (f8 T) hr)) ai))))))) ft)
   (al (xM ["change"] nd (cI (af 0)) io (bJ 0))
   (bE (ar p9 T.n0 p8 (aj (jc ["place","later"] (xi T.n12 (af 1) (gy (af 1) (iR ak) iQ)) io (eQ p6 (af 0) (af 1))) ai)))))
theorem f10:Fn P w K mg base 5 "is_part" aT:=T.d10.fq T.hX nw ["part","thing"] 2 λnd hr hu=>
  (al (bU (gl (cN (aI (dR hu) (af 0) aA) (c9 (aI (dR hu) (af 0) aA)))) (bi (f1 T) hr))
   (al (bU (gl (cN (aI (dR hu) (af 0) aA) (cN (aI (dR hu) (af 0) aA) (c9 (aI (dR hu) (af 0) aA))))) (bi (f4 T) hr))
   (al (bU (aI (dR hu) (af 0) aA) (wK (eQ Cs (af 1) fO) (eT (bi (f4 T) hr))))
   (al (bU (aI (dR hu) (af 0) aA) (bi (f3 T) hr))
   (al (bU (aI (dR hu) (af 0) aA) (bi (f2 T) hr))
   (al (bU (aI (dR hu) (af 0) aA) (bT (f0 T) hr (aH 1 (eI (aj (ca T.k2) ai)))))
   (al (bU (aI (dR hu) (af 0) aA) (bi (f5 T) hr))
   (al (bU (aI (dR hu) (af 0) aA) (bT (f0 T) hr (aH 1 (eI (aj (aq AN (ca T.k6) ak) ai)))))
   (al (bU (aI (dR hu) (af 0) aA) (bi (f7 T) hr))
   (bE (bi (f9 T) hr)))))))))))
theorem f11:Fn P w K mg base 6 "is_deed" jE:=T.d11.fq T.hX ny ["thing"] 1 λnd hr hu=>
  (al (bU (gl (cN (bZ (bN (ar aD T.n3 aB (aH 0 (aj (cO T.n11 dE) ai))))) (cN (aI (dR hu) (ar dw T.n4 cY (aH 0 ai)) ak) (c9 (bZ (bN (ar aD T.n3 aB (aj (bJ 0) (aj (cO T.n10 wQ) ai))))))))) ft)
   (al (bU (gl (cN (uK T.k7 (bJ 0)) (c9 (aI (uw hu) (ar dw T.n4 cY (aH 0 ai)) (aq bg ak (ar dw T.n4 cY (aj (oq T.k7 (bJ 0)) ai))))))) ft)
   (bE (ar p9 T.n0 p8 (aj (jc ["part","value"] (xi T.n12 (oq T.k7 (bJ 0)) (gy (af 0) (iR ak) iQ)) io (bi (f10 T) hr)) ai)))))
theorem Dw:Fn P w K mg base 1 "word_of" bA:=T.d12.fq T.hX nA ["row"] 1 λnd hr hu=>
  (bE (cH (bJ 0) ak))
theorem Gc:Fn P w K mg base 2 "part_of" cD:=T.d13.fq T.hX nB ["row","part"] 2 λnd hr hu=>
  (bE (cH (bJ 0) (aq bg ak (zZ T.k7 (bi (Dw T) hr) (af 1)))))
theorem K8:Fn P w K mg base 3 "day_of" jp:=T.d14.fq T.hX qe ["row"] 1 λnd hr hu=>
  (al (bU (aI (dR hu) (bi (Dw T) hr) aA) fO)
   (bE (bi (Gc T) hr)))
theorem K9:Fn P w K mg base 4 "is_timely" gC:=T.d15.fq T.hX jV ["row","day"] 1 λnd hr hu=>
  (al (aR nd (bi (K8 T) hr))
   (al (bU (aI Cs (af 1) fO) ft)
   (al (bU (gl (oh (aI (dR hu) (bi (Dw T) hr) aA) (og (aI p6 (bi (Gc T) hr) (af 1))))) ft)
   (bE (eQ iS (af 1) (bJ 0))))))
theorem KA:Fn P w K mg base 7 "is_row" lE:=T.d16.fq T.hX qf ["thing"] 1 λnd hr hu=>
  (al (bU (gl (cN (bZ (bN (ar aD T.n3 aB (aH 0 (aj (cO T.n11 dE) ai))))) (c9 (aI (uw hu) (ar dw T.n4 cY (aH 0 ai)) ak)))) ft)
   (bE (fP (bT (f1 T) hr (aj (bJ 0) ai)) (fP (bT (f11 T) hr (aj (bJ 0) ai)) (eT (bi (K9 T) hr))))))
theorem KE:Fn P w K mg base 3 "root_offices" eB:=T.d17.fq T.hX gD ["rows"] 1 λnd hr hu=>
  (bE (jc ["row"] (cI (af 0)) (kO (aI (dR hu) (bi (Dw T) hr) aA)) (bi (Gc T) hr)))
theorem KG:Fn P w K mg base 4 "is_second_root" cP:=T.d18.fq T.hX fB ["ahead","row"] 2 λnd hr hu=>
  (bE (fP (eQ (dR hu) (bi (Dw T) hr) aA) (eT (eQ sW (bi (Gc T) hr) (bi (KE T) hr)))))
theorem IZ:Fn P w K mg base 2 "parts_in" bP:=T.d19.fq T.hX lF ["row"] 1 λnd hr hu=>
  (bE (rO rfl T.n5 T.n12 (oq T.k7 (bi (Dw T) hr)) (gy (bJ 0) (iR ak) iQ)))
theorem KH:Fn P w K mg base 3 "people_in" df:=T.d20.fq T.hX jW ["row","names"] 1 λnd hr hu=>
  (al (xM ["part","value"] nd (cI (bi (IZ T) hr)) (kO (gl (oh (aI sW (af 0) (ca T.k8)) (og (aI sU (af 1) fO))))) (af 1))
   (bE (rJ rfl T.n9 T.n8 (af 1))))
theorem KI:Fn P w K mg base 4 "count_people" eC:=T.d21.fq T.hX gE ["rows","names","row"] 1 λnd hr hu=>
  (al (aR nd (bI ai))
   (al (pT (cI (af 0)) (yN 2 nd) fm (bu (rz (i:=1) (bi (KH T) hr))))
   (bE (uH rfl T.n4 T.n8 (af 1)))))
theorem KJ:Fn P w K mg base 8 "is_refused" ga:=T.d22.fq T.hX jq ["book","place"] 2 λnd hr hu=>
  (al (bU (gl (cN (aI GQ (af 1) (ca T.k6)) (c9 (bZ (bN (bT (KA T) hr (aj (cH (af 0) (af 1)) ai))))))) ft)
   (bE (wK (bT (KG T) hr (aj (gy (af 0) iQ (iR (af 1))) (aj (cH (af 0) (af 1)) ai))) (eT (eQ Cp (bT (KI T) hr (aj (gy (af 0) iQ (iR (aq bg (af 1) ak))) ai)) (ca T.k4))))))
theorem Ja:Fn P w K mg base 9 "register_of" bx:=T.d23.fq T.hX ie ["rows","book","place"] 1 λnd hr hu=>
  (al (gY (bZ (bN (ar uM T.n3 aB (aH 0 (aj (bO (aj (cO T.n5 kS) (aj (cO T.n11 dE) ai))) ai))))) (bu pE) fQ)
   (al (aR nd (j8 zU T.n11 dE (aH 0 ai)))
   (al (xN (iT T.n7 (ar dw T.n4 cY (aH 1 ai))) (yN 2 nd) fm (bu (gY (bN (bi (KJ T) hr)) (bu pE) fQ)))
   (bu (kz 1)))))
theorem KL:Fn P w K mg base 3 "days_in" fD:=T.d24.fq T.hX gN ["row","days","part","value"] 1 λnd hr hu=>
  (al (aR nd (bI (aj (bJ 0) ai)))
   (al (pT (cI (bi (IZ T) hr)) (nP rfl (cU (yN 2 nd) (cU (yN 3 nd) kx))) AT (bu (gY (gl (cN (aI (dR hu) (af 2) aA) (c9 (aI (dR hu) (af 2) aA)))) (bu (ip (i:=1) (af 3))) (bu (gY (aI (dR hu) (af 2) aA) (bu (rz (i:=1) (jc ["day"] (cI (af 3)) (kO (aI sU (af 0) fO)) (af 0)))) fQ)))))
   (bu (kz 1))))
theorem Hm:Fn P w K mg base 4 "moments" bS:=T.d25.fq T.hX gO ["book","days","row"] 1 λnd hr hu=>
  (al (aR nd (bI (eI ai)))
   (al (pT (cI (af 0)) (yN 2 nd) fm (bu (rz (i:=1) (bi (KL T) hr))))
   (bE (jS rfl T.n9 T.n8 (af 1)))))
theorem Gd:Fn P w K mg base 1 "_law_cell" bK:=T.d26.fq T.hX qg ["_law_script","_law_k","_law_number"] 2 λnd hr hu=>
  (al (bU (aI p6 (af 1) (ar dw T.n4 cY (aH 0 ai))) (cH (af 0) (af 1)))
   (al (aR nd (aq bg (aq ir ak (af 1)) ak))
   (al (gY (aI Cp (ar dw T.n4 cY (aH 0 ai)) ak) (bu (aR nd (aq bg (aq bg (aq ir (cH (af 0) (aq bq (aq ir (af 1) ak) (ar dw T.n4 cY (aH 0 ai)))) ak) (aq ir (aq ir (af 1) (af 1)) ak)) ak))) fQ)
   (bE (aq bq (aq C9 (af 2) (af 2)) ak)))))
theorem KN:Fn P w K mg base 1 "_law_names" jF:=T.d27.fq T.hX nD ["_law_cell_here","_law_letters","_law_base","_law_at","_law_names_here","_law_k","_law_name"] 1 λnd hr hu=>
  (al (aR nd aA)
   (al (xM ["_law_k","_law_letters","_law_cell_here"] nd (wW T.n7 (aq bg ak (aq bq (af 0) ak))) io (cH (af 1) (aq bq (aq bj (af 2) (aq bg ak (aq ir ak (af 0)))) ak)))
   (al (aR nd (aq bq (aq bj (af 0) ak) (ar dw T.n4 cY (aH 2 ai))))
   (al (aR nd (bI ai))
   (al (xN (iT T.n7 ak) (yN 5 nd) fm (al (aR nd (j8 xj T.n5 kS (aH 2 ai)))
   (al (C5 (i:=6) (cH (af 1) (aq bq (aq bg (aq bj (af 0) ak) (aq ir ak (af 5))) ak)) (af 3))
   (bu (ip (i:=4) (Cz PySem.F.slot_str_join PySem.F.type_str_join C1 xf aA (af 6)))))))
   (bu (kz 4)))))))
theorem KO:Fn P w K mg base 1 "_law_deed" fE:=T.d28.fq T.hX qh ["_law_cell_here","_law_k","_law_day","_law_names_here","_law_stretch","_law_one","_law_two","_law_some"] 4 λnd hr hu=>by
  refine @al _ _ _ _ _ ?_ ?_;refine @aR _ _ _ _ 4 _ _ nd ?_ rfl (by first|exact Or.inl rfl|exact Or.inr rfl) rfl (by first|exact .inl rfl|exact .inr rfl);refine @bO _ _ _ _ _ ?_;refine oG ?_ ?_;exact(aq bq (aq bj (af 0) ak) ak);refine y3 ?_ ?_;refine cH (hs:=?_) ?_ ?_;refine @bI _ _ _ _ ?_;refine jw ?_ ?_;exact fO;refine oG ?_ ?_;exact(aq bg (aq bg (aq bq (aq bj (af 0) ak) ak) ak) (aq bq (aq bj (af 0) ak) ak));exact ai;exact(aq bq (aq bj (af 0) ak) ak);intro _ _;rfl;exact ai;refine @al _ _ _ _ _ ?_ ?_;exact(aR nd (cH (af 3) (aq bq (aq bj (af 0) ak) ak)));refine @al _ _ _ _ _ ?_ ?_;exact(aR nd (cH (af 3) (aq bq (aq bj (af 0) ak) ak)));refine @al _ _ _ _ _ ?_ ?_;refine @aR _ _ _ _ 7 _ _ nd ?_ rfl (by first|exact Or.inl rfl|exact Or.inr rfl) rfl (by first|exact .inl rfl|exact .inr rfl);refine @bI _ _ _ _ ?_;refine jx ?_ ?_;refine @bO _ _ _ _ _ ?_;refine jw ?_ ?_;exact aA;refine aH 2 ?_;refine y3 ?_ ?_;exact(bJ 3);refine aH 5 ?_;exact ai;refine jx ?_ ?_;refine @bO _ _ _ _ _ ?_;refine jw ?_ ?_;exact aA;refine aH 2 ?_;refine aH 5 ?_;refine y3 ?_ ?_;exact(bJ 3);refine aH 6 ?_;refine Hl ?_ ?_;exact(ar wS T.n6 wN (eI (aj (aq bg (af 2) (aq bq (aq bj (af 0) ak) ak)) ai)));exact ai;exact ai;refine @al _ _ _ _ _ ?_ ?_;refine @aR _ _ _ _ 7 _ _ nd ?_ rfl (by first|exact Or.inl rfl|exact Or.inr rfl) rfl (by first|exact .inl rfl|exact .inr rfl);refine @aq _ _ _ _ _ _ _ _ bg ?_ ?_;exact(af 7);refine @bI _ _ _ _ ?_;refine jx ?_ ?_;refine @bO _ _ _ _ _ ?_;refine jw ?_ ?_;exact aA;refine aH 2 ?_;refine aH 5 ?_;refine y3 ?_ ?_;exact(bJ 3);refine aH 6 ?_;exact ai;refine jx ?_ ?_;refine @bO _ _ _ _ _ ?_;refine jw ?_ ?_;exact aA;refine aH 2 ?_;refine aH 5 ?_;exact ai;refine jx ?_ ?_;refine @bO _ _ _ _ _ ?_;refine jw ?_ ?_;exact aA;refine aH 2 ?_;refine aH 5 ?_;exact ai;refine jx ?_ ?_;refine @bO _ _ _ _ _ ?_;refine jw ?_ ?_;exact aA;refine aH 2 ?_;refine aH 6 ?_;exact ai;exact ai;refine @al _ _ _ _ _ ?_ ?_;refine @aR _ _ _ _ 7 _ _ nd ?_ rfl (by first|exact Or.inl rfl|exact Or.inr rfl) rfl (by first|exact .inl rfl|exact .inr rfl);refine @aq _ _ _ _ _ _ _ _ bg ?_ ?_;exact(af 7);refine @bI _ _ _ _ ?_;refine jx ?_ ?_;refine @bO _ _ _ _ _ ?_;refine jw ?_ ?_;exact aA;refine aH 2 ?_;refine aH 5 ?_;refine aH 6 ?_;refine oG ?_ ?_;exact(aq bg ak (aq bq (aq bj (af 0) ak) ak));refine aH 4 ?_;refine oG ?_ ?_;exact(aq bq (aq bj (af 0) ak) ak);exact ai;exact ai;refine @al _ _ _ _ _ ?_ ?_;refine @aR _ _ _ _ 7 _ _ nd ?_ rfl (by first|exact Or.inl rfl|exact Or.inr rfl) rfl (by first|exact .inl rfl|exact .inr rfl);refine @aq _ _ _ _ _ _ _ _ bg ?_ ?_;exact(af 7);refine @bI _ _ _ _ ?_;refine jx ?_ ?_;refine @bO _ _ _ _ _ ?_;refine jw ?_ ?_;exact aA;refine aH 2 ?_;refine aH 5 ?_;refine oG ?_ ?_;exact(aq bg ak (aq bq (aq bj (af 0) ak) ak));refine aH 4 ?_;refine y3 ?_ ?_;refine cH (hs:=?_) ?_ ?_;refine @bI _ _ _ _ ?_;refine jw ?_ ?_;exact fO;refine aH 6 ?_;exact ai;exact(aq bq (af 0) ak);intro _ _;rfl;refine jx ?_ ?_;refine @bO _ _ _ _ _ ?_;refine aH 5 ?_;refine aH 6 ?_;exact ai;exact ai;exact ai;refine @al _ _ _ _ _ ?_ ?_;refine @aR _ _ _ _ 7 _ _ nd ?_ rfl (by first|exact Or.inl rfl|exact Or.inr rfl) rfl (by first|exact .inl rfl|exact .inr rfl);refine @aq _ _ _ _ _ _ _ _ bg ?_ ?_;exact(af 7);refine @bI _ _ _ _ ?_;refine jx ?_ ?_;refine @bO _ _ _ _ _ ?_;refine jw ?_ ?_;exact aA;refine aH 2 ?_;refine aH 5 ?_;refine oG ?_ ?_;exact(aq bg ak (aq bq (aq bj (af 0) ak) ak));refine aH 4 ?_;refine jw ?_ ?_;exact fO;refine oG ?_ ?_;exact(aq bq (aq bj (af 0) ak) ak);refine jx ?_ ?_;refine @bO _ _ _ _ _ ?_;refine jx ?_ ?_;refine @bO _ _ _ _ _ ?_;refine @eI _ _ _ _ _ _ ?_;refine aH 6 ?_;exact ai;exact ai;exact ai;exact ai;refine bE ?_;refine cH (hs:=?_) ?_ ?_;refine @aq _ _ _ _ _ _ _ _ bg ?_ ?_;exact(af 7);refine @bI _ _ _ _ ?_;refine jx ?_ ?_;refine @bO _ _ _ _ _ ?_;refine jw ?_ ?_;exact aA;refine aH 2 ?_;refine aH 6 ?_;refine oG ?_ ?_;exact(aq bq (aq bj (af 0) ak) ak);exact ai;refine jx ?_ ?_;refine @bO _ _ _ _ _ ?_;refine jw ?_ ?_;exact aA;refine aH 2 ?_;refine aH 5 ?_;refine oG ?_ ?_;exact(aq bq (aq bj (af 0) ak) ak);exact ai;exact ai;exact(af 1);intro _ _;rfl
theorem KP:Fn P w K mg base 2 "_law_rows" jr:=T.d29.fq T.hX qi ["_law_script","_law_names_here","_law_rows_here","_law_k","_law_cell_here","_law_day","_law_deed_here"] 1 λnd hr hu=>by
  refine @al _ _ _ _ _ ?_ ?_;exact(aR nd (bT (KN T) hr (aj (bT (Gd T) hr (aH 0 (eI ai))) ai)));refine @al _ _ _ _ _ ?_ ?_;refine @aR _ _ _ _ 2 _ _ nd ?_ rfl (by first|exact Or.inl rfl|exact Or.inr rfl) rfl (by first|exact .inl rfl|exact .inr rfl);refine @bI _ _ _ _ ?_;exact ai;refine @al _ _ _ _ _ ?_ ?_;exact(xN (iT T.n7 (cH (bI (aj (ar wS T.n6 wN (eI (aj (aq bg (ar dw T.n4 cY (aH 0 ai)) ak) ai))) (eI ai))) (aq bq (aq bj (bT (Gd T) hr (aH 0 (eI ai))) ak) ak))) (yN 3 nd) fm (al (aR nd (aq bq (bT (Gd T) hr (aH 0 (aj (aq bg ak (af 3)) ai))) (aq Et ak ak))) (al (aR nd (aq bq (aq bj (af 4) ak) (cH (bI (eI (eI (eI ai)))) (aq bq (bT (Gd T) hr (aH 0 (eI ai))) ak)))) (al (aR nd (bO (aj aA (aj (cH (af 1) (aq bg ak (aq bq (af 3) ak))) (aj (aq bg ak (aq bq (aq bj (af 4) ak) ak)) (aj (aq bq (aq bj (af 4) ak) ak) (aj (cH (bI (aj aA (aj aA (aj aA ai)))) (aq bq (aq bj (af 4) ak) ak)) ai))))))) (al (gY (gl (cN (aI Cp (af 3) ak) (c9 (aI p6 (aq bq (af 4) ak) ak)))) (bu (aR nd (bT (KO T) hr (aj (aq bj (af 4) ak) (aj (aq bq (af 4) ak) (aH 5 (aH 1 ai))))))) fQ) (bu (ip (i:=2) (bO (aj (ar wS T.n6 wN (eI (aj (aq bg (af 5) (cH (bI (eI (eI (eI (aj (aq bq (aq bj (af 4) ak) ak) ai))))) (aq bq (aq bj (af 4) ak) ak))) ai))) (aH 6 ai))))))))));exact(bu (kz 2))
theorem KQ:Fn P w K mg base 1 "_law_days" jt:=T.d30.fq T.hX js ["_law_rows_here","_law_found","_law_noted","_law_deed_here","_law_part"] 1 λnd hr hu=>
  (al (aR nd (bI (eI ai)))
   (al (pT (cI (af 0)) (nP rfl (cU (yN 2 nd) (cU (yN 3 nd) kx))) AT (al (ip (i:=1) (af 2))
   (al (gY (aI (uw hu) (bJ 3) aA) (bu (ip (i:=1) (bJ 3))) fQ)
   (al (gY (aI (dR hu) (bJ 3) aA) (bu (ip (i:=1) (bJ 3))) fQ)
   (bu (E3 [3] (pT (cI (af 3)) (yN 4 nd) fm (bu (gY (gl (oh (bN (ar aD T.n3 aB (aH 4 (aj (cO T.n11 dE) ai)))) (oh (aI sW (bJ 3) (bO (aj aA (aj aA (aj aA ai))))) (og (aI (dR hu) (ar dw T.n4 cY (aH 4 ai)) ak))))) (bu (aR nd (aq bg (af 1) (jc ["_law_day"] (cI (af 4)) (kO (bN (ar aD T.n3 aB (aH 0 (aj (cO T.n2 wO) ai))))) (af 0))))) fQ)))))))))
   (bE (jS rfl T.n9 T.n8 (af 1)))))
theorem Hn:Fn P w K mg base 1 "_law_told" di:=T.d31.fq T.hX qj ["_law_found","_law_due"] 2 λnd hr hu=>
  (al (bU (gl (cN (bZ (bN (ar aD T.n3 aB (aH 0 (aj (cO T.n5 kS) ai))))) (c9 (aI (uw hu) (af 0) (af 1))))) ft)
   (bE (eQ (dR hu) (ar dw T.n4 cY (aj (jc ["_law_day"] (cI (af 0)) (kO (gl (cN (bZ (bN (ar aD T.n3 aB (aH 0 (aj (cO T.n2 wO) ai))))) (c9 (bN (ar aD T.n3 aB (aH 0 (aj (cO T.n1 wP) ai)))))))) (af 0)) ai)) ak)))
theorem head {fa:Addr}(HP:mg "law" = some (.ref fa)):∃fd:FuncData,(∀(s:Shared)(u:Value),BindsTo s fd ⟨[u],[]⟩ [("_law_script",u)])/\∀base:Heap,K.In base->base.Ns mainGlobals mg->jJ P w K mg base qW 10 fa fd ["_law_script"] (AO K F_law):=by
 have S:FnScope ["_law_script","_law_rows_here","_law_book","_law_due","_law_found"] ["_law_script"] (ax (gT 50)):=by refine⟨rfl,rfl,rfl,?_,rfl,?_,?_⟩<;>decide +kernel
 have ⟨h,X,G⟩:=T.hX;exact eG.law T.d32 X G HP S (λ_ _ _ _ _ _ u=>rfl) λbase kb nb f cw A outer s H E hr=>have hu:=Ew hr;have nd:=S.nd;(show oK _ _ tN from
  (al (aR nd (bi (KP T) hr))
   (al (aR nd (bT (Ja T) hr (aj (j8 xj T.n5 kS (aH 1 ai)) ai)))
   (al (aR nd (bi (KQ T) hr))
   (al (aR nd (bi (Hm T) hr))
   (al (bU (bZ (bN (bi (Hn T) hr))) ft)
   (al (ip (i:=4) ak)
   (al (rq (i:=4))
   (bE (fP (bT (Hn T) hr (aj (bi (Hm T) hr) (aH 3 ai))) (eT (bT (Hn T) hr (aj (bT (Hm T) hr (aj (bT (Ja T) hr (aj (bI ai) ai)) ai)) (aj (bI (eI ai)) ai))))))))))))))
end
end Lw
end
namespace PySem.W.Fast
def tw10546383536429240045:=()
def tw9591319008270411245:=()
def tw13446937804237939304:=()
def tw521676332005094944:=()
def tw13885658282652658512:=()
def tw3643446060731256662:=()
def tw12765425676101504088:=()
def tw7728576808476814412:=()
def tw14738059000859575973:=()
def tw8022165897425848299:=()
def tw1255979543026405470:=()
def tw8844349361983435218:=()
def tw963754861339733798:=()
def tw17358302377146229301:=()
def tw16861178978850300162:=()
def tw15979758302247886489:=()
def tw11988659269999530306:=()
def tw3194999027495133757:=()
def tw15452903900459563645:=()
def tw5161960147590128999:=()
def tw16234144566660608038:=()
def tw5671793988583392297:=()
def tw16926093876405125723:=()
def tw5027014685188164157:=()
def tw16431309094463917905:=()
def tw7181979827013949761:=()
def tw3577591842665263834:=()
def tw1090647124472190175:=()
def tw14078503508280136385:=()
def tw5332535480052383679:=()
def tw2395138870075260799:=()
def tw7334893604863165353:=()
def tw16785041953961806473:=()
def tw11180549102914773529:=()
def tw11107661407104434612:=()
def tw750128130592185002:=()
def tw12855249323290643870:=()
def tw8193270201472500103:=()
def tw14890211110649505990:=()
def tw11520608863235464024:=()
def tw10521824007623335421:=()
def tw15872493884799941019:=()
def tw13747532236649760349:=()
def tw14003523402257619859:=()
def tw10479364817287744707:=()
def tw11668957562435395084:=()
def tw7382145137203250368:=()
def tw12203178665477999730:=()
def tw3127004445686008454:=()
def tw842044193949154343:=()
def tw8104508065790360760:=()
def tw12713430767079436854:=()
def tw333494289895603638:=()
def tw11344823504944089629:=()
def tw10688393643253722339:=()
def tw5302933475594841179:=()
def tw15680333521538435405:=()
def tw13507592228066372698:=()
def tw7958347635877385068:=()
def tw17868288295874040570:=()
def tw5254527658678771485:=()
def tw3469871853206311635:=()
def tw8879897901110254347:=()
def tw1946787032785580671:=()
def tw16933475942144581233:=()
def tw16055525442733973617:=()
def tw199426428130658857:=()
def tw17908487547353011146:=()
def tw10623823371798670424:=()
def tw8693228060700173537:=()
def tw3947264838468046032:=()
def tw14820299261038296089:=()
def tw7394450661966961763:=()
def tw11494479451143308334:=()
def tw18290060831019713742:=()
def tw758120303599946576:=()
def tw11492549312001602613:=()
end PySem.W.Fast
open PySem PySem.W PyProof.Rows
set_option maxRecDepth 100000 in
set_option maxHeartbeats 0 in
theorem PySem.Challenge.cw_sealchain_k44_moments_holds : PySem.Challenge.rw_sealchain_k44_moments.Holds := by
 w_on; o_law; k_head; (case hw => w_witness2)
 k_fill
 refine' DL.walkB (l := PySem.Challenge.rw_sealchain_k44_moments) (k := 10) (x := ("_law_script" : PySem.Str)) (f := Lw.F_law) (L := [(("in_order" : PySem.Str), ?t0), (("has_seal" : PySem.Str), ?t1), (("is_first_death" : PySem.Str), ?t2), (("bases_by" : PySem.Str), ?t3), (("as_heard" : PySem.Str), ?t4)]) rfl rfl ⟨rfl, by decide, by decide⟩ (fun w h Y => PySem.W.kIn_of Y) ?T ?D ?F Lw.law_true
 case T =>
  intro w
  refine' DL.tabs_fit ?h0 ?h1 ?h2 ?h3 ?h4 ?ap ?nt
  (case h0 => refine' DL.tab_no ?a; (case a => k_is))
  (case h1 => refine' DL.tab_no ?a; (case a => k_is))
  (case h2 => refine' DL.tab_no ?a; (case a => k_is))
  (case h3 => refine' DL.tab_no ?a; (case a => k_is))
  (case h4 => refine' DL.tab_no ?a; (case a => k_is))
  (case ap => decide)
  (case nt => kernel_rfl)
 case D => kernel_rfl
 case F =>
  intro w mg fa h KX G hmg
  refine' Lw.head ⟨⟨h, KX, G⟩, ?d0, ?d1, ?d2, ?d3, ?d4, ?d5, ?d6, ?d7, ?d8, ?d9, ?d10, ?d11, ?d12, ?d13, ?d14, ?d15, ?d16, ?d17, ?d18, ?d19, ?d20, ?d21, ?d22, ?d23, ?d24, ?d25, ?d26, ?d27, ?d28, ?d29, ?d30, ?d31, ?d32, PySem.W.mg_none_of KX G ?z0, PySem.W.mg_none_of KX G ?z1, PySem.W.mg_none_of KX G ?z2, PySem.W.mg_none_of KX G ?z3, PySem.W.mg_none_of KX G ?z4, PySem.W.mg_none_of KX G ?z5, PySem.W.mg_none_of KX G ?z6, PySem.W.mg_none_of KX G ?z7, PySem.W.mg_none_of KX G ?z8, PySem.W.mg_none_of KX G ?z9, PySem.W.mg_none_of KX G ?z10, PySem.W.mg_none_of KX G ?z11, PySem.W.mg_none_of KX G ?z12, DL.kc_of KX G ?k0, DL.kc_of KX G ?k1, DL.kc_of KX G ?k2, DL.kc_of KX G ?k3, DL.kc_of KX G ?k4, DL.kc_of KX G ?k5, DL.kc_of KX G ?k6, DL.kd_of KX G ?k7, DL.kc_of KX G ?k8, DL.kc_of KX G ?k9⟩ hmg
  iterate 33 (refine' DL.def_mk ?a ?l ?c ?k; (case a => k_is); (case l => k_is); (case c => k_is); (case k => k_is))
  (case z0 => k_is)
  (case z1 => k_is)
  (case z2 => k_is)
  (case z3 => k_is)
  (case z4 => k_is)
  (case z5 => k_is)
  (case z6 => k_is)
  (case z7 => k_is)
  (case z8 => k_is)
  (case z9 => k_is)
  (case z10 => k_is)
  (case z11 => k_is)
  (case z12 => k_is)
  (case k0 => refine' DL.const_int ?e; (case e => k_is))
  (case k1 => refine' DL.const_int ?e; (case e => k_is))
  (case k2 => refine' DL.const_int ?e; (case e => k_is))
  (case k3 => refine' DL.const_int ?e; (case e => k_is))
  (case k4 => refine' DL.const_int ?e; (case e => k_is))
  (case k5 => refine' DL.const_int ?e; (case e => k_is))
  (case k6 => refine' DL.const_int ?e; (case e => k_is))
  (case k7 => refine' DL.const_dict ?e ?l ?r ?s; (case e => k_is); (case l => k_is); (case r => refine' (DL.CRows.tup rfl ?l0 ?f0 (DL.CRows.tup rfl ?l1 ?f1 (DL.CRows.tup rfl ?l2 ?f2 (DL.CRows.tup rfl ?l3 ?f3 (DL.CRows.tup rfl ?l4 ?f4 (DL.CRows.tup rfl ?l5 ?f5 (DL.CRows.tup rfl ?l6 ?f6 (DL.CRows.tup rfl ?l7 ?f7 (DL.CRows.tup rfl ?l8 ?f8 (DL.CRows.tup rfl ?l9 ?f9 (DL.CRows.tup rfl ?l10 ?f10 (DL.CRows.tup rfl ?l11 ?f11 DL.CRows.nil)))))))))))); (case l0 => k_is); (case f0 => decide +kernel); (case l1 => k_is); (case f1 => decide +kernel); (case l2 => k_is); (case f2 => decide +kernel); (case l3 => k_is); (case f3 => decide +kernel); (case l4 => k_is); (case f4 => decide +kernel); (case l5 => k_is); (case f5 => decide +kernel); (case l6 => k_is); (case f6 => decide +kernel); (case l7 => k_is); (case f7 => decide +kernel); (case l8 => k_is); (case f8 => decide +kernel); (case l9 => k_is); (case f9 => decide +kernel); (case l10 => k_is); (case f10 => decide +kernel); (case l11 => k_is); (case f11 => decide +kernel)); (case s => decide +kernel))
  (case k8 => refine' DL.const_tup ?e ?l ?v; (case e => k_is); (case l => k_is); (case v => decide +kernel))
  (case k9 => refine' DL.const_tup ?e ?l ?v; (case e => k_is); (case l => k_is); (case v => decide +kernel))

