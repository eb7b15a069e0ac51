import PyProof.Rows.All
import Wide.All
import OpenK.AllK
import Wide.FinOn
import Lean
import PyProof.EqAt
import PyProof.EqKinds
import PyProof.TupleCall
import PyProof.AttrMissHeap
import PySem.Challenge.RW_sealchain_k23_whole_later_deeds_change_n
set_option Elab.async false
set_option linter.all false
set_option maxRecDepth 100000
set_option maxHeartbeats 40000000
theorem mY {α : Type _} {a : α} (l : List α) {k : List α} (h : a ∈ k) : a ∈ l ++ k:=List.mem_append_right l h
theorem mZ {α : Type _} (b : α) {a : α} {l : List α} (h : a ∈ l) : a ∈ b :: l:=List.mem_cons_of_mem b h
theorem mX {α : Type _} {a : α} {l : List α} : a ∈ a :: l:=List.mem_cons_self
theorem oX {α β : Type _} {o : Option α} {f : α->Option β} {b : β} (h : o.bind f = some b) : ∃ a,o = some a/\f a = some b:=Option.bind_eq_some_iff.mp h
theorem oY {α β : Type _} {f : α->β} {o : Option α} {b : β} (h : o.map f = some b) : ∃ a,o = some a/\f a = b:=Option.map_eq_some_iff.mp h
def wX:=@PySem.wpAny_bind
def wY:=@PySem.wpAny_pure
namespace L2
open PySem PySem.Spec PyProof.Rows
abbrev Key:=Sum Int Str
def o4 : Key->Value->Bool
 | .inl k,v=>Value.isInt k v
 | .inr x,v=>Value.isStrOf x v
def E9 (w : World) : Key->Int
 | .inl k=>hashInt k
 | .inr x=>hashStr w x
theorem bJ : ∀ {k : Key} {v : Value},o4 k v = true->(∃ i t,k = Sum.inl i/\v = Value.int i t) ∨ (∃ x t,k = Sum.inr x/\v = Value.str x t)
 | .inl i,v,h=>by
  obtain ⟨t,e⟩:=Value.isInt_shape (k:=i) (v:=v) h
  exact .inl ⟨i,t,rfl,e⟩
 | .inr x,v,h=>by
  obtain ⟨t,e⟩:=Value.isStrOf_shape (x:=x) (v:=v) h
  exact .inr ⟨x,t,rfl,e⟩
theorem wB (i : Int) (t : Tok) : o4 (.inl i) (.int i t) = true:=by simp [o4,Value.isInt]
theorem wC (x : Str) (t : Tok) : o4 (.inr x) (.str x t) = true:=by simp [o4,Value.isStrOf]
theorem BI (a b : Int) : decide ((Sum.inl a : Key) = Sum.inl b) = (a == b):=by
 by_cases e : a = b
 ·subst e; simp
 ·have h : ¬ (Sum.inl a : Key) = Sum.inl b:=fun q=>e (Sum.inl.inj q)
  rw [decide_eq_false h]
  exact (beq_eq_false_iff_ne.mpr e).symm
theorem BJ (a b : Str) : decide ((Sum.inr a : Key) = Sum.inr b) = decide (a = b):=by
 by_cases e : a = b
 ·subst e; simp
 ·have h : ¬ (Sum.inr a : Key) = Sum.inr b:=fun q=>e (Sum.inr.inj q)
  rw [decide_eq_false h,decide_eq_false e]
theorem BK (a : Int) (b : Str) : decide ((Sum.inl a : Key) = Sum.inr b) = false:=decide_eq_false (fun q=>nomatch q)
theorem BL (a : Str) (b : Int) : decide ((Sum.inr a : Key) = Sum.inl b) = false:=decide_eq_false (fun q=>nomatch q)
def cf (prog : Program) (w : World) : PySem.KeyKind prog w Key where
 is:=o4
 hash:=E9 w
 inj:=fun v a b ha hb=>by
  rcases bJ ha with ⟨i,t,rfl,rfl⟩ | ⟨x,t,rfl,rfl⟩
  ·rcases bJ hb with ⟨j,u,rfl,e⟩ | ⟨y,u,rfl,e⟩
   ·injection e with e1 _; rw [e1]
   ·exact nomatch e
  ·rcases bJ hb with ⟨j,u,rfl,e⟩ | ⟨y,u,rfl,e⟩
   ·exact nomatch e
   ·injection e with e1 _; rw [e1]
 byValue:=fun k v h=>by
  rcases bJ h with ⟨i,t,rfl,rfl⟩ | ⟨x,t,rfl,rfl⟩ <;> rfl
 pyHash:=fun hv h=>by
  rcases bJ hv with ⟨i,t,rfl,rfl⟩ | ⟨x,t,rfl,rfl⟩
  ·exact wpAny_pyHash_int h
  ·exact wpAny_pyHash_str h
 eqBool:=fun hu hv h=>by
  rcases bJ hu with ⟨i,t,rfl,rfl⟩ | ⟨x,t,rfl,rfl⟩
  ·rcases bJ hv with ⟨j,u,rfl,rfl⟩ | ⟨y,u,rfl,rfl⟩
   ·rw [BI] at h; exact wpAny_eqBool_int h
   ·rw [BK] at h; exact SeqAt.EqAt.int_str i t y u _ _ _ _ h
  ·rcases bJ hv with ⟨j,u,rfl,rfl⟩ | ⟨y,u,rfl,rfl⟩
   ·rw [BL] at h; exact SeqAt.EqAt.str_int x t j u _ _ _ _ h
   ·rw [BJ] at h; exact wpAny_eqBool_str h
 «strs»:=fun k x t v h=>by
  rcases bJ h with ⟨i,u,rfl,e⟩ | ⟨y,u,rfl,e⟩
  ·exact nomatch e
  ·injection e with e1 _
   subst e1
   cases v <;> rfl
theorem rA (prog : Program) (w : World) (i : Int) (t : Tok) : (cf prog w).is (.inl i) (.int i t) = true:=wB i t
theorem rB (prog : Program) (w : World) (x : Str) (t : Tok) : (cf prog w).is (.inr x) (.str x t) = true:=wC x t
inductive V where
 | non | bl (b : Bool) | int (i : Int) | str (x : Str) | byt (b : Array UInt8) | flt (b : UInt64) | ref (a : Addr) | ty (n : String)
 deriving DecidableEq
def aN : V->Value->Prop
 | .non,u=>u = Value.none
 | .bl b,u=>u = Value.bool b
 | .int i,u=>∃ t,u = Value.int i t
 | .str x,u=>∃ t,u = Value.str x t
 | .byt b,u=>∃ t,u = Value.bytes b t
 | .flt b,u=>∃ t,u = Value.float b t
 | .ref a,u=>u = Value.ref a
 | .ty n,u=>u = Value.type n
abbrev aQ : List V->List Value->Prop:=Paired aN
theorem aQ.length {xs : List V} {us : List Value} (r : aQ xs us) : xs.length = us.length:=Paired.length r
theorem aQ.get : ∀ {xs : List V} {us : List Value} {i : Nat} {x : V},aQ xs us->xs[i]? = some x->∃ u,us[i]? = some u/\aN x u
 | _,_,_,_,.nil,e=>by simp at e
 | _,_,0,_,.cons r _,e=>by simp at e; subst e; exact ⟨_,rfl,r⟩
 | _,_,i + 1,x,.cons _ t,e=>by
  obtain ⟨u,h1,h2⟩:=aQ.get (i:=i) (x:=x) t (by simpa using e)
  exact ⟨u,by simpa using h1,h2⟩
theorem aQ.set {x : V} {u : Value} (r : aN x u) : ∀ {xs : List V} {us : List Value} (i : Nat),aQ xs us->aQ (xs.set i x) (us.set i u)
 | _,_,_,.nil=>.nil
 | _,_,0,.cons _ t=>.cons r t
 | _,_,i + 1,.cons q t=>.cons q (aQ.set r i t)
theorem aQ.append : ∀ {xs ys : List V} {us ws : List Value},aQ xs us->aQ ys ws->aQ (xs ++ ys) (us ++ ws)
 | _,_,_,_,.nil,s=>s
 | _,_,_,_,.cons r t,s=>.cons r (aQ.append t s)
theorem aQ.take : ∀ {xs : List V} {us : List Value} (n : Nat),aQ xs us->aQ (xs.take n) (us.take n)
 | _,_,0,_=>.nil
 | _,_,_ + 1,.nil=>.nil
 | _,_,n + 1,.cons r t=>.cons r (aQ.take n t)
theorem aQ.drop : ∀ {xs : List V} {us : List Value} (n : Nat),aQ xs us->aQ (xs.drop n) (us.drop n)
 | _,_,0,r=>r
 | _,_,_ + 1,.nil=>.nil
 | _,_,n + 1,.cons _ t=>aQ.drop n t
theorem aQ.none_of : ∀ {xs : List V} {us : List Value} {i : Nat},aQ xs us->xs[i]? = none->us[i]? = none:=fun {xs us i} r e=>by
 have h1:=r.length
 have h2 : xs.length<=i:=List.getElem?_eq_none_iff.mp e
 exact List.getElem?_eq_none_iff.mpr (by omega)
def ly : Option V->Option Value->Prop
 | some v,some u=>aN v u
 | none,none=>True
 | _,_=>False
def KV {κ : Type} : List (κ × V)->List (κ × Value)->Prop:=Paired fun (p : κ × V) (q : κ × Value)=>p.1 = q.1/\aN p.2 q.2
def kV : Key->V
 | .inl i=>.int i
 | .inr x=>.str x
inductive HO where
  | lst (xs : List V)
  | tup (xs : List V)
  | dK (kvs : List (Key × V)) | dT (kvs : List (List Key × V))
  | set (S : Int->Bool) (n : Nat)
  | ins (C dx : Addr) (fs : List (Str × V))
  | own (x : Addr)
  | xd (fs : List (Str × V))
  | met (f x : Addr)
  | rng (lo hi : Int)
  | frz (o : Obj) (u : HO)
  | tbl (q : Str)
  | ext (φ : Heap->Prop)
abbrev Hp:=Addr->Option HO
def upd (H : Hp) (a : Addr) (o : HO) : Hp:=fun b=>if b = a then some o else H b
theorem a8 {H : Hp} {a : Addr} {o : HO} : upd H a o a = some o:=by unfold upd; rw [if_pos rfl]
theorem a9 {H : Hp} {a b : Addr} {o : HO} (h : b ≠ a) : upd H a o b = H b:=by unfold upd; rw [if_neg h]
theorem zI {H : Hp} {a : Addr} {o u : HO} : upd (upd H a o) a u = upd H a u:=by
 funext b; unfold upd; split <;> rfl
theorem Dr {H : Hp} {a b : Addr} {o u : HO} (h : H a = some o) (h' : H b = some u) (d : o ≠ u) : a ≠ b:=by
 intro e; subst e; rw [h] at h'; exact d (Option.some.inj h')
theorem aL {H : Hp} {a b : Addr} {o : HO} (h : H a = some o) (h' : H b = none) : a ≠ b:=by
 intro e; subst e; rw [h] at h'; cases h'
section
variable (P : Program) (w : World)
def bD (H : Hp) (h : Heap) (a : Addr) : HO->Prop
 | .lst xs=>xs.length<=sizeLine/\∃ (its : List Value) (n : Nat),aQ xs its/\h.get? a = some { cls:=.type "list",data:=.seq its.toArray n }
 | .tup xs=>xs.length<=sizeLine/\∃ its : List Value,aQ xs its/\IsTup h a its.toArray
 | .dK kvs=>kvs.length<=sizeLine/\(a == sysModules) = false/\∃ vs,KV kvs vs/\h.DictOf (cf P w) a vs
 | .dT kvs=>kvs.length<=sizeLine/\(a == sysModules) = false/\∃ xs : List (List Key × Addr × Value),
   Paired (fun (p : List Key × V) (q : List Key × Addr × Value)=>p.1 = q.1/\H q.2.1 = some (.tup (p.1.map kV))/\aN p.2 q.2.2) kvs xs /\
   ∃ o es ep,h.get? a = some o/\o.ExactDict/\o.data = .dict es ep/\es.toList = xs.map (entryOfKey (tupleKind (cf P w)))/\(xs.map (·.1)).Nodup
 | .set S n=>h.SetOf (intKind P w) a S n
 | .ins C dx fs=>H dx = some (.own a)/\fs.length<=1000/\dx ≠ a/\h.get? a = some (PySem.W.instObj C dx) /\
   ∃ mA,h.Ns1 dx mA/\(∀ f,ly (fs.lookup f) (mA f))/\PySem.Within mA (fs.map (·.1))
 | .own _=>∃ o,h.get? a = some o
 | .xd fs=>∃ mA,h.Ns1 a mA/\∀ f,ly (fs.lookup f) (mA f)
 | .rng lo hi=>∃ t u v,h.get? a = some { cls:=.type "range",data:=.fields #[.int lo t,.int hi u,.int 1 v] }
 | .frz o u=>h.get? a = some o/\bD H h a u
 | .tbl q=>∃ ps : Array Value,h.get? a = some { cls:=.none,data:=.fields ps }/\TriplesOk ps.toList/\∀ pos cv,codeAmong pos ps.toList = some cv->∃ (c : Addr) (oc : Obj) (u : HO) (vs : Array Value) (t : Tok),cv = .ref c/\H c = some (.frz oc u)/\oc.data = .fields vs/\vs[1]? = some (.str q t)
 | .met f x=>h.get? a = some (PySem.W.methodObj (.ref f) (.ref x))
 | .ext φ=>φ h/\(∃ o,h.get? a = some o)/\∀ h1 h2 : Heap,φ h1->(∀ o,h1.get? a = some o->h2.get? a = some o)->φ h2
def HOk (H : Hp) (h : Heap) : Prop:=∀ a o,H a = some o->bD P w H h a o
end
section
variable {P : Program} {w : World} {H H' : Hp} {h h' : Heap} {a : Addr} {o : HO}
theorem bD.lt (x : bD P w H h a o) : a < h.objs.size:=by
 cases o with
 | lst xs=>obtain ⟨_,_,_,_,e⟩:=x; exact Heap.lt_size e
 | tup xs=>obtain ⟨_,_,_,p⟩:=x; exact p.lt
 | dK kvs=>obtain ⟨_,_,_,_,o,_,_,e,_⟩:=x; exact Heap.lt_size e
 | dT kvs=>obtain ⟨_,_,_,_,o,_,_,e,_⟩:=x; exact Heap.lt_size e
 | set S n=>obtain ⟨o,_,_,_,e,_⟩:=x; exact Heap.lt_size e
 | ins C dx fs=>obtain ⟨_,_,_,e,_⟩:=x; exact Heap.lt_size e
 | own y=>obtain ⟨_,e⟩:=x; exact Heap.lt_size e
 | xd fs=>obtain ⟨_,⟨_,_,_,e,_⟩,_⟩:=x; exact Heap.lt_size e
 | rng lo hi=>obtain ⟨_,_,_,e⟩:=x; exact Heap.lt_size e
 | frz ob u=>obtain ⟨e,_⟩:=x; exact Heap.lt_size e
 | tbl q=>obtain ⟨_,e,_⟩:=x; exact Heap.lt_size e
 | met f y=>exact Heap.lt_size (show h.get? a = some _ from x)
 | ext φ=>obtain ⟨_,⟨_,e⟩,_⟩:=x; exact Heap.lt_size e
theorem Paired.mapP {α β : Type} {F G : α->β->Prop} : ∀ {l₁ : List α} {l₂ : List β},Paired F l₁ l₂->(∀ a b,F a b->G a b)->Paired G l₁ l₂
 | _,_,.nil,_=>.nil
 | _,_,.cons r t,f=>.cons (f _ _ r) (Paired.mapP t f)
theorem bD.stay (x : bD P w H h a o) (k : ∀ b u,(b = a ∨ H b = some (.own a))->h.get? b = some u->h'.get? b = some u)
  (ho : ∀ b,H b = some (.own a)->H' b = some (.own a)) (ht : ∀ b xs,H b = some (.tup xs)->H' b = some (.tup xs)) (hf : ∀ b o u,H b = some (.frz o u)->H' b = some (.frz o u)) : bD P w H' h' a o:=by
 induction o with
 | lst xs=>obtain ⟨z,its,n,r,e⟩:=x; exact ⟨z,its,n,r,k _ _ (.inl rfl) e⟩
 | tup xs=>obtain ⟨z,its,r,ob,e,c⟩:=x; exact ⟨z,its,r,ob,k _ _ (.inl rfl) e,c⟩
 | dK kvs=>obtain ⟨z,y,vs,r,ob,es,ep,e,c⟩:=x; exact ⟨z,y,vs,r,ob,es,ep,k _ _ (.inl rfl) e,c⟩
 | dT kvs =>
  obtain ⟨z,y,xs,r,ob,es,ep,e,c⟩:=x
  exact ⟨z,y,xs,Paired.mapP r fun p q z=>⟨z.1,ht _ _ z.2.1,z.2.2⟩,ob,es,ep,k _ _ (.inl rfl) e,c⟩
 | set S n=>obtain ⟨ob,es,ep,t,e,c⟩:=x; exact ⟨ob,es,ep,t,k _ _ (.inl rfl) e,c⟩
 | ins C dx fs =>
  obtain ⟨d,z,ne,e,mA,⟨od,es,ep,e2,c⟩,r⟩:=x
  exact ⟨ho _ d,z,ne,k _ _ (.inl rfl) e,mA,⟨od,es,ep,k _ _ (.inr d) e2,c⟩,r⟩
 | own y=>obtain ⟨ob,e⟩:=x; exact ⟨ob,k _ _ (.inl rfl) e⟩
 | xd fs=>obtain ⟨mA,⟨od,es,ep,e,c⟩,r⟩:=x; exact ⟨mA,⟨od,es,ep,k _ _ (.inl rfl) e,c⟩,r⟩
 | rng lo hi=>obtain ⟨t,u,v,e⟩:=x; exact ⟨t,u,v,k _ _ (.inl rfl) e⟩
 | frz ob u ih=>obtain ⟨e,q⟩:=x; exact ⟨k _ _ (.inl rfl) e,ih q⟩
 | tbl q=>obtain ⟨ps,e,t,c⟩:=x; exact ⟨ps,k a _ (.inl rfl) e,t,fun pos cv z=>let ⟨d,oc,u,vs,tk,z1,z2,z3⟩:=c pos cv z; ⟨d,oc,u,vs,tk,z1,hf _ _ _ z2,z3⟩⟩
 | met f y =>
  have e : h.get? a = some (PySem.W.methodObj (.ref f) (.ref y)):=x
  show h'.get? a = some (PySem.W.methodObj (.ref f) (.ref y))
  exact k a _ (.inl rfl) e
 | ext φ=>obtain ⟨p,⟨o,e⟩,st⟩:=x; exact ⟨st _ _ p fun o q=>k _ _ (.inl rfl) q,⟨o,k _ _ (.inl rfl) e⟩,st⟩
theorem HOk.lt (x : HOk P w H h) (e : H a = some o) : a < h.objs.size:=(x a o e).lt
theorem HOk.fresh (x : HOk P w H h) (e : h.objs.size<=a) : H a = none:=by
 cases q : H a with
 | none=>rfl
 | some u=>exact absurd (Nat.lt_of_lt_of_le (x.lt q) e) (Nat.lt_irrefl _)
theorem HOk.kept (x : HOk P w H h) (k : ∀ b u,h.get? b = some u->h'.get? b = some u) : HOk P w H h':=fun a o e =>
 (x a o e).stay (fun b u _ q=>k b u q) (fun _ q=>q) (fun _ _ q=>q) fun _ _ _ q=>q
theorem HOk.laid (x : HOk P w H h) (k : ∀ b u,h.get? b = some u->h'.get? b = some u) (hp : h.objs.size<=a) (new : bD P w (upd H a o) h' a o) : HOk P w (upd H a o) h':=fun b u e=>by
 have hn:=x.fresh hp
 by_cases hb : b = a
 ·subst hb; rw [a8] at e; cases e; exact new
 ·rw [a9 hb] at e
  exact (x b u e).stay (fun c v _ q=>k c v q) (fun c q=>by rw [a9 (aL q hn)]; exact q) (fun c xs q=>by rw [a9 (aL q hn)]; exact q) fun c o xs q=>by rw [a9 (aL q hn)]; exact q
end
def Rd (H : Hp) (a : Addr) (u : HO) : Prop:=H a = some u ∨ ∃ o,H a = some (.frz o u)
theorem Rd.of {H : Hp} {a : Addr} {u : HO} (h : H a = some u) : Rd H a u:=.inl h
theorem Rd.ok {P : Program} {w : World} {H : Hp} {h : Heap} {a : Addr} {u : HO} (r : Rd H a u) (x : HOk P w H h) : bD P w H h a u:=by
 rcases r with r | ⟨o,r⟩
 ·exact x a u r
 ·obtain ⟨_,q⟩:=x a _ r
  exact q
def Mut : Option HO->Prop
 | some (.lst _)=>True
 | some (.dK _)=>True
 | some (.dT _)=>True
 | some (.set _ _)=>True
 | some (.ins _ _ _)=>True
 | some (.ext _)=>True
 | _=>False
section
variable {P : Program} {w : World} {H : Hp} {h h' : Heap} {x e : Addr} {o' : HO}
theorem HOk.write (ok : HOk P w H h) (mu : Mut (H x)) (he : e = x ∨ H e = some (.own x)) (k : ∀ b u,b ≠ e->h.get? b = some u->h'.get? b = some u) (heo : ∃ u,h'.get? e = some u)
  (new : bD P w (upd H x o') h' x o') : HOk P w (upd H x o') h':=fun b u q=>by
 have nown : ∀ c y,H c = some (.own y)->c ≠ x:=fun c y r z=>by subst z; rw [r] at mu; exact mu
 have ntup : ∀ c xs,H c = some (.tup xs)->c ≠ x:=fun c xs r z=>by subst z; rw [r] at mu; exact mu
 by_cases hb : b = x
 ·subst hb; rw [a8] at q; cases q; exact new
 ·rw [a9 hb] at q
  by_cases hbe : b = e
  ·have q' : H b = some (.own x):=by
    rcases he with z | z
    ·exact absurd (hbe.trans z) hb
    ·rw [hbe]; exact z
   rw [q] at q'; cases q'
   obtain ⟨v,hv⟩:=heo
   exact ⟨v,by rw [hbe]; exact hv⟩
  ·refine (ok b u q).stay (fun c v hc r=>k c v ?_ r) (fun c r=>by rw [a9 (nown c b r)]; exact r) (fun c xs r=>by rw [a9 (ntup c xs r)]; exact r) fun c o xs r=>by rw [a9 (fun z=>by subst z; rw [r] at mu; exact mu)]; exact r
   rcases hc with rfl | hc
   ·exact hbe
   ·rintro rfl
    rcases he with z | z
    ·exact nown c b hc z
    ·rw [hc] at z; cases z; exact hb rfl
end
structure Un (fs ex : List Addr) (H H' : Hp) (h h' : Heap) : Prop where
 keep : ∀ b o,h.get? b = some o->H b = none->b ∉ fs->b ∉ ex->h'.get? b = some o
 slot : ∀ b o,h.get? b = some o->H b = none->b ∈ fs->b ∉ ex->∃ sl,h'.get? b = some { o with slots:=sl }
 free : ∀ b o,h.get? b = some o->H b = none->b ∉ ex->H' b = none
 there : ∀ b o,h.get? b = some o->b ∉ ex->∃ o',h'.get? b = some o'
 tups : ∀ b xs,H b = some (.tup xs)->H' b = some (.tup xs)
 frzs : ∀ b o u,H b = some (.frz o u)->H' b = some (.frz o u)
 tbls : ∀ b q,H b = some (.tbl q)->H' b = some (.tbl q)
section
variable {fs fs' ex ex' : List Addr} {H H1 H2 : Hp} {h h1 h2 h' : Heap} {a x e : Addr} {o : HO}
theorem Un.any (u : Un fs ex H H1 h h1) {b : Addr} {ob : Obj} (q : h.get? b = some ob) (n : H b = none) (hx : b ∉ ex) : ∃ sl,h1.get? b = some { ob with slots:=sl }:=by
 by_cases hb : b ∈ fs
 ·exact u.slot b ob q n hb hx
 ·exact ⟨ob.slots,u.keep b ob q n hb hx⟩
theorem Un.trans (a : Un fs ex H H1 h h1) (b : Un fs ex H1 H2 h1 h2) : Un fs ex H H2 h h2 where
 keep:=fun c ob q n hc hx=>b.keep c ob (a.keep c ob q n hc hx) (a.free c ob q n hx) hc hx
 slot:=fun c ob q n hc hx=>by
  obtain ⟨sl,e1⟩:=a.slot c ob q n hc hx
  obtain ⟨sl',e2⟩:=b.slot c _ e1 (a.free c ob q n hx) hc hx
  exact ⟨sl',e2⟩
 free:=fun c ob q n hx=>by
  obtain ⟨o',e1⟩:=a.there c ob q hx
  exact b.free c o' e1 (a.free c ob q n hx) hx
 there:=fun c ob q hx=>by
  obtain ⟨o',e1⟩:=a.there c ob q hx
  exact b.there c o' e1 hx
 tups:=fun c xs q=>b.tups c xs (a.tups c xs q)
 frzs:=fun c ob xs q=>b.frzs c ob xs (a.frzs c ob xs q)
 tbls:=fun c ps q=>b.tbls c ps (a.tbls c ps q)
theorem Un.kept (k : ∀ b u,h.get? b = some u->h'.get? b = some u) : Un fs ex H H h h' :=
 ⟨fun b ob q _ _ _=>k b ob q,fun b ob q _ _ _=>⟨ob.slots,k b ob q⟩,fun _ _ _ n _=>n,fun b ob q _=>⟨ob,k b ob q⟩,fun _ _ q=>q,fun _ _ _ q=>q,fun _ _ q=>q⟩
theorem Un.refl : Un fs ex H H h h:=Un.kept fun _ _ q=>q
theorem Un.laid (k : ∀ b u,h.get? b = some u->h'.get? b = some u) (hp : h.objs.size<=a) (hn : H a = none) : Un fs ex H (upd H a o) h h' where
 keep:=fun b u q _ _ _=>k b u q
 slot:=fun b u q _ _ _=>⟨u.slots,k b u q⟩
 free:=fun b u q n _=>by rw [a9 (Nat.ne_of_lt (Nat.lt_of_lt_of_le (Heap.lt_size q) hp))]; exact n
 there:=fun b u q _=>⟨u,k b u q⟩
 tups:=fun b xs q=>by rw [a9 (aL q hn)]; exact q
 frzs:=fun b u xs q=>by rw [a9 (aL q hn)]; exact q
 tbls:=fun b ps q=>by rw [a9 (aL q hn)]; exact q
theorem Un.write (mu : Mut (H x)) (he : e = x ∨ H e = some (.own x)) (k : ∀ b u,b ≠ e->h.get? b = some u->h'.get? b = some u) (heo : ∃ u,h'.get? e = some u) : Un fs ex H (upd H x o) h h':=by
 have hx : ∀ b,H b = none->b ≠ x:=fun b n z=>by subst z; rw [n] at mu; exact mu
 have hb : ∀ b,H b = none->b ≠ e:=fun b n z=>by
  subst z
  rcases he with r | r
  ·exact hx b n r
  ·rw [n] at r; cases r
 have hm : ∀ b u,H b = some u->¬ Mut (some u)->b ≠ x:=fun b u q nm z=>by subst z; rw [q] at mu; exact nm mu
 refine ⟨fun b u q n _ _=>k b u (hb b n) q,fun b u q n _ _=>⟨u.slots,k b u (hb b n) q⟩,fun b u q n _=>by rw [a9 (hx b n)]; exact n,fun b u q _=>?_,
  fun b xs q=>by rw [a9 (hm b _ q fun z=>z)]; exact q,fun b u xs q=>by rw [a9 (hm b _ q fun z=>z)]; exact q,fun b ps q=>by rw [a9 (hm b _ q fun z=>z)]; exact q⟩
 by_cases hbe : b = e
 ·subst hbe; exact heo
 ·exact ⟨u,k b u hbe q⟩
end
def trk (h : Heap) (H : Hp) : List Addr:=(List.range h.objs.size).filter fun a=>(H a).isSome
def rC (h : Heap) (H : Hp) : Heap:=PySem.W.hideAll h (trk h H)
theorem wD (h : Heap) (H : Hp) : (rC h H).objs.size = h.objs.size:=PySem.W.hideAll_size _ _
theorem lJ {h : Heap} {H : Hp} {b : Addr} {o : Obj} (e : h.get? b = some o) (n : H b = none) : (rC h H).get? b = some o :=
 PySem.W.hideAll_get _ e fun hm=>by
  have q : (H b).isSome = true:=(List.mem_filter.mp hm).2
  rw [n] at q; simp at q
theorem zJ {h : Heap} {H : Hp} {b : Addr} {o : Obj} (e : (rC h H).get? b = some o) : h.get? b = some o/\H b = none:=by
 have e' : h.get? b = some o:=PySem.W.of_hideAll (trk h H) e
 refine ⟨e', ?_⟩
 cases q : H b with
 | none=>rfl
 | some x =>
  have hm : b ∈ trk h H:=List.mem_filter.mpr ⟨List.mem_range.mpr (Heap.lt_size e'),by simp [q]⟩
  have z : (rC h H).get? b = none:=PySem.W.hideAll_none (trk h H) hm
  rw [z] at e; cases e
def zK (g h : Heap) (L : Addr) : List (Addr × Obj):=(List.range h.objs.size).filterMap fun a=>if a = L ∨ (g.get? a).isSome = true then none else (h.get? a).map fun o=>(a,o)
def az (g h : Heap) (L d : Addr) : List (Addr × Obj):=(zK g h L).filter fun p=>decide (p.1 ≠ d)
structure Mod (K : PySem.W.Frag) (mg : Str->Option Value) (base : Heap) : Prop where
 kin : K.In base
 glob : base.Ns mainGlobals mg
 blt : ∃ mb,base.Ns builtinsNs mb/\∀ x : Str,x ≠ "__name__"->mb x = bootBuiltins x
 nolimit : base.NoLimit
 bmain : ∃ bm ob,mg "__builtins__" = some (.ref bm)/\bm ≠ builtinsNs/\base.get? bm = some ob/\ob.cls = .type "module"/\ob.dict = some builtinsNs/\ob.data = .plain
structure Cx where
 prog : Program
 w : World
 K : PySem.W.Frag
 mg : Str->Option Value
 base : Heap
 A : Around
 N : List Str
 s₀ : Shared
 H₀ : Hp
 env : Env
 outer : List Env
 stack : List Env
 ex : List Addr
 fn : Str->Bool
 calm : Bool
 pn : List (Addr × Obj)
 xe : Value->Shared->Prop
def frs (l : List Env) : List Addr:=l.filterMap (·.frame)
abbrev Cx.fs (X : Cx) : List Addr:=frs X.outer
def Vis (sc : Scope) (x : Str) : Prop:=sc.names.lookup x = some .local ∨ sc.names.lookup x = some .cell ∨ sc.names.lookup x = some .free
def Loc (sc : Scope) (x : Str) : Prop:=sc.names.lookup x = some .local ∨ sc.names.lookup x = some .cell
def EA (env : Env) (h : Heap) (m : Str->Option Value) (x : Str) (u : Value) : Prop :=
 (env.kindOf x = some .local/\m x = some u) ∨ ((env.kindOf x = some .cell ∨ env.kindOf x = some .free)/\∃ c,env.cells.lookup x = some c/\h.IsCell c (some u))
structure Cx.Ok (X : Cx) : Prop where
 mod : Mod X.K X.mg X.base
 kind : X.env.scope.kind = .function
 glob : X.env.globals = mainGlobals
 blt : X.env.builtins = builtinsNs
 above : X.s₀.heap.objs.size<=X.env.locals
 inj : ∀ x y c,X.env.cells.lookup x = some c->X.env.cells.lookup y = some c->x = y
 has : ∀ x,(X.env.kindOf x = some .cell ∨ X.env.kindOf x = some .free)->∃ c,X.env.cells.lookup x = some c
 cab : ∀ x c,X.fn x = true->X.env.cells.lookup x = some c->X.s₀.heap.objs.size<=c
 hd : X.calm = true->X.A.handled = none
 frames : X.A.frames = some X.stack
 stk : X.stack = X.outer ∨ (X.stack = X.env :: X.outer/\X.env.frame = some X.env.locals)
 exf : ∀ b ∈ X.ex,b ≠ X.env.locals/\∀ x c,X.env.cells.lookup x = some c->c ≠ b
 bs : ∀ b o,X.base.get? b = some o->X.s₀.heap.get? b = some o/\X.H₀ b = none
 bsz : X.base.objs.size<=X.s₀.heap.objs.size
 noex : ∀ b o,X.base.get? b = some o->b ∉ X.ex
 exfs : ∀ b ∈ X.ex,b ∉ X.fs
 funs : X.s₀.heap.FunFrames X.base X.outer
 frf : ∀ b ∈ X.fs,X.H₀ b = none
structure Inv (X : Cx) (pins : List (Addr × Obj)) (σ : List (Option V)) (H : Hp) (s : Shared) : Prop where
 ok : X.Ok
 os : s.os = X.s₀.os
 bare : AllBare s.gens
 base : Un X.fs X.ex X.H₀ H X.s₀.heap s.heap
 loc : ∃ m,s.heap.Ns X.env.locals m/\∀ (i : Nat) (x : Str) (v : V),X.N[i]? = some x->σ[i]? = some (some v)->Vis X.env.scope x->∃ u,aN v u/\EA X.env s.heap m x u
 cell : ∀ x c,X.env.cells.lookup x = some c->∃ v,s.heap.IsCell c v
 free : H X.env.locals = none
 freeC : ∀ x c,X.env.cells.lookup x = some c->H c = none
 pin : ∀ p ∈ X.pn ++ pins,s.heap.get? p.1 = some p.2/\H p.1 = none/\p.1 ≠ X.env.locals/\p.1 ∉ X.fs/\∀ v,p.2.data ≠ .cell v
 hok : HOk X.prog X.w H s.heap
 len : σ.length = X.N.length
section
variable {X : Cx} {pins : List (Addr × Obj)} {σ : List (Option V)} {H H' : Hp} {s : Shared} {h' : Heap}
theorem Cx.Ok.nofr (ok : X.Ok) {b : Addr} {o : Obj} (e : X.base.get? b = some o) : b ∉ X.fs:=fun hb=>by
 have:=(ok.funs.mem hb).1
 rw [e] at this; cases this
theorem Inv.bs (I : Inv X pins σ H s) : ∀ b o,X.base.get? b = some o->s.heap.get? b = some o/\H b = none:=fun b o e =>
 ⟨I.base.keep b o (I.ok.bs b o e).1 (I.ok.bs b o e).2 (I.ok.nofr e) (I.ok.noex b o e),I.base.free b o (I.ok.bs b o e).1 (I.ok.bs b o e).2 (I.ok.noex b o e)⟩
theorem Inv.bk (I : Inv X pins σ H s) : ∀ b o,X.base.get? b = some o->s.heap.get? b = some o:=fun b o e=>(I.bs b o e).1
theorem Inv.mod (I : Inv X pins σ H s) : Mod X.K X.mg X.base:=I.ok.mod
theorem Inv.kIn (I : Inv X pins σ H s) : X.K.In s.heap:=I.ok.mod.kin.keeps I.bk
theorem Inv.nolimit (I : Inv X pins σ H s) : s.heap.NoLimit:=I.ok.mod.nolimit.keeps I.bk
theorem Inv.lt (I : Inv X pins σ H s) : X.env.locals < s.heap.objs.size:=let ⟨_,hn,_⟩:=I.loc; hn.lt
theorem Inv.sz (I : Inv X pins σ H s) : X.s₀.heap.objs.size<=s.heap.objs.size:=Nat.le_trans I.ok.above (Nat.le_of_lt I.lt)
theorem Inv.nofs (I : Inv X pins σ H s) {a : Addr} (h : s.heap.objs.size<=a) : a ∉ X.fs:=fun hb=>by
 obtain ⟨_,o,ho,_⟩:=I.ok.funs.mem hb
 exact absurd (Nat.lt_of_lt_of_le (Heap.lt_size ho) (Nat.le_trans I.sz h)) (Nat.lt_irrefl _)
theorem Inv.cne (I : Inv X pins σ H s) : ∀ x c,X.env.cells.lookup x = some c->c ≠ X.env.locals:=fun x c e z=>by
 obtain ⟨v,o,ho,hd⟩:=I.cell x c e
 obtain ⟨m,⟨o',es,ep,ho',hd',_⟩,_⟩:=I.loc
 rw [z,ho'] at ho; cases ho; rw [hd'] at hd; cases hd
theorem Inv.funs (I : Inv X pins σ H s) : s.heap.FunFrames X.base X.outer:=by
 have all : ∀ (l : List Env),(∀ b ∈ frs l,b ∈ X.fs)->X.s₀.heap.FunFrames X.base l->s.heap.FunFrames X.base l:=by
  intro l
  induction l with
  | nil=>intro _ _; trivial
  | cons env r ih =>
   intro hs hl
   obtain ⟨hk,⟨L,o,hf,hn,ho,hd⟩,hr⟩:=hl
   have hL : L ∈ X.fs:=hs L (by unfold frs; rw [List.filterMap_cons,hf]; exact mX)
   obtain ⟨sl,e⟩:=I.base.slot L o ho (I.ok.frf L hL) hL fun z=>I.ok.exfs L z hL
   exact ⟨hk,⟨L,_,hf,hn,e,hd⟩,ih (fun b hb=>hs b (by unfold frs; rw [List.filterMap_cons,hf]; exact mZ _ hb)) hr⟩
 exact all X.outer (fun _ hb=>hb) I.ok.funs
theorem Inv.stack (I : Inv X pins σ H s) : s.heap.FunFrames X.base X.stack:=by
 rcases I.ok.stk with e | ⟨e,hf⟩
 ·rw [e]; exact I.funs
 ·rw [e]
  obtain ⟨m,hn,_⟩:=I.loc
  refine .cons (by rw [I.ok.kind]; decide) hf hn ?_ I.funs
  exact Heap.get?_none_of_le (Nat.le_trans I.ok.bsz I.ok.above)
theorem Inv.stkSub (I : Inv X pins σ H s) : ∀ b ∈ frs X.stack,b ∈ X.env.locals :: X.fs:=fun b hb=>by
 rcases I.ok.stk with e | ⟨e,hf⟩
 ·rw [e] at hb; exact mZ _ hb
 ·rw [e] at hb
  unfold frs at hb
  rw [List.filterMap_cons,hf] at hb
  exact hb
theorem Inv.stkFree (I : Inv X pins σ H s) : ∀ b ∈ frs X.stack,H b = none:=fun b hb=>by
 rcases List.mem_cons.mp (I.stkSub b hb) with e | hb
 ·rw [e]; exact I.free
 ·obtain ⟨_,o,ho,_⟩:=I.ok.funs.mem hb
  exact I.base.free b o ho (I.ok.frf b hb) fun z=>I.ok.exfs b z hb
theorem Inv.step {g' : Array GenState} {t' : Nat} {d' : Drawn} {ch : List Addr} (I : Inv X pins σ H s)
  (hch : ∀ b ∈ ch,(b ∈ X.ex ∨ X.s₀.heap.objs.size<=b)/\b ≠ X.env.locals/\(∀ x c,X.env.cells.lookup x = some c->c ≠ b)/\∀ p ∈ X.pn ++ pins,p.1 ≠ b)
  (keep : ∀ b o,b ≠ X.env.locals->b ∉ X.fs->b ∉ ch->s.heap.get? b = some o->H b = none->h'.get? b = some o)
  (slot : ∀ b o,b ≠ X.env.locals->b ∈ X.fs->b ∉ ch->s.heap.get? b = some o->H b = none->∃ sl,h'.get? b = some { o with slots:=sl }) (free : ∀ b o,b ∉ ch->s.heap.get? b = some o->H b = none->H' b = none)
  (there : ∀ b o,b ∉ ch->s.heap.get? b = some o->∃ o',h'.get? b = some o')
  (tups : ∀ b xs,H b = some (.tup xs)->H' b = some (.tup xs)) (frzs : ∀ b o u,H b = some (.frz o u)->H' b = some (.frz o u)) (tbls : ∀ b q,H b = some (.tbl q)->H' b = some (.tbl q))
  (ns : ∀ m,s.heap.Ns X.env.locals m->h'.Ns X.env.locals m) (hok : HOk X.prog X.w H' h') (hg : AllBare g') :
  Inv X pins σ H' { s with heap:=h',gens:=g',drawn:=d',toks:=t' }:=by
 have neL : ∀ b o,X.s₀.heap.get? b = some o->b ≠ X.env.locals:=fun b o e=>Nat.ne_of_lt (Nat.lt_of_lt_of_le (Heap.lt_size e) I.ok.above)
 have neC : ∀ b o,X.s₀.heap.get? b = some o->b ∉ X.ex->b ∉ ch:=fun b o e hx hb=>by
  rcases (hch b hb).1 with z | z
  ·exact hx z
  ·exact absurd (Nat.lt_of_lt_of_le (Heap.lt_size e) z) (Nat.lt_irrefl _)
 have cellK : ∀ x c,X.env.cells.lookup x = some c->∀ v,s.heap.IsCell c v->h'.IsCell c v:=fun x c e v ⟨o,ho,hd⟩=>by
  have nch : c ∉ ch:=fun z=>(hch c z).2.2.1 x c e rfl
  by_cases hc : c ∈ X.fs
  ·obtain ⟨sl,q⟩:=slot c o (I.cne x c e) hc nch ho (I.freeC x c e)
   exact ⟨_,q,hd⟩
  ·exact ⟨o,keep c o (I.cne x c e) hc nch ho (I.freeC x c e),hd⟩
 refine ⟨I.ok,I.os,hg,⟨fun b o e n hb hx=>?_,fun b o e n hb hx=>?_,fun b o e n hx=>?_,fun b o e hx=>?_,fun b xs e=>tups b xs (I.base.tups b xs e),fun b o xs e=>frzs b o xs (I.base.frzs b o xs e),fun b ps e=>?_⟩, ?_,fun x c e=>?_, ?_,fun x c e=>?_,fun p hp=>?_,hok,I.len⟩
 ·exact keep b o (neL b o e) hb (neC b o e hx) (I.base.keep b o e n hb hx) (I.base.free b o e n hx)
 ·obtain ⟨sl,e1⟩:=I.base.slot b o e n hb hx
  obtain ⟨sl',e2⟩:=slot b _ (neL b o e) hb (neC b o e hx) e1 (I.base.free b o e n hx)
  exact ⟨sl',e2⟩
 ·obtain ⟨o',e1⟩:=I.base.there b o e hx
  exact free b o' (neC b o e hx) e1 (I.base.free b o e n hx)
 ·obtain ⟨o',e1⟩:=I.base.there b o e hx
  exact there b o' (neC b o e hx) e1
 ·exact tbls b _ (I.base.tbls b ps e)
 ·obtain ⟨m,hn,hl⟩:=I.loc
  refine ⟨m,ns m hn,fun i x v e1 e2 e3=>?_⟩
  obtain ⟨u,r,l⟩:=hl i x v e1 e2 e3
  refine ⟨u,r, ?_⟩
  rcases l with l | ⟨k,c,e,z⟩
  ·exact .inl l
  ·exact .inr ⟨k,c,e,cellK x c e _ z⟩
 ·obtain ⟨v,z⟩:=I.cell x c e
  exact ⟨v,cellK x c e v z⟩
 ·obtain ⟨m,⟨o,_,_,ho,_⟩,_⟩:=I.loc
  exact free _ o (fun z=>(hch _ z).2.1 rfl) ho I.free
 ·obtain ⟨v,o,ho,hd⟩:=I.cell x c e
  exact free c o (fun z=>(hch c z).2.2.1 x c e rfl) ho (I.freeC x c e)
 ·obtain ⟨e,n,ne,nf,d⟩:=I.pin p hp
  have nch : p.1 ∉ ch:=fun z=>(hch p.1 z).2.2.2 p hp rfl
  exact ⟨keep p.1 p.2 ne nf nch e n,free p.1 p.2 nch e n,ne,nf,d⟩
theorem Inv.un {t' : Nat} (I : Inv X pins σ H s) (u : Un X.fs [] H H' s.heap h') (hok : HOk X.prog X.w H' h') : Inv X pins σ H' { s with heap:=h',toks:=t' }:=by
 obtain ⟨m,⟨o,es,ep,ho,r⟩,_⟩:=id I.loc
 obtain ⟨sl,hL⟩:=u.any ho I.free (by simp)
 exact I.step (g':=s.gens) (d':=s.drawn) (ch:=[]) (fun _ z=>nomatch z) (fun b o _ hb _ e n=>u.keep b o e n hb (by simp)) (fun b o _ hb _ e n=>u.slot b o e n hb (by simp)) (fun b o _ e n=>u.free b o e n (by simp)) (fun b o _ e=>u.there b o e (by simp)) u.tups u.frzs u.tbls (fun m' hm=>by
  obtain ⟨o',es',ep',ho',r'⟩:=hm
  rw [ho] at ho'; cases ho'
  exact ⟨_,es',ep',hL,r'⟩) hok I.bare
theorem Inv.call {g' : Array GenState} {t' : Nat} {d' : Drawn} {ch : List Addr} (I : Inv X pins σ H s) (u : Un (frs X.stack) ch H H' s.heap h') (hok : HOk X.prog X.w H' h') (hg : AllBare g')
  (hch : ∀ b ∈ ch,(b ∈ X.ex ∨ X.s₀.heap.objs.size<=b)/\b ≠ X.env.locals/\(∀ x c,X.env.cells.lookup x = some c->c ≠ b)/\∀ p ∈ X.pn ++ pins,p.1 ≠ b) :
  Inv X pins σ H' { s with heap:=h',gens:=g',drawn:=d',toks:=t' }:=by
 obtain ⟨m,⟨o,es,ep,ho,r⟩,_⟩:=id I.loc
 obtain ⟨sl,hL⟩:=u.any ho I.free fun z=>(hch _ z).2.1 rfl
 exact I.step (ch:=ch) hch (fun b o hL hb hc e n=>u.keep b o e n (fun z=>(List.mem_cons.mp (I.stkSub b z)).elim hL hb) hc) (fun b o _ _ hc e n=>u.any e n hc) (fun b o hc e n=>u.free b o e n hc) (fun b o hc e=>u.there b o e hc) u.tups u.frzs u.tbls (fun m' hm=>by
  obtain ⟨o',es',ep',ho',r'⟩:=hm
  rw [ho] at ho'; cases ho'
  exact ⟨_,es',ep',hL,r'⟩) hok hg
theorem Inv.turned {t' : Nat} {it : Addr} (I : Inv X pins σ H s) (k : ∀ b o,b ≠ it->s.heap.get? b = some o->h'.get? b = some o) (hn : H it = none) (hL : it ≠ X.env.locals)
  (h1 : it ∈ X.ex ∨ X.s₀.heap.objs.size<=it) (h2 : ∀ x c,X.env.cells.lookup x = some c->c ≠ it) (h3 : ∀ p ∈ X.pn ++ pins,p.1 ≠ it) : Inv X pins σ H { s with heap:=h',toks:=t' }:=by
 have nit : ∀ b u,H b = some u->b ≠ it:=fun b u e z=>by rw [z,hn] at e; cases e
 refine I.step (g':=s.gens) (d':=s.drawn) (ch:=[it]) (fun b hb=>?_) (fun b o _ _ hc e _=>k b o (fun z=>hc (by simp [z])) e) (fun b o _ _ hc e _=>⟨o.slots,k b o (fun z=>hc (by simp [z])) e⟩) (fun _ _ _ _ n=>n)
  (fun b o hc e=>⟨o,k b o (fun z=>hc (by simp [z])) e⟩) (fun _ _ e=>e) (fun _ _ _ e=>e) (fun _ _ e=>e) (fun m hm=>?_) (fun b u e=>?_) I.bare
 ·have e : b = it:=by simpa using hb
  subst e
  exact ⟨h1,hL,h2,h3⟩
 ·obtain ⟨o,es,ep,ho,r⟩:=hm
  exact ⟨o,es,ep,k _ o (Ne.symm hL) ho,r⟩
 ·refine (I.hok b u e).stay (fun c v hc q=>k c v ?_ q) (fun _ q=>q) (fun _ _ q=>q) fun _ _ _ q=>q
  rcases hc with z | z
  ·rw [z]; exact nit b u e
  ·exact nit c _ z
theorem Inv.tok (I : Inv X pins σ H s) (t : Nat) : Inv X pins σ H { s with toks:=t }:=I.un (h':=s.heap) (t':=t) Un.refl I.hok
theorem Inv.kept {t' : Nat} (I : Inv X pins σ H s) (k : ∀ b u,s.heap.get? b = some u->h'.get? b = some u) : Inv X pins σ H { s with heap:=h',toks:=t' }:=I.un (Un.kept k) (I.hok.kept k)
theorem Inv.laid {a : Addr} {o : HO} {t' : Nat} (I : Inv X pins σ H s) (k : ∀ b u,s.heap.get? b = some u->h'.get? b = some u) (hp : s.heap.objs.size<=a) (new : bD X.prog X.w (upd H a o) h' a o) :
  Inv X pins σ (upd H a o) { s with heap:=h',toks:=t' }:=I.un (Un.laid k hp (I.hok.fresh hp)) (I.hok.laid k hp new)
theorem Inv.write {x e : Addr} {o : HO} {t' : Nat} (I : Inv X pins σ H s) (mu : Mut (H x)) (he : e = x ∨ H e = some (.own x)) (k : ∀ b u,b ≠ e->s.heap.get? b = some u->h'.get? b = some u) (heo : ∃ u,h'.get? e = some u)
  (new : bD X.prog X.w (upd H x o) h' x o) : Inv X pins σ (upd H x o) { s with heap:=h',toks:=t' }:=I.un (Un.write mu he k heo) (I.hok.write mu he k heo new)
theorem Inv.pins_of {pins' : List (Addr × Obj)} (I : Inv X pins σ H s) (h : ∀ p ∈ pins',s.heap.get? p.1 = some p.2/\H p.1 = none/\p.1 ≠ X.env.locals/\p.1 ∉ X.fs/\∀ v,p.2.data ≠ .cell v) : Inv X pins' σ H s :=
 ⟨I.ok,I.os,I.bare,I.base,I.loc,I.cell,I.free,I.freeC,fun p hp=>(List.mem_append.mp hp).elim (fun z=>I.pin p (List.mem_append_left _ z)) (h p),I.hok,I.len⟩
theorem rE {N : List Str} (hN : N.Nodup) {i j : Nat} {x : Str} (a : N[i]? = some x) (b : N[j]? = some x) : i = j:=by
 obtain ⟨h1,e1⟩:=List.getElem?_eq_some_iff.mp a
 obtain ⟨h2,e2⟩:=List.getElem?_eq_some_iff.mp b
 exact (List.getElem_inj hN).mp (e1.trans e2.symm)
theorem o5 {M : Model} {A : Around} {E : Value->Shared->Prop} {i : Nat} {x : Str} {v : V} {u : Value} {Q : Unit->Shared->Prop} (I : Inv X pins σ H s) (hN : X.N.Nodup) (hi : X.N[i]? = some x) (hx : Loc X.env.scope x) (r : aN v u)
  (h : ∀ s',Inv X pins (σ.set i (some v)) H s'->(∃ a,Heap.SameBut a s.heap s'.heap/\(a = X.env.locals ∨ X.env.cells.lookup x = some a))->Q () s') (hf : X.fn x = true ∨ X.env.scope.names.lookup x = some .local:=by first | exact .inl rfl | exact .inr rfl | assumption) : wpAny M A (storeName X.env x u) Q E s:=by
 obtain ⟨m,hn,hl⟩:=id I.loc
 have hcls : (X.env.scope.kind == .class || (X.env.scope.kind == .module && X.env.locals != X.env.globals)) = false:=by rw [I.ok.kind]; rfl
 have hiσ : i < σ.length:=by rw [I.len]; exact (List.getElem?_eq_some_iff.mp hi).1
 have cne:=I.cne
 have tracked : ∀ {a : Addr} {h' : Heap},(∃ o,s.heap.get? a = some o/\H a = none)->Heap.SameBut a s.heap h'->HOk X.prog X.w H h':=fun {a h'} ha hs b ob e=>by
  obtain ⟨_,_,hfree⟩:=ha
  refine (I.hok b ob e).stay (fun c w' hc q=>(hs.2 c ?_).trans q) (fun _ q=>q) (fun _ _ q=>q) fun _ _ _ q=>q
  rintro rfl
  rcases hc with rfl | hc
  ·rw [hfree] at e; cases e
  ·rw [hfree] at hc; cases hc
 rcases hx with hk | hk
 ·refine wpAny_storeName_local hk hn (fun h' hn' hs=>?_) hcls
  obtain ⟨oL,_,_,hoL,_⟩:=id hn
  refine h _ ⟨I.ok,I.os,I.bare,⟨fun b o e n hb hx=>?_,fun b o e n hb hx=>?_,I.base.free,fun b o e hx=>?_,I.base.tups,I.base.frzs,I.base.tbls⟩,⟨_,hn',fun j y v' e1 e2 e3=>?_⟩,fun y c e=>?_,I.free,I.freeC,fun p hp=>?_,tracked ⟨oL,hoL,I.free⟩ hs,by simpa using I.len⟩ ⟨_,hs,.inl rfl⟩
  ·exact (hs.2 b (Nat.ne_of_lt (Nat.lt_of_lt_of_le (Heap.lt_size e) I.ok.above))).trans (I.base.keep b o e n hb hx)
  ·obtain ⟨sl,e1⟩:=I.base.slot b o e n hb hx
   exact ⟨sl,(hs.2 b (Nat.ne_of_lt (Nat.lt_of_lt_of_le (Heap.lt_size e) I.ok.above))).trans e1⟩
  ·obtain ⟨o',e1⟩:=I.base.there b o e hx
   exact ⟨o',(hs.2 b (Nat.ne_of_lt (Nat.lt_of_lt_of_le (Heap.lt_size e) I.ok.above))).trans e1⟩
  ·by_cases hj : j = i
   ·subst hj
    rw [hi] at e1; cases e1
    rw [List.getElem?_set_self hiσ] at e2
    cases e2
    exact ⟨u,r,.inl ⟨hk,by simp⟩⟩
   ·rw [List.getElem?_set_ne (Ne.symm hj)] at e2
    obtain ⟨u',r',q⟩:=hl j y v' e1 e2 e3
    refine ⟨u',r', ?_⟩
    rcases q with ⟨k,e⟩ | ⟨k,c,e,z⟩
    ·refine .inl ⟨k, ?_⟩
     have : y ≠ x:=fun e=>hj (rE hN e1 (e ▸ hi))
     simp [this,e]
    ·exact .inr ⟨k,c,e,z.sameBut hs (cne y c e)⟩
  ·obtain ⟨w',z⟩:=I.cell y c e
   exact ⟨w',z.sameBut hs (cne y c e)⟩
  ·obtain ⟨e,n,ne,nf,d⟩:=I.pin p hp
   exact ⟨(hs.2 p.1 ne).trans e,n,ne,nf,d⟩
 ·have hfn : X.fn x = true:=by
   rcases hf with z | z
   ·exact z
   ·rw [z] at hk; cases hk
  obtain ⟨c,hc⟩:=I.ok.has x (.inl hk)
  obtain ⟨w',z⟩:=I.cell x c hc
  refine wpAny_storeName_cell I.ok.kind hk hc z (fun h' hc' hs=>?_)
  obtain ⟨oc,hoc,hocd⟩:=id z
  refine h { s with heap:=h' } ⟨I.ok,I.os,I.bare,⟨fun b o e n hb hx=>?_,fun b o e n hb hx=>?_,I.base.free,fun b o e hx=>?_,I.base.tups,I.base.frzs,I.base.tbls⟩,⟨m,hn.sameBut hs (Ne.symm (cne x c hc)),fun j y v' e1 e2 e3=>?_⟩,fun y c' e=>?_,I.free,I.freeC,fun p hp=>?_,tracked ⟨oc,hoc,I.freeC x c hc⟩ hs,by simpa using I.len⟩ ⟨c,hs,.inr hc⟩
  ·exact (hs.2 b (Nat.ne_of_lt (Nat.lt_of_lt_of_le (Heap.lt_size e) (I.ok.cab x c hfn hc)))).trans (I.base.keep b o e n hb hx)
  ·obtain ⟨sl,e1⟩:=I.base.slot b o e n hb hx
   exact ⟨sl,(hs.2 b (Nat.ne_of_lt (Nat.lt_of_lt_of_le (Heap.lt_size e) (I.ok.cab x c hfn hc)))).trans e1⟩
  ·obtain ⟨o',e1⟩:=I.base.there b o e hx
   exact ⟨o',(hs.2 b (Nat.ne_of_lt (Nat.lt_of_lt_of_le (Heap.lt_size e) (I.ok.cab x c hfn hc)))).trans e1⟩
  ·by_cases hj : j = i
   ·subst hj
    rw [hi] at e1; cases e1
    rw [List.getElem?_set_self hiσ] at e2
    cases e2
    exact ⟨u,r,.inr ⟨.inl hk,c,hc,hc'⟩⟩
   ·rw [List.getElem?_set_ne (Ne.symm hj)] at e2
    obtain ⟨u',r',q⟩:=hl j y v' e1 e2 e3
    refine ⟨u',r', ?_⟩
    rcases q with q | ⟨k,c',e,z'⟩
    ·exact .inl q
    ·refine .inr ⟨k,c',e,z'.sameBut hs ?_⟩
     rintro rfl
     exact hj (rE hN e1 (I.ok.inj _ _ _ e hc ▸ hi))
  ·by_cases hcc : c' = c
   ·subst hcc; exact ⟨_,hc'⟩
   ·obtain ⟨w2,z2⟩:=I.cell y c' e
    exact ⟨w2,z2.sameBut hs hcc⟩
  ·obtain ⟨e,n,ne,nf,d⟩:=I.pin p hp
   refine ⟨(hs.2 p.1 ?_).trans e,n,ne,nf,d⟩
   intro q
   rw [q,hoc] at e
   have q' : oc = p.2:=Option.some.inj e
   exact d w' (by rw [← q']; exact hocd)
theorem rF {M : Model} {A : Around} {E : Value->Shared->Prop} {i : Nat} {x : Str} {v : V} {u : Value} {Q : Unit->Shared->Prop} (I : Inv X pins σ H s) (hN : X.N.Nodup) (hi : X.N[i]? = some x) (hx : Loc X.env.scope x) (r : aN v u)
  (h : ∀ s',Inv X pins (σ.set i (some v)) H s'->Q () s') (hf : X.fn x = true ∨ X.env.scope.names.lookup x = some .local:=by first | exact .inl rfl | exact .inr rfl | assumption) : wpAny M A (storeName X.env x u) Q E s :=
 o5 I hN hi hx r (fun s' I' _=>h s' I') hf
theorem Inv.call' {s' : Shared} {ch : List Addr} (I : Inv X pins σ H s) (ho : s'.os = s.os) (u : Un (frs X.stack) ch H H' s.heap s'.heap) (hok : HOk X.prog X.w H' s'.heap) (hg : AllBare s'.gens)
  (hch : ∀ b ∈ ch,(b ∈ X.ex ∨ X.s₀.heap.objs.size<=b)/\b ≠ X.env.locals/\(∀ x c,X.env.cells.lookup x = some c->c ≠ b)/\∀ p ∈ X.pn ++ pins,p.1 ≠ b) : Inv X pins σ H' s':=by
 obtain ⟨h',g',d',t',o'⟩:=s'
 have e : o' = s.os:=ho
 subst e
 exact I.call (g':=g') (t':=t') (d':=d') u hok hg hch
end
abbrev XK:=Value->Option Addr->Hp->Prop
abbrev St:=List (Option V)
abbrev VK:=V->Hp->Prop
abbrev TE:=St->Hp->VK->Prop
abbrev TT:=St->Hp->(Bool->Hp->Prop)->Prop
abbrev TA:=St->Hp->(List V->Hp->Prop)->Prop
structure Ends where
 nx : St->Hp->Prop
 rt : VK
 bk : St->Hp->Prop:=fun _ _=>False
 ct : St->Hp->Prop:=fun _ _=>False
abbrev TS:=Ends->St->Hp->Prop
def EP (X : Cx) (pins : List (Addr × Obj)) (σ : St) (Q : VK) (u : Value) (s' : Shared) : Prop:=∃ v H',Inv X pins σ H' s'/\aN v u/\Q v H'
def TP (X : Cx) (pins : List (Addr × Obj)) (σ : St) (Q : Bool->Hp->Prop) (b : Bool) (s' : Shared) : Prop:=∃ H',Inv X pins σ H' s'/\Q b H'
def AP (X : Cx) (pins : List (Addr × Obj)) (σ : St) (Q : List V->Hp->Prop) (us : List Value) (s' : Shared) : Prop:=∃ vs H',Inv X pins σ H' s'/\aQ vs us/\Q vs H'
def SP (X : Cx) (pins : List (Addr × Obj)) (D : Ends) (f : Flow) (s' : Shared) : Prop :=
 match f with
 | .next=>∃ σ' H',Inv X pins σ' H' s'/\D.nx σ' H'
 | .brk=>∃ σ' H',Inv X pins σ' H' s'/\D.bk σ' H'
 | .cont=>∃ σ' H',Inv X pins σ' H' s'/\D.ct σ' H'
 | .ret u=>∃ v σ' H',Inv X pins σ' H' s'/\aN v u/\D.rt v H'
def PE (X : Cx) (e : Expr) (t : TE) : Prop :=
 ∀ (pins : List (Addr × Obj)) (s : Shared) (σ : St) (H : Hp) (Q : VK),Inv X pins σ H s->t σ H Q->wpAny (model X.prog X.w) X.A (eval e X.env) (EP X pins σ Q) X.xe s
def PT (X : Cx) (e : Expr) (t : TT) : Prop :=
 ∀ (pins : List (Addr × Obj)) (s : Shared) (σ : St) (H : Hp) (Q : Bool->Hp->Prop),Inv X pins σ H s->t σ H Q->wpAny (model X.prog X.w) X.A (isTrue e X.env (eval e X.env)) (TP X pins σ Q) X.xe s
def PW (X : Cx) (e : Expr) (t : TT) : Prop :=
 ∀ (whole : Sem Value) (pins : List (Addr × Obj)) (s : Shared) (σ : St) (H : Hp) (Q : Bool->Hp->Prop),Inv X pins σ H s->t σ H Q->wpAny (model X.prog X.w) X.A (isTrue e X.env whole) (TP X pins σ Q) X.xe s
theorem PW.pt {X : Cx} {e : Expr} {t : TT} (h : PW X e t) : PT X e t:=h _
def PA (X : Cx) (es : List Expr) (t : TA) : Prop :=
 ∀ (pos : Pos) (pins : List (Addr × Obj)) (s : Shared) (σ : St) (H : Hp) (Q : List V->Hp->Prop),Inv X pins σ H s->t σ H Q->wpAny (model X.prog X.w) X.A (spliced (backTo pos (starEach es X.env))) (AP X pins σ Q) X.xe s
def PS (X : Cx) (st : Stmt) (t : TS) : Prop :=
 ∀ (pins : List (Addr × Obj)) (s : Shared) (σ : St) (H : Hp) (D : Ends),Inv X pins σ H s->t D σ H->wpAny (model X.prog X.w) X.A (exec st X.env) (SP X pins D) X.xe s
def PSs (X : Cx) (st : List Stmt) (t : TS) : Prop :=
 ∀ (pins : List (Addr × Obj)) (s : Shared) (σ : St) (H : Hp) (D : Ends),Inv X pins σ H s->t D σ H->wpAny (model X.prog X.w) X.A (execs st X.env) (SP X pins D) X.xe s
theorem thn {α : Type} {t : Sem α} {Q Q' : α->Shared->Prop} {M : Model} {A : Around} {E : Value->Shared->Prop} {s : Shared} (h : wpAny M A t Q E s) (hQ : ∀ a s,Q a s->Q' a s) : wpAny M A t Q' E s:=wpAny_mono h hQ fun _ _ x=>x
section
variable {X : Cx}
theorem bin {a b : Expr} {ta tb : TE} (ha : PE X a ta) (hb : PE X b tb) {pins : List (Addr × Obj)} {s : Shared} {σ : St} {H : Hp} {R : V->V->Hp->Prop} (I : Inv X pins σ H s) (h : ta σ H fun x H1=>tb σ H1 fun y H2=>R x y H2)
  {α : Type} {Q : α->Shared->Prop} {f : Value->Value->Sem α}
  (hf : ∀ v u s2 x y H2,Inv X pins σ H2 s2->aN x v->aN y u->R x y H2->wpAny (model X.prog X.w) X.A (f v u) Q X.xe s2) :
  wpAny (model X.prog X.w) X.A (eval a X.env) (fun v s₁=>wpAny (model X.prog X.w) X.A (eval b X.env) (fun u s₂=>wpAny (model X.prog X.w) X.A (f v u) Q X.xe s₂) X.xe s₁) X.xe s:=by
 refine thn (ha pins s σ H _ I h) fun v s1 ⟨x,H1,I1,r1,q1⟩=>?_
 refine thn (hb pins s1 σ H1 _ I1 q1) fun u s2 ⟨y,H2,I2,r2,q2⟩=>?_
 exact hf v u s2 x y H2 I2 r1 r2 q2
def BM (i : Nat) : TE:=fun σ H Q=>∃ v,σ[i]? = some (some v)/\Q v H
def tC (v : V) : TE:=fun _ H Q=>Q v H
theorem pP {i : Nat} {x : Str} {pos : Pos} (hN : X.N[i]? = some x) (hv : Vis X.env.scope x) (hd : (x == ("__debug__" : Str)) = false:=by decide) (hcd : (x == ("__classdict__" : Str)) = false:=by decide) : PE X (.Name x pos) (BM i):=by
 intro pins s σ H Q I h
 obtain ⟨v,e,h⟩:=h
 obtain ⟨m,hn,hl⟩:=I.loc
 obtain ⟨u,r,l⟩:=hl i x v hN e hv
 have fin : EP X pins σ Q u s:=⟨v,H,I,r,h⟩
 rcases l with ⟨hk,hm⟩ | ⟨hk,c,hc,hcell⟩
 ·exact wpAny_Name (wpAny_loadName_local I.ok.kind hk hn hm fin) hd
 ·rcases hk with hk | hk
  ·exact wpAny_Name (wpAny_loadName_cell I.ok.kind hk hc hcell fin) hd
  ·exact wpAny_Name (wpAny_loadName_free I.ok.kind hk hc hcell fin hcd) hd
theorem BN {i j pos} : PE X (.Constant (.int i) j pos) (tC (.int i)):=fun _ _ _ H _ I h=>wpAny_Constant_int ⟨.int i,H,I.tok _,⟨_,rfl⟩,h⟩
theorem Ds {b j pos} : PE X (.Constant (.bool b) j pos) (tC (.bl b)):=fun _ _ _ H _ I h=>Constant_bool ⟨.bl b,H,I,rfl,h⟩
theorem BO {j pos} : PE X (.Constant .none j pos) (tC .non):=fun _ _ _ H _ I h=>Constant_none ⟨.non,H,I,rfl,h⟩
theorem BP {x j pos} : PE X (.Constant (.str x) j pos) (tC (.str x)):=fun _ _ _ H _ I h=>Calls.Constant_str ⟨.str x,H,I.tok _,⟨_,rfl⟩,h⟩
def Gl (X : Cx) (x : Str) : Prop:=X.env.kindOf x = some .globalImplicit
theorem pQ {E : Value->Shared->Prop} {pins : List (Addr × Obj)} {s : Shared} {σ : St} {H : Hp} {x : Str} {u : Value} {pos : Pos} {Q : Value->Shared->Prop} (I : Inv X pins σ H s) (hg : Gl X x) (hm : X.mg x = some u) (h : Q u s)
  (hd : (x == ("__debug__" : Str)) = false:=by decide) : wpAny (model X.prog X.w) X.A (eval (.Name x pos) X.env) Q E s :=
 Calls.Name_function_global I.ok.kind hg (Calls.loadGlobal_global (by rw [I.ok.glob]; exact I.mod.glob.keeps I.bk) hm h) hd
theorem iU {E : Value->Shared->Prop} {pins : List (Addr × Obj)} {s : Shared} {σ : St} {H : Hp} {x : Str} {u : Value} {pos : Pos} {Q : Value->Shared->Prop} (I : Inv X pins σ H s) (hg : Gl X x) (hm : X.mg x = none) (hv : bootBuiltins x = some u) (h : Q u s)
  (hn : x ≠ "__name__":=by decide) (hd : (x == ("__debug__" : Str)) = false:=by decide) : wpAny (model X.prog X.w) X.A (eval (.Name x pos) X.env) Q E s:=by
 obtain ⟨mb,h1,h2⟩:=I.mod.blt
 exact Calls.Name_function_global I.ok.kind hg (Calls.loadGlobal_builtin (by rw [I.ok.glob]; exact I.mod.glob.keeps I.bk) hm (by rw [I.ok.blt]; exact h1.keeps I.bk) ((h2 x hn).trans hv) h) hd
theorem vx {x : Str} {v : V} {u : Value} {pos : Pos} (hg : Gl X x) (hm : X.mg x = some u) (r : aN v u) (hd : (x == ("__debug__" : Str)) = false:=by decide) : PE X (.Name x pos) (tC v) :=
 fun _ _ _ H _ I h=>pQ I hg hm ⟨v,H,I,r,h⟩ hd
def t2I (ta tb : TE) (k : Int->Int->Hp->Prop) : St->Hp->Prop:=fun σ H=>ta σ H fun x H1=>tb σ H1 fun y H2=>∃ i j,x = .int i/\y = .int j/\k i j H2
variable {a b : Expr} {ta tb : TE} {pos : Pos}
def PC (X : Cx) (op : CmpOp) (a b : Expr) (t : TE) : Prop :=
 ∀ (pins : List (Addr × Obj)) (s : Shared) (σ : St) (H : Hp) (Q : VK),Inv X pins σ H s->t σ H Q ->
  wpAny (model X.prog X.w) X.A (eval a X.env) (fun v s₁=>wpAny (model X.prog X.w) X.A (eval b X.env) (fun u s₂=>wpAny (model X.prog X.w) X.A (compareOp op v u) (EP X pins σ Q) X.xe s₂) X.xe s₁) X.xe s
theorem lK (b : Expr) {op : CmpOp} (h : op ≠ .In) (h2 : op ≠ .NotIn) : behindInMarks op b = false:=by
 have e1 : (op == CmpOp.In) = false:=by cases op <;> first | rfl | exact absurd rfl h
 have e2 : (op == CmpOp.NotIn) = false:=by cases op <;> first | rfl | exact absurd rfl h2
 cases b <;> simp [behindInMarks,e1,e2]
def Dt (p : Int->Int->Bool) (ta tb : TE) : TE:=fun σ H Q=>t2I ta tb (fun i j H2=>Q (.bl (p i j)) H2) σ H
abbrev tLt : TE->TE->TE:=Dt fun i j=>decide (i < j)
abbrev tGt : TE->TE->TE:=Dt fun i j=>decide (j < i)
def tB (t : TE) : TT:=fun σ H Q=>t σ H fun x H1=>∃ c,x = .bl c/\Q c H1
theorem EB {op : CmpOp} {t : TE} (h : PC X op a b t) (h1 : behindInMarks op b = false:=by first | exact lK _ (by decide) (by decide) | rfl) : PT X (.Compare a [op] [b] pos) (tB t):=by
 intro pins s σ H Q I hw
 refine wpAny_isTrue_Compare1 (thn (h pins s σ H _ I hw) fun v s1 h1=>thn h1 fun u s2 h2=>thn h2 fun c s3 ⟨x,H1,I1,r1,q1⟩=>?_) h1
 obtain ⟨d,rfl,q⟩:=q1
 cases r1
 exact wpAny_truthy_bool ⟨H1,I1,q⟩
theorem BQ {e : Expr} {t : TE} (h : PE X e t) (he : ∀ whole,isTrue e X.env whole = (do let v ← whole; standAt e.pos; holding [v] (truthy v)):=by intro _; rfl) : PT X e (tB t):=by
 intro pins s σ H Q I hw
 refine isTrue_plain (thn (h pins s σ H _ I hw) fun v s1 ⟨x,H1,I1,r1,q1⟩=>?_) (he _)
 obtain ⟨d,rfl,q⟩:=q1
 cases r1
 exact wpAny_truthy_bool ⟨H1,I1,q⟩
variable {tA tB' : TT} {az : List Expr}
def Du (t u : TT) : TT:=fun σ H Q=>t σ H fun c H1=>if c = true then u σ H1 Q else Q false H1
def tOr (t u : TT) : TT:=fun σ H Q=>t σ H fun c H1=>if c = true then Q true H1 else u σ H1 Q
def Dv (t : TT) : TT:=fun σ H Q=>t σ H fun c H1=>Q (!c) H1
theorem zL (ha : PT X a tA) : PW X (.BoolOp .And [a] pos) tA:=by
 intro wh pins s σ H Q I h
 refine isTrue_and (thn (ha pins s σ H Q I h) fun c s1 e=>?_)
 cases c with
 | true=>exact isTrue_and_nil e
 | false=>exact e
theorem BR (ha : PT X a tA) : PW X (.BoolOp .Or [a] pos) tA:=by
 intro wh pins s σ H Q I h
 refine isTrue_or (thn (ha pins s σ H Q I h) fun c s1 e=>?_)
 cases c with
 | false=>exact isTrue_or_nil e
 | true=>exact e
theorem BS (ha : PT X a tA) (hb : PW X (.BoolOp .And (b :: az) pos) tB') : PW X (.BoolOp .And (a :: b :: az) pos) (Du tA tB'):=by
 intro wh pins s σ H Q I h
 refine isTrue_and (thn (ha pins s σ H _ I h) fun c s1 ⟨H1,I1,q1⟩=>?_)
 cases c with
 | true=>exact hb wh pins s1 σ H1 Q I1 q1
 | false=>exact ⟨H1,I1,q1⟩
theorem Dw (ha : PT X a tA) (hb : PW X (.BoolOp .Or (b :: az) pos) tB') : PW X (.BoolOp .Or (a :: b :: az) pos) (tOr tA tB'):=by
 intro wh pins s σ H Q I h
 refine isTrue_or (thn (ha pins s σ H _ I h) fun c s1 ⟨H1,I1,q1⟩=>?_)
 cases c with
 | true=>exact ⟨H1,I1,q1⟩
 | false=>exact hb wh pins s1 σ H1 Q I1 q1
theorem BT (ha : PT X a tA) : PT X (.UnaryOp .Not a pos) (Dv tA):=by
 intro pins s σ H Q I h
 exact isTrue_not (ha pins s σ H (fun c H1=>Q (!c) H1) I h)
def Dx (ta tb : TE) : TE:=fun σ H Q=>ta σ H fun x H1=>∃ c,x = .bl c/\if c = true then tb σ H1 Q else Q (.bl false) H1
def EC (ta tb : TE) : TE:=fun σ H Q=>ta σ H fun x H1=>∃ c,x = .bl c/\if c = true then Q (.bl true) H1 else tb σ H1 Q
theorem BU {op} {t : TE} (h : PE X a t) : PE X (.BoolOp op [a] pos) t:=fun pins s σ H Q I hw=>BoolOp_one (h pins s σ H Q I hw)
theorem BV (ha : PE X a ta) (hb : PE X (.BoolOp .And (b :: az) pos) tb) : PE X (.BoolOp .And (a :: b :: az) pos) (Dx ta tb):=by
 intro pins s σ H Q I h
 refine BoolOp_and (thn (ha pins s σ H _ I h) fun v s1 ⟨x,H1,I1,r1,q1⟩=>?_)
 obtain ⟨c,rfl,q1⟩:=q1
 cases r1
 refine wpAny_truthy_bool ?_
 cases c with
 | true=>exact hb pins s1 σ H1 Q I1 q1
 | false=>exact ⟨.bl false,H1,I1,rfl,q1⟩
theorem Dy (ha : PE X a ta) (hb : PE X (.BoolOp .Or (b :: az) pos) tb) : PE X (.BoolOp .Or (a :: b :: az) pos) (EC ta tb):=by
 intro pins s σ H Q I h
 refine BoolOp_or (thn (ha pins s σ H _ I h) fun v s1 ⟨x,H1,I1,r1,q1⟩=>?_)
 obtain ⟨c,rfl,q1⟩:=q1
 cases r1
 refine wpAny_truthy_bool ?_
 cases c with
 | false=>exact hb pins s1 σ H1 Q I1 q1
 | true=>exact ⟨.bl true,H1,I1,rfl,q1⟩
end
def SqL (K : PySem.W.Frag) (H : Hp) (a : Addr) (xs : List V) : Prop :=
 Rd H a (.lst xs) ∨
  ∃ (o : Obj) (its : Array Value) (n : Nat),K.lookup a = some o/\o.cls = .type "list"/\o.dict = none/\o.data = .seq its n/\its.size<=sizeLine/\aQ xs its.toList
def SqT (K : PySem.W.Frag) (H : Hp) (a : Addr) (xs : List V) : Prop :=
 Rd H a (.tup xs) ∨
  ∃ (o : Obj) (its : Array Value) (n : Nat),K.lookup a = some o/\o.cls = .type "tuple"/\o.data = .seq its n/\its.size<=sizeLine/\aQ xs its.toList
def ED : Value->Option V
 | .none=>some .non
 | .bool b=>some (.bl b)
 | .int i _=>some (.int i)
 | .str x _=>some (.str x)
 | .bytes b _=>some (.byt b)
 | .float b _=>some (.flt b)
 | .ref a=>some (.ref a)
 | .type n=>some (.ty n)
 | _=>none
theorem aN.abs {x : V} {u : Value} (r : aN x u) : ED u = some x:=by
 cases x with
 | non=>cases r; rfl
 | bl _=>cases r; rfl
 | int _=>obtain ⟨t,rfl⟩:=r; rfl
 | str _=>obtain ⟨t,rfl⟩:=r; rfl
 | byt _=>obtain ⟨t,rfl⟩:=r; rfl
 | flt _=>obtain ⟨t,rfl⟩:=r; rfl
 | ref _=>cases r; rfl
 | ty _=>cases r; rfl
theorem aN.inj {x y : V} {u : Value} (r : aN x u) (q : aN y u) : x = y:=Option.some.inj (r.abs.symm.trans q.abs)
theorem aQ.inj : ∀ {xs ys : List V} {us : List Value},aQ xs us->aQ ys us->xs = ys
 | _,_,_,.nil,.nil=>rfl
 | _,_,_,.cons r t,.cons r' t'=>by rw [r.inj r',aQ.inj t t']
section
variable {X : Cx} {pins : List (Addr × Obj)} {σ : St} {H : Hp} {s : Shared} {a : Addr} {xs ys : List V}
theorem SqL.of {K : PySem.W.Frag} (h : H a = some (.lst xs)) : SqL K H a xs:=.inl (.inl h)
theorem SqT.of {K : PySem.W.Frag} (h : H a = some (.tup xs)) : SqT K H a xs:=.inl (.inl h)
theorem Inv.list (I : Inv X pins σ H s) (h : SqL X.K H a xs) : ∃ its : List Value,aQ xs its/\PlainL s.heap a its.toArray/\xs.length<=sizeLine:=by
 rcases h with h | ⟨o,its,n,hk,hc,hd,hs,hz,r⟩
 ·obtain ⟨z,its,n,r,e⟩:=h.ok I.hok
  exact ⟨its,r,⟨_,n,e,rfl,rfl,rfl⟩,z⟩
 ·refine ⟨its.toList,r,⟨o,n,I.kIn a o hk,hc,hd,by simpa using hs⟩, ?_⟩
  have e:=r.length
  simp only [Array.length_toList] at e
  omega
theorem Inv.tuple (I : Inv X pins σ H s) (h : SqT X.K H a xs) : ∃ its : List Value,aQ xs its/\IsTup s.heap a its.toArray/\xs.length<=sizeLine:=by
 rcases h with h | ⟨o,its,n,hk,hc,hs,hz,r⟩
 ·obtain ⟨z,its,r,p⟩:=h.ok I.hok
  exact ⟨its,r,p,z⟩
 ·refine ⟨its.toList,r,⟨o,I.kIn a o hk,hc,n,by simpa using hs⟩, ?_⟩
  have e:=r.length
  simp only [Array.length_toList] at e
  omega
theorem Inv.list_inj (I : Inv X pins σ H s) (h : SqL X.K H a xs) (h' : SqL X.K H a ys) : xs = ys:=by
 obtain ⟨its,r,⟨o,n,e,_,_,d⟩,_⟩:=I.list h
 obtain ⟨its',r',⟨o',n',e',_,_,d'⟩,_⟩:=I.list h'
 rw [e] at e'; cases e'
 rw [d] at d'
 injection d' with d1 _
 have : its = its':=by simpa using congrArg Array.toList d1
 subst this
 exact r.inj r'
theorem Inv.tuple_inj (I : Inv X pins σ H s) (h : SqT X.K H a xs) (h' : SqT X.K H a ys) : xs = ys:=by
 obtain ⟨its,r,⟨o,e,_,n,d⟩,_⟩:=I.tuple h
 obtain ⟨its',r',⟨o',e',_,n',d'⟩,_⟩:=I.tuple h'
 rw [e] at e'; cases e'
 rw [d] at d'
 injection d' with d1 _
 have : its = its':=by simpa using congrArg Array.toList d1
 subst this
 exact r.inj r'
end
abbrev Cx.wish (X : Cx) (E : Value->Shared->Prop) : Cx:={ X with xe:=E }
abbrev Cx.nox (X : Cx) : Cx:=X.wish fun _ _=>False
theorem Cx.Ok.wish {X : Cx} (ok : X.Ok) (E : Value->Shared->Prop) : (X.wish E).Ok :=
 ⟨ok.mod,ok.kind,ok.glob,ok.blt,ok.above,ok.inj,ok.has,ok.cab,ok.hd,ok.frames,ok.stk,ok.exf,ok.bs,ok.bsz,ok.noex,ok.exfs,ok.funs,ok.frf⟩
theorem Cx.Ok.unwish {X : Cx} {E : Value->Shared->Prop} (ok : (X.wish E).Ok) : X.Ok :=
 ⟨ok.mod,ok.kind,ok.glob,ok.blt,ok.above,ok.inj,ok.has,ok.cab,ok.hd,ok.frames,ok.stk,ok.exf,ok.bs,ok.bsz,ok.noex,ok.exfs,ok.funs,ok.frf⟩
section
variable {X : Cx} {pins : List (Addr × Obj)} {σ : St} {H : Hp} {s : Shared} {E : Value->Shared->Prop}
theorem Inv.wish (I : Inv X pins σ H s) (E : Value->Shared->Prop) : Inv (X.wish E) pins σ H s:=⟨I.ok.wish E,I.os,I.bare,I.base,I.loc,I.cell,I.free,I.freeC,I.pin,I.hok,I.len⟩
theorem Inv.unwish (I : Inv (X.wish E) pins σ H s) : Inv X pins σ H s:=⟨I.ok.unwish,I.os,I.bare,I.base,I.loc,I.cell,I.free,I.freeC,I.pin,I.hok,I.len⟩
theorem SP.unwish {D : Ends} {f : Flow} {s' : Shared} (h : SP (X.wish E) pins D f s') : SP X pins D f s':=by
 cases f with
 | next=>obtain ⟨σ',H',I,q⟩:=h; exact ⟨σ',H',I.unwish,q⟩
 | brk=>obtain ⟨σ',H',I,q⟩:=h; exact ⟨σ',H',I.unwish,q⟩
 | cont=>obtain ⟨σ',H',I,q⟩:=h; exact ⟨σ',H',I.unwish,q⟩
 | ret u=>obtain ⟨v,σ',H',I,r,q⟩:=h; exact ⟨v,σ',H',I.unwish,r,q⟩
theorem PSs.nox {st : List Stmt} {t : TS} (h : PSs X.nox st t) : PSs X st t:=fun pins s σ H D I hw =>
 wpAny_mono (h pins s σ H D (I.wish _) hw) (fun _ _ q=>q.unwish) fun _ _ z=>False.elim z
end
section
variable {X : Cx} {st : Stmt} {az : List Stmt} {t u : TS} {e : Expr} {te : TE} {pos : Pos}
def AY : TS:=fun D σ H=>D.nx σ H
def Dz (t u : TS) : TS:=fun D σ H=>t { D with nx:=u D } σ H
theorem zM : PSs X [] AY:=fun _ _ σ H _ I h=>wpAny_execs_nil ⟨σ,H,I,h⟩
theorem xS (h1 : PS X st t) (h2 : PSs X az u) : PSs X (st :: az) (Dz t u):=by
 intro pins s σ H D I h
 refine wpAny_execs_cons (thn (h1 pins s σ H { D with nx:=u D } I h) fun f s1 q=>?_)
 cases f with
 | next =>
  obtain ⟨σ',H',I',q⟩:=q
  exact h2 pins s1 σ' H' D I' q
 | ret v=>exact q
 | brk=>exact q
 | cont=>exact q
theorem zN (h1 : PS X st t) : PSs X [st] t:=by
 intro pins s σ H D I h
 refine wpAny_execs_cons (thn (h1 pins s σ H D I h) fun f s1 q=>?_)
 cases f with
 | next=>exact wpAny_execs_nil q
 | ret v=>exact q
 | brk=>exact q
 | cont=>exact q
def D0 : TS:=fun D σ H=>D.ct σ H
theorem rG : PS X (.Continue pos) D0:=fun _ _ σ H _ I h=>wpAny_Continue ⟨σ,H,I,h⟩
theorem Inv.quiet {pins : List (Addr × Obj)} {σ : St} {H : Hp} {s : Shared} (I : Inv X pins σ H s) : interactive X.env = false:=by simp [interactive,I.ok.kind]
def D1 (te : TE) : TS:=fun D σ H=>te σ H fun _ H1=>D.nx σ H1
theorem zO (he : PE X e te) (hs : swapsWith e none pos.line X.env = pure false:=by rfl) : PS X (.Expr e pos) (D1 te):=by
 intro pins s σ H D I h
 exact wpAny_Expr_any (thn (he pins s σ H _ I h) fun v s1 ⟨x,H1,I1,r1,q1⟩=>⟨σ,H1,I1,q1⟩) I.quiet hs
def BW (te : TE) : TS:=fun D σ H=>te σ H D.rt
theorem xT (he : PE X e te) : PS X (.Return (some e) pos) (BW te):=by
 intro pins s σ H D I h
 exact wpAny_Return_some (thn (he pins s σ H _ I h) fun v s1 ⟨x,H1,I1,r1,q1⟩=>⟨x,σ,H1,I1,r1,q1⟩)
def D2 (c : TT) (t u : TS) : TS:=fun D σ H=>c σ H fun b H1=>if b = true then t D σ H1 else u D σ H1
theorem D3 {c : Expr} {a b : List Stmt} {tc : TT} (hc : PT X c tc) (ha : PSs X a t) (hb : PSs X b u) : PS X (.If c a b pos) (D2 tc t u):=by
 intro pins s σ H D I h
 refine wpAny_If (thn (hc pins s σ H _ I h) fun d s1 ⟨H1,I1,q1⟩=>?_)
 cases d with
 | true=>exact ha pins s1 σ H1 D I1 q1
 | false=>exact hb pins s1 σ H1 D I1 q1
end
abbrev TG:=V->St->Hp->(St->Hp->Prop)->Prop
abbrev TGs:=List V->St->Hp->(St->Hp->Prop)->Prop
def PG (X : Cx) (target : Expr) (t : TG) : Prop :=
 ∀ (pins : List (Addr × Obj)) (s : Shared) (σ : St) (H : Hp) (v : V) (u : Value) (Q : St->Hp->Prop),Inv X pins σ H s->aN v u->t v σ H Q ->
  wpAny (model X.prog X.w) X.A (assign target X.env u) (fun _ s'=>∃ σ' H',Inv X pins σ' H' s'/\Q σ' H') X.xe s
def PGs (X : Cx) (ts : List Expr) (t : TGs) : Prop :=
 ∀ (pins : List (Addr × Obj)) (s : Shared) (σ : St) (H : Hp) (vs : List V) (us : List Value) (Q : St->Hp->Prop),Inv X pins σ H s->aQ vs us->t vs σ H Q ->
  wpAny (model X.prog X.w) X.A (assignInOrder ((assignEach ts X.env).map (·.2)) us) (fun _ s'=>∃ σ' H',Inv X pins σ' H' s'/\Q σ' H') X.xe s
section
variable {X : Cx} {pos : Pos}
def kL (i : Nat) : TG:=fun v σ H Q=>Q (σ.set i (some v)) H
theorem aU {i : Nat} {x : Str} (hN : X.N.Nodup) (hi : X.N[i]? = some x) (hx : Loc X.env.scope x) (hf : X.fn x = true ∨ X.env.scope.names.lookup x = some .local:=by first | exact .inl rfl | exact .inr rfl | assumption) : PG X (.Name x pos) (kL i):=by
 intro pins s σ H v u Q I r h
 exact wpAny_assign_Name (rF I hN hi hx r (fun s' I'=>⟨_,H,I',h⟩) hf)
def D4 : TGs:=fun vs σ H Q=>vs = []/\Q σ H
def AZ (t : TG) (u : TGs) : TGs:=fun vs σ H Q=>∃ v r,vs = v :: r/\t v σ H fun σ' H'=>u r σ' H' Q
theorem js : PGs X [] D4:=by
 intro pins s σ H vs us Q I r h
 obtain ⟨e,h⟩:=h
 subst e
 cases r
 exact assignInOrder_nil ⟨σ,H,I,h⟩
theorem bU {e : Expr} {es : List Expr} {t : TG} {u : TGs} (h1 : PG X e t) (h2 : PGs X es u)
  (hs : (assignEach (e :: es) X.env).map (·.2) = assign e X.env :: (assignEach es X.env).map (·.2):=by rfl) : PGs X (e :: es) (AZ t u):=by
 intro pins s σ H vs us Q I r h
 obtain ⟨v,vr,e1,h⟩:=h
 subst e1
 cases r with
 | cons r rr =>
  rw [hs]
  refine assignInOrder_cons (thn (h1 pins s σ H _ _ _ I r h) fun _ s1 ⟨σ1,H1,I1,q1⟩=>?_)
  exact h2 pins s1 σ1 H1 _ _ Q I1 rr q1
def BX (K : PySem.W.Frag) (n : Nat) (t : TGs) : TG:=fun v σ H Q=>∃ a xs,v = .ref a/\SqT K H a xs/\xs.length = n/\t xs σ H Q
theorem lL {es : List Expr} {k : Nat} {t : TGs} {n : Nat} (hc : X.calm = true) (h : PGs X es t)
  (hn : (assignEach es X.env).length = n:=by rfl) (hst : (assignEach es X.env).findIdx? (·.1) = none:=by rfl) : PG X (.Tuple es k pos) (BX X.K n t):=by
 intro pins s σ H v u Q I r hw
 obtain ⟨a,xs,e1,hq,hl,hw⟩:=hw
 subst e1
 cases r
 obtain ⟨its,rv,ht,hz⟩:=I.tuple hq
 refine assign_Tuple_tuple (I.ok.hd hc) ht (by simp [hn,← hl,rv.length]) hst fun h' hx=>?_
 have I1 : Inv X pins σ H { s with heap:=h' }:=I.kept (t':=s.toks) fun b o e=>hx b o (Nat.ne_of_lt (Heap.lt_size e)) e
 exact h pins _ σ H xs _ Q I1 (by simpa using rv) hw
def zP (te : TE) (g : TG) : TS:=fun D σ H=>te σ H fun x H1=>g x σ H1 D.nx
theorem xU {i : Nat} {x : Str} {e : Expr} {te : TE} {pos' : Pos} (hN : X.N.Nodup) (hi : X.N[i]? = some x) (hx : Loc X.env.scope x) (he : PE X e te) (hs : swapsWith e (some (.Name x pos')) pos.line X.env = pure false:=by rfl) (hf : X.fn x = true ∨ X.env.scope.names.lookup x = some .local:=by first | exact .inl rfl | exact .inr rfl | assumption) :
  PS X (.Assign [.Name x pos'] e pos) (zP te (kL i)):=by
 intro pins s σ H D I h
 refine wpAny_Assign_Name (thn (he pins s σ H _ I h) fun v s1 ⟨y,H1,I1,r1,q1⟩=>?_) hs
 exact rF I1 hN hi hx r1 (fun s2 I2=>⟨_,H1,I2,q1⟩) hf
end
section
variable {X : Cx} {pos : Pos}
def xV (c : TT) (tb : TS) : TS:=fun D σ H=>∃ W : Nat->St->Hp->Prop,(∃ m,W m σ H)/\∀ m σ H,W m σ H ->
 c σ H fun b H1=>if b = true then ∃ N : St->Hp->Prop,(∀ σ' H',N σ' H'->∃ m',m' < m/\W m' σ' H')/\tb { D with nx:=N,ct:=N,bk:=D.nx } σ H1 else D.nx σ H1
theorem xW {c : Expr} {body : List Stmt} {tc : TT} {tb : TS} (hp : PassesOwn (model X.prog X.w) X.A X.env X.xe) (hc : PT X c tc) (hb : PSs X body tb) : PS X (.While c body [] pos) (xV tc tb):=by
 intro pins s σ H D I h
 obtain ⟨W,⟨m0,w0⟩,turn⟩:=h
 refine wpAny_While (codeAny_whileLoop (fun n s'=>∃ σ' H',Inv X pins σ' H' s'/\W n σ' H') ?_ m0 ⟨σ,H,I,w0⟩)
 rintro n s1 ⟨σ1,H1,I1,w1⟩
 refine wpAny_passesOwn hp (thn (hc pins s1 σ1 H1 _ I1 (turn n σ1 H1 w1)) fun b s2 ⟨H2,I2,q2⟩=>?_)
 cases b with
 | true =>
  obtain ⟨N,hN,q2⟩:=q2
  rw [if_pos rfl]
  refine wpAny_passesOwn hp (thn (hb pins s2 σ1 H2 _ I2 q2) fun f s3 q3=>?_)
  cases f with
  | next =>
   obtain ⟨σ3,H3,I3,n3⟩:=q3
   obtain ⟨m',hm,w3⟩:=hN σ3 H3 n3
   exact ⟨m',hm,σ3,H3,I3,w3⟩
  | cont =>
   obtain ⟨σ3,H3,I3,n3⟩:=q3
   obtain ⟨m',hm,w3⟩:=hN σ3 H3 n3
   exact ⟨m',hm,σ3,H3,I3,w3⟩
  | brk=>exact q3
  | ret v=>exact q3
 | false =>
  rw [if_neg Bool.false_ne_true]
  exact wpAny_execs_nil ⟨σ1,H2,I2,q2⟩
end
structure It where
 go : Nat->Hp->Prop
 yld : Nat->Hp->V->Hp->Prop
 stop : Nat->Hp->Prop
def jY (X : Cx) (pins : List (Addr × Obj)) (H : Hp) (b : Addr) : Prop :=
 H b = none/\b ≠ X.env.locals/\b ∉ X.fs/\(b ∈ X.ex ∨ X.s₀.heap.objs.size<=b)/\(∀ x c,X.env.cells.lookup x = some c->c ≠ b)/\∀ p ∈ X.pn ++ pins,p.1 ≠ b
theorem Inv.fpOk {X : Cx} {pins : List (Addr × Obj)} {σ : St} {H H' : Hp} {s : Shared} {b : Addr} (I : Inv X pins σ H s) (hb : s.heap.objs.size<=b) (hn : H' b = none) : jY X pins H' b:=by
 refine ⟨hn,Nat.ne_of_gt (Nat.lt_of_lt_of_le I.lt hb),I.nofs hb,.inr (Nat.le_trans I.sz hb),fun x c e z=>?_,fun p hp z=>?_⟩
 ·obtain ⟨v,q⟩:=I.cell x c e
  exact absurd (Nat.lt_of_lt_of_le q.lt (by rw [z]; exact hb)) (Nat.lt_irrefl _)
 ·exact absurd (Nat.lt_of_lt_of_le (Heap.lt_size (I.pin p hp).1) (by rw [z]; exact hb)) (Nat.lt_irrefl _)
structure Turn (P : Program) (w : World) (K : PySem.W.Frag) (tg : Expr) (J : It) (fp : List Addr) (it : Addr) (tn : Nat->Heap->Prop) : Prop where
 mem : it ∈ fp
 obj : ∀ i h,tn i h->∀ b ∈ fp,∃ o,h.get? b = some o/\∀ v,o.data ≠ .cell v
 keep : ∀ i h h',tn i h->(∀ b ∈ fp,∀ o,h.get? b = some o->h'.get? b = some o)->tn i h'
 item : ∀ (X : Cx),X.prog = P->X.w = w->X.K = K->X.calm = true->∀ (i : Nat) (pins : List (Addr × Obj)) (s : Shared) (σ : St) (H : Hp) (E : Value->Shared->Prop),Inv X pins σ H s->(∀ b ∈ fp,jY X pins H b)->tn i s.heap->J.go i H ->
  wpAny (model P w) X.A (pyNext (.ref it)) (fun r s1=>∃ u,r = some u /\
   wpAny (model P w) X.A (letOwnedTupleGo tg (.ref it) u) (fun _ s2=>∃ x H',Inv X pins σ H' s2/\aN x u/\J.yld i H x H'/\tn (i + 1) s2.heap/\∀ b ∈ fp,H' b = none) E s1) E s
 done : ∀ (X : Cx),X.prog = P->X.w = w->X.K = K->X.calm = true->∀ (i : Nat) (pins : List (Addr × Obj)) (s : Shared) (σ : St) (H : Hp) (E : Value->Shared->Prop),Inv X pins σ H s->(∀ b ∈ fp,jY X pins H b)->tn i s.heap->J.stop i H ->
  wpAny (model P w) X.A (pyNext (.ref it)) (fun r s1=>r = none/\Inv X pins σ H s1) E s
 self : ∀ (A : Around) (i : Nat) (s : Shared) (Q : Value->Shared->Prop) (E : Value->Shared->Prop),tn i s.heap->Q (.ref it) s->wpAny (model P w) A (pyIter (.ref it)) Q E s
abbrev TI:=St->Hp->(It->Hp->Prop)->Prop
def PIE (X : Cx) (pins : List (Addr × Obj)) (σ : St) (tg : Expr) (R : It->Hp->Prop) (itv : Value) (s2 : Shared) : Prop :=
 ∃ (it : Addr) (fp : List Addr) (tn : Nat->Heap->Prop) (J : It) (H' : Hp),itv = .ref it/\Inv X pins σ H' s2/\Turn X.prog X.w X.K tg J fp it tn/\tn 0 s2.heap/\(∀ b ∈ fp,jY X pins H' b)/\R J H'
def PI (X : Cx) (tg iter : Expr) (wi : TI) : Prop :=
 ∀ (pins : List (Addr × Obj)) (s : Shared) (σ : St) (H : Hp) (R : It->Hp->Prop),Inv X pins σ H s->wi σ H R ->
  wpAny (model X.prog X.w) X.A (eval iter X.env) (fun v s1=>wpAny (model X.prog X.w) X.A (pyIter v) (PIE X pins σ tg R) X.xe s1) X.xe s
theorem rH {M : Model} {A : Around} {E : Value->Shared->Prop} {s : Shared} {tg : Expr} {it : Addr} {u : Value} {o : Obj} {n : String} {vs : Array Value} {Q : Unit->Shared->Prop} (ho : s.heap.get? it = some o) (hc : o.cls = .type n) (hd : o.data = .fields vs)
    (hn : ["enumerate","zip","dict_itemiterator","dict_reverseitemiterator","odict_iterator","itertools.zip_longest","itertools.pairwise"].contains n = false) (hQ : Q () s) : wpAny M A (letOwnedTupleGo tg (.ref it) u) Q E s:=by
  unfold letOwnedTupleGo
  cases tg <;> first
    | exact wY hQ
    | (cases u <;> first
        | exact wY hQ
        | (refine wX (wpAny_load ho ?_)
           rw [hc,hd]
           show wpAny M A (if (["enumerate","zip","dict_itemiterator","dict_reverseitemiterator","odict_iterator","itertools.zip_longest","itertools.pairwise"].contains n && vs[0]? == some (rawInt _)) = true then _ else _) Q E s
           rw [if_neg (by intro h; rw [hn,Bool.false_and] at h; cases h)]
           exact wY hQ))
def Itl (K : PySem.W.Frag) (a : Addr) : It :=
 ⟨fun i H=>∃ xs x,SqL K H a xs/\xs[i]? = some x,fun i H x H'=>H' = H/\∀ xs,SqL K H a xs->xs[i]? = some x,fun i H=>∃ xs,SqL K H a xs/\xs.length<=i⟩
def Itt (K : PySem.W.Frag) (a : Addr) : It :=
 ⟨fun i H=>∃ xs x,SqT K H a xs/\xs[i]? = some x,fun i H x H'=>H' = H/\∀ xs,SqT K H a xs->xs[i]? = some x,fun i H=>∃ xs,SqT K H a xs/\xs.length<=i⟩
def Itr (lo : Int) (n : Nat) : It:=⟨fun i _=>i < n,fun i H x H'=>H' = H/\x = .int (lo + i),fun i _=>n<=i⟩
theorem wE {P : Program} {w : World} {K : PySem.W.Frag} {tg : Expr} (a it : Addr) : Turn P w K tg (Itl K a) [it] it (fun i h=>h.IsListIter it a i) where
 mem:=by simp
 obj:=fun i h st b hb=>by
  have e : b = it:=by simpa using hb
  subst e
  obtain ⟨o,e,c,d⟩:=st
  exact ⟨o,e,fun v z=>by rw [d] at z; cases z⟩
 keep:=fun i h h' st k=>st.at fun o e=>k it (by simp) o e
 item:=by
  intro X hP hw hK hc i pins s σ H E I hf st hg
  subst hP hw hK
  obtain ⟨xs,x,hq,hx⟩:=hg
  obtain ⟨its,rv,p,hz⟩:=I.list hq
  obtain ⟨u,hu,ru⟩:=rv.get hx
  obtain ⟨f0,f1,f2,f3,f4,f5⟩:=hf it (by simp)
  refine wpAny_pyNext_list_item st p.isList (x:=u) (by simpa using hu) fun h' st' sb=>?_
  have I1 : Inv X pins σ H { s with heap:=h' }:=I.turned (t':=s.toks) (fun b o hb e=>(sb.2 b hb).trans e) f0 f1 f3 f4 f5
  obtain ⟨o,e,c,d⟩:=id st'
  exact ⟨u,rfl,rH (s:={ s with heap:=h' }) e c d (by decide) ⟨x,H,I1,ru,⟨rfl,fun ys hy=>by rw [I.list_inj hy hq]; exact hx⟩,st',fun b hb=>(hf b hb).1⟩⟩
 done:=by
  intro X hP hw hK hc i pins s σ H E I hf st hg
  subst hP hw hK
  obtain ⟨xs,hq,hx⟩:=hg
  obtain ⟨its,rv,p,hz⟩:=I.list hq
  obtain ⟨f0,f1,f2,f3,f4,f5⟩:=hf it (by simp)
  have hl:=rv.length
  exact wpAny_pyNext_list_end (I.ok.hd hc) st p.isList (by simp; omega) fun h' eb=>⟨rfl,I.turned (t':=s.toks) (fun b o hb e=>eb b o hb e) f0 f1 f3 f4 f5⟩
 self:=fun _ _ _ _ _ st h=>wpAny_pyIter_listiter st h
theorem uc {P : Program} {w : World} {K : PySem.W.Frag} {tg : Expr} (a it : Addr) : Turn P w K tg (Itt K a) [it] it (fun i h=>h.IsTupleIter it a i) where
 mem:=by simp
 obj:=fun i h st b hb=>by
  have e : b = it:=by simpa using hb
  subst e
  obtain ⟨o,e,c,d⟩:=st
  exact ⟨o,e,fun v z=>by rw [d] at z; cases z⟩
 keep:=fun i h h' st k=>st.at fun o e=>k it (by simp) o e
 item:=by
  intro X hP hw hK hc i pins s σ H E I hf st hg
  subst hP hw hK
  obtain ⟨xs,x,hq,hx⟩:=hg
  obtain ⟨its,rv,p,hz⟩:=I.tuple hq
  obtain ⟨u,hu,ru⟩:=rv.get hx
  obtain ⟨f0,f1,f2,f3,f4,f5⟩:=hf it (by simp)
  refine wpAny_pyNext_tuple_item st (show s.heap.IsTuple a its.toArray from p) (x:=u) (by simpa using hu) fun h' st' sb=>?_
  have I1 : Inv X pins σ H { s with heap:=h' }:=I.turned (t':=s.toks) (fun b o hb e=>(sb.2 b hb).trans e) f0 f1 f3 f4 f5
  obtain ⟨o,e,c,d⟩:=id st'
  exact ⟨u,rfl,rH (s:={ s with heap:=h' }) e c d (by decide) ⟨x,H,I1,ru,⟨rfl,fun ys hy=>by rw [I.tuple_inj hy hq]; exact hx⟩,st',fun b hb=>(hf b hb).1⟩⟩
 done:=by
  intro X hP hw hK hc i pins s σ H E I hf st hg
  subst hP hw hK
  obtain ⟨xs,hq,hx⟩:=hg
  obtain ⟨its,rv,p,hz⟩:=I.tuple hq
  obtain ⟨f0,f1,f2,f3,f4,f5⟩:=hf it (by simp)
  have hl:=rv.length
  exact wpAny_pyNext_tuple_end (I.ok.hd hc) st (show s.heap.IsTuple a its.toArray from p) (by simp; omega) fun h' eb=>⟨rfl,I.turned (t':=s.toks) (fun b o hb e=>eb b o hb e) f0 f1 f3 f4 f5⟩
 self:=fun _ _ _ _ _ st h=>wpAny_pyIter_tupleiter st h
theorem ud {P : Program} {w : World} {K : PySem.W.Frag} {tg : Expr} (it : Addr) (lo : Int) (n : Nat) : Turn P w K tg (Itr lo n) [it] it (fun i h=>IsRangeIter h it (lo + (i : Nat) * 1) ((n : Int) - (i : Nat)) 1) where
 mem:=by simp
 obj:=fun i h st b hb=>by
  have e : b = it:=by simpa using hb
  subst e
  exact ⟨_,st,fun v z=>by
   have z' : Data.fields _ = Data.cell v:=z
   cases z'⟩
 keep:=fun i h h' st k=>k it (by simp) _ st
 item:=by
  intro X hP hw hK hc i pins s σ H E I hf st hg
  subst hP hw hK
  obtain ⟨f0,f1,f2,f3,f4,f5⟩:=hf it (by simp)
  have W:=Walks.range (prog:=X.prog) (w:=X.w) (I.ok.hd hc) it lo 1 n
  refine W.item i s _ _ hg st fun v h' tk hv st' kk=>?_
  obtain ⟨t,rfl⟩:=hv
  have I1 : Inv X pins σ H { s with heap:=h',toks:=tk }:=I.turned (fun b o hb e=>kk b o (by simpa using hb) e) f0 f1 f3 f4 f5
  refine ⟨_,rfl,rH (s:={ s with heap:=h',toks:=tk }) (n:="range_iterator") st' rfl rfl (by decide) ⟨.int (lo + i),H,I1,⟨t, ?_⟩,⟨rfl,rfl⟩,st',fun b hb=>(hf b hb).1⟩⟩
  rw [Int.mul_one]
 done:=by
  intro X hP hw hK hc i pins s σ H E I hf st hg
  subst hP hw hK
  obtain ⟨f0,f1,f2,f3,f4,f5⟩:=hf it (by simp)
  exact wpAny_pyNext_range_end (I.ok.hd hc) st (by have : n<=i:=hg; omega) fun h' eb=>⟨rfl,I.turned (t':=s.toks) (fun b o hb e=>eb b o hb e) f0 f1 f3 f4 f5⟩
 self:=fun _ _ _ _ _ st h=>wpAny_pyIter_rangeiter st h
section
variable {X : Cx} {tg : Expr}
def D5 (K : PySem.W.Frag) (tl : TE) : TI:=fun σ H R=>tl σ H fun x H1=>∃ a,x = .ref a/\(∃ xs,SqL K H1 a xs)/\R (Itl K a) H1
def EE (K : PySem.W.Frag) (tl : TE) : TI:=fun σ H R=>tl σ H fun x H1=>∃ a,x = .ref a/\(∃ xs,SqT K H1 a xs)/\R (Itt K a) H1
theorem zQ {l : Expr} {tl : TE} (hl : PE X l tl) : PI X tg l (D5 X.K tl):=by
 intro pins s σ H R I h
 refine thn (hl pins s σ H _ I h) fun v s1 ⟨x,H1,I1,r1,q1⟩=>?_
 obtain ⟨a,e,⟨xs,hq⟩,q⟩:=q1
 subst e
 cases r1
 obtain ⟨its,rv,p,hz⟩:=I1.list hq
 refine wpAny_pyIter_list p.isList ?_
 refine ⟨s1.heap.objs.size,[s1.heap.objs.size],_,_,H1,rfl,I1.kept (t':=s1.toks) fun b o e=>Heap.get?_push_of_some _ e,wE a _,⟨_,Heap.get?_push_size _ rfl,rfl,rfl⟩,fun b hb=>?_,q⟩
 have e : b = s1.heap.objs.size:=by simpa using hb
 subst e
 exact I1.fpOk (Nat.le_refl _) (I1.hok.fresh (Nat.le_refl _))
theorem BY {l : Expr} {tl : TE} (hl : PE X l tl) : PI X tg l (EE X.K tl):=by
 intro pins s σ H R I h
 refine thn (hl pins s σ H _ I h) fun v s1 ⟨x,H1,I1,r1,q1⟩=>?_
 obtain ⟨a,e,⟨xs,hq⟩,q⟩:=q1
 subst e
 cases r1
 obtain ⟨its,rv,p,hz⟩:=I1.tuple hq
 refine wpAny_pyIter_tuple (show s1.heap.IsTuple a its.toArray from p) ?_
 refine ⟨s1.heap.objs.size,[s1.heap.objs.size],_,_,H1,rfl,I1.kept (t':=s1.toks) fun b o e=>Heap.get?_push_of_some _ e,uc a _,⟨_,Heap.get?_push_size _ rfl,rfl,rfl⟩,fun b hb=>?_,q⟩
 have e : b = s1.heap.objs.size:=by simpa using hb
 subst e
 exact I1.fpOk (Nat.le_refl _) (I1.hok.fresh (Nat.le_refl _))
theorem xX {pins : List (Addr × Obj)} {σ : St} {H : Hp} {s : Shared} {R : It->Hp->Prop} {E : Value->Shared->Prop} {lo hi : Int} {t u v : Tok} {tk : Nat} (I : Inv X pins σ H s) (h1 : -(2 ^ 62)<=lo) (h2 : lo < 2 ^ 62) (h3 : -(2 ^ 62)<=hi) (h4 : hi < 2 ^ 62)
  (q : R (Itr lo (hi - lo).toNat) H) : wpAny (model X.prog X.w) X.A (pyIter (.ref s.heap.objs.size)) (PIE X pins σ tg R) E { s with heap:=s.heap.push { cls:=.type "range",data:=.fields #[.int lo t,.int hi u,.int 1 v] },toks:=tk }:=by
 refine wpAny_pyIter_range (IsRange.new ..) (small_one h1 h2 h3 h4) ?_
 have I1 : Inv X pins σ H { s with heap:=s.heap.push { cls:=.type "range",data:=.fields #[.int lo t,.int hi u,.int 1 v] },toks:=tk }:=I.kept fun b o e=>Heap.get?_push_of_some _ e
 refine ⟨(s.heap.push { cls:=.type "range",data:=.fields #[.int lo t,.int hi u,.int 1 v] }).objs.size,[(s.heap.push { cls:=.type "range",data:=.fields #[.int lo t,.int hi u,.int 1 v] }).objs.size],_,_,H,rfl,
  I1.kept (t':=tk) fun b o e=>Heap.get?_push_of_some _ e,ud _ lo (hi - lo).toNat, ?_,fun b hb=>?_,q⟩
 ·have e1 : lo + ((0 : Nat) : Int) * 1 = lo:=by simp
  have e2 : (((hi - lo).toNat : Nat) : Int) - ((0 : Nat) : Int) = Builtin.Range.rangeSize lo hi 1:=by rw [rangeSize_one]; split <;> omega
  show IsRangeIter _ _ (lo + ((0 : Nat) : Int) * 1) ((((hi - lo).toNat : Nat) : Int) - ((0 : Nat) : Int)) 1
  rw [e1,e2]
  exact Heap.get?_push_size _ rfl
 ·have e : b = (s.heap.push { cls:=.type "range",data:=.fields #[.int lo t,.int hi u,.int 1 v] }).objs.size:=by simpa using hb
  subst e
  exact I1.fpOk (Nat.le_refl _) (I1.hok.fresh (Nat.le_refl _))
def D6 (ta : TA) : TI:=fun σ H R=>ta σ H fun vs H1=>∃ j : Int,vs = [.int j]/\-(2 ^ 62)<=j/\j < 2 ^ 62/\R (Itr 0 j.toNat) H1
theorem wF {a : Expr} {ta : TA} {p pos : Pos} (hg : Gl X "range") (hm : X.mg "range" = none) (ha : PA X [a] ta) (hs : starEach [a] X.env = [(false,eval a X.env)]:=by rfl) : PI X tg (.Call (.Name "range" p) [a] [] pos) (D6 ta):=by
 intro pins s σ H R I h
 refine Call_ (iU I hg hm boot_range (PyProof.Rows.callWith_type1 (thn (ha pos pins s σ H _ I h) fun us s1 ⟨vs,H1,I1,r1,q1⟩=>?_) hs rfl))
 obtain ⟨j,e,q1,q2,q⟩:=q1
 subst e
 cases r1 with
 | cons r rr =>
  cases rr
  obtain ⟨t,rfl⟩:=r
  exact call_range_1 (xX I1 (by omega) (by omega) q1 q2 (by simpa using q))
def BZ (wi : TI) (g : TG) (tb : TS) : TS:=fun D σ H=>wi σ H fun J H1=>∃ W : Nat->Nat->St->Hp->Prop,(∃ m,W 0 m σ H1)/\∀ i m σ H,W i m σ H ->
 (J.stop i H/\D.nx σ H) ∨ (J.go i H/\∃ N : St->Hp->Prop,(∀ σ' H',N σ' H'->∃ m',m' < m/\W (i + 1) m' σ' H')/\∀ x H',J.yld i H x H'->g x σ H' fun σ2 H2=>tb { D with nx:=N,ct:=N,bk:=D.nx } σ2 H2)
def jZ (fp : List Addr) (h : Heap) : List (Addr × Obj):=fp.filterMap fun b=>(h.get? b).map fun o=>(b,o)
theorem fU {fp : List Addr} {h : Heap} {b : Addr} {o : Obj} (hb : b ∈ fp) (e : h.get? b = some o) : (b,o) ∈ jZ fp h:=List.mem_filterMap.mpr ⟨b,hb,by rw [e]; rfl⟩
theorem wG {fp : List Addr} {h : Heap} {p : Addr × Obj} (hp : p ∈ jZ fp h) : p.1 ∈ fp/\h.get? p.1 = some p.2:=by
 obtain ⟨b,hb,e⟩:=List.mem_filterMap.mp hp
 cases q : h.get? b with
 | none=>rw [q] at e; cases e
 | some o =>
  rw [q] at e
  have e' : (b,o) = p:=Option.some.inj e
  subst e'
  exact ⟨hb,q⟩
theorem Inv.pinned {pins : List (Addr × Obj)} {σ : St} {H : Hp} {s : Shared} {fp : List Addr} (I : Inv X pins σ H s) (hf : ∀ b ∈ fp,jY X pins H b) (ho : ∀ b ∈ fp,∃ o,s.heap.get? b = some o/\∀ v,o.data ≠ .cell v) : Inv X (pins ++ jZ fp s.heap) σ H s :=
 I.pins_of fun p hp=>(List.mem_append.mp hp).elim (fun z=>I.pin p (mY _ z)) fun z=>by
  obtain ⟨hb,e⟩:=wG z
  obtain ⟨f0,f1,f2,_⟩:=hf p.1 hb
  obtain ⟨o,e',d⟩:=ho p.1 hb
  rw [e] at e'; cases e'
  exact ⟨e,f0,f1,f2,d⟩
theorem Inv.unpinned {pins pl : List (Addr × Obj)} {σ : St} {H : Hp} {s : Shared} (I : Inv X (pins ++ pl) σ H s) : Inv X pins σ H s:=I.pins_of fun p hp=>I.pin p (mY _ (List.mem_append_left _ hp))
theorem xY {iter : Expr} {body : List Stmt} {wi : TI} {g : TG} {tb : TS} {pos : Pos} (hp : PassesOwn (model X.prog X.w) X.A X.env X.xe) (hc : X.calm = true) (hi : PI X tg iter wi) (hg : PG X tg g) (hb : PSs X body tb)
  (hs : ∀ x,foldedSetIterable iter X.env x = pure x:=by intro _; rfl) : PS X (.For tg iter body [] pos) (BZ wi g tb):=by
 intro pins s σ H D I h
 refine wpAny_For (thn (hi pins s σ H _ I h) fun v s1 h1=>thn h1 fun itv s2 h2=>?_) hs
 obtain ⟨it,fp,tn,J,H2,e,I2,T,st2,f2,W,⟨m0,w0⟩,turn⟩:=h2
 subst e
 -- what stays true of the iterator's objects through the loop
 have stat : ∀ {H' : Hp},(∀ b ∈ fp,H' b = none)->∀ b ∈ fp,jY X pins H' b:=fun hn b hb=>⟨hn b hb,(f2 b hb).2⟩
 refine codeAny_forLoop_any (fun n s'=>∃ i σ' H',Inv X pins σ' H' s'/\tn i s'.heap/\(∀ b ∈ fp,H' b = none)/\W i n σ' H') ?_ m0 ⟨0,σ,H2,I2,st2,fun b hb=>(f2 b hb).1,w0⟩
 rintro n s3 ⟨i,σ3,H3,I3,st3,fr3,w3⟩
 rcases turn i n σ3 H3 w3 with ⟨stop,qn⟩ | ⟨go,N,hN,step⟩
 ·refine wpAny_passesOwn hp (thn (T.done X rfl rfl rfl hc i pins s3 σ3 H3 X.xe I3 (stat fr3) st3 stop) fun r s4 ⟨hr,I4⟩=>?_)
  subst hr
  exact wpAny_execs_nil ⟨σ3,H3,I4,qn⟩
 ·refine wpAny_passesOwn hp (thn (T.item X rfl rfl rfl hc i pins s3 σ3 H3 X.xe I3 (stat fr3) st3 go) fun r s4 ⟨u,hr,h4⟩=>?_)
  subst hr
  refine wpAny_passesOwn hp (thn h4 fun _ s5 ⟨x,H5,I5,r5,y5,st5,fr5⟩=>?_)
  have I5':=I5.pinned (stat fr5) (T.obj _ _ st5)
  refine wpAny_passesOwn hp (thn (hg _ s5 σ3 H5 x u _ I5' r5 (step x H5 y5)) fun _ s6 ⟨σ6,H6,I6,q6⟩=>?_)
  refine wpAny_passesOwn hp (thn (hb _ s6 σ6 H6 _ I6 q6) fun f s7 q7=>?_)
  have again : ∀ {σ7 : St} {H7 : Hp},Inv X (pins ++ jZ fp s5.heap) σ7 H7 s7->N σ7 H7->∃ m,m < n/\∃ i σ' H',Inv X pins σ' H' s7/\tn i s7.heap/\(∀ b ∈ fp,H' b = none)/\W i m σ' H':=fun {σ7 H7} I7 n7=>by
   obtain ⟨m',hm,w7⟩:=hN σ7 H7 n7
   refine ⟨m',hm,i + 1,σ7,H7,I7.unpinned,T.keep _ _ _ st5 fun b hb o e=>(I7.pin (b,o) (mY _ (mY _ (fU hb e)))).1,fun b hb=>?_,w7⟩
   obtain ⟨o,e,d⟩:=T.obj _ _ st5 b hb
   exact (I7.pin (b,o) (mY _ (mY _ (fU hb e)))).2.1
  cases f with
  | next=>obtain ⟨σ7,H7,I7,n7⟩:=q7; exact again I7 n7
  | cont=>obtain ⟨σ7,H7,I7,n7⟩:=q7; exact again I7 n7
  | brk=>obtain ⟨σ7,H7,I7,q7⟩:=q7; exact ⟨σ7,H7,I7.unpinned,q7⟩
  | ret v=>obtain ⟨x7,σ7,H7,I7,r7,q7⟩:=q7; exact ⟨x7,σ7,H7,I7.unpinned,r7,q7⟩
end
abbrev R2:=V->V->Hp->VK->Prop
def OpR (X : Cx) (f : Value->Value->Sem Value) (r : R2) : Prop :=
 ∀ (pins : List (Addr × Obj)) (s : Shared) (σ : St) (H : Hp) (x y : V) (v u : Value) (Q : VK),Inv X pins σ H s->aN x v->aN y u->r x y H Q ->
  wpAny (model X.prog X.w) X.A (f v u) (EP X pins σ Q) X.xe s
def UnR (X : Cx) (f : Value->Sem Value) (r : V->Hp->VK->Prop) : Prop :=
 ∀ (pins : List (Addr × Obj)) (s : Shared) (σ : St) (H : Hp) (x : V) (v : Value) (Q : VK),Inv X pins σ H s->aN x v->r x H Q ->
  wpAny (model X.prog X.w) X.A (f v) (EP X pins σ Q) X.xe s
def bR (X : Cx) (f : Value) (r : List V->Hp->VK->Prop) : Prop :=
 ∀ (pins : List (Addr × Obj)) (s : Shared) (σ : St) (H : Hp) (xs : List V) (us : List Value) (Q : VK),Inv X pins σ H s->aQ xs us->r xs H Q ->
  wpAny (model X.prog X.w) X.A (call f us) (EP X pins σ Q) X.xe s
def tOp (r : R2) (ta tb : TE) : TE:=fun σ H Q=>ta σ H fun x H1=>tb σ H1 fun y H2=>r x y H2 Q
def tUn (r : V->Hp->VK->Prop) (ta : TE) : TE:=fun σ H Q=>ta σ H fun x H1=>r x H1 Q
def rI (C : Int->Int->Prop) (g : Int->Int->V) : R2:=fun x y H Q=>∃ i j,x = .int i/\y = .int j/\C i j/\Q (g i j) H
def rI0 (g : Int->Int->V) : R2:=fun x y H Q=>∃ i j,x = .int i/\y = .int j/\Q (g i j) H
def rU (g : Int->V) : V->Hp->VK->Prop:=fun x H Q=>∃ i,x = .int i/\Q (g i) H
section
variable {X : Cx} {a b c : Expr} {ta tb tc : TE} {pos : Pos}
theorem Ca (ha : PE X a ta) (hb : PE X b tb) {pins : List (Addr × Obj)} {s : Shared} {σ : St} {H : Hp} {R : V->V->Hp->Prop} (I : Inv X pins σ H s)
  (h : ta σ H fun x H1=>tb σ H1 fun y H2=>R x y H2) {Q : Value->Shared->Prop} {f : Value->Value->Sem Value}
  (hf : ∀ v u s2 x y H2,Inv X pins σ H2 s2->aN x v->aN y u->R x y H2->wpAny (model X.prog X.w) X.A (f v u) Q X.xe s2) :
  wpAny (model X.prog X.w) X.A (eval a X.env) (fun v s₁=>wpAny (model X.prog X.w) X.A (eval b X.env) (fun u s₂=>wpAny (model X.prog X.w) X.A (f v u) Q X.xe s₂) X.xe s₁) X.xe s:=by
 refine thn (ha pins s σ H _ I h) fun v s1 ⟨x,H1,I1,r1,q1⟩=>?_
 refine thn (hb pins s1 σ H1 _ I1 q1) fun u s2 ⟨y,H2,I2,r2,q2⟩=>?_
 exact hf v u s2 x y H2 I2 r1 r2 q2
theorem D7 {op : Operator} {r : R2} (ho : OpR X (binaryOp op) r) (ha : PE X a ta) (hb : PE X b tb) : PE X (.BinOp a op b pos) (tOp r ta tb):=by
 intro pins s σ H Q I h
 exact wpAny_BinOp (Ca ha hb I h fun v u s2 x y H2 I2 rx ry q=>ho pins s2 σ H2 x y v u Q I2 rx ry q)
theorem D8 {op : UnaryOp} {r : V->Hp->VK->Prop} (ho : UnR X (unaryOp op) r) (ha : PE X a ta) : PE X (.UnaryOp op a pos) (tUn r ta):=by
 intro pins s σ H Q I h
 exact UnaryOp_ (thn (ha pins s σ H _ I h) fun v s1 ⟨x,H1,I1,r1,q1⟩=>ho pins s1 σ H1 x v Q I1 r1 q1)
theorem opI {f : Value->Value->Sem Value} {C : Int->Int->Prop} {g : Int->Int->Int}
  (rule : ∀ (i j : Int) (t u : Tok) (s : Shared) (Q : Value->Shared->Prop) (E : Value->Shared->Prop),C i j->Q (.int (g i j) s.toks) { s with toks:=s.toks + 1 }->wpAny (model X.prog X.w) X.A (f (.int i t) (.int j u)) Q E s) :
  OpR X f (rI C fun i j=>.int (g i j)):=by
 intro pins s σ H x y v u Q I rx ry h
 obtain ⟨i,j,rfl,rfl,hc,q⟩:=h
 obtain ⟨t,rfl⟩:=rx
 obtain ⟨t',rfl⟩:=ry
 exact rule i j t t' s _ _ hc ⟨.int (g i j),H,I.tok _,⟨_,rfl⟩,q⟩
theorem D9 {f : Value->Value->Sem Value} {g : Int->Int->Int}
  (rule : ∀ (i j : Int) (t u : Tok) (s : Shared) (Q : Value->Shared->Prop) (E : Value->Shared->Prop),Q (.int (g i j) s.toks) { s with toks:=s.toks + 1 }->wpAny (model X.prog X.w) X.A (f (.int i t) (.int j u)) Q E s) :
  OpR X f (rI0 fun i j=>.int (g i j)):=by
 intro pins s σ H x y v u Q I rx ry h
 obtain ⟨i,j,rfl,rfl,q⟩:=h
 obtain ⟨t,rfl⟩:=rx
 obtain ⟨t',rfl⟩:=ry
 exact rule i j t t' s _ _ ⟨.int (g i j),H,I.tok _,⟨_,rfl⟩,q⟩
theorem Cb {f : Value->Value->Sem Value} {g : Int->Int->Bool}
  (rule : ∀ (i j : Int) (t u : Tok) (s : Shared) (Q : Value->Shared->Prop) (E : Value->Shared->Prop),Q (.bool (g i j)) s->wpAny (model X.prog X.w) X.A (f (.int i t) (.int j u)) Q E s) :
  OpR X f (rI0 fun i j=>.bl (g i j)):=by
 intro pins s σ H x y v u Q I rx ry h
 obtain ⟨i,j,rfl,rfl,q⟩:=h
 obtain ⟨t,rfl⟩:=rx
 obtain ⟨t',rfl⟩:=ry
 exact rule i j t t' s _ _ ⟨.bl (g i j),H,I,rfl,q⟩
def DA (i j : Int) : Prop:=0 < j/\j < 1073741824
def zR (i j : Int) : Prop:=(-(2 ^ 64) < i/\i < 2 ^ 64) ∨ (-(2 ^ 64) < j/\j < 2 ^ 64)
theorem zR.ok {i j : Int} (h : zR i j) : IntMulOk i j:=by
 rcases h with ⟨h1,h2⟩ | ⟨h1,h2⟩
 ·exact .of_left (intBits_le_64 h1 h2)
 ·exact .of_right (intBits_le_64 h1 h2)
theorem Cc : OpR X (binaryOp .Add) (rI0 fun i j=>.int (i + j)):=D9 fun _ _ _ _ _ _ _ q=>add_int q
theorem Ce : OpR X (binaryOp .Sub) (rI0 fun i j=>.int (i - j)):=D9 fun _ _ _ _ _ _ _ q=>sub_int q
theorem Cf : OpR X (binaryOp .Mult) (rI zR fun i j=>.int (i * j)):=opI fun _ _ _ _ _ _ _ hc q=>mul_int q hc.ok
theorem zS : OpR X (binaryOp .FloorDiv) (rI DA fun i j=>.int (i / j)):=opI fun i j _ _ _ _ _ hc q=>by
 have h1 : (0 : Int) < j:=hc.1
 have h2 : j < 1073741824:=hc.2
 exact floordiv_int (by omega) (by rw [Int.fdiv_eq_ediv_of_nonneg i (by omega)]; exact q) (.inl (PyProof.noPylong_small (by omega)))
theorem Cg : OpR X (binaryOp .Mod) (rI (fun _ j=>0 < j) fun i j=>.int (i % j)):=opI fun i j _ _ _ _ _ hc q=>by
 have h1 : (0 : Int) < j:=hc
 exact mod_int' (by omega) (by rw [Int.fmod_eq_emod_of_nonneg i (by omega)]; exact q)
theorem unI {f : Value->Sem Value} {g : Int->Int}
  (rule : ∀ (i : Int) (t : Tok) (s : Shared) (Q : Value->Shared->Prop) (E : Value->Shared->Prop),Q (.int (g i) s.toks) { s with toks:=s.toks + 1 }->wpAny (model X.prog X.w) X.A (f (.int i t)) Q E s) :
  UnR X f (rU fun i=>.int (g i)):=by
 intro pins s σ H x v Q I rx h
 obtain ⟨i,rfl,q⟩:=h
 obtain ⟨t,rfl⟩:=rx
 exact rule i t s _ _ ⟨.int (g i),H,I.tok _,⟨_,rfl⟩,q⟩
theorem Ch : UnR X (unaryOp .USub) (rU fun i=>.int (-i)):=unI fun _ _ _ _ _ q=>neg_int q
theorem wH : OpR X (binaryOp .Add) (fun x y H Q=>∃ i k,x = .int i/\y = .bl k/\Q (.int (i + b2i k)) H):=by
 intro pins s σ H x y v u Q I rx ry h
 obtain ⟨i,k,rfl,rfl,q⟩:=h
 obtain ⟨t,rfl⟩:=rx
 cases ry
 exact add_int_bool ⟨.int (i + b2i k),H,I.tok _,⟨_,rfl⟩,q⟩
end
section
variable {X : Cx} {a b c : Expr} {ta tb tc : TE} {pos : Pos}
theorem DB : OpR X (compareOp .Lt) (rI0 fun i j=>.bl (decide (i < j))):=Cb fun _ _ _ _ _ _ _ q=>lt_int q
theorem DC : OpR X (compareOp .LtE) (rI0 fun i j=>.bl (decide (i<=j))):=Cb fun _ _ _ _ _ _ _ q=>le_int q
theorem DD : OpR X (compareOp .Gt) (rI0 fun i j=>.bl (decide (j < i))):=Cb fun _ _ _ _ _ _ _ q=>gt_int q
theorem OpR.or {f : Value->Value->Sem Value} {r r' : R2} (h : OpR X f r) (h' : OpR X f r') : OpR X f (fun x y H Q=>r x y H Q ∨ r' x y H Q):=by
 intro pins s σ H x y v u Q I rx ry q
 rcases q with q | q
 ·exact h pins s σ H x y v u Q I rx ry q
 ·exact h' pins s σ H x y v u Q I rx ry q
theorem EF (b : Expr) {op : CmpOp} (h : op ≠ .In:=by decide) (h2 : op ≠ .NotIn:=by decide) : behindInMarks op b = false:=by
 have e1 : (op == CmpOp.In) = false:=by cases op <;> first | rfl | exact absurd rfl h
 have e2 : (op == CmpOp.NotIn) = false:=by cases op <;> first | rfl | exact absurd rfl h2
 cases b <;> simp [behindInMarks,e1,e2]
theorem zT {op : CmpOp} {r : R2} (ho : OpR X (compareOp op) r) (ha : PE X a ta) (hb : PE X b tb) (hm : behindInMarks op b = false) : PE X (.Compare a [op] [b] pos) (tOp r ta tb):=by
 intro pins s σ H Q I h
 exact wpAny_Compare1 (Ca ha hb I h fun v u s2 x y H2 I2 rx ry q=>ho pins s2 σ H2 x y v u Q I2 rx ry q) hm
def DE (t : TE) : TT:=fun σ H Q=>t σ H fun x H'=>∃ k,x = .bl k/\Q k H'
theorem zU {op : CmpOp} {r : R2} (ho : OpR X (compareOp op) r) (ha : PE X a ta) (hb : PE X b tb) (hm : behindInMarks op b = false) : PT X (.Compare a [op] [b] pos) (DE (tOp r ta tb)):=by
 intro pins s σ H Q I h
 refine wpAny_isTrue_Compare1 (thn (ha pins s σ H _ I h) fun v s1 ⟨x,H1,I1,r1,q1⟩=>thn (hb pins s1 σ H1 _ I1 q1) fun u s2 ⟨y,H2,I2,r2,q2⟩ =>
  thn (ho pins s2 σ H2 x y v u _ I2 r1 r2 q2) fun c s3 ⟨z,H3,I3,r3,k,e,q3⟩=>?_) hm
 subst e
 cases r3
 exact wpAny_truthy_bool ⟨H3,I3,q3⟩
def xZ (r r' : R2) (ta tb tc : TE) : TE:=fun σ H Q=>ta σ H fun x H1=>tb σ H1 fun y H2=>r x y H2 fun z H3=>∃ k,z = .bl k /\
 (if k = true then tc σ H3 fun w' H4=>r' y w' H4 Q else Q (.bl false) H3)
theorem ya {op op' : CmpOp} {r r' : R2} (ho : OpR X (compareOp op) r) (ho' : OpR X (compareOp op') r') (ha : PE X a ta) (hb : PE X b tb) (hc : PE X c tc)
  (hm : lastMarks [op,op'] [b,c] = false:=by with_unfolding_all rfl) : PE X (.Compare a [op,op'] [b,c] pos) (xZ r r' ta tb tc):=by
 intro pins s σ H Q I h
 refine Compare_chain (thn (ha pins s σ H _ I h) fun v s1 ⟨x,H1,I1,r1,q1⟩=>chain_link (thn (hb pins s1 σ H1 _ I1 q1) fun u s2 ⟨y,H2,I2,r2,q2⟩ =>
  thn (ho pins s2 σ H2 x y v u _ I2 r1 r2 q2) fun d s3 ⟨z,H3,I3,r3,k,e,q3⟩=>?_)) hm
 subst e
 cases r3
 refine wpAny_truthy_bool ?_
 cases k with
 | false=>exact ite_ff ⟨.bl false,H3,I3,rfl,q3⟩
 | true=>exact ite_tt (chain_last (thn (hc pins s3 σ H3 _ I3 q3) fun w' s4 ⟨z',H4,I4,r4,q4⟩=>ho' pins s4 σ H4 y z' u w' Q I4 r2 r4 q4))
theorem lM : (sizeLine : Nat) < 2 ^ 63:=by rw [sizeLine_eq]; decide
theorem ue : OpR X (binaryOp .Add) (fun x y H Q=>∃ i j,x = .str i/\y = .str j/\i.length + j.length<=sizeLine/\Q (.str (i ++ j)) H):=by
 intro pins s σ H x y v u Q I rx ry h
 obtain ⟨i,j,rfl,rfl,hz,q⟩:=h
 obtain ⟨t,rfl⟩:=rx
 obtain ⟨t',rfl⟩:=ry
 exact add_str (fun t' tk=>⟨.str (i ++ j),H,I.tok _,⟨_,rfl⟩,q⟩) hz
theorem iJ {x : V} {us : List Value} (r : aQ [x] us) : ∃ u,us = [u]/\aN x u:=by
 cases r with
 | cons r1 r2=>cases r2; exact ⟨_,rfl,r1⟩
theorem DF {x y : V} {us : List Value} (r : aQ [x,y] us) : ∃ u w',us = [u,w']/\aN x u/\aN y w':=by
 cases r with
 | cons r1 r2 =>
  cases r2 with
  | cons r3 r4=>cases r4; exact ⟨_,_,rfl,r1,r3⟩
theorem wI (hc : X.calm = true) : bR X (.builtin "min") (fun xs H Q=>∃ i j,xs = [.int i,.int j]/\Q (.int (if j < i then j else i)) H):=by
 intro pins s σ H xs us Q I r h
 obtain ⟨i,j,rfl,q⟩:=h
 obtain ⟨u,w',rfl,⟨t,rfl⟩,⟨t',rfl⟩⟩:=DF r
 refine min_two_ints (I.ok.hd hc) fun h' tk k=>⟨_,H,I.kept k, ?_,q⟩
 by_cases hj : j < i
 ·rw [if_pos hj,if_pos hj]; exact ⟨_,rfl⟩
 ·rw [if_neg hj,if_neg hj]; exact ⟨_,rfl⟩
end
structure ObjM (h : Heap) (x dx C : Addr) (mA : Str->Option Value) : Prop where
 obj : h.get? x = some (PySem.W.instObj C dx)
 ns : h.Ns1 dx mA
 ne : dx ≠ x
theorem wJ {h : Heap} {dx : Addr} {mA : Str->Option Value} (n : h.Ns1 dx mA) : ∃ od,h.get? dx = some od/\∀ name,PySem.W.lookIn name od = some (mA name):=by
 obtain ⟨o,es,ep,ho,hd,hk,_,hm⟩:=n
 refine ⟨o,ho,fun name=>?_⟩
 have e:=hm name
 unfold nsFind findBy at e
 rw [← Array.find?_toList] at e
 unfold PySem.W.lookIn
 rw [hd]
 dsimp only
 split
 ·rename_i y q
  rw [q] at e
  exact congrArg some e
 ·rename_i q
  rw [q] at e
  have a : es.toList.any (·.refKey) = false:=by
   rw [List.any_eq_false]
   intro y hy
   obtain ⟨z,t,hkey⟩:=hk y (Array.mem_toList_iff.mp hy)
   simp [DictEntry.refKey,hkey]
  have a' : ¬ es.toList.any (·.refKey) = true:=by rw [a]; exact Bool.false_ne_true
  rw [if_neg a']
  exact congrArg some e
theorem ObjM.look {h : Heap} {x dx C : Addr} {mA : Str->Option Value} (I : ObjM h x dx C mA) : ∃ od,PySem.W.InstAt h x (PySem.W.instObj C dx) C (some od)/\∀ name,PySem.W.lookIn name od = some (mA name) :=
 let ⟨od,ho,hl⟩:=wJ I.ns
 ⟨od,⟨I.obj,rfl,rfl,ho⟩,hl⟩
section
variable {prog : Program} {w : World} {A : Around} {E : Value->Shared->Prop} {s : Shared} {K : PySem.W.Frag} {x dx C f : Addr} {mA : Str->Option Value} {name : Str} {v : Value}
theorem yc {pl : Sem Bool} {Q : Value × List Value->Shared->Prop} (X : K.In s.heap) (I : ObjM s.heap x dx C mA) (hg : PySem.W.plainGet K C name = true)
  (hf : PySem.W.findIn K (.ref C) name = some (some (.ref f))) (ht : PySem.W.isFn K (.ref f) = true) (hv : mA name = none) (h : Q (.ref f,[.ref x]) s) :
  wpAny (model prog w) A (getMethod (.ref x) name pl) Q E s:=by
 obtain ⟨od,J,hl⟩:=I.look
 exact PySem.W.method_fn X J (PySem.W.plainGet_of hg).1 (PySem.W.plainGet_of hg).2 hf (beq_iff_eq.mp ht) (by show (PySem.W.lookIn name od).map (·.isSome) = some false; rw [hl,hv]; rfl) h
theorem DG {R : Result->Shared->Prop} {vs : List Value} {kw : List (Str × Value)} (X : K.In s.heap) (hm : PySem.W.makesIn K C = true)
  (hi : PySem.W.findIn K (.ref C) "__init__" = some (some (.ref f))) (hf : PySem.W.typeIn K (.ref f) = some (.type "function"))
  (h : codeAny (model prog w) (A.under (.builtin "type.__call__" ⟨.ref C :: vs,kw⟩)) (.call (.ref f) ⟨.ref (s.heap.objs.size + 1) :: vs,kw⟩) (PySem.W.InitBack (s.heap.objs.size + 1) R)
   { s with heap:=(s.heap.push PySem.W.emptyDict).push (PySem.W.instObj C s.heap.objs.size) }) :
  codeAny (model prog w) A (.call (.ref C) ⟨vs,kw⟩) R s:=by
 obtain ⟨hh,g,d,t,os⟩:=s
 exact PySem.W.make_core (PySem.W.makes_of X hm) (PySem.W.looks_findIn X hi) (fun self=>PySem.W.bind_fn X self hf) (.inl rfl) h
end
theorem ly.none_of {o : Option Value} (r : ly none o) : o = none:=by
 cases o with
 | none=>rfl
 | some u=>exact (show False from r).elim
section
variable {P : Program} {w : World} {H H' : Hp} {h h' : Heap} {a C dx : Addr} {fs fs' : List (Str × V)}
theorem zV (hok : HOk P w H h) (e : H a = some (.ins C dx fs)) : ∃ mA,ObjM h a dx C mA/\(∀ f,ly (fs.lookup f) (mA f))/\PySem.Within mA (fs.map (·.1))/\fs.length<=1000/\H dx = some (.own a):=by
 obtain ⟨d,z,ne,ob,mA,n,r,q⟩:=(show bD P w H h a (.ins C dx fs) from hok a _ e)
 exact ⟨mA,⟨ob,n,ne⟩,r,q,z,d⟩
end
structure Cls (K : PySem.W.Frag) (C : Addr) : Prop where
 pg : PySem.W.plainGet K C Str.empty = true
 hd : PySem.W.hasDictIn K C = true
 po : PySem.W.plainOver K C = true
 sa : PySem.W.findIn K (.ref C) "__setattr__" = some (some (.builtin "object.__setattr__"))
theorem Cls.get {K : PySem.W.Frag} {C : Addr} (c : Cls K C) (f : Str) : PySem.W.plainGet K C f = true:=c.pg
def Ci (K : PySem.W.Frag) (C : Addr) (f : Str) : Prop:=PySem.W.findIn K (.ref C) f = some none
structure Meth (K : PySem.W.Frag) (C : Addr) (m : Str) (f : Addr) : Prop where
 at_ : PySem.W.findIn K (.ref C) m = some (some (.ref f))
 fn : PySem.W.isFn K (.ref f) = true
 kp : PySem.W.keepIn K (.ref f) = true
section
variable {X : Cx} {pins : List (Addr × Obj)} {σ : St} {H : Hp} {s : Shared} {a C dx : Addr} {fs : List (Str × V)} {f : Str} {v : V} {A : Around} {E : Value->Shared->Prop}
theorem ug {m : Str} {g : Addr} {pl : Sem Bool} {Q : Value × List Value->Shared->Prop} (I : Inv X pins σ H s) (e : H a = some (.ins C dx fs)) (c : Cls X.K C) (k : Meth X.K C m g) (l : fs.lookup m = none)
  (h : Q (.ref g,[.ref a]) s) : wpAny (model X.prog X.w) A (getMethod (.ref a) m pl) Q E s:=by
 obtain ⟨mA,O,r,_,_,_⟩:=zV I.hok e
 have hn : mA m = none:=ly.none_of (by rw [← l]; exact r m)
 exact yc I.kIn O (c.get m) k.at_ k.fn hn h
theorem Inv.made (I : Inv X pins σ H s) : Inv X pins σ (upd (upd H s.heap.objs.size (.own (s.heap.objs.size + 1))) (s.heap.objs.size + 1) (.ins C s.heap.objs.size []))
  { s with heap:=(s.heap.push PySem.W.emptyDict).push (PySem.W.instObj C s.heap.objs.size) }:=by
 have e1 : (s.heap.push PySem.W.emptyDict).get? s.heap.objs.size = some PySem.W.emptyDict:=Heap.get?_push_size s.heap rfl
 have e2 : ((s.heap.push PySem.W.emptyDict).push (PySem.W.instObj C s.heap.objs.size)).get? (s.heap.objs.size + 1) = some (PySem.W.instObj C s.heap.objs.size):=by
  have:=Heap.get?_push_size (s.heap.push PySem.W.emptyDict) (o:=PySem.W.instObj C s.heap.objs.size) rfl
  rwa [Heap.size_push] at this
 have e3 : (s.heap.push PySem.W.emptyDict).Ns s.heap.objs.size (fun _=>none):=⟨PySem.W.emptyDict,#[],_,e1,rfl,(fun e he=>absurd he (by simp)),fun _=>rfl⟩
 have I1:=I.laid (a:=s.heap.objs.size) (o:=.own (s.heap.objs.size + 1)) (h':=s.heap.push PySem.W.emptyDict) (t':=s.toks) (fun b u q=>Heap.get?_push_of_some _ q) (Nat.le_refl _) ⟨_,e1⟩
 refine I1.laid (a:=s.heap.objs.size + 1) (o:=.ins C s.heap.objs.size []) (t':=s.toks) (fun b u q=>Heap.get?_push_of_some _ q) (Nat.le_of_eq (Heap.size_push _ _)) ?_
 have ne : s.heap.objs.size ≠ s.heap.objs.size + 1:=Nat.ne_of_lt (Nat.lt_succ_self _)
 refine ⟨by rw [a9 ne,a8],Nat.zero_le _,ne,e2,fun _=>none,(Heap.Ns1.of_empty e3).at fun o q=>Heap.get?_push_of_some _ q,fun _=>True.intro,fun y hy=>absurd rfl hy⟩
end
def Fs (K : PySem.W.Frag) (ta : TE) (f : Str) : TE:=fun σ H Q=>ta σ H fun x H1=>∃ a C dx fs v,x = .ref a/\H1 a = some (.ins C dx fs)/\Cls K C/\Ci K C f/\fs.lookup f = some v/\Q v H1
section
variable {X : Cx} {o e value : Expr} {f : Str} {pos pos' tpos : Pos} {ta tv : TE}
theorem Ba {pl : Sem Bool} {m : Str} {apos : Pos} {args : List Expr} {pins : List (Addr × Obj)} {s : Shared} {σ : St} {H : Hp} {Q : Value->Shared->Prop} {te : TE} (he : PE X e te) (I : Inv X pins σ H s)
  (h : te σ H fun x H1=>∃ a C dx fs g,x = .ref a/\H1 a = some (.ins C dx fs)/\Cls X.K C/\Meth X.K C m g/\fs.lookup m = none /\
   ∀ s1,Inv X pins σ H1 s1->wpAny (model X.prog X.w) X.A (callWith pos (.ref g) [.ref a] (backTo pos (starEach args X.env)) (backToKw pos (keywordEach [] X.env))) Q X.xe s1)
  (ht : eval (.Call (.Attribute e m apos) args [] pos) X.env = (do
   let ov ← eval e X.env
   standAt apos.atName
   let (f,first) ← holding [ov] (getMethod ov m pl)
   callWith pos f first (backTo pos (starEach args X.env)) (backToKw pos (keywordEach [] X.env)))) :
  wpAny (model X.prog X.w) X.A (eval (.Call (.Attribute e m apos) args [] pos) X.env) Q X.xe s:=by
 refine PySem.W.methodCall_KW (pl:=pl) (thn (he pins s σ H _ I h) fun u s1 ⟨x,H1,I1,rx,a,C,dx,fs,g,ex,ea,c,k,l,q⟩=>?_) ht
 subst ex
 obtain rfl : u = Value.ref a:=rx
 exact ug I1 ea c k l (q s1 I1)
end
section
variable {X : Cx} {pins : List (Addr × Obj)} {σ : St} {H : Hp} {s : Shared} {A : Around} {E : Value->Shared->Prop} {Q : Value->Shared->Prop} {c : Value} {b : Bool}
inductive TyOf (K : PySem.W.Frag) (H : Hp) : V->Value->Prop where
 | non : TyOf K H .non (.type "NoneType")
 | bl (x : Bool) : TyOf K H (.bl x) (.type "bool")
 | int (i : Int) : TyOf K H (.int i) (.type "int")
 | str (x : Str) : TyOf K H (.str x) (.type "str")
 | flt (x : UInt64) : TyOf K H (.flt x) (.type "float")
 | lst {a : Addr} {xs : List V} (e : H a = some (.lst xs)) : TyOf K H (.ref a) (.type "list")
 | frz {a : Addr} {o : Obj} {xs : List V} (e : H a = some (.frz o (.lst xs))) : TyOf K H (.ref a) (.type "list")
 | tup {a : Addr} {xs : List V} (e : H a = some (.tup xs)) : TyOf K H (.ref a) (.type "tuple")
 | dK {a : Addr} {kvs : List (Key × V)} (e : H a = some (.dK kvs)) : TyOf K H (.ref a) (.type "dict")
 | dT {a : Addr} {kvs : List (List Key × V)} (e : H a = some (.dT kvs)) : TyOf K H (.ref a) (.type "dict")
 | ins {a C dx : Addr} {fs : List (Str × V)} (e : H a = some (.ins C dx fs)) (cl : Cls K C) (ha : PySem.W.findIn K (.ref C) "__class__" = some (some (.builtin "object.__class__")))
   (hn : PySem.W.specialIn K (.builtin "object.__class__") "__get__" = some (some (.builtin "getset_descriptor.__get__"))) (htk : PySem.W.takesIn K (.builtin "object.__class__") = some true)
   (hm : PySem.W.mroIn K C (.type "object") = some true) : TyOf K H (.ref a) (.ref C)
end
structure Room (k : Nat) (A : Around) : Prop where
 hd : A.handled = none
 dp : A.depth + 3 * k + 5 < recursionLimit
 un : A.units + 16 * k + 200 < cLine
theorem Room.mono {j k : Nat} {A : Around} (r : Room k A) (h : j<=k) : Room j A:=⟨r.hd,by have:=r.dp; omega,by have:=r.un; omega⟩
theorem Room.deeper {k : Nat} {A : Around} (r : Room (k + 1) A) (env : Env) : Room k (A.deeper env) :=
 ⟨r.hd,by have:=r.dp; show A.depth + 1 + 3 * k + 5 < _; omega,by have:=r.un; show A.units + 3 + 16 * k + 200 < _; omega⟩
theorem Room.in1 {k : Nat} {A : Around} (r : Room (k + 1) A) : Room k A.in1 :=
 ⟨r.hd,by have:=r.dp; show A.depth + 3 * k + 5 < _; omega,by have:=r.un; show A.units + 1 + 16 * k + 200 < _; omega⟩
theorem Room.depth {k : Nat} {A : Around} (r : Room k A) : A.depth < recursionLimit:=by have:=r.dp; omega
def DH : TA:=fun _ H Q=>Q [] H
def Bb (ta : TE) (tr : TA) : TA:=fun σ H Q=>ta σ H fun x H1=>tr σ H1 fun xs H2=>Q (x :: xs) H2
section
variable {X : Cx} {e : Expr} {es : List Expr} {te : TE} {t : TA} {pos : Pos}
theorem g8 : PA X [] DH:=fun _ _ _ _ H Q I h=>Calls.spliced_nil ⟨[],H,I,.nil,h⟩
theorem eI (ha : PE X e te) (hr : PA X es t) (hs : starEach (e :: es) X.env = (false,eval e X.env) :: starEach es X.env:=by rfl) : PA X (e :: es) (Bb te t):=by
 intro pos pins s σ H Q I h
 rw [hs]
 show wpAny _ _ (spliced ((false,eval e X.env) :: backTo pos (starEach es X.env))) _ _ s
 refine Calls.spliced_cons (thn (ha pins s σ H _ I h) fun u s1 ⟨x,H1,I1,r1,q1⟩=>?_)
 exact thn (hr pos pins s1 σ H1 _ I1 q1) fun us s2 ⟨xs,H2,I2,r2,q2⟩=>⟨x :: xs,H2,I2,.cons r1 r2,q2⟩
def DI (t : TA) : TE:=fun σ H Q=>t σ H fun xs H1=>xs.length<=sizeLine/\∀ p,H1 p = none->Q (.ref p) (upd H1 p (.tup xs))
def EG (t : TA) : TE:=fun σ H Q=>t σ H fun xs H1=>xs.length<=sizeLine/\∀ p,H1 p = none->Q (.ref p) (upd H1 p (.lst xs))
theorem uh {x1} (h : PA X es t) : PE X (.Tuple es x1 pos) (DI t):=by
 intro pins s σ H Q I hq
 refine wpAny_Tuple_spliced (thn (h pos pins s σ H _ I hq) fun us s1 ⟨xs,H1,I1,r,z,q⟩=>⟨by rw [← r.length]; exact z, ?_⟩)
 have hf : H1 s1.heap.objs.size = none:=I1.hok.fresh (Nat.le_refl _)
 refine ⟨.ref s1.heap.objs.size,upd H1 s1.heap.objs.size (.tup xs),I1.laid (t':=s1.toks) (fun b u e=>Heap.get?_push_of_some _ e) (Nat.le_refl _) ?_,rfl,q _ hf⟩
 exact ⟨z,us,r,⟨_,Heap.get?_push_size _ rfl,rfl,_,rfl⟩⟩
theorem Cj (h : PA X es t) : PE X (.List es pos) (EG t):=by
 intro pins s σ H Q I hq
 refine wpAny_List_spliced (thn (h pos pins s σ H _ I hq) fun us s1 ⟨xs,H1,I1,r,z,q⟩=>⟨by rw [← r.length]; exact z, ?_⟩)
 have hf : H1 s1.heap.objs.size = none:=I1.hok.fresh (Nat.le_refl _)
 refine ⟨.ref s1.heap.objs.size,upd H1 s1.heap.objs.size (.lst xs),I1.laid (t':=s1.toks) (fun b u e=>Heap.get?_push_of_some _ e) (Nat.le_refl _) ?_,rfl,q _ hf⟩
 exact ⟨z,us,0,r,Heap.get?_push_size _ rfl⟩
end
abbrev Sp:=List V->Hp->VK->XK->Prop
abbrev CXT:=List Env->Hp->Shared->XK->Value->Shared->Prop
structure Env0 (P : Program) (w : World) (K : PySem.W.Frag) (mg : Str->Option Value) (base : Heap) (A : Around) (outer : List Env) (s : Shared) (H : Hp) : Prop where
 frames : A.frames = some outer
 mod : Mod K mg base
 bs : ∀ b o,base.get? b = some o->s.heap.get? b = some o/\H b = none
 bsz : base.objs.size<=s.heap.objs.size
 funs : s.heap.FunFrames base outer
 frf : ∀ b ∈ frs outer,H b = none
 hok : HOk P w H s.heap
 bare : AllBare s.gens
def CE (outer : List Env) (P : Program) (w : World) (H : Hp) (s : Shared) (Q : VK) (u : Value) (s' : Shared) : Prop :=
 ∃ v H',s'.os = s.os/\AllBare s'.gens/\Un (frs outer) [] H H' s.heap s'.heap/\HOk P w H' s'.heap/\aN v u/\Q v H'
def CR (CX : CXT) (outer : List Env) (P : Program) (w : World) (H : Hp) (s : Shared) (Q : VK) (E : XK) (r : Result) (s' : Shared) : Prop :=
 match r with
 | .ok (.ret u)=>CE outer P w H s Q u s'
 | .ok _=>False
 | .error e=>CX outer H s E e s'
structure FnOk (P : Program) (w : World) (K : PySem.W.Frag) (mg : Str->Option Value) (base : Heap) (CX : CXT) (k : Nat) (f : Addr) (fd : FuncData) (ps : List Str) (sp : Sp) : Prop where
 len : ∀ vs H Q E,sp vs H Q E->vs.length = ps.length
 run : ∀ (A : Around) (outer : List Env) (s : Shared) (H : Hp) (args : Args) (us : List Value) (vs : List V) (Q : VK) (E : XK),Room k A->Env0 P w K mg base A outer s H->BindsTo s fd args (ps.zip us)->aQ vs us->sp vs H Q E ->
  codeAny (model P w) A (.call (.ref f) args) (CR CX outer P w H s Q E) s
section
variable {X : Cx} {pins : List (Addr × Obj)} {σ : St} {H : Hp} {s s' : Shared}
theorem Inv.env0 (I : Inv X pins σ H s) : Env0 X.prog X.w X.K X.mg X.base X.A X.stack s H :=
 ⟨I.ok.frames,I.ok.mod,I.bs,Nat.le_trans I.ok.bsz I.sz,I.stack,I.stkFree,I.hok,I.bare⟩
theorem Inv.after {Q : VK} {u : Value} (I : Inv X pins σ H s) (h : CE X.stack X.prog X.w H s Q u s') : EP X pins σ Q u s':=by
 obtain ⟨v,H',os,bare,un,hok,r,q⟩:=h
 obtain ⟨hh,g,d,t,os'⟩:=s'
 obtain rfl : os' = s.os:=os
 exact ⟨v,H',I.call (h':=hh) (g':=g) (d':=d) (t':=t) (ch:=[]) un hok bare (fun b z=>absurd z (by simp)),r,q⟩
end
def DJ (sp : Sp) (dvs : List V) (E : XK) (t : TA) : TE:=fun σ H Q=>t σ H fun vs H1=>sp (vs ++ dvs) H1 Q E
def Ff (C : Addr) (m : Str) (sp : Sp) (dvs : List V) (E : XK) (ta : TE) (t : TA) : TE:=fun σ H Q=>ta σ H fun x H1=>∃ a dx fs,x = .ref a/\H1 a = some (.ins C dx fs)/\fs.lookup m = none /\
 t σ H1 fun vs H2=>sp (x :: (vs ++ dvs)) H2 Q E
def Fg (C : Addr) (sp : Sp) (dvs : List V) (E : XK) (t : TA) : TE:=fun σ H Q=>t σ H fun vs H1=>∀ x dx,H1 x = none->H1 dx = none->dx ≠ x ->
 sp (.ref x :: (vs ++ dvs)) (upd (upd H1 dx (.own x)) x (.ins C dx [])) (fun v H2=>v = .non/\Q (.ref x) H2) E
def o6 (K : PySem.W.Frag) (fd : FuncData) (ps : List Str) (ds : List Value) : Prop :=
 ∀ (s : Shared) (us : List Value),K.In s.heap->(us ++ ds).length = ps.length->BindsTo s fd ⟨us,[]⟩ (ps.zip (us ++ ds))
theorem o6.all {K : PySem.W.Frag} {fd : FuncData} {ps : List Str} (h : ∀ us : List Value,us.length = ps.length->bindArgs fd ⟨us,[]⟩ = pure (ps.zip us)) : o6 K fd ps []:=fun s us _ hl=>by
 rw [List.append_nil] at hl ⊢
 exact .of_eq (h us hl)
def ui (CX : CXT) (X : Cx) (E : XK) : Prop:=∀ (pins : List (Addr × Obj)) (σ : St) (H : Hp) (s : Shared) (e : Value) (s' : Shared),Inv X pins σ H s->CX X.stack H s E e s'->X.xe e s'
section
variable {X : Cx} {CX : CXT} {k : Nat} {f C : Addr} {fd : FuncData} {ps : List Str} {sp : Sp} {dvs : List V} {ds : List Value} {E : XK} {x m : Str} {p pos apos : Pos} {e o : Expr} {es : List Expr} {ta : TE} {t : TA}
theorem Ck {pins : List (Addr × Obj)} {σ : St} {H : Hp} {s : Shared} {Q : VK} {us : List Value} {vs : List V} (F : FnOk X.prog X.w X.K X.mg X.base CX k f fd ps sp) (hr : Room k X.A) (hb : o6 X.K fd ps ds) (hd : aQ dvs ds) (hx : ui CX X E)
  (I : Inv X pins σ H s) (r : aQ vs us) (h : sp (vs ++ dvs) H Q E) : wpAny (model X.prog X.w) X.A (call (.ref f) us) (EP X pins σ Q) X.xe s:=by
 have r2 : aQ (vs ++ dvs) (us ++ ds):=r.append hd
 have hl : (us ++ ds).length = ps.length:=by rw [← r2.length]; exact F.len _ _ _ _ h
 refine wpAny_call (codeAny_mono (F.run X.A X.stack s H ⟨us,[]⟩ (us ++ ds) (vs ++ dvs) Q E hr I.env0 (hb s us I.kIn hl) r2 h) fun r s' hq=>?_)
 cases r with
 | error e=>exact hx pins σ H s e s' I hq
 | ok fl =>
  cases fl with
  | ret u=>exact I.after hq
  | next=>exact False.elim hq
  | brk=>exact False.elim hq
  | cont=>exact False.elim hq
theorem zW (F : FnOk X.prog X.w X.K X.mg X.base CX k f fd ps sp) (hr : Room k X.A) (hg : Gl X x) (hm : X.mg x = some (.ref f)) (hk : PySem.W.keepIn X.K (.ref f) = true) (hb : o6 X.K fd ps ds) (hd : aQ dvs ds) (hx : ui CX X E)
  (ha : PA X (e :: es) t) (hdb : (x == ("__debug__" : Str)) = false:=by decide) (he : starEach (e :: es) X.env = (false,eval e X.env) :: starEach es X.env:=by rfl) (hpl : (backTo pos (starEach es X.env)).any (·.1) = false:=by rfl) :
  PE X (.Call (.Name x p) (e :: es) [] pos) (DJ sp dvs E t):=by
 intro pins s σ H Q I h
 refine wpAny_Call_Name_kw (pQ I hg hm ?_ hdb)
 refine PySem.W.callWith_K (h₀:=X.base) I.ok.mod.kin hk (thn (ha pos pins s σ H _ I h) fun us s1 ⟨vs,H1,I1,r,q⟩=>⟨I1.kIn, ?_⟩) he hpl
 exact Ck F hr hb hd hx I1 r q
end
structure FnScope (N P : List Str) (sc : Scope) : Prop where
 kind : sc.kind = .function
 co : sc.isCoroutine = false
 gen : sc.isGenerator = false
 nd : N.Nodup
 pre : N.take P.length = P
 par : ∀ x ∈ P,sc.names.lookup x = some .local ∨ sc.names.lookup x = some .cell
 nofree : ∀ y ∈ sc.names,y.2 ≠ .free
theorem o7 {kindOf : Str->Option NameKind} {x : Str} : ∀ {binds : List (Str × Value)} {m : Str->Option Value},(∀ v,(x,v) ∉ binds)->bindL kindOf binds m x = m x
 | [],_,_=>rfl
 | (n,v) :: r,m,h=>by
  unfold bindL
  rw [o7 fun w hw=>h w (mZ _ hw)]
  split
  ·have : x ≠ n:=by rintro rfl; exact h v mX
   simp [this]
  ·rfl
theorem o8 {kindOf : Str->Option NameKind} {x : Str} : ∀ {binds : List (Str × Value)} {m : Str->Option Value},(∀ v,(x,v) ∉ binds)->bindC kindOf binds m x = m x
 | [],_,_=>rfl
 | (n,v) :: r,m,h=>by
  unfold bindC
  rw [o8 fun w hw=>h w (mZ _ hw)]
  split
  ·rfl
  ·have : x ≠ n:=by rintro rfl; exact h v mX
   simp [this]
theorem o9 {kindOf : Str->Option NameKind} {x : Str} {v : Value} : ∀ {P : List Str} {vs : List Value} {i : Nat} {m : Str->Option Value},P.Nodup->P[i]? = some x->vs[i]? = some v->kindOf x = some .local ->
  bindL kindOf (P.zip vs) m x = some v
 | [],_,_,_,_,h,_,_=>by simp at h
 | _ :: _,[],_,_,_,_,h,_=>by simp at h
 | p :: P,w :: vs,0,m,nd,h1,h2,hk=>by
  simp at h1 h2; subst h1; subst h2
  show bindL kindOf ((p,w) :: P.zip vs) m p = _
  unfold bindL
  rw [o7 fun v hv=>(List.nodup_cons.mp nd).1 (List.of_mem_zip hv).1,if_pos hk]
  simp
 | p :: P,w :: vs,i + 1,m,nd,h1,h2,hk=>by
  show bindL kindOf ((p,w) :: P.zip vs) m x = _
  unfold bindL
  exact o9 (i:=i) (List.nodup_cons.mp nd).2 (by simpa using h1) (by simpa using h2) hk
theorem oA {kindOf : Str->Option NameKind} {x : Str} {v : Value} : ∀ {P : List Str} {vs : List Value} {i : Nat} {m : Str->Option Value},P.Nodup->P[i]? = some x->vs[i]? = some v->kindOf x ≠ some .local ->
  bindC kindOf (P.zip vs) m x = some v
 | [],_,_,_,_,h,_,_=>by simp at h
 | _ :: _,[],_,_,_,_,h,_=>by simp at h
 | p :: P,w :: vs,0,m,nd,h1,h2,hk=>by
  simp at h1 h2; subst h1; subst h2
  show bindC kindOf ((p,w) :: P.zip vs) m p = _
  unfold bindC
  rw [o8 fun v hv=>(List.nodup_cons.mp nd).1 (List.of_mem_zip hv).1,if_neg hk]
  simp
 | p :: P,w :: vs,i + 1,m,nd,h1,h2,hk=>by
  show bindC kindOf ((p,w) :: P.zip vs) m x = _
  unfold bindC
  exact oA (i:=i) (List.nodup_cons.mp nd).2 (by simpa using h1) (by simpa using h2) hk
def gu (N : List Str) (vs : List V) : St:=vs.map some ++ List.replicate (N.length - vs.length) none
def lN (CX : CXT) (P : Program) (w : World) (K : PySem.W.Frag) (mg : Str->Option Value) (base : Heap) (N : List Str) (qual : Str) (scope : Scope) (f : Addr) (cd : Value) (A : Around) (outer : List Env) (s : Shared) (H : Hp) (E : XK) : Cx where
 prog:=P
 w:=w
 K:=K
 mg:=mg
 base:=base
 A:=A.deeper (envOfC qual scope s.heap.objs.size f cd)
 N:=N
 s₀:=s
 H₀:=H
 env:=envOfC qual scope s.heap.objs.size f cd
 outer:=outer
 stack:=envOfC qual scope s.heap.objs.size f cd :: outer
 ex:=[]
 calm:=true
 fn:=fun _=>true
 pn:=[]
 xe:=fun e s'=>wpAny (model P w) (A.deeper (envOfC qual scope s.heap.objs.size f cd)) (leaving (envOfC qual scope s.heap.objs.size f cd) e) (fun _ s''=>CX outer H s E e s'') (fun e' s''=>CX outer H s E e' s'') s'
theorem rJ {sc : Scope} {n : Nat} {x : Str} (h : sc.names.lookup x = some .cell) : ∃ c,(cellsFrom n sc.names []).lookup x = some c:=by
 have q:=PySem.W.cellsFrom_some sc.names n [] (.inl h)
 exact Option.isSome_iff_exists.mp q
theorem wK {CX : CXT} {P : Program} {w : World} {K : PySem.W.Frag} {mg : Str->Option Value} {base : Heap} {N ps : List Str} {qual : Str} {scope : Scope} {f : Addr} {cd : Value} {A : Around} {outer : List Env} {s s1 : Shared} {H : Hp} {E : XK} {us : List Value} {vs : List V}
  (S : FnScope N ps scope) (hd : A.handled = none) (e0 : Env0 P w K mg base A outer s H) (hl : vs.length = ps.length) (r : aQ vs us)
  (x : InCallC s s.heap.objs.size (bindL (envOfC qual scope s.heap.objs.size f cd).kindOf (ps.zip us) fun _=>none) (cellsFrom (s.heap.objs.size + 1) scope.names []) (bindC (envOfC qual scope s.heap.objs.size f cd).kindOf (ps.zip us) fun _=>none) s1) :
  Inv (lN CX P w K mg base N qual scope f cd A outer s H E) [] (gu N vs) H s1:=by
 have hpl : ps.length<=N.length:=by have:=congrArg List.length S.pre; rw [List.length_take] at this; omega
 obtain ⟨h1,tk,rfl,hk⟩:=x.done
 have noA : ∀ b : Addr,b ∉ (lN CX P w K mg base N qual scope f cd A outer s H E).ex:=fun b z=>absurd (show b ∈ ([] : List Addr) from z) (by simp)
 refine ⟨⟨e0.mod,S.kind,rfl,rfl,Nat.le_refl _,fun y z c h1 h2=>?_,fun y hy=>?_,fun y c _ h=>?_,fun _=>hd,Around.frames_deeper e0.frames,.inr ⟨rfl,rfl⟩,fun b z=>absurd z (noA b),e0.bs,e0.bsz,fun b _ _=>noA b,fun b z=>absurd z (noA b),e0.funs,e0.frf⟩,
  rfl,e0.bare,Un.kept hk,⟨_,x.toInCall.ns,fun i y v h1 h2 h3=>?_⟩,fun y c h=>⟨_,x.cell y c h⟩,e0.hok.fresh (Nat.le_refl _),fun y c h=>?_,fun p hp=>absurd (show p ∈ ([] : List (Addr × Obj)) from hp) (by simp),e0.hok.kept hk, ?_⟩
 ·exact name_of_addr x.apart (PySem.mem_of_lookup h1) (PySem.mem_of_lookup h2)
 ·have hy : scope.names.lookup y = some .cell ∨ scope.names.lookup y = some .free:=hy
  rcases hy with hy | hy
  ·exact rJ hy
  ·exact absurd rfl (S.nofree _ (PySem.mem_of_lookup hy))
 ·exact Nat.le_of_lt (x.above y c (PySem.mem_of_lookup h))
 ·have hi : i < vs.length:=by
   unfold gu at h2
   by_cases hi : i < vs.length
   ·exact hi
   ·rw [List.getElem?_append_right (by simpa using hi)] at h2
    rw [List.getElem?_replicate] at h2
    split at h2 <;> cases h2
  have ha : vs[i]? = some v:=by
   unfold gu at h2
   rw [List.getElem?_append_left (by simpa using hi),List.getElem?_map] at h2
   cases e : vs[i]? with
   | none=>rw [e] at h2; cases h2
   | some a=>rw [e] at h2; cases h2; rfl
  obtain ⟨u,hu,rv⟩:=r.get ha
  have hp : ps[i]? = some y:=by
   rw [← S.pre,List.getElem?_take_of_lt (by omega)]; exact h1
  have ndP : ps.Nodup:=by rw [← S.pre]; exact S.nd.sublist (List.take_sublist _ _)
  refine ⟨u,rv, ?_⟩
  rcases S.par y (List.mem_of_getElem? hp) with k | k
  ·exact .inl ⟨k,o9 ndP hp hu k⟩
  ·obtain ⟨c,e⟩:=rJ (n:=s.heap.objs.size + 1) k
   refine .inr ⟨.inl k,c,e, ?_⟩
   have q:=x.cell y c e
   rw [oA ndP hp hu (by show scope.names.lookup y ≠ _; rw [k]; decide)] at q
   exact q
 ·exact e0.hok.fresh (Nat.le_of_lt (x.above y c (PySem.mem_of_lookup h)))
 ·unfold gu
  show _ = N.length
  rw [List.length_append,List.length_map,List.length_replicate]
  omega
theorem Bc {CX : CXT} {P : Program} {w : World} {K : PySem.W.Frag} {mg : Str->Option Value} {base : Heap} {k : Nat} {f : Addr} {name qual : Str} {params : Arguments} {body : List Stmt} {scope : Scope} {dV kV doc pm cdv ct oc : Value} {an od : Option Addr}
  {osl : Array (Option Value)} {N ps : List Str} {sp : Sp} (lk : K.lookup f = some ⟨oc,od,.func (PySem.W.fnOf name qual params body scope dV kV doc pm an cdv ct),osl⟩) (hcd : PySem.W.codeIn K cdv qual = true) (S : FnScope N ps scope)
  (len : ∀ vs H Q E,sp vs H Q E->vs.length = ps.length)
  (hbody : ∀ (A : Around) (outer : List Env) (s : Shared) (H : Hp) (vs : List V) (Q : VK) (E : XK),Room k (A.deeper (envOfC qual scope s.heap.objs.size f cdv))->sp vs H Q E ->
   ∃ t,PSs (lN CX P w K mg base N qual scope f cdv A outer s H E) body t/\t { nx:=fun _ H'=>Q .non H',rt:=Q } (gu N vs) H) :
  FnOk P w K mg base CX (k + 1) f (PySem.W.fnOf name qual params body scope dV kV doc pm an cdv ct) ps sp:=by
 refine ⟨len,fun A outer s H args us vs Q E hr e0 hb r hsp=>?_⟩
 have hl:=len _ _ _ _ hsp
 have KX : K.In s.heap:=e0.mod.kin.keeps fun b o e=>(e0.bs b o e).1
 have lim : s.heap.NoLimit:=e0.mod.nolimit.keeps fun b o e=>(e0.bs b o e).1
 have hkind : ∀ y ∈ ps.zip us,scope.names.lookup y.1 = some .local ∨ (scope.names.lookup y.1 = some .cell/\((cellsFrom (s.heap.objs.size + 1) scope.names []).lookup y.1).isSome = true):=fun ⟨n,v⟩ hy=>by
  rcases S.par n (List.of_mem_zip hy).1 with q | q
  ·exact .inl q
  ·exact .inr ⟨q,PySem.W.cellsFrom_some _ _ _ (.inl q)⟩
 refine codeAny_call_function hr.depth (KX _ _ lk) rfl S.co S.gen rfl (PySem.W.codeRec_of KX hcd) (hb _ _ _ _ ?_)
 refine wpAny_newFunctionEnv_cells S.kind hkind fun env he s1 x=>?_
 subst he
 refine ⟨lim.keeps x.toInCall.keep,codeAny_func ?_⟩
 obtain ⟨t,ht,hq⟩:=hbody A outer s H vs Q E (hr.deeper _) hsp
 have I : Inv (lN CX P w K mg base N qual scope f cdv A outer s H E) [] (gu N vs) H s1:=wK S hr.hd e0 hl r x
 refine wpAny_mono (ht [] s1 (gu N vs) H _ I hq) (fun fl s' hs=>?_) fun e s' hs=>hs
 have fin : ∀ {σ' : St} {H' : Hp} {v : V} {u : Value},Inv (lN CX P w K mg base N qual scope f cdv A outer s H E) [] σ' H' s'->aN v u->Q v H'->CE outer P w H s Q u s' :=
  fun {σ' H' v u} J rv q=>⟨v,H',J.os,J.bare,J.base,J.hok,rv,q⟩
 cases fl with
 | ret u =>
  obtain ⟨v,σ',H',J,rv,q⟩:=hs
  exact fin J rv q
 | next =>
  obtain ⟨σ',H',J,q⟩:=hs
  exact fin (v:=V.non) (u:=Value.none) J rfl q
 | brk =>
  obtain ⟨_,_,_,q⟩:=hs
  exact False.elim q
 | cont =>
  obtain ⟨_,_,_,q⟩:=hs
  exact False.elim q
section
variable {X : Cx} {x : Str} {p pos : Pos} {e : Expr} {es : List Expr} {t : TA} {id T : String} {r : List V->Hp->VK->Prop}
def tCB (r : List V->Hp->VK->Prop) (t : TA) : TE:=fun σ H Q=>t σ H fun vs H1=>r vs H1 Q
theorem rK (hc : bR X (.builtin id) r) (hg : Gl X x) (hm : X.mg x = none) (hv : bootBuiltins x = some (.builtin id)) (ha : PA X (e :: es) t) (hn : x ≠ "__name__":=by decide) (hdb : (x == ("__debug__" : Str)) = false:=by decide)
  (he : starEach (e :: es) X.env = (false,eval e X.env) :: starEach es X.env:=by rfl) (hpl : (backTo pos (starEach es X.env)).any (·.1) = false:=by rfl) : PE X (.Call (.Name x p) (e :: es) [] pos) (tCB r t):=by
 intro pins s σ H Q I h
 refine wpAny_Call_Name_kw (iU I hg hm hv ?_ hn hdb)
 exact PyProof.Rows.callWith_builtin1 (thn (ha pos pins s σ H _ I h) fun us s1 ⟨vs,H1,I1,r1,q1⟩=>hc pins s1 σ H1 vs us Q I1 r1 q1) he hpl
theorem oB (hc : bR X (.type T) r) (hg : Gl X x) (hm : X.mg x = none) (hv : bootBuiltins x = some (.type T)) (ha : PA X (e :: es) t) (hn : x ≠ "__name__":=by decide) (hdb : (x == ("__debug__" : Str)) = false:=by decide)
  (he : starEach (e :: es) X.env = (false,eval e X.env) :: starEach es X.env:=by rfl) (hpl : (backTo pos (starEach es X.env)).any (·.1) = false:=by rfl) : PE X (.Call (.Name x p) (e :: es) [] pos) (tCB r t):=by
 intro pins s σ H Q I h
 refine wpAny_Call_Name_kw (iU I hg hm hv ?_ hn hdb)
 exact PyProof.Rows.callWith_type1 (thn (ha pos pins s σ H _ I h) fun us s1 ⟨vs,H1,I1,r1,q1⟩=>hc pins s1 σ H1 vs us Q I1 r1 q1) he hpl
end
end L2
namespace HT
open PySem PyProof.Rows
section
open PySem.SeqAt
open PySem.AutoSeq1 (wpAny_loadPart')
open PySem.MeetsSeq PySem.MeetsSeq2 PySem.MeetsSeq3
end
section
variable {prog : Program} {w : World} {A : Around} {E : Value->Shared->Prop} {s : Shared}
theorem zX {t b : Addr} {vs ws : List Value} {Q : Value->Shared->Prop} (ht : IsTup s.heap t vs.toArray) (hb : IsTup s.heap b ws.toArray) (hv : vs ≠ [])
  (h1 : ws = []->Q (.ref t) s) (h2 : ws ≠ []->Q (.ref s.heap.objs.size) { s with heap:=s.heap.push { cls:=.type "tuple",data:=.seq (vs ++ ws).toArray } })
  (hsz : vs.length + ws.length<=sizeLine) : wpAny (model prog w) A (binaryOp .Add (.ref t) (.ref b)) Q E s:=by
 obtain ⟨⟨cls,dd,data,sl⟩,ho,hc,n,hd⟩:=id ht
 obtain ⟨⟨cls2,dd2,data2,sl2⟩,ho2,hc2,n2,hd2⟩:=id hb
 simp only at hc hd hc2 hd2
 subst hc hd hc2 hd2
 have e : vs.toArray ++ ws.toArray = (vs ++ ws).toArray:=by simp
 by_cases hw : ws = []
 ·exact concat_meets ⟨_,ho,rfl⟩ ⟨_,ho2,rfl⟩ noFill_tuple_add seq_tuple_add PySem.F.slot_tuple_add PySem.F.entry_tuple_add (PySem.F.args_tuple_add_2 _ _)
   (tuple_addW1 t b vs.toArray ws.toArray n n2 dd dd2 sl sl2 (by simpa using hv) (by simp [hw])) ⟨ho,ho2,h1 hw⟩
 ·refine concat_meets ⟨_,ho,rfl⟩ ⟨_,ho2,rfl⟩ noFill_tuple_add seq_tuple_add PySem.F.slot_tuple_add PySem.F.entry_tuple_add (PySem.F.args_tuple_add_2 _ _)
   (tuple_addW2 t b vs.toArray ws.toArray n n2 dd dd2 sl sl2 (by simpa using hv) (by simpa using hw) (by rw [List.size_toArray,List.size_toArray]; exact hsz)) ⟨ho,ho2, ?_⟩
  rw [e]
  exact h2 hw
def sIx (n d : Nat) : Option Int->Nat
 | none=>d
 | some v=>if v < 0 then (v + (n : Int)).toNat else min v.toNat n
theorem Cm (n d : Nat) (hd : d<=n) (o : Option Int) : sIx n d o<=n:=by
 cases o with
 | none=>exact hd
 | some v =>
  show (if v < 0 then (v + (n : Int)).toNat else min v.toNat n)<=n
  by_cases hv : v < 0
  ·rw [if_pos hv]; omega
  ·rw [if_neg hv]; exact Nat.min_le_right _ _
theorem vy (v : Int) (n d : Nat) : (if v < 0 then max (v + (n : Int)) 0 else min v (n : Int)) = ((sIx n d (some v) : Nat) : Int):=by
 show (if v < 0 then max (v + (n : Int)) 0 else min v (n : Int)) = (((if v < 0 then (v + (n : Int)).toNat else min v.toNat n) : Nat) : Int)
 by_cases hv : v < 0
 ·simp only [if_pos hv]; omega
 ·simp only [if_neg hv]; omega
theorem uj (lo hi : Option Int) (n : Nat) : Builtin.Slice.sliceAdjust lo hi 1 (n : Int) = (((sIx n 0 lo : Nat) : Int),((sIx n n hi : Nat) : Int)):=by
 have h1 : ¬ ((1 : Int) < 0):=by omega
 unfold Builtin.Slice.sliceAdjust
 simp only [h1,if_false]
 refine Prod.ext ?_ ?_
 ·cases lo with
  | none=>rfl
  | some v=>exact vy v n 0
 ·cases hi with
  | none=>rfl
  | some v=>exact vy v n n
theorem ul (i j : Nat) : Builtin.Slice.slicePlaces (i : Int) (j : Int) 1 = j - i:=by
 unfold Builtin.Slice.slicePlaces
 have h1 : (1 : Int) > 0:=by omega
 simp only [h1,if_true,Int.ediv_one]
 split <;> omega
theorem lO {v : Value} {o : Option Int} {Q : Option Int->Shared->Prop} (p : IsPart v o) (h : Q o s) : wpAny (model prog w) A (Builtin.Slice.slicePartIndex v) Q E s:=by
 cases p with
 | none=>exact slicePart_none h
 | int i t=>exact slicePart_int h
theorem fz {sl : Addr} {vl vu : Value} {lo hi : Option Int} {n : Nat} {Q : Int × Int × Nat->Shared->Prop} (hs : s.heap.IsSliceOf sl vl vu .none) (pl : IsPart vl lo) (pu : IsPart vu hi)
  (h : Q (((sIx n 0 lo : Nat) : Int),1,sIx n n hi - sIx n 0 lo) s) : wpAny (model prog w) A (Builtin.Slice.sliceApplied (.ref sl) (pure (n : Int))) Q E s:=by
 obtain ⟨os,hos,hcs,hds⟩:=id hs
 unfold Builtin.Slice.sliceApplied Builtin.Slice.sliceFields
 refine wX (wX (wpAny_field hos hds (x:=vl) rfl (wX (wpAny_field hos hds (x:=vu) rfl (wX (wpAny_field hos hds (x:=.none) rfl (wY ?_)))))))
 refine wX (slicePart_none ?_)
 show wpAny _ _ (if ((1 : Int) == 0) = true then _ else _) _ _ s
 rw [if_neg (by decide)]
 refine wX (lO pl (wX (lO pu (wX (wY ?_)))))
 show wpAny _ _ (match Builtin.Slice.sliceAdjust lo hi 1 (n : Int) with | (lo,hi)=>pure (lo,(1 : Int),Builtin.Slice.slicePlaces lo hi 1)) _ _ s
 rw [uj lo hi n]
 show wpAny _ _ (pure (((sIx n 0 lo : Nat) : Int),(1 : Int),Builtin.Slice.slicePlaces ((sIx n 0 lo : Nat) : Int) ((sIx n n hi : Nat) : Int) 1)) _ _ s
 rw [ul]
 exact wY h
theorem ye (xs : Array Value) (i k : Nat) : ((List.range k).filterMap fun (m : Nat)=>xs[((i : Int) + (m : Int) * 1).toNat]?).toArray = ((xs.toList.drop i).take k).toArray:=by
 have e : (fun (m : Nat)=>xs[((i : Int) + (m : Int) * 1).toNat]?) = fun m=>xs[i + m]?:=by
  funext m
  have : ((i : Int) + (m : Int) * 1).toNat = i + m:=by omega
  rw [this]
 rw [e]
 have:=pick_run xs i k
 rw [List.filterMap_map] at this
 have e2 : ((fun x=>xs[x]?) ∘ fun x=>i + x) = fun m=>xs[i + m]?:=rfl
 rw [e2] at this
 rw [this]
theorem jt {t sl : Addr} {items : Array Value} {vl vu : Value} {lo hi : Option Int} {Q : Value->Shared->Prop} (ht : IsTup s.heap t items) (hs : s.heap.IsSliceOf sl vl vu .none) (pl : IsPart vl lo) (pu : IsPart vu hi)
  (hw : ¬ (sIx items.size 0 lo = 0/\sIx items.size items.size hi = items.size))
  (h : Q (.ref s.heap.objs.size) { s with heap:=s.heap.push { cls:=.type "tuple",data:=.seq ((items.toList.drop (sIx items.size 0 lo)).take (sIx items.size items.size hi - sIx items.size 0 lo)).toArray } })
  (hsz : items.size<=sizeLine) : wpAny (model prog w) A (getItem (.ref t) (.ref sl)) Q E s:=by
 have htake : sizeOk (.seq ((items.toList.drop (sIx items.size 0 lo)).take (sIx items.size items.size hi - sIx items.size 0 lo)).toArray):=by
  show ((items.toList.drop (sIx items.size 0 lo)).take (sIx items.size items.size hi - sIx items.size 0 lo)).toArray.size<=sizeLine
  rw [List.size_toArray,List.length_take,List.length_drop,Array.length_toList]
  omega
 have hj : sIx items.size items.size hi<=items.size:=Cm _ _ (Nat.le_refl _) hi
 obtain ⟨os,hos,hcs,hds⟩:=id hs
 have hTs : s.TypeIs (.ref sl) "slice":=⟨os,hos,hcs⟩
 unfold getItem
 try with_reducible refine wpAny_holding ?_
 first | refine wX (wY ?_) | skip
 refine wX (wpAny_sequenceKey ht.typeIs (by decide) ?_)
 refine wX (wpAny_callSpecial?_slot (name:=Str.ofString "__getitem__") ht.typeIs PyProof.Rows.slot_tuple_getitem
  (wpAny_call_entry PyProof.Rows.slot_tuple_getitem ht.typeIs entry_tuple_getitem ?_ (args_tuple_getitem _ _)))
 show wpAny _ _ (Builtin.Tuple.tupleItemsOf (.ref t) >>= _) _ _ s
 refine wX (tupleItemsOf_ ht ?_)
 refine wX (wpAny_typeOf hTs ?_)
 rw [if_pos (by decide)]
 refine wX (fz hs pl pu ?_)
 have hno : ¬ ((((sIx items.size 0 lo : Nat) : Int) == 0 && (1 : Int) == 1 && (sIx items.size items.size hi - sIx items.size 0 lo) == items.size) = true):=by
  intro q
  rw [Bool.and_eq_true,Bool.and_eq_true] at q
  have q1 : ((sIx items.size 0 lo : Nat) : Int) = 0:=eq_of_beq q.1.1
  have q2 : sIx items.size items.size hi - sIx items.size 0 lo = items.size:=eq_of_beq q.2
  exact hw ⟨by omega,by omega⟩
 show wpAny _ _ (if (((sIx items.size 0 lo : Nat) : Int) == 0 && (1 : Int) == 1 && (sIx items.size items.size hi - sIx items.size 0 lo) == items.size) = true then _ else _) _ _ s
 rw [if_neg hno,ye]
 first
  | exact wX (m:=Builtin.Tuple.tupleExact _) (wpAny_newObj_type (wY ⟨_,rfl,wY h⟩) htake)
  | exact wX (m:=Builtin.Tuple.tupleExact _) (wpAny_newObj_type (wX (wY (wY ⟨_,rfl,wY h⟩))) htake)
  | exact wX (wX (m:=Builtin.Tuple.tupleExact _) (wpAny_newObj_type (wY (wY ⟨_,rfl,wY h⟩)) htake))
  | exact wX (wX (m:=Builtin.Tuple.tupleExact _) (wpAny_newObj_type (wY ⟨_,rfl,wY h⟩) htake))
end
end HT
namespace L2
open PySem PySem.Spec PyProof.Rows
abbrev TO:=St->Hp->(Option Int->Hp->Prop)->Prop
def PO (X : Cx) (e : Option Expr) (t : TO) : Prop :=
 ∀ (pins : List (Addr × Obj)) (s : Shared) (σ : St) (H : Hp) (Q : Option Int->Hp->Prop),Inv X pins σ H s->t σ H Q ->
  wpAny (model X.prog X.w) X.A (evalPart e X.env) (fun u s'=>∃ o H',Inv X pins σ H' s'/\IsPart u o/\Q o H') X.xe s
def zY : TO:=fun _ H Q=>Q none H
def DK (t : TE) : TO:=fun σ H Q=>t σ H fun x H1=>∃ i,x = .int i/\Q (some i) H1
section
variable {X : Cx} {e : Expr} {te : TE} {lo hi : Option Expr} {tl th : TO} {pos p2 : Pos}
theorem zZ : PO X none zY:=by
 intro pins s σ H Q I h
 rw [evalPart_none]
 exact wY ⟨none,H,I,.none,h⟩
theorem Aa (h : PE X e te) : PO X (some e) (DK te):=by
 intro pins s σ H Q I hw
 rw [evalPart_some]
 refine thn (h pins s σ H _ I hw) fun u s1 ⟨x,H1,I1,r1,q1⟩=>?_
 obtain ⟨i,rfl,q⟩:=q1
 obtain ⟨t,rfl⟩:=r1
 exact ⟨some i,H1,I1,.int i t,q⟩
def SlR (X : Cx) (r : V->Option Int->Option Int->Hp->VK->Prop) : Prop :=
 ∀ (pins : List (Addr × Obj)) (s : Shared) (σ : St) (H : Hp) (x : V) (v vl vu : Value) (lo hi : Option Int) (sl : Addr) (Q : VK),Inv X pins σ H s->aN x v->s.heap.IsSliceOf sl vl vu .none->IsPart vl lo->IsPart vu hi->r x lo hi H Q ->
  ∃ T id,typeLookup (.type T) "__getitem__" = pure (some (.builtin id))/\s.TypeIs v T/\wpAny (model X.prog X.w) X.A (getItem v (.ref sl)) (EP X pins σ Q) X.xe s
theorem SlR.or {r r' : V->Option Int->Option Int->Hp->VK->Prop} (h : SlR X r) (h' : SlR X r') : SlR X (fun x lo hi H Q=>r x lo hi H Q ∨ r' x lo hi H Q):=by
 intro pins s σ H x v vl vu lo hi sl Q I rx hs pl pu q
 rcases q with q | q
 ·exact h pins s σ H x v vl vu lo hi sl Q I rx hs pl pu q
 ·exact h' pins s σ H x v vl vu lo hi sl Q I rx hs pl pu q
def tSl (r : V->Option Int->Option Int->Hp->VK->Prop) (te : TE) (tl th : TO) : TE:=fun σ H Q=>te σ H fun x H1=>tl σ H1 fun l H2=>th σ H2 fun u H3=>r x l u H3 Q
theorem yf {r : V->Option Int->Option Int->Hp->VK->Prop} (hr : SlR X r) (he : PE X e te) (hl : PO X lo tl) (hu : PO X hi th) : PE X (.Subscript e (.Slice lo hi none p2) pos) (tSl r te tl th):=by
 intro pins s σ H Q I h
 refine Subscript_ (thn (he pins s σ H _ I h) fun v s1 ⟨x,H1,I1,r1,q1⟩=>?_)
 refine wpAny_Slice (thn (hl pins s1 σ H1 _ I1 q1) fun vl s2 ⟨l,H2,I2,pl,q2⟩=>thn (hu pins s2 σ H2 _ I2 q2) fun vu s3 ⟨u,H3,I3,pu,q3⟩=>?_)
 rw [evalPart_none]
 refine wY ?_
 have I4 : Inv X pins σ H3 { s3 with heap:=s3.heap.push { cls:=.type "slice",data:=.fields #[vl,vu,.none] } }:=I3.kept (t':=s3.toks) fun b ob q=>Heap.get?_push_of_some _ q
 obtain ⟨T,id,hT,ht,hg⟩:=hr pins { s3 with heap:=s3.heap.push { cls:=.type "slice",data:=.fields #[vl,vu,.none] } } σ H3 x v vl vu l u s3.heap.objs.size Q I4 r1 (Heap.IsSliceOf.new ..) pl pu q3
 show wpAny (model X.prog X.w) X.A (subscriptTail e (.Slice lo hi none p2) v (.ref s3.heap.objs.size)) (EP X pins σ Q) X.xe { s3 with heap:=s3.heap.push { cls:=.type "slice",data:=.fields #[vl,vu,.none] } }
 exact tail_any (ops:=[.ref s3.heap.objs.size,v]) ht hT hg (by with_unfolding_all rfl)
def oe (xs : List V) (lo hi : Option Int) : List V:=(xs.drop (HT.sIx xs.length 0 lo)).take (HT.sIx xs.length xs.length hi - HT.sIx xs.length 0 lo)
theorem kM (xs : List V) (lo hi : Option Int) : (oe xs lo hi).length<=xs.length:=by
 unfold oe
 rw [List.length_take,List.length_drop]
 omega
def EH (K : PySem.W.Frag) : V->Option Int->Option Int->Hp->VK->Prop:=fun x lo hi H Q=>∃ a xs,x = .ref a/\SqT K H a xs /\
 ¬ (HT.sIx xs.length 0 lo = 0/\HT.sIx xs.length xs.length hi = xs.length)/\∀ p,H p = none->Q (.ref p) (upd H p (.tup (oe xs lo hi)))
theorem Cn : SlR X (EH X.K):=by
 intro pins s σ H x v vl vu lo hi sl Q I rx hs pl pu h
 obtain ⟨a,xs,rfl,hx,hw,q⟩:=h
 cases rx
 obtain ⟨its,r,ht,hz⟩:=I.tuple hx
 have hlen : its.toArray.size = xs.length:=by rw [List.size_toArray]; exact r.length.symm
 refine ⟨"tuple",_,PyProof.Rows.slot_tuple_getitem.lookup,ht.typeIs, ?_⟩
 refine HT.jt ht hs pl pu (by rw [hlen]; exact hw) ?_ (by rw [hlen]; exact hz)
 rw [hlen]
 refine ⟨.ref s.heap.objs.size,_,I.laid (t':=s.toks) (o:=.tup (oe xs lo hi)) (fun b ob q=>Heap.get?_push_of_some _ q) (Nat.le_refl _) ?_,rfl,q _ (I.hok.fresh (Nat.le_refl _))⟩
 exact ⟨Nat.le_trans (kM xs lo hi) hz,_,(r.drop (HT.sIx xs.length 0 lo)).take (HT.sIx xs.length xs.length hi - HT.sIx xs.length 0 lo),IsTup.new _ _⟩
def DM (K : PySem.W.Frag) : R2:=fun x y H Q=>∃ a b xs ys,x = .ref a/\y = .ref b/\SqT K H a xs/\SqT K H b ys/\xs ≠ []/\xs.length + ys.length<=sizeLine /\
 (ys = []->Q (.ref a) H)/\(ys ≠ []->∀ p,H p = none->Q (.ref p) (upd H p (.tup (xs ++ ys))))
theorem aQ.nil_iff {xs : List V} {us : List Value} (r : aQ xs us) : us = [] ↔ xs = []:=by
 cases r with
 | nil=>simp
 | cons _ _=>simp
theorem Ab : OpR X (binaryOp .Add) (DM X.K):=by
 intro pins s σ H x y v u Q I rx ry h
 obtain ⟨a,b,xs,ys,rfl,rfl,ha,hb,hx,hz,q1,q2⟩:=h
 cases rx
 cases ry
 obtain ⟨its,r1,p1,_⟩:=I.tuple ha
 obtain ⟨its2,r2,p2,_⟩:=I.tuple hb
 refine HT.zX p1 p2 (fun z=>hx (r1.nil_iff.mp z)) (fun z=>⟨.ref a,H,I,rfl,q1 (r2.nil_iff.mp z)⟩) (fun z=>?_) (by rw [← r1.length,← r2.length]; exact hz)
 refine ⟨.ref s.heap.objs.size,_,I.laid (t':=s.toks) (o:=.tup (xs ++ ys)) (fun b ob q=>Heap.get?_push_of_some _ q) (Nat.le_refl _) ?_,rfl,q2 (fun w=>z (r2.nil_iff.mpr w)) _ (I.hok.fresh (Nat.le_refl _))⟩
 exact ⟨by rw [List.length_append]; exact hz,_,r1.append r2,IsTup.new _ _⟩
end
def ixN (n : Nat) (i : Int) : Option Nat:=if 0<=i then (if i < n then some i.toNat else none) else if -(n : Int)<=i then some (i + n).toNat else none
def atI {α : Type} (xs : List α) (i : Int) : Option α:=(ixN xs.length i).bind fun j=>xs[j]?
theorem Ac {n : Nat} {i : Int} {j : Nat} (h : ixN n i = some j) : seqIndex? i n = some j/\j < n/\-(n : Int)<=i/\i < n:=by
 unfold ixN at h
 by_cases h0 : 0<=i
 ·rw [if_pos h0] at h
  by_cases h1 : i < n
  ·rw [if_pos h1] at h
   have e : i.toNat = j:=Option.some.inj h
   exact ⟨by rw [seqIndex_of h0 h1,e],by omega,by omega,h1⟩
  ·rw [if_neg h1] at h; cases h
 ·rw [if_neg h0] at h
  by_cases h1 : -(n : Int)<=i
  ·rw [if_pos h1] at h
   have e : (i + n).toNat = j:=Option.some.inj h
   exact ⟨by rw [seqIndex_neg (by omega) h1,e],by omega,h1,by omega⟩
  ·rw [if_neg h1] at h; cases h
theorem pR {α : Type} {xs : List α} {i : Int} {v : α} (h : atI xs i = some v) : ∃ j,seqIndex? i xs.length = some j/\xs[j]? = some v/\j < xs.length/\-(xs.length : Int)<=i/\i < xs.length:=by
 unfold atI at h
 cases e : ixN xs.length i with
 | none=>rw [e] at h; cases h
 | some j =>
  rw [e] at h
  obtain ⟨h1,h2,h3,h4⟩:=Ac e
  exact ⟨j,h1,h,h2,h3,h4⟩
theorem Ad {α : Type} {xs : List α} {j : Nat} {v : α} (h : xs[j]? = some v) : atI xs (j : Int) = some v:=by
 have hj : j < xs.length:=(List.getElem?_eq_some_iff.mp h).1
 have e : ixN xs.length (j : Int) = some j:=by
  unfold ixN
  rw [if_pos (by omega),if_pos (by omega)]; simp
 unfold atI; rw [e]; exact h
def lD (b : Expr) : Prop:=∀ o i,subscripted b false o i = operate [o,i] (getItem o i)
def IxR (X : Cx) (r : R2) : Prop :=
 ∀ (value slice : Expr) (pins : List (Addr × Obj)) (s : Shared) (σ : St) (H : Hp) (x y : V) (v u : Value) (Q : VK),Inv X pins σ H s->aN x v->aN y u->r x y H Q ->
  subscripted slice false v u = operate [v,u] (getItem v u)->wpAny (model X.prog X.w) X.A (subscriptTail value slice v u) (EP X pins σ Q) X.xe s
def MtR (X : Cx) (id : String) (r : V->List V->Hp->VK->Prop) : Prop :=
 ∀ (pins : List (Addr × Obj)) (s : Shared) (σ : St) (H : Hp) (x : V) (xs : List V) (v : Value) (us : List Value) (Q : VK),Inv X pins σ H s->aN x v->aQ xs us->r x xs H Q ->
  wpAny (model X.prog X.w) X.A (call (.builtin id) (v :: us)) (EP X pins σ Q) X.xe s
section
variable {X : Cx} {a b : Expr} {ta tb : TE} {pos : Pos}
theorem IxR.or {r r' : R2} (h : IxR X r) (h' : IxR X r') : IxR X (fun x y H Q=>r x y H Q ∨ r' x y H Q):=by
 intro value slice pins s σ H x y v u Q I rx ry q hs
 rcases q with q | q
 ·exact h value slice pins s σ H x y v u Q I rx ry q hs
 ·exact h' value slice pins s σ H x y v u Q I rx ry q hs
theorem MtR.or {id : String} {r r' : V->List V->Hp->VK->Prop} (h : MtR X id r) (h' : MtR X id r') : MtR X id (fun x xs H Q=>r x xs H Q ∨ r' x xs H Q):=by
 intro pins s σ H x xs v us Q I rx rs q
 rcases q with q | q
 ·exact h pins s σ H x xs v us Q I rx rs q
 ·exact h' pins s σ H x xs v us Q I rx rs q
theorem Bd {r : R2} (hr : IxR X r) (ha : PE X a ta) (hb : PE X b tb) (hs : lD b) : PE X (.Subscript a b pos) (tOp r ta tb):=by
 intro pins s σ H Q I h
 exact Subscript_ (Ca ha hb I h fun v u s2 x y H2 I2 rx ry q=>hr a b pins s2 σ H2 x y v u Q I2 rx ry q (hs _ _))
def EI (K : PySem.W.Frag) : R2:=fun x y H Q=>∃ p xs i v,x = .ref p/\y = .int i/\SqL K H p xs/\atI xs i = some v/\Q v H
def EJ (K : PySem.W.Frag) : R2:=fun x y H Q=>∃ p xs i v,x = .ref p/\y = .int i/\SqT K H p xs/\atI xs i = some v/\Q v H
def EK : R2:=fun x y H Q=>∃ z i c,x = .str z/\y = .int i/\z.length<=sizeLine/\atI z.cps.toList i = some c/\Q (.str ⟨#[c]⟩) H
theorem Ae : IxR X (EI X.K):=by
 intro value slice pins s σ H x y v u Q I rx ry h hs
 obtain ⟨p,xs,i,z,rfl,rfl,hq,he,q⟩:=h
 cases rx
 obtain ⟨t,rfl⟩:=ry
 obtain ⟨its,r,pl,hz⟩:=I.list hq
 obtain ⟨j,h1,h2,h3,h4,h5⟩:=pR he
 obtain ⟨w,ew,rw'⟩:=r.get h2
 have hl:=r.length
 have hn:=lM
 have fin : EP X pins σ Q w s:=⟨z,H,I,rw',q⟩
 by_cases h0 : 0<=i
 ·have hj : i.toNat = j:=by
   rw [seqIndex_of h0 h5] at h1
   exact Option.some.inj h1
  exact item_listR pl.isList h0 (by omega) (by rw [hj]; simpa using ew) fin hs
 ·have hj : (i + (its.toArray.size : Int)).toNat = j:=by
   rw [seqIndex_neg (by omega) h4] at h1
   rw [List.size_toArray,← hl]
   exact Option.some.inj h1
  exact subscriptTail_builtinR (x:=w) pl.isList.typeIs slot_list_getitem.lookup
   (wpAny_getItem_list_neg (Q:=fun r s'=>r = w/\EP X pins σ Q r s') pl.isList (by omega) (by rw [List.size_toArray] <;> omega) (by omega) (by rw [hj]; simpa using ew) ⟨rfl,fin⟩) hs
theorem yg : IxR X (EJ X.K):=by
 intro value slice pins s σ H x y v u Q I rx ry h hs
 obtain ⟨p,xs,i,z,rfl,rfl,hq,he,q⟩:=h
 cases rx
 obtain ⟨t,rfl⟩:=ry
 obtain ⟨its,r,pl,hz⟩:=I.tuple hq
 obtain ⟨j,h1,h2,h3,h4,h5⟩:=pR he
 obtain ⟨w,ew,rw'⟩:=r.get h2
 have hl:=r.length
 have hn:=lM
 have fin : EP X pins σ Q w s:=⟨z,H,I,rw',q⟩
 exact subscriptTail_builtinR (x:=w) pl.typeIs slot_tuple_getitem.lookup
  (getItem_tuple (j:=j) (Q:=fun r s'=>r = w/\EP X pins σ Q r s') pl (by omega) (by omega) (by rw [List.size_toArray,← hl]; exact h1) (by simpa using ew) ⟨rfl,fin⟩) hs
theorem um : IxR X EK:=by
 intro value slice pins s σ H x y v u Q I rx ry h hs
 obtain ⟨z,i,c,rfl,rfl,hz,he,q⟩:=h
 obtain ⟨t,rfl⟩:=rx
 obtain ⟨t',rfl⟩:=ry
 obtain ⟨j,h1,h2,h3,h4,h5⟩:=pR he
 have hl : z.cps.toList.length = z.length:=by simp [Str.length]
 rw [hl] at h1 h4 h5
 have hn:=lM
 exact tail_any (typeIs_str s z t) slot_str_getitem.lookup (getItem_str (c:=c) (by
  have e1 : decide (i < -(2 ^ 63 : Int)) = false:=decide_eq_false (by omega)
  have e2 : decide (i ≥ 2 ^ 63) = false:=decide_eq_false (by omega)
  rw [e1,e2,Bool.or_false]) (by rw [h1]; simpa using h2) ⟨.str ⟨#[c]⟩,H,I.tok _,⟨_,rfl⟩,q⟩) hs
theorem Inv.lst {pins : List (Addr × Obj)} {σ : St} {H : Hp} {s : Shared} {p : Addr} {xs : List V} (I : Inv X pins σ H s) (h : H p = some (.lst xs)) :
  ∃ (its : List Value) (n : Nat),aQ xs its/\s.heap.get? p = some { cls:=.type "list",data:=.seq its.toArray n }/\xs.length<=sizeLine:=by
 obtain ⟨z,its,n,r,e⟩:=I.hok p _ h
 exact ⟨its,n,r,e,z⟩
theorem pT (lo hi : Option Int) (n : Nat) : (sliceBounds lo hi none n).1 = ((HT.sIx n 0 lo : Nat) : Int)/\(sliceBounds lo hi none n).2.1 = ((HT.sIx n n hi : Nat) : Int)/\(sliceBounds lo hi none n).2.2 = 1:=by
 refine ⟨?_, ?_,rfl⟩
 ·cases lo with
  | none=>simp [sliceBounds,HT.sIx]
  | some i =>
   simp only [sliceBounds,HT.sIx,Option.getD_none,show (1 : Int) > 0 by decide,if_true]
   by_cases h : i < 0
   ·simp only [h,if_true] <;> omega
   ·simp only [h,if_false] <;> omega
 ·cases hi with
  | none=>simp [sliceBounds,HT.sIx]
  | some i =>
   simp only [sliceBounds,HT.sIx,Option.getD_none,show (1 : Int) > 0 by decide,if_true]
   by_cases h : i < 0
   ·simp only [h,if_true] <;> omega
   ·simp only [h,if_false] <;> omega
theorem oh (its : List Value) (lo hi : Option Int) : slicePick its.toArray lo hi none = ((its.drop (HT.sIx its.length 0 lo)).take (HT.sIx its.length its.length hi - HT.sIx its.length 0 lo)).toArray:=by
 obtain ⟨h1,h2,h3⟩:=pT lo hi its.toArray.size
 unfold slicePick
 rw [h1,h2,h3]
 simp only [sliceRange_one,pick_run,List.size_toArray] <;> rfl
def EL (K : PySem.W.Frag) : V->Option Int->Option Int->Hp->VK->Prop:=fun x lo hi H Q=>∃ a xs,x = .ref a/\SqL K H a xs/\∀ p,H p = none->Q (.ref p) (upd H p (.lst (oe xs lo hi)))
theorem Af : SlR X (EL X.K):=by
 intro pins s σ H x v vl vu lo hi sl Q I rx hs pl pu h
 obtain ⟨a,xs,rfl,hx,q⟩:=h
 cases rx
 obtain ⟨its,r,ht,hz⟩:=I.list hx
 have hlen:=r.length
 refine ⟨"list",_,slot_list_getitem.lookup,ht.isList.typeIs, ?_⟩
 refine wpAny_getItem_list_slice ht.isList hs pl pu .none (by simp) ?_ (by rw [List.size_toArray] <;> omega)
 rw [oh,← hlen]
 refine ⟨.ref s.heap.objs.size,_,I.laid (t':=s.toks) (o:=.lst (oe xs lo hi)) (fun b ob q=>Heap.get?_push_of_some _ q) (Nat.le_refl _) ?_,rfl,q _ (I.hok.fresh (Nat.le_refl _))⟩
 exact ⟨Nat.le_trans (kM xs lo hi) hz,_,0,(r.drop (HT.sIx xs.length 0 lo)).take (HT.sIx xs.length xs.length hi - HT.sIx xs.length 0 lo),Heap.get?_push_size _ rfl⟩
def iK : V->Bool
 | .non=>true
 | .bl _=>true
 | .int _=>true
 | .str _=>true
 | _=>false
def eqV : V->V->Bool
 | .non,.non=>true
 | .bl a,.bl b=>a == b
 | .bl a,.int b=>(if a then 1 else 0) == b
 | .int a,.bl b=>a == (if b then 1 else 0)
 | .int a,.int b=>a == b
 | .str a,.str b=>a == b
 | _,_=>false
theorem Co {A : Around} {s : Shared} {y x : V} {u v : Value} (ry : aN y u) (rx : aN x v) (fy : iK y = true) (fx : iK x = true) : SeqAt.EqAt A s u v (eqV y x):=by
 cases y with
 | non =>
  cases ry
  cases x with
  | non=>cases rx; exact SeqAt.EqAt.same _
  | bl b=>cases rx; exact SeqAt.EqAt.none_bool b
  | int b=>obtain ⟨t,rfl⟩:=rx; exact SeqAt.EqAt.none_int b t
  | str b=>obtain ⟨t,rfl⟩:=rx; exact SeqAt.EqAt.none_str b t
  | _=>exact absurd (show false = true from fx) Bool.false_ne_true
 | bl a =>
  cases ry
  cases x with
  | non=>cases rx; exact SeqAt.EqAt.bool_none a
  | bl b=>cases rx; exact SeqAt.EqAt.bool_bool a b
  | int b=>obtain ⟨t,rfl⟩:=rx; exact SeqAt.EqAt.bool_int a b t
  | str b=>obtain ⟨t,rfl⟩:=rx; exact SeqAt.EqAt.bool_str a b t
  | _=>exact absurd (show false = true from fx) Bool.false_ne_true
 | int a =>
  obtain ⟨t',rfl⟩:=ry
  cases x with
  | non=>cases rx; exact SeqAt.EqAt.int_none a t'
  | bl b=>cases rx; exact SeqAt.EqAt.int_bool a t' b
  | int b=>obtain ⟨t,rfl⟩:=rx; exact SeqAt.EqAt.int_int a t' b t
  | str b=>obtain ⟨t,rfl⟩:=rx; exact SeqAt.EqAt.int_str a t' b t
  | _=>exact absurd (show false = true from fx) Bool.false_ne_true
 | str a =>
  obtain ⟨t',rfl⟩:=ry
  cases x with
  | non=>cases rx; exact SeqAt.EqAt.str_none a t'
  | bl b=>cases rx; exact SeqAt.EqAt.str_bool a t' b
  | int b=>obtain ⟨t,rfl⟩:=rx; exact SeqAt.EqAt.str_int a t' b t
  | str b=>obtain ⟨t,rfl⟩:=rx; exact SeqAt.EqAt.str_str a t' b t
  | _=>exact absurd (show false = true from fx) Bool.false_ne_true
 | _=>exact absurd (show false = true from fy) Bool.false_ne_true
def eqU (x : V) (u : Value) : Bool:=match u with
 | .none=>eqV .non x
 | .bool b=>eqV (.bl b) x
 | .int i _=>eqV (.int i) x
 | .str z _=>eqV (.str z) x
 | _=>false
theorem yh {x y : V} {u : Value} (r : aN y u) (f : iK y = true) : eqU x u = eqV y x:=by
 cases y with
 | non=>cases r; rfl
 | bl b=>cases r; rfl
 | int i=>obtain ⟨t,rfl⟩:=r; rfl
 | str z=>obtain ⟨t,rfl⟩:=r; rfl
 | _=>exact absurd (show false = true from f) Bool.false_ne_true
theorem ju {x : V} : ∀ {xs : List V} {us : List Value},aQ xs us->xs.all iK = true->us.any (eqU x) = xs.any fun y=>eqV y x
 | _,_,.nil,_=>rfl
 | y :: xs,u :: us,.cons r t,f=>by
  rw [List.all_cons,Bool.and_eq_true] at f
  rw [List.any_cons,List.any_cons,yh r f.1,ju t f.2]
theorem g9 {A : Around} {s : Shared} {x : V} {v : Value} (rx : aN x v) (fx : iK x = true) : ∀ {xs : List V} {us : List Value},aQ xs us->xs.all iK = true->∀ u ∈ us,SeqAt.EqAt A s u v (eqU x u)
 | _,_,.nil,_=>fun u hu=>by cases hu
 | y :: xs,u :: us,.cons r t,f=>fun u' hu=>by
  rw [List.all_cons,Bool.and_eq_true] at f
  rcases List.mem_cons.mp hu with rfl | hu
  ·rw [yh r f.1]; exact Co r rx f.1 fx
  ·exact g9 rx fx t f.2 u' hu
def inV (x : V) (xs : List V) : Bool:=xs.any fun y=>eqV y x
def rIn (K : PySem.W.Frag) (neg : Bool) : R2:=fun x y H Q=>∃ p xs,y = .ref p/\(SqL K H p xs ∨ SqT K H p xs)/\iK x = true/\xs.all iK = true/\Q (.bl (if neg then !inV x xs else inV x xs)) H
theorem wL : OpR X (compareOp .In) (rIn X.K false):=by
 intro pins s σ H x y v u Q I rx ry h
 obtain ⟨p,xs,rfl,hq,fx,fs,q⟩:=h
 cases ry
 rcases hq with hq | hq
 ·obtain ⟨its,r,pl,hz⟩:=I.list hq
  refine SeqAt.in_listAt (eqU x) pl.isList (fun w hw=>g9 rx fx r fs w (by simpa using hw)) ⟨.bl _,H,I,rfl, ?_⟩
  rw [show its.toArray.any (eqU x) = its.any (eqU x) by simp,ju r fs]
  exact q
 ·obtain ⟨its,r,pl,hz⟩:=I.tuple hq
  refine SeqAt.in_tupleAt (eqU x) pl (fun w hw=>g9 rx fx r fs w (by simpa using hw)) ⟨.bl _,H,I,rfl, ?_⟩
  rw [show its.toArray.any (eqU x) = its.any (eqU x) by simp,ju r fs]
  exact q
theorem pU : OpR X (compareOp .NotIn) (rIn X.K true):=by
 intro pins s σ H x y v u Q I rx ry h
 obtain ⟨p,xs,rfl,hq,fx,fs,q⟩:=h
 cases ry
 rcases hq with hq | hq
 ·obtain ⟨its,r,pl,hz⟩:=I.list hq
  refine SeqAt.notIn_listAt (eqU x) pl.isList (fun w hw=>g9 rx fx r fs w (by simpa using hw)) ⟨.bl _,H,I,rfl, ?_⟩
  rw [show its.toArray.any (eqU x) = its.any (eqU x) by simp,ju r fs]
  exact q
 ·obtain ⟨its,r,pl,hz⟩:=I.tuple hq
  refine SeqAt.notIn_tupleAt (eqU x) pl (fun w hw=>g9 rx fx r fs w (by simpa using hw)) ⟨.bl _,H,I,rfl, ?_⟩
  rw [show its.toArray.any (eqU x) = its.any (eqU x) by simp,ju r fs]
  exact q
theorem pV : bR X (.builtin "len") (fun xs H Q=>∃ p ys,xs = [.ref p]/\(SqL X.K H p ys ∨ SqT X.K H p ys)/\Q (.int ys.length) H):=by
 intro pins s σ H xs us Q I r h
 obtain ⟨p,ys,rfl,hq,q⟩:=h
 obtain ⟨u,rfl,rx⟩:=iJ r
 cases rx
 have hn:=lM
 rcases hq with hq | hq
 ·obtain ⟨its,r',pl,hz⟩:=I.list hq
  have hlen:=r'.length
  exact Calls.call_len_list pl.isList (by simp only [List.size_toArray] <;> omega) ⟨.int ys.length,H,I.tok _,⟨s.toks + 1,by rw [List.size_toArray,hlen]⟩,q⟩
 ·obtain ⟨its,r',pl,hz⟩:=I.tuple hq
  have hlen:=r'.length
  exact len_tuple pl (by simp only [List.size_toArray] <;> omega) ⟨.int ys.length,H,I.tok _,⟨s.toks + 1,by rw [List.size_toArray,hlen]⟩,q⟩
theorem pW : bR X (.builtin "len") (fun xs H Q=>∃ z,xs = [.str z]/\z.length<=sizeLine/\Q (.int z.length) H):=by
 intro pins s σ H xs us Q I r h
 obtain ⟨z,rfl,hz,q⟩:=h
 obtain ⟨u,rfl,t,rfl⟩:=iJ r
 have hn:=lM
 exact len_str (by omega) ⟨.int z.length,H,I.tok _,⟨_,rfl⟩,q⟩
theorem bR.or {f : Value} {r r' : List V->Hp->VK->Prop} (h : bR X f r) (h' : bR X f r') : bR X f (fun xs H Q=>r xs H Q ∨ r' xs H Q):=by
 intro pins s σ H xs us Q I rs q
 rcases q with q | q
 ·exact h pins s σ H xs us Q I rs q
 ·exact h' pins s σ H xs us Q I rs q
theorem pX : bR X (.type "list") (fun xs H Q=>∃ p ys,xs = [.ref p]/\(SqL X.K H p ys ∨ SqT X.K H p ys)/\∀ l,H l = none->Q (.ref l) (upd H l (.lst ys))):=by
 intro pins s σ H xs us Q I r h
 obtain ⟨p,ys,rfl,hq,q⟩:=h
 obtain ⟨u,rfl,rx⟩:=iJ r
 cases rx
 have fin : ∀ (its : List Value),aQ ys its->ys.length<=sizeLine->∀ (h' : Heap) (c' : Nat),(∀ b o',s.heap.get? b = some o'->h'.get? b = some o') ->
   h'.get? s.heap.objs.size = some { cls:=.type "list",dict:=none,data:=.seq its.toArray c',slots:=#[] }->EP X pins σ Q (.ref s.heap.objs.size) { s with heap:=h' }:=fun its r' hz h' c' kp e =>
  ⟨.ref s.heap.objs.size,_,I.laid (t':=s.toks) kp (Nat.le_refl _) (show bD X.prog X.w _ h' _ (.lst ys) from ⟨hz,its,c',r',e⟩),rfl,q _ (I.hok.fresh (Nat.le_refl _))⟩
 rcases hq with hq | hq
 ·obtain ⟨its,r',pl,hz⟩:=I.list hq
  have hlen:=r'.length
  obtain ⟨o,ho,hc,n,hd⟩:=pl.isList
  exact call_list_seq p (.inl rfl) ho hc hd (fun h' c' kp e=>fin its r' hz h' c' kp e) (by simp only [List.size_toArray] <;> omega)
 ·obtain ⟨its,r',pl,hz⟩:=I.tuple hq
  have hlen:=r'.length
  obtain ⟨o,ho,hc,n,hd⟩:=pl
  exact call_list_seq p (.inr rfl) ho hc hd (fun h' c' kp e=>fin its r' hz h' c' kp e) (by simp only [List.size_toArray] <;> omega)
theorem oi : bR X (.type "tuple") (fun xs H Q=>∃ p ys,xs = [.ref p]/\((SqL X.K H p ys/\∀ l,H l = none->Q (.ref l) (upd H l (.tup ys))) ∨ (SqT X.K H p ys/\Q (.ref p) H))):=by
 intro pins s σ H xs us Q I r h
 obtain ⟨p,ys,rfl,h⟩:=h
 obtain ⟨u,rfl,rx⟩:=iJ r
 cases rx
 rcases h with ⟨hq,q⟩ | ⟨hq,q⟩
 ·obtain ⟨its,r',pl,hz⟩:=I.list hq
  have hlen:=r'.length
  refine call_tuple_list pl.isList (fun h' kp=>?_) (by simp only [List.size_toArray] <;> omega)
  have I1 : Inv X pins σ H { s with heap:=h' }:=I.kept (t':=s.toks) kp
  have I2 : Inv X pins σ (upd H h'.objs.size (.tup ys)) { s with heap:=h'.push { cls:=.type "tuple",data:=.seq its.toArray } } :=
   I1.laid (t':=s.toks) (fun b o e=>Heap.get?_push_of_some _ e) (Nat.le_refl _) (show bD X.prog X.w _ _ _ (.tup ys) from ⟨hz,its,r',IsTup.new _ _⟩)
  exact ⟨.ref h'.objs.size,_,I2,rfl,q _ (I1.hok.fresh (Nat.le_refl _))⟩
 ·obtain ⟨its,r',pl,hz⟩:=I.tuple hq
  exact call_tuple_same pl ⟨.ref p,H,I,rfl,q⟩
def tyV (K : PySem.W.Frag) (T : String) (x : V) (H : Hp) : Prop:=match x with
 | .str _=>T = "str"
 | .int _=>T = "int"
 | .ref p=>(T = "list"/\∃ xs,SqL K H p xs) ∨ (T = "tuple"/\∃ o,K.lookup p = some o/\o.cls = .type "tuple"/\o.dict = none) ∨
   (T = "dict"/\((∃ kvs,H p = some (.dK kvs)) ∨ ∃ kvs,H p = some (.dT kvs))) ∨ (T = "set"/\∃ S n,H p = some (.set S n))
 | _=>False
theorem Cp {pins : List (Addr × Obj)} {σ : St} {H : Hp} {s : Shared} {T : String} {x : V} {v : Value} (I : Inv X pins σ H s) (r : aN x v) (ty : tyV X.K T x H) :
  s.TypeIs v T/\∀ a,v = .ref a->∃ ob,s.heap.get? a = some ob/\ob.dict = none:=by
 cases x with
 | str z =>
  obtain ⟨t,rfl⟩:=r
  cases (show T = "str" from ty)
  exact ⟨typeIs_str s z t,fun _ e=>nomatch e⟩
 | int i =>
  obtain ⟨t,rfl⟩:=r
  cases (show T = "int" from ty)
  exact ⟨typeIs_int s i t,fun _ e=>nomatch e⟩
 | ref p =>
  cases r
  rcases ty with ⟨rfl,xs,hq⟩ | ⟨rfl,o,hk,hc,hd⟩ | ⟨rfl,hk⟩ | ⟨rfl,S,n,hk⟩
  ·obtain ⟨its,_,pl,_⟩:=I.list hq
   refine ⟨pl.isList.typeIs,fun a e=>?_⟩
   cases e
   obtain ⟨o,n,e,c,hd,_⟩:=pl
   exact ⟨o,e,hd⟩
  ·refine ⟨⟨o,I.kIn p o hk,hc⟩,fun a e=>?_⟩
   cases e
   exact ⟨o,I.kIn _ o hk,hd⟩
  ·have z : ∃ o,s.heap.get? p = some o/\o.ExactDict:=by
    rcases hk with ⟨kvs,hk⟩ | ⟨kvs,hk⟩
    ·obtain ⟨_,_,_,_,o,_,_,e,ex,_⟩:=I.hok p _ hk
     exact ⟨o,e,ex⟩
    ·obtain ⟨_,_,_,_,o,_,_,e,ex,_⟩:=I.hok p _ hk
     exact ⟨o,e,ex⟩
   obtain ⟨o,e,ex⟩:=z
   refine ⟨⟨o,e,ex.1⟩,fun a e2=>?_⟩
   cases e2
   exact ⟨o,e,ex.2.1⟩
  ·obtain ⟨o,_,_,_,e,ex,_⟩:=I.hok p _ hk
   refine ⟨⟨o,e,ex.1⟩,fun a e2=>?_⟩
   cases e2
   exact ⟨o,e,ex.2.1⟩
 | _=>exact False.elim ty
def tBM (K : PySem.W.Frag) (T : String) (r : V->List V->Hp->VK->Prop) (to : TE) (t : TA) : TE:=fun σ H Q=>to σ H fun x H1=>tyV K T x H1/\t σ H1 fun xs H2=>r x xs H2 Q
variable {o e : Expr} {es : List Expr} {to : TE} {t : TA} {name : Str} {apos cpos : Pos} {T id : String} {r : V->List V->Hp->VK->Prop}
theorem Be (pa : PlainAttrs T) (slot : Slot T name id) (hty : typeOf (.builtin id) = pure (.type "method_descriptor")) (hm : MtR X id r) (ho : PE X o to) (ha : PA X (e :: es) t)
  (hbase : attributeBase o name X.env (eval o X.env) = eval o X.env:=by rfl)
  (hfew : ((backTo cpos (starEach (e :: es) X.env)).all (fun x=>!x.1) && (backToKw cpos (keywordEach [] X.env)).all (fun x=>x.1.isSome)
   && decide ((e :: es).length + ([] : List Keyword).length + (if ([] : List Keyword).isEmpty then 0 else 1) < 30)) = true:=by rfl)
  (hline : (apos.endLine == cpos.line) = true:=by rfl) (hs : starEach (e :: es) X.env = (false,eval e X.env) :: starEach es X.env:=by rfl) (hplain : (backTo cpos (starEach es X.env)).any (·.1) = false:=by rfl) :
  PE X (.Call (.Attribute o name apos) (e :: es) [] cpos) (tBM X.K T r to t):=by
 intro pins s σ H Q I h
 refine wpAny_Call_method_late hbase hfew hline rfl (thn (ho pins s σ H _ I h) fun v s1 ⟨x,H1,I1,r1,ty,q1⟩=>?_)
 obtain ⟨h1,h2⟩:=Cp I1 r1 ty
 refine ⟨T,id,pa,slot,hty,h1,h2, ?_⟩
 have hA:=ha cpos pins s1 σ H1 _ I1 q1
 rw [hs] at hA ⊢
 refine Calls.callWith_builtin (by show (false || (backTo cpos (starEach es X.env)).any (·.1)) = false; rw [hplain] <;> rfl) (Calls.evalArgs_plain ?_)
 exact thn hA fun us s2 ⟨vs,H2,I2,r2,q2⟩=>hm pins s2 σ H2 x vs v us Q I2 r1 r2 q2
/- xs.append(e),list.index on a module's tuple .. are MtR facts of 06m -/
end
def MtM (X : Cx) (id : String) (r : V->List V->Hp->VK->Prop) : Prop :=
 ∀ (pins : List (Addr × Obj)) (s : Shared) (σ : St) (H : Hp) (x : V) (xs : List V) (v : Value) (us : List Value) (Q : VK),Inv X pins σ H s->aN x v->aQ xs us->r x xs H Q ->
  wpAny (model X.prog X.w) X.A (call (.builtin id) (v :: us)) (EP X pins σ Q) X.xe s
theorem aQ.one : ∀ {x : V} {us : List Value},aQ [x] us->∃ u,us = [u]/\aN x u
 | _,_,.cons r .nil=>⟨_,rfl,r⟩
theorem aQ.two : ∀ {x y : V} {us : List Value},aQ [x,y] us->∃ u v,us = [u,v]/\aN x u/\aN y v
 | _,_,_,.cons r (.cons q .nil)=>⟨_,_,rfl,r,q⟩
theorem aQ.eraseIdx : ∀ {xs : List V} {us : List Value} (i : Nat),aQ xs us->aQ (xs.eraseIdx i) (us.eraseIdx i)
 | _,_,_,.nil=>.nil
 | _,_,0,.cons _ t=>t
 | _,_,i + 1,.cons r t=>.cons r (aQ.eraseIdx i t)
section
variable {X : Cx} {pins : List (Addr × Obj)} {σ : St} {H : Hp} {s : Shared} {l b : Addr} {xs ys zs : List V}
theorem Inv.lset {its its' : List Value} {n : Nat} {f : Array Value->Array Value} {t' : Nat} (I : Inv X pins σ H s) (hH : H l = some (.lst xs))
  (e : s.heap.get? l = some { cls:=.type "list",data:=.seq its.toArray n }) (hf : f its.toArray = its'.toArray) (hv : aQ ys its') (hz : ys.length<=sizeLine) :
  Inv X pins σ (upd H l (.lst ys)) { s with heap:=s.heap.update l (Obj.mapSeq f),toks:=t' }:=by
 have q:=PySem.IsL.update e f
 rw [hf] at q
 refine I.write (x:=l) (e:=l) (by rw [hH]; exact trivial) (.inl rfl) (fun b' u hb hu=>(Heap.get?_update_other s.heap (Obj.mapSeq f) (Ne.symm hb)).trans hu) ⟨_,q⟩ ?_
 exact ⟨hz,its',_,hv,q⟩
theorem Inv.lnew {its : List Value} {t' : Nat} (I : Inv X pins σ H s) (hv : aQ ys its) (hz : ys.length<=sizeLine) :
  Inv X pins σ (upd H s.heap.objs.size (.lst ys)) { s with heap:=s.heap.push { cls:=.type "list",data:=.seq its.toArray },toks:=t' } :=
 I.laid (fun _ _ q=>Heap.get?_push_of_some _ q) (Nat.le_refl _) ⟨hz,its,0,hv,Heap.get?_push_size _ rfl⟩
theorem Inv.fresh (I : Inv X pins σ H s) : H s.heap.objs.size = none:=I.hok.fresh (Nat.le_refl _)
theorem Inv.lstM (I : Inv X pins σ H s) (hH : H l = some (.lst xs)) : xs.length<=sizeLine/\∃ (its : List Value) (n : Nat),aQ xs its/\xs.length = its.length/\s.heap.get? l = some { cls:=.type "list",data:=.seq its.toArray n }:=by
 obtain ⟨z,its,n,r,e⟩:=I.hok l _ hH
 exact ⟨z,its,n,r,r.length,e⟩
end
section
variable {X : Cx}
def vz : V->List V->Hp->VK->Prop:=fun x vs H Q=>∃ l xs y,x = .ref l/\vs = [y]/\H l = some (.lst xs)/\xs.length < sizeLine/\Q .non (upd H l (.lst (xs ++ [y])))
theorem oC : MtM X "list.append" vz:=by
 intro pins s σ H x vs v us Q I rx rv h
 obtain ⟨l,xs,y,rfl,rfl,hH,hz,q⟩:=h
 cases rx
 obtain ⟨u,rfl,ru⟩:=rv.one
 obtain ⟨z,its,n,r,hl,e⟩:=I.lstM hH
 refine call_meets F.slot_list_append ⟨_,e,rfl⟩ F.entry_list_append (F.args_list_append_2 _ _) (PySem.list_append l its.toArray n u (by rw [List.size_toArray]; omega)) ⟨e, ?_⟩
 refine ⟨.non,_,I.lset (its':=its ++ [u]) hH e (by simp) (r.append (.cons ru .nil)) ?_,rfl,q⟩
 rw [List.length_append,List.length_singleton]
 omega
end
end L2
namespace Att
open PySem PySem.W PySem.Calls PyProof.Rows
theorem lz {P : Params} {h : Heap} : ∀ (ns : List Int) (vs : List Value),WellAll P h vs (ns.map WData.int)->IntsAre vs ns:=by
 intro ns
 induction ns with
 | nil =>
  intro vs w
  rw [List.map_nil] at w
  cases w
  exact .nil
 | cons n ns ih =>
  intro vs w
  rw [List.map_cons] at w
  cases w with
  | cons a b =>
   cases a
   exact .cons _ _ (ih _ b)
theorem wM {l : OpenLaw} {n : Nat} (hn : l.most = some n) {P : Params} {h : Heap} {args : List WData} {vals : List Value}
  (hpre : l.row.toRowW.claim.pre args = true) (hwl : WellAll P h vals args) :
  ∃ a vs ns,vals = [Value.ref a]/\args = [WData.list (ns.map WData.int)]/\h.get? a = some { cls:=.type "list",data:=.seq vs.toArray }/\IntsAre vs ns/\ns.length<=n:=by
 have hsh : WShape.hasAll [] args [.list .int] = true:=(pre_splitW hpre).1
 have hc : l.pre.holds [] { args:=args } = true:=(pre_splitW hpre).2
 obtain ⟨d,r,rfl,h1,h2⟩:=hasAllW_cons hsh
 obtain rfl:=hasAllW_nil h2
 obtain ⟨xs,rfl,h3⟩:=hasW_list h1
 obtain ⟨ns,rfl⟩:=items_int h3
 have hlen : ns.length<=n:=by
  unfold OpenLaw.pre at hc
  have h4 : (WTm.not (.lt (.lit (.int (n : Int))) (.len (.arg 0)))).holds [] { args:=[.list (ns.map .int)] } = true:=by
   have h4:=(holds_andW hc).1
   rw [hn] at h4
   exact h4
  have h5:=condW_of h4 (w_not (w_lt w_lit (w_len_list (w_arg rfl))))
  rw [List.length_map] at h5
  refine Nat.le_of_not_lt fun q=>?_
  have q' : (n : Int) < ((ns.length : Nat) : Int):=by omega
  first
   | (rw [decide_eq_true q'] at h5; exact absurd h5 (by decide))
   | (simp at h5; omega)
 cases hwl with
 | cons w1 w2 =>
  cases w2
  cases w1 with
  | list ho hall=>exact ⟨_,_,ns,rfl,rfl,ho,lz ns _ hall,hlen⟩
theorem wN (l : OpenLaw) (args : List WData) : l.row.toRowW.claim.post args (.bool true) args = true :=
 postW_of (r:=l.row.toRowW) (X:=(true == true))
  (show WShape.has [] (.bool true) .bool = true by first | rfl | decide | simp [WShape.has,WShape.arms,WShape.armsAll])
  (show (WTm.eq .res (.lit (.bool true))).value [] { args:=args,res:=some (.bool true),after:=args } = some (.bool (true == true)) from w_eq_bool (w_res rfl) w_lit) rfl
theorem rL {l : OpenLaw} {n : Nat} {q : Program} {loose : List Str} {XP : (Str->Option Value)->Heap->Prop} {YP : World->Heap->Prop} {d : DefRec}
  (hn : l.most = some n) (hdf : d.params.defaults = [])
  (call : ∀ (w : World) (s₀ s₁ : Shared) (mg mb : Str->Option Value) (fa : Addr) (o : Obj) (pm cd doc : Value) (a : Addr) (vs : List Value) (ns : List Int),
   Ground q loose [] XP w s₀ mg mb s₁.heap->YP w s₁.heap ->
   s₁.heap.get? fa = some o->o.data = .func (docDef d.name d.params d.body d.scope pm cd doc)->s₁.heap.CodeRec cd d.name->mg d.name = some (.ref fa) ->
   s₁.heap.get? a = some { cls:=.type "list",data:=.seq vs.toArray }->IntsAre vs ns->ns.length<=n->s₁.gens = #[] ->
   codeAny (model l.prog w) callerA (.call (.ref fa) ⟨[.ref a],[]⟩) (fun r s'=>r = .ok (.ret (.bool true))/\OldK s₁.heap s'.heap/\s'.os = s₁.os/\AllBare s'.gens) s₁) :
  WalkO q loose XP YP l.row.toRowW d [] (fun f vs=>PySem.call f vs):=by
 intro w s₀ s₁ mg mb G Y fa o pm cd doc dV kV ho hd hcd hD hmg hg args vals as hpre hlay hrd hwl hlo
 obtain rfl : dV = .none:=Dflts.none hD hdf
 obtain rfl : kV = .none:=Dflts.noKw hD
 obtain ⟨a,vs,ns,rfl,rfl,hobj,hints,hlen⟩:=wM hn hpre hwl
 refine enter_call (codeAny_mono (call w s₀ s₁ mg mb fa o pm cd doc a vs ns G Y ho (fd_plain hd) hcd hmg hobj hints hlen hg) fun r s' hq=>?_)
 obtain ⟨rfl,h2,h3,h4⟩:=hq
 exact ⟨.inl ⟨.bool true,.bool true,[],rfl,fun _=>rfl,.bool true,wN l _,fun _=>⟨List.Pairwise.nil,fun _ hm=>(nomatch hm)⟩⟩,h2,h3,h4⟩
section
variable {prog : Program} {w : World} {A : Around} {E : Value->Shared->Prop} {s : Shared} {K : Frag}
theorem DN {R : Result->Shared->Prop} {C fI : Addr} {az : List Value} {kw : List (Str × Value)}
  (X : K.In s.heap) (hm : makesIn K C = true) (hi : findIn K (.ref C) "__init__" = some (some (.ref fI))) (hf : isFn K (.ref fI) = true)
  (h : codeAny (model prog w) (A.under (.builtin "type.__call__" ⟨.ref C :: az,kw⟩)) (.call (.ref fI) ⟨.ref (s.heap.objs.size + 1) :: az,kw⟩) (InitBack (s.heap.objs.size + 1) R)
   { s with heap:=(s.heap.push emptyDict).push (instObj C s.heap.objs.size) }) : codeAny (model prog w) A (.call (.ref C) ⟨az,kw⟩) R s:=by
 obtain ⟨hh,g,d,t,os⟩:=s
 exact make_core (makes_of X hm) (looks_findIn X hi) (fun self=>bind_fn X self (beq_iff_eq.mp hf)) (.inl rfl) h
theorem Dc {x C : Addr} {ox : Obj} {es : List DictEntry} {n : Nat} {name : Str} {expr : Bool} {v : Value} {Q : Value->Shared->Prop}
  (X : K.In s.heap) (I : PySem.W.InstAt s.heap x ox C (some (dictOf es n))) (hg : plainGet K C name = true) (hh : hasDictIn K C = true) (ha : findIn K (.ref C) name = some none)
  (hl : getL name es = some (some v)) (hv : handedIn v = true) (h : Q v { s with toks:=s.toks + 1 }) : wpAny (model prog w) A (getAttr (.ref x) name expr) Q E s :=
 get_value X I (plainGet_of hg).1 (findObj_own hh ha rfl hl) hv h
def EM (h : Heap) (L d : Addr) : List (Addr × Obj):=(List.range h.objs.size).filterMap fun a=>if a = L ∨ a = d then none else (h.get? a).map fun o=>(a,o)
end
end Att
namespace L2
open PySem PySem.Spec PyProof.Rows
theorem ie : ∀ {vs : List Value} {ns : List Int},IntsAre vs ns->aQ (ns.map V.int) vs
 | _,_,.nil=>.nil
 | _,_,.cons n t h=>.cons ⟨t,rfl⟩ (ie h)
def eJ (s : Stmt) : Arguments:=match s with
 | .FunctionDef _ a _ _ _ _ _ _ _ _=>a
 | _=>{ posonlyargs:=[],args:=[],vararg:=none,kwonlyargs:=[],kw_defaults:=[],kwarg:=none,defaults:=[] }
def cx (s : Stmt) : List Stmt:=match s with
 | .FunctionDef _ _ b _ _ _ _ _ _ _=>b
 | _=>[]
def ar (s : Stmt) : Scope:=match s with
 | .FunctionDef _ _ _ _ _ _ sc _ _ _=>sc
 | _=>{ kind:=.function,names:=[],isGenerator:=false,isCoroutine:=false }
abbrev CX0 : CXT:=fun _ _ _ _ _ _=>False
abbrev E0 : XK:=fun _ _ _=>False
theorem DO {X : Cx} : ui CX0 X E0:=fun _ _ _ _ _ _ _ h=>h.elim
structure Fun (K : PySem.W.Frag) (x qual : Str) (st : Stmt) (f : Addr) (fd : FuncData) : Prop where
 ex : ∃ (oc : Value) (od : Option Addr) (kV doc pm : Value) (an : Option Addr) (cdv ct : Value) (osl : Array (Option Value)),
  fd = PySem.W.fnOf x qual (eJ st) (cx st) (ar st) .none kV doc pm an cdv ct/\K.lookup f = some ⟨oc,od,.func fd,osl⟩/\PySem.W.codeIn K cdv qual = true
 kp : PySem.W.keepIn K (.ref f) = true
section
variable {P : Program} {w : World} {K : PySem.W.Frag} {mg : Str->Option Value} {base : Heap}
theorem Fun.ok {x qual : Str} {st : Stmt} {f : Addr} {fd : FuncData} {N ps : List Str} {k : Nat} {sp : Sp} (F : Fun K x qual st f fd) (S : FnScope N ps (ar st)) (len : ∀ vs H Q E,sp vs H Q E->vs.length = ps.length)
  (hbody : ∀ (cdv : Value) (A : Around) (outer : List Env) (s : Shared) (H : Hp) (vs : List V) (Q : VK) (E : XK),Room k (A.deeper (envOfC qual (ar st) s.heap.objs.size f cdv))->sp vs H Q E ->
   ∃ t,PSs (lN CX0 P w K mg base N qual (ar st) f cdv A outer s H E).nox (cx st) t/\t { nx:=fun _ H'=>Q .non H',rt:=Q } (gu N vs) H) : FnOk P w K mg base CX0 (k + 1) f fd ps sp:=by
 obtain ⟨oc,od,kV,doc,pm,an,cdv,ct,osl,rfl,lk,hcd⟩:=F.ex
 refine Bc lk hcd S len fun A outer s H vs Q E hr hsp=>?_
 obtain ⟨t,h,q⟩:=hbody cdv A outer s H vs Q E hr hsp
 exact ⟨t,h.nox,q⟩
theorem Fun.binds {x qual : Str} {st : Stmt} {f : Addr} {fd : FuncData} {ps : List Str} (F : Fun K x qual st f fd)
  (h : ∀ (kV doc pm : Value) (an : Option Addr) (cdv ct : Value) (us : List Value),us.length = ps.length->bindArgs (PySem.W.fnOf x qual (eJ st) (cx st) (ar st) .none kV doc pm an cdv ct) ⟨us,[]⟩ = pure (ps.zip us)) : o6 K fd ps []:=by
 obtain ⟨oc,od,kV,doc,pm,an,cdv,ct,osl,rfl,lk,hcd⟩:=F.ex
 exact .all (h kV doc pm an cdv ct)
theorem Cq {x qual : Str} {st : Stmt} {f : Addr} {oc : Value} {od an : Option Addr} {osl : Array (Option Value)} {kV doc pm cdv ct : Value} (l : K.lookup f = some ⟨oc,od,.func (PySem.W.fnOf x qual (eJ st) (cx st) (ar st) .none kV doc pm an cdv ct),osl⟩)
  (c : PySem.W.codeIn K cdv qual = true) (k : PySem.W.keepIn K (.ref f) = true) : Fun K x qual st f (PySem.W.fnOf x qual (eJ st) (cx st) (ar st) .none kV doc pm an cdv ct):=⟨⟨oc,od,kV,doc,pm,an,cdv,ct,osl,rfl,l,c⟩,k⟩
end
def aJ (H H' : Hp) : Prop:=∀ b o,H b = some o->H' b = some o
theorem aJ.refl (H : Hp) : aJ H H:=fun _ _ h=>h
theorem aJ.trans {H H1 H2 : Hp} (a : aJ H H1) (b : aJ H1 H2) : aJ H H2:=fun c o h=>b c o (a c o h)
theorem aJ.free {H H' : Hp} (e : aJ H H') {l : Addr} (h : H' l = Option.none) : H l = Option.none:=by
 cases q : H l with
 | none=>rfl
 | some o =>
  rw [e l o q] at h
  cases h
theorem aJ.seq {K : PySem.W.Frag} {H H' : Hp} {a : Addr} {xs : List V} (e : aJ H H') (h : SqL K H a xs) : SqL K H' a xs:=by
 rcases h with (h | ⟨o,h⟩) | h
 ·exact .inl (.inl (e _ _ h))
 ·exact .inl (.inr ⟨o,e _ _ h⟩)
 ·exact .inr h
section
variable {κ : Type} [DecidableEq κ]
def iG (kvs : List (κ × V)) (k : κ) : Option V:=(kvs.find? fun kv=>decide (kv.1 = k)).map (·.2)
def iH (kvs : List (κ × V)) (k : κ) (v : V) : List (κ × V) :=
 if (kvs.any fun kv=>decide (kv.1 = k)) = true then kvs.map (fun kv=>if kv.1 = k then (kv.1,v) else kv) else kvs ++ [(k,v)]
theorem jv {p : κ × V} {r : List (κ × V)} {k : κ} (e : p.1 = k) : iG (p :: r) k = some p.2:=by simp [iG,List.find?_cons,e]
theorem jw {p : κ × V} {r : List (κ × V)} {k : κ} (e : ¬ p.1 = k) : iG (p :: r) k = iG r k:=by simp [iG,List.find?_cons,e]
theorem rM (k : κ) : ∀ kvs : List (κ × V),(kvs.any fun kv=>decide (kv.1 = k)) = (iG kvs k).isSome
 | []=>rfl
 | p :: r=>by
  rw [List.any_cons]
  by_cases e : p.1 = k
  ·simp only [jv e,decide_eq_true e,Bool.true_or,Option.isSome_some]
  ·rw [jw e,decide_eq_false e,Bool.false_or]; exact rM k r
theorem gA (kvs : List (κ × V)) (k : κ) (v : V) : (iH kvs k v).length<=kvs.length + 1:=by
 unfold iH
 split
 ·rw [List.length_map]; omega
 ·rw [List.length_append,List.length_cons,List.length_nil]; omega
theorem ly.isSome_eq {o : Option V} {u : Option Value} (r : ly o u) : o.isSome = u.isSome:=by
 cases o with
 | none=>cases u with
  | none=>rfl
  | some _=>exact (show False from r).elim
 | some _=>cases u with
  | none=>exact (show False from r).elim
  | some _=>rfl
theorem ly.getD {o : Option V} {u : Option Value} {d : V} {d' : Value} (r : ly o u) (rd : aN d d') : aN (o.getD d) (u.getD d'):=by
 cases o with
 | none=>cases u with
  | none=>exact rd
  | some _=>exact (show False from r).elim
 | some _=>cases u with
  | none=>exact (show False from r).elim
  | some _=>exact r
theorem KV.val {kvs : List (κ × V)} {vs : List (κ × Value)} (r : KV kvs vs) (k : κ) : ly (iG kvs k) (valueAt vs k):=by
 unfold KV at r
 induction r with
 | nil=>exact True.intro
 | @cons p q ps qs h t ih =>
  obtain ⟨h1,h2⟩:=h
  by_cases e : p.1 = k
  ·have e' : q.1 = k:=h1.symm.trans e
   have b : valueAt (q :: qs) k = some q.2:=by simp [valueAt,List.find?_cons,e']
   rw [jv e,b]; exact h2
  ·have e' : ¬ q.1 = k:=fun z=>e (h1.trans z)
   have b : valueAt (q :: qs) k = valueAt qs k:=by simp [valueAt,List.find?_cons,e']
   rw [jw e,b]; exact ih
theorem KV.any {kvs : List (κ × V)} {vs : List (κ × Value)} (r : KV kvs vs) (k : κ) : (kvs.any fun kv=>decide (kv.1 = k)) = vs.any fun kv=>decide (kv.1 = k):=by
 unfold KV at r
 induction r with
 | nil=>rfl
 | cons h t ih=>rw [List.any_cons,List.any_cons,ih,h.1]
theorem KV.repl {kvs : List (κ × V)} {vs : List (κ × Value)} (r : KV kvs vs) (k : κ) {y : V} {u : Value} (ry : aN y u) :
  KV (kvs.map fun kv=>if kv.1 = k then (kv.1,y) else kv) (vs.map fun kv=>if kv.1 = k then (kv.1,u) else kv):=by
 unfold KV at r ⊢
 induction r with
 | nil=>exact .nil
 | @cons p q ps qs h t ih =>
  rw [List.map_cons,List.map_cons]
  refine .cons ?_ ih
  obtain ⟨h1,h2⟩:=h
  by_cases e : p.1 = k
  ·rw [if_pos e,if_pos (h1.symm.trans e)]; exact ⟨h1,ry⟩
  ·rw [if_neg e,if_neg (fun z=>e (h1.trans z))]; exact ⟨h1,h2⟩
theorem KV.put {kvs : List (κ × V)} {vs : List (κ × Value)} (r : KV kvs vs) (k : κ) {y : V} {u : Value} (ry : aN y u) : KV (iH kvs k y) (stored vs k u):=by
 unfold iH stored
 rw [r.any k]
 by_cases e : (vs.any fun kv=>decide (kv.1 = k)) = true
 ·rw [if_pos e,if_pos e]; exact r.repl k ry
 ·rw [if_neg e,if_neg e]; exact Paired.snoc r ⟨rfl,ry⟩
theorem KV.length {kvs : List (κ × V)} {vs : List (κ × Value)} (r : KV kvs vs) : kvs.length = vs.length:=Paired.length r
end
theorem v0 {P : Program} {w : World} {k : Key} {u : Value} (r : aN (kV k) u) : (cf P w).is k u = true:=by
 cases k with
 | inl i=>obtain ⟨t,e⟩:=(show ∃ t,u = Value.int i t from r); subst e; exact rA P w i t
 | inr x=>obtain ⟨t,e⟩:=(show ∃ t,u = Value.str x t from r); subst e; exact rB P w x t
theorem oD {P : Program} {w : World} : ∀ {ks : List Key} {us : List Value},aQ (ks.map kV) us->ItemsAre (cf P w) ks us
 | [],_,r=>by rw [List.map_nil] at r; cases r; exact .nil
 | k :: ks,_,r=>by
  rw [List.map_cons] at r
  cases r with
  | cons h t=>exact .cons (v0 h) (oD t)
abbrev KT (H : Hp) : List (List Key × V)->List (List Key × Addr × Value)->Prop:=Paired fun p q=>p.1 = q.1/\H q.2.1 = some (.tup (p.1.map kV))/\aN p.2 q.2.2
theorem KT.val {H : Hp} {kvs : List (List Key × V)} {xs : List (List Key × Addr × Value)} (r : KT H kvs xs) (k : List Key) : ly (iG kvs k) ((atKey xs k).map (·.2)):=by
 induction r with
 | nil=>exact True.intro
 | @cons p q ps qs h t ih =>
  obtain ⟨h1,_,h2⟩:=h
  by_cases e : p.1 = k
  ·have e' : q.1 = k:=h1.symm.trans e
   have b : atKey (q :: qs) k = some q.2:=by simp [atKey,List.find?_cons,e']
   rw [jv e,b]; exact h2
  ·have e' : ¬ q.1 = k:=fun z=>e (h1.trans z)
   have b : atKey (q :: qs) k = atKey qs k:=by simp [atKey,List.find?_cons,e']
   rw [jw e,b]; exact ih
theorem KT.repl {H : Hp} {kvs : List (List Key × V)} {xs : List (List Key × Addr × Value)} (r : KT H kvs xs) (k : List Key) {y : V} {u : Value} (ry : aN y u) :
  KT H (kvs.map fun kv=>if kv.1 = k then (kv.1,y) else kv) (xs.map (putAt k u)):=by
 induction r with
 | nil=>exact .nil
 | @cons p q ps qs h t ih =>
  rw [List.map_cons,List.map_cons]
  refine .cons ?_ ih
  obtain ⟨h1,h2,h3⟩:=h
  unfold putAt
  by_cases e : p.1 = k
  ·rw [if_pos e,if_pos (h1.symm.trans e)]; exact ⟨h1,h2,ry⟩
  ·rw [if_neg e,if_neg (fun z=>e (h1.trans z))]; exact ⟨h1,h2,h3⟩
theorem KT.put {H : Hp} {kvs : List (List Key × V)} {xs : List (List Key × Addr × Value)} (r : KT H kvs xs) (k : List Key) {b : Addr} {y : V} {u : Value} (hb : H b = some (.tup (k.map kV))) (ry : aN y u) :
  KT H (iH kvs k y) (storedH xs k b u):=by
 have e : (kvs.any fun kv=>decide (kv.1 = k)) = (atKey xs k).isSome:=by
  rw [rM,(r.val k).isSome_eq,Option.isSome_map]
 unfold iH storedH
 rw [e]
 by_cases q : (atKey xs k).isSome = true
 ·rw [if_pos q,if_pos q]; exact r.repl k ry
 ·rw [if_neg q,if_neg q]; exact Paired.snoc r ⟨rfl,hb,ry⟩
theorem KT.keeps {H H' : Hp} {kvs : List (List Key × V)} {xs : List (List Key × Addr × Value)} (r : KT H kvs xs) (ht : ∀ b ys,H b = some (.tup ys)->H' b = some (.tup ys)) : KT H' kvs xs :=
 Paired.mapP r fun _ _ z=>⟨z.1,ht _ _ z.2.1,z.2.2⟩
section
variable {P : Program} {w : World} {H : Hp} {h : Heap} {a : Addr}
theorem Bf {u : HO} (ok : HOk P w H h) (e : Rd H a u) : bD P w H h a u:=e.ok ok
theorem yi {kvs : List (Key × V)} (ok : HOk P w H h) (e : Rd H a (.dK kvs)) : kvs.length<=sizeLine/\(a == sysModules) = false/\∃ vs,KV kvs vs/\h.DictOf (cf P w) a vs :=
 show bD P w H h a (.dK kvs) from Bf ok e
theorem Bg {kvs : List (Key × V)} (ok : HOk P w H h) (e : H a = some (.dK kvs)) : kvs.length<=sizeLine/\(a == sysModules) = false/\∃ vs,KV kvs vs/\h.DictOf (cf P w) a vs:=yi ok (.inl e)
theorem uo {ks : List Key} (ok : HOk P w H h) (e : H a = some (.tup (ks.map kV))) : (tupleKind (cf P w)).is h ks a:=by
 obtain ⟨_,its,r,o,h1,h2,n,h3⟩:=(show bD P w H h a (.tup (ks.map kV)) from ok a _ e)
 exact ⟨o,its.toArray,n,h1,h2,h3,by simpa using oD r⟩
theorem yj {kvs : List (List Key × V)} (ok : HOk P w H h) (e : Rd H a (.dT kvs)) : kvs.length<=sizeLine/\(a == sysModules) = false /\
  ∃ xs,KT H kvs xs/\h.DictOfH (tupleKind (cf P w)) a xs:=by
 obtain ⟨z,y,xs,r,o,es,ep,h1,h2,h3,h4,h5⟩:=(show bD P w H h a (.dT kvs) from Bf ok e)
 refine ⟨z,y,xs,r,o,es,ep,h1,h2,h3,h4,fun x hx=>?_,h5⟩
 have all : ∀ {l : List (List Key × V)} {m : List (List Key × Addr × Value)},KT H l m->∀ x ∈ m,(tupleKind (cf P w)).is h x.1 x.2.1:=by
  intro l m q
  induction q with
  | nil=>intro x hx; exact nomatch hx
  | @cons p q ps qs hq t ih =>
   intro x hx
   rcases List.mem_cons.mp hx with e | hx
   ·subst e
    exact uo ok (by rw [← hq.1]; exact hq.2.1)
   ·exact ih x hx
 exact all r x hx
theorem DP {kvs : List (List Key × V)} (ok : HOk P w H h) (e : H a = some (.dT kvs)) : kvs.length<=sizeLine/\(a == sysModules) = false /\
  ∃ xs,KT H kvs xs/\h.DictOfH (tupleKind (cf P w)) a xs:=yj ok (.inl e)
end
def wO (H : Hp) (a : Addr) (y : V) (r : Option V) : Prop :=
 (∃ kvs k,Rd H a (.dK kvs)/\y = kV k/\r = iG kvs k) ∨ ∃ kvs k b,Rd H a (.dT kvs)/\y = .ref b/\H b = some (.tup (k.map kV))/\r = iG kvs k
def wP (H : Hp) (a : Addr) (y v : V) (H' : Hp) : Prop :=
 (∃ kvs k,H a = some (.dK kvs)/\y = kV k/\kvs.length < sizeLine/\H' = upd H a (.dK (iH kvs k v))) ∨
 ∃ kvs k b,H a = some (.dT kvs)/\y = .ref b/\H b = some (.tup (k.map kV))/\kvs.length < sizeLine/\H' = upd H a (.dT (iH kvs k v))
theorem wO.k {H : Hp} {a : Addr} {kvs : List (Key × V)} {k : Key} (e : H a = some (.dK kvs)) : wO H a (kV k) (iG kvs k):=.inl ⟨kvs,k,.inl e,rfl,rfl⟩
theorem wO.t {H : Hp} {a b : Addr} {kvs : List (List Key × V)} {k : List Key} (e : H a = some (.dT kvs)) (eb : H b = some (.tup (k.map kV))) : wO H a (.ref b) (iG kvs k):=.inr ⟨kvs,k,b,.inl e,rfl,eb,rfl⟩
theorem wP.k {H : Hp} {a : Addr} {kvs : List (Key × V)} {k : Key} {v : V} (e : H a = some (.dK kvs)) (hl : kvs.length < sizeLine) : wP H a (kV k) v (upd H a (.dK (iH kvs k v))):=.inl ⟨kvs,k,e,rfl,hl,rfl⟩
theorem wP.t {H : Hp} {a b : Addr} {kvs : List (List Key × V)} {k : List Key} {v : V} (e : H a = some (.dT kvs)) (eb : H b = some (.tup (k.map kV))) (hl : kvs.length < sizeLine) :
  wP H a (.ref b) v (upd H a (.dT (iH kvs k v))):=.inr ⟨kvs,k,b,e,rfl,eb,hl,rfl⟩
section
variable {X : Cx} {pins : List (Addr × Obj)} {σ : St} {H : Hp} {s : Shared} {a : Addr} {y v : V} {u r : Value} {o : Option V} {A : Around} {E : Value->Shared->Prop}
theorem Inv.big (I : Inv X pins σ H s) : sysModules < s.heap.objs.size:=by
 have h : mainGlobals < s.heap.objs.size:=(I.mod.glob.keeps I.bk).lt
 exact Nat.lt_trans (by decide) h
theorem pY {h' : Heap} {t' : Nat} {ob : HO} (I : Inv X pins σ H s) (mu : Mut (H a)) (hs : Heap.SameBut a s.heap h') (he : ∃ q,h'.get? a = some q) (new : bD X.prog X.w (upd H a ob) h' a ob) :
  Inv X pins σ (upd H a ob) { s with heap:=h',toks:=t' } :=
 I.write (x:=a) (e:=a) mu (.inl rfl) (fun b q hb z=>(hs.2 b hb).trans z) he new
theorem yk {P : Program} {w : World} {H' : Hp} {h' : Heap} {kvs : List (Key × V)} {vs : List (Key × Value)} (z : kvs.length<=sizeLine) (hd : (a == sysModules) = false) (rel : KV kvs vs) (dd : h'.DictOf (cf P w) a vs) :
  bD P w H' h' a (.dK kvs):=⟨z,hd,vs,rel,dd⟩
theorem wQ {H' : Hp} {Q : Unit->Shared->Prop} (hu : A.units + 1 < cLine) (I : Inv X pins σ H s) (g : wP H a y v H') (ry : aN y u) (rv : aN v r) (h : ∀ s',Inv X pins σ H' s'->Q () s') :
  wpAny (model X.prog X.w) A (setItem (.ref a) u r) Q E s:=by
 rcases g with ⟨kvs,k,e,ey,l,eH⟩ | ⟨kvs,k,b,e,ey,eb,l,eH⟩
 ·subst ey eH
  obtain ⟨z,hd,vs,rel,dd⟩:=Bg I.hok e
  have hz : vs.length<=sizeLine:=by rw [← rel.length]; exact z
  have hl : (iH kvs k v).length<=sizeLine:=by have:=gA kvs k v; omega
  refine wpAny_setItem_pairs (hsz:=hz) (v0 ry) dd fun h' dd' hs=>h _ ?_
  have he : ∃ q,h'.get? a = some q:=let ⟨q,_,_,hq,_⟩:=dd'; ⟨q,hq⟩
  exact pY I (by rw [e]; exact True.intro) hs he (yk hl hd (rel.put k rv) dd')
 ·subst ey eH
  cases (show u = Value.ref b from ry)
  obtain ⟨z,hd,xs,rel,dd⟩:=DP I.hok e
  have hz : xs.length<=sizeLine:=by rw [← Paired.length rel]; exact z
  have hl : (iH kvs k v).length<=sizeLine:=by have:=gA kvs k v; omega
  refine wpAny_setItem_heap (hsz:=hz) (tupleKind_room_in1 hu) (uo I.hok eb) dd fun h' dd' hs=>h _ ?_
  obtain ⟨q,es,ep,hq,h2,h3,h4,_,h5⟩:=dd'
  refine pY I (by rw [e]; exact True.intro) hs ⟨q,hq⟩ ⟨hl,hd,_,(rel.put k eb rv).keeps fun c ys ec=>?_,q,es,ep,hq,h2,h3,h4,h5⟩
  rw [a9 (Dr ec e (fun z=>nomatch z))]
  exact ec
end
def Bh (td ty tv : TE) : TS:=fun D σ H=>tv σ H fun v H1=>td σ H1 fun x H2=>ty σ H2 fun y H3=>∃ a H4,x = .ref a/\wP H3 a y v H4/\D.nx σ H4
section
variable {X : Cx} {o i e value : Expr} {pos pos' tpos : Pos} {td ty tv : TE}
theorem Ag (hu : X.A.units + 1 < cLine) (ho : PE X o td) (hi : PE X i ty) (hv : PE X value tv) (hs : swapsWith value (some (.Subscript o i pos')) pos.line X.env = pure false) :
  PS X (.Assign [.Subscript o i pos'] value pos) (Bh td ty tv):=by
 intro pins s σ H D I h
 refine wpAny_Assign_Subscript (thn (hv pins s σ H _ I h) fun r s1 ⟨v,H1,I1,rv,q1⟩=>thn (ho pins s1 σ H1 _ I1 q1) fun u s2 ⟨x,H2,I2,rx,q2⟩=>thn (hi pins s2 σ H2 _ I2 q2) fun iv s3 ⟨y,H3,I3,ry,a,H4,ex,g,q3⟩=>?_) hs
 subst ex
 obtain rfl : u = Value.ref a:=rx
 exact wQ hu I3 g ry rv fun s4 I4=>⟨σ,H4,I4,q3⟩
end
theorem ym {P : Program} {w : World} {H : Hp} (h : Heap) (hb : sysModules < h.objs.size) : bD P w H (h.push { cls:=.type "dict",data:=.dict #[] }) h.objs.size (.dK []) :=
 ⟨Nat.zero_le _,beq_eq_false_iff_ne.mpr (Ne.symm (Nat.ne_of_lt hb)),[],.nil,Heap.DictOf.new h⟩
theorem yn {P : Program} {w : World} {H : Hp} (h : Heap) (hb : sysModules < h.objs.size) : bD P w H (h.push { cls:=.type "dict",data:=.dict #[] }) h.objs.size (.dT []) :=
 ⟨Nat.zero_le _,beq_eq_false_iff_ne.mpr (Ne.symm (Nat.ne_of_lt hb)),[],.nil,_,#[],0,Heap.get?_push_size _ rfl,⟨rfl,rfl,rfl⟩,rfl,rfl,List.nodup_nil⟩
def yo : TE:=fun _ H Q=>∀ p,H p = none->Q (.ref p) (upd H p (.dT []))
section
variable {X : Cx} {pos : Pos}
theorem yp : PE X (.Dict [] [] pos) yo:=fun pins s σ H Q I h =>
 wpAny_Dict_empty ⟨.ref s.heap.objs.size,_,I.laid (a:=s.heap.objs.size) (o:=.dT []) (t':=s.toks) (fun _ _ q=>Heap.get?_push_of_some _ q) (Nat.le_refl _) (yn s.heap I.big),rfl,h _ (I.hok.fresh (Nat.le_refl _))⟩
end
structure M1 (X : Cx) (o : Expr) (m : Str) (apos : Pos) (e : Expr) (cpos : Pos) : Prop where
 base : attributeBase o m X.env (eval o X.env) = eval o X.env
 few : ((backTo cpos (starEach [e] X.env)).all (fun x=>!x.1) && (backToKw cpos (keywordEach [] X.env)).all (fun x=>x.1.isSome)
  && decide (([e] : List Expr).length + ([] : List Keyword).length + (if ([] : List Keyword).isEmpty then 0 else 1) < 30)) = true
 line : (apos.endLine == cpos.line) = true
 trees : backTo cpos (starEach [e] X.env) = [(false,eval e X.env)]
def IsD (H : Hp) (a : Addr) : Prop:=(∃ kvs,Rd H a (.dK kvs)) ∨ ∃ kvs,Rd H a (.dT kvs)
theorem Cr {X : Cx} {pins : List (Addr × Obj)} {σ : St} {H : Hp} {s : Shared} {a : Addr} (I : Inv X pins σ H s) (d : IsD H a) :
  s.TypeIs (.ref a) "dict"/\(∀ b,Value.ref a = .ref b->∃ ob,s.heap.get? b = some ob/\ob.dict = none)/\(a == sysModules) = false:=by
 rcases d with ⟨kvs,e⟩ | ⟨kvs,e⟩
 ·obtain ⟨_,hd,vs,_,dd⟩:=yi I.hok e
  refine ⟨dd.typeIs,fun b q=>?_,hd⟩
  cases q
  obtain ⟨ob,_,_,h1,h2,_⟩:=dd
  exact ⟨ob,h1,h2.2.1⟩
 ·obtain ⟨_,hd,xs,_,dd⟩:=yj I.hok e
  refine ⟨dd.typeIs,fun b q=>?_,hd⟩
  cases q
  obtain ⟨ob,_,_,h1,h2,_⟩:=dd
  exact ⟨ob,h1,h2.2.1⟩
section
variable {X : Cx} {pins : List (Addr × Obj)} {σ : St} {H : Hp} {s : Shared} {a : Addr} {y d : V} {u r : Value} {o : Option V} {A : Around} {E : Value->Shared->Prop}
theorem Cs {Q : Value->Shared->Prop} (hu : A.units + 1 < cLine) (I : Inv X pins σ H s) (g : wO H a y o) (ry : aN y u) (h : ∀ w' s',Inv X pins σ H s'->aN (o.getD .non) w'->Q w' s') :
  wpAny (model X.prog X.w) A (call (.builtin "dict.get") [.ref a,u]) Q E s:=by
 rcases g with ⟨kvs,k,e,ey,l⟩ | ⟨kvs,k,b,e,ey,eb,l⟩
 ·subst ey
  obtain ⟨z,hd,vs,rel,dd⟩:=yi I.hok e
  refine call_meetsIn PySem.F.slot_dict_get dd.typeIs PySem.F.entry_dict_get (PySem.F.args_dict_get_2 _ _) (meets_dict_get (cf X.prog X.w) a (v0 ry) hd) ⟨_,dd.mapOf,h _ _ (I.tok _) ?_⟩
  rw [l]
  exact (rel.val k).getD rfl
 ·subst ey
  cases (show u = Value.ref b from ry)
  obtain ⟨z,hd,xs,rel,dd⟩:=yj I.hok e
  refine call_meetsIn PySem.F.slot_dict_get dd.typeIs PySem.F.entry_dict_get (PySem.F.args_dict_get_2 _ _) (meetsH_dict_get (tupleKind (cf X.prog X.w)) a b hd) ⟨tupleKind_room_in1 hu,k,xs,uo I.hok eb,dd,h _ _ (I.tok _) ?_⟩
  rw [l]
  exact (rel.val k).getD rfl
end
def Ct (td ty : TE) : TE:=fun σ H Q=>td σ H fun x H1=>∃ a,x = .ref a/\IsD H1 a/\ty σ H1 fun y H2=>∃ o,wO H2 a y o/\Q (o.getD .non) H2
section
variable {X : Cx} {o e f : Expr} {apos cpos : Pos} {td ty tx : TE}
theorem rN (hu : X.A.units + 1 < cLine) (ho : PE X o td) (he : PE X e ty) (m : M1 X o "get" apos e cpos) : PE X (.Call (.Attribute o "get" apos) [e] [] cpos) (Ct td ty):=by
 intro pins s σ H Q I h
 refine wpAny_Call_method m.base m.few m.line PySem.F.plainAttrs_dict PySem.F.slot_dict_get PySem.F.type_dict_get (thn (ho pins s σ H _ I h) fun u s1 ⟨x,H1,I1,rx,a,ex,d,q1⟩=>?_)
 subst ex
 obtain rfl : u = Value.ref a:=rx
 obtain ⟨t1,t2,_⟩:=Cr I1 d
 refine ⟨t1,t2, ?_⟩
 rw [m.trees]
 refine Calls.callWith_builtin rfl (Calls.evalArgs_plain (Calls.spliced_cons (thn (he pins s1 σ H1 _ I1 q1) fun iv s2 ⟨y,H2,I2,ry,ov,g,q2⟩=>Calls.spliced_nil ?_)))
 exact Cs hu I2 g ry fun w' s3 I3 rw'=>⟨_,H2,I3,rw',q2⟩
end
end L2
namespace DL
open PySem L2
set_option linter.all false
abbrev St:=L2.St
inductive D where
 | non | bl (b : Bool) | int (i : Int) | str (x : Str) | ty (n : String) | tup (ds : List D) | lst (ds : List D)
  | dk (ks : List Key) (vs : List D) | dt (ks : List (List Key)) (vs : List D)
mutual
inductive Is (K : PySem.W.Frag) (H : Hp) : V->D->Prop where
 | non : Is K H .non .non
 | bl (b : Bool) : Is K H (.bl b) (.bl b)
 | int (i : Int) : Is K H (.int i) (.int i)
 | str (x : Str) : Is K H (.str x) (.str x)
 | ty (n : String) : Is K H (.ty n) (.ty n)
 | tup {a : Addr} {vs : List V} {ds : List D} (h : SqT K H a vs) (hs : IsL K H vs ds) : Is K H (.ref a) (.tup ds)
 | lst {a : Addr} {vs : List V} {ds : List D} (h : SqL K H a vs) (hs : IsL K H vs ds) : Is K H (.ref a) (.lst ds)
 | dk {a : Addr} {ks : List Key} {vs : List V} {ds : List D} (h : H a = some (.dK (ks.zip vs))) (hl : ks.length = vs.length) (hs : IsL K H vs ds) : Is K H (.ref a) (.dk ks ds)
 | dt {a : Addr} {ks : List (List Key)} {vs : List V} {ds : List D} (h : H a = some (.dT (ks.zip vs))) (hl : ks.length = vs.length) (hs : IsL K H vs ds) : Is K H (.ref a) (.dt ks ds)
inductive IsL (K : PySem.W.Frag) (H : Hp) : List V->List D->Prop where
 | nil : IsL K H [] []
 | cons {v : V} {d : D} {vs : List V} {ds : List D} (h : Is K H v d) (hs : IsL K H vs ds) : IsL K H (v :: vs) (d :: ds)
end
mutual
def bc : D->Bool
 | .lst _=>false
 | .dk _ _=>false
 | .dt _ _=>false
 | .tup ds=>bo ds
 | _=>true
def bo : List D->Bool
 | []=>true
 | d :: ds=>bc d && bo ds
end
@[simp] theorem De : bc .non = true:=by simp only [bc]
@[simp] theorem DQ (b : Bool) : bc (.bl b) = true:=by simp only [bc]
@[simp] theorem Df (i : Int) : bc (.int i) = true:=by simp only [bc]
@[simp] theorem Dg (x : Str) : bc (.str x) = true:=by simp only [bc]
@[simp] theorem DR (x : String) : bc (.ty x) = true:=by simp only [bc]
@[simp] theorem Dh (ds : List D) : bc (.tup ds) = bo ds:=by rw [bc]
@[simp] theorem Di (ds : List D) : bc (.lst ds) = false:=by rw [bc]
@[simp] theorem DS (ks : List Key) (ds : List D) : bc (.dk ks ds) = false:=by rw [bc]
@[simp] theorem DT (ks : List (List Key)) (ds : List D) : bc (.dt ks ds) = false:=by rw [bc]
@[simp] theorem Cu : bo [] = true:=by rw [bo]
@[simp] theorem Bi (d : D) (ds : List D) : bo (d :: ds) = (bc d && bo ds):=by rw [bo]
section
variable {K : PySem.W.Frag} {H H' : Hp}
mutual
theorem Is.keep (hT : ∀ a vs,SqT K H a vs->SqT K H' a vs) (hL : ∀ a vs,SqL K H a vs->SqL K H' a vs) (hK : ∀ a kvs,H a = some (.dK kvs)->H' a = some (.dK kvs)) (hM : ∀ a kvs,H a = some (.dT kvs)->H' a = some (.dT kvs)) : ∀ {v : V} {d : D},Is K H v d->Is K H' v d
 | _,_,.non=>.non
 | _,_,.bl b=>.bl b
 | _,_,.int i=>.int i
 | _,_,.str x=>.str x
 | _,_,.ty x=>.ty x
 | _,_,.tup h hs=>.tup (hT _ _ h) (IsL.keep hT hL hK hM hs)
 | _,_,.lst h hs=>.lst (hL _ _ h) (IsL.keep hT hL hK hM hs)
 | _,_,.dk h hl hs=>.dk (hK _ _ h) hl (IsL.keep hT hL hK hM hs)
 | _,_,.dt h hl hs=>.dt (hM _ _ h) hl (IsL.keep hT hL hK hM hs)
theorem IsL.keep (hT : ∀ a vs,SqT K H a vs->SqT K H' a vs) (hL : ∀ a vs,SqL K H a vs->SqL K H' a vs) (hK : ∀ a kvs,H a = some (.dK kvs)->H' a = some (.dK kvs)) (hM : ∀ a kvs,H a = some (.dT kvs)->H' a = some (.dT kvs)) : ∀ {vs : List V} {ds : List D},IsL K H vs ds->IsL K H' vs ds
 | _,_,.nil=>.nil
 | _,_,.cons h hs=>.cons (Is.keep hT hL hK hM h) (IsL.keep hT hL hK hM hs)
end
mutual
theorem Is.keepT (hT : ∀ a vs,SqT K H a vs->SqT K H' a vs) : ∀ {v : V} {d : D},Is K H v d->bc d = true->Is K H' v d
 | _,_,.non,_=>.non
 | _,_,.bl b,_=>.bl b
 | _,_,.int i,_=>.int i
 | _,_,.str x,_=>.str x
 | _,_,.ty x,_=>.ty x
 | _,_,.tup h hs,n=>.tup (hT _ _ h) (IsL.keepT hT hs (by simpa using n))
 | _,_,.lst h hs,n=>by simp at n
 | _,_,.dk h hl hs,n=>by simp at n
 | _,_,.dt h hl hs,n=>by simp at n
theorem IsL.keepT (hT : ∀ a vs,SqT K H a vs->SqT K H' a vs) : ∀ {vs : List V} {ds : List D},IsL K H vs ds->bo ds = true->IsL K H' vs ds
 | _,_,.nil,_=>.nil
 | _,_,.cons h hs,n=>by
  simp at n
  exact .cons (Is.keepT hT h n.1) (IsL.keepT hT hs n.2)
end
theorem aX {a : Addr} {xs : List V} (e : aJ H H') (h : SqT K H a xs) : SqT K H' a xs:=by
 rcases h with (h | ⟨o,h⟩) | h
 ·exact .inl (.inl (e _ _ h))
 ·exact .inl (.inr ⟨o,e _ _ h⟩)
 ·exact .inr h
theorem Is.mono {v : V} {d : D} (h : Is K H v d) (e : aJ H H') : Is K H' v d:=h.keep (fun _ _=>aX e) (fun _ _=>e.seq) (fun _ _ q=>e _ _ q) fun _ _ q=>e _ _ q
theorem IsL.mono {v : List V} {d : List D} (h : IsL K H v d) (e : aJ H H') : IsL K H' v d:=h.keep (fun _ _=>aX e) (fun _ _=>e.seq) (fun _ _ q=>e _ _ q) fun _ _ q=>e _ _ q
theorem IsL.length : ∀ {vs : List V} {ds : List D},IsL K H vs ds->vs.length = ds.length
 | _,_,.nil=>rfl
 | _,_,.cons _ t=>congrArg (· + 1) t.length
theorem IsL.get : ∀ {vs : List V} {ds : List D} {i : Nat} {d : D},IsL K H vs ds->ds[i]? = some d->∃ v,vs[i]? = some v/\Is K H v d
 | _,_,_,_,.nil,e=>by simp at e
 | _,_,0,_,.cons h _,e=>by simp at e; subst e; exact ⟨_,rfl,h⟩
 | _,_,i + 1,d,.cons _ t,e=>by
  obtain ⟨u,h1,h2⟩:=t.get (i:=i) (d:=d) (by simpa using e)
  exact ⟨u,by simpa using h1,h2⟩
theorem IsL.append : ∀ {vs ws : List V} {ds es : List D},IsL K H vs ds->IsL K H ws es->IsL K H (vs ++ ws) (ds ++ es)
 | _,_,_,_,.nil,s=>s
 | _,_,_,_,.cons r t,s=>.cons r (t.append s)
theorem IsL.take : ∀ {vs : List V} {ds : List D} (n : Nat),IsL K H vs ds->IsL K H (vs.take n) (ds.take n)
 | _,_,0,_=>by simpa using IsL.nil
 | _,_,_ + 1,.nil=>.nil
 | _,_,n + 1,.cons r t=>.cons r (t.take n)
theorem IsL.drop : ∀ {vs : List V} {ds : List D} (n : Nat),IsL K H vs ds->IsL K H (vs.drop n) (ds.drop n)
 | _,_,0,r=>r
 | _,_,_ + 1,.nil=>.nil
 | _,_,n + 1,.cons _ t=>t.drop n
theorem IsL.set {v : V} {d : D} (h : Is K H v d) : ∀ {vs : List V} {ds : List D} (i : Nat),IsL K H vs ds->IsL K H (vs.set i v) (ds.set i d)
 | _,_,_,.nil=>.nil
 | _,_,0,.cons _ t=>.cons h t
 | _,_,i + 1,.cons r t=>.cons r (IsL.set h i t)
theorem IsL.eraseIdx : ∀ {vs : List V} {ds : List D} (i : Nat),IsL K H vs ds->IsL K H (vs.eraseIdx i) (ds.eraseIdx i)
 | _,_,_,.nil=>.nil
 | _,_,0,.cons _ t=>t
 | _,_,i + 1,.cons r t=>.cons r (t.eraseIdx i)
theorem IsL.flat {vs : List V} {ns : List Int} (h : vs = ns.map V.int) : IsL K H vs (ns.map D.int):=by
 subst h
 induction ns with
 | nil=>exact .nil
 | cons n ns ih=>exact .cons (.int n) ih
end
structure Ext (B N H H' : Hp) : Prop where
 hh : aJ H H'
 bn : aJ B N
 nh : aJ N H'
 new : ∀ a o,N a = some o->B a = some o ∨ H a = none
theorem Ext.refl {B H : Hp} (h : aJ B H) : Ext B B H H:=⟨.refl _,.refl _,h,fun _ _ e=>.inl e⟩
theorem Ext.trans {B N H H1 N2 H2 : Hp} (x : Ext B N H H1) (y : Ext N N2 H1 H2) : Ext B N2 H H2 :=
 ⟨x.hh.trans y.hh,x.bn.trans y.bn,y.nh,fun a o e=>(y.new a o e).elim (fun q=>x.new a o q) fun q=>.inr (x.hh.free q)⟩
theorem Ext.laid {B H : Hp} {p : Addr} {o : HO} (h : aJ B H) (hp : H p = none) : Ext B (upd B p o) H (upd H p o):=by
 have hB : B p = none:=h.free hp
 refine ⟨fun a u e=>?_,fun a u e=>?_,fun a u e=>?_,fun a u e=>?_⟩
 ·rw [a9 (fun q=>by subst q; rw [hp] at e; cases e)]; exact e
 ·rw [a9 (fun q=>by subst q; rw [hB] at e; cases e)]; exact e
 ·by_cases q : a = p
  ·subst q; rw [a8] at e ⊢; exact e
  ·rw [a9 q] at e ⊢; exact h _ _ e
 ·by_cases q : a = p
  ·subst q; exact .inr hp
  ·rw [a9 q] at e; exact .inl e
theorem Ext.grow {B H H' : Hp} (h : aJ B H) (hh : aJ H H') : Ext B B H H':=⟨hh,.refl _,h.trans hh,fun _ _ e=>.inl e⟩
abbrev Env:=List (Option (D × Bool))
abbrev FE:=Env->Option (D × Bool)
abbrev FA:=Env->Option (List D)
abbrev FT:=Env->Option Bool
def Fsh (K : PySem.W.Frag) (H N : Hp) (v : V) (d : D) : Prop:=∃ (a : Addr) (vs : List V) (ds : List D),v = .ref a/\d = .lst ds/\H a = none/\N a = some (.lst vs)/\IsL K N vs ds
theorem Fsh.back {K : PySem.W.Frag} {H H' N : Hp} {v : V} {d : D} (h : Fsh K H' N v d) (e : aJ H H') : Fsh K H N v d:=let ⟨a,vs,ds,q,y,z,r⟩:=h; ⟨a,vs,ds,q,y,e.free z,r⟩
def jx : List Str:=["in_order","has_seal","is_first_death","bases_by"]
def lP (x : Str) : Str:=x ++ ".<locals>." ++ "<lambda>"
def Tb (K : PySem.W.Frag) (B : Hp) : Prop:=∀ x ∈ jx,∀ c P,PySem.W.tabIn K x = some (c,P)->B P = some (.tbl (lP x))
theorem Tb.mono {K : PySem.W.Frag} {B B' : Hp} (h : Tb K B) (e : aJ B B') : Tb K B':=fun x hx c P q=>e _ _ (h x hx c P q)
structure RepE (K : PySem.W.Frag) (B : Hp) (σ : St) (ρ : Env) : Prop where
 tb : Tb K B
 at' : ∀ (i : Nat) (d : D) (b : Bool),ρ[i]? = some (some (d,b))->∃ v,σ[i]? = some (some v)/\Is K B v d
theorem RepE.mono {K : PySem.W.Frag} {B B' : Hp} {σ : St} {ρ : Env} (h : RepE K B σ ρ) (e : aJ B B') : RepE K B' σ ρ:=⟨h.tb.mono e,fun i d b q=>let ⟨v,h1,h2⟩:=h.at' i d b q; ⟨v,h1,h2.mono e⟩⟩
def Fin (K : PySem.W.Frag) (B H : Hp) (d : D) (b : Bool) (Q : VK) : Prop:=∀ (v : V) (H' N : Hp),Ext B N H H'->Is K N v d->(b = true->Fsh K H N v d)->Q v H'
def tD (K : PySem.W.Frag) (f : FE) : TE:=fun σ H Q=>∃ (B : Hp) (ρ : Env) (d : D) (b : Bool),aJ B H/\RepE K B σ ρ/\f ρ = some (d,b)/\Fin K B H d b Q
def tDT (K : PySem.W.Frag) (f : FT) : TT:=fun σ H Q=>∃ (B : Hp) (ρ : Env) (c : Bool),aJ B H/\RepE K B σ ρ/\f ρ = some c/\∀ H',aJ H H'->Q c H'
def tDA (K : PySem.W.Frag) (f : FA) : TA:=fun σ H Q=>∃ (B : Hp) (ρ : Env) (ds : List D),aJ B H/\RepE K B σ ρ/\f ρ = some ds/\∀ (vs : List V) (H' N : Hp),Ext B N H H'->IsL K N vs ds->Q vs H'
def rD (K : PySem.W.Frag) (op : D->D->Option (D × Bool)) : R2:=fun x y H Q=>∃ (B : Hp) (dx dy d : D) (b : Bool),aJ B H/\Is K B x dx/\Is K B y dy/\op dx dy = some (d,b)/\Fin K B H d b Q
def rDU (K : PySem.W.Frag) (op : D->Option (D × Bool)) : V->Hp->VK->Prop:=fun x H Q=>∃ (B : Hp) (dx d : D) (b : Bool),aJ B H/\Is K B x dx/\op dx = some (d,b)/\Fin K B H d b Q
def rDA (K : PySem.W.Frag) (op : List D->Option (D × Bool)) : List V->Hp->VK->Prop:=fun xs H Q=>∃ (B : Hp) (ds : List D) (d : D) (b : Bool),aJ B H/\IsL K B xs ds/\op ds = some (d,b)/\Fin K B H d b Q
theorem Fin.one {K : PySem.W.Frag} {B H : Hp} {d : D} {Q : VK} (h : Fin K B H d false Q) (s : aJ B H) {v : V} (i : Is K B v d) : Q v H:=h v H B (.refl s) i (by simp)
theorem Fin.into {K : PySem.W.Frag} {B N H H1 : Hp} {d : D} {b : Bool} {Q : VK} (h : Fin K B H d b Q) (x : Ext B N H H1) : Fin K N H1 d b Q:=fun v H' N' y i fr=>h v H' N' (x.trans y) i fun e=>(fr e).back x.hh
@[simp] def fC (d : D) : FE:=fun _=>some (d,false)
@[simp] def af (i : Nat) : FE:=fun ρ=>match ρ[i]? with | some (some (d,_))=>some (d,false) | _=>none
@[simp] def f2 (op : D->D->Option (D × Bool)) (fa fb : FE) : FE:=fun ρ=>(fa ρ).bind fun x=>(fb ρ).bind fun y=>op x.1 y.1
@[simp] def f1 (op : D->Option (D × Bool)) (fa : FE) : FE:=fun ρ=>(fa ρ).bind fun x=>op x.1
@[simp] def aj : FA:=fun _=>some []
@[simp] def ac (fa : FE) (fr : FA) : FA:=fun ρ=>(fa ρ).bind fun x=>(fr ρ).bind fun xs=>some (x.1 :: xs)
@[simp] def fA (op : List D->Option (D × Bool)) (fa : FA) : FE:=fun ρ=>(fa ρ).bind op
theorem Cv {K : PySem.W.Frag} {i : Nat} {σ : St} {H : Hp} {Q : VK} (h : tD K (af i) σ H Q) : ∃ v,σ[i]? = some (some v)/\Q v H:=by
 obtain ⟨B,ρ,d,b,s,r,e,q⟩:=h
 unfold af at e
 split at e
 ·rename_i d' b' e'
  cases e
  obtain ⟨v,h1,h2⟩:=r.at' i _ _ e'
  exact ⟨v,h1,q.one s h2⟩
 ·cases e
theorem Ah {K : PySem.W.Frag} {op : D->D->Option (D × Bool)} {fa fb : FE} {σ : St} {H : Hp} {Q : VK} (h : tD K (f2 op fa fb) σ H Q) : tD K fa σ H fun x H1=>tD K fb σ H1 fun y H2=>rD K op x y H2 Q:=by
 obtain ⟨B,ρ,d,b,s,r,e,q⟩:=h
 obtain ⟨x,ex,e⟩:=oX e
 obtain ⟨y,ey,e⟩:=oX e
 refine ⟨B,ρ,x.1,x.2,s,r,ex,fun v H1 N x1 i1 _=>⟨N,ρ,y.1,y.2,x1.nh,r.mono x1.bn,ey,fun v2 H2 N2 x2 i2 _=>⟨N2,x.1,y.1,d,b,x2.nh,i1.mono x2.bn,i2,e, ?_⟩⟩⟩
 exact q.into (x1.trans x2)
theorem EN {K : PySem.W.Frag} {op : D->Option (D × Bool)} {fa : FE} {σ : St} {H : Hp} {Q : VK} (h : tD K (f1 op fa) σ H Q) : tD K fa σ H fun x H1=>rDU K op x H1 Q:=by
 obtain ⟨B,ρ,d,b,s,r,e,q⟩:=h
 obtain ⟨x,ex,e⟩:=oX e
 exact ⟨B,ρ,x.1,x.2,s,r,ex,fun v H1 N x1 i1 _=>⟨N,x.1,d,b,x1.nh,i1,e,q.into x1⟩⟩
theorem Ai {K : PySem.W.Frag} {op : List D->Option (D × Bool)} {fa : FA} {σ : St} {H : Hp} {Q : VK} (h : tD K (fA op fa) σ H Q) : tDA K fa σ H fun xs H1=>rDA K op xs H1 Q:=by
 obtain ⟨B,ρ,d,b,s,r,e,q⟩:=h
 obtain ⟨x,ex,e⟩:=oX e
 exact ⟨B,ρ,x,s,r,ex,fun v H1 N x1 i1=>⟨N,x,d,b,x1.nh,i1,e,q.into x1⟩⟩
theorem Aj {K : PySem.W.Frag} {σ : St} {H : Hp} {Q : List V->Hp->Prop} (h : tDA K aj σ H Q) : Q [] H:=by
 obtain ⟨B,ρ,ds,s,r,e,q⟩:=h
 cases e
 exact q [] H B (.refl s) .nil
theorem yq {K : PySem.W.Frag} {fa : FE} {fr : FA} {σ : St} {H : Hp} {Q : List V->Hp->Prop} (h : tDA K (ac fa fr) σ H Q) : tD K fa σ H fun x H1=>tDA K fr σ H1 fun xs H2=>Q (x :: xs) H2:=by
 obtain ⟨B,ρ,ds,s,r,e,q⟩:=h
 obtain ⟨x,ex,e⟩:=oX e
 obtain ⟨y,ey,e⟩:=oX e
 cases e
 exact ⟨B,ρ,x.1,x.2,s,r,ex,fun v H1 N x1 i1 _=>⟨N,ρ,y,x1.nh,r.mono x1.bn,ey,fun vs H2 N2 x2 i2=>q _ H2 N2 (x1.trans x2) (.cons (i1.mono x2.bn) i2)⟩⟩
@[simp] def tOf (f : FE) : FT:=fun ρ=>match f ρ with | some (.bl c,_)=>some c | _=>none
@[simp] def cM (f g : FT) : FT:=fun ρ=>match f ρ with | some true=>g ρ | some false=>some false | none=>none
@[simp] def fV (f g : FT) : FT:=fun ρ=>match f ρ with | some true=>some true | some false=>g ρ | none=>none
@[simp] def gB (f : FT) : FT:=fun ρ=>(f ρ).map (!·)
@[simp] def fIf (c : FT) (f g : FE) : FE:=fun ρ=>match c ρ with | some true=>f ρ | some false=>g ρ | none=>none
open Classical in
noncomputable def cut (H : Hp) (P : Addr->Prop) : Hp:=fun a=>if P a then none else H a
theorem bV {H : Hp} {P : Addr->Prop} {a : Addr} (h : ¬ P a) : cut H P a = H a:=by unfold cut; rw [if_neg h]
theorem uq {H : Hp} {P : Addr->Prop} {a : Addr} (h : P a) : cut H P a = none:=by unfold cut; rw [if_pos h]
theorem lQ {H : Hp} {P : Addr->Prop} {a : Addr} {o : HO} (h : cut H P a = some o) : ¬ P a/\H a = some o:=by
 by_cases q : P a
 ·rw [uq q] at h; cases h
 ·rw [bV q] at h; exact ⟨q,h⟩
theorem bx {H : Hp} {P : Addr->Prop} : aJ (cut H P) H:=fun _ _ e=>(lQ e).2
theorem cZ {H H' : Hp} {P P' : Addr->Prop} (e : ∀ a o,H a = some o->¬ P a->H' a = some o/\¬ P' a) : aJ (cut H P) (cut H' P'):=fun a o q=>by
 obtain ⟨h1,h2⟩:=lQ q
 obtain ⟨h3,h4⟩:=e a o h2 h1
 rw [bV h4]; exact h3
def join (N N' : Hp) : Hp:=fun a=>match N a with | some o=>some o | none=>N' a
theorem cQ {N N' : Hp} : aJ N (join N N'):=fun a o e=>by unfold join; rw [e]
theorem cF {N N' : Hp} {a : Addr} (e : N a = none) : join N N' a = N' a:=by unfold join; rw [e]
def own (σ : St) (ρ : Env) (a : Addr) : Prop:=∃ (i : Nat) (d : D),ρ[i]? = some (some (d,true))/\σ[i]? = some (some (V.ref a))
inductive Bx (K : PySem.W.Frag) (C : Hp) : HO->D->Prop where
 | lst {vs : List V} {ds : List D} (h : IsL K C vs ds) : Bx K C (.lst vs) (.lst ds)
 | dk {ks : List Key} {vs : List V} {ds : List D} (hl : ks.length = vs.length) (h : IsL K C vs ds) : Bx K C (.dK (ks.zip vs)) (.dk ks ds)
 | dt {ks : List (List Key)} {vs : List V} {ds : List D} (hl : ks.length = vs.length) (h : IsL K C vs ds) : Bx K C (.dT (ks.zip vs)) (.dt ks ds)
theorem Bx.mono {K : PySem.W.Frag} {C C' : Hp} {o : HO} {d : D} (h : Bx K C o d) (e : aJ C C') : Bx K C' o d:=by
 cases h with
 | lst h=>exact .lst (h.mono e)
 | dk hl h=>exact .dk hl (h.mono e)
 | dt hl h=>exact .dt hl (h.mono e)
theorem Bx.is {K : PySem.W.Frag} {C : Hp} {o : HO} {d : D} {a : Addr} (h : Bx K C o d) (e : C a = some o) : Is K C (.ref a) d:=by
 cases h with
 | lst h=>exact .lst (SqL.of e) h
 | dk hl h=>exact .dk e hl h
 | dt hl h=>exact .dt e hl h
structure StN (K : PySem.W.Frag) (B0 H0 N H : Hp) (σ : St) (ρ : Env) : Prop where
 bh : aJ B0 H0
 tb : Tb K B0
 ext : Ext B0 N H0 H
 len : ρ.length = σ.length
 sh : ∀ (i : Nat) (d : D),ρ[i]? = some (some (d,false))->∃ v,σ[i]? = some (some v)/\Is K (cut N (own σ ρ)) v d
 ow : ∀ (i : Nat) (d : D),ρ[i]? = some (some (d,true))->∃ (a : Addr) (o : HO),σ[i]? = some (some (V.ref a))/\N a = some o/\H0 a = none/\Bx K (cut N (own σ ρ)) o d
 inj : ∀ (i j : Nat) (a : Addr) (d e : D),ρ[i]? = some (some (d,true))->ρ[j]? = some (some (e,true))->σ[i]? = some (some (V.ref a))->σ[j]? = some (some (V.ref a))->i = j
def pZ (K : PySem.W.Frag) (B0 H0 H : Hp) (σ : St) (ρ : Env) : Prop:=∃ N,StN K B0 H0 N H σ ρ
section
variable {K : PySem.W.Frag} {B0 H0 N H H' : Hp} {σ : St} {ρ : Env}
theorem StN.owL (s : StN K B0 H0 N H σ ρ) (i : Nat) (d : D) {es : List D} (q : ρ[i]? = some (some (.lst es,true))) (hd : d = .lst es:=by rfl) : ∃ (a : Addr) (vs : List V) (ds : List D),d = .lst ds/\σ[i]? = some (some (V.ref a))/\N a = some (.lst vs)/\H0 a = none/\IsL K (cut N (own σ ρ)) vs ds:=by
 obtain ⟨a,o,h1,h2,h3,h4⟩:=s.ow i _ q
 cases h4 with
 | lst h4=>exact ⟨a,_,es,hd,h1,h2,h3,h4⟩
def boxed : HO->Prop
 | .lst _ | .dK _ | .dT _=>True
 | _=>False
theorem Bx.boxed {C : Hp} {o : HO} {d : D} (h : Bx K C o d) : boxed o:=by cases h <;> exact trivial
theorem StN.owned (s : StN K B0 H0 N H σ ρ) {a : Addr} (h : own σ ρ a) : ∃ o,(N a = some o/\boxed o)/\H0 a = none:=by
 obtain ⟨i,d,h1,h2⟩:=h
 obtain ⟨a',o,h3,h4,h5,h6⟩:=s.ow i d h1
 rw [h2] at h3; cases h3
 exact ⟨o,⟨h4,h6.boxed⟩,h5⟩
theorem StN.rep (s : StN K B0 H0 N H σ ρ) : RepE K N σ ρ:=⟨s.tb.mono s.ext.bn,fun i d b q=>by
 cases b with
 | false=>obtain ⟨v,h1,h2⟩:=s.sh i d q; exact ⟨v,h1,h2.mono bx⟩
 | true =>
  obtain ⟨a,o,h2,h3,_,h4⟩:=s.ow i d q
  exact ⟨_,h2,(h4.mono bx).is h3⟩⟩
def oj (ρ : Env) : Env:=ρ.map fun x=>match x with | some (d,false)=>some (d,false) | _=>none
theorem yr {i : Nat} {d : D} {b : Bool} (h : (oj ρ)[i]? = some (some (d,b))) : b = false/\ρ[i]? = some (some (d,false)):=by
 unfold oj at h
 rw [List.getElem?_map] at h
 cases e : ρ[i]? with
 | none=>rw [e] at h; cases h
 | some x =>
  rw [e] at h
  match x,h with
  | some (d',false),h=>cases h; exact ⟨rfl,rfl⟩
  | some (d',true),h=>cases h
  | none,h=>cases h
theorem StN.tbC (s : StN K B0 H0 N H σ ρ) : Tb K (cut N (own σ ρ)):=fun x hx c P q=>by
 have z:=s.tb.mono s.ext.bn x hx c P q
 rw [bV]
 ·exact z
 ·intro y
  obtain ⟨o,⟨y,yb⟩,_⟩:=s.owned y
  rw [z] at y; cases y; exact yb
theorem StN.repH (s : StN K B0 H0 N H σ ρ) : RepE K (cut N (own σ ρ)) σ (oj ρ):=⟨s.tbC,fun i d b q=>by
 obtain ⟨rfl,q2⟩:=yr q
 exact s.sh i d q2⟩
theorem StN.grow (s : StN K B0 H0 N H σ ρ) {N' : Hp} (x : Ext N N' H H') : StN K B0 H0 N' H' σ ρ:=by
 have c : aJ (cut N (own σ ρ)) (cut N' (own σ ρ)):=cZ fun a o e q=>⟨x.bn a o e,q⟩
 refine ⟨s.bh,s.tb,s.ext.trans x,s.len,fun i d q=>?_,fun i d q=>?_,s.inj⟩
 ·obtain ⟨v,h1,h2⟩:=s.sh i d q; exact ⟨v,h1,h2.mono c⟩
 ·obtain ⟨a,o,h2,h3,h4,h5⟩:=s.ow i d q
  exact ⟨a,o,h2,x.bn _ _ h3,h4,h5.mono c⟩
theorem StN.growH (s : StN K B0 H0 N H σ ρ) {N' : Hp} (x : Ext (cut N (own σ ρ)) N' H H') : StN K B0 H0 (join N N') H' σ ρ/\aJ N' (cut (join N N') (own σ ρ)):=by
 have x' : Ext N (join N N') H H':=by
  refine ⟨x.hh,cQ,fun a o e=>?_,fun a o e=>?_⟩
  ·cases q : N a with
   | some u =>
    have : join N N' a = some u:=cQ _ _ q
    rw [this] at e; cases e
    exact x.hh _ _ (s.ext.nh _ _ q)
   | none=>rw [cF q] at e; exact x.nh _ _ e
  ·cases q : N a with
   | some u =>
    have : join N N' a = some u:=cQ _ _ q
    rw [this] at e; cases e
    exact .inl rfl
   | none =>
    rw [cF q] at e
    rcases x.new a o e with z | z
    ·have:=bx _ _ z; rw [q] at this; cases this
    ·exact .inr z
 refine ⟨s.grow x',fun a o e=>?_⟩
 rcases x.new a o e with z | z
 ·obtain ⟨z1,z2⟩:=lQ z
  rw [bV z1]; exact cQ _ _ z2
 ·have hN : N a = none:=s.ext.nh.free z
  have : ¬ own σ ρ a:=fun q=>by obtain ⟨vs,⟨q,_⟩,_⟩:=s.owned q; rw [hN] at q; cases q
  rw [bV this,cF hN]; exact e
def unown (ρ : Env) : Env:=ρ.map fun x=>x.map fun y=>(y.1,false)
theorem ig {i : Nat} {d : D} {b : Bool} (h : (unown ρ)[i]? = some (some (d,b))) : b = false/\∃ c,ρ[i]? = some (some (d,c)):=by
 unfold unown at h
 rw [List.getElem?_map] at h
 cases e : ρ[i]? with
 | none=>rw [e] at h; cases h
 | some x =>
  rw [e] at h
  match x,h with
  | some (d',c),h=>cases h; exact ⟨rfl,c,rfl⟩
  | none,h=>cases h
theorem oE {a : Addr} : ¬ own σ (unown ρ) a:=fun ⟨i,d,h,_⟩=>by
 obtain ⟨z,_⟩:=ig h; cases z
theorem StN.unown (s : StN K B0 H0 N H σ ρ) : StN K B0 H0 N H σ (unown ρ):=by
 refine ⟨s.bh,s.tb,s.ext,by unfold DL.unown; rw [List.length_map]; exact s.len,fun i d q=>?_,fun i d q=>?_,fun i j a d e q=>?_⟩
 ·obtain ⟨_,c,q⟩:=ig q
  obtain ⟨v,h1,h2⟩:=s.rep.at' i d c q
  exact ⟨v,h1,h2.mono fun a o e=>by rw [bV oE]; exact e⟩
 ·obtain ⟨z,_⟩:=ig q; cases z
 ·obtain ⟨z,_⟩:=ig q; cases z
theorem bw {α : Type} {l : List α} {i j : Nat} {x y : α} (h : (l.set i x)[j]? = some y) : (i = j/\x = y) ∨ (i ≠ j/\l[j]? = some y):=by
 by_cases e : i = j
 ·subst e
  rw [List.getElem?_set] at h
  split at h
  ·split at h
   ·exact .inl ⟨rfl,Option.some.inj h⟩
   ·cases h
  ·contradiction
 ·rw [List.getElem?_set_ne e] at h; exact .inr ⟨e,h⟩
theorem oF {α β : Type} {l : List α} {m : List β} {i : Nat} {x y : α} (h : (l.set i x)[i]? = some y) (e : l.length = m.length) : i < m.length:=by
 obtain ⟨h,_⟩:=List.getElem?_eq_some_iff.mp h
 rw [List.length_set] at h; omega
theorem qc {i : Nat} {v : V} {x : Option (D × Bool)} {a : Addr} (h : own (σ.set i (some v)) (ρ.set i x) a) : (v = .ref a/\∃ d,x = some (d,true)) ∨ ∃ j,j ≠ i/\∃ d,ρ[j]? = some (some (d,true))/\σ[j]? = some (some (V.ref a)):=by
 obtain ⟨j,d,h1,h2⟩:=h
 rcases bw h1 with ⟨e,q⟩ | ⟨e,q⟩
 ·rcases bw h2 with ⟨e2,q2⟩ | ⟨e2,q2⟩
  ·cases q2; exact .inl ⟨rfl,d,q⟩
  ·exact absurd e e2
 ·rcases bw h2 with ⟨e2,q2⟩ | ⟨e2,q2⟩
  ·exact absurd e2 e
  ·exact .inr ⟨j,fun z=>e z.symm,d,q,q2⟩
theorem StN.bind (s : StN K B0 H0 N H σ ρ) {i : Nat} {v : V} {d : D} (h : Is K (cut N (own σ ρ)) v d) : StN K B0 H0 N H (σ.set i (some v)) (ρ.set i (some (d,false))):=by
 have o : ∀ a,own (σ.set i (some v)) (ρ.set i (some (d,false))) a->own σ ρ a:=fun a q=>by
  rcases qc q with ⟨_,d',p⟩ | ⟨j,_,d',q1,q2⟩
  ·cases p
  ·exact ⟨j,d',q1,q2⟩
 have c : aJ (cut N (own σ ρ)) (cut N (own (σ.set i (some v)) (ρ.set i (some (d,false))))):=cZ fun a u e q=>⟨e,fun z=>q (o a z)⟩
 refine ⟨s.bh,s.tb,s.ext,by simp [s.len],fun j e q=>?_,fun j e q=>?_,fun j k a e f q q' h1 h2=>?_⟩
 ·rcases bw q with ⟨rfl,p⟩ | ⟨ne,p⟩
  ·cases p
   have hi:=oF q s.len
   exact ⟨v,by simp [hi],h.mono c⟩
  ·obtain ⟨w,h1,h2⟩:=s.sh j e p
   exact ⟨w,by rw [List.getElem?_set_ne ne]; exact h1,h2.mono c⟩
 ·rcases bw q with ⟨rfl,p⟩ | ⟨ne,p⟩
  ·cases p
  ·obtain ⟨a,o,h1,h2,h3,h4⟩:=s.ow j e p
   exact ⟨a,o,by rw [List.getElem?_set_ne ne]; exact h1,h2,h3,h4.mono c⟩
 ·rcases bw q with ⟨rfl,p⟩ | ⟨ne,p⟩
  ·cases p
  ·rcases bw q' with ⟨rfl,p'⟩ | ⟨ne',p'⟩
   ·cases p'
   ·rw [List.getElem?_set_ne ne] at h1
    rw [List.getElem?_set_ne ne'] at h2
    exact s.inj j k a e f p p' h1 h2
theorem StN.bindOwn (s : StN K B0 H0 N H σ ρ) {i : Nat} {a : Addr} {ob : HO} {dd : D} (hN : N a = some ob) (h0 : H0 a = none) (hno : ∀ (j : Nat) (d : D),ρ[j]? = some (some (d,true))->σ[j]? ≠ some (some (V.ref a)))
  (hsh : ∀ (j : Nat) (d : D),j ≠ i->ρ[j]? = some (some (d,false))->∃ v,σ[j]? = some (some v)/\Is K (cut N (fun b=>own σ ρ b ∨ b = a)) v d) (how : ∀ (j : Nat) (d : D),j ≠ i->ρ[j]? = some (some (d,true))->∃ (a' : Addr) (o : HO),σ[j]? = some (some (V.ref a'))/\N a' = some o/\Bx K (cut N (fun b=>own σ ρ b ∨ b = a)) o d)
  (hds : Bx K (cut N (fun b=>own σ ρ b ∨ b = a)) ob dd) : StN K B0 H0 N H (σ.set i (some (.ref a))) (ρ.set i (some (dd,true))):=by
 have o : ∀ b,own (σ.set i (some (V.ref a))) (ρ.set i (some (dd,true))) b->own σ ρ b ∨ b = a:=fun b q=>by
  rcases qc q with ⟨p,_⟩ | ⟨j,_,d',q1,q2⟩
  ·cases p; exact .inr rfl
  ·exact .inl ⟨j,d',q1,q2⟩
 have c : aJ (cut N (fun b=>own σ ρ b ∨ b = a)) (cut N (own (σ.set i (some (V.ref a))) (ρ.set i (some (dd,true))))):=cZ fun b u e q=>⟨e,fun z=>q (o b z)⟩
 refine ⟨s.bh,s.tb,s.ext,by simp [s.len],fun j e q=>?_,fun j e q=>?_,fun j k b e f q q' h1 h2=>?_⟩
 ·rcases bw q with ⟨rfl,p⟩ | ⟨ne,p⟩
  ·cases p
  ·obtain ⟨w,h1,h2⟩:=hsh j e (Ne.symm ne) p
   exact ⟨w,by rw [List.getElem?_set_ne ne]; exact h1,h2.mono c⟩
 ·rcases bw q with ⟨rfl,p⟩ | ⟨ne,p⟩
  ·cases p
   have hi:=oF q s.len
   exact ⟨a,ob,by simp [hi],hN,h0,hds.mono c⟩
  ·obtain ⟨a',o',h1,h2,h4⟩:=how j e (Ne.symm ne) p
   have h3 : H0 a' = none:=by
    obtain ⟨a2,_,k1,_,k3,_⟩:=s.ow j e p
    rw [h1] at k1; cases k1; exact k3
   exact ⟨a',o',by rw [List.getElem?_set_ne ne]; exact h1,h2,h3,h4.mono c⟩
 ·rcases bw q with ⟨rfl,p⟩ | ⟨ne,p⟩
  ·rcases bw q' with ⟨rfl,p'⟩ | ⟨ne',p'⟩
   ·rfl
   ·rw [List.getElem?_set_ne ne'] at h2
    have h1' : V.ref a = V.ref b:=by
     rcases bw h1 with ⟨_,z⟩ | ⟨z,_⟩
     ·exact Option.some.inj z
     ·exact absurd rfl z
    cases h1'
    exact absurd h2 (hno k f p')
  ·rcases bw q' with ⟨rfl,p'⟩ | ⟨ne',p'⟩
   ·rw [List.getElem?_set_ne ne] at h1
    have h2' : V.ref a = V.ref b:=by
     rcases bw h2 with ⟨_,z⟩ | ⟨z,_⟩
     ·exact Option.some.inj z
     ·exact absurd rfl z
    cases h2'
    exact absurd h1 (hno j e p)
   ·rw [List.getElem?_set_ne ne] at h1
    rw [List.getElem?_set_ne ne'] at h2
    exact s.inj j k b e f p p' h1 h2
end
inductive Res where
 | nx (ρ : Env) | rt (d : D) (b : Bool) | bk (ρ : Env) | ct (ρ : Env)
abbrev FS:=Env->Option Res
def DU (K : PySem.W.Frag) (B0 H0 : Hp) (E : Ends) : Res->Prop
 | .nx ρ=>∀ σ H,pZ K B0 H0 H σ ρ->E.nx σ H
 | .rt d b=>∀ v H N,Ext B0 N H0 H->Is K N v d->(b = true->Fsh K H0 N v d)->E.rt v H
 | .bk ρ=>∀ σ H,pZ K B0 H0 H σ ρ->E.bk σ H
 | .ct ρ=>∀ σ H,pZ K B0 H0 H σ ρ->E.ct σ H
def tDS (K : PySem.W.Frag) (g : FS) : TS:=fun E σ H=>∃ (B0 H0 : Hp) (ρ : Env) (r : Res),pZ K B0 H0 H σ ρ/\g ρ = some r/\DU K B0 H0 E r
section
variable {K : PySem.W.Frag} {B0 H0 N H H' : Hp} {σ : St} {ρ : Env} {E : Ends}
theorem StN.writeB (s : StN K B0 H0 N H σ ρ) {i : Nat} {d dd : D} {a : Addr} {ob : HO} (hi : ρ[i]? = some (some (d,true))) (hσ : σ[i]? = some (some (V.ref a))) (h : Bx K (cut N (own σ ρ)) ob dd) :
  StN K B0 H0 (upd N a ob) (upd H a ob) σ (ρ.set i (some (dd,true))):=by
 have oa : own σ ρ a:=⟨i,d,hi,hσ⟩
 obtain ⟨ws,hw,h0⟩:=s.owned oa
 have b0 : B0 a = none:=s.bh.free h0
 have o : ∀ b,own σ (ρ.set i (some (dd,true))) b ↔ own σ ρ b:=fun b=>by
  constructor
  ·rintro ⟨j,e,q1,q2⟩
   rcases bw q1 with ⟨rfl,p⟩ | ⟨_,p⟩
   ·exact ⟨i,d,hi,q2⟩
   ·exact ⟨j,e,p,q2⟩
  ·rintro ⟨j,e,q1,q2⟩
   by_cases z : i = j
   ·subst z
    exact ⟨i,dd,by rw [List.getElem?_set_self (List.getElem?_eq_some_iff.mp hi).1],q2⟩
   ·exact ⟨j,e,by rw [List.getElem?_set_ne z]; exact q1,q2⟩
 have c : aJ (cut N (own σ ρ)) (cut (upd N a ob) (own σ (ρ.set i (some (dd,true))))):=cZ fun b u e q=>by
  have ne : b ≠ a:=fun z=>q (z ▸ oa)
  exact ⟨by rw [a9 ne]; exact e,fun z=>q ((o b).mp z)⟩
 refine ⟨s.bh,s.tb,⟨fun b u e=>?_,fun b u e=>?_,fun b u e=>?_,fun b u e=>?_⟩,by rw [List.length_set]; exact s.len,fun j e q=>?_,fun j e q=>?_,fun j k b e f q q' h1 h2=>?_⟩
 ·rw [a9 (fun z=>by subst z; rw [h0] at e; cases e)]; exact s.ext.hh _ _ e
 ·rw [a9 (fun z=>by subst z; rw [b0] at e; cases e)]; exact s.ext.bn _ _ e
 ·by_cases z : b = a
  ·subst z; rw [a8] at e ⊢; exact e
  ·rw [a9 z] at e ⊢; exact s.ext.nh _ _ e
 ·by_cases z : b = a
  ·subst z; exact .inr h0
  ·rw [a9 z] at e; exact s.ext.new _ _ e
 ·rcases bw q with ⟨rfl,p⟩ | ⟨ne,p⟩
  ·cases p
  ·obtain ⟨v,h1,h2⟩:=s.sh j e p
   exact ⟨v,h1,h2.mono c⟩
 ·rcases bw q with ⟨rfl,p⟩ | ⟨ne,p⟩
  ·cases p
   exact ⟨a,ob,hσ,a8,h0,h.mono c⟩
  ·obtain ⟨a',o',h1,h2,h3,h4⟩:=s.ow j e p
   have na : a' ≠ a:=fun z=>by subst z; exact ne (s.inj i j _ d e hi p hσ h1)
   exact ⟨a',o',h1,by rw [a9 na]; exact h2,h3,h4.mono c⟩
 ·have get : ∀ {j : Nat} {e : D},(ρ.set i (some (dd,true)))[j]? = some (some (e,true))->∃ e',ρ[j]? = some (some (e',true)):=fun {j e} q=>by
   rcases bw q with ⟨rfl,p⟩ | ⟨ne,p⟩
   ·exact ⟨d,hi⟩
   ·exact ⟨e,p⟩
  obtain ⟨e',q1⟩:=get q
  obtain ⟨f',q2⟩:=get q'
  exact s.inj j k b e' f' q1 q2 h1 h2
theorem StN.write (s : StN K B0 H0 N H σ ρ) {i : Nat} {d : D} {a : Addr} {vs : List V} {ds : List D} (hi : ρ[i]? = some (some (d,true))) (hσ : σ[i]? = some (some (V.ref a))) (h : IsL K (cut N (own σ ρ)) vs ds) :
  StN K B0 H0 (upd N a (.lst vs)) (upd H a (.lst vs)) σ (ρ.set i (some (.lst ds,true))):=s.writeB hi hσ (.lst h)
theorem StN.tups (s : StN K B0 H0 N H σ ρ) : ∀ a vs,SqT K N a vs->SqT K (cut N (own σ ρ)) a vs:=fun a vs h=>by
 have key : ∀ u,N a = some u->¬ boxed u->cut N (own σ ρ) a = some u:=fun u e hu=>by
  rw [bV fun z=>?_]; exact e
  obtain ⟨ws,⟨q,qb⟩,_⟩:=s.owned z
  rw [e] at q; cases q; exact hu qb
 rcases h with (h | ⟨o,h⟩) | h
 ·exact .inl (.inl (key _ h (fun q=>q)))
 ·exact .inl (.inr ⟨o,key _ h (fun q=>q)⟩)
 ·exact .inr h
theorem StN.flat (s : StN K B0 H0 N H σ ρ) {v : V} {d : D} (h : Is K N v d) (n : bc d = true) : Is K (cut N (own σ ρ)) v d:=h.keepT s.tups n
theorem StN.rebase (s : StN K B0 H0 N H σ ρ) : StN K (cut N (own σ ρ)) (cut H (own σ ρ)) N H σ ρ :=
 ⟨cZ fun a o e q=>⟨s.ext.nh _ _ e,q⟩,s.tbC,⟨bx,bx,s.ext.nh,fun a o e=>by
  by_cases q : own σ ρ a
  ·exact .inr (uq q)
  ·exact .inl (by rw [bV q]; exact e)⟩,s.len,s.sh,fun i d q=>by
   obtain ⟨a,o,h1,h2,_,h4⟩:=s.ow i d q
   exact ⟨a,o,h1,h2,uq ⟨i,d,q,h1⟩,h4⟩,s.inj⟩
theorem StN.unbase (s : StN K B0 H0 N H σ ρ) {N' H' : Hp} {σ' : St} {ρ' : Env} (t : StN K (cut N (own σ ρ)) (cut H (own σ ρ)) N' H' σ' ρ') : StN K B0 H0 N' H' σ' ρ':=by
 have h0 : aJ H0 (cut H (own σ ρ)):=fun a o e=>by
  rw [bV fun z=>?_]; exact s.ext.hh _ _ e
  obtain ⟨_,_,q⟩:=s.owned z
  rw [q] at e; cases e
 have b0 : aJ B0 (cut N (own σ ρ)):=fun a o e=>by
  rw [bV fun z=>?_]; exact s.ext.bn _ _ e
  obtain ⟨_,_,q⟩:=s.owned z
  rw [s.bh _ _ e] at q; cases q
 refine ⟨s.bh,s.tb,⟨h0.trans t.ext.hh,b0.trans t.ext.bn,t.ext.nh,fun a o e=>?_⟩,t.len,t.sh,fun i d q=>?_,t.inj⟩
 ·rcases t.ext.new a o e with z | z
  ·exact s.ext.new a o (bx _ _ z)
  ·exact .inr (h0.free z)
 ·obtain ⟨a,o,h1,h2,h3,h4⟩:=t.ow i d q
  exact ⟨a,o,h1,h2,h0.free h3,h4⟩
theorem StN.based (t : StN K B0 H0 N H σ ρ) : aJ B0 (cut N (own σ ρ)):=fun a o e=>by
 rw [bV fun z=>?_]; exact t.ext.bn _ _ e
 obtain ⟨_,_,q⟩:=t.owned z
 rw [t.bh _ _ e] at q; cases q
@[simp] def aF (g h : FS) : FS:=fun ρ=>match g ρ with | some (.nx ρ')=>h ρ' | r=>r
@[simp] def cn : FS:=fun ρ=>some (.nx ρ)
@[simp] def gIf (c : FT) (g h : FS) : FS:=fun ρ=>match c ρ with | some true=>g ρ | some false=>h ρ | none=>none
@[simp] def bz (f : FE) : FS:=fun ρ=>(f ρ).map fun x=>.rt x.1 x.2
@[simp] def Fh : FS:=fun _=>some (.rt .non false)
@[simp] def Fi (f : FE) : FS:=fun ρ=>(f ρ).map fun _=>.nx ρ
@[simp] def Bj : D->Bool
 | .dk _ _=>true
 | .dt _ _=>true
 | _=>false
@[simp] def jy (i : Nat) : FS:=fun ρ=>match ρ[i]? with | some (some (d,b))=>some (.rt d (b && !Bj d)) | _=>none
@[simp] def oG : D->Bool
 | .lst ds=>bo ds
 | _=>false
@[simp] def setE (ρ : Env) (i : Nat) (d : D) (b : Bool) : Env :=
 if bc d = true then ρ.set i (some (d,false)) else if b = true/\oG d = true then ρ.set i (some (d,true)) else (unown ρ).set i (some (d,false))
@[simp] def aS (i : Nat) (f : FE) : FS:=fun ρ=>(f ρ).map fun x=>.nx (setE ρ i x.1 x.2)
@[simp] def Fj (i : Nat) (f : FE) : FS:=fun ρ=>(f (oj ρ)).map fun x=>.nx (ρ.set i (some (x.1,false)))
@[simp] def jz (i : Nat) (f : FE) : FS:=fun ρ=>match ρ[i]? with
 | some (some (.lst ds,true))=>(f ρ).bind fun x=>if bc x.1 = true/\ds.length < sizeLine then some (.nx (ρ.set i (some (.lst (ds ++ [x.1]),true)))) else none
 | _=>none
theorem Ak {g h : FS} (q : tDS K (aF g h) E σ H) : Dz (tDS K g) (tDS K h) E σ H:=by
 obtain ⟨B0,H0,ρ,r,s,e,p⟩:=q
 unfold aF at e
 cases eg : g ρ with
 | none=>rw [eg] at e; cases e
 | some r1 =>
  rw [eg] at e
  cases r1 with
  | nx ρ'=>exact ⟨B0,H0,ρ,.nx ρ',s,eg,fun σ' H' s'=>⟨B0,H0,ρ',r,s',e,p⟩⟩
  | rt d b=>cases e; exact ⟨B0,H0,ρ,_,s,eg,p⟩
  | bk ρ'=>cases e; exact ⟨B0,H0,ρ,_,s,eg,p⟩
  | ct ρ'=>cases e; exact ⟨B0,H0,ρ,_,s,eg,p⟩
theorem yt (q : tDS K cn E σ H) : AY E σ H:=by
 obtain ⟨B0,H0,ρ,r,s,e,p⟩:=q
 cases e
 exact p σ H s
theorem pZ.grown {H' : Hp} (s : StN K B0 H0 N H σ ρ) (h : aJ H H') : pZ K B0 H0 H' σ ρ:=⟨N,s.grow (.grow s.ext.nh h)⟩
theorem Cw {c : FT} {g h : FS} (q : tDS K (gIf c g h) E σ H) : D2 (tDT K c) (tDS K g) (tDS K h) E σ H:=by
 obtain ⟨B0,H0,ρ,r,⟨N,s⟩,e,p⟩:=q
 unfold gIf at e
 cases ec : c ρ with
 | none=>rw [ec] at e; cases e
 | some b =>
  rw [ec] at e
  refine ⟨N,ρ,b,s.ext.nh,s.rep,ec,fun H1 h1=>?_⟩
  cases b with
  | true=>rw [if_pos rfl]; exact ⟨B0,H0,ρ,r,.grown s h1,e,p⟩
  | false=>rw [if_neg (by decide)]; exact ⟨B0,H0,ρ,r,.grown s h1,e,p⟩
theorem Al {f : FE} (q : tDS K (bz f) E σ H) : BW (tD K f) E σ H:=by
 obtain ⟨B0,H0,ρ,r,⟨N,s⟩,e,p⟩:=q
 obtain ⟨x,ex,e⟩:=oY e
 subst e
 exact ⟨N,ρ,x.1,x.2,s.ext.nh,s.rep,ex,fun v H1 N1 x1 i1 f1=>p v H1 N1 (s.ext.trans x1) i1 fun b=>(f1 b).back s.ext.hh⟩
theorem yu {i : Nat} (q : tDS K (jy i) E σ H) : BW (BM i) E σ H:=by
 obtain ⟨B0,H0,ρ,r,⟨N,s⟩,e,p⟩:=q
 unfold jy at e
 split at e
 ·rename_i d b ei
  cases e
  cases b with
  | false =>
   obtain ⟨v,h1,h2⟩:=s.sh i d ei
   exact ⟨v,h1,p v H N s.ext (h2.mono bx) (by simp)⟩
  | true =>
   obtain ⟨a,o,h1,h2,h3,h4⟩:=s.ow i d ei
   cases h4 with
   | lst h4=>exact ⟨_,h1,p _ H N s.ext (.lst (SqL.of h2) (h4.mono bx)) fun _=>⟨a,_,_,rfl,rfl,h3,h2,h4.mono bx⟩⟩
   | dk hl h4=>exact ⟨_,h1,p _ H N s.ext (.dk h2 hl (h4.mono bx)) (by simp)⟩
   | dt hl h4=>exact ⟨_,h1,p _ H N s.ext (.dt h2 hl (h4.mono bx)) (by simp)⟩
 ·cases e
theorem StN.setE (s : StN K B0 H0 N H σ ρ) {i : Nat} {v : V} {d : D} {b : Bool} {N1 H1 : Hp} (x : Ext N N1 H H1) (h : Is K N1 v d) (f : b = true->Fsh K H N1 v d) : StN K B0 H0 N1 H1 (σ.set i (some v)) (setE ρ i d b):=by
 have s1:=s.grow x
 unfold DL.setE
 by_cases hn : bc d = true
 ·rw [if_pos hn]
  exact s1.bind (s1.flat h hn)
 ·rw [if_neg hn]
  by_cases hb : b = true/\oG d = true
  ·rw [if_pos hb]
   obtain ⟨a,vs,ds,rfl,rfl,ha,hN,hs⟩:=f hb.1
   have hNa : N a = none:=s.ext.nh.free ha
   have hoa : ¬ own σ ρ a:=fun z=>by obtain ⟨ws,⟨q,_⟩,_⟩:=s.owned z; rw [hNa] at q; cases q
   have c : aJ (cut N (own σ ρ)) (cut N1 (fun b=>own σ ρ b ∨ b = a)):=cZ fun b u e q=>⟨x.bn _ _ e,fun z=>z.elim q fun z=>by subst z; rw [hNa] at e; cases e⟩
   refine s1.bindOwn hN (s.ext.hh.free ha) (fun j e q z=>hoa ⟨j,e,q,z⟩) (fun j e _ q=>?_) (fun j e _ q=>?_) (.lst (hs.keepT (fun t ts st=>?_) hb.2))
   ·obtain ⟨w,h1,h2⟩:=s.sh j e q; exact ⟨w,h1,h2.mono c⟩
   ·obtain ⟨a',o',h1,h2,_,h4⟩:=s.ow j e q
    exact ⟨a',o',h1,x.bn _ _ h2,h4.mono c⟩
   ·have key : ∀ u,N1 t = some u->¬ boxed u->cut N1 (fun b=>own σ ρ b ∨ b = a) t = some u:=fun u e hu=>by
     rw [bV fun z=>?_]; exact e
     rcases z with z | z
     ·obtain ⟨ws,⟨q,qb⟩,_⟩:=s1.owned z
      rw [e] at q; cases q; exact hu qb
     ·subst z; rw [e] at hN; cases hN; exact hu trivial
    rcases st with (st | ⟨o,st⟩) | st
    ·exact .inl (.inl (key _ st (fun q=>q)))
    ·exact .inl (.inr ⟨o,key _ st (fun q=>q)⟩)
    ·exact .inr st
  ·rw [if_neg hb]
   exact s1.unown.bind (h.mono fun a o e=>by rw [bV oE]; exact e)
theorem vA {i : Nat} {f : FE} (q : tDS K (aS i f) E σ H) : zP (tD K f) (kL i) E σ H:=by
 obtain ⟨B0,H0,ρ,r,⟨N,s⟩,e,p⟩:=q
 obtain ⟨x,ex,e⟩:=oY e
 subst e
 exact ⟨N,ρ,x.1,x.2,s.ext.nh,s.rep,ex,fun v H1 N1 x1 i1 f1=>p _ H1 ⟨N1,s.setE x1 i1 f1⟩⟩
theorem Am {i : Nat} {f : FE} (q : tDS K (jz i f) E σ H) : ∃ (a : Addr) (us : List V),σ[i]? = some (some (V.ref a))/\H a = some (.lst us)/\Bb (tD K f) DH σ H fun xs H2=>vz (.ref a) xs H2 fun _ H3=>E.nx σ H3:=by
 obtain ⟨B0,H0,ρ,r,⟨N,s⟩,e,p⟩:=q
 unfold jz at e
 split at e
 ·rename_i ds ei
  obtain ⟨x,ex,e⟩:=oX e
  split at e
  ·rename_i hx
   cases e
   obtain ⟨a,vs,ds',z,h1,h2,h3,h4⟩:=s.owL i _ ei
   cases z
   refine ⟨a,vs,h1,s.ext.nh _ _ h2,N,ρ,x.1,x.2,s.ext.nh,s.rep,ex,fun v H1 N1 x1 i1 f1=>⟨a,vs,v,rfl,rfl,x1.hh _ _ (s.ext.nh _ _ h2),by rw [h4.length]; exact hx.2, ?_⟩⟩
   have s1:=s.grow x1
   obtain ⟨a',vs',ds',z,k1,k2,_,k4⟩:=s1.owL i _ ei
   cases z
   rw [h1] at k1; cases k1
   rw [x1.bn _ _ h2] at k2; cases k2
   exact p σ _ ⟨_,s1.write ei h1 (k4.append (.cons (s1.flat i1 hx.1) .nil))⟩
  ·cases e
 ·cases e
end
def fg (c : FT) (g : FS) : Nat->Env->Option Res
 | 0,_=>none
 | n + 1,ρ=>match c ρ with
  | some true=>match g ρ with
   | some (.nx ρ')=>fg c g n ρ'
   | some (.ct ρ')=>fg c g n ρ'
   | some (.bk ρ')=>some (.nx ρ')
   | r=>r
  | some false=>some (.nx ρ)
  | none=>none
theorem wR {K : PySem.W.Frag} {c : FT} {g : FS} {n : Nat} {E : Ends} {σ : St} {H : Hp} (q : tDS K (fg c g n) E σ H) : xV (tDT K c) (tDS K g) E σ H:=by
 obtain ⟨B0,H0,ρ,r,s,e,p⟩:=q
 refine ⟨fun m σ H=>∃ ρ,pZ K B0 H0 H σ ρ/\fg c g m ρ = some r,⟨n,ρ,s,e⟩, ?_⟩
 rintro m σ H ⟨ρ,⟨N,s⟩,e⟩
 cases m with
 | zero=>cases e
 | succ m =>
  unfold fg at e
  cases ec : c ρ with
  | none=>rw [ec] at e; cases e
  | some b =>
   rw [ec] at e
   refine ⟨N,ρ,b,s.ext.nh,s.rep,ec,fun H1 h1=>?_⟩
   cases b with
   | false=>rw [if_neg (by decide)]; cases e; exact p σ H1 (.grown s h1)
   | true =>
    rw [if_pos rfl]
    refine ⟨fun σ H=>∃ ρ,pZ K B0 H0 H σ ρ/\fg c g m ρ = some r,fun σ' H' w=>⟨m,Nat.lt_succ_self m,w⟩, ?_⟩
    cases eg : g ρ with
    | none=>rw [eg] at e; cases e
    | some r1 =>
     rw [eg] at e
     refine ⟨B0,H0,ρ,r1,.grown s h1,eg, ?_⟩
     cases r1 with
     | nx ρ'=>exact fun σ' H' s'=>⟨ρ',s',e⟩
     | ct ρ'=>exact fun σ' H' s'=>⟨ρ',s',e⟩
     | bk ρ'=>cases e; exact fun σ' H' s'=>p σ' H' s'
     | rt d b=>cases e; exact p
def qd (K : PySem.W.Frag) (J : It) (B : Hp) (ds : List D) : Prop:=∀ (i : Nat) (H : Hp),aJ B H ->
 (∀ d,ds[i]? = some d->J.go i H/\∀ x H',J.yld i H x H'->∃ N,Ext B N H H'/\Is K N x d)/\(ds.length<=i->J.stop i H)
def tDI (K : PySem.W.Frag) (f : FA) : TI:=fun σ H R=>∃ (B : Hp) (ρ : Env) (ds : List D),aJ B H/\RepE K B σ ρ/\f ρ = some ds/\∀ (J : It) (H' N : Hp),Ext B N H H'->qd K J N ds->R J H'
abbrev FG:=D->Env->Option Env
def tDG (K : PySem.W.Frag) (tg : FG) (g : TG) : Prop:=∀ (B0 H0 N H : Hp) (σ : St) (ρ ρ' : Env) (v : V) (d : D) (Q : St->Hp->Prop),StN K B0 H0 N H σ ρ->Is K (cut N (own σ ρ)) v d->tg d ρ = some ρ' ->
 (∀ σ' H',pZ K B0 H0 H' σ' ρ'->Q σ' H')->g v σ H Q
@[simp] def tgN (i : Nat) : FG:=fun d ρ=>some (ρ.set i (some (d,false)))
theorem dW {K : PySem.W.Frag} {i : Nat} : tDG K (tgN i) (kL i):=by
 intro B0 H0 N H σ ρ ρ' v d Q s h e k
 cases e
 exact k _ H ⟨N,s.bind h⟩
def f6 (tg : FG) (g : FS) : List D->Env->Option Res
 | [],ρ=>some (.nx ρ)
 | d :: ds,ρ=>(tg d ρ).bind fun ρ1=>match g ρ1 with
  | some (.nx ρ')=>f6 tg g ds ρ'
  | some (.ct ρ')=>f6 tg g ds ρ'
  | some (.bk ρ')=>some (.nx ρ')
  | r=>r
@[simp] theorem yv (tg : FG) (g : FS) (ρ : Env) : f6 tg g [] ρ = some (.nx ρ):=by rw [f6]
@[simp] theorem wS (tg : FG) (g : FS) (d : D) (ds : List D) (ρ : Env) : f6 tg g (d :: ds) ρ = (tg d ρ).bind fun ρ1=>match g ρ1 with
  | some (.nx ρ')=>f6 tg g ds ρ'
  | some (.ct ρ')=>f6 tg g ds ρ'
  | some (.bk ρ')=>some (.nx ρ')
  | r=>r:=by rw [f6]
@[simp] def lR (f : FA) (tg : FG) (g : FS) : FS:=fun ρ=>(f (oj ρ)).bind fun ds=>f6 tg g ds ρ
theorem rO {K : PySem.W.Frag} {tg : FG} {t : TG} {g : FS} {E : Ends} {σ : St} {H1 B0 H0 N N1 : Hp} {ρ : Env} {r : Res} {J : It} {ds : List D} (ht : tDG K tg t) (s1 : StN K B0 H0 N H1 σ ρ) (c : aJ N1 (cut N (own σ ρ))) (J1 : qd K J N1 ds) (e : f6 tg g ds ρ = some r) (p : DU K B0 H0 E r) :
  ∃ W : Nat->Nat->St->Hp->Prop,(∃ m,W 0 m σ H1)/\∀ i m σ H,W i m σ H->(J.stop i H/\E.nx σ H) ∨ (J.go i H/\∃ N : St->Hp->Prop,(∀ σ' H',N σ' H'->∃ m',m' < m/\W (i + 1) m' σ' H')/\∀ x H',J.yld i H x H'->t x σ H' fun σ2 H2=>tDS K g { E with nx:=N,ct:=N,bk:=E.nx } σ2 H2):=by
 refine ⟨fun i m σ H=>∃ (N : Hp) (ρ : Env),StN K B0 H0 N H σ ρ/\aJ N1 (cut N (own σ ρ))/\m = ds.length - i/\i<=ds.length/\f6 tg g (ds.drop i) ρ = some r,⟨ds.length,_,ρ,s1,c,rfl,Nat.zero_le _,e⟩, ?_⟩
 clear e s1 c
 rintro i m σ H ⟨N,ρ,s,c,rfl,hi,e⟩
 have hs : aJ N1 H:=c.trans (bx.trans s.ext.nh)
 obtain ⟨j1,j2⟩:=J1 i H hs
 by_cases hlt : i < ds.length
 ·obtain ⟨go,yl⟩:=j1 ds[i] (by simp [hlt])
  rw [List.drop_eq_getElem_cons hlt] at e
  obtain ⟨ρ1,e1,e⟩:=oX e
  refine .inr ⟨go,fun σ' H'=>∃ (N : Hp) (ρ : Env),StN K B0 H0 N H' σ' ρ/\aJ N1 (cut N (own σ' ρ))/\f6 tg g (ds.drop (i + 1)) ρ = some r,fun σ' H' ⟨N',ρ',s',c',e'⟩=>⟨_,by omega,N',ρ',s',c',rfl,hlt,e'⟩,fun x H' y=>?_⟩
  obtain ⟨N2,x2,i2⟩:=yl x H' y
  have x3 : Ext (cut N (own σ ρ)) (join (cut N (own σ ρ)) N2) H H':=by
   refine ⟨x2.hh,cQ,fun a o e=>?_,fun a o e=>?_⟩
   ·cases q : cut N (own σ ρ) a with
    | some u=>rw [cQ _ _ q] at e; cases e; exact x2.hh _ _ (s.ext.nh _ _ (bx _ _ q))
    | none=>rw [cF q] at e; exact x2.nh _ _ e
   ·cases q : cut N (own σ ρ) a with
    | some u=>rw [cQ _ _ q] at e; cases e; exact .inl rfl
    | none =>
     rw [cF q] at e
     rcases x2.new a o e with z | z
     ·rw [c _ _ z] at q; cases q
     ·exact .inr z
  obtain ⟨s2,c2⟩:=s.growH x3
  have c3 : aJ N2 (join (cut N (own σ ρ)) N2):=fun a o e=>by
   rcases x2.new a o e with z | z
   ·exact cQ _ _ (c _ _ z)
   ·rw [cF ((bx.trans s.ext.nh).free z)]; exact e
  have i3:=i2.mono (c3.trans c2)
  have c4 : aJ N1 (cut (join N (join (cut N (own σ ρ)) N2)) (own σ ρ)):=(x2.bn.trans c3).trans c2
  refine ht _ _ _ _ _ _ _ _ _ _ s2.rebase i3 e1 fun σ2 H2 ⟨N4,s4⟩=>?_
  cases eg : g ρ1 with
  | none=>rw [eg] at e; cases e
  | some r1 =>
   rw [eg] at e
   refine ⟨_,_,ρ1,r1,⟨N4,s4⟩,eg, ?_⟩
   have back : ∀ {σ' : St} {H' : Hp} {ρ' : Env} {N' : Hp},StN K _ _ N' H' σ' ρ'->StN K B0 H0 N' H' σ' ρ'/\aJ N1 (cut N' (own σ' ρ')):=fun t=>⟨s2.unbase t,c4.trans t.based⟩
   cases r1 with
   | nx ρ'=>exact fun σ' H' ⟨N',t⟩=>⟨N',ρ',(back t).1,(back t).2,e⟩
   | ct ρ'=>exact fun σ' H' ⟨N',t⟩=>⟨N',ρ',(back t).1,(back t).2,e⟩
   | bk ρ'=>cases e; exact fun σ' H' ⟨N',t⟩=>p σ' H' ⟨N',(back t).1⟩
   | rt d b =>
    cases e
    intro v H' N' x' i' f'
    have y:=s2.rebase.ext
    have h0 : aJ H0 (cut H' (fun _=>False)):=fun a o e=>by rw [bV (fun z=>z)]; exact x'.hh _ _ (by
     rw [bV fun z=>?_]; exact s2.ext.hh _ _ e
     obtain ⟨_,_,q⟩:=s2.owned z
     rw [q] at e; cases e)
    have h0' : aJ H0 (cut H' (fun _=>False)):=h0
    have hH : aJ H0 (cut H' (fun _=>False)):=h0
    have hc : ∀ a,cut H' (fun _=>False) a = H' a:=fun a=>bV (fun z=>z)
    have hb : aJ H0 (cut _ (own σ ρ)):=fun a o e=>by
     rw [bV fun z=>?_]; exact s2.ext.hh _ _ e
     obtain ⟨_,_,q⟩:=s2.owned z
     rw [q] at e; cases e
    have bb : aJ B0 (cut _ (own σ ρ)):=fun a o e=>by
     rw [bV fun z=>?_]; exact s2.ext.bn _ _ e
     obtain ⟨_,_,q⟩:=s2.owned z
     rw [s2.bh _ _ e] at q; cases q
    refine p v H' N' ⟨hb.trans x'.hh,bb.trans x'.bn,x'.nh,fun a o e=>?_⟩ i' fun z=>(f' z).back hb
    rcases x'.new a o e with z | z
    ·exact s2.ext.new a o (bx _ _ z)
    ·exact .inr (hb.free z)
 ·have ei : i = ds.length:=by omega
  subst ei
  rw [List.drop_eq_nil_of_le (Nat.le_refl _)] at e
  cases e
  exact .inl ⟨j2 (Nat.le_refl _),p σ H ⟨N,s⟩⟩
theorem An {K : PySem.W.Frag} {f : FA} {tg : FG} {t : TG} {g : FS} {E : Ends} {σ : St} {H : Hp} (ht : tDG K tg t) (q : tDS K (lR f tg g) E σ H) : BZ (tDI K f) t (tDS K g) E σ H:=by
 obtain ⟨B0,H0,ρ,r,⟨N,s⟩,e,p⟩:=q
 obtain ⟨ds,ef,e⟩:=oX e
 refine ⟨cut N (own σ ρ),oj ρ,ds,bx.trans s.ext.nh,s.repH,ef,fun J H1 N1 x1 J1=>?_⟩
 obtain ⟨s1,c⟩:=s.growH x1
 exact rO ht s1 c J1 e p
def tDR (K : PySem.W.Frag) (f : FA) : TI:=fun σ H R=>∃ (B : Hp) (ρ : Env) (ds : List D),aJ B H/\RepE K B σ ρ/\f ρ = some ds/\∀ (J : It) (H' N : Hp),Ext B N H H'->(∀ B',qd K J B' ds)->R J H'
@[simp] def lS (f : FA) (tg : FG) (g : FS) : FS:=fun ρ=>(f ρ).bind fun ds=>f6 tg g ds ρ
theorem yw {K : PySem.W.Frag} {f : FA} {tg : FG} {t : TG} {g : FS} {E : Ends} {σ : St} {H : Hp} (ht : tDG K tg t) (q : tDS K (lS f tg g) E σ H) : BZ (tDR K f) t (tDS K g) E σ H:=by
 obtain ⟨B0,H0,ρ,r,⟨N,s⟩,e,p⟩:=q
 obtain ⟨ds,ef,e⟩:=oX e
 refine ⟨N,ρ,ds,s.ext.nh,s.rep,ef,fun J H1 N1 x1 J1=>?_⟩
 exact rO ht (s.grow x1) (aJ.refl _) (J1 _) e p
end DL
namespace DL
open PySem PySem.Spec PyProof.Rows L2
abbrev JE (X : Cx) (e : Expr) (f : FE) : Prop:=PE X e (tD X.K f)
abbrev JT (X : Cx) (e : Expr) (f : FT) : Prop:=PT X e (tDT X.K f)
abbrev JW (X : Cx) (e : Expr) (f : FT) : Prop:=PW X e (tDT X.K f)
abbrev JA (X : Cx) (es : List Expr) (f : FA) : Prop:=PA X es (tDA X.K f)
abbrev JS (X : Cx) (st : Stmt) (g : FS) : Prop:=PS X st (tDS X.K g)
abbrev JSs (X : Cx) (st : List Stmt) (g : FS) : Prop:=PSs X st (tDS X.K g)
abbrev JI (X : Cx) (tg iter : Expr) (f : FA) : Prop:=PI X tg iter (tDI X.K f)
theorem qe {prog : Program} {w : World} {A : Around} {R : Result->Shared->Prop} {s : Shared} {elt target iter : Expr} {ifs : List Expr} {scope : Scope} {pos : Pos} {it acc : Value} {env : PySem.Env} (I : Nat->Shared->Prop)
  (turn : ∀ n s,I n s->wpAny (model prog w) A (pyNext it) (fun r s₁=>match r with
   | none=>R (.ok .next) s₁
   | some v=>wpAny (model prog w) A (letOwnedTupleGo target it v) (fun _ s₁=>wpAny (model prog w) A (assign target env v) (fun _ s₂ =>
     wpAny (model prog w) A (forIn ifs true fun c r=>if r = true then do let ok ← isTrue c env (eval c env); pure (ForInStep.yield ok) else pure (ForInStep.yield r)) (fun ok s₃ =>
      if ok = true then wpAny (model prog w) A (eval elt env) (fun x s₄ =>
       wpAny (model prog w) A (call (.builtin "list.append") [acc,x]) (fun _ s₅=>∃ m,m < n/\I m s₅) (fun _ _=>False) s₄) (fun _ _=>False) s₃
      else ∃ m,m < n/\I m s₃) (fun _ _=>False) s₂) (fun _ _=>False) s₁) (fun _ _=>False) s₁) (fun _ _=>False) s)
  (n : Nat) (h : I n s) : codeAny (model prog w) A (.compLoop (.ListComp elt [⟨target,iter,ifs,0⟩] scope pos) 0 it acc env) R s:=by
 refine codeAny_loop rfl I (fun n s hI=>?_) n h
 show wpAny _ A ((compTurn (.ListComp elt [⟨target,iter,ifs,0⟩] scope pos) 0 it acc env).onRaise (fun x=>do noteFrame x env; theTreesLotGoes x)) _ _ s
 refine wpAny_noted (wpAny_mono (E:=fun _ _=>False) ?_ (fun _ _ q=>q) fun _ _ z=>z.elim)
 rw [compTurn_list]
 refine wX (wpAny_standAt (wX (wpAny_mono (turn n s hI) (fun r s₁ h₁=>?_) fun _ _ h'=>h')))
 cases r with
 | none=>exact wY h₁
 | some v =>
  refine wX (wpAny_mono h₁ (fun _ s₁ h₁=>?_) fun _ _ h'=>h')
  refine wX (wpAny_mono h₁ (fun _ s₂ h₂=>wX (wpAny_mono h₂ (fun ok s₃ h₃=>?_) fun _ _ h'=>h')) fun _ _ h'=>h')
  cases ok with
  | false=>exact wY ⟨rfl,h₃⟩
  | true=>exact wX (wX (wpAny_mono h₃ (fun x s₄ h₄=>wX (wpAny_mono h₄ (fun _ s₅ h₅=>wY (wY ⟨rfl,h₅⟩)) fun _ _ h'=>h')) fun _ _ h'=>h'))
theorem Ext.upd {B N H H' : Hp} {a : Addr} {o : HO} (x : Ext B N H H') (h : H a = none) (hN : N a = none) : Ext B N H (upd H' a o) :=
 ⟨fun b u e=>by rw [a9 (fun z=>by subst z; rw [h] at e; cases e)]; exact x.hh _ _ e,x.bn,fun b u e=>by rw [a9 (fun z=>by subst z; rw [hN] at e; cases e)]; exact x.nh _ _ e,x.new⟩
abbrev gy (X : Cx) (N' : List Str) (scope : Scope) (cl : List (Str × Addr)) (C : Addr) (s₃ : Shared) (H₃ : Hp) (fp : List Addr) : Cx :=
 { X with N:=N',s₀:=s₃,H₀:=H₃,env:=compEnvC scope cl C X.env,outer:=X.stack,stack:=X.stack,ex:=fp,fn:=fun _=>false,pn:=[],xe:=fun _ _=>False }
inductive Caps (X : Cx) (N' : List Str) (scope : Scope) (cl : List (Str × Addr)) : Nat->List Nat->Prop where
 | nil {j : Nat} (h : N'.length = j) : Caps X N' scope cl j []
 | cons {j i : Nat} {r : List Nat} {x : Str} (h1 : N'[j]? = some x) (h2 : X.N[i]? = some x) (h3 : X.env.kindOf x = some .cell ∨ X.env.kindOf x = some .free)
   (h4 : (relabel scope X.env).names.lookup x = some .cell ∨ (relabel scope X.env).names.lookup x = some .free) (h5 : cl.lookup x = X.env.cells.lookup x) (t : Caps X N' scope cl (j + 1) r) : Caps X N' scope cl j (i :: r)
theorem Caps.len {X : Cx} {N' : List Str} {scope : Scope} {cl : List (Str × Addr)} : ∀ {j : Nat} {cap : List Nat},Caps X N' scope cl j cap->N'.length = j + cap.length
 | _,_,.nil h=>by rw [h]; rfl
 | j,i :: r,.cons _ _ _ _ _ t=>by rw [t.len,List.length_cons]; omega
theorem Caps.get {X : Cx} {N' : List Str} {scope : Scope} {cl : List (Str × Addr)} : ∀ {j : Nat} {cap : List Nat} {k i : Nat},Caps X N' scope cl j cap->cap[k]? = some i->∃ x,N'[j + k]? = some x/\X.N[i]? = some x/\(X.env.kindOf x = some .cell ∨ X.env.kindOf x = some .free) /\
  ((relabel scope X.env).names.lookup x = some .cell ∨ (relabel scope X.env).names.lookup x = some .free)/\cl.lookup x = X.env.cells.lookup x
 | _,_,_,_,.nil _,e=>by simp at e
 | j,_,0,_,.cons h1 h2 h3 h4 h5 _,e=>by simp at e; subst e; exact ⟨_,h1,h2,h3,h4,h5⟩
 | j,_,k + 1,i,.cons _ _ _ _ _ t,e=>by
  obtain ⟨x,q,r⟩:=t.get (k:=k) (i:=i) (by simpa using e)
  exact ⟨x,by rw [show j + (k + 1) = j + 1 + k by omega]; exact q,r⟩
structure CompSc (X : Cx) (scope : Scope) (cl : List (Str × Addr)) : Prop where
 clos : closureFor scope X.env = pure cl
 nocell : ∀ y ∈ scope.names,y.2 ≠ .cell
 kind : scope.kind = .function
 names : ∀ y ∈ scope.names,y.2 = .local->scope.names.lookup y.1 = some .local
 sub : ∀ x c,cl.lookup x = some c->X.env.cells.lookup x = some c
 has : ∀ x,((relabel scope X.env).names.lookup x = some .cell ∨ (relabel scope X.env).names.lookup x = some .free)->∃ c,cl.lookup x = some c
def eE : List (Str × NameKind)->List (Str × Addr)->List (Str × Addr)->List (Str × Addr)
 | [],_,cs=>cs
 | (n,k) :: r,cells,cs=>eE r cells (if k == .free then (match cells.lookup n with | some c=>(n,c) :: cs | none=>cs) else cs)
theorem oH {env : PySem.Env} : ∀ (names : List (Str × NameKind)) (cs : List (Str × Addr)),(∀ y ∈ names,y.2 = .free->(env.cells.lookup y.1).isSome = true) ->
    (do let mut cs:=cs
        for (name,kind) in names do
          if kind == .free then cs:=(name,← cellOf env name) :: cs
        return cs : Sem (List (Str × Addr))) = pure (eE names env.cells cs):=by
  intro names
  induction names with
  | nil=>intro cs _; rfl
  | cons y r ih =>
    intro cs h
    obtain ⟨n,k⟩:=y
    have ih':=fun cs=>ih cs fun y hy=>h y (mZ _ hy)
    by_cases hk : k = .free
    . subst hk
      have hc:=h (n,.free) mX rfl
      cases q : env.cells.lookup n with
      | none=>rw [q] at hc; cases hc
      | some c =>
        have e1 : eE ((n,.free) :: r) env.cells cs = eE r env.cells ((n,c) :: cs):=by
          rw [eE,q]; rfl
        rw [e1,← ih' ((n,c) :: cs)]
        have e2 : cellOf env n = pure c:=by unfold cellOf; rw [q]
        simp only [List.forIn_cons,beq_self_eq_true,if_true,e2]
        rfl
    . have hb : (k == NameKind.free) = false:=by simpa using hk
      have e1 : eE ((n,k) :: r) env.cells cs = eE r env.cells cs:=by rw [eE,hb]; rfl
      rw [e1,← ih' cs]
      simp only [List.forIn_cons,hb,Bool.false_eq_true,if_false]
      rfl
theorem j0 {cells : List (Str × Addr)} {x : Str} {c : Addr} : ∀ (names : List (Str × NameKind)) (cs : List (Str × Addr)),(∀ y d,cs.lookup y = some d->cells.lookup y = some d)->(eE names cells cs).lookup x = some c->cells.lookup x = some c
 | [],cs,h,e=>h x c e
 | (n,k) :: r,cs,h,e=>by
  rw [eE] at e
  refine j0 r _ (fun y d q=>?_) e
  split at q
  ·split at q
   ·rename_i c' ec
    rw [List.lookup_cons] at q
    split at q
    ·rename_i hy
     cases q
     rw [eq_of_beq hy]; exact ec
    ·exact h y d q
   ·exact h y d q
  ·exact h y d q
theorem oJ {cells : List (Str × Addr)} {x : Str} : ∀ (names : List (Str × NameKind)) (cs : List (Str × Addr)),(cs.lookup x).isSome = true->((eE names cells cs).lookup x).isSome = true
 | [],cs,h=>h
 | (n,k) :: r,cs,h=>by
  rw [eE]
  refine oJ r _ ?_
  split
  ·split
   ·rw [List.lookup_cons]
    split
    ·rfl
    ·exact h
   ·exact h
  ·exact h
theorem j3 {cells : List (Str × Addr)} {x : Str} : ∀ (names : List (Str × NameKind)) (cs : List (Str × Addr)),(x,NameKind.free) ∈ names->(cells.lookup x).isSome = true->((eE names cells cs).lookup x).isSome = true
 | (n,k) :: r,cs,hm,hc=>by
  rw [eE]
  rcases List.mem_cons.mp hm with e | e
  ·cases e
   refine oJ r _ ?_
   cases q : cells.lookup x with
   | none=>rw [q] at hc; cases hc
   | some c=>simp
  ·exact j3 r _ e hc
theorem d3 {α : Type} {x : Str} {k : α} : ∀ {l : List (Str × α)},l.lookup x = some k->(x,k) ∈ l
 | (n,j) :: r,h=>by
  rw [List.lookup_cons] at h
  split at h
  ·rename_i e
   cases h
   rw [eq_of_beq e]; exact mX
  ·exact mZ _ (d3 h)
theorem d4 {X : Cx} {scope : Scope} (h1 : ∀ y ∈ scope.names,y.2 ≠ .cell) (h2 : scope.kind = .function) (h3 : ∀ y ∈ scope.names,y.2 = .local->scope.names.lookup y.1 = some .local) (h4' : (scope.names.all fun y=>!(y.2 == NameKind.free) || (X.env.cells.lookup y.1).isSome) = true) :
  CompSc X scope (eE scope.names X.env.cells []):=by
 have h4 : ∀ y ∈ scope.names,y.2 = .free->(X.env.cells.lookup y.1).isSome = true:=fun y hy e=>by
  have:=List.all_eq_true.mp h4' y hy
  rw [e] at this
  simpa using this
 have frees : ∀ x,((relabel scope X.env).names.lookup x = some .cell ∨ (relabel scope X.env).names.lookup x = some .free)->(x,NameKind.free) ∈ scope.names:=fun x h=>by
  have : ∃ k,(x,k) ∈ (relabel scope X.env).names/\(k = .cell ∨ k = .free):=by
   rcases h with h | h
   ·exact ⟨_,d3 h,.inl rfl⟩
   ·exact ⟨_,d3 h,.inr rfl⟩
  obtain ⟨k,hm,hk⟩:=this
  obtain ⟨⟨n,j⟩,hj,e⟩:=List.mem_map.mp hm
  dsimp only at e
  split at e
  ·rename_i hc
   rw [Bool.and_eq_true,Bool.and_eq_true] at hc
   cases e
   rw [← eq_of_beq hc.1.1]; exact hj
  ·cases e
   rcases hk with rfl | rfl
   ·exact absurd rfl (h1 _ hj)
   ·exact hj
 exact ⟨oH scope.names [] h4,h1,h2,h3,fun x c e=>j0 scope.names [] (fun y d q=>by cases q) e,fun x h=>by
  have:=j3 (x:=x) scope.names [] (frees x h) (h4 _ (frees x h) rfl)
  exact Option.isSome_iff_exists.mp this⟩
theorem bB {scope : Scope} {cells : List (Str × Addr)} {x : Str} (h : (x,NameKind.free) ∈ scope.names) (hc : (cells.lookup x).isSome = true) : (eE scope.names cells []).lookup x = cells.lookup x:=by
 obtain ⟨c,e⟩:=Option.isSome_iff_exists.mp (j3 (x:=x) scope.names [] h hc)
 rw [e,j0 scope.names [] (fun y d q=>by cases q) e]
def om (nT : Nat) (cap : List Nat) (σ : St) : St:=List.replicate nT none ++ cap.map fun i=>(σ[i]?).join
def bE (nT : Nat) (cap : List Nat) (ρ : Env) : Env:=List.replicate nT none ++ cap.map fun i=>match ρ[i]? with | some (some (d,_))=>some (d,false) | _=>none
theorem qg {α : Type} {nT : Nat} {cap : List Nat} {f : Nat->Option α} {j : Nat} {v : α} (h : (List.replicate nT none ++ cap.map f)[j]? = some (some v)) : ∃ k i,j = nT + k/\cap[k]? = some i/\f i = some v:=by
 by_cases hj : j < nT
 ·rw [List.getElem?_append_left (by simpa using hj),List.getElem?_replicate,if_pos hj] at h
  cases h
 ·rw [List.getElem?_append_right (by simpa using Nat.not_lt.mp hj),List.length_replicate,List.getElem?_map] at h
  obtain ⟨i,h1,h2⟩:=oY h
  exact ⟨j - nT,i,by omega,h1,h2⟩
theorem Ao {α : Type} {nT : Nat} {cap : List Nat} {f : Nat->Option α} {k i : Nat} {v : α} (h1 : cap[k]? = some i) (h2 : f i = some v) : (List.replicate nT none ++ cap.map f)[nT + k]? = some (some v):=by
 rw [List.getElem?_append_right (by simp),List.length_replicate,List.getElem?_map,Nat.add_sub_cancel_left,h1]
 simp [h2]
theorem RepE.caps {K : PySem.W.Frag} {B : Hp} {σ : St} {ρ : Env} {nT : Nat} {cap : List Nat} (h : RepE K B σ ρ) : RepE K B (om nT cap σ) (bE nT cap ρ):=⟨h.tb,fun j d b q=>by
 obtain ⟨k,i,rfl,h1,h2⟩:=qg q
 split at h2
 ·rename_i d' b' e
  cases h2
  obtain ⟨v,g1,g2⟩:=h.at' i _ _ e
  exact ⟨v,Ao h1 (by rw [g1]; rfl),g2⟩
 ·cases h2⟩
def dX (tg : FG) (c : FT) (fe : FE) (ρ : Env) : List D->Option (List D)
 | []=>some []
 | d :: r=>(tg d ρ).bind fun ρ1=>(c ρ1).bind fun b=>if b = true then (fe ρ1).bind fun x=>(dX tg c fe ρ r).map (x.1 :: ·) else dX tg c fe ρ r
@[simp] theorem Dj (tg : FG) (c : FT) (fe : FE) (ρ : Env) : dX tg c fe ρ [] = some []:=by rw [dX]
@[simp] theorem ur (tg : FG) (c : FT) (fe : FE) (ρ : Env) (d : D) (r : List D) : dX tg c fe ρ (d :: r) = (tg d ρ).bind fun ρ1=>(c ρ1).bind fun b=>if b = true then (fe ρ1).bind fun x=>(dX tg c fe ρ r).map (x.1 :: ·) else dX tg c fe ρ r:=by rw [dX]
@[simp] def cq (fi : FA) (nT : Nat) (cap : List Nat) (tg : FG) (c : FT) (fe : FE) : FE:=fun ρ=>(fi ρ).bind fun items=>if items.length<=sizeLine then (dX tg c fe (bE nT cap ρ) items).map fun ds=>(.lst ds,true) else none
def TGE (K : PySem.W.Frag) (n : Nat) (tg : FG) (g : TG) : Prop:=∀ (B H : Hp) (σ : St) (ρ ρ1 : Env) (v : V) (d : D) (Q : St->Hp->Prop),(∀ i,i < n->ρ[i]? = some none)->RepE K B σ ρ->aJ B H->Is K B v d->tg d ρ = some ρ1 ->
 ρ.length = σ.length->(∀ σ1,RepE K B σ1 ρ1->(∀ B',RepE K B' σ ρ->RepE K B' σ1 ρ)->ρ.length = σ1.length->Q σ1 H)->g v σ H Q
theorem c6 {K : PySem.W.Frag} {n i : Nat} (hi : i < n) : TGE K n (tgN i) (kL i):=by
 intro B H σ ρ ρ1 v d Q cl rep s h e hl k
 cases e
 have hiσ : i < σ.length:=by
  have:=(List.getElem?_eq_some_iff.mp (cl i hi)).1
  omega
 refine k _ ⟨rep.tb,fun j e b q=>?_⟩ ?_ (by simpa using hl)
 ·rcases bw q with ⟨rfl,p⟩ | ⟨ne,p⟩
  ·cases p
   exact ⟨v,by simp [hiσ],h⟩
  ·obtain ⟨w,h1,h2⟩:=rep.at' j e b p
   exact ⟨w,by rw [List.getElem?_set_ne ne]; exact h1,h2⟩
 ·intro B' rep'
  refine ⟨rep'.tb,fun j e b q=>?_⟩
  obtain ⟨w,h1,h2⟩:=rep'.at' j e b q
  have ne : i ≠ j:=fun z=>by subst z; rw [cl i hi] at q; cases q
  exact ⟨w,by rw [List.getElem?_set_ne ne]; exact h1,h2⟩
def JC (X : Cx) (ifs : List Expr) (c : FT) : Prop:=∀ (pins : List (Addr × Obj)) (s : Shared) (σ : St) (H : Hp) (Q : Bool->Hp->Prop),Inv X pins σ H s->tDT X.K c σ H Q ->
 wpAny (model X.prog X.w) X.A (forIn ifs true fun c r=>if r = true then do let ok ← isTrue c X.env (eval c X.env); pure (ForInStep.yield ok) else pure (ForInStep.yield r)) (TP X pins σ Q) X.xe s
@[simp] def iL : FT:=fun _=>some true
theorem qh {X : Cx} : JC X [] iL:=by
 intro pins s σ H Q I h
 obtain ⟨B,ρ,c,sB,rep,e,q⟩:=h
 cases e
 exact wpAny_tests_nil ⟨H,I,q H (.refl H)⟩
theorem fW {X : Cx} {e : Expr} {f : FT} (h : JT X e f) : JC X [e] f:=fun pins s σ H Q I q=>wpAny_tests_one (h pins s σ H Q I q)
theorem lT {X : Cx} (hcalm : X.calm = true) {tg iter elt : Expr} {ifs : List Expr} {scope : Scope} {pos : Pos} {cl : List (Str × Addr)} {N' : List Str} {nT : Nat} {cap : List Nat} {tgF : FG} {g : TG} {fc : FT} {fe : FE}
  (S : CompSc X scope cl) (cp : Caps X N' scope cl nT cap)
  (hg : ∀ C s H fp,PG (gy X N' scope cl C s H fp) tg g) (htg : TGE X.K nT tgF g) (hc : ∀ C s H fp,JC (gy X N' scope cl C s H fp) ifs fc) (he : ∀ C s H fp,JE (gy X N' scope cl C s H fp) elt fe)
  {pins : List (Addr × Obj)} {σ : St} {H2 : Hp} {s2 : Shared} {it : Addr} {fp : List Addr} {tn : Nat->Heap->Prop} {J : It} {N1 : Hp} {ρ : Env} {items ds : List D} {E : Value->Shared->Prop}
  (I2 : Inv X pins σ H2 s2) (T : Turn X.prog X.w X.K tg J fp it tn) (st2 : tn 0 s2.heap) (f2 : ∀ b ∈ fp,jY X pins H2 b)
  (rep : RepE X.K N1 σ ρ) (sN : aJ N1 H2) (J1 : qd X.K J N1 items) (hsz : items.length<=sizeLine) (ec : dX tgF fc fe (bE nT cap ρ) items = some ds) {RR : Value->Addr->Result->Shared->Prop}
  (hRR : ∀ (Dd C : Addr) (s' : Shared) (H' N : Hp) (vs : List V) (m : Str->Option Value),H2 Dd = none->Inv X pins σ H' s'->s'.heap.Ns C m->jY X pins H' C->Ext N1 N H2 H'->N Dd = some (.lst vs)->IsL X.K N vs ds->RR (.ref Dd) C (.ok .next) s') :
  wpAny (model X.prog X.w) X.A (newList []) (fun acc s₃=>wpAny (model X.prog X.w) X.A (newFunctionEnv scope X.env.globals cl [] X.env.qual none .none (some X.env)) (fun cenv s₄ =>
   codeAny (model X.prog X.w) X.A (.compStart (.ListComp elt [⟨tg,iter,ifs,0⟩] scope pos) 0 (.ref it) acc { cenv with scope:=relabel scope X.env }) (RR acc cenv.locals) s₄) E s₃) E s2:=by
 refine wpAny_newObj_type (wpAny_newFunctionEnv S.nocell (by intro y hy; simp at hy) (fun h₁ hns₁ hsb₁=>?_) S.kind)
 dsimp only at hns₁ hsb₁ ⊢
 have hD : H2 s2.heap.objs.size = none:=I2.fresh
 have I3 : Inv X pins σ (upd H2 s2.heap.objs.size (.lst [])) { s2 with heap:=s2.heap.push { cls:=.type "list",dict:=none,data:=.seq ([] : List Value).toArray } }:=I2.lnew (t':=s2.toks) (ys:=[]) (its:=[]) .nil (Nat.zero_le _)
 generalize hH3 : s2.heap.push { cls:=.type "list",dict:=none,data:=.seq ([] : List Value).toArray } = g3 at hns₁ hsb₁ I3 ⊢
 have hC : g3.objs.size = s2.heap.objs.size + 1:=by rw [← hH3,Heap.size_push]
 have old2 : ∀ b o,s2.heap.get? b = some o->g3.get? b = some o:=fun b o e=>hH3 ▸ Heap.get?_push_of_some _ e
 have old3 : ∀ b o,g3.get? b = some o->h₁.get? b = some o:=fun b o e=>hsb₁.extBut b o (Nat.ne_of_lt (Heap.lt_size e)) (Heap.get?_push_of_some _ e)
 have neC : ∀ b o,g3.get? b = some o->b ≠ g3.objs.size:=fun b o e=>Nat.ne_of_lt (Heap.lt_size e)
 have fpo : ∀ b ∈ fp,∃ o,s2.heap.get? b = some o:=fun b hb=>let ⟨o,e,_⟩:=T.obj 0 s2.heap st2 b hb; ⟨o,e⟩
 have fpD : ∀ b ∈ fp,b ≠ s2.heap.objs.size:=fun b hb=>let ⟨o,e⟩:=fpo b hb; Nat.ne_of_lt (Heap.lt_size e)
 have fpC : ∀ b ∈ fp,b ≠ g3.objs.size:=fun b hb=>let ⟨o,e⟩:=fpo b hb; neC b o (old2 b o e)
 have cellC : ∀ x c,X.env.cells.lookup x = some c->c ≠ g3.objs.size:=fun x c e=>by
  obtain ⟨v,z⟩:=I3.cell x c e
  exact Nat.ne_of_lt z.lt
 have hHC : (upd H2 s2.heap.objs.size (HO.lst [])) g3.objs.size = none:=I3.hok.fresh (Nat.le_refl _)
 have stk : ∀ b ∈ frs X.stack,∃ o,s2.heap.get? b = some o:=fun b hb=>by
  obtain ⟨_,o,ho,_⟩:=(I2.stack).mem hb
  exact ⟨o,ho⟩
 -- the block's context
 have ok : (gy X N' scope cl g3.objs.size { s2 with heap:=g3 } (upd H2 s2.heap.objs.size (.lst [])) fp).Ok:=by
  refine ⟨I2.ok.mod, ?_,I2.ok.glob,I2.ok.blt,Nat.le_refl _,fun x y c e1 e2=>I2.ok.inj x y c (S.sub x c e1) (S.sub y c e2),fun x h=>S.has x h,fun x c h=>absurd h Bool.false_ne_true,I2.ok.hd,I2.ok.frames,.inl rfl,fun b hb=>⟨fpC b hb,fun x c e=>(f2 b hb).2.2.2.2.1 x c (S.sub x c e)⟩,fun b o e=>?_, ?_,fun b o e hb=>?_,fun b hb hz=>?_,I3.stack,fun b hb=>I3.stkFree b hb⟩
  ·show (relabel scope X.env).kind = .function
   exact S.kind
  ·exact I3.bs b o e
  ·exact Nat.le_trans I3.ok.bsz I3.sz
  ·have h1:=(f2 b hb).2.2.2.1
   rcases h1 with z | z
   ·exact I2.ok.noex b o e z
   ·exact absurd (Nat.lt_of_lt_of_le (Heap.lt_size e) (Nat.le_trans I2.ok.bsz z)) (Nat.lt_irrefl _)
  ·rcases List.mem_cons.mp (I2.stkSub b hz) with z | z
   ·exact (f2 b hb).2.1 z
   ·exact (f2 b hb).2.2.1 z
 have I4 : Inv (gy X N' scope cl g3.objs.size { s2 with heap:=g3 } (upd H2 s2.heap.objs.size (.lst [])) fp) [] (om nT cap σ) (upd H2 s2.heap.objs.size (.lst [])) { s2 with heap:=h₁,toks:=s2.toks + ([] : List (Str × Value)).length }:=by
  refine ⟨ok,rfl,I2.bare,Un.kept old3,⟨_,hns₁,fun j x v e1 e2 e3=>?_⟩,fun x c e=>?_,hHC,fun x c e=>I3.freeC x c (S.sub x c e),fun p hp=>by simp at hp,I3.hok.kept old3, ?_⟩
  ·obtain ⟨k,i,rfl,h1,h2⟩:=qg e2
   obtain ⟨y,g1,g2,g3',g4,g5⟩:=cp.get h1
   have e1' : N'[nT + k]? = some x:=e1
   rw [g1] at e1'; cases e1'
   have h2' : σ[i]? = some (some v):=by
    cases q : σ[i]? with
    | none=>rw [q] at h2; cases h2
    | some z=>rw [q] at h2; have : z = some v:=h2; rw [this]
   obtain ⟨m,_,hl⟩:=I3.loc
   obtain ⟨u,r,l⟩:=hl i _ v g2 h2' (g3'.elim (fun z=>.inr (.inl z)) fun z=>.inr (.inr z))
   refine ⟨u,r, ?_⟩
   rcases l with ⟨l,_⟩ | ⟨_,c,lc,ic⟩
   ·rcases g3' with z | z <;> (rw [z] at l; cases l)
   ·refine .inr ⟨g4,c,by show cl.lookup _ = some c; rw [g5]; exact lc, ?_⟩
    obtain ⟨o,ho,hd⟩:=ic
    exact ⟨o,old3 _ _ ho,hd⟩
  ·obtain ⟨v,o,ho,hd⟩:=I3.cell x c (S.sub x c e)
   exact ⟨v,o,old3 _ _ ho,hd⟩
  ·show (om nT cap σ).length = N'.length
   unfold om
   rw [cp.len]; simp
 have fpX : ∀ {H' : Hp},(∀ b ∈ fp,H' b = none)->∀ b ∈ fp,jY (gy X N' scope cl g3.objs.size { s2 with heap:=g3 } (upd H2 s2.heap.objs.size (.lst [])) fp) [] H' b:=fun hn b hb =>
  ⟨hn b hb,fpC b hb,ok.exfs b hb,.inl hb,fun x c e=>(f2 b hb).2.2.2.2.1 x c (S.sub x c e),fun p hp=>by simp at hp⟩
 have clean : ∀ i,i < nT->(bE nT cap ρ)[i]? = some none:=fun i hi=>by
  unfold bE
  rw [List.getElem?_append_left (by simpa using hi),List.getElem?_replicate,if_pos hi]
 have hND : N1 s2.heap.objs.size = none:=sN.free hD
 have loop : ∀ s₃ : Shared,s₃ = { s2 with heap:=h₁,toks:=s2.toks + ([] : List (Str × Value)).length } ->
   codeAny (model X.prog X.w) X.A (.compLoop (.ListComp elt [⟨tg,iter,ifs,0⟩] scope pos) 0 (.ref it) (.ref s2.heap.objs.size) (compEnvC scope cl g3.objs.size X.env)) (RR (.ref s2.heap.objs.size) g3.objs.size) s₃:=by
  rintro s₃ rfl
  refine qe (fun n s'=>∃ (i : Nat) (N : Hp) (vs : List V) (es : List D) (σ' : St) (H' : Hp),Inv (gy X N' scope cl g3.objs.size { s2 with heap:=g3 } (upd H2 s2.heap.objs.size (.lst [])) fp) [] σ' H' s'/\tn i s'.heap/\(∀ b ∈ fp,H' b = none) /\
   n = items.length - i/\i<=items.length/\RepE X.K N1 σ' (bE nT cap ρ)/\(bE nT cap ρ).length = σ'.length/\Ext N1 N H2 H'/\N s2.heap.objs.size = none/\H' s2.heap.objs.size = some (.lst vs)/\vs.length<=i/\IsL X.K N vs es /\
   ∃ r,dX tgF fc fe (bE nT cap ρ) (items.drop i) = some r/\es ++ r = ds) ?_ items.length ?_
  ·rintro n s' ⟨i,N,vs,es,σ',H',I',ti,hn,rfl,hi,rp,hlen,x,hN0,hH0,hvl,hvs,r,er,eds⟩
   have sH : aJ N1 H':=x.bn.trans x.nh
   by_cases hlt : i < items.length
   ·obtain ⟨j1,_⟩:=J1 i H' sH
    obtain ⟨go,yl⟩:=j1 items[i] (by simp [hlt])
    rw [List.drop_eq_getElem_cons hlt] at er
    unfold dX at er
    obtain ⟨ρ1,e1,er⟩:=oX er
    obtain ⟨b,e2,er⟩:=oX er
    refine thn (T.item (gy X N' scope cl g3.objs.size { s2 with heap:=g3 } (upd H2 s2.heap.objs.size (.lst [])) fp) rfl rfl rfl hcalm i [] s' σ' H' (fun _ _=>False) I' (fpX hn) ti go) fun q s4 hq=>?_
    obtain ⟨u,rfl,hq⟩:=hq
    refine thn hq fun _ s5 hq=>?_
    obtain ⟨xv,H5,I5,rx,y5,t5,fr5⟩:=hq
    obtain ⟨N5,x5,i5⟩:=yl xv H5 y5
    -- all that may be named at this turn
    have x6 : Ext N (join N N5) H' H5:=by
     refine ⟨x5.hh,cQ,fun a o e=>?_,fun a o e=>?_⟩
     ·cases z : N a with
      | some u'=>rw [cQ _ _ z] at e; cases e; exact x5.hh _ _ (x.nh _ _ z)
      | none=>rw [cF z] at e; exact x5.nh _ _ e
     ·cases z : N a with
      | some u'=>rw [cQ _ _ z] at e; cases e; exact .inl rfl
      | none =>
       rw [cF z] at e
       rcases x5.new a o e with z' | z'
       ·rw [x.bn _ _ z'] at z; cases z
       ·exact .inr z'
    have c5 : aJ N5 (join N N5):=fun a o e=>by
     rcases x5.new a o e with z | z
     ·exact cQ _ _ (x.bn _ _ z)
     ·rw [cF (x.nh.free z)]; exact e
    have hN5 : (join N N5) s2.heap.objs.size = none:=by
     cases z : join N N5 s2.heap.objs.size with
     | none=>rfl
     | some o =>
      rcases x6.new _ _ z with z' | z'
      ·rw [hN0] at z'; cases z'
      ·rw [hH0] at z'; cases z'
    have fin : ∀ (s9 : Shared) (σ9 : St) (H9 N9 : Hp) (vs9 : List V) (es9 : List D),Inv (gy X N' scope cl g3.objs.size { s2 with heap:=g3 } (upd H2 s2.heap.objs.size (.lst [])) fp) (jZ fp s5.heap) σ9 H9 s9 ->
      RepE X.K N1 σ9 (bE nT cap ρ)->(bE nT cap ρ).length = σ9.length->Ext N1 N9 H2 H9->N9 s2.heap.objs.size = none->H9 s2.heap.objs.size = some (.lst vs9)->vs9.length<=i + 1->IsL X.K N9 vs9 es9 ->
      (∃ r,dX tgF fc fe (bE nT cap ρ) (items.drop (i + 1)) = some r/\es9 ++ r = ds)->∃ m,m < items.length - i/\∃ (i : Nat) (N : Hp) (vs : List V) (es : List D) (σ' : St) (H' : Hp),Inv (gy X N' scope cl g3.objs.size { s2 with heap:=g3 } (upd H2 s2.heap.objs.size (.lst [])) fp) [] σ' H' s9/\tn i s9.heap/\(∀ b ∈ fp,H' b = none) /\
       m = items.length - i/\i<=items.length/\RepE X.K N1 σ' (bE nT cap ρ)/\(bE nT cap ρ).length = σ'.length/\Ext N1 N H2 H'/\N s2.heap.objs.size = none/\H' s2.heap.objs.size = some (.lst vs)/\vs.length<=i/\IsL X.K N vs es /\
       ∃ r,dX tgF fc fe (bE nT cap ρ) (items.drop i) = some r/\es ++ r = ds:=fun s9 σ9 H9 N9 vs9 es9 I9 rp9 l9 x9 n9 h9 v9 i9 er9=>by
     refine ⟨items.length - (i + 1),by omega,i + 1,N9,vs9,es9,σ9,H9,I9.pins_of fun p hp=>by simp at hp,T.keep _ _ _ t5 fun b hb o e=>(I9.pin (b,o) (mY _ (fU hb e))).1,fun b hb=>?_,rfl,hlt,rp9,l9,x9,n9,h9,v9,i9,er9⟩
     obtain ⟨o,e,d⟩:=T.obj _ _ t5 b hb
     exact (I9.pin (b,o) (mY _ (fU hb e))).2.1
    have I5' : Inv (gy X N' scope cl g3.objs.size { s2 with heap:=g3 } (upd H2 s2.heap.objs.size (.lst [])) fp) (jZ fp s5.heap) σ' H5 s5:=by
     have:=I5.pinned (fpX fr5) (T.obj _ _ t5)
     rwa [List.nil_append] at this
    have sN5 : aJ (join N N5) H5:=x6.nh
    refine thn (hg _ _ _ _ _ s5 σ' H5 xv u (fun σ6 H6=>H6 = H5/\RepE X.K (join N N5) σ6 ρ1/\RepE X.K N1 σ6 (bE nT cap ρ)/\(bE nT cap ρ).length = σ6.length) I5' rx ?_) fun _ s6 ⟨σ6,H6,I6,eH,rp6,rq6,l6⟩=>?_
    ·refine htg (join N N5) H5 σ' (bE nT cap ρ) ρ1 xv items[i] _ clean (rp.mono (x.bn.trans cQ)) sN5 (i5.mono c5) e1 hlen fun σ1 r1 r2 l1=>⟨rfl,r1,r2 N1 rp,l1⟩
    ·subst eH
     have hH5 : H6 s2.heap.objs.size = some (.lst vs):=x5.hh _ _ hH0
     refine thn (hc _ _ _ _ _ s6 σ6 H6 (fun c H7=>c = b/\aJ H6 H7) I6 ⟨join N N5,ρ1,b,sN5,rp6,e2,fun H7 h7=>⟨rfl,h7⟩⟩) fun ok s7 ⟨H7,I7,eb,h7⟩=>?_
     subst eb
     have x7 : Ext N1 (join N N5) H2 H7:=(x.trans x6).trans (.grow sN5 h7)
     cases ok with
     | false =>
      rw [if_neg (by decide)] at er ⊢
      exact fin s7 σ6 H7 (join N N5) vs es I7 rq6 l6 x7 hN5 (h7 _ _ hH5) (Nat.le_succ_of_le hvl) (hvs.mono cQ) ⟨r,er,eds⟩
     | true =>
      rw [if_pos rfl] at er ⊢
      obtain ⟨y,e3,er⟩:=oX er
      obtain ⟨r',e4,er⟩:=oY er
      subst er
      refine thn (he _ _ _ _ _ s7 σ6 H7 (fun v H8=>∃ N8,Ext (join N N5) N8 H7 H8/\Is X.K N8 v y.1) I7 ⟨join N N5,ρ1,y.1,y.2,sN5.trans h7,rp6,e3,fun v H8 N8 x8 i8 _=>⟨N8,x8,i8⟩⟩) fun w8 s8 ⟨v8,H8,I8,r8,N8,x8,i8⟩=>?_
      have hH8 : H8 s2.heap.objs.size = some (.lst vs):=x8.hh _ _ (h7 _ _ hH5)
      refine thn (oC _ s8 σ6 H8 (.ref s2.heap.objs.size) [v8] (.ref s2.heap.objs.size) [w8] (fun _ H9=>H9 = upd H8 s2.heap.objs.size (.lst (vs ++ [v8]))) I8 rfl (.cons r8 .nil) ⟨_,vs,v8,rfl,rfl,hH8,by omega,rfl⟩) fun _ s9 ⟨_,H9,I9,_,e9⟩=>?_
      subst e9
      have hN8 : N8 s2.heap.objs.size = none:=by
       cases z : N8 s2.heap.objs.size with
       | none=>rfl
       | some o =>
        rcases x8.new _ _ z with z' | z'
        ·rw [hN5] at z'; cases z'
        ·rw [h7 _ _ hH5] at z'; cases z'
      refine fin s9 σ6 _ N8 (vs ++ [v8]) (es ++ [y.1]) I9 rq6 l6 ((x7.trans x8).upd hD hN8) hN8 a8 (by rw [List.length_append,List.length_singleton]; omega) ((hvs.mono (cQ.trans x8.bn)).append (.cons i8 .nil)) ⟨r',e4,by rw [List.append_assoc]; exact eds⟩
   ·have ei : i = items.length:=by omega
    subst ei
    rw [List.drop_eq_nil_of_le (Nat.le_refl _)] at er
    cases er
    rw [List.append_nil] at eds
    subst eds
    refine thn (T.done (gy X N' scope cl g3.objs.size { s2 with heap:=g3 } (upd H2 s2.heap.objs.size (.lst [])) fp) rfl rfl rfl hcalm items.length [] s' σ' H' (fun _ _=>False) I' (fpX hn) ti ((J1 _ H' sH).2 (Nat.le_refl _))) fun q s4 ⟨hq,I9⟩=>?_
    subst hq
    obtain ⟨m,hm,_⟩:=I9.loc
    have u1 : Un (frs X.stack) fp H2 (upd H2 s2.heap.objs.size (.lst [])) s2.heap g3:=Un.laid old2 (Nat.le_refl _) hD
    have x9 : Ext N1 (upd N s2.heap.objs.size (.lst vs)) H2 H':=by
     refine ⟨x.hh,x.bn.trans fun a o e=>by rw [a9 (fun z=>by subst z; rw [hN0] at e; cases e)]; exact e,fun a o e=>?_,fun a o e=>?_⟩
     ·by_cases z : a = s2.heap.objs.size
      ·subst z; rw [a8] at e; cases e; exact hH0
      ·rw [a9 z] at e; exact x.nh _ _ e
     ·by_cases z : a = s2.heap.objs.size
      ·subst z; exact .inr hD
      ·rw [a9 z] at e; exact x.new _ _ e
    refine hRR s2.heap.objs.size g3.objs.size s4 H' (upd N s2.heap.objs.size (.lst vs)) vs m hD (I2.call' (ch:=fp) I9.os (u1.trans I9.base) I9.hok I9.bare fun b hb=>⟨(f2 b hb).2.2.2.1,(f2 b hb).2.1,(f2 b hb).2.2.2.2.1,(f2 b hb).2.2.2.2.2⟩) hm (I2.fpOk (by rw [hC]; exact Nat.le_succ _) I9.free) x9 a8
     (hvs.mono fun a o e=>by rw [a9 (fun z=>by subst z; rw [hN0] at e; cases e)]; exact e)
  ·refine ⟨0,N1,[],[],om nT cap σ,_,I4,T.keep _ _ _ st2 fun b hb o e=>old3 _ _ (old2 _ _ e),fun b hb=>?_,rfl,Nat.zero_le _,rep.caps, ?_,(Ext.refl sN).upd hD hND,hND,a8,Nat.zero_le _,.nil,ds,by simpa using ec,rfl⟩
   ·rw [a9 (fpD b hb)]; exact (f2 b hb).1
   ·unfold bE om; simp
 exact codeAny_compStart_list (loop _ rfl) (T.self _ 0 _ _ _ (T.keep _ _ _ st2 fun b hb o e=>old3 _ _ (old2 _ _ e)) (loop _ rfl))
theorem fX {X : Cx} (hcalm : X.calm = true) {tg iter elt : Expr} {ifs : List Expr} {scope : Scope} {pos : Pos} {cl : List (Str × Addr)} {N' : List Str} {nT : Nat} {cap : List Nat} {fi : FA} {tgF : FG} {g : TG} {fc : FT} {fe : FE}
  (S : CompSc X scope cl) (cp : Caps X N' scope cl nT cap) (hi : JI X tg iter fi)
  (hg : ∀ C s H fp,PG (gy X N' scope cl C s H fp) tg g) (htg : TGE X.K nT tgF g) (hc : ∀ C s H fp,JC (gy X N' scope cl C s H fp) ifs fc) (he : ∀ C s H fp,JE (gy X N' scope cl C s H fp) elt fe)
  (hs : ∀ x,foldedSetIterable iter X.env x = pure x:=by intro _; rfl) :
  JE X (.ListComp elt [⟨tg,iter,ifs,0⟩] scope pos) (cq fi nT cap tgF fc fe):=by
 intro pins s σ H Q I h
 obtain ⟨B,ρ,d,b,sB,rep,e,q⟩:=h
 obtain ⟨items,ei,e⟩:=oX e
 have hsz : items.length<=sizeLine:=Decidable.byContradiction fun z=>by rw [if_neg z] at e; cases e
 rw [if_pos hsz] at e
 obtain ⟨ds,ec,e⟩:=oY e
 cases e
 rw [eval_ListComp]
 refine wpAny_comprehension_free (use:=none) rfl hs S.clos S.kind S.names (thn (hi pins s σ H (fun J H2=>∃ N1,Ext B N1 H H2/\qd X.K J N1 items) I ⟨B,ρ,items,sB,rep,ei,fun J H2 N1 x1 j1=>⟨N1,x1,j1⟩⟩) fun v s1 h1=>thn h1 fun itv s2 h2=>?_)
 obtain ⟨it,fp,tn,J,H2,e,I2,T,st2,f2,N1,x1,j1⟩:=h2
 subst e
 refine lT hcalm S cp hg htg hc he I2 T st2 f2 (rep.mono x1.bn) x1.nh j1 hsz ec (RR:=fun acc C=>compPost (model X.prog X.w) X.A X.xe none (EP X pins σ Q) acc C) ?_
 intro Dd C s' H' N vs m hD I' hm fC x hN hl
 refine ⟨m,hm,fun h' hs'=>⟨.ref Dd,H', ?_,rfl,q _ H' N (x1.trans x) (.lst (SqL.of hN) hl) fun _=>⟨Dd,vs,ds,rfl,rfl,x1.hh.free hD,hN,hl⟩⟩⟩
 obtain ⟨c0,c1,c2,c3,c4,c5⟩:=fC
 exact I'.turned (t':=s'.toks) (fun b o hb e=>(hs'.2 b hb).trans e) c0 c1 c3 c4 c5
theorem ij {X : Cx} (hcalm : X.calm = true) {tg iter elt : Expr} {ifs : List Expr} {scope : Scope} {pos spos py : Pos} {cl : List (Str × Addr)} {N' : List Str} {nT : Nat} {cap : List Nat} {fi : FA} {tgF : FG} {g : TG} {fc : FT} {fe : FE} {y : Str} {i : Nat}
  (hN : X.N.Nodup) (hi' : X.N[i]? = some y) (hy : X.env.kindOf y = some .local)
  (hsw : swapsWith (.ListComp elt [⟨tg,iter,ifs,0⟩] scope pos) (some (.Name y py)) spos.line X.env = pure true)
  (S : CompSc X scope cl) (cp : Caps X N' scope cl nT cap) (hi : JI X tg iter fi)
  (hg : ∀ C s H fp,PG (gy X N' scope cl C s H fp) tg g) (htg : TGE X.K nT tgF g) (hc : ∀ C s H fp,JC (gy X N' scope cl C s H fp) ifs fc) (he : ∀ C s H fp,JE (gy X N' scope cl C s H fp) elt fe)
  (hs : ∀ x,foldedSetIterable iter X.env x = pure x:=by intro _; rfl) :
  JS X (.Assign [.Name y py] (.ListComp elt [⟨tg,iter,ifs,0⟩] scope pos) spos) (aS i (cq fi nT cap tgF fc fe)):=by
 intro pins s σ H E I h
 have h2 : zP (tD X.K (cq fi nT cap tgF fc fe)) (kL i) E σ H:=vA h
 obtain ⟨B,ρ,d,b,sB,rep,e,q⟩:=h2
 obtain ⟨items,ei,e⟩:=oX e
 have hsz : items.length<=sizeLine:=Decidable.byContradiction fun z=>by rw [if_neg z] at e; cases e
 rw [if_pos hsz] at e
 obtain ⟨ds,ec,e⟩:=oY e
 cases e
 rw [exec_Assign_Name_used _ _ _ _ hsw]
 refine wX (wpAny_standAt (wX ?_))
 show wpAny _ _ (do let _ ← comprehension (.ListComp elt [⟨tg,iter,ifs,0⟩] scope pos) scope X.env _ (newList []) false (eval iter X.env) (some (assign (.Name y py) X.env))) _ _ s
 refine wX (wpAny_mono (wpAny_comprehension_free (use:=some (assign (.Name y py) X.env)) (Q:=fun _ s'=>SP X pins E .next s') rfl hs S.clos S.kind S.names
  (thn (hi pins s σ H (fun J H2=>∃ N1,Ext B N1 H H2/\qd X.K J N1 items) I ⟨B,ρ,items,sB,rep,ei,fun J H2 N1 x1 j1=>⟨N1,x1,j1⟩⟩) fun v s1 h1=>thn h1 fun itv s2 h2=>?_)) (fun _ s' hq=>wY (wY hq)) fun _ _ e=>e)
 obtain ⟨it,fp,tn,J,H2,e,I2,T,st2,f2,N1,x1,j1⟩:=h2
 subst e
 refine lT hcalm S cp hg htg hc he I2 T st2 f2 (rep.mono x1.bn) x1.nh j1 hsz ec (RR:=fun acc C=>compPost (model X.prog X.w) X.A X.xe (some (assign (.Name y py) X.env)) (fun _ s'=>SP X pins E .next s') acc C) ?_
 intro Dd C s' H' N vs m hD I' hm fC x hN' hl
 show wpAny _ _ (assign (.Name y py) X.env (.ref Dd)) _ _ s'
 obtain ⟨c0,c1,c2,c3,c4,c5⟩:=fC
 refine wpAny_assign_Name (o5 I' hN hi' (.inl hy) (r:=show aN (.ref Dd) (.ref Dd) from rfl) (fun s9 I9 ⟨a,sb,ha⟩=>?_) (.inr hy))
 have nC : C ≠ a:=by
  rcases ha with z | z
  ·rw [z]; exact c1
  ·exact fun w=>c4 y a z w.symm
 refine ⟨m,hm.sameBut sb nC,fun h' hs'=>⟨_,H', ?_,q _ H' N (x1.trans x) (.lst (SqL.of hN') hl) fun _=>⟨Dd,vs,ds,rfl,rfl,x1.hh.free hD,hN',hl⟩⟩⟩
 exact I9.turned (t':=s9.toks) (fun b o hb e=>(hs'.2 b hb).trans e) c0 c1 c3 c4 c5
section
variable {X : Cx} {a b c e : Expr} {pos : Pos}
theorem PE.to {t t' : TE} (h : PE X e t) (k : ∀ σ H Q,t' σ H Q->t σ H Q) : PE X e t':=fun pins s σ H Q I q=>h pins s σ H Q I (k σ H Q q)
theorem PT.to {t t' : TT} (h : PT X e t) (k : ∀ σ H Q,t' σ H Q->t σ H Q) : PT X e t':=fun pins s σ H Q I q=>h pins s σ H Q I (k σ H Q q)
theorem PW.to {t t' : TT} (h : PW X e t) (k : ∀ σ H Q,t' σ H Q->t σ H Q) : PW X e t':=fun wh pins s σ H Q I q=>h wh pins s σ H Q I (k σ H Q q)
theorem PA.to {es : List Expr} {t t' : TA} (h : PA X es t) (k : ∀ σ H Q,t' σ H Q->t σ H Q) : PA X es t':=fun pos pins s σ H Q I q=>h pos pins s σ H Q I (k σ H Q q)
theorem PS.to {st : Stmt} {t t' : TS} (h : PS X st t) (k : ∀ E σ H,t' E σ H->t E σ H) : PS X st t':=fun pins s σ H E I q=>h pins s σ H E I (k E σ H q)
theorem PSs.to {st : List Stmt} {t t' : TS} (h : PSs X st t) (k : ∀ E σ H,t' E σ H->t E σ H) : PSs X st t':=fun pins s σ H E I q=>h pins s σ H E I (k E σ H q)
theorem PI.to {tg it : Expr} {t t' : TI} (h : PI X tg it t) (k : ∀ σ H Q,t' σ H Q->t σ H Q) : PI X tg it t':=fun pins s σ H Q I q=>h pins s σ H Q I (k σ H Q q)
theorem yx {K : PySem.W.Frag} {d : D} {v : V} (i : ∀ B,Is K B v d) {σ : St} {H : Hp} {Q : VK} (h : tD K (fC d) σ H Q) : tC v σ H Q:=by
 obtain ⟨B,ρ,d',b,s,r,e,q⟩:=h
 cases e
 exact q.one s (i B)
theorem ae (i : Nat) {x : Str} (hN : X.N[i]? = some x:=by rfl) (hv : Vis X.env.scope x:=by first | exact Or.inl rfl | exact Or.inr (Or.inl rfl) | exact Or.inr (Or.inr rfl)) (hd : (x == ("__debug__" : Str)) = false:=by decide)
  (hcd : (x == ("__classdict__" : Str)) = false:=by decide) : JE X (.Name x pos) (af i):=PE.to (pP hN hv hd hcd) fun _ _ _ h=>Cv h
theorem ao {i : Int} {j : Nat} : JE X (.Constant (.int i) j pos) (fC (.int i)):=PE.to BN fun _ _ _ h=>yx (fun _=>.int i) h
theorem j4 {i : Bool} {j : Nat} : JE X (.Constant (.bool i) j pos) (fC (.bl i)):=PE.to Ds fun _ _ _ h=>yx (fun _=>.bl i) h
theorem fY {j : Nat} : JE X (.Constant .none j pos) (fC .non):=PE.to BO fun _ _ _ h=>yx (fun _=>.non) h
theorem ay {x : Str} {j : Nat} : JE X (.Constant (.str x) j pos) (fC (.str x)):=PE.to BP fun _ _ _ h=>yx (fun _=>.str x) h
theorem Ap {x : Str} {v : V} {d : D} {u : Value} (hg : Gl X x) (hm : X.mg x = some u) (r : aN v u) (i : ∀ B,Is X.K B v d) (hd : (x == ("__debug__" : Str)) = false:=by decide) : JE X (.Name x pos) (fC d):=PE.to (vx hg hm r hd) fun _ _ _ h=>yx i h
theorem aE {op : Operator} {f : D->D->Option (D × Bool)} {fa fb : FE} (ho : OpR X (binaryOp op) (rD X.K f)) (ha : JE X a fa) (hb : JE X b fb) : JE X (.BinOp a op b pos) (f2 f fa fb):=PE.to (D7 ho ha hb) fun _ _ _ h=>Ah h
theorem DV {op : UnaryOp} {f : D->Option (D × Bool)} {fa : FE} (ho : UnR X (unaryOp op) (rDU X.K f)) (ha : JE X a fa) : JE X (.UnaryOp op a pos) (f1 f fa):=PE.to (D8 ho ha) fun _ _ _ h=>EN h
theorem cR {op : CmpOp} {f : D->D->Option (D × Bool)} {fa fb : FE} (ho : OpR X (compareOp op) (rD X.K f)) (ha : JE X a fa) (hb : JE X b fb) (hm : behindInMarks op b = false:=by first | exact lK _ (by decide) (by decide) | rfl) : JE X (.Compare a [op] [b] pos) (f2 f fa fb):=PE.to (zT ho ha hb hm) fun _ _ _ h=>Ah h
theorem yy {K : PySem.W.Frag} {f : FE} {σ : St} {H : Hp} {Q : Bool->Hp->Prop} (h : tDT K (tOf f) σ H Q) : tD K f σ H fun x H'=>∃ k,x = .bl k/\Q k H':=by
 obtain ⟨B,ρ,c,s,r,e,q⟩:=h
 unfold tOf at e
 split at e
 ·rename_i c' b' ef
  cases e
  refine ⟨B,ρ,.bl c,b',s,r,ef,fun v H' N x i _=>?_⟩
  cases i
  exact ⟨c,rfl,q H' x.hh⟩
 ·cases e
theorem aO {op : CmpOp} {f : D->D->Option (D × Bool)} {fa fb : FE} (ho : OpR X (compareOp op) (rD X.K f)) (ha : JE X a fa) (hb : JE X b fb) (hm : behindInMarks op b = false:=by first | exact lK _ (by decide) (by decide) | rfl) : JT X (.Compare a [op] [b] pos) (tOf (f2 f fa fb)) :=
 PT.to (zU ho ha hb hm) fun _ _ _ h=>Ah (yy h)
theorem gC {f : FE} (h : JE X e f) (he : ∀ whole,isTrue e X.env whole = (do let v ← whole; standAt e.pos; holding [v] (truthy v)):=by intro _; rfl) : JT X e (tOf f):=PT.to (BQ h he) fun _ _ _ q=>yy q
@[simp] def ka (f g : D->D->Option (D × Bool)) (fa fb fc : FE) : FE:=fun ρ=>(fa ρ).bind fun x=>(fb ρ).bind fun y=>match f x.1 y.1 with
 | some (.bl true,_)=>(fc ρ).bind fun z=>g y.1 z.1
 | some (.bl false,_)=>some (.bl false,false)
 | _=>none
theorem yz {K : PySem.W.Frag} {f g : D->D->Option (D × Bool)} {fa fb fc : FE} {σ : St} {H : Hp} {Q : VK} (h : tD K (ka f g fa fb fc) σ H Q) : xZ (rD K f) (rD K g) (tD K fa) (tD K fb) (tD K fc) σ H Q:=by
 obtain ⟨B,ρ,d,b,s,r,e,q⟩:=h
 obtain ⟨x,ex,e⟩:=oX e
 obtain ⟨y,ey,e⟩:=oX e
 refine ⟨B,ρ,x.1,x.2,s,r,ex,fun v H1 N1 x1 i1 _=>⟨N1,ρ,y.1,y.2,x1.nh,r.mono x1.bn,ey,fun v2 H2 N2 x2 i2 _=>?_⟩⟩
 split at e
 ·rename_i b' ef
  obtain ⟨z,ez,e⟩:=oX e
  refine ⟨N2,x.1,y.1,.bl true,b',x2.nh,i1.mono x2.bn,i2,ef,fun v3 H3 N3 x3 i3 _=>?_⟩
  cases i3
  refine ⟨true,rfl, ?_⟩
  rw [if_pos rfl]
  refine ⟨N3,ρ,z.1,z.2,x3.nh,r.mono (x1.bn.trans (x2.bn.trans x3.bn)),ez,fun v4 H4 N4 x4 i4 _=>⟨N4,y.1,z.1,d,b,x4.nh,i2.mono (x3.bn.trans x4.bn),i4,e, ?_⟩⟩
  exact q.into ((x1.trans x2).trans (x3.trans x4))
 ·rename_i b' ef
  cases e
  refine ⟨N2,x.1,y.1,.bl false,b',x2.nh,i1.mono x2.bn,i2,ef,fun v3 H3 N3 x3 i3 _=>?_⟩
  cases i3
  refine ⟨false,rfl, ?_⟩
  rw [if_neg (by decide)]
  exact (q.into ((x1.trans x2).trans x3)).one x3.nh (.bl false)
 ·cases e
theorem y0 {op op' : CmpOp} {f g : D->D->Option (D × Bool)} {fa fb fc : FE} (ho : OpR X (compareOp op) (rD X.K f)) (ho' : OpR X (compareOp op') (rD X.K g)) (ha : JE X a fa) (hb : JE X b fb) (hc : JE X c fc)
  (hm : lastMarks [op,op'] [b,c] = false:=by with_unfolding_all rfl) : JE X (.Compare a [op,op'] [b,c] pos) (ka f g fa fb fc):=PE.to (ya ho ho' ha hb hc hm) fun _ _ _ h=>yz h
theorem Aq {K : PySem.W.Frag} {f g : FT} {σ : St} {H : Hp} {Q : Bool->Hp->Prop} (h : tDT K (cM f g) σ H Q) : Du (tDT K f) (tDT K g) σ H Q:=by
 obtain ⟨B,ρ,c,s,r,e,q⟩:=h
 unfold cM at e
 cases ef : f ρ with
 | none=>rw [ef] at e; cases e
 | some k =>
  rw [ef] at e
  refine ⟨B,ρ,k,s,r,ef,fun H1 h1=>?_⟩
  cases k with
  | true=>rw [if_pos rfl]; exact ⟨B,ρ,c,s.trans h1,r,e,fun H2 h2=>q H2 (h1.trans h2)⟩
  | false=>rw [if_neg (by decide)]; cases e; exact q H1 h1
theorem Cy {K : PySem.W.Frag} {f g : FT} {σ : St} {H : Hp} {Q : Bool->Hp->Prop} (h : tDT K (fV f g) σ H Q) : tOr (tDT K f) (tDT K g) σ H Q:=by
 obtain ⟨B,ρ,c,s,r,e,q⟩:=h
 unfold fV at e
 cases ef : f ρ with
 | none=>rw [ef] at e; cases e
 | some k =>
  rw [ef] at e
  refine ⟨B,ρ,k,s,r,ef,fun H1 h1=>?_⟩
  cases k with
  | false=>rw [if_neg (by decide)]; exact ⟨B,ρ,c,s.trans h1,r,e,fun H2 h2=>q H2 (h1.trans h2)⟩
  | true=>rw [if_pos rfl]; cases e; exact q H1 h1
theorem Ar {K : PySem.W.Frag} {f : FT} {σ : St} {H : Hp} {Q : Bool->Hp->Prop} (h : tDT K (gB f) σ H Q) : Dv (tDT K f) σ H Q:=by
 obtain ⟨B,ρ,c,s,r,e,q⟩:=h
 obtain ⟨k,ek,e⟩:=oY e
 subst e
 exact ⟨B,ρ,k,s,r,ek,fun H1 h1=>q H1 h1⟩
variable {az : List Expr}
theorem fZ {f : FT} (ha : JT X a f) : JW X (.BoolOp .And [a] pos) f:=zL ha
theorem kc {f : FT} (ha : JT X a f) : JW X (.BoolOp .Or [a] pos) f:=BR ha
theorem iV {f g : FT} (ha : JT X a f) (hb : JW X (.BoolOp .And (b :: az) pos) g) : JW X (.BoolOp .And (a :: b :: az) pos) (cM f g):=PW.to (BS ha hb) fun _ _ _ h=>Aq h
theorem lU {f g : FT} (ha : JT X a f) (hb : JW X (.BoolOp .Or (b :: az) pos) g) : JW X (.BoolOp .Or (a :: b :: az) pos) (fV f g):=PW.to (Dw ha hb) fun _ _ _ h=>Cy h
theorem kg {f : FT} (h : JW X e f) : JT X e f:=h.pt
theorem qi {f : FT} (ha : JT X a f) : JT X (.UnaryOp .Not a pos) (gB f):=PT.to (BT ha) fun _ _ _ h=>Ar h
@[simp] def j5 (f g : FE) : FE:=fun ρ=>match f ρ with | some (.bl true,_)=>g ρ | some (.bl false,_)=>some (.bl false,false) | _=>none
@[simp] def fOr (f g : FE) : FE:=fun ρ=>match f ρ with | some (.bl true,_)=>some (.bl true,false) | some (.bl false,_)=>g ρ | _=>none
@[simp] def Ft (f : FE) : FE:=fun ρ=>match f ρ with | some (.bl c,_)=>some (.bl (!c),false) | _=>none
theorem gD {f g : FE} (ha : JE X a f) (hb : JE X (.BoolOp .And (b :: az) pos) g) : JE X (.BoolOp .And (a :: b :: az) pos) (j5 f g):=PE.to (BV ha hb) fun σ H Q h=>by
 obtain ⟨B,ρ,d,k,s,r,e,q⟩:=h
 unfold j5 at e
 split at e
 ·rename_i b' ef
  refine ⟨B,ρ,_,_,s,r,ef,fun v H1 N1 x1 i1 _=>?_⟩
  cases i1
  refine ⟨true,rfl, ?_⟩
  rw [if_pos rfl]
  exact ⟨N1,ρ,d,k,x1.nh,r.mono x1.bn,e,q.into x1⟩
 ·rename_i b' ef
  cases e
  refine ⟨B,ρ,_,_,s,r,ef,fun v H1 N1 x1 i1 _=>?_⟩
  cases i1
  refine ⟨false,rfl, ?_⟩
  rw [if_neg (by decide)]
  exact (q.into x1).one x1.nh (.bl false)
 ·cases e
theorem DW {f g : FE} (ha : JE X a f) (hb : JE X (.BoolOp .Or (b :: az) pos) g) : JE X (.BoolOp .Or (a :: b :: az) pos) (fOr f g):=PE.to (Dy ha hb) fun σ H Q h=>by
 obtain ⟨B,ρ,d,k,s,r,e,q⟩:=h
 unfold fOr at e
 split at e
 ·rename_i b' ef
  cases e
  refine ⟨B,ρ,_,_,s,r,ef,fun v H1 N1 x1 i1 _=>?_⟩
  cases i1
  refine ⟨true,rfl, ?_⟩
  rw [if_pos rfl]
  exact (q.into x1).one x1.nh (.bl true)
 ·rename_i b' ef
  refine ⟨B,ρ,_,_,s,r,ef,fun v H1 N1 x1 i1 _=>?_⟩
  cases i1
  refine ⟨false,rfl, ?_⟩
  rw [if_neg (by decide)]
  exact ⟨N1,ρ,d,k,x1.nh,r.mono x1.bn,e,q.into x1⟩
 ·cases e
theorem gE {op : BoolOp} {f : FE} (h : JE X a f) : JE X (.BoolOp op [a] pos) f:=BU h
variable {es : List Expr}
theorem ag : JA X [] aj:=PA.to g8 fun _ _ _ h=>Aj h
theorem ab {f : FE} {g : FA} (ha : JE X e f) (hr : JA X es g) (hs : starEach (e :: es) X.env = (false,eval e X.env) :: starEach es X.env:=by rfl) : JA X (e :: es) (ac f g):=PA.to (eI ha hr hs) fun _ _ _ h=>yq h
@[simp] def aP : List D->Option (D × Bool):=fun ds=>if ds.length<=sizeLine then some (.tup ds,false) else none
@[simp] def bW : List D->Option (D × Bool):=fun ds=>if ds.length<=sizeLine then some (.lst ds,true) else none
theorem aW {x1} {f : FA} (h : JA X es f) : JE X (.Tuple es x1 pos) (fA aP f):=PE.to (uh h) fun σ H Q q=>by
 obtain ⟨B,ρ,ds,s,r,e,k⟩:=Ai q
 refine ⟨B,ρ,ds,s,r,e,fun vs H1 N1 x1 i1=>?_⟩
 obtain ⟨B2,ds2,d,b,s2,i2,e2,k2⟩:=k vs H1 N1 x1 i1
 unfold aP at e2
 split at e2
 ·rename_i hz
  cases e2
  refine ⟨by rw [i2.length]; exact hz,fun p hp=>k2 _ _ (upd B2 p (.tup vs)) (.laid s2 hp) (.tup (SqT.of a8) (i2.mono (Ext.laid s2 hp).bn)) (by simp)⟩
 ·cases e2
theorem cg {f : FA} (h : JA X es f) : JE X (.List es pos) (fA bW f):=PE.to (Cj h) fun σ H Q q=>by
 obtain ⟨B,ρ,ds,s,r,e,k⟩:=Ai q
 refine ⟨B,ρ,ds,s,r,e,fun vs H1 N1 x1 i1=>?_⟩
 obtain ⟨B2,ds2,d,b,s2,i2,e2,k2⟩:=k vs H1 N1 x1 i1
 unfold bW at e2
 split at e2
 ·rename_i hz
  cases e2
  refine ⟨by rw [i2.length]; exact hz,fun p hp=>k2 _ _ (upd B2 p (.lst vs)) (.laid s2 hp) (.lst (SqL.of a8) (i2.mono (Ext.laid s2 hp).bn)) fun _=>⟨p,vs,ds2,rfl,rfl,hp,a8,i2.mono (Ext.laid s2 hp).bn⟩⟩
 ·cases e2
end
section
variable {X : Cx}
theorem ga {f : Value->Value->Sem Value} {r r' : R2} (h : OpR X f r) (k : ∀ x y H Q,r' x y H Q->r x y H Q) : OpR X f r':=fun pins s σ H x y v u Q I rx ry q=>h pins s σ H x y v u Q I rx ry (k x y H Q q)
def orD (f g : D->D->Option (D × Bool)) : D->D->Option (D × Bool):=fun x y=>match f x y with | some r=>some r | none=>g x y
theorem lV {s : Value->Value->Sem Value} {f g : D->D->Option (D × Bool)} (h : OpR X s (rD X.K f)) (h' : OpR X s (rD X.K g)) : OpR X s (rD X.K (orD f g)):=by
 intro pins st σ H x y v u Q I rx ry q
 obtain ⟨B,dx,dy,d,b,sB,ix,iy,e,q⟩:=q
 unfold orD at e
 split at e
 ·rename_i r ef
  cases e
  exact h pins st σ H x y v u Q I rx ry ⟨B,dx,dy,_,_,sB,ix,iy,ef,q⟩
 ·exact h' pins st σ H x y v u Q I rx ry ⟨B,dx,dy,_,_,sB,ix,iy,e,q⟩
@[simp] def iop (C : Int->Int->Bool) (g : Int->Int->D) : D->D->Option (D × Bool)
 | .int i,.int j=>if C i j = true then some (g i j,false) else none
 | _,_=>none
theorem qj {s : Value->Value->Sem Value} {C : Int->Int->Prop} {C' : Int->Int->Bool} {g : Int->Int->V} {g' : Int->Int->D} (h : OpR X s (rI C g)) (hC : ∀ i j,C' i j = true->C i j) (hg : ∀ i j B,Is X.K B (g i j) (g' i j)) : OpR X s (rD X.K (iop C' g')):=by
 refine ga h fun x y H Q q=>?_
 obtain ⟨B,dx,dy,d,b,sB,ix,iy,e,q⟩:=q
 cases ix <;> cases iy <;> try (simp [iop] at e; done)
 rename_i i j
 simp only [iop] at e
 split at e
 ·rename_i hc
  cases e
  exact ⟨i,j,rfl,rfl,hC i j hc,q.one sB (hg i j B)⟩
 ·cases e
theorem gF {s : Value->Value->Sem Value} {g : Int->Int->V} {g' : Int->Int->D} (h : OpR X s (rI0 g)) (hg : ∀ i j B,Is X.K B (g i j) (g' i j)) : OpR X s (rD X.K (iop (fun _ _=>true) g')):=by
 refine ga h fun x y H Q q=>?_
 obtain ⟨B,dx,dy,d,b,sB,ix,iy,e,q⟩:=q
 cases ix <;> cases iy <;> try (simp [iop] at e; done)
 rename_i i j
 simp only [iop,if_true] at e
 cases e
 exact ⟨i,j,rfl,rfl,q.one sB (hg i j B)⟩
abbrev Cz : D->D->Option (D × Bool):=iop (fun _ _=>true) fun i j=>.int (i + j)
abbrev DX : D->D->Option (D × Bool):=iop (fun _ _=>true) fun i j=>.int (i - j)
abbrev DY : D->D->Option (D × Bool):=iop (fun i j=>decide ((-18446744073709551616 < i/\i < 18446744073709551616) ∨ (-18446744073709551616 < j/\j < 18446744073709551616))) fun i j=>.int (i * j)
abbrev eF : D->D->Option (D × Bool):=iop (fun _ j=>decide (0 < j/\j < 1073741824)) fun i j=>.int (i / j)
abbrev cN : D->D->Option (D × Bool):=iop (fun _ j=>decide (0 < j)) fun i j=>.int (i % j)
abbrev iLt : D->D->Option (D × Bool):=iop (fun _ _=>true) fun i j=>.bl (decide (i < j))
abbrev iLe : D->D->Option (D × Bool):=iop (fun _ _=>true) fun i j=>.bl (decide (i<=j))
abbrev iGt : D->D->Option (D × Bool):=iop (fun _ _=>true) fun i j=>.bl (decide (j < i))
theorem DZ : OpR X (binaryOp .Add) (rD X.K Cz):=gF Cc fun _ _ _=>.int _
theorem Ea : OpR X (binaryOp .Sub) (rD X.K DX):=gF Ce fun _ _ _=>.int _
theorem Eb : OpR X (binaryOp .Mult) (rD X.K DY):=qj Cf (fun i j h=>by have h:=of_decide_eq_true h; unfold zR; omega) fun _ _ _=>.int _
theorem cK : OpR X (binaryOp .FloorDiv) (rD X.K eF):=qj zS (fun i j h=>by have h:=of_decide_eq_true h; unfold DA; omega) fun _ _ _=>.int _
theorem c7 : OpR X (binaryOp .Mod) (rD X.K cN):=qj Cg (fun _ _ h=>of_decide_eq_true h) fun _ _ _=>.int _
theorem EO : OpR X (compareOp .Lt) (rD X.K iLt):=gF DB fun _ _ _=>.bl _
theorem EQ : OpR X (compareOp .LtE) (rD X.K iLe):=gF DC fun _ _ _=>.bl _
theorem C0 : OpR X (compareOp .Gt) (rD X.K iGt):=gF DD fun _ _ _=>.bl _
@[simp] def sop (C : Str->Str->Bool) (g : Str->Str->D) : D->D->Option (D × Bool)
 | .str i,.str j=>if C i j = true then some (g i j,false) else none
 | _,_=>none
abbrev y4 : D->D->Option (D × Bool):=sop (fun i j=>decide (i.length + j.length<=sizeLine)) fun i j=>.str (i ++ j)
abbrev sLe : D->D->Option (D × Bool):=sop (fun _ _=>true) fun i j=>.bl (!decide (j.cps.toList < i.cps.toList))
theorem C1 : OpR X (binaryOp .Add) (rD X.K y4):=by
 refine ga ue fun x y H Q q=>?_
 obtain ⟨B,dx,dy,d,b,sB,ix,iy,e,q⟩:=q
 cases ix <;> cases iy <;> try (simp [y4,sop] at e; done)
 rename_i i j
 simp only [y4,sop] at e
 split at e
 ·rename_i hc
  cases e
  exact ⟨i,j,rfl,rfl,of_decide_eq_true hc,q.one sB (.str _)⟩
 ·cases e
theorem Ec : OpR X (compareOp .LtE) (rD X.K sLe):=by
 intro pins s σ H x y v u Q I rx ry q
 obtain ⟨B,dx,dy,d,b,sB,ix,iy,e,q⟩:=q
 cases ix <;> cases iy <;> try (simp [sLe,sop] at e; done)
 rename_i i j
 simp only [sLe,sop,if_true] at e
 cases e
 obtain ⟨t,rfl⟩:=rx
 obtain ⟨t',rfl⟩:=ry
 exact PySem.P.le_str ⟨.bl _,H,I,rfl,q.one sB (.bl _)⟩
end
section
variable {X : Cx} {a b c e : Expr} {pos : Pos} {st : Stmt} {az : List Stmt}
theorem bM : JSs X [] cn:=PSs.to zM fun _ _ _ h=>yt h
theorem am {g h : FS} (h1 : JS X st g) (h2 : JSs X az h) : JSs X (st :: az) (aF g h):=PSs.to (xS h1 h2) fun _ _ _ q=>Ak q
theorem aw {g : FS} (h1 : JS X st g) : JSs X [st] g:=zN h1
theorem bX {c : Expr} {a b : List Stmt} {fc : FT} {g h : FS} (hc : JT X c fc) (ha : JSs X a g) (hb : JSs X b h) : JS X (.If c a b pos) (gIf fc g h):=PS.to (D3 hc ha hb) fun _ _ _ q=>Cw q
theorem aI {f : FE} (he : JE X e f) : JS X (.Return (some e) pos) (bz f):=PS.to (xT he) fun _ _ _ q=>Al q
theorem lE (i : Nat) {x : Str} {p : Pos} (hN : X.N[i]? = some x:=by rfl) (hv : Vis X.env.scope x:=by first | exact Or.inl rfl | exact Or.inr (Or.inl rfl) | exact Or.inr (Or.inr rfl)) (hd : (x == ("__debug__" : Str)) = false:=by decide)
  (hcd : (x == ("__classdict__" : Str)) = false:=by decide) : JS X (.Return (some (.Name x p)) pos) (jy i):=PS.to (xT (pP hN hv hd hcd)) fun _ _ _ q=>yu q
theorem aA {i : Nat} {x : Str} {p : Pos} {f : FE} (hN : X.N.Nodup) (he : JE X e f) (hi : X.N[i]? = some x:=by rfl) (hx : Loc X.env.scope x:=by first | exact Or.inl rfl | exact Or.inr rfl) (hs : swapsWith e (some (.Name x p)) pos.line X.env = pure false:=by rfl)
  (hf : X.fn x = true ∨ X.env.scope.names.lookup x = some .local:=by first | exact .inl rfl | exact .inr rfl) : JS X (.Assign [.Name x p] e pos) (aS i f):=PS.to (xU hN hi hx he hs hf) fun _ _ _ q=>vA q
theorem y6 {c : Expr} {body : List Stmt} {fc : FT} {g : FS} (n : Nat) (hp : PassesOwn (model X.prog X.w) X.A X.env X.xe) (hc : JT X c fc) (hb : JSs X body g) : JS X (.While c body [] pos) (fg fc g n):=PS.to (xW hp hc hb) fun _ _ _ q=>wR q
theorem iW {tg iter : Expr} {body : List Stmt} {fi : FA} {tgF : FG} {t : TG} {g : FS} (hp : PassesOwn (model X.prog X.w) X.A X.env X.xe) (hc : X.calm = true) (hi : JI X tg iter fi) (hg : PG X tg t) (ht : tDG X.K tgF t) (hb : JSs X body g)
  (hs : ∀ x,foldedSetIterable iter X.env x = pure x:=by intro _; rfl) : JS X (.For tg iter body [] pos) (lR fi tgF g):=PS.to (xY hp hc hi hg hb hs) fun _ _ _ q=>An ht q
theorem qk {tg iter : Expr} {body : List Stmt} {fi : FA} {tgF : FG} {t : TG} {g : FS} (hp : PassesOwn (model X.prog X.w) X.A X.env X.xe) (hc : X.calm = true) (hi : PI X tg iter (tDR X.K fi)) (hg : PG X tg t) (ht : tDG X.K tgF t) (hb : JSs X body g)
  (hs : ∀ x,foldedSetIterable iter X.env x = pure x:=by intro _; rfl) : JS X (.For tg iter body [] pos) (lS fi tgF g):=PS.to (xY hp hc hi hg hb hs) fun _ _ _ q=>yw ht q
theorem fj {i : Nat} {x : Str} {p apos cpos : Pos} {f : FE} (he : JE X e f) (hN : X.N[i]? = some x:=by rfl) (hv : Vis X.env.scope x:=by first | exact Or.inl rfl | exact Or.inr (Or.inl rfl) | exact Or.inr (Or.inr rfl)) (hd : (x == ("__debug__" : Str)) = false:=by decide)
  (hcd : (x == ("__classdict__" : Str)) = false:=by decide)
  (hbase : attributeBase (.Name x p) "append" X.env (eval (.Name x p) X.env) = eval (.Name x p) X.env:=by rfl)
  (hfew : ((backTo cpos (starEach [e] X.env)).all (fun x=>!x.1) && (backToKw cpos (keywordEach [] X.env)).all (fun x=>x.1.isSome)
   && decide ([e].length + ([] : List Keyword).length + (if ([] : List Keyword).isEmpty then 0 else 1) < 30)) = true:=by rfl)
  (hline : (apos.endLine == cpos.line) = true:=by rfl) (hs : starEach [e] X.env = [(false,eval e X.env)]:=by rfl) (hsw : swapsWith (.Call (.Attribute (.Name x p) "append" apos) [e] [] cpos) none pos.line X.env = pure false:=by rfl) :
  JS X (.Expr (.Call (.Attribute (.Name x p) "append" apos) [e] [] cpos) pos) (jz i f):=by
 refine PS.to (zO (Be PySem.F.plainAttrs_list PySem.F.slot_list_append PySem.F.type_list_append oC (pP hN hv hd hcd) (eI he g8 hs) hbase hfew hline hs rfl) hsw) fun E σ H q=>?_
 obtain ⟨a,us,h1,h2,k⟩:=Am q
 exact ⟨_,h1,.inl ⟨rfl,us,SqL.of h2⟩,k⟩
end
@[simp] def aV (g : FS) (n k : Nat) : List D->Option (D × Bool):=fun ds=>if ds.length = n then
 match g (ds.map (fun d=>some (d,false)) ++ List.replicate k none) with
 | some (.rt d b)=>some (d,b)
 | some (.nx _)=>some (.non,false)
 | _=>none
 else none
def spD (K : PySem.W.Frag) (f : List D->Option (D × Bool)) : Sp:=fun vs H Q _=>∃ (B : Hp) (ds : List D) (d : D) (b : Bool),(aJ B H/\Tb K B)/\IsL K B vs ds/\f ds = some (d,b)/\Fin K B H d b Q
theorem rP {K : PySem.W.Frag} {B H : Hp} {vs : List V} {ds : List D} {N : List Str} (sB : aJ B H) (tb : Tb K B) (i : IsL K B vs ds) : StN K B H B H (L2.gu N vs) (ds.map (fun d=>some (d,false)) ++ List.replicate (N.length - vs.length) none):=by
 have nf : ∀ (j : Nat) (d : D) (b : Bool),(ds.map (fun d=>some (d,false)) ++ List.replicate (N.length - vs.length) none : Env)[j]? = some (some (d,b))->b = false/\ds[j]? = some d:=fun j d b e=>by
  by_cases hj : j < ds.length
  ·rw [List.getElem?_append_left (by simpa using hj),List.getElem?_map] at e
   obtain ⟨d',h1,h2⟩:=oY e
   cases h2
   exact ⟨rfl,h1⟩
  ·rw [List.getElem?_append_right (by simpa using Nat.not_lt.mp hj),List.getElem?_replicate] at e
   split at e <;> cases e
 have no : ∀ a,¬ own (L2.gu N vs) (ds.map (fun d=>some (d,false)) ++ List.replicate (N.length - vs.length) none) a:=fun a ⟨j,d,h,_⟩=>by
  obtain ⟨z,_⟩:=nf j d true h; cases z
 refine ⟨sB,tb,.refl sB, ?_,fun j d e=>?_,fun j d e=>?_,fun j k a d e h=>?_⟩
 ·unfold L2.gu; rw [List.length_append,List.length_append,List.length_map,List.length_map,List.length_replicate,List.length_replicate,i.length]
 ·obtain ⟨_,e1⟩:=nf j d false e
  obtain ⟨v,h1,h2⟩:=i.get e1
  refine ⟨v, ?_,h2.mono fun a o e=>by rw [bV (no a)]; exact e⟩
  unfold L2.gu
  have hj : j < vs.length:=(List.getElem?_eq_some_iff.mp h1).1
  rw [List.getElem?_append_left (by simpa using hj),List.getElem?_map,h1] <;> rfl
 ·obtain ⟨z,_⟩:=nf j d true e; cases z
 ·obtain ⟨z,_⟩:=nf j d true h; cases z
section
variable {P : Program} {w : World} {K : PySem.W.Frag} {mg : Str->Option Value} {base : Heap}
theorem Ed {x qual : Str} {st : Stmt} {f : Addr} {fd : FuncData} {N ps : List Str} {k : Nat} {g : FS} (F : Fun K x qual st f fd) (S : FnScope N ps (ar st))
  (hb : ∀ (cdv : Value) (A : Around) (outer : List PySem.Env) (s : Shared) (H : Hp) (E : XK),Room k (A.deeper (envOfC qual (ar st) s.heap.objs.size f cdv))->JSs (lN CX0 P w K mg base N qual (ar st) f cdv A outer s H E).nox (cx st) g) :
  FnOk P w K mg base CX0 (k + 1) f fd ps (spD K (aV g ps.length (N.length - ps.length))):=by
 have len : ∀ vs H Q E,spD K (aV g ps.length (N.length - ps.length)) vs H Q E->vs.length = ps.length:=fun vs H Q E h=>by
  obtain ⟨B,ds,d,b,sB,i,e,q⟩:=h
  unfold aV at e
  split at e
  ·rename_i hl; rw [i.length]; exact hl
  ·cases e
 refine F.ok S len fun cdv A outer s H vs Q E hr h=>⟨_,hb cdv A outer s H E hr, ?_⟩
 have hlen:=len vs H Q E h
 obtain ⟨B,ds,d,b,sB,i,e,q⟩:=h
 unfold aV at e
 rw [if_pos (by rw [← i.length]; exact hlen)] at e
 have s0:=rP (N:=N) sB.1 sB.2 i
 rw [hlen] at s0
 split at e
 ·rename_i d' b' eg
  cases e
  exact ⟨B,H,_,_,⟨B,s0⟩,eg,fun v H' N' x' i' f'=>q v H' N' x' i' f'⟩
 ·rename_i ρ' eg
  cases e
  exact ⟨B,H,_,_,⟨B,s0⟩,eg,fun σ' H' ⟨N',s'⟩=>q .non H' N' s'.ext .non (by simp)⟩
 ·cases e
structure Fn (P : Program) (w : World) (K : PySem.W.Frag) (mg : Str->Option Value) (base : Heap) (k : Nat) (x : Str) (f : List D->Option (D × Bool)) : Prop where
 ex : ∃ (ad : Addr) (fd : FuncData) (ps : List Str),FnOk P w K mg base CX0 k ad fd ps (spD K f)/\mg x = some (.ref ad)/\PySem.W.keepIn K (.ref ad) = true/\o6 K fd ps []
end
theorem ak {X : Cx} {k : Nat} {x : Str} {f : List D->Option (D × Bool)} {fa : FA} {e : Expr} {es : List Expr} {p pos : Pos} (F : Fn X.prog X.w X.K X.mg X.base k x f) (hr : Room k X.A) (ha : JA X (e :: es) fa) (hg : Gl X x:=by rfl)
  (hdb : (x == ("__debug__" : Str)) = false:=by decide) (he : starEach (e :: es) X.env = (false,eval e X.env) :: starEach es X.env:=by rfl) (hpl : (backTo pos (starEach es X.env)).any (·.1) = false:=by rfl) :
  JE X (.Call (.Name x p) (e :: es) [] pos) (fA f fa):=by
 obtain ⟨ad,fd,ps,F1,hm,hk,hb⟩:=F.ex
 refine PE.to (zW F1 hr hg hm hk hb .nil DO ha hdb he hpl) fun σ H Q q=>?_
 obtain ⟨B,ρ,d,b,s,r,e,q⟩:=q
 obtain ⟨ds,ex,e⟩:=oX e
 exact ⟨B,ρ,ds,s,r,ex,fun vs H1 N1 x1 i1=>by
  show spD X.K f (vs ++ []) H1 Q _
  rw [List.append_nil]
  exact ⟨N1,ds,d,b,⟨x1.nh,r.tb.mono x1.bn⟩,i1,e,q.into x1⟩⟩
mutual
def eqD : D->D->Bool
 | .non,.non=>true
 | .bl a,.bl b=>a == b
 | .bl a,.int b=>decide ((if a then 1 else 0) = b)
 | .int a,.bl b=>decide (a = (if b then 1 else 0))
 | .int a,.int b=>decide (a = b)
 | .str a,.str b=>decide (a = b)
 | .tup xs,.tup ys=>da xs ys
 | .lst xs,.lst ys=>da xs ys
 | _,_=>false
def da : List D->List D->Bool
 | [],[]=>true
 | x :: xs,y :: ys=>eqD x y && da xs ys
 | _,_=>false
end
@[simp] theorem rQ : eqD .non .non = true:=by simp only [eqD]
@[simp] theorem ut (b : Bool) : eqD .non (.bl b) = false:=by simp only [eqD]
@[simp] theorem rR (b : Int) : eqD .non (.int b) = false:=by simp only [eqD]
@[simp] theorem rS (b : Str) : eqD .non (.str b) = false:=by simp only [eqD]
@[simp] theorem Bk (b : List D) : eqD .non (.tup b) = false:=by simp only [eqD]
@[simp] theorem Bl (b : List D) : eqD .non (.lst b) = false:=by simp only [eqD]
@[simp] theorem uu (a : Bool) : eqD (.bl a) .non = false:=by simp only [eqD]
@[simp] theorem wT (a : Bool) (b : Bool) : eqD (.bl a) (.bl b) = (a == b):=by simp only [eqD]
@[simp] theorem uw (a : Bool) (b : Int) : eqD (.bl a) (.int b) = decide ((if a then 1 else 0) = b):=by simp only [eqD]
@[simp] theorem ux (a : Bool) (b : Str) : eqD (.bl a) (.str b) = false:=by simp only [eqD]
@[simp] theorem C2 (a : Bool) (b : List D) : eqD (.bl a) (.tup b) = false:=by simp only [eqD]
@[simp] theorem C3 (a : Bool) (b : List D) : eqD (.bl a) (.lst b) = false:=by simp only [eqD]
@[simp] theorem rT (a : Int) : eqD (.int a) .non = false:=by simp only [eqD]
@[simp] theorem uy (a : Int) (b : Bool) : eqD (.int a) (.bl b) = decide (a = (if b then 1 else 0)):=by simp only [eqD]
@[simp] theorem rV (a : Int) (b : Int) : eqD (.int a) (.int b) = decide (a = b):=by simp only [eqD]
@[simp] theorem rW (a : Int) (b : Str) : eqD (.int a) (.str b) = false:=by simp only [eqD]
@[simp] theorem Bm (a : Int) (b : List D) : eqD (.int a) (.tup b) = false:=by simp only [eqD]
@[simp] theorem Bn (a : Int) (b : List D) : eqD (.int a) (.lst b) = false:=by simp only [eqD]
@[simp] theorem rX (a : Str) : eqD (.str a) .non = false:=by simp only [eqD]
@[simp] theorem uz (a : Str) (b : Bool) : eqD (.str a) (.bl b) = false:=by simp only [eqD]
@[simp] theorem rY (a : Str) (b : Int) : eqD (.str a) (.int b) = false:=by simp only [eqD]
@[simp] theorem kN (a : Str) (b : Str) : eqD (.str a) (.str b) = decide (a = b):=by simp only [eqD]
@[simp] theorem Bo (a : Str) (b : List D) : eqD (.str a) (.tup b) = false:=by simp only [eqD]
@[simp] theorem Bp (a : Str) (b : List D) : eqD (.str a) (.lst b) = false:=by simp only [eqD]
@[simp] theorem Bq (a : List D) : eqD (.tup a) .non = false:=by simp only [eqD]
@[simp] theorem C4 (a : List D) (b : Bool) : eqD (.tup a) (.bl b) = false:=by simp only [eqD]
@[simp] theorem Br (a : List D) (b : Int) : eqD (.tup a) (.int b) = false:=by simp only [eqD]
@[simp] theorem Bs (a : List D) (b : Str) : eqD (.tup a) (.str b) = false:=by simp only [eqD]
@[simp] theorem Bt (a : List D) (b : List D) : eqD (.tup a) (.tup b) = da a b:=by simp only [eqD]
@[simp] theorem Bu (a : List D) (b : List D) : eqD (.tup a) (.lst b) = false:=by simp only [eqD]
@[simp] theorem Bv (a : List D) : eqD (.lst a) .non = false:=by simp only [eqD]
@[simp] theorem C5 (a : List D) (b : Bool) : eqD (.lst a) (.bl b) = false:=by simp only [eqD]
@[simp] theorem Bw (a : List D) (b : Int) : eqD (.lst a) (.int b) = false:=by simp only [eqD]
@[simp] theorem By (a : List D) (b : Str) : eqD (.lst a) (.str b) = false:=by simp only [eqD]
@[simp] theorem Bz (a : List D) (b : List D) : eqD (.lst a) (.tup b) = false:=by simp only [eqD]
@[simp] theorem B1 (a : List D) (b : List D) : eqD (.lst a) (.lst b) = da a b:=by simp only [eqD]
@[simp] theorem Ee : da [] [] = true:=by rw [da]
@[simp] theorem Dk (x y : D) (xs ys : List D) : da (x :: xs) (y :: ys) = (eqD x y && da xs ys):=by rw [da]
@[simp] theorem E3 (y : D) (ys : List D) : da [] (y :: ys) = false:=by simp only [da]
@[simp] theorem E4 (x : D) (xs : List D) : da (x :: xs) [] = false:=by simp only [da]
def ai : Nat->D->Bool
 | _,.non=>true
 | _,.bl _=>true
 | _,.int _=>true
 | _,.str _=>true
 | _,.ty _=>false
 | _,.dk _ _=>false
 | _,.dt _ _=>false
 | 0,.tup _=>false
 | 0,.lst _=>false
 | n + 1,.tup ds=>ds.all (ai n)
 | n + 1,.lst ds=>ds.all (ai n)
@[simp] theorem C6 (n : Nat) : ai n .non = true:=by cases n <;> simp only [ai]
@[simp] theorem Dl (n : Nat) (a : Bool) : ai n (.bl a) = true:=by cases n <;> simp only [ai]
@[simp] theorem C7 (n : Nat) (a : Int) : ai n (.int a) = true:=by cases n <;> simp only [ai]
@[simp] theorem C8 (n : Nat) (a : Str) : ai n (.str a) = true:=by cases n <;> simp only [ai]
@[simp] theorem Dm (n : Nat) (ks : List Key) (vs : List D) : ai n (.dk ks vs) = false:=by cases n <;> simp only [ai]
@[simp] theorem Dn (n : Nat) (ks : List (List Key)) (vs : List D) : ai n (.dt ks vs) = false:=by cases n <;> simp only [ai]
@[simp] theorem C9 (n : Nat) (ds : List D) : ai (n + 1) (.tup ds) = ds.all (ai n):=by simp only [ai]
@[simp] theorem CA (n : Nat) (ds : List D) : ai (n + 1) (.lst ds) = ds.all (ai n):=by simp only [ai]
theorem rZ : ∀ {xs ys : List D},da xs ys = true->xs.length = ys.length
 | [],[],_=>rfl
 | x :: xs,y :: ys,h=>by
  simp only [da,Bool.and_eq_true] at h
  rw [List.length_cons,List.length_cons,rZ h.2]
 | [],_ :: _,h=>by simp [da] at h
 | _ :: _,[],h=>by simp [da] at h
theorem vB {xs ys : List D} (h : xs.length ≠ ys.length) : da xs ys = false:=by
 cases e : da xs ys with
 | false=>rfl
 | true=>exact absurd (rZ e) h
theorem iX (f : Nat->Bool) : ∀ {xs ys : List D},xs.length = ys.length->(∀ (j : Nat) x y,xs[j]? = some x->ys[j]? = some y->f j = eqD x y)->(List.range xs.length).all f = da xs ys
 | [],[],_,_=>by simp [da]
 | x :: xs,y :: ys,hl,h=>by
  have e:=iX (fun j=>f (j + 1)) (xs:=xs) (ys:=ys) (by simpa using hl) fun j a b h1 h2=>h (j + 1) a b (by simpa using h1) (by simpa using h2)
  rw [List.length_cons,List.range_succ_eq_map,List.all_cons,List.all_map,da,← h 0 x y rfl rfl,← e]
  rfl
 | [],_ :: _,hl,_=>by simp at hl
 | _ :: _,[],hl,_=>by simp at hl
section
variable {X : Cx} {pins : List (Addr × Obj)} {σ : St} {H : Hp} {s : Shared}
theorem vC (I : Inv X pins σ H s) {a : Addr} {vs ws : List V} (h1 : SqT X.K H a vs) (h2 : SqL X.K H a ws) : False:=by
 obtain ⟨its,_,⟨o,e,c,_⟩,_⟩:=I.tuple h1
 obtain ⟨its',_,⟨o',n',e',c',_⟩,_⟩:=I.list h2
 rw [e] at e'; cases e'
 rw [c] at c'
 injection c' with z
 exact absurd z (by decide)
theorem vD (I : Inv X pins σ H s) {a : Addr} {o : Obj} {its : Array Value} {n : Nat} (e : s.heap.get? a = some o) (d : o.data = .seq its n) : (∀ kvs,H a ≠ some (.dK kvs))/\∀ kvs,H a ≠ some (.dT kvs):=by
 refine ⟨fun kvs h=>?_,fun kvs h=>?_⟩
 ·obtain ⟨_,_,_,_,o',es,ep,e',_,d',_⟩:=(show bD X.prog X.w H s.heap a (.dK kvs) from I.hok a _ h)
  rw [e] at e'; cases e'; rw [d] at d'; cases d'
 ·obtain ⟨_,_,_,_,o',es,ep,e',_,d',_⟩:=(show bD X.prog X.w H s.heap a (.dT kvs) from I.hok a _ h)
  rw [e] at e'; cases e'; rw [d] at d'; cases d'
theorem sd (I : Inv X pins σ H s) {a : Addr} {vs : List V} (h1 : SqT X.K H a vs) : (∀ kvs,H a ≠ some (.dK kvs))/\∀ kvs,H a ≠ some (.dT kvs):=by
 obtain ⟨its,_,⟨o,e,c,n,d⟩,_⟩:=I.tuple h1
 exact vD I e d
theorem se (I : Inv X pins σ H s) {a : Addr} {vs : List V} (h1 : SqL X.K H a vs) : (∀ kvs,H a ≠ some (.dK kvs))/\∀ kvs,H a ≠ some (.dT kvs):=by
 obtain ⟨its,_,p,_⟩:=I.list h1
 obtain ⟨o,e,c,n,d⟩:=p.isList
 exact vD I e d
theorem vE (I : Inv X pins σ H s) : ∀ (n : Nat) {v : V} {d d' : D},Is X.K H v d->Is X.K H v d'->ai n d = true->eqD d d' = true:=by
 have lists : ∀ {p : D->Bool} (ih : ∀ {v : V} {d d' : D},Is X.K H v d->Is X.K H v d'->p d = true->eqD d d' = true) {vs : List V} {ds ds' : List D},IsL X.K H vs ds->IsL X.K H vs ds'->ds.all p = true->da ds ds' = true:=by
  intro p ih vs
  induction vs with
  | nil=>intro ds ds' h h' _; cases h; cases h'; simp [da]
  | cons v vs ihv =>
   intro ds ds' h h' hp
   cases h with
   | cons h1 h2 =>
    cases h' with
    | cons h3 h4 =>
     rw [List.all_cons,Bool.and_eq_true] at hp
     rw [da,ih h1 h3 hp.1,ihv h2 h4 hp.2]; rfl
 intro n
 induction n with
 | zero =>
  intro v d d' h h' hp
  cases h <;> cases h' <;> first | (simp [ai] at hp; done) | simp [eqD]
 | succ n ih =>
  intro v d d' h h' hp
  cases h with
  | tup h1 h2 =>
   cases h' with
   | tup h3 h4 =>
    rw [I.tuple_inj h3 h1] at h4
    rw [eqD]; exact lists ih h2 h4 (by simpa [ai] using hp)
   | lst h3 h4=>exact (vC I h1 h3).elim
   | dk h3 _ _=>exact ((sd I h1).1 _ h3).elim
   | dt h3 _ _=>exact ((sd I h1).2 _ h3).elim
  | lst h1 h2 =>
   cases h' with
   | lst h3 h4 =>
    rw [I.list_inj h3 h1] at h4
    rw [eqD]; exact lists ih h2 h4 (by simpa [ai] using hp)
   | tup h3 h4=>exact (vC I h3 h1).elim
   | dk h3 _ _=>exact ((se I h1).1 _ h3).elim
   | dt h3 _ _=>exact ((se I h1).2 _ h3).elim
  | ty=>simp [ai] at hp
  | dk=>simp [ai] at hp
  | dt=>simp [ai] at hp
  | _=>cases h' <;> simp [eqD]
theorem B3 {α : Type} {p : α->Bool} {l : List α} {j : Nat} {x : α} (h : l.all p = true) (e : l[j]? = some x) : p x = true:=List.all_eq_true.mp h x (List.mem_of_getElem? e)
theorem sf {A : Around} {p : D->Bool} (ih : ∀ {v1 v2 : V} {d1 d2 : D} {u1 u2 : Value},p d1 = true->p d2 = true->Is X.K H v1 d1->Is X.K H v2 d2->aN v1 u1->aN v2 u2->SeqAt.EqAt A s u1 u2 (eqD d1 d2))
  {vs ws : List V} {ds es : List D} {its jts : List Value} (i1 : IsL X.K H vs ds) (i2 : IsL X.K H ws es) (r1 : aQ vs its) (r2 : aQ ws jts) (p1 : ds.all p = true) (p2 : es.all p = true) :
  ∀ j (h1 : j < its.toArray.size) (h2 : j < jts.toArray.size),SeqAt.EqAt A s its.toArray[j] jts.toArray[j] (eqD (ds.getD j .non) (es.getD j .non)):=by
 intro j h1 h2
 rw [List.size_toArray] at h1 h2
 have l1:=r1.length; have l2:=r2.length; have l3:=i1.length; have l4:=i2.length
 have hv : j < vs.length:=by omega
 have hw : j < ws.length:=by omega
 have hd : j < ds.length:=by omega
 have he : j < es.length:=by omega
 obtain ⟨u,e1,q1⟩:=r1.get (i:=j) (x:=vs[j]) (by simp [hv])
 obtain ⟨u',e2,q2⟩:=r2.get (i:=j) (x:=ws[j]) (by simp [hw])
 obtain ⟨v,e3,q3⟩:=i1.get (i:=j) (d:=ds[j]) (by simp [hd])
 obtain ⟨w,e4,q4⟩:=i2.get (i:=j) (d:=es[j]) (by simp [he])
 have a1 : its.toArray[j] = u:=by have z:=(List.getElem?_eq_some_iff.mp e1).2; simpa using z
 have a2 : jts.toArray[j] = u':=by have z:=(List.getElem?_eq_some_iff.mp e2).2; simpa using z
 have a3 : vs[j] = v:=by simpa [hv] using e3
 have a4 : ws[j] = w:=by simpa [hw] using e4
 have a5 : ds.getD j .non = ds[j]:=by simp [List.getD,hd]
 have a6 : es.getD j .non = es[j]:=by simp [List.getD,he]
 rw [a1,a2,a5,a6]
 exact ih (B3 p1 (j:=j) (by simp [hd])) (B3 p2 (j:=j) (by simp [he])) (a3 ▸ q3) (a4 ▸ q4) q1 q2
theorem vF {xs ys : List D} (j : Nat) (x y : D) (h1 : xs[j]? = some x) (h2 : ys[j]? = some y) : eqD (xs.getD j .non) (ys.getD j .non) = eqD x y:=by
 simp [List.getD,h1,h2]
abbrev Tri (A : Around) (s : Shared) (u1 u2 : Value) (b : Bool) : Prop:=SeqAt.RcAt A s u1 u2 b/\SeqAt.EqAt A s u1 u2 b/\SeqAt.RcNeAt A s u1 u2 (!b)
theorem b7 {A : Around} {v1 v2 : V} {d1 d2 : D} {u1 u2 : Value} (p1 : ai 0 d1 = true) (p2 : ai 0 d2 = true) (i1 : Is X.K H v1 d1) (i2 : Is X.K H v2 d2) (r1 : aN v1 u1) (r2 : aN v2 u2) : Tri A s u1 u2 (eqD d1 d2):=by
 cases i1 with
 | non =>
  cases r1
  cases i2 with
  | non =>
   cases r2
   rw [rQ]
   exact ⟨SeqAt.RcAt.none_none,SeqAt.EqAt.same _,SeqAt.RcNeAt.none_none⟩
  | bl b =>
   cases r2
   rw [ut]
   exact ⟨SeqAt.RcAt.none_bool _,SeqAt.EqAt.none_bool _,SeqAt.RcNeAt.none_bool _⟩
  | int b =>
   obtain ⟨t',rfl⟩:=r2
   rw [rR]
   exact ⟨SeqAt.RcAt.none_int _ _,SeqAt.EqAt.none_int _ _,SeqAt.RcNeAt.none_int _ _⟩
  | str b =>
   obtain ⟨t',rfl⟩:=r2
   rw [rS]
   exact ⟨SeqAt.RcAt.none_str _ _,SeqAt.EqAt.none_str _ _,SeqAt.RcNeAt.none_str _ _⟩
  | ty=>simp [ai] at p2
  | dk=>simp [ai] at p2
  | dt=>simp [ai] at p2
  | tup=>simp [ai] at p2
  | lst=>simp [ai] at p2
 | bl a =>
  cases r1
  cases i2 with
  | non =>
   cases r2
   rw [uu]
   exact ⟨SeqAt.RcAt.bool_none _,SeqAt.EqAt.bool_none _,SeqAt.RcNeAt.bool_none _⟩
  | bl b =>
   cases r2
   rw [wT]
   exact ⟨SeqAt.RcAt.bool_bool _ _,SeqAt.EqAt.bool_bool _ _,SeqAt.RcNeAt.bool_bool _ _⟩
  | int b =>
   obtain ⟨t',rfl⟩:=r2
   rw [uw,← Bool.beq_eq_decide_eq]
   exact ⟨SeqAt.RcAt.bool_int _ _ _,SeqAt.EqAt.bool_int _ _ _,SeqAt.RcNeAt.bool_int _ _ _⟩
  | str b =>
   obtain ⟨t',rfl⟩:=r2
   rw [ux]
   exact ⟨SeqAt.RcAt.bool_str _ _ _,SeqAt.EqAt.bool_str _ _ _,SeqAt.RcNeAt.bool_str _ _ _⟩
  | ty=>simp [ai] at p2
  | dk=>simp [ai] at p2
  | dt=>simp [ai] at p2
  | tup=>simp [ai] at p2
  | lst=>simp [ai] at p2
 | int a =>
  obtain ⟨t,rfl⟩:=r1
  cases i2 with
  | non =>
   cases r2
   rw [rT]
   exact ⟨SeqAt.RcAt.int_none _ _,SeqAt.EqAt.int_none _ _,SeqAt.RcNeAt.int_none _ _⟩
  | bl b =>
   cases r2
   rw [uy,← Bool.beq_eq_decide_eq]
   exact ⟨SeqAt.RcAt.int_bool _ _ _,SeqAt.EqAt.int_bool _ _ _,SeqAt.RcNeAt.int_bool _ _ _⟩
  | int b =>
   obtain ⟨t',rfl⟩:=r2
   rw [rV,← Bool.beq_eq_decide_eq]
   exact ⟨SeqAt.RcAt.int_int _ _ _ _,SeqAt.EqAt.int_int _ _ _ _,SeqAt.RcNeAt.int_int _ _ _ _⟩
  | str b =>
   obtain ⟨t',rfl⟩:=r2
   rw [rW]
   exact ⟨SeqAt.RcAt.int_str _ _ _ _,SeqAt.EqAt.int_str _ _ _ _,SeqAt.RcNeAt.int_str _ _ _ _⟩
  | ty=>simp [ai] at p2
  | dk=>simp [ai] at p2
  | dt=>simp [ai] at p2
  | tup=>simp [ai] at p2
  | lst=>simp [ai] at p2
 | str a =>
  obtain ⟨t,rfl⟩:=r1
  cases i2 with
  | non =>
   cases r2
   rw [rX]
   exact ⟨SeqAt.RcAt.str_none _ _,SeqAt.EqAt.str_none _ _,SeqAt.RcNeAt.str_none _ _⟩
  | bl b =>
   cases r2
   rw [uz]
   exact ⟨SeqAt.RcAt.str_bool _ _ _,SeqAt.EqAt.str_bool _ _ _,SeqAt.RcNeAt.str_bool _ _ _⟩
  | int b =>
   obtain ⟨t',rfl⟩:=r2
   rw [rY]
   exact ⟨SeqAt.RcAt.str_int _ _ _ _,SeqAt.EqAt.str_int _ _ _ _,SeqAt.RcNeAt.str_int _ _ _ _⟩
  | str b =>
   obtain ⟨t',rfl⟩:=r2
   rw [kN,← Bool.beq_eq_decide_eq]
   exact ⟨SeqAt.RcAt.str_str _ _ _ _,SeqAt.EqAt.str_str _ _ _ _,SeqAt.RcNeAt.str_str _ _ _ _⟩
  | ty=>simp [ai] at p2
  | dk=>simp [ai] at p2
  | dt=>simp [ai] at p2
  | tup=>simp [ai] at p2
  | lst=>simp [ai] at p2
 | ty=>simp [ai] at p1
 | dk=>simp [ai] at p1
 | dt=>simp [ai] at p1
 | tup=>simp [ai] at p1
 | lst=>simp [ai] at p1
theorem B4 (I : Inv X pins σ H s) : ∀ (n : Nat) {A : Around} {v1 v2 : V} {d1 d2 : D} {u1 u2 : Value},A.units + n < cLine->ai n d1 = true->ai n d2 = true->Is X.K H v1 d1->Is X.K H v2 d2->aN v1 u1->aN v2 u2->Tri A s u1 u2 (eqD d1 d2):=by
 intro n
 induction n with
 | zero=>exact fun _ p1 p2 i1 i2 r1 r2=>b7 p1 p2 i1 i2 r1 r2
 | succ n ih =>
  intro A v1 v2 d1 d2 u1 u2 hu p1 p2 i1 i2 r1 r2
  have hu0 : A.units < cLine:=by omega
  have ih' : ∀ {v1 v2 : V} {d1 d2 : D} {u1 u2 : Value},ai n d1 = true->ai n d2 = true->Is X.K H v1 d1->Is X.K H v2 d2->aN v1 u1->aN v2 u2->SeqAt.EqAt A.in1 s u1 u2 (eqD d1 d2):=fun p1 p2 i1 i2 r1 r2=>(ih (A:=A.in1) (by show A.units + 1 + n < cLine; omega) p1 p2 i1 i2 r1 r2).2.1
  cases i1 with
  | tup h1 k1 =>
   cases r1
   obtain ⟨its,rv1,t1,z1⟩:=I.tuple h1
   have t1' : s.heap.IsTuple _ its.toArray:=t1
   have q1:=p1
   simp only [ai] at q1
   cases i2 with
   | tup h2 k2 =>
    cases r2
    obtain ⟨jts,rv2,t2,z2⟩:=I.tuple h2
    have t2' : s.heap.IsTuple _ jts.toArray:=t2
    have q2:=p2
    simp only [ai] at q2
    rename_i a1 vs ds a2 ws es
    have he:=sf (A:=A.in1) (p:=ai n) ih' k1 k2 rv1 rv2 q1 q2
    have eqv : ((List.range (min its.toArray.size jts.toArray.size)).all (fun j=>eqD (ds.getD j .non) (es.getD j .non)) && its.toArray.size == jts.toArray.size) = eqD (.tup ds) (.tup es):=by
     rw [eqD,List.size_toArray,List.size_toArray,← rv1.length,← rv2.length,k1.length,k2.length]
     by_cases hl : ds.length = es.length
     ·rw [← hl,Nat.min_self,beq_self_eq_true,Bool.and_true]
      exact iX _ hl fun j x y e1 e2=>vF j x y e1 e2
     ·rw [vB hl,beq_eq_false_iff_ne.mpr hl,Bool.and_false]
    have rc:=SeqAt.RcAt.tuples t1' t2' hu0 he
    have rn:=SeqAt.RcNeAt.tuples t1' t2' hu0 he
    rw [eqv] at rc rn
    refine ⟨rc, ?_,rn⟩
    by_cases ha : a1 = a2
    ·subst ha
     rw [vE I (n + 1) (.tup h1 k1) (.tup h2 k2) p1]
     exact SeqAt.EqAt.same _
    ·exact SeqAt.EqAt.of_refs ha rc
   | lst h2 k2 =>
    cases r2
    obtain ⟨jts,rv2,t2,z2⟩:=I.list h2
    rw [show eqD (.tup _) (.lst _) = false by simp only [eqD]]
    exact ⟨SeqAt.RcAt.tuple_list t1' t2.isList hu0,SeqAt.EqAt.tuple_list t1' t2.isList hu0,SeqAt.RcNeAt.tuple_list t1' t2.isList hu0⟩
   | ty=>simp [ai] at p2
   | dk=>simp [ai] at p2
   | dt=>simp [ai] at p2
   | non=>cases r2; simp only [eqD]; exact ⟨SeqAt.RcAt.tuple_none t1' hu0,SeqAt.EqAt.tuple_none t1' hu0,SeqAt.RcNeAt.tuple_none t1' hu0⟩
   | bl=>cases r2; simp only [eqD]; exact ⟨SeqAt.RcAt.tuple_bool _ t1' hu0,SeqAt.EqAt.tuple_bool _ t1' hu0,SeqAt.RcNeAt.tuple_bool _ t1' hu0⟩
   | int=>obtain ⟨t,rfl⟩:=r2; simp only [eqD]; exact ⟨SeqAt.RcAt.tuple_int _ _ t1' hu0,SeqAt.EqAt.tuple_int _ _ t1' hu0,SeqAt.RcNeAt.tuple_int _ _ t1' hu0⟩
   | str=>obtain ⟨t,rfl⟩:=r2; simp only [eqD]; exact ⟨SeqAt.RcAt.tuple_str _ _ t1' hu0,SeqAt.EqAt.tuple_str _ _ t1' hu0,SeqAt.RcNeAt.tuple_str _ _ t1' hu0⟩
  | lst h1 k1 =>
   cases r1
   obtain ⟨its,rv1,t1,z1⟩:=I.list h1
   have t1' : s.heap.IsList _ its.toArray:=t1.isList
   have q1:=p1
   simp only [ai] at q1
   cases i2 with
   | lst h2 k2 =>
    cases r2
    obtain ⟨jts,rv2,t2,z2⟩:=I.list h2
    have t2' : s.heap.IsList _ jts.toArray:=t2.isList
    have q2:=p2
    simp only [ai] at q2
    rename_i a1 vs ds a2 ws es
    have he:=sf (A:=A.in1) (p:=ai n) ih' k1 k2 rv1 rv2 q1 q2
    have both : SeqAt.RcAt A s (.ref a1) (.ref a2) (eqD (.lst ds) (.lst es))/\SeqAt.RcNeAt A s (.ref a1) (.ref a2) (!eqD (.lst ds) (.lst es)):=by
     by_cases hl : ds.length = es.length
     ·have hs : its.toArray.size = jts.toArray.size:=by rw [List.size_toArray,List.size_toArray,← rv1.length,← rv2.length,k1.length,k2.length]; exact hl
      have eqv : (List.range its.toArray.size).all (fun j=>eqD (ds.getD j .non) (es.getD j .non)) = eqD (.lst ds) (.lst es):=by
       rw [eqD,List.size_toArray,← rv1.length,k1.length]
       exact iX _ hl fun j x y e1 e2=>vF j x y e1 e2
      have rc:=SeqAt.RcAt.lists t1' t2' hs hu0 he
      have rn:=SeqAt.RcNeAt.lists t1' t2' hs hu0 he
      rw [eqv] at rc rn
      exact ⟨rc,rn⟩
     ·have hs : (its.toArray.size != jts.toArray.size) = true:=by rw [List.size_toArray,List.size_toArray,← rv1.length,← rv2.length,k1.length,k2.length]; exact bne_iff_ne.mpr hl
      rw [eqD,vB hl]
      exact ⟨SeqAt.RcAt.lists_lengths t1' t2' hs hu0,SeqAt.RcNeAt.lists_lengths t1' t2' hs hu0⟩
    refine ⟨both.1, ?_,both.2⟩
    by_cases ha : a1 = a2
    ·subst ha
     rw [vE I (n + 1) (.lst h1 k1) (.lst h2 k2) p1]
     exact SeqAt.EqAt.same _
    ·exact SeqAt.EqAt.of_refs ha both.1
   | tup h2 k2 =>
    cases r2
    obtain ⟨jts,rv2,t2,z2⟩:=I.tuple h2
    have t2' : s.heap.IsTuple _ jts.toArray:=t2
    rw [show eqD (.lst _) (.tup _) = false by simp only [eqD]]
    exact ⟨SeqAt.RcAt.list_tuple t1' t2' hu0,SeqAt.EqAt.list_tuple t1' t2' hu0,SeqAt.RcNeAt.list_tuple t1' t2' hu0⟩
   | ty=>simp [ai] at p2
   | dk=>simp [ai] at p2
   | dt=>simp [ai] at p2
   | non=>cases r2; simp only [eqD]; exact ⟨SeqAt.RcAt.list_none t1' hu0,SeqAt.EqAt.list_none t1' hu0,SeqAt.RcNeAt.list_none t1' hu0⟩
   | bl=>cases r2; simp only [eqD]; exact ⟨SeqAt.RcAt.list_bool _ t1' hu0,SeqAt.EqAt.list_bool _ t1' hu0,SeqAt.RcNeAt.list_bool _ t1' hu0⟩
   | int=>obtain ⟨t,rfl⟩:=r2; simp only [eqD]; exact ⟨SeqAt.RcAt.list_int _ _ t1' hu0,SeqAt.EqAt.list_int _ _ t1' hu0,SeqAt.RcNeAt.list_int _ _ t1' hu0⟩
   | str=>obtain ⟨t,rfl⟩:=r2; simp only [eqD]; exact ⟨SeqAt.RcAt.list_str _ _ t1' hu0,SeqAt.EqAt.list_str _ _ t1' hu0,SeqAt.RcNeAt.list_str _ _ t1' hu0⟩
  | ty=>simp [ai] at p1
  | dk=>simp [ai] at p1
  | dt=>simp [ai] at p1
  | non =>
   cases i2 with
   | tup h2 k2=>cases r1; cases r2; obtain ⟨jts,rv2,t2,z2⟩:=I.tuple h2; have t2' : s.heap.IsTuple _ jts.toArray:=t2; simp only [eqD]; exact ⟨SeqAt.RcAt.none_tuple t2' hu0,SeqAt.EqAt.none_tuple t2' hu0,SeqAt.RcNeAt.none_tuple t2' hu0⟩
   | lst h2 k2=>cases r1; cases r2; obtain ⟨jts,rv2,t2,z2⟩:=I.list h2; simp only [eqD]; exact ⟨SeqAt.RcAt.none_list t2.isList hu0,SeqAt.EqAt.none_list t2.isList hu0,SeqAt.RcNeAt.none_list t2.isList hu0⟩
   | ty=>simp [ai] at p2
   | dk=>simp [ai] at p2
   | dt=>simp [ai] at p2
   | non=>exact b7 (X:=X) (H:=H) (by simp [ai]) (by simp [ai]) .non .non r1 r2
   | bl x=>exact b7 (X:=X) (H:=H) (by simp [ai]) (by simp [ai]) .non (.bl x) r1 r2
   | int x=>exact b7 (X:=X) (H:=H) (by simp [ai]) (by simp [ai]) .non (.int x) r1 r2
   | str x=>exact b7 (X:=X) (H:=H) (by simp [ai]) (by simp [ai]) .non (.str x) r1 r2
  | bl y =>
   cases i2 with
   | tup h2 k2=>cases r1; cases r2; obtain ⟨jts,rv2,t2,z2⟩:=I.tuple h2; have t2' : s.heap.IsTuple _ jts.toArray:=t2; simp only [eqD]; exact ⟨SeqAt.RcAt.bool_tuple _ t2' hu0,SeqAt.EqAt.bool_tuple _ t2' hu0,SeqAt.RcNeAt.bool_tuple _ t2' hu0⟩
   | lst h2 k2=>cases r1; cases r2; obtain ⟨jts,rv2,t2,z2⟩:=I.list h2; simp only [eqD]; exact ⟨SeqAt.RcAt.bool_list _ t2.isList hu0,SeqAt.EqAt.bool_list _ t2.isList hu0,SeqAt.RcNeAt.bool_list _ t2.isList hu0⟩
   | ty=>simp [ai] at p2
   | dk=>simp [ai] at p2
   | dt=>simp [ai] at p2
   | non=>exact b7 (X:=X) (H:=H) (by simp [ai]) (by simp [ai]) (.bl y) .non r1 r2
   | bl x=>exact b7 (X:=X) (H:=H) (by simp [ai]) (by simp [ai]) (.bl y) (.bl x) r1 r2
   | int x=>exact b7 (X:=X) (H:=H) (by simp [ai]) (by simp [ai]) (.bl y) (.int x) r1 r2
   | str x=>exact b7 (X:=X) (H:=H) (by simp [ai]) (by simp [ai]) (.bl y) (.str x) r1 r2
  | int y =>
   cases i2 with
   | tup h2 k2=>obtain ⟨t,rfl⟩:=r1; cases r2; obtain ⟨jts,rv2,t2,z2⟩:=I.tuple h2; have t2' : s.heap.IsTuple _ jts.toArray:=t2; simp only [eqD]; exact ⟨SeqAt.RcAt.int_tuple _ _ t2' hu0,SeqAt.EqAt.int_tuple _ _ t2' hu0,SeqAt.RcNeAt.int_tuple _ _ t2' hu0⟩
   | lst h2 k2=>obtain ⟨t,rfl⟩:=r1; cases r2; obtain ⟨jts,rv2,t2,z2⟩:=I.list h2; simp only [eqD]; exact ⟨SeqAt.RcAt.int_list _ _ t2.isList hu0,SeqAt.EqAt.int_list _ _ t2.isList hu0,SeqAt.RcNeAt.int_list _ _ t2.isList hu0⟩
   | ty=>simp [ai] at p2
   | dk=>simp [ai] at p2
   | dt=>simp [ai] at p2
   | non=>exact b7 (X:=X) (H:=H) (by simp [ai]) (by simp [ai]) (.int y) .non r1 r2
   | bl x=>exact b7 (X:=X) (H:=H) (by simp [ai]) (by simp [ai]) (.int y) (.bl x) r1 r2
   | int x=>exact b7 (X:=X) (H:=H) (by simp [ai]) (by simp [ai]) (.int y) (.int x) r1 r2
   | str x=>exact b7 (X:=X) (H:=H) (by simp [ai]) (by simp [ai]) (.int y) (.str x) r1 r2
  | str y =>
   cases i2 with
   | tup h2 k2=>obtain ⟨t,rfl⟩:=r1; cases r2; obtain ⟨jts,rv2,t2,z2⟩:=I.tuple h2; have t2' : s.heap.IsTuple _ jts.toArray:=t2; simp only [eqD]; exact ⟨SeqAt.RcAt.str_tuple _ _ t2' hu0,SeqAt.EqAt.str_tuple _ _ t2' hu0,SeqAt.RcNeAt.str_tuple _ _ t2' hu0⟩
   | lst h2 k2=>obtain ⟨t,rfl⟩:=r1; cases r2; obtain ⟨jts,rv2,t2,z2⟩:=I.list h2; simp only [eqD]; exact ⟨SeqAt.RcAt.str_list _ _ t2.isList hu0,SeqAt.EqAt.str_list _ _ t2.isList hu0,SeqAt.RcNeAt.str_list _ _ t2.isList hu0⟩
   | ty=>simp [ai] at p2
   | dk=>simp [ai] at p2
   | dt=>simp [ai] at p2
   | non=>exact b7 (X:=X) (H:=H) (by simp [ai]) (by simp [ai]) (.str y) .non r1 r2
   | bl x=>exact b7 (X:=X) (H:=H) (by simp [ai]) (by simp [ai]) (.str y) (.bl x) r1 r2
   | int x=>exact b7 (X:=X) (H:=H) (by simp [ai]) (by simp [ai]) (.str y) (.int x) r1 r2
   | str x=>exact b7 (X:=X) (H:=H) (by simp [ai]) (by simp [ai]) (.str y) (.str x) r1 r2
@[simp] def dEq : D->D->Option (D × Bool):=fun x y=>if ai 40 x = true/\ai 40 y = true then some (.bl (eqD x y),false) else none
@[simp] def dNe : D->D->Option (D × Bool):=fun x y=>if ai 40 x = true/\ai 40 y = true then some (.bl (!eqD x y),false) else none
theorem dr (hu : X.A.units + 40 < cLine) : OpR X (compareOp .Eq) (rD X.K dEq):=by
 intro pins s σ H x y v u Q I rx ry q
 obtain ⟨B,dx,dy,d,b,sB,ix,iy,e,q⟩:=q
 unfold dEq at e
 split at e
 ·rename_i hp
  cases e
  exact (B4 I 40 hu hp.1 hp.2 (ix.mono sB) (iy.mono sB) rx ry).1 _ _ _ _ ⟨.bl _,H,I,rfl,q.one sB (.bl _)⟩
 ·cases e
theorem y7 (hu : X.A.units + 40 < cLine) : OpR X (compareOp .NotEq) (rD X.K dNe):=by
 intro pins s σ H x y v u Q I rx ry q
 obtain ⟨B,dx,dy,d,b,sB,ix,iy,e,q⟩:=q
 unfold dNe at e
 split at e
 ·rename_i hp
  cases e
  exact (B4 I 40 hu hp.1 hp.2 (ix.mono sB) (iy.mono sB) rx ry).2.2 _ _ _ _ ⟨.bl _,H,I,rfl,q.one sB (.bl _)⟩
 ·cases e
end
section
variable {X : Cx} {a b e : Expr} {pos : Pos}
theorem vG {K : PySem.W.Frag} {H : Hp} {vs : List V} {ds : List D} {i : Int} {d : D} (h : IsL K H vs ds) (e : atI ds i = some d) : ∃ v,atI vs i = some v/\Is K H v d:=by
 unfold atI at e ⊢
 rw [h.length]
 cases q : ixN ds.length i with
 | none=>rw [q] at e; cases e
 | some j=>rw [q] at e; exact h.get e
@[simp] def ixD : D->D->Option (D × Bool)
 | .lst ds,.int i=>(atI ds i).map fun d=>(d,false)
 | .tup ds,.int i=>(atI ds i).map fun d=>(d,false)
 | .str z,.int i=>if z.length<=sizeLine then (atI z.cps.toList i).map fun c=>(.str ⟨#[c]⟩,false) else none
 | _,_=>none
theorem ER : IxR X (rD X.K ixD):=by
 intro value slice pins s σ H x y v u Q I rx ry q hs
 obtain ⟨B,dx,dy,d,b,sB,ix,iy,e,q⟩:=q
 cases ix <;> cases iy <;> try (simp [ixD] at e; done)
 ·simp only [ixD] at e
  split at e
  ·rename_i hz
   obtain ⟨c,e1,e2⟩:=oY e
   cases e2
   exact um value slice pins s σ H _ _ v u Q I rx ry ⟨_,_,c,rfl,rfl,hz,e1,q.one sB (.str _)⟩ hs
  ·cases e
 ·rename_i h hl i
  simp only [ixD] at e
  obtain ⟨c,e1,e2⟩:=oY e
  cases e2
  obtain ⟨w,h1,h2⟩:=vG hl e1
  exact yg value slice pins s σ H _ _ v u Q I rx ry ⟨_,_,_,w,rfl,rfl,aX sB h,h1,q.one sB h2⟩ hs
 ·rename_i h hl i
  simp only [ixD] at e
  obtain ⟨c,e1,e2⟩:=oY e
  cases e2
  obtain ⟨w,h1,h2⟩:=vG hl e1
  exact Ae value slice pins s σ H _ _ v u Q I rx ry ⟨_,_,_,w,rfl,rfl,sB.seq h,h1,q.one sB h2⟩ hs
theorem aC {fa fb : FE} (ha : JE X a fa) (hb : JE X b fb) (hs : lD b:=by intro _ _; rfl) : JE X (.Subscript a b pos) (f2 ixD fa fb):=PE.to (Bd ER ha hb hs) fun _ _ _ h=>Ah h
abbrev FO:=Env->Option (Option Int)
def tDO (K : PySem.W.Frag) (f : FO) : TO:=fun σ H Q=>∃ (B : Hp) (ρ : Env) (o : Option Int),aJ B H/\RepE K B σ ρ/\f ρ = some o/\∀ H',aJ H H'->Q o H'
abbrev JO (X : Cx) (e : Option Expr) (f : FO) : Prop:=PO X e (tDO X.K f)
@[simp] def gv : FO:=fun _=>some none
@[simp] def dD (f : FE) : FO:=fun ρ=>match f ρ with | some (.int i,_)=>some (some i) | _=>none
theorem gb : JO X none gv:=fun pins s σ H Q I h=>zZ pins s σ H Q I (by
 obtain ⟨B,ρ,o,sB,r,e,q⟩:=h
 cases e
 exact q H (.refl H))
theorem dR {f : FE} (h : JE X e f) : JO X (some e) (dD f):=fun pins s σ H Q I q=>Aa h pins s σ H Q I (by
 obtain ⟨B,ρ,o,sB,r,e,q⟩:=q
 unfold dD at e
 split at e
 ·rename_i i b' ef
  cases e
  refine ⟨B,ρ,_,_,sB,r,ef,fun v H1 N1 x1 i1 _=>?_⟩
  cases i1
  exact ⟨i,rfl,q H1 x1.hh⟩
 ·cases e)
def kh (ds : List D) (lo hi : Option Int) : List D:=(ds.drop (HT.sIx ds.length 0 lo)).take (HT.sIx ds.length ds.length hi - HT.sIx ds.length 0 lo)
theorem ql {K : PySem.W.Frag} {H : Hp} {vs : List V} {ds : List D} {lo hi : Option Int} (h : IsL K H vs ds) : IsL K H (oe vs lo hi) (kh ds lo hi):=by
 unfold oe kh
 rw [h.length]
 exact (h.drop _).take _
@[simp] def Fu (fa : FE) (fl fh : FO) : FE:=fun ρ=>(fa ρ).bind fun x=>(fl ρ).bind fun l=>(fh ρ).bind fun h=>match x.1 with
 | .lst ds=>some (.lst (kh ds l h),true)
 | .tup ds=>if HT.sIx ds.length 0 l = 0/\HT.sIx ds.length ds.length h = ds.length then none else some (.tup (kh ds l h),false)
 | _=>none
theorem bR.to {f : Value} {r r' : List V->Hp->VK->Prop} (h : bR X f r) (k : ∀ xs H Q,r' xs H Q->r xs H Q) : bR X f r':=fun pins s σ H xs us Q I rs q=>h pins s σ H xs us Q I rs (k xs H Q q)
variable {es : List Expr} {x : Str} {p : Pos} {id T : String}
theorem bF {f : List D->Option (D × Bool)} {fa : FA} (hc : bR X (.builtin id) (rDA X.K f)) (hm : X.mg x = none) (hv : bootBuiltins x = some (.builtin id)) (ha : JA X (e :: es) fa) (hg : Gl X x:=by rfl) (hn : x ≠ "__name__":=by decide) (hdb : (x == ("__debug__" : Str)) = false:=by decide)
  (he : starEach (e :: es) X.env = (false,eval e X.env) :: starEach es X.env:=by rfl) (hpl : (backTo pos (starEach es X.env)).any (·.1) = false:=by rfl) : JE X (.Call (.Name x p) (e :: es) [] pos) (fA f fa):=PE.to (rK hc hg hm hv ha hn hdb he hpl) fun _ _ _ h=>Ai h
theorem f7 {f : List D->Option (D × Bool)} {fa : FA} (hc : bR X (.type T) (rDA X.K f)) (hm : X.mg x = none) (hv : bootBuiltins x = some (.type T)) (ha : JA X (e :: es) fa) (hg : Gl X x:=by rfl) (hn : x ≠ "__name__":=by decide) (hdb : (x == ("__debug__" : Str)) = false:=by decide)
  (he : starEach (e :: es) X.env = (false,eval e X.env) :: starEach es X.env:=by rfl) (hpl : (backTo pos (starEach es X.env)).any (·.1) = false:=by rfl) : JE X (.Call (.Name x p) (e :: es) [] pos) (fA f fa):=PE.to (oB hc hg hm hv ha hn hdb he hpl) fun _ _ _ h=>Ai h
@[simp] def dE : List D->Option (D × Bool)
 | [.lst ds]=>some (.int ds.length,false)
 | [.tup ds]=>some (.int ds.length,false)
 | [.str z]=>if z.length<=sizeLine then some (.int z.length,false) else none
 | _=>none
theorem eK : bR X (.builtin "len") (rDA X.K dE):=by
 refine bR.to (bR.or pV pW) fun xs H Q q=>?_
 obtain ⟨B,ds,d,b,sB,i,e,q⟩:=q
 cases i with
 | nil=>simp [dE] at e
 | cons i1 i2 =>
  cases i2 with
  | cons _ _=>cases i1 <;> simp [dE] at e
  | nil =>
   cases i1 <;> try (simp [dE] at e; done)
   ·simp only [dE] at e
    split at e
    ·rename_i hz
     cases e
     exact .inr ⟨_,rfl,hz,q.one sB (.int _)⟩
    ·cases e
   ·rename_i h hl
    simp only [dE] at e
    cases e
    refine .inl ⟨_,_,rfl,.inr (aX sB h), ?_⟩
    rw [hl.length]; exact q.one sB (.int _)
   ·rename_i h hl
    simp only [dE] at e
    cases e
    refine .inl ⟨_,_,rfl,.inl (sB.seq h), ?_⟩
    rw [hl.length]; exact q.one sB (.int _)
end
theorem bS {A : Around} {k : Nat} (hr : Room k A) : A.units + 40 < cLine:=by have:=hr.un; omega
section
variable {X : Cx} {a b e : Expr} {pos : Pos} {x : Str} {p : Pos}
theorem y8 {d : D} (h : ∃ u v,X.mg x = some u/\aN v u/\∀ B,Is X.K B v d) (hg : Gl X x:=by rfl) (hd : (x == ("__debug__" : Str)) = false:=by decide) : JE X (.Name x pos) (fC d):=by
 obtain ⟨u,v,hm,r,i⟩:=h
 exact Ap hg hm r i hd
@[simp] def vH : D->D->Option (D × Bool)
 | .int i,.int j=>some (.int (i + j),false)
 | .str i,.str j=>if i.length + j.length<=sizeLine then some (.str (i ++ j),false) else none
 | _,_=>none
theorem As : OpR X (binaryOp .Add) (rD X.K vH):=by
 refine ga (r:=rD X.K (orD Cz y4)) (lV DZ C1) fun x y H Q q=>?_
 obtain ⟨B,dx,dy,d,b,sB,ix,iy,e,q⟩:=q
 refine ⟨B,dx,dy,d,b,sB,ix,iy, ?_,q⟩
 cases dx <;> cases dy <;> simp [vH] at e <;> simp [orD,Cz,y4,iop,sop,e]
@[simp] def Au : D->D->Option (D × Bool):=DY
theorem u0 : OpR X (binaryOp .Mult) (rD X.K Au):=Eb
@[simp] def dLt : D->D->Option (D × Bool):=iLt
theorem sg : OpR X (compareOp .Lt) (rD X.K dLt):=EO
@[simp] def dLe : D->D->Option (D × Bool)
 | .int i,.int j=>some (.bl (decide (i<=j)),false)
 | .str i,.str j=>some (.bl (!decide (j.cps.toList < i.cps.toList)),false)
 | _,_=>none
theorem lW : OpR X (compareOp .LtE) (rD X.K dLe):=by
 refine ga (r:=rD X.K (orD iLe sLe)) (lV EQ Ec) fun x y H Q q=>?_
 obtain ⟨B,dx,dy,d,b,sB,ix,iy,e,q⟩:=q
 refine ⟨B,dx,dy,d,b,sB,ix,iy, ?_,q⟩
 cases dx <;> cases dy <;> simp [dLe] at e <;> simp [orD,iLe,sLe,iop,sop,e]
@[simp] def Av : D->Option (D × Bool)
 | .int i=>some (.int (-i),false)
 | _=>none
theorem Ef : UnR X (unaryOp .USub) (rDU X.K Av):=by
 intro pins s σ H x v Q I rx q
 obtain ⟨B,dx,d,b,sB,ix,e,q⟩:=q
 cases ix <;> try (simp [Av] at e; done)
 simp only [Av] at e
 cases e
 exact Ch pins s σ H _ v Q I rx ⟨_,rfl,q.one sB (.int _)⟩
@[simp] def wU : D->D->Option Bool
 | .non,.non=>some true
 | _,.non=>some false
 | .bl a,.bl b=>some (a == b)
 | _,.bl _=>some false
 | _,_=>none
@[simp] def dIs : D->D->Option (D × Bool):=fun x y=>(wU x y).map fun b=>(.bl b,false)
@[simp] def gG : D->D->Option (D × Bool):=fun x y=>(wU x y).map fun b=>(.bl (!b),false)
theorem vI {K : PySem.W.Frag} {B : Hp} {x y : V} {v u : Value} {dx dy : D} {k : Bool} (ix : Is K B x dx) (iy : Is K B y dy) (rx : aN x v) (ry : aN y u) (e : wU dx dy = some k) : plainIs v u = true/\(v == u) = k:=by
 cases iy <;> (first | (cases dx <;> simp [wU] at e; done) | skip)
 all_goals (cases ix)
 all_goals (first | (obtain ⟨t,rfl⟩:=rx) | cases rx)
 all_goals (cases ry)
 all_goals (simp only [wU,Option.some.injEq] at e; subst e)
 all_goals (first | exact ⟨rfl,rfl⟩ | skip)
 all_goals (rename_i c d; cases c <;> cases d <;> exact ⟨rfl,rfl⟩)
theorem CB : OpR X (compareOp .Is) (rD X.K dIs):=by
 intro pins s σ H x y v u Q I rx ry q
 obtain ⟨B,dx,dy,d,b,sB,ix,iy,e,q⟩:=q
 obtain ⟨k,ek,e⟩:=oY e
 cases e
 obtain ⟨h1,h2⟩:=vI ix iy rx ry ek
 refine wpAny_is_plain h1 ⟨.bl k,H,I,by rw [h2]; rfl,q.one sB (.bl _)⟩
theorem qm : OpR X (compareOp .IsNot) (rD X.K gG):=by
 intro pins s σ H x y v u Q I rx ry q
 obtain ⟨B,dx,dy,d,b,sB,ix,iy,e,q⟩:=q
 obtain ⟨k,ek,e⟩:=oY e
 cases e
 obtain ⟨h1,h2⟩:=vI ix iy rx ry ek
 refine wpAny_isNot_plain h1 ⟨.bl (!k),H,I,by rw [h2]; rfl,q.one sB (.bl _)⟩
@[simp] def dQ : D->Bool
 | .non=>true | .bl _=>true | .int _=>true | .str _=>true
 | _=>false
def inD (x : D) (ds : List D) : Bool:=ds.any fun y=>eqD y x
@[simp] def eM : D->Option (List D)
 | .lst ds=>some ds
 | .tup ds=>some ds
 | _=>none
@[simp] def dIn : D->D->Option (D × Bool):=fun x y=>(eM y).bind fun ds=>if dQ x = true/\ds.all dQ = true then some (.bl (inD x ds),false) else none
@[simp] def d5 : D->D->Option (D × Bool):=fun x y=>(eM y).bind fun ds=>if dQ x = true/\ds.all dQ = true then some (.bl (!inD x ds),false) else none
theorem lX {K : PySem.W.Frag} {B : Hp} {v : V} {d : D} (i : Is K B v d) (h : dQ d = true) : iK v = true:=by
 cases i <;> first | rfl | (simp [dQ] at h)
theorem ES {K : PySem.W.Frag} {B : Hp} {v w : V} {d e : D} (i : Is K B v d) (j : Is K B w e) (h : dQ d = true) (h' : dQ e = true) : eqV v w = eqD d e:=by
 cases i <;> (first | (simp [dQ] at h; done) | skip)
 all_goals (cases j <;> (first | (simp [dQ] at h'; done) | skip))
 all_goals (simp only [eqV,eqD,Bool.beq_eq_decide_eq])
theorem si {K : PySem.W.Frag} {B : Hp} : ∀ {vs : List V} {ds : List D},IsL K B vs ds->ds.all dQ = true->vs.all iK = true
 | _,_,.nil,_=>rfl
 | _,_,.cons i t,h=>by
  rw [List.all_cons,Bool.and_eq_true] at h
  rw [List.all_cons,lX i h.1,si t h.2]; rfl
theorem y9 {K : PySem.W.Frag} {B : Hp} {v : V} {d : D} (j : Is K B v d) (hd : dQ d = true) : ∀ {vs : List V} {ds : List D},IsL K B vs ds->ds.all dQ = true->inV v vs = inD d ds
 | _,_,.nil,_=>rfl
 | _,_,.cons i t,h=>by
  rw [List.all_cons,Bool.and_eq_true] at h
  have e:=y9 j hd t h.2
  unfold inV inD at *
  rw [List.any_cons,List.any_cons,e,ES i j h.1 hd]
theorem B5 : OpR X (compareOp .In) (rD X.K dIn):=by
 refine ga wL fun x y H Q q=>?_
 obtain ⟨B,dx,dy,d,b,sB,ix,iy,e,q⟩:=q
 obtain ⟨ds,es,e⟩:=oX e
 split at e
 ·rename_i hf
  cases e
  cases iy <;> simp only [eM] at es <;> try (cases es; done)
  ·rename_i h hl
   cases es
   exact ⟨_,_,rfl,.inr (aX sB h),lX ix hf.1,si hl hf.2,by rw [if_neg (by decide),y9 ix hf.1 hl hf.2]; exact q.one sB (.bl _)⟩
  ·rename_i h hl
   cases es
   exact ⟨_,_,rfl,.inl (sB.seq h),lX ix hf.1,si hl hf.2,by rw [if_neg (by decide),y9 ix hf.1 hl hf.2]; exact q.one sB (.bl _)⟩
 ·cases e
theorem j6 : OpR X (compareOp .NotIn) (rD X.K d5):=by
 refine ga pU fun x y H Q q=>?_
 obtain ⟨B,dx,dy,d,b,sB,ix,iy,e,q⟩:=q
 obtain ⟨ds,es,e⟩:=oX e
 split at e
 ·rename_i hf
  cases e
  cases iy <;> simp only [eM] at es <;> try (cases es; done)
  ·rename_i h hl
   cases es
   exact ⟨_,_,rfl,.inr (aX sB h),lX ix hf.1,si hl hf.2,by rw [if_pos rfl,y9 ix hf.1 hl hf.2]; exact q.one sB (.bl _)⟩
  ·rename_i h hl
   cases es
   exact ⟨_,_,rfl,.inl (sB.seq h),lX ix hf.1,si hl hf.2,by rw [if_pos rfl,y9 ix hf.1 hl hf.2]; exact q.one sB (.bl _)⟩
 ·cases e
theorem eN : bootBuiltins "len" = some (.builtin "len"):=PySem.boot_len
theorem Eg : bootBuiltins "min" = some (.builtin "min"):=by decide +kernel
theorem CC : bootBuiltins "list" = some (.type "list"):=by decide +kernel
theorem qo : bootBuiltins "tuple" = some (.type "tuple"):=by decide +kernel
@[simp] def Fv : List D->Option (D × Bool)
 | [.int i,.int j]=>some (.int (if j > i then j else i),false)
 | _=>none
@[simp] def CD : List D->Option (D × Bool)
 | [.int i,.int j]=>some (.int (if j < i then j else i),false)
 | _=>none
theorem yA {K : PySem.W.Frag} {B : Hp} {xs : List V} {i j : Int} (h : IsL K B xs [.int i,.int j]) : xs = [.int i,.int j]:=by
 cases h with
 | cons h1 h2=>cases h1; cases h2 with | cons h3 h4=>cases h3; cases h4; rfl
theorem Eh (hc : X.calm = true:=by rfl) : bR X (.builtin "min") (rDA X.K CD):=by
 refine bR.to (wI hc) fun xs H Q q=>?_
 obtain ⟨B,ds,d,b,sB,i,e,q⟩:=q
 match ds,e with
 | [.int i',.int j'],e=>simp only [CD] at e; cases e; exact ⟨i',j',yA i,q.one sB (.int _)⟩
@[simp] def CF : D->String
 | .non=>"NoneType" | .bl _=>"bool" | .int _=>"int" | .str _=>"str" | .ty _=>"type" | .tup _=>"tuple" | .lst _=>"list" | .dk _ _=>"dict" | .dt _ _=>"dict"
@[simp] def Ei : D->Bool
 | .ty _=>true
 | _=>false
@[simp] def Aw (t n : String) : Option (D × Bool) :=
 if n = "int" then some (.bl (t == "int" || t == "bool"),false) else if n = "bool" then some (.bl (t == "bool"),false) else if n = "str" then some (.bl (t == "str"),false)
 else if n = "list" then some (.bl (t == "list"),false) else if n = "tuple" then some (.bl (t == "tuple"),false) else none
@[simp] def B6 : List D->Option (D × Bool)
 | [d,.ty n]=>if Ei d = true then none else Aw (CF d) n
 | _=>none
@[simp] def Fk : D->Option (D × Bool)
 | .int i=>some (.int (Builtin.Int.intBits i),false)
 | _=>none
@[simp] def yB (f : FE) : FA:=fun ρ=>(f ρ).bind fun x=>eM x.1
theorem vJ {tg : Expr} {f : FE} (h : JE X e f) : JI X tg e (yB f):=by
 intro pins s σ H R I q
 obtain ⟨B,ρ,ds,sB,r,e',q⟩:=q
 obtain ⟨x,ex,es⟩:=oX e'
 obtain ⟨xd,xb⟩:=x
 cases xd <;> simp only [eM] at es <;> try (cases es; done)
 ·cases es
  refine BY h pins s σ H R I ⟨B,ρ,_,_,sB,r,ex,fun v H1 N1 x1 i1 _=>?_⟩
  cases i1 with
  | @tup a vs _ ht hl =>
   refine ⟨a,rfl,⟨vs,aX x1.nh ht⟩,q _ H1 N1 x1 fun i H2 s2=>⟨fun d ed=>?_,fun hlen=>⟨vs,aX s2 ht,by rw [hl.length]; exact hlen⟩⟩⟩
   obtain ⟨v,ev,iv⟩:=hl.get ed
   refine ⟨⟨vs,v,aX s2 ht,ev⟩,fun y H3 hy=>?_⟩
   obtain ⟨rfl,hy⟩:=hy
   have:=hy vs (aX s2 ht)
   rw [ev] at this; cases this
   exact ⟨N1,.refl s2,iv⟩
 ·cases es
  refine zQ h pins s σ H R I ⟨B,ρ,_,_,sB,r,ex,fun v H1 N1 x1 i1 _=>?_⟩
  cases i1 with
  | @lst a vs _ ht hl =>
   refine ⟨a,rfl,⟨vs,x1.nh.seq ht⟩,q _ H1 N1 x1 fun i H2 s2=>⟨fun d ed=>?_,fun hlen=>⟨vs,s2.seq ht,by rw [hl.length]; exact hlen⟩⟩⟩
   obtain ⟨v,ev,iv⟩:=hl.get ed
   refine ⟨⟨vs,v,s2.seq ht,ev⟩,fun y H3 hy=>?_⟩
   obtain ⟨rfl,hy⟩:=hy
   have:=hy vs (s2.seq ht)
   rw [ev] at this; cases this
   exact ⟨N1,.refl s2,iv⟩
def dM (lo : Int) (n : Nat) : List D:=(List.range n).map fun (k : Nat)=>.int (lo + (k : Int))
theorem yC {K : PySem.W.Frag} {B : Hp} (lo : Int) (n : Nat) : qd K (Itr lo n) B (dM lo n):=by
 intro i H s
 unfold dM
 refine ⟨fun d ed=>?_,fun hl=>by rw [List.length_map,List.length_range] at hl; exact hl⟩
 rw [List.getElem?_map] at ed
 obtain ⟨k,ek,ed⟩:=oY ed
 have hk:=List.getElem?_eq_some_iff.mp ek
 obtain ⟨hlt,hk⟩:=hk
 rw [List.length_range] at hlt
 rw [List.getElem_range] at hk
 subst hk
 subst ed
 refine ⟨hlt,fun x H' hy=>?_⟩
 obtain ⟨rfl,rfl⟩:=hy
 exact ⟨B,.refl s,.int _⟩
@[simp] def dN (f : FE) : FA:=fun ρ=>match f ρ with
 | some (.int j,_)=>if -1000<=j/\j<=1000 then some (dM 0 j.toNat) else none
 | _=>none
theorem j7 {tg : Expr} {f : FE} (hm : X.mg "range" = none) (h : JE X a f) (hg : Gl X "range":=by rfl) (hs : starEach [a] X.env = [(false,eval a X.env)]:=by rfl) : PI X tg (.Call (.Name "range" p) [a] [] pos) (tDR X.K (dN f)):=by
 refine PI.to (wF hg hm (ab h ag hs) hs) fun σ H R q=>?_
 obtain ⟨B,ρ,ds,sB,r,e',q⟩:=q
 unfold dN at e'
 split at e'
 ·rename_i j b' ef
  split at e'
  ·rename_i hj
   cases e'
   refine ⟨B,ρ,[.int j],sB,r,by simp [ac,aj,ef],fun vs H1 N1 x1 i1=>?_⟩
   cases i1 with
   | cons i1 i2 =>
    cases i1; cases i2
    exact ⟨j,rfl,by omega,by omega,q _ H1 N1 x1 fun _=>yC 0 j.toNat⟩
  ·cases e'
 ·cases e'
theorem yD {tg : Expr} {f : FE} (hm : X.mg "range" = none) (h : JE X a f) (hg : Gl X "range":=by rfl) (hs : starEach [a] X.env = [(false,eval a X.env)]:=by rfl) : JI X tg (.Call (.Name "range" p) [a] [] pos) (dN f) :=
 PI.to (j7 hm h hg hs) fun σ H R ⟨B,ρ,ds,sB,r,e',q⟩=>⟨B,ρ,ds,sB,r,e',fun J H' N x h=>q J H' N x (h _)⟩
end
def Def (K : PySem.W.Frag) (x : Str) (st : Stmt) : Prop:=∃ (f : Addr) (fd : FuncData),Fun K x x st f fd/\PySem.W.nsIn K mainGlobals x = some (some (.ref f))
theorem def_mk {K : PySem.W.Frag} {x : Str} {st : Stmt} {f : Addr} {oc : Value} {od an : Option Addr} {osl : Array (Option Value)} {kV doc pm cdv ct : Value} (a : PySem.W.nsIn K mainGlobals x = some (some (.ref f)))
  (l : K.lookup f = some ⟨oc,od,.func (PySem.W.fnOf x x (eJ st) (cx st) (ar st) .none kV doc pm an cdv ct),osl⟩) (c : PySem.W.codeIn K cdv x = true) (k : PySem.W.keepIn K (.ref f) = true) : Def K x st:=⟨f,_,Cq l c k,a⟩
section
variable {P : Program} {w : World} {K : PySem.W.Frag} {mg : Str->Option Value} {base : Heap}
theorem Def.fn {x : Str} {st : Stmt} {N ps : List Str} {k : Nat} {g : FS} {h : Heap} (F : Def K x st) (X : K.In h) (G : h.Ns mainGlobals mg) (S : FnScope N ps (ar st))
  (hbd : ∀ (kV doc pm : Value) (an : Option Addr) (cdv ct : Value) (us : List Value),us.length = ps.length->bindArgs (PySem.W.fnOf x x (eJ st) (cx st) (ar st) .none kV doc pm an cdv ct) ⟨us,[]⟩ = pure (ps.zip us))
  (hb : ∀ (f : Addr) (cdv : Value) (A : Around) (outer : List PySem.Env) (s : Shared) (H : Hp) (E : XK),Room k (A.deeper (envOfC x (ar st) s.heap.objs.size f cdv))->JSs (lN CX0 P w K mg base N x (ar st) f cdv A outer s H E).nox (cx st) g) :
  Fn P w K mg base (k + 1) x (aV g ps.length (N.length - ps.length)):=by
 obtain ⟨f,fd,F1,a⟩:=F
 exact ⟨f,fd,ps,Ed F1 S (hb f),PySem.W.mg_of X G a,F1.kp,F1.binds hbd⟩
end
def Ej (H : Hp) : Prop:=∀ b,H b = none ∨ (∃ o xs,H b = some (.frz o (.lst xs))) ∨ ∃ q,H b = some (.tbl q)
def lY (tabs : List (Addr × Str)) (G : Hp) : Hp:=fun b=>match tabs.lookup b with | some q=>some (.tbl q) | none=>G b
theorem dF {tabs : List (Addr × Str)} {G : Hp} {b : Addr} {q : Str} (e : tabs.lookup b = some q) : lY tabs G b = some (.tbl q):=by unfold lY; rw [e]
theorem f8 {tabs : List (Addr × Str)} {G : Hp} {b : Addr} (e : tabs.lookup b = none) : lY tabs G b = G b:=by unfold lY; rw [e]
theorem wV {P : Program} {w : World} {K : PySem.W.Frag} {mg mb : Str->Option Value} {k : Nat} {fa a : Addr} {fd : FuncData} {x : Str} {sp : Sp} {s₁ : Shared} {vs : List Value} {ns : List Int} (tabs : List (Addr × Str))
  (ht : ∀ b q,tabs.lookup b = some q->s₁.heap.get? b = some (PySem.W.tabObj #[])/\isCodeTable s₁.heap b) (hnt : PySem.W.noTabs K = true)
  (KX : K.In s₁.heap) (hns : s₁.heap.Ns mainGlobals mg) (hb : s₁.heap.Ns builtinsNs mb) (hbb : ∀ x : Str,x ≠ "__name__"->mb x = bootBuiltins x) (hlim : s₁.heap.NoLimit)
  (hbm : ∃ bm ob,mg "__builtins__" = some (.ref bm)/\bm ≠ builtinsNs/\s₁.heap.get? bm = some ob/\ob.cls = .type "module"/\ob.dict = some builtinsNs/\ob.data = .plain) (hg : s₁.gens = #[])
  (ha : s₁.heap.get? a = some { cls:=.type "list",data:=.seq vs.toArray }) (hi : IntsAre vs ns) (hl : ns.length<=sizeLine) (hr : Room k callerA)
  (F : ∀ base : Heap,K.In base->base.Ns mainGlobals mg->FnOk P w K mg base CX0 k fa fd [x] sp) (hbind : ∀ (s : Shared) (u : Value),BindsTo s fd ⟨[u],[]⟩ [(x,u)])
  (hsp : ∀ H : Hp,(∀ b q,tabs.lookup b = some q->H b = some (.tbl q))->SqL K H a (ns.map V.int)->sp [.ref a] H (fun v _=>v = .bl true) fun _ _ _=>False) :
  codeAny (model P w) callerA (.call (.ref fa) ⟨[.ref a],[]⟩) (fun r s'=>r = .ok (.ret (.bool true))/\OldK s₁.heap s'.heap/\s'.os = s₁.os/\AllBare s'.gens) s₁:=by
 have rv:=L2.ie hi
 have lenV:=hi.length
 have core : ∀ H : Hp,Ej H->(∀ b q,tabs.lookup b = some q->H b = some (.tbl q))->SqL K H a (ns.map V.int)->HOk P w H s₁.heap->(∀ b q,H b = some (.tbl q)->s₁.heap.get? b = some (PySem.W.tabObj #[])/\isCodeTable s₁.heap b) ->
   (∀ b o u,H b = some (.frz o u)->b = a)->(∀ b o u,H b = some (.frz o u)->K.lookup b = none) ->
   codeAny (model P w) callerA (.call (.ref fa) ⟨[.ref a],[]⟩) (fun r s'=>r = .ok (.ret (.bool true))/\OldK s₁.heap s'.heap/\s'.os = s₁.os/\AllBare s'.gens) s₁:=by
  intro H hO hT hS hok hA hB hK
  have noA : ∀ {b : Addr} {o : Obj},s₁.heap.get? b = some o->(o.cls ≠ .none)->(o.cls ≠ .type "list")->H b = none:=fun {b o} e d d'=>by
   rcases hO b with q | ⟨ob,xs,q⟩ | ⟨u,q⟩
   ·exact q
   ·have e' : b = a:=hB b _ _ q
    subst e'
    rw [ha] at e; cases e
    exact absurd rfl d'
   ·rw [(hA b u q).1] at e; cases e
    exact absurd rfl d
  have noD : ∀ {b : Addr} {o : Obj} {es : Array DictEntry} {ep : Nat},s₁.heap.get? b = some o->o.data = .dict es ep->H b = none:=fun {b o es ep} e d=>by
   rcases hO b with q | ⟨ob,xs,q⟩ | ⟨u,q⟩
   ·exact q
   ·have e' : b = a:=hB b _ _ q
    subst e'
    rw [ha] at e; cases e
    cases d
   ·rw [(hA b u q).1] at e; cases e
    cases d
  have nsK : ∀ {b : Addr} {m : Str->Option Value},s₁.heap.Ns b m->(rC s₁.heap H).Ns b m:=fun {b m} ⟨o,es,ep,e,d,r⟩=>⟨o,es,ep,lJ e (noD e d),d,r⟩
  have hKb : K.In (rC s₁.heap H):=fun b o e=>lJ (KX b o e) (by
   rcases hO b with q | ⟨ob,xs,q⟩ | ⟨u,q⟩
   ·exact q
   ·rw [hK b _ _ q] at e; cases e
   ·have z:=(hA b u q).1
    rw [KX b o e] at z
    cases z
    have:=List.all_eq_true.mp hnt _ (PySem.W.mem_of_lookupK e)
    simp at this)
  have hM : Mod K mg (rC s₁.heap H):=⟨hKb,nsK hns,⟨mb,nsK hb,hbb⟩,let ⟨mc,h1,h2⟩:=hlim; ⟨mc,nsK h1,h2⟩,by
   obtain ⟨bm,ob,b1,b2,b3,b4,b5⟩:=hbm
   exact ⟨bm,ob,b1,b2,lJ b3 (noA b3 (by rw [b4]; exact fun z=>nomatch z) (by rw [b4]; intro z; injection z with z; exact absurd z (by decide))),b4,b5⟩⟩
  have e0 : Env0 P w K mg (rC s₁.heap H) callerA [] s₁ H:=⟨rfl,hM,fun b o e=>zJ e,Nat.le_of_eq (wD _ _),trivial,fun b hb=>absurd (show b ∈ ([] : List Addr) from hb) (by simp),hok,.of_eq hg⟩
  refine codeAny_mono ((F _ hKb (nsK hns)).run callerA [] s₁ H ⟨[.ref a],[]⟩ [.ref a] [.ref a] _ _ hr e0 (hbind s₁ (.ref a)) (.cons rfl .nil) (hsp H hT hS)) fun r s' h=>?_
  cases r with
  | error e=>exact False.elim h
  | ok fl =>
   cases fl with
   | next=>exact False.elim h
   | brk=>exact False.elim h
   | cont=>exact False.elim h
   | ret u =>
    obtain ⟨v,H',os,bare,un,hok',r',q⟩:=h
    have q' : v = .bl true:=q
    subst q'
    obtain rfl : u = Value.bool true:=r'
    have kp : ∀ b o,H b = none->s₁.heap.get? b = some o->s'.heap.get? b = some o:=fun b o n e=>un.keep b o e n (by intro z; exact absurd (show b ∈ ([] : List Addr) from z) (by simp)) (by simp)
    refine ⟨rfl,⟨fun b o e=>?_,fun b o e=>un.there b o e (by simp)⟩,os,bare⟩
    rcases hO b with z | ⟨ob,xs,z⟩ | ⟨u,z⟩
    ·exact .inl (kp b o z e)
    ·have z2:=un.frzs b ob _ z
     obtain ⟨e1,_⟩:=hok b _ z
     obtain ⟨e2,_⟩:=hok' b _ z2
     rw [e] at e1; cases e1
     exact .inl e2
    ·obtain ⟨e1,e2⟩:=hA b u z
     rw [e] at e1; cases e1
     obtain ⟨ps,e3,_⟩:=hok' b _ (un.tbls b u z)
     exact .inr (.inl ⟨e2,rfl,#[],ps,rfl,by simpa using e3⟩)
 have tabNot : ∀ q,tabs.lookup a ≠ some q:=fun q z=>by
  have:=(ht a q z).1
  rw [ha] at this; cases this
 have ta : tabs.lookup a = none:=by
  cases z : tabs.lookup a with
  | none=>rfl
  | some q=>exact absurd z (tabNot q)
 have tabOk : ∀ (G : Hp) b q,tabs.lookup b = some q->bD P w (lY tabs G) s₁.heap b (.tbl q):=fun G b q z=>⟨#[],(ht b q z).1,trivial,fun pos cv c=>by cases c⟩
 cases hk : K.lookup a with
 | some o =>
  have e:=KX a o hk
  rw [ha] at e
  cases e
  refine core (lY tabs fun _=>none) (fun b=>?_) (fun b q z=>dF z) (.inr ⟨_,vs.toArray,_,hk,rfl,rfl,rfl,by rw [List.size_toArray,lenV]; exact hl,by simpa using rv⟩) (fun b u z=>?_) (fun b q z=>?_) (fun b o u z=>?_) fun b o u z=>?_
  all_goals cases zt : tabs.lookup b with
   | none=>first | exact .inl (f8 zt) | (rw [f8 zt] at z; cases z)
   | some q'=>first | exact .inr (.inr ⟨q',dF zt⟩) | (rw [dF zt] at z; cases z; done) | (rw [dF zt] at z; cases z; first | exact tabOk _ b _ zt | exact ht b _ zt)
 | none =>
  refine core (lY tabs fun b=>if b = a then some (.frz { cls:=.type "list",data:=.seq vs.toArray } (.lst (ns.map V.int))) else none) (fun b=>?_) (fun b q z=>dF z) (.inl (.inr ⟨{ cls:=.type "list",data:=.seq vs.toArray },by rw [f8 ta,if_pos rfl]⟩)) (fun b u z=>?_) (fun b q z=>?_) (fun b o u z=>?_) fun b o u z=>?_
  all_goals cases zt : tabs.lookup b with
   | some q'=>first | exact .inr (.inr ⟨q',dF zt⟩) | (rw [dF zt] at z; cases z; done) | (rw [dF zt] at z; cases z; first | exact tabOk _ b _ zt | exact ht b _ zt)
   | none =>
    first
    | rw [f8 zt] at z
    | rw [f8 zt]
    by_cases hb : b = a
    ·first
     | rw [if_pos hb] at z
     | rw [if_pos hb]
     first
     | exact .inr (.inl ⟨_,_,rfl⟩)
     | (cases z; subst hb; exact ⟨ha,by rw [List.length_map]; exact hl,vs,_,rv,ha⟩)
     | exact hb
     | (rw [hb]; exact hk)
     | cases z
    ·first
     | (rw [if_neg hb] at z; cases z)
     | exact .inl (if_neg hb)
def qp (L : List (Str × Option (Addr × Addr))) : List (Addr × Str):=L.filterMap fun p=>p.2.map fun q=>(q.2,lP p.1)
structure TabsFit (K : PySem.W.Frag) (L : List (Str × Option (Addr × Addr))) : Prop where
 names : L = jx.map fun x=>(x,PySem.W.tabIn K x)
 apart : ((qp L).map (·.1)).Nodup
 none : PySem.W.noTabs K = true
theorem iM {α β : Type} [BEq α] [LawfulBEq α] : ∀ {l : List (α × β)} {a : α} {b : β},(l.map (·.1)).Nodup->(a,b) ∈ l->l.lookup a = some b
 | (c,d) :: l,a,b,nd,h=>by
  rw [List.lookup_cons]
  rcases List.mem_cons.mp h with e | h
  ·cases e; simp
  ·have ne : a ≠ c:=fun z=>(List.nodup_cons.mp nd).1 (by rw [← z]; exact List.mem_map.mpr ⟨(a,b),h,rfl⟩)
   rw [show (a == c) = false by simpa using ne]
   exact iM (List.nodup_cons.mp nd).2 h
theorem gH {α β : Type} [BEq α] [LawfulBEq α] : ∀ {l : List (α × β)} {a : α} {b : β},l.lookup a = some b->(a,b) ∈ l
 | (c,d) :: l,a,b,h=>by
  rw [List.lookup_cons] at h
  cases e : a == c with
  | true=>rw [e] at h; cases h; rw [eq_of_beq e]; exact mX
  | false=>rw [e] at h; exact mZ _ (gH h)
theorem TabsFit.tb {K : PySem.W.Frag} {L : List (Str × Option (Addr × Addr))} (F : TabsFit K L) {H : Hp} (h : ∀ b q,(qp L).lookup b = some q->H b = some (.tbl q)) : Tb K H:=fun x hx c P e=>by
 refine h P (lP x) (iM F.apart ?_)
 rw [F.names]
 exact List.mem_filterMap.mpr ⟨(x,PySem.W.tabIn K x),List.mem_map.mpr ⟨x,hx,rfl⟩,by rw [e]; rfl⟩
theorem tab_no {K : PySem.W.Frag} {x : Str} (e : PySem.W.nsIn K mainGlobals x = some none) : PySem.W.tabIn K x = none:=by unfold PySem.W.tabIn; rw [e]
theorem tab_yes {K : PySem.W.Frag} {x : Str} {f c P : Addr} {oc oc' : Value} {od od' : Option Addr} {osl osl' : Array (Option Value)} {fd : FuncData} {vs : Array Value} (e1 : PySem.W.nsIn K mainGlobals x = some (some (.ref f))) (e2 : K.lookup f = some ⟨oc,od,.func fd,osl⟩) (e3 : fd.code = .ref c)
  (e4 : K.lookup c = some ⟨oc',od',.fields vs,osl'⟩) (e5 : vs[11]? = some (.ref P)) : PySem.W.tabIn K x = some (c,P):=by unfold PySem.W.tabIn; simp only [e1,e2,e3,e4,e5]
theorem tabs_fit {K : PySem.W.Frag} {t0 t1 t2 t3 : Option (Addr × Addr)} (h0 : PySem.W.tabIn K "in_order" = t0) (h1 : PySem.W.tabIn K "has_seal" = t1) (h2 : PySem.W.tabIn K "is_first_death" = t2) (h3 : PySem.W.tabIn K "bases_by" = t3)
  (ap : ((qp [("in_order",t0),("has_seal",t1),("is_first_death",t2),("bases_by",t3)]).map (·.1)).Nodup) (nt : PySem.W.noTabs K = true) : TabsFit K [("in_order",t0),("has_seal",t1),("is_first_death",t2),("bases_by",t3)] :=
 ⟨by subst h0; subst h1; subst h2; subst h3; rfl,ap,nt⟩
theorem walkD {l : PySem.W.OpenLaw} {q : Program} {loose : List Str} {XP : (Str->Option Value)->Heap->Prop} {YP : World->Heap->Prop} {d : DefRec} {K : Params->PySem.W.Frag} {k : Nat} {x : Str} {f : List D->Option (D × Bool)} {L : List (Str × Option (Addr × Addr))} (hn : l.most = some 63) (hdf : d.params.defaults = []) (hr : Room k callerA)
  (hY : ∀ (w : World) (h : Heap),YP w h->(K w.params).In h) (hT : ∀ w : World,TabsFit (K w.params) L) (hD : (L.all fun p=>p.2.isNone || ((recsOf q).find? fun e=>e.name == p.1).isSome) = true)
  (F : ∀ (w : World) (mg : Str->Option Value) (fa : Addr) (h : Heap),(K w.params).In h->h.Ns mainGlobals mg->mg d.name = some (.ref fa) ->
   ∃ fd : FuncData,(∀ (s : Shared) (u : Value),BindsTo s fd ⟨[u],[]⟩ [(x,u)])/\∀ base : Heap,(K w.params).In base->base.Ns mainGlobals mg->FnOk l.prog w (K w.params) mg base CX0 k fa fd [x] (spD (K w.params) f))
  (ht : ∀ ns : List Int,ns.length<=63->∃ b,f [.lst (ns.map .int)] = some (.bl true,b)) : PySem.W.WalkO q loose XP YP l.row.toRowW d [] (fun f vs=>PySem.call f vs):=by
 refine Att.rL hn hdf fun w s₀ s₁ mg mb fa o pm cd doc a vs ns G Y ho hd hcd hmg hobj hints hlen hg=>?_
 have KX:=hY w _ Y
 obtain ⟨fd,hb,hF⟩:=F w mg fa _ KX G.T.g hmg
 refine wV (qp L) (fun b u e=>?_) (hT w).none KX G.T.g G.T.b G.T.builtins G.T.nolimit G.T.bmain hg hobj hints (Nat.le_trans hlen (by decide)) hr hF hb fun H hH hS=>?_
 ·obtain ⟨p,hp,e2⟩:=List.mem_filterMap.mp (gH e)
  obtain ⟨⟨c,P⟩,e3,e4⟩:=oY e2
  cases e4
  have hp':=List.all_eq_true.mp hD p hp
  rw [e3] at hp'
  rw [Option.isNone_some,Bool.false_or] at hp'
  obtain ⟨r,hr'⟩:=Option.isSome_iff_exists.mp hp'
  have ht' : PySem.W.tabIn (K w.params) p.1 = some (c,P):=by
   rw [(hT w).names] at hp
   obtain ⟨y,_,rfl⟩:=List.mem_map.mp hp
   exact e3
  obtain ⟨h1,h2⟩:=PySem.W.tab_of G.T KX hr' ht'
  exact ⟨h2,(h1.tab h2).isCodeTable⟩
 ·obtain ⟨b,e⟩:=ht ns hlen
  exact ⟨H,_,_,b,⟨.refl H,(hT w).tb hH⟩,.cons (.lst hS (.flat rfl)) .nil,e,fun v H' N x' i' _=>by cases i'; rfl⟩
theorem Def.law {P : Program} {w : World} {K : PySem.W.Frag} {mg : Str->Option Value} {x y : Str} {st : Stmt} {N : List Str} {k : Nat} {g : FS} {h : Heap} {fa : Addr} (F : Def K x st) (X : K.In h) (G : h.Ns mainGlobals mg) (hfa : mg x = some (.ref fa)) (S : FnScope N [y] (ar st))
  (hbd : ∀ (kV doc pm : Value) (an : Option Addr) (cdv ct : Value) (u : Value),bindArgs (PySem.W.fnOf x x (eJ st) (cx st) (ar st) .none kV doc pm an cdv ct) ⟨[u],[]⟩ = pure [(y,u)])
  (hb : ∀ (base : Heap),K.In base->base.Ns mainGlobals mg->∀ (f : Addr) (cdv : Value) (A : Around) (outer : List PySem.Env) (s : Shared) (H : Hp) (E : XK),Room k (A.deeper (envOfC x (ar st) s.heap.objs.size f cdv))->JSs (lN CX0 P w K mg base N x (ar st) f cdv A outer s H E).nox (cx st) g) :
  ∃ fd : FuncData,(∀ (s : Shared) (u : Value),BindsTo s fd ⟨[u],[]⟩ [(y,u)])/\∀ base : Heap,K.In base->base.Ns mainGlobals mg->FnOk P w K mg base CX0 (k + 1) fa fd [y] (spD K (aV g 1 (N.length - 1))):=by
 obtain ⟨f,fd,F1,a⟩:=F
 have e:=hfa.symm.trans (PySem.W.mg_of X G a)
 cases e
 refine ⟨fd,fun s u=>?_,fun base kb nb=>Ed F1 S (hb base kb nb _)⟩
 obtain ⟨oc,od,kV,doc,pm,an,cdv,ct,osl,rfl,lk,hcd⟩:=F1.ex
 exact .of_eq (hbd kV doc pm an cdv ct u)
section
variable {X : Cx} {a b e : Expr} {pos : Pos} {x : Str} {p : Pos}
@[simp] def yE : D->D->Option (D × Bool)
 | .lst xs,.lst ys=>if xs.length + ys.length<=sizeLine then some (.lst (xs ++ ys),true) else none
 | _,_=>none
theorem CG : OpR X (binaryOp .Add) (rD X.K yE):=by
 intro pins s σ H x y v u Q I rx ry q
 obtain ⟨B,dx,dy,d,bb,sB,ix,iy,ee,q⟩:=q
 cases ix <;> cases iy <;> try (simp [yE] at ee; done)
 rename_i l vs ds h hl l' ws es h' hl'
 simp only [yE] at ee
 split at ee
 ·rename_i hz
  cases ee
  cases rx
  cases ry
  obtain ⟨its,r1,p1,z1⟩:=I.list (sB.seq h)
  obtain ⟨jts,r2,p2,z2⟩:=I.list (sB.seq h')
  obtain ⟨⟨c1,d1,t1,s1⟩,o1,e1,n1,k1⟩:=p1.isList
  obtain ⟨⟨c2,d2,t2,s2⟩,o2,e2,n2,k2⟩:=p2.isList
  dsimp only at e1 k1 e2 k2
  subst e1; subst k1; subst e2; subst k2
  have hsz : its.toArray.size + jts.toArray.size<=sizeLine:=by
   rw [List.size_toArray,List.size_toArray,← r1.length,← r2.length,hl.length,hl'.length]; exact hz
  have ea : its.toArray ++ jts.toArray = (its ++ jts).toArray:=by simp
  refine concat_meets ⟨_,o1,rfl⟩ ⟨_,o2,rfl⟩ noFill_list_add seq_list_add PySem.F.slot_list_add PySem.F.entry_list_add (PySem.F.args_list_add_2 _ _) (list_addW l l' its.toArray jts.toArray n1 n2 d1 d2 s1 s2 hsz) ⟨o1,o2, ?_⟩
  rw [ea]
  have xt:=Ext.laid (o:=.lst (vs ++ ws)) sB I.fresh
  have il:=(hl.append hl').mono xt.bn
  exact ⟨.ref s.heap.objs.size,_,I.lnew (t':=s.toks) (r1.append r2) (by rw [List.length_append,hl.length,hl'.length]; exact hz),rfl,q _ _ _ xt (.lst (SqL.of a8) il) fun _=>⟨_,_,_,rfl,rfl,I.fresh,a8,il⟩⟩
 ·cases ee
@[simp] def yF : D->D->Option (D × Bool)
 | .tup xs,.tup ys=>if xs.length + ys.length<=sizeLine/\xs.isEmpty = false then some (.tup (xs ++ ys),false) else none
 | _,_=>none
theorem CH : OpR X (binaryOp .Add) (rD X.K yF):=by
 refine ga Ab fun x y H Q q=>?_
 obtain ⟨B,dx,dy,d,bb,sB,ix,iy,ee,q⟩:=q
 cases ix <;> cases iy <;> try (simp [yF] at ee; done)
 rename_i l vs ds h hl l' ws es h' hl'
 simp only [yF] at ee
 split at ee
 ·rename_i hz
  cases ee
  have l1:=hl.length
  have l2:=hl'.length
  refine ⟨l,l',vs,ws,rfl,rfl,aX sB h,aX sB h',fun z=>?_,by omega,fun z=>?_,fun _ pp hp=>?_⟩
  ·subst z
   cases hl
   simp at hz
  ·subst z
   cases hl'
   rw [List.append_nil] at q
   exact q.one sB (.tup h hl)
  ·have xt:=Ext.laid (o:=.tup (vs ++ ws)) sB hp
   exact q _ _ _ xt (.tup (SqT.of a8) ((hl.append hl').mono xt.bn)) (by simp)
 ·cases ee
@[simp] def wW : D->D->Option (D × Bool)
 | .bl i,.int j=>some (.int ((if i = true then 1 else 0) + j),false)
 | .int i,.bl j=>some (.int (i + b2i j),false)
 | _,_=>none
theorem CI : OpR X (binaryOp .Add) (rD X.K wW):=by
 intro pins s σ H x y v u Q I rx ry q
 obtain ⟨B,dx,dy,d,bb,sB,ix,iy,ee,q⟩:=q
 cases ix <;> cases iy <;> try (simp [wW] at ee; done)
 ·simp only [wW] at ee
  cases ee
  cases rx
  obtain ⟨t,rfl⟩:=ry
  exact IntBool.add_bool_int ⟨.int _,H,I.tok _,⟨_,rfl⟩,q.one sB (.int _)⟩
 ·simp only [wW] at ee
  cases ee
  exact wH pins s σ H _ _ v u Q I rx ry ⟨_,_,rfl,rfl,q.one sB (.int _)⟩
@[simp] def bN : D->D->Option (D × Bool)
 | .int i,.int j=>some (.int (i + j),false)
 | .str i,.str j=>if i.length + j.length<=sizeLine then some (.str (i ++ j),false) else none
 | .lst xs,.lst ys=>if xs.length + ys.length<=sizeLine then some (.lst (xs ++ ys),true) else none
 | .tup xs,.tup ys=>if xs.length + ys.length<=sizeLine/\xs.isEmpty = false then some (.tup (xs ++ ys),false) else none
 | .bl i,.int j=>some (.int ((if i = true then 1 else 0) + j),false)
 | .int i,.bl j=>some (.int (i + b2i j),false)
 | _,_=>none
theorem br : OpR X (binaryOp .Add) (rD X.K bN):=by
 refine ga (r:=rD X.K (orD vH (orD yE (orD yF wW)))) (lV As (lV CG (lV CH CI))) fun x y H Q q=>?_
 obtain ⟨B,dx,dy,d,bb,sB,ix,iy,ee,q⟩:=q
 refine ⟨B,dx,dy,d,bb,sB,ix,iy, ?_,q⟩
 cases dx <;> cases dy <;> simp [bN] at ee <;> simp [orD,vH,yE,yF,wW,ee]
@[simp] def blD : D->Option Bool
 | .bl b=>some b
 | _=>none
def u5 : List D->Option (List Bool)
 | []=>some []
 | d :: ds=>(blD d).bind fun b=>(u5 ds).map (b :: ·)
@[simp] theorem Ek : u5 [] = some []:=rfl
@[simp] theorem Do (d : D) (ds : List D) : u5 (d :: ds) = (blD d).bind fun b=>(u5 ds).map (b :: ·):=rfl
@[simp] def Fw : List D->Option (D × Bool)
 | [.lst ds]=>(u5 ds).map fun bs=>(.bl (bs.all id),false)
 | _=>none
@[simp] def Fx : List D->Option (D × Bool)
 | [.lst ds]=>(u5 ds).map fun bs=>(.bl (bs.any id),false)
 | _=>none
end
def Its (z : Str) : It:=⟨fun i _=>i < z.cps.size,fun i H v H'=>H' = H/\∃ c,z.cps[i]? = some c/\v = .str ⟨#[c]⟩,fun i _=>z.cps.size<=i⟩
theorem sj {P : Program} {w : World} {K : PySem.W.Frag} {tg : Expr} (z : Str) (t : Tok) (it : Addr) : Turn P w K tg (Its z) [it] it (fun i h=>h.IsStrIter it "str_ascii_iterator" z t i) where
 mem:=List.mem_singleton.mpr rfl
 obj:=fun i h st b hb=>by
  have eb:=List.mem_singleton.mp hb
  subst eb
  obtain ⟨o,e1,_,d1⟩:=st
  exact ⟨o,e1,fun v zz=>by rw [d1] at zz; cases zz⟩
 keep:=fun i h h' st k=>let ⟨o,e1,r⟩:=st; ⟨o,k it (List.mem_singleton.mpr rfl) o e1,r⟩
 item:=by
  intro X hP hw hK hc i pins s σ H E I hf st hg
  subst hP hw hK
  have hg' : i < z.cps.size:=hg
  obtain ⟨f0,f1,f2,f3,f4,f5⟩:=hf it (List.mem_singleton.mpr rfl)
  refine wpAny_pyNext_ascii_item st (c:=z.cps[i]) (by simp [hg']) fun h' st' sb=>?_
  obtain ⟨o,e1,c1,d1⟩:=id st'
  exact ⟨_,rfl,rH (s:={ s with heap:=h',toks:=s.toks + 1 }) e1 c1 d1 (by decide) ⟨.str ⟨#[z.cps[i]]⟩,H,I.turned (fun b o hb e2=>(sb.2 b hb).trans e2) f0 f1 f3 f4 f5,⟨_,rfl⟩,⟨rfl,_,by simp [hg'],rfl⟩,st',fun b hb=>(hf b hb).1⟩⟩
 done:=by
  intro X hP hw hK hc i pins s σ H E I hf st hg
  subst hP hw hK
  have hg' : z.cps.size<=i:=hg
  obtain ⟨f0,f1,f2,f3,f4,f5⟩:=hf it (List.mem_singleton.mpr rfl)
  exact wpAny_pyNext_ascii_end (I.ok.hd hc) st (by simp; omega) fun h' eb=>⟨rfl,I.turned (t':=s.toks) (fun b o hb e2=>eb b o hb e2) f0 f1 f3 f4 f5⟩
 self:=fun _ _ _ _ _ st h=>wpAny_pyIter_striter_ascii st h
theorem sk {P : Program} {w : World} {K : PySem.W.Frag} {tg : Expr} (z : Str) (t : Tok) (it : Addr) : Turn P w K tg (Its z) [it] it (fun i h=>h.IsStrIter it "str_iterator" z t i) where
 mem:=List.mem_singleton.mpr rfl
 obj:=fun i h st b hb=>by
  have eb:=List.mem_singleton.mp hb
  subst eb
  obtain ⟨o,e1,_,d1⟩:=st
  exact ⟨o,e1,fun v zz=>by rw [d1] at zz; cases zz⟩
 keep:=fun i h h' st k=>let ⟨o,e1,r⟩:=st; ⟨o,k it (List.mem_singleton.mpr rfl) o e1,r⟩
 item:=by
  intro X hP hw hK hc i pins s σ H E I hf st hg
  subst hP hw hK
  have hg' : i < z.cps.size:=hg
  obtain ⟨f0,f1,f2,f3,f4,f5⟩:=hf it (List.mem_singleton.mpr rfl)
  refine wpAny_pyNext_wide_item st (c:=z.cps[i]) (by simp [hg']) fun h' st' sb=>?_
  obtain ⟨o,e1,c1,d1⟩:=id st'
  exact ⟨_,rfl,rH (s:={ s with heap:=h',toks:=s.toks + 1 }) e1 c1 d1 (by decide) ⟨.str ⟨#[z.cps[i]]⟩,H,I.turned (fun b o hb e2=>(sb.2 b hb).trans e2) f0 f1 f3 f4 f5,⟨_,rfl⟩,⟨rfl,_,by simp [hg'],rfl⟩,st',fun b hb=>(hf b hb).1⟩⟩
 done:=by
  intro X hP hw hK hc i pins s σ H E I hf st hg
  subst hP hw hK
  have hg' : z.cps.size<=i:=hg
  obtain ⟨f0,f1,f2,f3,f4,f5⟩:=hf it (List.mem_singleton.mpr rfl)
  exact wpAny_pyNext_wide_end (I.ok.hd hc) st (by simp; omega) fun h' eb=>⟨rfl,I.turned (t':=s.toks) (fun b o hb e2=>eb b o hb e2) f0 f1 f3 f4 f5⟩
 self:=fun _ _ _ _ _ st h=>wpAny_pyIter_striter_wide st h
section
variable {X : Cx} {a b e : Expr} {pos : Pos} {x : Str} {p : Pos} {tg : Expr}
theorem yG {l : Expr} {tl : TE} (hl : PE X l tl) : PI X tg l (fun σ H R=>tl σ H fun x H1=>∃ z,x = .str z/\R (Its z) H1):=by
 intro pins s σ H R I h
 refine thn (hl pins s σ H _ I h) fun v s1 ⟨x,H1,I1,r1,q1⟩=>?_
 obtain ⟨z,rfl,q⟩:=q1
 obtain ⟨t,rfl⟩:=r1
 have fp : ∀ b ∈ [s1.heap.objs.size],jY X pins H1 b:=fun b hb=>by
  rw [List.mem_singleton.mp hb]
  exact I1.fpOk (Nat.le_refl _) (I1.hok.fresh (Nat.le_refl _))
 cases ha : z.cps.all (· < 128) with
 | true=>exact wpAny_pyIter_ascii ha ⟨_,[s1.heap.objs.size],_,_,H1,rfl,I1.kept (t':=s1.toks) fun b o e=>Heap.get?_push_of_some _ e,sj z t _,⟨_,Heap.get?_push_size _ rfl,rfl,rfl⟩,fp,q⟩
 | false=>exact wpAny_pyIter_wide ha ⟨_,[s1.heap.objs.size],_,_,H1,rfl,I1.kept (t':=s1.toks) fun b o e=>Heap.get?_push_of_some _ e,sk z t _,⟨_,Heap.get?_push_size _ rfl,rfl,rfl⟩,fp,q⟩
def vK (z : Str) : List D:=z.cps.toList.map fun c=>.str ⟨#[c]⟩
theorem yH {K : PySem.W.Frag} {B : Hp} (z : Str) : qd K (Its z) B (vK z):=by
 intro i H s
 refine ⟨fun d ed=>?_,fun hl=>by unfold vK at hl; show z.cps.size<=i; simpa using hl⟩
 unfold vK at ed
 rw [List.getElem?_map] at ed
 obtain ⟨c,ec,rfl⟩:=oY ed
 have ec' : z.cps[i]? = some c:=by simpa using ec
 refine ⟨(Array.getElem?_eq_some_iff.mp ec').1,fun v H' hy=>?_⟩
 obtain ⟨rfl,c',e1,rfl⟩:=hy
 rw [ec'] at e1; cases e1
 exact ⟨B,.refl s,.str _⟩
@[simp] def CJ : D->Option (List D)
 | .lst ds=>some ds
 | .tup ds=>some ds
 | .str z=>some (vK z)
 | _=>none
@[simp] def cG (f : FE) : FA:=fun ρ=>(f ρ).bind fun x=>CJ x.1
theorem c8 {f : FE} (h : JE X e f) : JI X tg e (cG f):=by
 intro pins s σ H R I q
 obtain ⟨B,ρ,ds,sB,r,e',q⟩:=q
 obtain ⟨xx,ex,es⟩:=oX e'
 obtain ⟨xd,xb⟩:=xx
 cases xd with
 | lst l=>exact vJ h pins s σ H R I ⟨B,ρ,ds,sB,r,by unfold yB; rw [ex]; exact es,q⟩
 | tup l=>exact vJ h pins s σ H R I ⟨B,ρ,ds,sB,r,by unfold yB; rw [ex]; exact es,q⟩
 | str z =>
  cases es
  refine yG h pins s σ H R I ⟨B,ρ,_,_,sB,r,ex,fun v H1 N1 x1 i1 _=>?_⟩
  cases i1
  exact ⟨z,rfl,q _ H1 N1 x1 (yH z)⟩
 | _=>cases es
theorem Ax : SlR X (fun x lo hi H Q=>∃ z,x = .str z/\z.length<=sizeLine/\Q (.str (Txt.slice z lo hi)) H):=by
 intro pins s σ H x v vl vu lo hi sl Q I rx hs pl pu h
 obtain ⟨z,rfl,hz,q⟩:=h
 obtain ⟨t,rfl⟩:=rx
 have fin : ∀ lo hi,Q (.str (Txt.slice z lo hi)) H->(Txt.slice z lo hi).length<=sizeLine/\∀ t' k,EP X pins σ Q (.str (Txt.slice z lo hi) t') { s with toks:=k }:=fun lo hi q =>
  ⟨Nat.le_trans (Txt.slice_le z _ _) hz,fun t' k=>⟨.str _,H,I.tok k,⟨t',rfl⟩,q⟩⟩
 refine ⟨"str",_,PySem.F.slot_str_getitem.lookup,typeIs_str _ _ _, ?_⟩
 cases pl with
 | none =>
  cases pu with
  | none=>exact wpAny_getItem_str_slice (l:=none) (u:=none) (st:=none) hs rfl (post_val_or_str (fin _ _ q))
  | int j tj=>exact wpAny_getItem_str_slice (l:=none) (u:=some (j,tj)) (st:=none) hs rfl (post_val_or_str (fin _ _ q))
 | int i ti =>
  cases pu with
  | none=>exact wpAny_getItem_str_slice (l:=some (i,ti)) (u:=none) (st:=none) hs rfl (post_val_or_str (fin _ _ q))
  | int j tj=>exact wpAny_getItem_str_slice (l:=some (i,ti)) (u:=some (j,tj)) (st:=none) hs rfl (post_val_or_str (fin _ _ q))
theorem wZ {A : Around} {E : Value->Shared->Prop} {s : Shared} {prog : Program} {w : World} {t sl : Addr} {items : Array Value} {vl vu : Value} {lo hi : Option Int} {Q : Value->Shared->Prop} (ht : IsTup s.heap t items) (hs : s.heap.IsSliceOf sl vl vu .none) (pl : IsPart vl lo) (pu : IsPart vu hi)
  (h0 : HT.sIx items.size 0 lo = 0) (h1 : HT.sIx items.size items.size hi = items.size) (h : Q (.ref t) s) : wpAny (model prog w) A (getItem (.ref t) (.ref sl)) Q E s:=by
 obtain ⟨os,hos,hcs,hds⟩:=id hs
 have hT : s.TypeIs (.ref sl) "slice":=⟨os,hos,hcs⟩
 unfold getItem
 try with_reducible refine wpAny_holding ?_
 first | refine wX (wY ?_) | skip
 refine wX (wpAny_sequenceKey ht.typeIs (by decide) ?_)
 refine wX (wpAny_callSpecial?_slot (name:=Str.ofString "__getitem__") ht.typeIs PyProof.Rows.slot_tuple_getitem (wpAny_call_entry PyProof.Rows.slot_tuple_getitem ht.typeIs entry_tuple_getitem ?_ (args_tuple_getitem _ _)))
 show wpAny _ _ (Builtin.Tuple.tupleItemsOf (.ref t) >>= _) _ _ s
 refine wX (tupleItemsOf_ ht ?_)
 refine wX (wpAny_typeOf hT ?_)
 rw [if_pos (by decide)]
 refine wX (HT.fz hs pl pu ?_)
 have yes : (((HT.sIx items.size 0 lo : Nat) : Int) == 0 && (1 : Int) == 1 && (HT.sIx items.size items.size hi - HT.sIx items.size 0 lo) == items.size) = true:=by
  rw [h0,h1]; simp
 show wpAny _ _ (if (((HT.sIx items.size 0 lo : Nat) : Int) == 0 && (1 : Int) == 1 && (HT.sIx items.size items.size hi - HT.sIx items.size 0 lo) == items.size) = true then _ else _) _ _ s
 rw [if_pos yes]
 refine wX ?_
 unfold Builtin.Tuple.tupleIsExact
 refine wX (wpAny_typeOf ht.typeIs (wY ?_))
 show wpAny _ _ (if ((Value.type "tuple") == Value.type "tuple") = true then _ else _) _ _ s
 rw [if_pos (by decide)]
 refine wX (wpAny_rule ?_)
 exact wY ⟨_,rfl,wY h⟩
theorem Ay : SlR X (fun x lo hi H Q=>∃ a xs,x = .ref a/\SqT X.K H a xs/\HT.sIx xs.length 0 lo = 0/\HT.sIx xs.length xs.length hi = xs.length/\Q (.ref a) H):=by
 intro pins s σ H x v vl vu lo hi sl Q I rx hs pl pu h
 obtain ⟨a,xs,rfl,hx,h0,h1,q⟩:=h
 cases rx
 obtain ⟨its,r,ht,hz⟩:=I.tuple hx
 have hlen : its.toArray.size = xs.length:=by rw [List.size_toArray]; exact r.length.symm
 refine ⟨"tuple",_,PyProof.Rows.slot_tuple_getitem.lookup,ht.typeIs, ?_⟩
 exact wZ ht hs pl pu (by rw [hlen]; exact h0) (by rw [hlen]; exact h1) ⟨.ref a,H,I,rfl,q⟩
@[simp] def fSl (fa : FE) (fl fh : FO) : FE:=fun ρ=>(fa ρ).bind fun x=>(fl ρ).bind fun l=>(fh ρ).bind fun h=>match x.1 with
 | .lst ds=>some (.lst (kh ds l h),true)
 | .tup ds=>some (.tup (kh ds l h),false)
 | .str z=>if z.length<=sizeLine then some (.str (Txt.slice z l h),false) else none
 | _=>none
theorem u6 {ds : List D} {lo hi : Option Int} (h0 : HT.sIx ds.length 0 lo = 0) (h1 : HT.sIx ds.length ds.length hi = ds.length) : kh ds lo hi = ds:=by
 unfold kh; rw [h0,h1]; simp
theorem dG {lo hi : Option Expr} {p2 : Pos} {fa : FE} {fl fh : FO} (ha : JE X e fa) (hl : JO X lo fl) (hh : JO X hi fh) : JE X (.Subscript e (.Slice lo hi none p2) pos) (fSl fa fl fh):=by
 refine PE.to (yf (SlR.or (SlR.or Af Cn) (SlR.or Ax Ay)) ha hl hh) fun σ H Q q=>?_
 obtain ⟨B,ρ,d,b,sB,r,e,q⟩:=q
 obtain ⟨x,ex,e⟩:=oX e
 obtain ⟨l,el,e⟩:=oX e
 obtain ⟨h,eh,e⟩:=oX e
 refine ⟨B,ρ,x.1,x.2,sB,r,ex,fun v H1 N1 x1 i1 _=>⟨N1,ρ,l,x1.nh,r.mono x1.bn,el,fun H2 h2=>⟨N1,ρ,h,x1.nh.trans h2,r.mono x1.bn,eh,fun H3 h3=>?_⟩⟩⟩
 have s3 : aJ N1 H3:=x1.nh.trans (h2.trans h3)
 have q3:=q.into (x1.trans (.grow x1.nh (h2.trans h3)))
 obtain ⟨xd,xb⟩:=x
 dsimp only at e i1
 cases i1 with
 | @tup a' vs ds hs hv =>
  cases e
  by_cases hw : HT.sIx ds.length 0 l = 0/\HT.sIx ds.length ds.length h = ds.length
  ·rw [u6 hw.1 hw.2] at q3
   exact .inr (.inr ⟨a',vs,rfl,aX s3 hs,by rw [hv.length]; exact hw.1,by rw [hv.length]; exact hw.2,q3.one s3 (.tup hs hv)⟩)
  ·refine .inl (.inr ⟨a',vs,rfl,aX s3 hs,by rw [hv.length]; exact hw,fun p hp=>?_⟩)
   have x4:=Ext.laid (o:=.tup (oe vs l h)) s3 hp
   exact q3 _ _ _ x4 (.tup (SqT.of a8) ((ql hv).mono x4.bn)) (by simp)
 | @lst a' vs ds hs hv =>
  cases e
  refine .inl (.inl ⟨a',vs,rfl,s3.seq hs,fun p hp=>?_⟩)
  have x4:=Ext.laid (o:=.lst (oe vs l h)) s3 hp
  exact q3 _ _ _ x4 (.lst (SqL.of a8) ((ql hv).mono x4.bn)) fun _=>⟨p,_,_,rfl,rfl,hp,a8,(ql hv).mono x4.bn⟩
 | str z =>
  dsimp only at e
  split at e
  ·rename_i hz
   cases e
   exact .inr (.inl ⟨z,rfl,hz,q3.one s3 (.str _)⟩)
  ·cases e
 | _=>cases e
def qq : Value->D->Bool
 | .none,.non=>true
 | .bool a,.bl b=>a == b
 | .int i _,.int j=>decide (i = j)
 | .str i _,.str j=>decide (i = j)
 | _,_=>false
def gc : List Value->List D->Bool
 | [],[]=>true
 | u :: us,d :: ds=>qq u d && gc us ds
 | _,_=>false
theorem im {K : PySem.W.Frag} {B : Hp} : ∀ {u : Value} {d : D},qq u d = true->∃ v,aN v u/\Is K B v d
 | .none,.non,_=>⟨.non,rfl,.non⟩
 | .bool a,.bl b,h=>by
  have : a = b:=eq_of_beq h
  subst this; exact ⟨.bl a,rfl,.bl a⟩
 | .int i t,.int j,h=>by
  have : i = j:=of_decide_eq_true h
  subst this; exact ⟨.int i,⟨t,rfl⟩,.int i⟩
 | .str i t,.str j,h=>by
  have : i = j:=of_decide_eq_true h
  subst this; exact ⟨.str i,⟨t,rfl⟩,.str i⟩
theorem gd {K : PySem.W.Frag} : ∀ {us : List Value} {ds : List D},gc us ds = true->∃ vs,L2.aQ vs us/\∀ B,IsL K B vs ds
 | [],[],_=>⟨[],.nil,fun _=>.nil⟩
 | u :: us,d :: ds,h=>by
  rw [gc,Bool.and_eq_true] at h
  obtain ⟨vs,r,i⟩:=gd (K:=K) h.2
  obtain ⟨v,r1,_⟩:=im (K:=K) (B:=fun _=>none) h.1
  refine ⟨v :: vs,.cons r1 r,fun B=>?_⟩
  obtain ⟨v',r1',i'⟩:=im (K:=K) (B:=B) h.1
  have : v' = v:=by have z1:=r1.abs; rw [r1'.abs] at z1; exact Option.some.inj z1
  subst this
  exact .cons i' (i B)
theorem const_tup {K : PySem.W.Frag} {y : Str} {a : Addr} {od : Option Addr} {its : Array Value} {n : Nat} {osl : Array (Option Value)} {ds : List D} (e : PySem.W.nsIn K mainGlobals y = some (some (.ref a)))
  (l : K.lookup a = some ⟨.type "tuple",od,.seq its n,osl⟩) (h : (decide (its.size<=1000) && gc its.toList ds) = true) : ∃ u v,PySem.W.nsIn K mainGlobals y = some (some u)/\aN v u/\∀ B,Is K B v (.tup ds):=by
 rw [Bool.and_eq_true] at h
 obtain ⟨vs,r,i⟩:=gd (K:=K) h.2
 exact ⟨_,.ref a,e,rfl,fun B=>.tup (.inr ⟨_,its,n,l,rfl,rfl,Nat.le_of_lt (Nat.lt_of_le_of_lt (of_decide_eq_true h.1) (by decide)),r⟩) (i B)⟩
end
section
variable {X : Cx} {a b o e : Expr} {pos : Pos} {x : Str} {p : Pos} {tg : Expr}
@[simp] def CK : D->Option Str
 | .str z=>some z
 | _=>none
def eO : List D->Option (List Str)
 | []=>some []
 | d :: ds=>(CK d).bind fun z=>(eO ds).map (z :: ·)
@[simp] theorem Dp : eO [] = some []:=rfl
@[simp] theorem u7 (d : D) (ds : List D) : eO (d :: ds) = (CK d).bind fun z=>(eO ds).map (z :: ·):=rfl
@[simp] theorem Dq (zs : List Str) : eO (zs.map D.str) = some zs:=by
 induction zs with
 | nil=>rfl
 | cons z zs ih=>simp [ih]
theorem lZ {K : PySem.W.Frag} {B : Hp} : ∀ {vs : List V} {ds : List D} {zs : List Str} {its : List Value},L2.aQ vs its->IsL K B vs ds->eO ds = some zs->StrsAre its zs
 | _,_,_,_,.nil,.nil,e=>by cases e; exact .nil
 | _,_,_,_,.cons r rr,.cons i ii,e=>by
  rw [u7] at e
  obtain ⟨z,e1,e⟩:=oX e
  obtain ⟨zs,e2,e⟩:=oY e
  subst e
  cases i <;> simp only [CK] at e1 <;> try (cases e1; done)
  cases e1
  obtain ⟨t,rfl⟩:=r
  exact .cons _ t (lZ rr ii e2)
@[simp] def Fl : D->D->Option (D × Bool)
 | .str sep,.lst ds=>(eO ds).bind fun zs=>if (zs.map (·.length)).sum + zs.length * sep.length<=16777216 then some (.str (Txt.join sep zs),false) else none
 | .str sep,.tup ds=>(eO ds).bind fun zs=>if (zs.map (·.length)).sum + zs.length * sep.length<=16777216 then some (.str (Txt.join sep zs),false) else none
 | _,_=>none
def du : List Nat->List D->Env->Option Env
 | [],[],ρ=>some ρ
 | i :: is,d :: ds,ρ=>du is ds (ρ.set i (some (d,false)))
 | _,_,_=>none
@[simp] theorem oK (ρ : Env) : du [] [] ρ = some ρ:=by rw [du]
@[simp] theorem iY (i : Nat) (is : List Nat) (d : D) (ds : List D) (ρ : Env) : du (i :: is) (d :: ds) ρ = du is ds (ρ.set i (some (d,false))):=by rw [du]
@[simp] theorem El (d : D) (ds : List D) (ρ : Env) : du [] (d :: ds) ρ = none:=by simp only [du]
@[simp] theorem Em (i : Nat) (is : List Nat) (ρ : Env) : du (i :: is) [] ρ = none:=by simp only [du]
@[simp] def tgT (is : List Nat) : FG:=fun d ρ=>match d with | .tup ds=>du is ds ρ | _=>none
def ma : List Nat->TGs
 | []=>D4
 | i :: is=>AZ (kL i) (ma is)
theorem yI {N : Hp} {σ : St} {ρ : Env} {i : Nat} {v : V} {d : D} : aJ (cut N (own σ ρ)) (cut N (own (σ.set i (some v)) (ρ.set i (some (d,false))))):=cZ fun a u e q=>⟨e,fun z=>q (by
 rcases qc z with ⟨_,d',p⟩ | ⟨j,_,d',q1,q2⟩
 ·cases p
 ·exact ⟨j,d',q1,q2⟩)⟩
theorem io {K : PySem.W.Frag} : ∀ {is : List Nat} {vs : List V} {ds : List D} {B0 H0 N H : Hp} {σ : St} {ρ ρ' : Env} {Q : St->Hp->Prop},StN K B0 H0 N H σ ρ->IsL K (cut N (own σ ρ)) vs ds->du is ds ρ = some ρ'->(∀ σ',StN K B0 H0 N H σ' ρ'->Q σ' H)->ma is vs σ H Q
 | [],_,_,_,_,_,_,_,_,_,_,s,.nil,e,k=>by
  rw [oK] at e; cases e
  exact ⟨rfl,k _ s⟩
 | [],_,_,_,_,_,_,_,_,_,_,_,.cons _ _,e,_=>by simp at e
 | _ :: _,_,_,_,_,_,_,_,_,_,_,_,.nil,e,_=>by simp at e
 | i :: is,_,_,_,_,_,_,_,_,_,_,s,.cons h hs,e,k=>by
  rw [iY] at e
  exact ⟨_,_,rfl,io (s.bind h) (hs.mono yI) e k⟩
theorem ki : ∀ {is : List Nat} {ds : List D} {ρ ρ' : Env},du is ds ρ = some ρ'->ds.length = is.length
 | [],[],_,_,_=>rfl
 | _ :: _,_ :: _,_,_,e=>by rw [iY] at e; simp [ki e]
 | [],_ :: _,_,_,e=>by simp at e
 | _ :: _,[],_,_,e=>by simp at e
theorem yJ {K : PySem.W.Frag} {is : List Nat} : tDG K (tgT is) (BX K is.length (ma is)):=by
 intro B0 H0 N H σ ρ ρ' v d Q s h e k
 cases h with
 | @tup a vs ds ht hl =>
  have e' : du is ds ρ = some ρ':=e
  exact ⟨a,vs,rfl,aX (bx.trans s.ext.nh) ht,by rw [hl.length]; exact ki e',io s hl e' fun σ' s'=>k σ' H ⟨N,s'⟩⟩
 | _=>cases e
theorem oM {K : PySem.W.Frag} {n : Nat} {B H : Hp} {ρ0 : Env} {Q : St->Hp->Prop} (cl : ∀ i,i < n->ρ0[i]? = some none) : ∀ {is : List Nat} {vs : List V} {ds : List D} {σ : St} {ρ ρ1 : Env},(∀ i ∈ is,i < n)->RepE K B σ ρ->IsL K B vs ds->du is ds ρ = some ρ1->ρ.length = σ.length->ρ.length = ρ0.length ->
  (∀ σ1,RepE K B σ1 ρ1->(∀ B',RepE K B' σ ρ0->RepE K B' σ1 ρ0)->ρ0.length = σ1.length->Q σ1 H)->ma is vs σ H Q
 | [],_,_,_,_,_,_,rp,.nil,e,l1,l2,k=>by
  rw [oK] at e; cases e
  exact ⟨rfl,k _ rp (fun _ z=>z) (by omega)⟩
 | [],_,_,_,_,_,_,_,.cons _ _,e,_,_,_=>by simp at e
 | _ :: _,_,_,_,_,_,_,_,.nil,e,_,_,_=>by simp at e
 | i :: is,_,_,σ,ρ,_,hn,rp,.cons (v:=v) h hs,e,l1,l2,k=>by
  rw [iY] at e
  have hi:=hn i mX
  have hiσ : i < σ.length:=by
   have:=(List.getElem?_eq_some_iff.mp (cl i hi)).1
   omega
  refine ⟨_,_,rfl,oM cl (fun j hj=>hn j (mZ _ hj)) ⟨rp.tb,fun j d b q=>?_⟩ hs e (by simpa using l1) (by simpa using l2) fun σ1 r1 r2 l=>k σ1 r1 (fun B' z=>r2 B' ⟨z.tb,fun j d b q=>?_⟩) l⟩
  ·rcases bw q with ⟨rfl,pp⟩ | ⟨ne,pp⟩
   ·cases pp
    exact ⟨v,by simp [hiσ],h⟩
   ·obtain ⟨w,h1,h2⟩:=rp.at' j d b pp
    exact ⟨w,by rw [List.getElem?_set_ne ne]; exact h1,h2⟩
  ·obtain ⟨w,h1,h2⟩:=z.at' j d b q
   have ne : i ≠ j:=fun z=>by subst z; rw [cl i hi] at q; cases q
   exact ⟨w,by rw [List.getElem?_set_ne ne]; exact h1,h2⟩
theorem B7 {K : PySem.W.Frag} {n : Nat} {is : List Nat} (hn : ∀ i ∈ is,i < n) : TGE K n (tgT is) (BX K is.length (ma is)):=by
 intro B H σ ρ ρ1 v d Q cl rep s h e hl k
 cases h with
 | @tup a vs ds ht hv =>
  have e' : du is ds ρ = some ρ1:=e
  exact ⟨a,vs,rfl,aX s ht,by rw [hv.length]; exact ki e',oM cl hn rep hv e' hl rfl k⟩
 | _=>cases e
end
section
variable {prog : Program} {w : World} {A : Around} {E : Value->Shared->Prop} {s : Shared}
theorem u8 {it l : Addr} {i : Nat} {items : Array Value} {v : Value} {Q : Value->Shared->Prop} (st : s.heap.IsTupleIter it l i) (ht : s.heap.IsTuple l items) (hv : items[i]? = some v)
  (k : ∀ h',h'.IsTupleIter it l (i + 1)->Heap.SameBut it s.heap h'->Q v { s with heap:=h' }) : wpAny (model prog w) A (Builtin.SmallTypes.nextOf (.ref it)) Q E s:=by
 obtain ⟨o1,g1,c1,d1⟩:=id st
 obtain ⟨o2,g2,_,n2,d2⟩:=ht
 unfold Builtin.SmallTypes.nextOf
 refine wX (wpAny_callSpecial?_slot (name:=Str.ofString "__next__") st.typeIs PySem.F.slot_tuple_iterator_next (wpAny_call_entry PySem.F.slot_tuple_iterator_next st.typeIs PySem.F.entry_tuple_iterator_next ?_ (PySem.F.args_tuple_iterator_next_1 _)))
 show wpAny _ _ (field (.ref it) 0 >>= _) _ _ _
 refine wX (wpAny_field g1 d1 (x:=.ref l) rfl ?_)
 show wpAny _ _ (if (Value.ref l == Value.none) = true then _ else _) _ _ _
 rw [if_neg (fun z=>Bool.false_ne_true z : ¬ ((Value.ref l == Value.none) = true))]
 show wpAny _ _ (field (.ref it) 1 >>= _) _ _ _
 refine wX (wpAny_field g1 d1 (x:=.int i 0) rfl ?_)
 show wpAny _ _ (seqItems? (.ref l) >>= _) _ _ _
 refine wX (wpAny_seqItems g2 d2 ?_)
 simp only [hv,Int.toNat_natCast]
 refine wX (wpAny_setField g1 d1 (by simp) (wY ⟨v,rfl,wY (k _ ?_ (Heap.SameBut.update ..))⟩))
 exact ⟨_,Heap.get?_update_self _ g1 (Obj.isFreed_of_fields (Obj.data_mapFields d1 _)),(Obj.cls_mapFields ..).trans c1,by rw [Obj.data_mapFields d1]; simp [rawInt]⟩
theorem xa {it l : Addr} {i : Nat} {items : Array Value} {Q : Value->Shared->Prop} (hA : A.handled = none) (st : s.heap.IsTupleIter it l i) (ht : s.heap.IsTuple l items) (hv : items[i]? = none)
  (k : ∀ h' x,Heap.ExtBut it s.heap h'->(∃ o,h'.get? x = some o/\o.cls = .type "StopIteration")->E (.ref x) { s with heap:=h' }) : wpAny (model prog w) A (Builtin.SmallTypes.nextOf (.ref it)) Q E s:=by
 obtain ⟨o1,g1,c1,d1⟩:=id st
 obtain ⟨o2,g2,_,n2,d2⟩:=ht
 unfold Builtin.SmallTypes.nextOf
 refine wX (wpAny_callSpecial?_slot (name:=Str.ofString "__next__") st.typeIs PySem.F.slot_tuple_iterator_next (wpAny_call_entry PySem.F.slot_tuple_iterator_next st.typeIs PySem.F.entry_tuple_iterator_next ?_ (PySem.F.args_tuple_iterator_next_1 _)))
 show wpAny _ _ (field (.ref it) 0 >>= _) _ _ _
 refine wX (wpAny_field g1 d1 (x:=.ref l) rfl ?_)
 show wpAny _ _ (if (Value.ref l == Value.none) = true then _ else _) _ _ _
 rw [if_neg (fun z=>Bool.false_ne_true z : ¬ ((Value.ref l == Value.none) = true))]
 show wpAny _ _ (field (.ref it) 1 >>= _) _ _ _
 refine wX (wpAny_field g1 d1 (x:=.int i 0) rfl ?_)
 show wpAny _ _ (seqItems? (.ref l) >>= _) _ _ _
 refine wX (wpAny_seqItems g2 d2 ?_)
 simp only [hv,Int.toNat_natCast]
 refine wX (wpAny_rule (wX (wpAny_setField g1 d1 (by simp) ?_)))
 show wpAny _ _ (newExc (.type "StopIteration") [] >>= _) _ _ _
 refine wX ?_
 simp only [newTuple,newExc]
 refine wX (wpAny_newObj_type ?_ (by size_fits))
 refine wX (m:=firstArgMember _ _) (wpAny_of_eq (a:=Value.none) (by first | (simp only [firstArgMember]; rfl) | rfl) ?_)
 refine wpAny_newObj_type ?_ (by size_fits)
 simp only [raiseNew]
 refine wX (wpAny_handled ?_)
 first | rw [hA] | rw [show A.in1.handled = none from hA]
 exact wX (wY (wpAny_throw (k _ _ (((Heap.SameBut.update ..).extBut.push _).push _) ⟨_,Heap.get?_push_size _ rfl,rfl⟩)))
end
def KIt : Bool->Heap->Addr->Addr->Nat->Prop
 | true,h,it,a,i=>h.IsListIter it a i
 | false,h,it,a,i=>h.IsTupleIter it a i
def KSq : Bool->Heap->Addr->Array Value->Prop
 | true,h,a,items=>h.IsList a items
 | false,h,a,items=>h.IsTuple a items
def SqK (k : Bool) (K : PySem.W.Frag) (H : Hp) (a : Addr) (xs : List V) : Prop:=match k with | true=>SqL K H a xs | false=>SqT K H a xs
theorem KIt.ob {k : Bool} {h : Heap} {it a : Addr} {i : Nat} (st : KIt k h it a i) : ∃ o,h.get? it = some o/\∀ v,o.data ≠ .cell v:=by
 cases k <;> (obtain ⟨o,g,_,d⟩:=st; exact ⟨o,g,fun v z=>by rw [d] at z; cases z⟩)
theorem KIt.upon {k : Bool} {h h' : Heap} {it a : Addr} {i : Nat} (st : KIt k h it a i) (g : ∀ o,h.get? it = some o->h'.get? it = some o) : KIt k h' it a i:=by
 cases k <;> (obtain ⟨o,e,r⟩:=st; exact ⟨o,g o e,r⟩)
theorem KSq.upon {k : Bool} {h h' : Heap} {a : Addr} {items : Array Value} (st : KSq k h a items) (g : ∀ o,h.get? a = some o->h'.get? a = some o) : KSq k h' a items:=by
 cases k <;> (obtain ⟨o,e,r⟩:=st; exact ⟨o,g o e,r⟩)
theorem KSq.lt {k : Bool} {h : Heap} {a : Addr} {items : Array Value} (st : KSq k h a items) : a < h.objs.size:=by
 cases k <;> (obtain ⟨o,e,r⟩:=st; exact Heap.lt_size e)
theorem SqK.same {k : Bool} {K : PySem.W.Frag} {H H' : Hp} {a : Addr} {xs : List V} (h : SqK k K H a xs) (e : aJ H H') : SqK k K H' a xs:=by
 cases k
 ·exact aX e h
 ·exact e.seq h
theorem SqK.vals {X : Cx} {pins : List (Addr × Obj)} {σ : St} {H : Hp} {s : Shared} {k : Bool} {a : Addr} {xs : List V} (I : Inv X pins σ H s) (h : SqK k X.K H a xs) : ∃ its : List Value,aQ xs its/\KSq k s.heap a its.toArray/\xs.length<=sizeLine:=by
 cases k
 ·exact I.tuple h
 ·obtain ⟨its,r,p,z⟩:=I.list h
  exact ⟨its,r,p.isList,z⟩
theorem SqK.inj {X : Cx} {pins : List (Addr × Obj)} {σ : St} {H : Hp} {s : Shared} {k : Bool} {a : Addr} {xs ys : List V} (I : Inv X pins σ H s) (h : SqK k X.K H a xs) (h' : SqK k X.K H a ys) : xs = ys:=by
 cases k
 ·exact I.tuple_inj h h'
 ·exact I.list_inj h h'
section
variable {prog : Program} {w : World} {A : Around} {E : Value->Shared->Prop} {s : Shared}
theorem xc {k : Bool} {it l : Addr} {i : Nat} {items : Array Value} {v : Value} {Q : Value->Shared->Prop} (st : KIt k s.heap it l i) (ht : KSq k s.heap l items) (hv : items[i]? = some v)
  (q : ∀ h',KIt k h' it l (i + 1)->Heap.SameBut it s.heap h'->Q v { s with heap:=h' }) : wpAny (model prog w) A (Builtin.SmallTypes.nextOf (.ref it)) Q E s:=by
 cases k
 ·exact u8 st ht hv q
 ·exact wpAny_nextOf_list_item st ht hv q
theorem sn {k : Bool} {it l : Addr} {i : Nat} {items : Array Value} {Q : Value->Shared->Prop} (hA : A.handled = none) (st : KIt k s.heap it l i) (ht : KSq k s.heap l items) (hv : items[i]? = none)
  (q : ∀ h' x,Heap.ExtBut it s.heap h'->(∃ o,h'.get? x = some o/\o.cls = .type "StopIteration")->E (.ref x) { s with heap:=h' }) : wpAny (model prog w) A (Builtin.SmallTypes.nextOf (.ref it)) Q E s:=by
 cases k
 ·exact xa hA st ht hv q
 ·exact wpAny_nextOf_list_end hA st ht hv q
end
def itO (k : Bool) (l : Addr) : Obj:={ cls:=.type (if k = true then "list_iterator" else "tuple_iterator"),data:=.fields #[.ref l,.int 0 0] }
theorem qr {prog : Program} {w : World} {A : Around} {E : Value->Shared->Prop} {s : Shared} {k : Bool} {l : Addr} {items : Array Value} {Q : Value->Shared->Prop} (ht : KSq k s.heap l items)
  (q : Q (.ref s.heap.objs.size) { s with heap:=s.heap.push (itO k l) }) : wpAny (model prog w) A (pyIter (.ref l)) Q E s:=by
 cases k
 ·exact wpAny_pyIter_tuple ht q
 ·exact wpAny_pyIter_list ht q
theorem KSq.push {k : Bool} {h : Heap} {a : Addr} {items : Array Value} (st : KSq k h a items) (o : Obj) : KSq k (h.push o) a items:=st.upon fun _ e=>Heap.get?_push_of_some _ e
theorem qt {X : Cx} {pins : List (Addr × Obj)} {σ : St} {H : Hp} {s : Shared} {h' : Heap} {t' : Nat} {ch : List Addr} (I : Inv X pins σ H s) (f : ∀ b ∈ ch,jY X pins H b) (k : ∀ b o,b ∉ ch->s.heap.get? b = some o->h'.get? b = some o) : Inv X pins σ H { s with heap:=h',toks:=t' }:=by
 have nit : ∀ b u,H b = some u->b ∉ ch:=fun b u e z=>by rw [(f b z).1] at e; cases e
 refine I.step (g':=s.gens) (d':=s.drawn) (ch:=ch) (fun b hb=>?_) (fun b o _ _ hc e _=>k b o hc e) (fun b o _ _ hc e _=>⟨o.slots,k b o hc e⟩) (fun _ _ _ _ n=>n)
  (fun b o hc e=>⟨o,k b o hc e⟩) (fun _ _ e=>e) (fun _ _ _ e=>e) (fun _ _ e=>e) (fun m hm=>?_) (fun b u e=>?_) I.bare
 ·obtain ⟨_,f1,_,f3,f4,f5⟩:=f b hb
  exact ⟨f3,f1,f4,f5⟩
 ·obtain ⟨o,es,ep,ho,r⟩:=hm
  exact ⟨o,es,ep,k _ o (fun z=>(f _ z).2.1 rfl) ho,r⟩
 ·refine (I.hok b u e).stay (fun c v hc q=>k c v ?_ q) (fun _ q=>q) (fun _ _ q=>q) fun _ _ _ q=>q
  rcases hc with z | z
  ·rw [z]; exact nit b u e
  ·exact nit c _ z
theorem En {X : Cx} {pins : List (Addr × Obj)} {σ : St} {H : Hp} {s : Shared} {h' : Heap} {t' : Nat} {ch : List Addr} {a : Addr} {ob : HO} (I : Inv X pins σ H s) (f : ∀ b ∈ ch,jY X pins H b) (k : ∀ b o,b ∉ ch->s.heap.get? b = some o->h'.get? b = some o) (ha : s.heap.objs.size<=a)
  (new : bD X.prog X.w (upd H a ob) h' a ob) : Inv X pins σ (upd H a ob) { s with heap:=h',toks:=t' }:=by
 have hn : H a = none:=I.hok.fresh ha
 have nit : ∀ b u,H b = some u->b ∉ ch:=fun b u e z=>by rw [(f b z).1] at e; cases e
 have na : ∀ b o,s.heap.get? b = some o->b ≠ a:=fun b o e=>Nat.ne_of_lt (Nat.lt_of_lt_of_le (Heap.lt_size e) ha)
 refine I.step (g':=s.gens) (d':=s.drawn) (ch:=ch) (fun b hb=>?_) (fun b o _ _ hc e _=>k b o hc e) (fun b o _ _ hc e _=>⟨o.slots,k b o hc e⟩) (fun b o _ e n=>by rw [a9 (na b o e)]; exact n)
  (fun b o hc e=>⟨o,k b o hc e⟩) (fun b xs e=>by rw [a9 (aL e hn)]; exact e) (fun b o u e=>by rw [a9 (aL e hn)]; exact e) (fun b ps e=>by rw [a9 (aL e hn)]; exact e) (fun m hm=>?_) (fun b u e=>?_) I.bare
 ·obtain ⟨_,f1,_,f3,f4,f5⟩:=f b hb
  exact ⟨f3,f1,f4,f5⟩
 ·obtain ⟨o,es,ep,ho,r⟩:=hm
  exact ⟨o,es,ep,k _ o (fun z=>(f _ z).2.1 rfl) ho,r⟩
 ·by_cases hb : b = a
  ·subst hb; rw [a8] at e; cases e; exact new
  ·rw [a9 hb] at e
   refine (I.hok b u e).stay (fun c v hc q=>k c v ?_ q) (fun c q=>?_) (fun c xs q=>?_) fun c o xs q=>?_
   ·rcases hc with z | z
    ·rw [z]; exact nit b u e
    ·exact nit c _ z
   ·rw [a9 (aL q hn)]; exact q
   ·rw [a9 (aL q hn)]; exact q
   ·rw [a9 (aL q hn)]; exact q
section
variable {X : Cx} {a b e : Expr} {pos : Pos} {p : Pos}
def ET (xs ys : List D) : List D:=List.zipWith (fun x y=>.tup [x,y]) xs ys
@[simp] def EU (fa fb : FE) : FA:=fun ρ=>(fa ρ).bind fun x=>(fb ρ).bind fun y=>(eM x.1).bind fun xs=>(eM y.1).map fun ys=>ET xs ys
theorem Eo {K : PySem.W.Frag} {B : Hp} {v : V} {d : D} {ds : List D} (h : Is K B v d) (e : eM d = some ds) : ∃ k a vs,v = .ref a/\SqK k K B a vs/\IsL K B vs ds:=by
 cases h with
 | tup ht hl=>cases e; exact ⟨false,_,_,rfl,ht,hl⟩
 | lst ht hl=>cases e; exact ⟨true,_,_,rfl,ht,hl⟩
 | _=>cases e
end
def unown1 (ρ : Env) (i : Nat) : Env:=match ρ[i]? with
 | some (some (d,true))=>ρ.set i (some (d,false))
 | _=>ρ
theorem StN.unown1 {K : PySem.W.Frag} {B0 H0 N H : Hp} {σ : St} {ρ : Env} (s : StN K B0 H0 N H σ ρ) (i : Nat) : StN K B0 H0 N H σ (unown1 ρ i):=by
 unfold DL.unown1
 split
 ·rename_i d hd
  obtain ⟨a,ob,h1,h2,h3,h4⟩:=s.ow i d hd
  have get : ∀ {j : Nat} {e : D} {b : Bool},(ρ.set i (some (d,false)))[j]? = some (some (e,b))->(i = j/\e = d/\b = false) ∨ (i ≠ j/\ρ[j]? = some (some (e,b))):=fun q=>by
   rcases bw q with ⟨z,p⟩ | ⟨z,p⟩
   ·cases p; exact .inl ⟨z,rfl,rfl⟩
   ·exact .inr ⟨z,p⟩
  have o : ∀ c,own σ (ρ.set i (some (d,false))) c->own σ ρ c/\c ≠ a:=fun c ⟨j,e,q1,q2⟩=>by
   rcases get q1 with ⟨_,_,z⟩ | ⟨ne,q⟩
   ·cases z
   ·exact ⟨⟨j,e,q,q2⟩,fun z=>by subst z; exact ne (s.inj i j _ _ _ hd q h1 q2)⟩
  have c : aJ (cut N (own σ ρ)) (cut N (own σ (ρ.set i (some (d,false))))):=cZ fun b u e q=>⟨e,fun z=>q (o b z).1⟩
  have na : ¬ own σ (ρ.set i (some (d,false))) a:=fun z=>(o a z).2 rfl
  refine ⟨s.bh,s.tb,s.ext,by rw [List.length_set]; exact s.len,fun j e q=>?_,fun j e q=>?_,fun j k b e f q q' z1 z2=>?_⟩
  ·rcases get q with ⟨rfl,rfl,_⟩ | ⟨_,q⟩
   ·exact ⟨_,h1,(h4.mono c).is (by rw [bV na]; exact h2)⟩
   ·obtain ⟨v,k1,k2⟩:=s.sh j e q
    exact ⟨v,k1,k2.mono c⟩
  ·rcases get q with ⟨_,_,z⟩ | ⟨_,q⟩
   ·cases z
   ·obtain ⟨a',o',k1,k2,k3,k4⟩:=s.ow j e q
    exact ⟨a',o',k1,k2,k3,k4.mono c⟩
  ·rcases get q with ⟨_,_,z⟩ | ⟨_,q⟩
   ·cases z
   ·rcases get q' with ⟨_,_,z⟩ | ⟨_,q'⟩
    ·cases z
    ·exact s.inj j k b e f q q' z1 z2
 ·exact s
@[simp] def gUn (is : List Nat) (g : FS) : FS:=fun ρ=>g (is.foldl unown1 ρ)
theorem StN.unowns {K : PySem.W.Frag} {B0 H0 N H : Hp} {σ : St} : ∀ (is : List Nat) {ρ : Env},StN K B0 H0 N H σ ρ->StN K B0 H0 N H σ (is.foldl DL.unown1 ρ)
 | [],_,s=>s
 | i :: is,_,s=>StN.unowns is (s.unown1 i)
theorem CL {K : PySem.W.Frag} {is : List Nat} {g : FS} {E : Ends} {σ : St} {H : Hp} (q : tDS K (gUn is g) E σ H) : tDS K g E σ H:=by
 obtain ⟨B0,H0,ρ,r,⟨N,s⟩,e,p⟩:=q
 exact ⟨B0,H0,_,r,⟨N,s.unowns is⟩,e,p⟩
theorem Ep {X : Cx} {st : Stmt} {g : FS} (is : List Nat) (h : JS X st g) : JS X st (gUn is g):=PS.to h fun _ _ _ q=>CL q
@[simp] def B8 : FS:=fun ρ=>some (.ct ρ)
@[simp] def EV : FS:=fun ρ=>some (.bk ρ)
@[simp] def EW : FS:=fun _=>none
section
variable {X : Cx} {pos : Pos}
theorem Az : JS X (.Continue pos) B8:=PS.to rG fun E σ H q=>by
 obtain ⟨B0,H0,ρ,r,s,e,p⟩:=q
 cases e
 exact p σ H s
end
inductive CRows (K : PySem.W.Frag) (P : Params) : List DictEntry->List (Str × D)->Prop where
 | nil : CRows K P [] []
 | tup {x : Str} {t : Tok} {h : Int} {a : Addr} {its : Array Value} {n : Nat} {osl : Array (Option Value)} {ds : List D} {r : List DictEntry} {kvs : List (Str × D)} (hh : h = PyData.keyHash P x)
   (l : K.lookup a = some ⟨.type "tuple",none,.seq its n,osl⟩) (f : (decide (its.size<=1000) && gc its.toList ds) = true) (tl : CRows K P r kvs) : CRows K P (⟨h,.str x t,.ref a⟩ :: r) ((x,.tup ds) :: kvs)
 | flat {x : Str} {t : Tok} {h : Int} {u : Value} {d : D} {r : List DictEntry} {kvs : List (Str × D)} (hh : h = PyData.keyHash P x) (f : qq u d = true) (tl : CRows K P r kvs) : CRows K P (⟨h,.str x t,u⟩ :: r) ((x,d) :: kvs)
theorem CRows.lit {K : PySem.W.Frag} {P : Params} : ∀ {es : List DictEntry} {kvs : List (Str × D)},CRows K P es kvs->PySem.W.KeysLit P es
 | _,_,.nil=>trivial
 | _,_,.tup hh _ _ tl=>⟨⟨_,_,rfl,hh⟩,tl.lit⟩
 | _,_,.flat hh _ tl=>⟨⟨_,_,rfl,hh⟩,tl.lit⟩
theorem CRows.find {K : PySem.W.Frag} {P : Params} (y : Str) : ∀ {es : List DictEntry} {kvs : List (Str × D)},CRows K P es kvs->match kvs.lookup y with
  | none=>es.find? (fun e=>Value.isStrOf y e.key) = none
  | some d=>∃ e v,es.find? (fun e=>Value.isStrOf y e.key) = some e/\aN v e.val/\∀ B,Is K B v d
 | _,_,.nil=>rfl
 | _,_,.tup (x:=x) (t:=t) (a:=a) (ds:=ds) hh l f tl=>by
  by_cases e : y = x
  ·subst e
   rw [List.lookup_cons_self]
   rw [Bool.and_eq_true] at f
   obtain ⟨vs,r,i⟩:=gd (K:=K) f.2
   exact ⟨_,.ref a,List.find?_cons_of_pos (by simp [Value.isStrOf]),rfl,fun B=>.tup (.inr ⟨_,_,_,l,rfl,rfl,Nat.le_of_lt (Nat.lt_of_le_of_lt (of_decide_eq_true f.1) (by decide)),r⟩) (i B)⟩
  ·have ih:=tl.find y
   rw [List.lookup_cons,beq_eq_false_iff_ne.mpr e]
   have nf : Value.isStrOf y (Value.str x t) = false:=by
    rw [Bool.eq_false_iff]
    intro z
    obtain ⟨t',q⟩:=Value.isStrOf_shape z
    injection q with q1
    exact e q1.symm
   simp only [List.find?_cons,nf]
   exact ih
 | _,_,.flat (x:=x) (t:=t) (u:=u) (d:=d) hh f tl=>by
  by_cases e : y = x
  ·subst e
   rw [List.lookup_cons_self]
   obtain ⟨v,r1,_⟩:=im (K:=K) (B:=fun _=>none) f
   refine ⟨_,v,List.find?_cons_of_pos (by simp [Value.isStrOf]),r1,fun B=>?_⟩
   obtain ⟨v',r1',i'⟩:=im (K:=K) (B:=B) f
   have : v' = v:=by have z1:=r1.abs; rw [r1'.abs] at z1; exact Option.some.inj z1
   subst this
   exact i'
  ·have ih:=tl.find y
   rw [List.lookup_cons,beq_eq_false_iff_ne.mpr e]
   have nf : Value.isStrOf y (Value.str x t) = false:=by
    rw [Bool.eq_false_iff]
    intro z
    obtain ⟨t',q⟩:=Value.isStrOf_shape z
    injection q with q1
    exact e q1.symm
   simp only [List.find?_cons,nf]
   exact ih
def oN (K : PySem.W.Frag) (P : Params) (a : Addr) (kvs : List (Str × D)) : Prop:=∃ es n,K.lookup a = some ⟨.type "dict",none,.dict es n,#[]⟩/\CRows K P es.toList kvs/\(a == sysModules) = false
theorem const_dict {K : PySem.W.Frag} {P : Params} {y : Str} {a : Addr} {es : Array DictEntry} {n : Nat} {kvs : List (Str × D)} (e : PySem.W.nsIn K mainGlobals y = some (some (.ref a))) (l : K.lookup a = some ⟨.type "dict",none,.dict es n,#[]⟩) (r : CRows K P es.toList kvs) (s : (a == sysModules) = false) :
  ∃ a,PySem.W.nsIn K mainGlobals y = some (some (.ref a))/\oN K P a kvs:=⟨a,e,es,n,l,r,s⟩
section
variable {X : Cx} {a b e : Expr} {pos : Pos} {x : Str} {p : Pos}
theorem oN.map {pins : List (Addr × Obj)} {σ : St} {H : Hp} {s : Shared} {d : Addr} {kvs : List (Str × D)} (I : Inv X pins σ H s) (h : oN X.K X.w.params d kvs) : ∃ f : Str->Option Value,s.heap.MapOf (strKind X.prog X.w) d f/\(d == sysModules) = false /\
  ∀ y,match kvs.lookup y with | none=>f y = none | some dd=>∃ u v,f y = some u/\aN v u/\∀ B,Is X.K B v dd:=by
 obtain ⟨es,n,l,r,sm⟩:=h
 refine ⟨_,PySem.W.mapOf_K I.kIn l r.lit,sm,fun y=>?_⟩
 have:=r.find y
 have ff : findBy Value.isStrOf es y = (es.toList.find? fun e=>Value.isStrOf y e.key).map (·.val):=by
  unfold findBy
  obtain ⟨es⟩:=es
  rw [List.find?_toArray]
 cases hl : kvs.lookup y with
 | none=>rw [hl] at this; dsimp only at this ⊢; rw [ff,this]; rfl
 | some dd =>
  rw [hl] at this
  obtain ⟨en,v,e1,e2,e3⟩:=this
  exact ⟨en.val,v,by rw [ff,e1]; rfl,e2,e3⟩
@[simp] def Fy (kvs : List (Str × D)) : D->Option (D × Bool)
 | .str y=>(kvs.lookup y).map fun d=>(d,false)
 | _=>none
@[simp] def cIn (kvs : List (Str × D)) : D->Option (D × Bool)
 | .str y=>some (.bl (kvs.lookup y).isSome,false)
 | _=>none
@[simp] def EX (kvs : List (Str × D)) : D->Option (D × Bool)
 | .str y=>some (.bl (!(kvs.lookup y).isSome),false)
 | _=>none
@[simp] def ge : List D->Option (D × Bool)
 | [.lst ds]=>some (.lst ds,true)
 | [.tup ds]=>some (.lst ds,true)
 | _=>none
@[simp] def dc : List D->Option (D × Bool)
 | [.lst ds]=>some (.tup ds,false)
 | [.tup ds]=>some (.tup ds,false)
 | _=>none
theorem CM : bR X (.type "list") (rDA X.K ge):=by
 refine bR.to pX fun xs H Q q=>?_
 obtain ⟨B,ds,d,bb,sB,i,ee,q⟩:=q
 cases i with
 | nil=>simp [ge] at ee
 | cons i1 i2 =>
  cases i2 with
  | cons _ _=>cases i1 <;> simp [ge] at ee
  | nil =>
   cases i1 <;> try (simp [ge] at ee; done)
   ·rename_i l0 vs es h hl
    simp only [ge] at ee
    cases ee
    refine ⟨_,_,rfl,.inr (aX sB h),fun l hp=>?_⟩
    have xt:=Ext.laid (o:=.lst vs) sB hp
    exact q _ _ _ xt (.lst (SqL.of a8) (hl.mono xt.bn)) fun _=>⟨_,_,_,rfl,rfl,hp,a8,hl.mono xt.bn⟩
   ·rename_i l0 vs es h hl
    simp only [ge] at ee
    cases ee
    refine ⟨_,_,rfl,.inl (sB.seq h),fun l hp=>?_⟩
    have xt:=Ext.laid (o:=.lst vs) sB hp
    exact q _ _ _ xt (.lst (SqL.of a8) (hl.mono xt.bn)) fun _=>⟨_,_,_,rfl,rfl,hp,a8,hl.mono xt.bn⟩
theorem qu : bR X (.type "tuple") (rDA X.K dc):=by
 refine bR.to oi fun xs H Q q=>?_
 obtain ⟨B,ds,d,bb,sB,i,ee,q⟩:=q
 cases i with
 | nil=>simp [dc] at ee
 | cons i1 i2 =>
  cases i2 with
  | cons _ _=>cases i1 <;> simp [dc] at ee
  | nil =>
   cases i1 <;> try (simp [dc] at ee; done)
   ·rename_i l0 vs es h hl
    simp only [dc] at ee
    cases ee
    exact ⟨_,_,rfl,.inr ⟨aX sB h,q.one sB (.tup h hl)⟩⟩
   ·rename_i l0 vs es h hl
    simp only [dc] at ee
    cases ee
    refine ⟨_,_,rfl,.inl ⟨sB.seq h,fun l hp=>?_⟩⟩
    have xt:=Ext.laid (o:=.tup vs) sB hp
    exact q _ _ _ xt (.tup (SqT.of a8) (hl.mono xt.bn)) (by simp)
end
section
variable {X : Cx} {a b e : Expr} {pos : Pos} {x : Str} {p : Pos}
@[simp] def Fm (is : List Nat) (f : FE) : FS:=fun ρ=>(f ρ).bind fun x=>(eM x.1).bind fun ds=>(du is ds (if bo ds = true then ρ else unown ρ)).map .nx
@[simp] def Fz (i : Nat) (fk fv : FE) : FS:=fun ρ=>match ρ[i]? with
 | some (some (.lst ds,true))=>(fv ρ).bind fun v=>(fk ρ).bind fun k=>match k.1 with
  | .int j=>(ixN ds.length j).bind fun n=>if bc v.1 = true then some (.nx (ρ.set i (some (.lst (ds.set n v.1),true)))) else none
  | _=>none
 | _=>none
@[simp] def F0 (i : Nat) (g : List D->Option (List D)) : FS:=fun ρ=>match ρ[i]? with
 | some (some (.lst ds,true))=>(g ds).map fun es=>.nx (ρ.set i (some (.lst es,true)))
 | _=>none
@[simp] def F3 (i : Nat) (f : FE) : FS:=fun ρ=>match ρ[i]? with
 | some (some (.lst ds,true))=>(f ρ).bind fun x=>match x.1 with
  | .lst es=>if x.2 = true/\bo es = true/\ds.length + es.length<=sizeLine then some (.nx (ρ.set i (some (.lst (ds ++ es),true)))) else none
  | _=>none
 | _=>none
@[simp] def F4 : List D->Option (D × Bool)
 | [.int i]=>some (.int i,false)
 | [.bl b]=>some (.int (if b then 1 else 0),false)
 | _=>none
end
open AutoSeq1 (wpAny_loadPart')
set_option maxRecDepth 100000
def sqT (k : Bool) : String:=if k = true then "list" else "tuple"
theorem sq (k : Bool) (l : Addr) (items : Array Value) (n : Nat) (dct : Option Addr) (sl : Array (Option Value)) :
  Meets (Builtin.«enumerate.__new__» ⟨[.type "enumerate",.ref l],[]⟩) (fun _ R s=>s.heap.get? l = some { cls:=.type (sqT k),dict:=dct,data:=.seq items n,slots:=sl } /\
   R (.ok (.ret (.ref (s.heap.push (itO k l)).objs.size))) { s with heap:=(s.heap.push (itO k l)).push { cls:=.type "enumerate",data:=.fields #[.none,.bool false,.ref s.heap.objs.size,rawInt 0,.none,.none] } }) :=
 .of_wp fun prog w A R s hs=>by
  obtain ⟨hp,g,d,tk,os⟩:=s; obtain ⟨hl,hs⟩:=hs
  have hsub:=sub_enumerate
  have hL : KSq k (Shared.heap ⟨hp,g,d,tk,os⟩) l items:=by cases k <;> exact ⟨_,hl,rfl,n,rfl⟩
  wp_walk using wpAny_loadPart' hl
  refine wpAny_stack_any fun st=>wY ?_
  split
  ·rename_i c _ _ _ _ _
   cases (c == Value.type "enumerate")
   ·wp_walk using wpAny_loadPart' hl,qr hL
    exact ⟨_,rfl,hs⟩
   ·wp_walk using wpAny_loadPart' hl,qr hL
    exact ⟨_,rfl,hs⟩
  ·wp_walk using wpAny_loadPart' hl,qr hL
   exact ⟨_,rfl,hs⟩
section
variable {prog : Program} {w : World} {A : Around} {E : Value->Shared->Prop} {s : Shared}
theorem yK {k : Bool} {l : Addr} {items : Array Value} {Q : Value->Shared->Prop} (hL : KSq k s.heap l items)
  (q : ∀ h',IsEnum h' (s.heap.objs.size + 1) s.heap.objs.size 0 .none->KIt k h' s.heap.objs.size l 0->(∀ b o,s.heap.get? b = some o->h'.get? b = some o)->Q (.ref (s.heap.objs.size + 1)) { s with heap:=h' }) :
  wpAny (model prog w) A (call (.type "enumerate") [.ref l]) Q E s:=by
 have hh : ∃ (dct : Option Addr) (sl : Array (Option Value)) (n : Nat),s.heap.get? l = some { cls:=.type (sqT k),dict:=dct,data:=.seq items n,slots:=sl }:=by
  cases k <;> (obtain ⟨⟨c,dct,dt,sl⟩,hl,hc,n,hd⟩:=hL; dsimp only at hc hd; subst hc; subst hd; exact ⟨dct,sl,n,hl⟩)
 obtain ⟨dct,sl,n,hl⟩:=hh
 refine callType_new PySem.F.called_enumerate (by decide) (PySem.F.typeCall_enumerate_1 _) (PySem.F.newCall_enumerate_1 _) (fun obj=>PySem.F.args_object_init_2 obj _) PySem.F.entry_enumerate_new (sq k l items n dct sl) ⟨hl, ?_⟩
 have n1 : (s.heap.push (itO k l)).objs.size = s.heap.objs.size + 1:=Heap.size_push ..
 have g2 : ((s.heap.push (itO k l)).push { cls:=.type "enumerate",data:=.fields #[.none,.bool false,.ref s.heap.objs.size,rawInt 0,.none,.none] }).get? (s.heap.push (itO k l)).objs.size = some _:=Heap.get?_push_size _ rfl
 have g1 : ((s.heap.push (itO k l)).push { cls:=.type "enumerate",data:=.fields #[.none,.bool false,.ref s.heap.objs.size,rawInt 0,.none,.none] }).get? s.heap.objs.size = some _:=Heap.get?_push_of_some _ (Heap.get?_push_size _ (by cases k <;> rfl))
 rw [n1] at g2
 show _/\_
 rw [n1]
 refine ⟨⟨_,g2,rfl⟩,q _ g2 ?_ fun b o e=>Heap.get?_push_of_some _ (Heap.get?_push_of_some _ e)⟩
 cases k <;> exact ⟨_,g1,rfl,rfl⟩
theorem CN (hA : A.handled = none) {k : Bool} (it l : Addr) (hne : l ≠ it) (items : Array Value) : Draws prog w A it [it,l] items.size (fun i v=>items[i]? = some v) (fun i h=>KIt k h it l i/\KSq k h l items) where
 live:=fun i h st=>let ⟨o,e,_⟩:=st.1.ob; ⟨o,e⟩
 frame:=fun i h h' st kk=>⟨st.1.upon fun o e=>kk it (by simp) o e,st.2.upon fun o e=>kk l (by simp) o e⟩
 item:=fun i s Q E hi st q=>xc st.1 st.2 (v:=items[i]) (by simp [hi]) fun h' st' sb=>q _ h' s.toks (by simp [hi]) ⟨st',st.2.upon fun o e=>sb.extBut _ _ hne e⟩ sb
 done:=fun s Q E st q=>sn hA st.1 st.2 (by simp) q
theorem CO (hA : A.handled = none) {k : Bool} (it l : Addr) (items : Array Value) (n : Nat) (hn : items[n]? = none) : Draws prog w A it [it,l] n (fun _ _=>True) (fun i h=>(KIt k h it l i/\KSq k h l items)/\i = n) where
 live:=fun i h st=>let ⟨o,e,_⟩:=st.1.1.ob; ⟨o,e⟩
 frame:=fun i h h' st kk=>⟨⟨st.1.1.upon fun o e=>kk it (by simp) o e,st.1.2.upon fun o e=>kk l (by simp) o e⟩,st.2⟩
 item:=fun i s Q E hi st q=>absurd st.2 (Nat.ne_of_lt hi)
 done:=fun s Q E st q=>sn hA st.1.1 st.1.2 hn q
end
def Ite (K : PySem.W.Frag) (k : Bool) (a : Addr) : It :=
  ⟨fun i H=>∃ xs x,SqK k K H a xs/\xs[i]? = some x,
   fun i H v H'=>∃ T x,v = .ref T/\H T = none/\H' = upd H T (.tup [.int i,x])/\∀ xs,SqK k K H a xs->xs[i]? = some x,
   fun i H=>∃ xs,SqK k K H a xs/\xs.length<=i⟩
theorem xf {P : Program} {w : World} {K : PySem.W.Frag} {es : List Expr} {kt : Nat} {pt : Pos} {k : Bool} {a e it : Addr} (hei : e ≠ it) (hae : a ≠ e) (hai : a ≠ it) :
  Turn P w K (.Tuple es kt pt) (Ite K k a) [e,it] e (fun i h=>(∃ old,IsEnum h e it i old)/\KIt k h it a i) where
 mem:=by simp
 obj:=fun i h st b hb=>by
  obtain ⟨⟨old,he⟩,t1⟩:=st
  simp at hb
  rcases hb with rfl | rfl
  ·exact ⟨_,he,fun v z=>by cases z⟩
  ·exact t1.ob
 keep:=fun i h h' st kk=>by
  obtain ⟨⟨old,he⟩,t1⟩:=st
  exact ⟨⟨old,kk e (by simp) _ he⟩,t1.upon fun o q=>kk it (by simp) o q⟩
 item:=by
  intro X hP hw hK hc i pins s σ H E I hf st hg
  subst hP hw hK
  obtain ⟨⟨old,he⟩,t1⟩:=st
  obtain ⟨xs,x,q1,hx⟩:=hg
  obtain ⟨its,r1,p1,z1⟩:=q1.vals I
  obtain ⟨u,hu,ru⟩:=r1.get hx
  have fresh : H s.heap.objs.size = none:=I.hok.fresh (Nat.le_refl _)
  have ilt : i < its.toArray.size:=by rw [List.size_toArray]; exact (List.getElem?_eq_some_iff.mp hu).1
  have hel : e ≠ s.heap.objs.size:=Nat.ne_of_lt (Heap.lt_size he)
  have hil : it ≠ s.heap.objs.size:=by obtain ⟨o,q,_⟩:=t1.ob; exact Nat.ne_of_lt (Heap.lt_size q)
  refine wpAny_pyNext_enum_itemD (CN (A:=X.A.in1) (I.ok.hd hc) it a hai its.toArray) he ⟨t1,p1⟩ ilt hei (by simp [hei,hae.symm]) fun v h' tk hv ho st' hT hsz hk=>?_
  have ev : v = u:=by
   have hv' : its[i]? = some v:=by simpa using hv
   rw [hu] at hv'; exact (Option.some.inj hv').symm
  subst ev
  refine ⟨_,rfl,wpAny_letOwnedTupleGo_enum (s:={ s with heap:=h',toks:=tk + 1 }) ho fun h2 he2 s2=>?_⟩
  have s2' : Heap.SameBut e h' h2:=s2
  have kk : ∀ b o,b ∉ [e,it]->s.heap.get? b = some o->h2.get? b = some o:=fun b o hb q=>s2'.extBut _ _ (fun z=>hb (by simp [z])) (hk b o (fun z=>hb (by simp [z])) (fun z=>hb (by simp [z])) q)
  have new : bD X.prog X.w (upd H s.heap.objs.size (.tup [.int i,x])) h2 s.heap.objs.size (.tup [.int i,x]):=⟨by show 2<=sizeLine; decide,[.int i tk,v],.cons ⟨tk,rfl⟩ (.cons ru .nil),⟨_,s2'.extBut _ _ hel.symm hT,rfl,_,rfl⟩⟩
  refine ⟨.ref s.heap.objs.size,upd H s.heap.objs.size (.tup [.int i,x]),En (s:=s) (t':=tk + 1) I hf kk (Nat.le_refl _) new,rfl,⟨_,x,rfl,fresh,rfl,fun zs hq=>by rw [SqK.inj I hq q1]; exact hx⟩, ?_,fun b hb=>?_⟩
  ·exact ⟨⟨_,by have:=he2; rw [show ((i : Int) + 1) = ((i + 1 : Nat) : Int) by omega] at this; exact this⟩,st'.1.upon fun o q=>s2'.extBut _ _ hei.symm q⟩
  ·have hne : b ≠ s.heap.objs.size:=by
    simp at hb
    rcases hb with rfl | rfl
    ·exact hel
    ·exact hil
   rw [a9 hne]; exact (hf b hb).1
 done:=by
  intro X hP hw hK hc i pins s σ H E I hf st hg
  subst hP hw hK
  obtain ⟨⟨old,he⟩,t1⟩:=st
  obtain ⟨xs,q1,hl⟩:=hg
  obtain ⟨its,r1,p1,z1⟩:=q1.vals I
  have n1:=r1.length
  refine wpAny_pyNext_enum_endD (CO (A:=X.A.in1) (I.ok.hd hc) it a its.toArray i (by simp; omega)) he ⟨⟨t1,p1⟩,rfl⟩ fun h' hk=>⟨rfl, ?_⟩
  exact qt (t':=s.toks) I hf fun b o hb q=>hk b o (fun z=>hb (by simp [z])) q
 self:=fun _ _ _ _ _ st h=>let ⟨⟨_,he⟩,_⟩:=st; wpAny_pyIter_enum he h
section
variable {X : Cx} {a b e : Expr} {pos : Pos} {p : Pos}
theorem sr : bootBuiltins "enumerate" = some (.type "enumerate"):=by decide +kernel
def j8 (ds : List D) : List D:=ds.mapIdx fun i d=>.tup [.int i,d]
@[simp] def vL (fa : FE) : FA:=fun ρ=>(fa ρ).bind fun x=>(eM x.1).map j8
theorem A0 {K : PySem.W.Frag} {N : Hp} {k : Bool} {l : Addr} {vs : List V} {ds : List D} (h1 : SqK k K N l vs) (i1 : IsL K N vs ds) : qd K (Ite K k l) N (j8 ds):=by
 intro i H' sm
 have n1:=i1.length
 refine ⟨fun d ed=>?_,fun hl=>⟨vs,h1.same sm, ?_⟩⟩
 ·unfold j8 at ed
  rw [List.getElem?_mapIdx] at ed
  obtain ⟨x,e1,rfl⟩:=oY ed
  obtain ⟨v,ev,iv⟩:=i1.get e1
  refine ⟨⟨vs,v,h1.same sm,ev⟩,fun r H2 hy=>?_⟩
  obtain ⟨T,v',rfl,hT,rfl,f1⟩:=hy
  have e3:=f1 vs (h1.same sm)
  rw [ev] at e3; cases e3
  have xt:=Ext.laid (o:=.tup [.int i,v]) sm hT
  exact ⟨_,xt,.tup (SqT.of a8) (.cons (.int _) (.cons (iv.mono xt.bn) .nil))⟩
 ·unfold j8 at hl
  rw [List.length_mapIdx] at hl
  omega
theorem vM {es : List Expr} {kt : Nat} {pt : Pos} {fa : FE} (hm : X.mg "enumerate" = none) (ha : JE X a fa) (hg : Gl X "enumerate":=by rfl) (hs : starEach [a] X.env = [(false,eval a X.env)]:=by rfl) :
  JI X (.Tuple es kt pt) (.Call (.Name "enumerate" p) [a] [] pos) (vL fa):=by
 intro pins s σ H R I q
 refine Call_ (iU I hg hm sr (PyProof.Rows.callWith_type1 (thn (ab ha ag hs pos pins s σ H (fun vs H1=>∃ (k : Bool) (l : Addr) (us : List V),vs = [.ref l]/\SqK k X.K H1 l us/\R (Ite X.K k l) H1) I ?_) fun us s1 ⟨vs,H1,I1,r1,q1⟩=>?_) hs rfl))
 ·obtain ⟨B,ρ,ds,sB,r,ee,q⟩:=q
  obtain ⟨x1,ex,ee⟩:=oX ee
  obtain ⟨xs,exs,ee⟩:=oY ee
  subst ee
  refine ⟨B,ρ,[x1.1],sB,r,by simp [ac,aj,ex],fun vs H1 N1 xt i1=>?_⟩
  cases i1 with
  | cons j1 j2 =>
   cases j2
   obtain ⟨k1,l1,us,rfl,s1,m1⟩:=Eo j1 exs
   exact ⟨k1,l1,us,rfl,s1.same xt.nh,q _ H1 N1 xt (A0 s1 m1)⟩
 ·obtain ⟨k,l,ws,rfl,h1,q⟩:=q1
  obtain ⟨u1,rfl,ru1⟩:=r1.one
  cases ru1
  obtain ⟨its,v1,p1,z1⟩:=h1.vals I1
  have lt1:=p1.lt
  refine yK p1 fun h' c1 c2 ck=>?_
  refine wpAny_pyIter_enum c1 ⟨s1.heap.objs.size + 1,[s1.heap.objs.size + 1,s1.heap.objs.size],_,_,H1,rfl,I1.kept (t':=s1.toks) ck,
   xf (Nat.succ_ne_self _) (Nat.ne_of_lt (Nat.lt_succ_of_lt lt1)) (Nat.ne_of_lt lt1),⟨⟨_,c1⟩,c2⟩,fun b hb=>?_,q⟩
  have hle : s1.heap.objs.size<=b:=by
   simp at hb
   rcases hb with rfl | rfl
   ·exact Nat.le_succ _
   ·exact Nat.le_refl _
  exact I1.fpOk hle (I1.hok.fresh hle)
end
end DL
namespace DL
open PySem PySem.Spec PyProof.Rows
theorem xg (t : SetTable) (es : Array (Int × Value)) (n : Nat) : (relayAll t es n).2.1.led = t.led:=by
 unfold relayAll
 split
 ·rename_i t' order h
  unfold SetTable.relaid SetTable.laid at h
  obtain ⟨ow,_,h⟩:=oX h
  cases h
  dsimp only
  split <;> rfl
 ·rfl
theorem su (t : SetTable) (es : Array (Int × Value)) (n : Nat) (hp : t.plain = false) : (relayAll t es n).2.1.plain = false:=by
 unfold relayAll
 split
 ·rename_i t' order h
  unfold SetTable.relaid SetTable.laid at h
  obtain ⟨ow,_,h⟩:=oX h
  cases h
  dsimp only
  split
  ·exact hp
  ·rfl
 ·rfl
theorem A1 (t : SetTable) (es : Array (Int × Value)) (h : Int) (x : Value) : (layNew t es h x).2.1.led = t.led:=by
 unfold layNew
 split
 ·dsimp only [SetTable.put,SetTable.orStandIn]
  repeat' (first | rfl | split)
 ·rfl
structure TabT (w : World) (es : Array (Int × Value)) (t : SetTable) : Prop where
 fits : t.fits es.size = true
 led : t.led = !w.params.followText "set-order"
 plain : es.size ≠ 0->t.plain = false
def fm (prog : Program) (w : World) (h : Heap) (a : Addr) (ts : List Str) : Prop :=
 ∃ o es ep t,h.get? a = some o/\o.ExactSet/\o.data = .set es ep t/\ElemsOf (PySem.strKind prog w) es.toList/\(es.toList.map (fun e=>strOf e.2)).Perm ts/\ts.Nodup/\ts.length < scanBound/\TabT w es t
def gf (ts : List Str) (x : Str) : List Str:=if x ∈ ts then ts else ts ++ [x]
theorem yL (ts : List Str) (x : Str) : (gf ts x).length<=ts.length + 1:=by unfold gf; split <;> simp
theorem sv {k : Str} {v : Value} (h : Value.isStrOf k v = true) : strOf v = k:=by obtain ⟨t,rfl⟩:=Value.isStrOf_shape h; rfl
section
variable {prog : Program} {w : World} {A : Around} {E : Value->Shared->Prop} {s : Shared}
theorem oP {es : Array (Int × Value)} {ts : List Str} (hel : ElemsOf (PySem.strKind prog w) es.toList) (hp : (es.toList.map (fun e=>strOf e.2)).Perm ts) (k : Str) : k ∈ ts ↔ ∃ e ∈ es.toList,(PySem.strKind prog w).is k e.2 = true:=by
 rw [← hp.mem_iff,List.mem_map]
 constructor
 ·rintro ⟨e,he,rfl⟩
  obtain ⟨⟨k',hk,_⟩,_⟩:=hel e he
  have hk' : Value.isStrOf k' e.2 = true:=hk
  refine ⟨e,he, ?_⟩
  show Value.isStrOf (strOf e.2) e.2 = true
  rw [sv hk']; exact hk'
 ·rintro ⟨e,he,hk⟩
  exact ⟨e,he,sv hk⟩
theorem oQ {h : Heap} {a : Addr} {o : Obj} {es : Array (Int × Value)} {ep : Nat} {t : SetTable} (ho : h.get? a = some o) (hd : o.data = .set es ep t) (es' : Array (Int × Value)) (t' : SetTable) :
  (h.update a (Obj.putSet es' t')).get? a = some { o with data:=.set es' (ep + 1) t' }:=by
 have:=Heap.get?_update_self (Obj.putSet es' t') ho (by rw [putSet_of es' t' hd]; rfl)
 rw [putSet_of es' t' hd] at this; exact this
theorem sw {g : Bool->Sem Unit} (hg : ∀ (b : Bool) (s₁ : Shared) (Q' : Unit->Shared->Prop),Q' () s₁->wpAny (model prog w) A (g b) Q' E s₁)
  {a : Addr} {o : Obj} {es : Array (Int × Value)} {ep : Nat} {t : SetTable} (ho : s.heap.get? a = some o) (hex : o.ExactSet) (hd : o.data = .set es ep t)
  {es1 : Array (Int × Value)} {t2 : SetTable} {ts : List Str} (hel1 : ElemsOf (PySem.strKind prog w) es1.toList) (hp1 : (es1.toList.map (fun e=>strOf e.2)).Perm ts) (nd : ts.Nodup)
  (hb1 : ts.length < scanBound) (hf2 : t2.fits es1.size = true) (hl2 : t2.led = !w.params.followText "set-order") (hpl : t2.plain = false) {wasDummy : Bool} {R : Option Bool->Shared->Prop}
  (h : ∀ h',Heap.SameBut a s.heap h'->fm prog w h' a ts->R (some true) { s with heap:=h' }) :
  wpAny (model prog w) A (do
    storeSet a es1 t2
    if (!wasDummy && t2.tooFull) = true then do
      g (relayAll t2 es1 (SetTable.grown es1.size)).2.2
      storeSet a (relayAll t2 es1 (SetTable.grown es1.size)).1 (relayAll t2 es1 (SetTable.grown es1.size)).2.1
      pure (some true)
     else pure (some true)) R E s:=by
 have sz1 : es1.size = ts.length:=by rw [← hp1.length_eq,List.length_map,Array.length_toList]
 refine wX (wpAny_storeSet_of ho hd ?_ (fits_of_scanBound (by rw [sz1]; exact hb1)))
 have ho1:=oQ ho hd es1 t2
 have hsb1:=Heap.SameBut.update s.heap a (Obj.putSet es1 t2)
 split
 ·have hp:=relayAll_perm t2 es1 (SetTable.grown es1.size)
  have hfr:=relayAll_fits t2 es1 (SetTable.grown es1.size)
  have hle:=xg t2 es1 (SetTable.grown es1.size)
  have hpa:=su t2 es1 (SetTable.grown es1.size) hpl
  generalize hRl : relayAll t2 es1 (SetTable.grown es1.size) = Rl at hp hfr hle hpa ⊢
  obtain ⟨es2,t3,gave2⟩:=Rl
  dsimp only at hp hfr hle hpa ⊢
  have hel2 : ElemsOf (PySem.strKind prog w) es2.toList:=hel1.perm hp
  have hsz : es2.size = es1.size:=by rw [← Array.length_toList,hp.length_eq,Array.length_toList]
  refine wX (hg _ _ _ ?_)
  refine wX (wpAny_storeSet_of ho1 rfl ?_ (fits_of_scanBound (by rw [hsz,sz1]; exact hb1)))
  have ho2:=oQ ho1 rfl es2 t3
  exact wY (h _ (hsb1.trans (Heap.SameBut.update _ a _)) ⟨_,es2,_,t3,ho2,hex,rfl,hel2,(hp.map _).trans hp1,nd,hb1,hfr,hle.trans hl2,fun _=>hpa⟩)
 ·exact wY (h _ hsb1 ⟨_,es1,_,t2,ho1,hex,rfl,hel1,hp1,nd,hb1,hf2,hl2,fun _=>hpl⟩)
theorem u9 {a : Addr} {ts : List Str} {k : Str} {tk : Tok} {Q : Bool->Shared->Prop} (hS : fm prog w s.heap a ts) (hroom : ts.length + 1 < scanBound)
  (h : ∀ b h',Heap.SameBut a s.heap h'->fm prog w h' a (gf ts k)->Q b { s with heap:=h' }) :
  wpAny (model prog w) A (setAddHashed a (.str k tk) ((PySem.strKind prog w).hash k)) Q E s:=by
 have hS0:=hS
 obtain ⟨o,es,ep,t,ho,hex,hd,hel,hperm0,nd,hb,hf,hled,hpl⟩:=hS
 have hkey : (PySem.strKind prog w).is k (.str k tk) = true:=strKind_is prog w k tk
 have sz : es.size = ts.length:=by rw [← hperm0.length_eq,List.length_map,Array.length_toList]
 unfold setAddHashed setAddHashedIn
 refine wpAny_holding (wX (wpAny_setState_of ho hd hf ?_))
 dsimp only
 rw [byScan_of (x:=.str k tk) rfl (by rw [sz]; exact hb) hel]
 simp only [↓reduceIte]
 unfold setAddByScan
 refine wX ?_
 refine wX (wpAny_rule ?_)
 refine wX (wpAny_setScan_of hkey ho hd hf hel ?_)
 cases hr : List.findIdx? (fun e=>(PySem.strKind prog w).is k e.2) es.toList with
 | some j =>
  dsimp only
  obtain ⟨hj,hpj,_⟩:=List.findIdx?_eq_some_iff_getElem.mp hr
  have hm : k ∈ ts:=(oP hel hperm0 k).mpr ⟨es.toList[j],List.getElem_mem hj,hpj⟩
  refine wY (wY ?_)
  have e : gf ts k = ts:=by unfold gf; rw [if_pos hm]
  exact h false s.heap (Heap.SameBut.refl a s.heap) (by rw [e]; exact hS0)
 | none =>
  dsimp only
  have hm : k ∉ ts:=fun z=>by
   obtain ⟨e,he,hp⟩:=(oP hel hperm0 k).mp z
   have:=List.findIdx?_eq_none_iff.mp hr e he
   rw [hp] at this; exact Bool.noConfusion this
  have ea : gf ts k = ts ++ [k]:=by unfold gf; rw [if_neg hm]
  have hgw : ∀ (b : Bool) {s₁ : Shared} {Q' : Unit->Shared->Prop},Q' () s₁->wpAny (model prog w) A (match b with | true=>rule "set.scan.the-table-gave-way" | false=>pure ()) Q' E s₁ :=
   fun b s₁ Q' hq=>by cases b <;> first | exact wY hq | exact wpAny_rule hq
  have hperm:=layNew_perm t es ((PySem.strKind prog w).hash k) (.str k tk)
  have hfits:=layNew_fits t es ((PySem.strKind prog w).hash k) (.str k tk)
  have hl1:=A1 t es ((PySem.strKind prog w).hash k) (.str k tk)
  generalize hL : layNew t es ((PySem.strKind prog w).hash k) (.str k tk) = L at hperm hfits hl1 ⊢
  obtain ⟨es1,t1,wasDummy,gave⟩:=L
  dsimp only at hperm hfits hl1 ⊢
  rw [Array.toList_push] at hperm
  have hel1 : ElemsOf (PySem.strKind prog w) es1.toList:=(hel.push hkey rfl).perm hperm
  have hp1 : (es1.toList.map (fun e=>strOf e.2)).Perm (ts ++ [k]):=(hperm.map _).trans (by rw [List.map_append]; exact hperm0.append_right _)
  have nd1 : (ts ++ [k]).Nodup:=by
   rw [List.nodup_append]
   refine ⟨nd,by simp,fun x hx y hy=>?_⟩
   rw [List.mem_singleton] at hy
   subst hy
   exact fun z=>hm (z ▸ hx)
  have hb1 : (ts ++ [k]).length < scanBound:=by rw [List.length_append]; exact hroom
  refine wX (hgw _ ?_)
  have hend : ∀ h',Heap.SameBut a s.heap h'->fm prog w h' a (ts ++ [k])->Q true { s with heap:=h' }:=fun h' hsb hS'=>h true h' hsb (by rw [ea]; exact hS')
  split
  ·refine wX ?_
   rw [hashByValue_scannable 8 (x:=.str k tk) rfl]
   refine wY ?_
   refine sw ?_ ho hex hd hel1 hp1 nd1 hb1 ?_ ?_ ?_ ?_
   ·intro b s₁ Q' hq; cases b <;> first | exact wY hq | exact wpAny_rule hq
   ·exact SetTable.fits_plain_off hfits
   ·exact hl1.trans hled
   ·rfl
   ·intro h' hsb hS'; dsimp only; exact wY (hend h' hsb hS')
  ·rename_i hnp
   refine wX (wY ?_)
   simp only [↓reduceIte]
   refine sw ?_ ho hex hd hel1 hp1 nd1 hb1 hfits (hl1.trans hled) (by simpa using hnp) ?_
   ·intro b s₁ Q' hq; cases b <;> first | exact wY hq | exact wpAny_rule hq
   ·intro h' hsb hS'; dsimp only; exact wY (hend h' hsb hS')
end
def eG (ss : List Str) : List Str:=ss.foldl gf []
theorem uA {ts : List Str} (h : ts.Nodup) (x : Str) : (gf ts x).Nodup:=by
 unfold gf; split
 ·exact h
 ·rename_i hm
  rw [List.nodup_append]
  refine ⟨h,by simp,fun y hy z hz=>?_⟩
  rw [List.mem_singleton] at hz
  subst hz
  exact fun e=>hm (e ▸ hy)
theorem md {ts : List Str} {x y : Str} : y ∈ gf ts x ↔ y ∈ ts ∨ y = x:=by
 unfold gf; split
 ·rename_i hm; exact ⟨.inl,fun z=>z.elim id fun e=>e ▸ hm⟩
 ·simp
theorem qw (ss : List Str) : ∀ ts : List Str,(ss.foldl gf ts).length<=ts.length + ss.length:=by
 induction ss with
 | nil=>intro ts; simp
 | cons x r ih=>intro ts; rw [List.foldl_cons]; have:=ih (gf ts x); have:=yL ts x; simp only [List.length_cons]; omega
theorem mf (ss : List Str) : (eG ss).length<=ss.length:=by have:=qw ss []; simpa [eG] using this
theorem xh (ss : List Str) (x : Str) : eG (ss ++ [x]) = gf (eG ss) x:=by unfold eG; rw [List.foldl_append]; rfl
theorem StrsAre.at : ∀ {vs : List Value} {ss : List Str},StrsAre vs ss->∀ (i : Nat) (v : Value),vs[i]? = some v->∃ x t,v = .str x t/\ss[i]? = some x
 | _,_,.nil,i,v,h=>by simp at h
 | _,_,.cons x t hr,0,v,h=>by simp at h; exact ⟨x,t,h.symm,rfl⟩
 | _,_,.cons x t hr,i + 1,v,h=>by
  simp only [List.getElem?_cons_succ] at h
  exact StrsAre.at hr i v h
theorem fm.at {prog : Program} {w : World} {h h' : Heap} {a : Addr} {ts : List Str} (x : fm prog w h a ts) (k : ∀ o,h.get? a = some o->h'.get? a = some o) : fm prog w h' a ts:=by
 obtain ⟨o,es,ep,t,ho,r⟩:=x
 exact ⟨o,es,ep,t,k o ho,r⟩
section
variable {prog : Program} {w : World} {A : Around} {R : Result->Shared->Prop} {I : Addr} {fp wr : List Addr} {G : Array GenState->Array GenState->Prop} {n : Nat} {P : Nat->Value->Prop} {St : Nat->Shared->Prop}
theorem qx (W : WalksS prog w A.in1 I fp wr G n P St) (S : Addr) (hSf : S ∉ fp) (ss : List Str) (hn : ss.length = n)
  (hval : ∀ i v,P i v->∃ x t,v = .str x t/\ss[i]? = some x) (hb : n + 1 < scanBound) :
  ∀ (k i : Nat) (s : Shared),n - i = k->i<=n->St i s->fm prog w s.heap S (eG (ss.take i)) ->
   (∀ s',Moved (S :: wr) G s s'->fm prog w s'.heap S (eG ss)->R (.ok (.ret .none)) s') ->
   codeAny (model prog w) A (.builtin "set.update.loop" ⟨[.ref S,.ref I],[]⟩) R s:=by
 have hSw : S ∉ wr:=fun h=>hSf (W.sub _ h)
 have hsub : ∀ b ∈ wr,b ∈ S :: wr:=fun b hb=>mZ _ hb
 intro k
 induction k with
 | zero =>
  intro i s hk hi hst hS hR
  have hin : i = n:=by omega
  subst hin
  refine codeAny_builtin PyProof.Rows.F.entry_set_update_loop ?_
  rw [Around.under_plainId PyProof.Rows.F.plain_set_update_loop _]
  show wpAny _ A.in1 (pyNext (.ref I) >>= _) _ _ s
  refine wX (W.done s _ _ hst fun s' hm=>?_)
  show wpAny _ A.in1 (ret Value.none) _ _ s'
  refine wY (hR s' (hm.mono hsub) ?_)
  rw [List.take_of_length_le (by omega)] at hS
  exact hS.at fun o e=>hm.heap S _ hSw e
 | succ k ih =>
  intro i s hk hi hst hS hR
  have hlt : i < n:=by omega
  refine codeAny_builtin PyProof.Rows.F.entry_set_update_loop ?_
  rw [Around.under_plainId PyProof.Rows.F.plain_set_update_loop _]
  show wpAny _ A.in1 (pyNext (.ref I) >>= _) _ _ s
  refine wX (W.item i s _ _ hlt hst fun v s' hP hst' hm=>?_)
  obtain ⟨x,t,rfl,hx⟩:=hval i v hP
  have hS' : fm prog w s'.heap S (eG (ss.take i)):=hS.at fun o e=>hm.heap S _ hSw e
  show wpAny _ A.in1 (holding [Value.str x t] (setAdd S (.str x t)) >>= _) _ _ s'
  refine wX (wpAny_holding ?_)
  unfold setAdd
  refine wpAny_holding ?_
  refine wX ((PySem.strKind prog w).pyHash (k:=x) (strKind_is prog w x t) ?_)
  have hl : (eG (ss.take i)).length + 1 < scanBound:=by have:=mf (ss.take i); rw [List.length_take] at this; omega
  refine u9 (s:={ s' with toks:=s'.toks + 1 }) hS' hl fun b h' hsb hS2=>?_
  have hS3 : fm prog w h' S (eG (ss.take (i + 1))):=by
   rw [List.take_add_one,hx,Option.toList_some,xh]; exact hS2
  refine wY ⟨plainId_quiet PyProof.Rows.F.plain_set_update_loop _,ih (i + 1) _ (by omega) hlt (W.frame _ s' _ _ hst' (Nat.le_succ _) fun b hb o e=>?_) hS3 fun s'' hm'' hS''=>?_⟩
  ·rw [hsb.2 b (fun h : b = S=>hSf (by rw [← h]; exact hb))]; exact e
  ·refine hR s'' (Moved.trans W.gtrans ((hm.mono hsub).then_heap (Nat.le_succ _) fun b o hb e=>?_) hm'') hS''
   rw [hsb.2 b (fun h : b = S=>hb (by rw [h]; exact mX))]; exact e
end
section
variable {prog : Program} {w : World} {A : Around} {E : Value->Shared->Prop} {s : Shared}
abbrev cO (w : World) : Obj:={ cls:=.type "set",dict:=none,data:=.set #[] 0 (.fresh 0 0 (!w.params.followText "set-order")) }
theorem sx (a : Value) {Q₁ : Value->Shared->Prop}
  (h : Q₁ (.ref s.heap.objs.size) { s with heap:=s.heap.push (cO w) }) :
  codeAny (model prog w) A (.call (.builtin "set.__new__") ⟨[.type "set",a],[]⟩) (wants Q₁ E) s:=by
 refine codeAny_of_tree ?_
 show wpAny _ A.in1 (do checkBuiltinCall "set.__new__" ⟨[.type "set",a],[]⟩; again (.builtin "set.__new__" ⟨[.type "set",a],[]⟩)) _ _ s
 refine wX (wpAny_of_eq (PySem.F.newCall_set_1 a) (wY ⟨plainId_quiet PySem.F.plain_set_new _,codeAny_builtin PySem.F.entry_set_new ?_⟩))
 rw [Around.under_plainId PySem.F.plain_set_new _]
 unfold Builtin.«set.__new__» Builtin.Frozenset.newClass
 have hsub:=sub_set_self
 obtain ⟨hp,g,d,tk,os⟩:=s
 dsimp only
 wp_walk
 refine wpAny_askSetting (wY ?_)
 dsimp only
 simp only [newObj]
 refine wX (wpAny_alloc (wY ?_))
 exact wY h
set_option maxHeartbeats 3200000 in
theorem mh {l : Addr} {items : Array Value} {ss : List Str} {Q : Value->Shared->Prop}
  (hh : A.handled = none) (hl : s.heap.IsList l items) (hi : StrsAre items.toList ss) (hb : items.size + 1 < scanBound)
  (h : ∀ (h' : Heap) (tk : Nat),fm prog w h' s.heap.objs.size (eG ss) ->
   (∀ b o,b < s.heap.objs.size->s.heap.get? b = some o->h'.get? b = some o)->Q (.ref s.heap.objs.size) { s with heap:=h',toks:=tk }) :
  wpAny (model prog w) A (call (.type "set") [.ref l]) Q E s:=by
 obtain ⟨c,tl,hmro⟩:=PySem.F.called_set.mro
 have hmade:=PySem.F.called_set.made
 have hsub:=PySem.F.called_set.sub
 refine wpAny_call (codeAny_of_tree ?_)
 show wpAny _ _ (callAny (.type "set") _) _ _ _
 refine wY ⟨Code.quiet_builtin _ (by decide +kernel),codeAny_builtin PySem.F.entry_type_call ?_⟩
 rw [Around.under_plain (weight_type_call_type "set" [.ref l] []) rfl]
 have h1:=PySem.F.called_set.notType
 have h2:=PySem.F.called_set.canCreate
 have hct:=PySem.F.typeCall_set_1 (.ref l)
 have hlen : ss.length = items.size:=by have:=hi.strs; rw [← this,List.length_map,Array.length_toList]
 repeat (any_goals (first | assumption | wp_step))
 refine codeAny_mono (sx (.ref l) (E:=E) (Q₁:=fun obj s₁=>obj = .ref s.heap.objs.size/\s₁ = { s with heap:=s.heap.push (cO w) }) ⟨rfl,rfl⟩) fun r s₁ hr=>?_
 cases r with
 | error e=>exact hr
 | ok fl =>
  cases fl with
  | ret obj =>
   obtain ⟨rfl,rfl⟩:=hr
   have hS : (s.heap.push (cO w)).get? s.heap.objs.size = some (cO w):=Heap.get?_push_size _ rfl
   have hT : Shared.TypeIs { s with heap:=s.heap.push (cO w) } (.ref s.heap.objs.size) "set":=⟨_,hS,rfl⟩
   have hli:=PySem.F.called_set.init.lookup
   have hbi:=PySem.F.called_set.init.bind (.ref s.heap.objs.size)
   repeat (any_goals (first | assumption | wp_step))
   refine codeAny_mono (codeAny_call_builtin (R:=wants (fun r s₂=>r = .none/\∃ h' tk,s₂ = { s with heap:=h',toks:=tk } /\
     fm prog w h' s.heap.objs.size (eG ss) /\
     (∀ b o,b < s.heap.objs.size->s.heap.get? b = some o->h'.get? b = some o)) E) PySem.F.called_set.init.plain PySem.F.entry_set_init (check_set_init_1 hT ?_)) fun r₂ s₂ hr₂=>?_
   ·obtain ⟨ol,hol,hcl,nl,hdl⟩:=hl
    obtain ⟨ocls,odict,odata,oslots⟩:=ol
    simp only at hcl hdl
    subst hcl; subst hdl
    have hol' : (s.heap.push (cO w)).get? l = some { cls:=.type "list",dict:=odict,data:=.seq items nl,slots:=oslots }:=Heap.get?_push_of_some _ hol
    have hsls:=PySem.F.sub_list_set
    have hslf:=PySem.F.sub_list_frozenset
    have hne : (Value.type "list" == Value.type "dict") = false:=by decide
    have hl1 : (s.heap.push (cO w)).IsList l items:=⟨_,hol',rfl,nl,rfl⟩
    unfold Builtin.«set.__init__» noKeywords Builtin.Frozenset.updateFrom
    generalize hPI : pyIter = PI
    wp_walk
    subst hPI
    refine wpAny_pyIter_list hl1 ?_
    refine wX (wpAny_runValue ?_)
    have hlS : l < s.heap.objs.size:=Heap.lt_size hol
    have hh3 : A.in1.in1.in1.handled = none:=by simp [hh]
    have hneI : l ≠ (s.heap.push (cO w)).objs.size:=by
     rw [Heap.size_push]; exact Nat.ne_of_lt (Nat.lt_succ_of_lt hlS)
    have hSf : s.heap.objs.size ∉ [(s.heap.push (cO w)).objs.size,l]:=by
     rw [Heap.size_push]; simp only [List.mem_cons,List.mem_singleton,List.not_mem_nil,or_false,not_or]
     exact ⟨Nat.ne_of_lt (Nat.lt_succ_self _),Nat.ne_of_gt hlS⟩
    have hval : ∀ (i : Nat) (v : Value),items[i]? = some v->∃ x t,v = .str x t/\ss[i]? = some x:=fun i v hv =>
     StrsAre.at hi i v (by rw [Array.getElem?_toList]; exact hv)
    refine qx ((Walks.list hh3 _ l hneI items).toS) s.heap.objs.size
     hSf ss hlen hval hb (items.size - 0) 0 _ (by omega) (Nat.zero_le _)
     ⟨⟨_,Heap.get?_push_size _ rfl,rfl,rfl⟩,(hl1.push _)⟩ ?hS0 ?hR
    case hS0 =>
     have hget : ((s.heap.push (cO w)).push { cls:=.type "list_iterator",data:=.fields #[.ref l,.int 0 0] }).get? s.heap.objs.size
       = some (cO w):=Heap.get?_push_of_some _ hS
     exact ⟨_,#[],0,_,hget,⟨rfl,rfl,rfl⟩,rfl,fun e he=>by simp at he,List.Perm.refl _,List.nodup_nil,(by show (0 : Nat) < scanBound; decide),rfl,rfl,fun z=>absurd rfl z⟩
    case hR =>
     intro s' hm hS'
     obtain ⟨h',g',d',tk',os'⟩:=s'
     have eg : g' = s.gens:=hm.gens
     have ed : d' = s.drawn:=hm.drawn
     have eo : os' = s.os:=hm.os
     subst eg; subst ed; subst eo
     show wpAny _ _ _ _ _ _
     refine wY ?_
     show wpAny _ _ (ret Value.none) _ _ _
     refine wY ⟨rfl,h',tk',rfl,hS',fun b o hb e=>?_⟩
     have hb1 : b ≠ s.heap.objs.size:=Nat.ne_of_lt hb
     have hb2 : b ≠ (s.heap.push (cO w)).objs.size:=by
      rw [Heap.size_push]; exact Nat.ne_of_lt (Nat.lt_succ_of_lt hb)
     exact hm.heap b o (by simp only [List.mem_cons,List.mem_singleton,List.not_mem_nil,or_false,not_or]; exact ⟨hb1,hb2⟩) (Heap.get?_push_of_some _ (Heap.get?_push_of_some _ e))
   ·cases r₂ with
    | error e=>exact hr₂
    | ok fl₂ =>
     cases fl₂ with
     | ret r =>
      obtain ⟨rfl,h',tk,rfl,hS',hk'⟩:=hr₂
      repeat (any_goals (first | assumption | wp_step))
      exact h _ _ hS' hk'
     | _=>exact hr₂.elim
  | _=>exact hr.elim
end
open Sem (wp)
section
variable {M : Model} {A : Around} {E : Value->Shared->Prop} {s : Shared}
theorem A2 {src : Source} {n : Nat} {Q : Nat->Shared->Prop} (hn : n ≠ 0) (h : ∀ k d,k < n->Q k { s with drawn:=d }) : wpAny M A (choose src n) Q E s:=by
 intro Γ p hG
 unfold choose
 rw [Sem.wp_choose]
 refine ⟨hn, ?_⟩
 have:=h _ (s.drawn.bump src) (Nat.mod_lt (M.w.draws src (s.drawn.get src)) (Nat.pos_of_ne_zero hn))
 simpa using this
end
theorem j9 {α : Type} : ∀ (l : List α) (i : Nat),i < l.length->(l.eraseIdx i).length = l.length - 1:=fun l i h=>by rw [List.length_eraseIdx,if_pos h]
theorem iZ {α : Type} : ∀ (l : List α) (i : Nat) (x : α),l[i]? = some x->(x :: l.eraseIdx i).Perm l
 | [],i,x,h=>by simp at h
 | a :: l,0,x,h=>by simp at h; subst h; exact List.Perm.refl _
 | a :: l,i + 1,x,h=>by
  rw [List.eraseIdx_cons_succ]
  simp only [List.getElem?_cons_succ] at h
  exact (List.Perm.swap a x _).trans ((iZ l i x h).cons a)
theorem vN {M : Model} {A : Around} {E : Value->Shared->Prop} {α : Type} : ∀ (n : Nat) (xs : List α) (s : Shared) (Q : List α->Shared->Prop),xs.length = n->(∀ ys d,ys.Perm xs->Q ys { s with drawn:=d })->wpAny M A (drawOrder n xs) Q E s
 | 0,xs,s,Q,hl,h=>by
  have : xs = []:=List.eq_nil_of_length_eq_zero hl
  subst this
  exact wY (h [] s.drawn (List.Perm.refl _))
 | n + 1,[],s,Q,hl,h=>by simp at hl
 | n + 1,x :: r,s,Q,hl,h=>by
  show wpAny M A (choose .order (x :: r).length >>= fun i=>match (x :: r)[i]? with
   | some x'=>(do return x' :: (← drawOrder n ((x :: r).eraseIdx i)))
   | none=>unsupported "internal:drawOrder") Q E s
  refine wX (A2 (by simp) fun k d hk=>?_)
  obtain ⟨y,hy⟩ : ∃ y,(x :: r)[k]? = some y:=⟨_,List.getElem?_eq_getElem hk⟩
  rw [hy]
  refine wX (vN n _ _ _ (by rw [j9 _ _ hk,hl]; rfl) fun ys d' hp=>wY (h _ _ ((hp.cons y).trans (iZ _ _ _ hy))))
theorem vO {α : Type} (next : Nat->Nat) : ∀ (fuel k : Nat) (left : List α) (out : Array α),left.length = fuel->(pickOrder.go next fuel k left out).toList.Perm (out.toList ++ left)
 | 0,k,left,out,hl=>by
  have : left = []:=List.eq_nil_of_length_eq_zero hl
  subst this
  unfold pickOrder.go
  simp
 | fuel + 1,k,left,out,hl=>by
  unfold pickOrder.go
  have hk : next k % left.length < left.length:=Nat.mod_lt _ (by omega)
  obtain ⟨y,hy⟩ : ∃ y,left[next k % left.length]? = some y:=⟨_,List.getElem?_eq_getElem hk⟩
  rw [hy]
  dsimp only
  refine (vO next fuel (k + 1) _ _ (by rw [j9 _ _ hk]; omega)).trans ?_
  rw [Array.toList_push,List.append_assoc]
  exact (iZ _ _ _ hy).append_left _
theorem xi {α : Type} (next : Nat->Nat) (xs : Array α) : (pickOrder next xs).toList.Perm xs.toList:=by
 have:=vO next xs.size 0 xs.toList #[] (by simp)
 simpa [pickOrder] using this
theorem aY : Slot "set_iterator" "__next__" "set_iterator.__next__" :=
 .of (owner:="set_iterator") (n:="__next__") (by rw [typeLookup_type,builtinLookup_eq_fast]; kernel_rfl) (by decide +kernel) (by decide +kernel) (by decide +kernel)
  (by first | exact .inl (by decide +kernel) | exact .inr (by decide +kernel)) (by rw [isSubtype_type]; kernel_rfl)
theorem df : entryFor table "set_iterator.__next__" = some Builtin.«set_iterator.__next__»:=entryFor_of_tree (by kernel_rfl)
theorem dB (a : Value) : argsOk "set_iterator.__next__" ⟨[a],[]⟩:=by unfold argsOk; kernel_rfl
theorem iN : Slot "set_iterator" "__iter__" "set_iterator.__iter__" :=
 .of (owner:="set_iterator") (n:="__iter__") (by rw [typeLookup_type,builtinLookup_eq_fast]; kernel_rfl) (by decide +kernel) (by decide +kernel) (by decide +kernel)
  (by first | exact .inl (by decide +kernel) | exact .inr (by decide +kernel)) (by rw [isSubtype_type]; kernel_rfl)
theorem ml : entryFor table "set_iterator.__iter__" = some Builtin.«dict_keyiterator.__iter__» :=
 entryFor_alias (id':="dict_keyiterator.__iter__") (by kernel_rfl) rfl (by decide +kernel) (by kernel_rfl)
theorem oq (a : Value) : argsOk "set_iterator.__iter__" ⟨[a],[]⟩:=by unfold argsOk; kernel_rfl
theorem l5 : entryFor table "set.__iter__" = some Builtin.«frozenset.__iter__» :=
 entryFor_alias (id':="frozenset.__iter__") (by kernel_rfl) rfl (by decide +kernel) (by kernel_rfl)
abbrev ja (fst : Value) (i : Nat) (S : Addr) (n ep : Nat) : Obj:={ cls:=.type "set_iterator",data:=.fields #[fst,.int i 0,.ref S,.int n 0,.int ep 0] }
section
variable {prog : Program} {w : World} {A : Around} {E : Value->Shared->Prop} {s : Shared} {it S : Addr} {i ep : Nat} {o : Obj} {es : Array (Int × Value)} {t : SetTable}
theorem c9 {fst : Value} {n : Nat} (ho : s.heap.get? it = some (ja fst i S n ep)) : s.TypeIs (.ref it) "set_iterator":=⟨_,ho,rfl⟩
theorem qy {k k' : Nat} {x : Value} {Q : Option Value->Shared->Prop} (ho : s.heap.get? it = some (ja (.int k 0) i S es.size ep))
  (hS : s.heap.get? S = some o) (hd : o.data = .set es ep t) (hf : t.fits es.size = true)
  (hN : ∀ (A' : Around) (E' : Value->Shared->Prop) (Q' : Option (Value × Nat)->Shared->Prop),Q' (some (x,k')) s->wpAny (model prog w) A' (setNext S k i ep) Q' E' s)
  (hQ : ∀ h',h'.get? it = some (ja (.int k' 0) (i + 1) S es.size ep)->Heap.SameBut it s.heap h'->Q (some x) { s with heap:=h' }) :
  wpAny (model prog w) A (pyNext (.ref it)) Q E s:=by
 unfold pyNext
 refine wX (wpAny_attempt (wpAny_callSpecial?_slot (name:=Str.ofString "__next__") (c9 ho) aY
  (wpAny_call_entry aY (c9 ho) df ?_ (dB _))))
 show wpAny _ _ (fieldsOf (.ref it) >>= _) _ _ s
 refine wX (wpAny_fieldsOf ho rfl ?_)
 show wpAny _ _ (setEntries S >>= _) _ _ s
 refine wX (wpAny_setEntries_of hS hd hf ?_)
 rw [if_neg (by simp)]
 show wpAny _ _ (setNext S _ _ _ >>= _) _ _ s
 simp only [Int.toNat_natCast]
 refine wX (hN _ _ _ ?_)
 dsimp only
 refine wX (wpAny_setField_rec ho (by simp) fun h1 e1 b1=>?_)
 refine wX (wpAny_setField_rec e1 (by simp) fun h2 e2 b2=>?_)
 exact wY ⟨x,rfl,wY (hQ h2 (by simpa [rawInt,ja] using e2) (b1.trans b2))⟩
theorem qz {k : Nat} {Q : Option Value->Shared->Prop} (hh : A.handled = none) (ho : s.heap.get? it = some (ja (.int k 0) i S es.size ep))
  (hS : s.heap.get? S = some o) (hd : o.data = .set es ep t) (hf : t.fits es.size = true)
  (hN : ∀ (A' : Around) (E' : Value->Shared->Prop) (Q' : Option (Value × Nat)->Shared->Prop),Q' none s->wpAny (model prog w) A' (setNext S k i ep) Q' E' s)
  (hQ : ∀ h',Heap.ExtBut it s.heap h'->Q none { s with heap:=h' }) :
  wpAny (model prog w) A (pyNext (.ref it)) Q E s:=by
 unfold pyNext
 refine wX (wpAny_attempt (wpAny_callSpecial?_slot (name:=Str.ofString "__next__") (c9 ho) aY
  (wpAny_call_entry aY (c9 ho) df ?_ (dB _))))
 show wpAny _ _ (fieldsOf (.ref it) >>= _) _ _ s
 refine wX (wpAny_fieldsOf ho rfl ?_)
 show wpAny _ _ (setEntries S >>= _) _ _ s
 refine wX (wpAny_setEntries_of hS hd hf ?_)
 rw [if_neg (by simp)]
 show wpAny _ _ (setNext S _ _ _ >>= _) _ _ s
 simp only [Int.toNat_natCast]
 refine wX (hN _ _ _ ?_)
 dsimp only
 refine wX (wpAny_setField_rec ho (by simp) fun h1 e1 b1=>?_)
 refine wX ?_
 simp only [newExc,newTuple]
 refine wX (wpAny_newObj_type ?_ (by size_fits))
 refine wX (m:=firstArgMember _ _) (wpAny_of_eq (a:=Value.none) (by first | rfl | (simp only [firstArgMember]; rfl)) ?_)
 refine wpAny_newObj_type ?_ (by size_fits)
 simp only [raiseNew]
 refine wX (wpAny_handled ?_)
 rw [show A.in1.handled = none from hh]
 refine wX (wY (wpAny_throw ?_))
 refine wX (wpAny_isInstance (T:="StopIteration") (b:=true) ⟨_,Heap.get?_push_size _ rfl,rfl⟩ isSubtype_stop ?_)
 exact wY (hQ _ ((b1.extBut.push _).push _))
theorem ot {T : Addr} {pl : List Nat} {p : Nat} {x : Int × Value} {nt : Nat} {Q : Option Value->Shared->Prop} (ho : s.heap.get? it = some (ja (.ref T) i S es.size ep))
  (hT : s.heap.get? T = some (seqObj "tuple" (pl.map fun (p : Nat)=>Value.int p 0).toArray nt))
  (hS : s.heap.get? S = some o) (hd : o.data = .set es ep t) (hf : t.fits es.size = true) (hp : pl[i]? = some p) (hx : es[p]? = some x)
  (hQ : ∀ h',h'.get? it = some (ja (.ref T) (i + 1) S es.size ep)->Heap.SameBut it s.heap h'->Q (some x.2) { s with heap:=h' }) :
  wpAny (model prog w) A (pyNext (.ref it)) Q E s:=by
 unfold pyNext
 refine wX (wpAny_attempt (wpAny_callSpecial?_slot (name:=Str.ofString "__next__") (c9 ho) aY
  (wpAny_call_entry aY (c9 ho) df ?_ (dB _))))
 show wpAny _ _ (fieldsOf (.ref it) >>= _) _ _ s
 refine wX (wpAny_fieldsOf ho rfl ?_)
 show wpAny _ _ (setEntries S >>= _) _ _ s
 refine wX (wpAny_setEntries_of hS hd hf ?_)
 rw [if_neg (by simp)]
 show wpAny _ _ (seqItems? (.ref T) >>= _) _ _ s
 refine wX (wpAny_seqItems hT rfl ?_)
 have e1 : (pl.map fun (p : Nat)=>Value.int p 0).toArray[(i : Int).toNat]? = some (.int p 0):=by simp [hp]
 dsimp only
 rw [e1]
 dsimp only
 have e2 : wpAny (model prog w) A.in1 (setNextDrawn S (p : Int).toNat (ep : Int).toNat) (fun y s'=>y = x.2/\s' = s) (fun _ _=>False) s:=by
  unfold setNextDrawn
  refine wX (wpAny_setState_of hS hd hf ?_)
  dsimp only
  rw [if_neg (by simp)]
  simp only [Int.toNat_natCast,hx]
  exact wY ⟨rfl,rfl⟩
 refine wX (wpAny_mono e2 (fun y s' hy=>?_) fun _ _ z=>z.elim)
 obtain ⟨rfl,rfl⟩:=hy
 refine wX (wpAny_setField_rec ho (by simp) fun h1 e1 b1=>?_)
 exact wY ⟨_,rfl,wY (hQ h1 (by simpa [rawInt,ja] using e1) b1)⟩
theorem ou {T : Addr} {pl : List Nat} {nt : Nat} {Q : Option Value->Shared->Prop} (hh : A.handled = none) (ho : s.heap.get? it = some (ja (.ref T) i S es.size ep))
  (hT : s.heap.get? T = some (seqObj "tuple" (pl.map fun (p : Nat)=>Value.int p 0).toArray nt))
  (hS : s.heap.get? S = some o) (hd : o.data = .set es ep t) (hf : t.fits es.size = true) (hp : pl[i]? = none)
  (hQ : ∀ h',Heap.ExtBut it s.heap h'->Q none { s with heap:=h' }) :
  wpAny (model prog w) A (pyNext (.ref it)) Q E s:=by
 unfold pyNext
 refine wX (wpAny_attempt (wpAny_callSpecial?_slot (name:=Str.ofString "__next__") (c9 ho) aY
  (wpAny_call_entry aY (c9 ho) df ?_ (dB _))))
 show wpAny _ _ (fieldsOf (.ref it) >>= _) _ _ s
 refine wX (wpAny_fieldsOf ho rfl ?_)
 show wpAny _ _ (setEntries S >>= _) _ _ s
 refine wX (wpAny_setEntries_of hS hd hf ?_)
 rw [if_neg (by simp)]
 show wpAny _ _ (seqItems? (.ref T) >>= _) _ _ s
 refine wX (wpAny_seqItems hT rfl ?_)
 have e1 : (pl.map fun (p : Nat)=>Value.int p 0).toArray[(i : Int).toNat]? = none:=by simpa using hp
 dsimp only
 rw [e1]
 dsimp only
 refine wX (wpAny_setField_rec ho (by simp) fun h0 e0 b0=>?_)
 refine wX (wpAny_setField_rec e0 (by simp) fun h1 e1 b1=>?_)
 refine wX ?_
 simp only [newExc,newTuple]
 refine wX (wpAny_newObj_type ?_ (by size_fits))
 refine wX (m:=firstArgMember _ _) (wpAny_of_eq (a:=Value.none) (by first | rfl | (simp only [firstArgMember]; rfl)) ?_)
 refine wpAny_newObj_type ?_ (by size_fits)
 simp only [raiseNew]
 refine wX (wpAny_handled ?_)
 rw [show A.in1.handled = none from hh]
 refine wX (wY (wpAny_throw ?_))
 refine wX (wpAny_isInstance (T:="StopIteration") (b:=true) ⟨_,Heap.get?_push_size _ rfl,rfl⟩ isSubtype_stop ?_)
 exact wY (hQ _ (((b0.trans b1).extBut.push _).push _))
theorem sy {fst : Value} {n : Nat} {Q : Value->Shared->Prop} (ho : s.heap.get? it = some (ja fst i S n ep)) (h : Q (.ref it) s) : wpAny (model prog w) A (pyIter (.ref it)) Q E s:=by
 refine wpAny_pyIter_slot (c9 ho) iN (wpAny_call_entry iN (c9 ho) ml ?_ (oq _))
 show wpAny _ _ (ret (.ref it)) _ _ s
 exact wY ⟨_,rfl,"set_iterator",_,c9 ho,aY.lookup,h⟩
end
section
variable {prog : Program} {w : World} {A : Around} {E : Value->Shared->Prop} {s : Shared} {it S : Addr} {i k ep : Nat} {o : Obj} {es : Array (Int × Value)} {t : SetTable}
theorem oR {Q : Option (Value × Nat)->Shared->Prop} (hS : s.heap.get? S = some o) (hd : o.data = .set es ep t) (hf : t.fits es.size = true) (hb : w.params.followText "set-order" = true)
  (h : Q (((pickOrder (w.params.setOrder S ep) es)[i]?).map fun e=>(e.2,k)) s) : wpAny (model prog w) A (setNext S k i ep) Q E s:=by
 unfold setNext
 refine wX (wpAny_setState_of hS hd hf ?_)
 dsimp only
 unfold setsByText
 refine wX (wX (wpAny_askSetting (wY ?_)))
 show wpAny _ _ (if w.params.followText "set-order" = true then _ else _) _ _ _
 rw [if_pos hb,if_neg (by simp)]
 unfold setWalk setsByText
 refine wX (wX (wpAny_setState_of hS hd hf ?_))
 dsimp only
 refine wX (wX (wpAny_askSetting (wY ?_)))
 show wpAny _ _ (if w.params.followText "set-order" = true then _ else _) _ _ _
 rw [if_pos hb]
 refine wX (wpAny_askSetting (wY ?_))
 exact wY h
theorem mm {Q : Option (Value × Nat)->Shared->Prop} (hS : s.heap.get? S = some o) (hd : o.data = .set es ep t) (hf : t.fits es.size = true) (hb : w.params.followText "set-order" = false) (hl : t.led = true) (hz : es.size<=1)
  (h : Q (match es[SetTable.below t.place k]?,t.place[SetTable.below t.place k]? with
   | some (_,x),some j=>some (x,j + 1)
   | _,_=>none) s) : wpAny (model prog w) A (setNext S k i ep) Q E s:=by
 unfold setNext
 refine wX (wpAny_setState_of hS hd hf ?_)
 dsimp only
 unfold setsByText
 refine wX (wX (wpAny_askSetting (wY ?_)))
 show wpAny _ _ (if w.params.followText "set-order" = true then _ else _) _ _ _
 rw [if_neg (by rw [hb]; simp)]
 show wpAny _ _ (if (!t.plain && decide (es.size > 1)) = true then _ else _) _ _ _
 rw [if_neg (by rw [decide_eq_false (by omega)]; simp)]
 show wpAny _ _ ((if (!t.led && !es.isEmpty) = true then unsupported "set:maker-not-led" else pure ()) >>= _) _ _ _
 rw [hl,if_neg (by simp)]
 refine wX (wY ?_)
 exact wY h
theorem oS (hh : A.handled = none) (hd : o.data = .set es ep t) (hf : t.fits es.size = true) (hne : S ≠ it) (vs : List Value) (hv : vs.length = es.size) (sl : Nat->Nat)
  (hN : ∀ i x,vs[i]? = some x->∀ (A' : Around) (E' : Value->Shared->Prop) (s : Shared) (Q' : Option (Value × Nat)->Shared->Prop),s.heap.get? S = some o->Q' (some (x,sl (i + 1))) s->wpAny (model prog w) A' (setNext S (sl i) i ep) Q' E' s)
  (hE : ∀ (A' : Around) (E' : Value->Shared->Prop) (s : Shared) (Q' : Option (Value × Nat)->Shared->Prop),s.heap.get? S = some o->Q' none s->wpAny (model prog w) A' (setNext S (sl es.size) es.size ep) Q' E' s) :
  Walks prog w A it [it,S] [it] es.size (fun i v=>vs[i]? = some v) (fun i h=>h.get? it = some (ja (.int (sl i) 0) i S es.size ep)/\h.get? S = some o) where
 sub:=fun b hb=>by simp at hb; simp [hb]
 frame:=fun _ _ _ st hk=>⟨hk it (by simp) _ st.1,hk S (by simp) _ st.2⟩
 item:=fun i s Q E hi st hQ=>by
  obtain ⟨x,hx⟩ : ∃ x,vs[i]? = some x:=⟨_,List.getElem?_eq_getElem (by omega)⟩
  refine qy st.1 st.2 hd hf (fun A' E' Q' q=>hN i x hx A' E' s Q' st.2 q) fun h' h1 h2=>?_
  exact hQ x h' s.toks hx ⟨h1,h2.extBut S _ hne st.2⟩ fun b u hb e=>h2.extBut b u (fun z=>hb (by simp [z])) e
 done:=fun s Q E st hQ=>qz hh st.1 st.2 hd hf (fun A' E' Q' q=>hE A' E' s Q' st.2 q) fun h' h1=>hQ h' s.toks fun b u hb e=>h1 b u (fun z=>hb (by simp [z])) e
 self:=fun _ _ _ _ st hQ=>sy st.1 hQ
theorem uB {T : Addr} {pl : List Nat} {nt : Nat} (hh : A.handled = none) (hd : o.data = .set es ep t) (hf : t.fits es.size = true) (hne : S ≠ it) (hnT : T ≠ it) (hp : pl.Perm (List.range es.size)) :
  Walks prog w A it [it,S,T] [it] es.size (fun i v=>(pl.map fun p=>(es.getD p (0,.none)).2)[i]? = some v)
   (fun i h=>h.get? it = some (ja (.ref T) i S es.size ep)/\h.get? S = some o/\h.get? T = some (seqObj "tuple" (pl.map fun (p : Nat)=>Value.int p 0).toArray nt)) where
 sub:=fun b hb=>by simp at hb; simp [hb]
 frame:=fun _ _ _ st hk=>⟨hk it (by simp) _ st.1,hk S (by simp) _ st.2.1,hk T (by simp) _ st.2.2⟩
 item:=fun i s Q E hi st hQ=>by
  have hlen : pl.length = es.size:=by rw [hp.length_eq,List.length_range]
  obtain ⟨p,hx⟩ : ∃ p,pl[i]? = some p:=⟨_,List.getElem?_eq_getElem (by omega)⟩
  have hpm : p < es.size:=List.mem_range.mp (hp.mem_iff.mp (List.mem_of_getElem? hx))
  have he : es[p]? = some (es.getD p (0,.none)):=by rw [Array.getD_eq_getD_getElem?,Array.getElem?_eq_getElem hpm]; rfl
  refine ot st.1 st.2.2 st.2.1 hd hf hx he fun h' h1 h2=>?_
  exact hQ _ h' s.toks (by simp [hx]) ⟨h1,h2.extBut S _ hne st.2.1,h2.extBut T _ hnT st.2.2⟩ fun b u hb e=>h2.extBut b u (fun z=>hb (by simp [z])) e
 done:=fun s Q E st hQ=>by
  have hlen : pl.length = es.size:=by rw [hp.length_eq,List.length_range]
  exact ou hh st.1 st.2.2 st.2.1 hd hf (List.getElem?_eq_none (by omega)) fun h' h1=>hQ h' s.toks fun b u hb e=>h1 b u (fun z=>hb (by simp [z])) e
 self:=fun _ _ _ _ st hQ=>sy st.1 hQ
end
theorem uC {α : Type} (es : Array α) (d : α) : (List.range es.size).map (fun p=>es.getD p d) = es.toList:=by
 apply List.ext_getElem?
 intro i
 by_cases h : i < es.size
 ·simp [h,Array.getD_eq_getD_getElem?]
 ·simp [h]
section
variable {prog : Program} {w : World} {A : Around} {E : Value->Shared->Prop} {s : Shared}
theorem oU {xs : Array Nat} {j k : Nat} (h : xs = #[j]) : SetTable.below xs k = if j < k then 1 else 0:=by
 subst h
 by_cases h : j < k
 ·simp [SetTable.below,SetTable.below.go,h]
 ·simp [SetTable.below,SetTable.below.go,h]
theorem yM {S : Addr} {ts : List Str} {Q : Value->Shared->Prop} (hS : fm prog w s.heap S ts)
  (hQ : ∀ (h' : Heap) (d : Drawn) (it : Addr) (vs : List Value) (fp : List Addr) (St : Nat->Heap->Prop),(∀ A',A'.handled = none->Walks prog w A' it fp [it] ts.length (fun i v=>vs[i]? = some v) St)->St 0 h' ->
   (∀ b u,s.heap.get? b = some u->h'.get? b = some u)->s.heap.objs.size<=it->(∀ b ∈ fp,b = S ∨ s.heap.objs.size<=b)->vs.length = ts.length->(vs.map strOf).Perm ts->(∀ v ∈ vs,∃ x t,v = .str x t) ->
   Q (.ref it) { s with heap:=h',drawn:=d }) : wpAny (model prog w) A (pyIter (.ref S)) Q E s:=by
 obtain ⟨o,es,ep,t,ho,hex,hd,hel,hp,nd,hb,hf,hled,hpl⟩:=hS
 have sz : es.size = ts.length:=by rw [← hp.length_eq,List.length_map,Array.length_toList]
 have hSlt : S < s.heap.objs.size:=Heap.lt_size ho
 have hTy : s.TypeIs (.ref S) "set":=⟨_,ho,hex.1⟩
 have hstrs : ∀ e ∈ es.toList,∃ x t,e.2 = .str x t:=fun e he=>by
  obtain ⟨⟨k,hk,_⟩,_⟩:=hel e he
  obtain ⟨t,q⟩:=Value.isStrOf_shape (show Value.isStrOf k e.2 = true from hk)
  exact ⟨k,t,q⟩
 refine wpAny_pyIter_slot hTy PySem.F.slot_set_iter (wpAny_call_entry PySem.F.slot_set_iter hTy l5 ?_ (PySem.F.args_set_iter_1 _))
 show wpAny _ _ (Builtin.Frozenset.sizeOf S >>= _) _ _ s
 unfold Builtin.Frozenset.sizeOf
 refine wX (wX (wpAny_setEntries_of ho hd hf (wY ?_)))
 unfold setDrawn setsByText
 refine wX (wX (wpAny_setState_of ho hd hf ?_))
 dsimp only
 refine wX (wX (wpAny_askSetting (wY (wY ?_))))
 show wpAny _ _ (if (!w.params.followText "set-order" && (!t.plain && decide (es.size > 1))) = true then _ else _) _ _ _
 have hmap : (es.toList.map (·.2)).map strOf = es.toList.map (fun e=>strOf e.2):=by rw [List.map_map]; rfl
 by_cases hbt : w.params.followText "set-order" = true
 ·rw [if_neg (by rw [hbt]; simp)]
  refine wX (wY ?_)
  refine wX (wpAny_setEpoch_of ho hd hf ?_)
  have pp:=xi (w.params.setOrder S ep) es
  have hlen : ((pickOrder (w.params.setOrder S ep) es).toList.map (·.2)).length = es.size:=by rw [List.length_map,pp.length_eq,Array.length_toList]
  refine wX (wpAny_newObj_type (wY ⟨_,rfl,"set_iterator",_,⟨_,Heap.get?_push_size _ rfl,rfl⟩,aY.lookup, ?_⟩))
  refine hQ _ s.drawn s.heap.objs.size ((pickOrder (w.params.setOrder S ep) es).toList.map (·.2)) [s.heap.objs.size,S] (fun i h=>h.get? s.heap.objs.size = some (ja (.int ((fun _=>0 : Nat->Nat) i : Nat) 0) i S es.size ep)/\h.get? S = some o) (fun A' hA=>?_) ?_ (fun b u e=>Heap.get?_push_of_some _ e) (Nat.le_refl _) (fun b hb=>?_) (hlen.trans sz) ?_ ?_
  ·rw [← sz]
   exact oS hA hd hf (Nat.ne_of_lt hSlt) _ hlen (fun _=>0) (fun i x hx A' E' s Q' h1 h2=>oR h1 hd hf hbt (by
    rw [List.getElem?_map,Array.getElem?_toList] at hx
    obtain ⟨e,he,rfl⟩:=oY hx
    rw [he]; exact h2)) (fun A' E' s Q' h1 h2=>oR h1 hd hf hbt (by
    rw [Array.getElem?_eq_none (by rw [← Array.length_toList,pp.length_eq,Array.length_toList]; exact Nat.le_refl _)]; exact h2))
  ·exact ⟨Heap.get?_push_size _ rfl,Heap.get?_push_of_some _ ho⟩
  ·simp only [List.mem_cons,List.not_mem_nil,or_false] at hb
   rcases hb with rfl | rfl
   ·exact .inr (Nat.le_refl _)
   ·exact .inl rfl
  ·refine List.Perm.trans ?_ hp
   rw [← hmap]
   exact (pp.map _).map _
  ·intro v hv
   obtain ⟨e,he,rfl⟩:=List.mem_map.mp hv
   exact hstrs e (pp.mem_iff.mp he)
 ·rw [Bool.not_eq_true] at hbt
  have hl : t.led = true:=by rw [hled,hbt]; rfl
  by_cases h1 : es.size<=1
  ·rw [if_neg (by rw [decide_eq_false (by omega)]; simp)]
   refine wX (wY ?_)
   refine wX (wpAny_setEpoch_of ho hd hf ?_)
   refine wX (wpAny_newObj_type (wY ⟨_,rfl,"set_iterator",_,⟨_,Heap.get?_push_size _ rfl,rfl⟩,aY.lookup, ?_⟩))
   have hpz : t.place.size = es.size:=by
    simp only [SetTable.fits,Bool.and_eq_true,beq_iff_eq,decide_eq_true_eq] at hf
    exact hf.1
   refine hQ _ s.drawn s.heap.objs.size (es.toList.map (·.2)) [s.heap.objs.size,S] (fun i h=>h.get? s.heap.objs.size = some (ja (.int ((fun i=>if i = 0 then 0 else t.place.getD 0 0 + 1 : Nat->Nat) i : Nat) 0) i S es.size ep)/\h.get? S = some o) (fun A' hA=>?_) ?_ (fun b u e=>Heap.get?_push_of_some _ e) (Nat.le_refl _) (fun b hb=>?_) (by rw [List.length_map,Array.length_toList,sz]) (by rw [hmap]; exact hp) ?_
   ·rw [← sz]
    refine oS hA hd hf (Nat.ne_of_lt hSlt) _ (by simp) (fun i=>if i = 0 then 0 else t.place.getD 0 0 + 1) (fun i x hx A' E' s Q' q1 q2=>mm q1 hd hf hbt hl h1 ?_) (fun A' E' s Q' q1 q2=>mm q1 hd hf hbt hl h1 ?_)
    ·have hi : i < es.size:=by have:=(List.getElem?_eq_some_iff.mp hx).1; simpa using this
     have hi0 : i = 0:=by omega
     subst hi0
     obtain ⟨j,hj⟩ : ∃ j,t.place = #[j]:=Array.size_eq_one_iff.mp (by omega)
     rw [if_pos rfl,oU hj,if_neg (by omega)]
     rw [List.getElem?_map,Array.getElem?_toList] at hx
     obtain ⟨e,he,rfl⟩:=oY hx
     rw [he]
     simp only [hj] at q2 ⊢
     simpa using q2
    ·by_cases h0 : es.size = 0
     ·have hp0 : t.place = #[]:=Array.eq_empty_of_size_eq_zero (by omega)
      have he0 : es = #[]:=Array.eq_empty_of_size_eq_zero h0
      rw [hp0,he0]
      simpa using q2
     ·obtain ⟨j,hj⟩ : ∃ j,t.place = #[j]:=Array.size_eq_one_iff.mp (by omega)
      rw [if_neg h0,oU hj]
      have : t.place.getD 0 0 = j:=by rw [hj]; rfl
      rw [this,if_pos (by omega),Array.getElem?_eq_none (by omega)]
      exact q2
   ·exact ⟨Heap.get?_push_size _ rfl,Heap.get?_push_of_some _ ho⟩
   ·simp only [List.mem_cons,List.not_mem_nil,or_false] at hb
    rcases hb with rfl | rfl
    ·exact .inr (Nat.le_refl _)
    ·exact .inl rfl
   ·intro v hv
    obtain ⟨e,he,rfl⟩:=List.mem_map.mp hv
    exact hstrs e he
  ·have hp0 : t.plain = false:=hpl (by omega)
   rw [if_pos (by rw [hbt,hp0,decide_eq_true (by omega)]; rfl)]
   refine wX (vN es.size (List.range es.size) _ _ (by simp) fun pl d pp=>?_)
   refine wX (wpAny_newTuple ?_ (by rw [List.length_map,pp.length_eq,List.length_range,sz]; exact fits_of_scanBound hb))
   refine wX (wpAny_setEpoch_of (Heap.get?_push_of_some _ ho) hd hf ?_)
   refine wX (wpAny_newObj_type (wY ⟨_,rfl,"set_iterator",_,⟨_,Heap.get?_push_size _ rfl,rfl⟩,aY.lookup, ?_⟩))
   have hsz : (s.heap.push (seqObj "tuple" (pl.map fun (p : Nat)=>Value.int p 0).toArray 0)).objs.size = s.heap.objs.size + 1:=size_push' _ _
   have hperm : ((pl.map fun p=>(es.getD p (0,.none)).2)).Perm (es.toList.map (·.2)):=by
    have:=(pp.map fun p=>es.getD p (0,Value.none)).map (·.2)
    rw [uC] at this
    rw [List.map_map] at this
    exact this
   refine hQ _ d _ (pl.map fun p=>(es.getD p (0,.none)).2) [(s.heap.push (seqObj "tuple" (pl.map fun (p : Nat)=>Value.int p 0).toArray 0)).objs.size,S,s.heap.objs.size] (fun i h=>h.get? (s.heap.push (seqObj "tuple" (pl.map fun (p : Nat)=>Value.int p 0).toArray 0)).objs.size = some (ja (.ref s.heap.objs.size) i S es.size ep)/\h.get? S = some o/\h.get? s.heap.objs.size = some (seqObj "tuple" (pl.map fun (p : Nat)=>Value.int p 0).toArray 0)) (fun A' hA=>?_) ?_ (fun b u e=>Heap.get?_push_of_some _ (Heap.get?_push_of_some _ e)) ?_ (fun b hb=>?_) ?_ ?_ ?_
   ·rw [← sz]
    exact uB (nt:=0) hA hd hf (by show S ≠ (s.heap.push _).objs.size; rw [size_push']; exact Nat.ne_of_lt (Nat.lt_succ_of_lt hSlt)) (by show s.heap.objs.size ≠ (s.heap.push _).objs.size; rw [size_push']; exact Nat.ne_of_lt (Nat.lt_succ_self _)) pp
   ·exact ⟨Heap.get?_push_size _ rfl,Heap.get?_push_of_some _ (Heap.get?_push_of_some _ ho),Heap.get?_push_of_some _ (Heap.get?_push_size _ rfl)⟩
   ·show s.heap.objs.size<=(s.heap.push _).objs.size
    rw [size_push']; omega
   ·simp only [List.mem_cons,List.not_mem_nil,or_false] at hb
    rcases hb with rfl | rfl | rfl
    ·refine .inr ?_
     show s.heap.objs.size<=(s.heap.push _).objs.size
     rw [size_push']; omega
    ·exact .inl rfl
    ·exact .inr (Nat.le_refl _)
   ·rw [hperm.length_eq,List.length_map,Array.length_toList,sz]
   ·exact ((hperm.map strOf).trans (by rw [hmap])).trans hp
   ·intro v hv
    obtain ⟨e,he,rfl⟩:=List.mem_map.mp (hperm.mem_iff.mp hv)
    exact hstrs e he
end
theorem xj {vs : List Value} {acc : Array Value} (h : ItemsOf (fun i v=>vs[i]? = some v) acc vs.length) : acc.toList = vs:=by
 apply List.ext_getElem?
 intro i
 by_cases hi : i < acc.size
 ·have e : acc[i]? = some acc[i]:=Array.getElem?_eq_getElem hi
  rw [Array.getElem?_toList,e,h.2 i _ e]
 ·rw [List.getElem?_eq_none (by rw [Array.length_toList]; omega),List.getElem?_eq_none (by rw [← h.1]; omega)]
section
variable {prog : Program} {w : World} {A : Around} {E : Value->Shared->Prop} {s : Shared}
theorem sA {S : Addr} {ts : List Str} {Q : List Value->Shared->Prop} (hh : A.handled = none) (hS : fm prog w s.heap S ts)
  (hQ : ∀ s' vs,(∀ b u,s.heap.get? b = some u->s'.heap.get? b = some u)->s'.gens = s.gens->s'.os = s.os->vs.length = ts.length->(vs.map strOf).Perm ts->(∀ v ∈ vs,∃ x t,v = .str x t)->Q vs s') :
  wpAny (model prog w) A (collect (.ref S)) Q E s:=by
 have hty : ∀ (s1 : Shared),fm prog w s1.heap S ts->s1.TypeIs (.ref S) "set":=fun s1 h=>by
  obtain ⟨o,_,_,_,ho,hex,_⟩:=h
  exact ⟨o,ho,hex.1⟩
 have hlt : S < s.heap.objs.size:=by obtain ⟨o,_,_,_,ho,_⟩:=hS; exact Heap.lt_size ho
 have hscan : ts.length < scanBound:=by obtain ⟨_,_,_,_,_,_,_,_,_,_,h,_⟩:=hS; exact h
 unfold collect
 refine wX (wpAny_runValue (codeAny_builtin PySem.F.entry_proto_collect ?_))
 rw [Around.under_plainId PySem.F.plain_proto_collect _]
 show wpAny _ A.in1 (newList [] >>= fun l=>again (.builtin "list.__iadd__" ⟨[l,.ref S],[]⟩)) _ _ s
 refine wX (wpAny_newObj_type ?_)
 refine wY ⟨plainId_quiet PySem.F.plain_list_iadd _,codeAny_builtin PySem.F.entry_list_iadd ?_⟩
 rw [Around.under_plainId PySem.F.plain_list_iadd _]
 show wpAny _ A.in1 (Builtin.List.listExtendWith (.ref s.heap.objs.size) (.ref S) (.ref s.heap.objs.size)) _ _ _
 unfold Builtin.List.listExtendWith
 have hS1 : fm prog w (s.heap.push { cls:=.type "list",data:=.seq ([] : List Value).toArray }) S ts:=hS.at fun o e=>Heap.get?_push_of_some _ e
 refine wX (wpAny_typeOf (hty _ hS1) ?_)
 have hSI : s.heap.objs.size ≠ S:=Nat.ne_of_gt hlt
 have h1 : Builtin.List.listSameRef (.ref s.heap.objs.size) (.ref S) = false:=by simp [Builtin.List.listSameRef,hSI]
 have h2 : (Value.type "set" == Value.type "list") = false:=by decide
 have h3 : (Value.type "set" == Value.type "tuple") = false:=by decide
 simp only [h1,h2,h3,Bool.or_false,Bool.false_eq_true,if_false]
 refine wX (yM (s:={ s with heap:=s.heap.push { cls:=.type "list",data:=.seq ([] : List Value).toArray } }) hS1 fun h' d it vs fp St W hst hk hit hfp hvl hperm hstr=>?_)
 have hS2 : fm prog w h' S ts:=hS1.at fun o e=>hk _ _ e
 refine wX (wpAny_holding ?_)
 unfold Builtin.List.listLengthHint
 refine wX (wpAny_specialOf (hty _ hS2) PySem.F.slot_set_len.lookup ?_)
 wp_delta
 refine wX (wpAny_isInstance (hty _ hS2) sub_set_self ?_)
 show wpAny _ A.in1 (typeOf (Value.ref S) >>= _) _ _ _
 refine wX (wpAny_typeOf (hty _ hS2) ?_)
 refine wY ?_
 rw [if_pos (by decide)]
 refine wX (wpAny_rule ?_)
 refine wX ?_
 have hsz0 : (s.heap.push { cls:=.type "list",data:=.seq ([] : List Value).toArray }).objs.size = s.heap.objs.size + 1:=size_push' _ _
 have hL1 : h'.get? s.heap.objs.size = some { cls:=.type "list",data:=.seq ([] : List Value).toArray }:=hk _ _ (Heap.get?_push_size _ rfl)
 show wpAny _ A.in1 (updateSeq s.heap.objs.size (·.push .none) >>= fun _=>updateSeq s.heap.objs.size (·.pop)) _ _ _
 refine wX (wpAny_updateSeq hL1 rfl ?_)
 have hL2:=Heap.get?_update_self (Obj.mapSeq (·.push Value.none)) hL1 rfl
 refine wpAny_updateSeq hL2 rfl ?_
 have hL3:=Heap.get?_update_self (Obj.mapSeq (·.pop)) hL2 rfl
 have hSf : s.heap.objs.size ∉ fp:=fun hm=>by
  rcases hfp _ hm with z | z
  ·exact hSI z
  ·rw [hsz0] at z; exact absurd z (Nat.not_succ_le_self _)
 have oth : ∀ b u,b ≠ s.heap.objs.size->h'.get? b = some u ->
   ((h'.update s.heap.objs.size (Obj.mapSeq (·.push Value.none))).update s.heap.objs.size (Obj.mapSeq (·.pop))).get? b = some u :=
  fun b u hb e=>(Heap.get?_update_other _ _ (Ne.symm hb)).trans ((Heap.get?_update_other _ _ (Ne.symm hb)).trans e)
 have W0:=W A.in1 hh
 refine wY ⟨plainId_quiet PySem.F.plain_extend_loop _,codeAny_extend_loopS W0.toS (fits_of_scanBound hscan) _ hSf _ ts.length 0 _ _ _ rfl (Nat.zero_le _)
  (W0.frame 0 _ _ hst fun b hb u e=>oth b u (fun z=>hSf (z ▸ hb)) e) hL3 (ItemsOf.nil _) fun s' acc' c' hm hL' hacc=>?_⟩
 show wpAny _ A (load s.heap.objs.size >>= _) _ _ s'
 refine wX (wpAny_load hL' ?_)
 rw [← hvl] at hacc
 refine wY ?_
 show Q acc'.toList s'
 rw [xj hacc]
 refine hQ s' vs (fun b u e=>hm.heap b u (fun hb=>?_) (oth b u (Nat.ne_of_lt (Heap.lt_size e)) (hk _ _ (Heap.get?_push_of_some _ e)))) hm.gens hm.os hvl hperm hstr
 have hl:=Heap.lt_size e
 simp only [List.mem_cons,List.not_mem_nil,or_false] at hb
 rcases hb with rfl | rfl
 ·exact absurd hl (Nat.lt_irrefl _)
 ·rw [hsz0] at hit; exact absurd (Nat.lt_of_lt_of_le hl (Nat.le_of_succ_le hit)) (Nat.lt_irrefl _)
theorem uE {S : Addr} {ts : List Str} {Q : Value->Shared->Prop} (hh : A.handled = none) (hS : fm prog w s.heap S ts) (h64 : ts.length < 64)
  (hQ : ∀ (s1 : Shared) (h' : Heap) (a : Addr) (out : Array Value) (n : Nat) (ss' : List Str),(∀ b u,s.heap.get? b = some u->s1.heap.get? b = some u)->s1.os = s.os->s1.gens = s.gens->(∀ b u,s1.heap.get? b = some u->h'.get? b = some u)->s1.heap.objs.size<=a->h'.get? a = some (seqObj "list" out n) ->
   StrsAre out.toList ss'->ss'.Perm ts->sortedS ss' = true->Q (.ref a) { s1 with heap:=h' }) :
  wpAny (model prog w) A (call (.builtin "sorted") [.ref S]) Q E s:=by
 refine Calls.call_function_entry kind_sorted plain_sorted entry_sorted (args_sorted1 _) ?_
 unfold Builtin.«sorted»
 refine wX (m:=checkCount "sorted" 1 1 _) (wY ?_)
 refine wX (sA (A:=A.in1) (by exact hh) hS fun s1 vs hk hg hos hvl hperm hstr=>?_)
 have hst : StrsAre vs (vs.map strOf):=strsAre_map vs hstr
 refine wX (wpAny_newList ?_ (by rw [hvl,sizeLine_eq]; omega))
 have hoL : (s1.heap.push (seqObj "list" vs.toArray 0)).get? s1.heap.objs.size = some (seqObj "list" vs.toArray 0):=Heap.get?_push_size _ rfl
 show wpAny _ _ _ _ _ { s1 with heap:=s1.heap.push (seqObj "list" vs.toArray 0) }
 refine wX (wpAny_holding (wpAny_call_entry slot_list_sort ⟨_,hoL,rfl⟩ entry_list_sort (list_sort_treeK strKind_oneLt hoL hst.keysOf (fun v₁ v₂ az e=>keyKind_strs (by rw [← e]; exact hst)) (by rw [hvl]; exact h64) fun st' a1 a2=>⟨_,rfl, ?_⟩) (args_list_sort _)))
 obtain ⟨ss',b1,b2,b3⟩:=sorted_out_str hst a1 a2
 obtain ⟨e,he⟩:=sortedHeap_at (out:=(arrOf st').map (·.2)) hoL
 refine wY ⟨_,rfl,hQ s1 _ _ _ e ss' hk hos hg (fun b u q=>?_) (Nat.le_refl _) he b1 (b2.trans hperm) b3⟩
 have hl:=Heap.lt_size q
 rw [sortedHeap_old (Nat.ne_of_lt hl) (by rw [size_push']; exact Nat.lt_succ_of_lt hl)]
 exact Heap.get?_push_of_some _ q
end
end DL
namespace DL
open PySem PySem.Spec PyProof.Rows L2
def leT (a b : Str) : Prop:=¬ b.cps.toList < a.cps.toList
theorem vP {a b : Str} : ltCps b.cps.toList a.cps.toList = false ↔ leT a b:=by rw [ltCps_eq,decide_eq_false_iff_not]; rfl
theorem oV {a b c : Str} (h : leT a b) (k : leT b c) : leT a c:=by
 unfold leT at *
 exact List.not_lt.mpr (List.le_trans (List.not_lt.mp h) (List.not_lt.mp k))
theorem yN {a b : Str} (h : leT a b) (k : leT b a) : a = b:=by
 have e : a.cps.toList = b.cps.toList:=List.le_antisymm (List.not_lt.mp h) (List.not_lt.mp k)
 obtain ⟨a⟩:=a; obtain ⟨b⟩:=b
 have : a = b:=Array.toList_inj.mp e
 rw [this]
def uF (x : Str) : List Str->List Str
 | []=>[x]
 | y :: r=>if ltCps y.cps.toList x.cps.toList then y :: uF x r else x :: y :: r
def iO (l : List Str) : List Str:=l.foldr uF []
theorem kj (x : Str) : ∀ l,(uF x l).Perm (x :: l)
 | []=>List.Perm.refl _
 | y :: r=>by
  unfold uF
  split
  ·exact ((kj x r).cons y).trans (List.Perm.swap x y r)
  ·exact List.Perm.refl _
theorem cS : ∀ l,(iO l).Perm l
 | []=>List.Perm.refl _
 | x :: l=>(kj x (iO l)).trans ((cS l).cons x)
theorem oW (x : Str) : ∀ l,l.Pairwise leT->(uF x l).Pairwise leT
 | [],_=>by simp [uF]
 | y :: r,h=>by
  obtain ⟨h1,h2⟩:=List.pairwise_cons.mp h
  unfold uF
  split
  ·rename_i hl
   refine List.pairwise_cons.mpr ⟨fun z hz=>?_,oW x r h2⟩
   rcases List.mem_cons.mp ((kj x r).mem_iff.mp hz) with rfl | hz
   ·rw [ltCps_eq,decide_eq_true_eq] at hl
    exact fun k=>List.lt_irrefl _ (List.lt_trans hl k)
   ·exact h1 z hz
  ·rename_i hl
   rw [Bool.not_eq_true] at hl
   have hxy : leT x y:=vP.mp hl
   refine List.pairwise_cons.mpr ⟨fun z hz=>?_,h⟩
   rcases List.mem_cons.mp hz with rfl | hz
   ·exact hxy
   ·exact oV hxy (h1 z hz)
theorem mn : ∀ l,(iO l).Pairwise leT
 | []=>List.Pairwise.nil
 | x :: l=>oW x _ (mn l)
theorem kO : ∀ (l : List Str) (p : Str),risingS p l = true->(p :: l).Pairwise leT
 | [],p,_=>List.pairwise_singleton _ _
 | x :: r,p,h=>by
  have h' : (!ltCps x.cps.toList p.cps.toList && risingS x r) = true:=h
  rw [Bool.and_eq_true] at h'
  have hpx : leT p x:=vP.mp (by simpa using h'.1)
  have ih:=kO r x h'.2
  refine List.pairwise_cons.mpr ⟨fun z hz=>?_,ih⟩
  rcases List.mem_cons.mp hz with rfl | hz
  ·exact hpx
  ·exact oV hpx ((List.pairwise_cons.mp ih).1 z hz)
theorem sC : ∀ (l : List Str),sortedS l = true->l.Pairwise leT
 | [],_=>List.Pairwise.nil
 | x :: r,h=>kO r x h
theorem sD (a : Str) : leT a a:=List.lt_irrefl _
theorem mo : ∀ (l1 l2 : List Str),l1.Perm l2->l1.Pairwise leT->l2.Pairwise leT->l1 = l2
 | [],l2,p,_,_=>(List.nil_perm.mp p).symm
 | x :: r1,[],p,_,_=>absurd p.length_eq (by simp)
 | x :: r1,y :: r2,p,h1,h2=>by
  have hxy : leT x y:=by
   rcases List.mem_cons.mp (p.mem_iff.mpr (mX ..)) with z | z
   ·rw [z]; exact sD _
   ·exact (List.pairwise_cons.mp h1).1 y z
  have hyx : leT y x:=by
   rcases List.mem_cons.mp (p.mem_iff.mp (mX ..)) with z | z
   ·rw [z]; exact sD _
   ·exact (List.pairwise_cons.mp h2).1 x z
  have e:=yN hxy hyx
  subst e
  rw [mo r1 r2 (List.Perm.cons_inv p) (List.pairwise_cons.mp h1).2 (List.pairwise_cons.mp h2).2]
theorem xl {l l' : List Str} (p : l'.Perm l) (h : sortedS l' = true) : l' = iO l:=mo _ _ (p.trans (cS l).symm) (sC _ h) (mn l)
section
variable {X : Cx}
def yO (X : Cx) (S : Addr) (ts : List Str) : HO:=.ext fun h=>fm X.prog X.w h S ts
theorem xm {pins : List (Addr × Obj)} {σ : St} {H : Hp} {s s1 : Shared} (I : Inv X pins σ H s) (k : ∀ b u,s.heap.get? b = some u->s1.heap.get? b = some u) (ho : s1.os = s.os) (hg : s1.gens = s.gens) : Inv X pins σ H s1:=by
 have I1:=I.step (g':=s.gens) (d':=s1.drawn) (t':=s1.toks) (h':=s1.heap) (H':=H) (ch:=[]) (fun _ z=>nomatch z) (fun b o _ _ _ e _=>k b o e) (fun b o _ _ _ e _=>⟨o.slots,k b o e⟩) (fun _ _ _ _ n=>n)
  (fun b o _ e=>⟨o,k b o e⟩) (fun _ _ e=>e) (fun _ _ _ e=>e) (fun _ _ e=>e) (fun m hm=>?_) (I.hok.kept k) I.bare
 ·obtain ⟨h1,g1,d1,t1,o1⟩:=s1
  cases ho; cases hg
  exact I1
 ·obtain ⟨o,es,ep,ho,r⟩:=hm
  exact ⟨o,es,ep,k _ o ho,r⟩
theorem sE (hc : X.calm = true) : bR X (.type "set") (fun xs H Q=>∃ p ys ss,xs = [.ref p]/\SqL X.K H p ys/\(∀ its,aQ ys its->StrsAre its ss)/\ss.length < 4000/\∀ S,H S = none->Q (.ref S) (upd H S (yO X S (eG ss)))):=by
 intro pins s σ H xs us Q I r h
 obtain ⟨p,ys,ss,rfl,hq,hs,h64,q⟩:=h
 obtain ⟨u,rfl,rx⟩:=iJ r
 cases rx
 obtain ⟨its,r',pl,hz⟩:=I.list hq
 have hst:=hs its r'
 have hlen : its.length = ss.length:=by rw [← hst.strs,List.length_map]
 refine mh (I.ok.hd hc) pl.isList (by simpa using hst) (by simp only [List.size_toArray]; unfold scanBound; omega) fun h' tk hS hk=>?_
 refine ⟨.ref s.heap.objs.size,_,I.laid (t':=tk) (fun b u e=>hk b u (Heap.lt_size e) e) (Nat.le_refl _) ?_,rfl,q _ (I.hok.fresh (Nat.le_refl _))⟩
 refine ⟨hS, ?_,fun h1 h2 z k=>z.at k⟩
 obtain ⟨o,_,_,_,ho,_⟩:=hS
 exact ⟨o,ho⟩
theorem l7 (hc : X.calm = true) : bR X (.builtin "sorted") (fun xs H Q=>∃ S ts,xs = [.ref S]/\H S = some (yO X S ts)/\ts.length < 64/\∀ l,H l = none->Q (.ref l) (upd H l (.lst ((iO ts).map .str)))):=by
 intro pins s σ H xs us Q I r h
 obtain ⟨S,ts,rfl,hS,h64,q⟩:=h
 obtain ⟨u,rfl,rx⟩:=iJ r
 cases rx
 have hT : fm X.prog X.w s.heap S ts:=(I.hok S _ hS).1
 refine uE (I.ok.hd hc) hT h64 fun s1 h' a out n ss' k1 ho hg k2 hp he hst hperm hso=>?_
 have e:=xl hperm hso
 subst e
 have I1:=xm I k1 ho hg
 have hv : ∀ {its : List Value} {zs : List Str},StrsAre its zs->aQ (zs.map V.str) its:=fun z=>by
  induction z with
  | nil=>exact .nil
  | cons x t _ ih=>exact .cons ⟨t,rfl⟩ ih
 refine ⟨.ref a,_,I1.laid (t':=s1.toks) k2 hp (show bD X.prog X.w _ h' _ (.lst _) from ⟨?_,out.toList,n,hv hst,he⟩),rfl,q _ (I1.hok.fresh hp)⟩
 rw [List.length_map,(cS ts).length_eq,sizeLine_eq]; omega
end
@[simp] def dH : D->Option (D × Bool)
 | .lst ds=>(eO ds).bind fun ss=>if ss.length < 64 then some (.lst ((iO (eG ss)).map .str),true) else none
 | _=>none
@[simp] def E5 : D->Option (D × Bool)
 | .lst ds=>(eO ds).bind fun ss=>if ss.length < 4000 then some (.int ((eG ss).length : Nat),false) else none
 | _=>none
theorem yP : bootBuiltins "sorted" = some (.builtin "sorted"):=by decide +kernel
theorem Er : bootBuiltins "set" = some (.type "set"):=by decide +kernel
theorem mq {K : PySem.W.Frag} {N : Hp} : ∀ (zs : List Str),IsL K N (zs.map V.str) (zs.map D.str)
 | []=>.nil
 | z :: zs=>.cons (.str z) (mq zs)
section
variable {X : Cx} {e : Expr} {pos pos2 p p2 : Pos}
theorem mr {f : FE} (hc : X.calm = true) (m1 : X.mg "sorted" = none) (m2 : X.mg "set" = none) (he : JE X e f) (g1 : Gl X "sorted":=by rfl) (g2 : Gl X "set":=by rfl)
  (h1 : starEach [e] X.env = (false,eval e X.env) :: starEach [] X.env:=by rfl) : JE X (.Call (.Name "sorted" p) [.Call (.Name "set" p2) [e] [] pos2] [] pos) (f1 dH f):=by
 refine PE.to (rK (l7 hc) g1 m1 yP (eI (oB (sE hc) g2 m2 Er (eI he g8 h1) (he:=h1)) g8)) fun σ H Q q=>?_
 obtain ⟨B,ρ,d',bb,sB,r,ee,q⟩:=q
 obtain ⟨x1,ex,ee⟩:=oX ee
 refine ⟨B,ρ,x1.1,x1.2,sB,r,ex,fun v H1 N1 xt i1 fr=>?_⟩
 obtain ⟨xd,xb⟩:=x1
 cases i1 <;> try (simp [dH] at ee; done)
 rename_i l0 vs ds h hl
 simp only [dH] at ee
 obtain ⟨ss,ez,ee⟩:=oX ee
 split at ee
 ·rename_i h64
  cases ee
  refine ⟨_,_,ss,rfl,xt.nh.seq h,fun its r'=>lZ r' hl ez,by omega,fun S hS=>⟨S,_,rfl,a8,Nat.lt_of_le_of_lt (mf ss) h64,fun l hl'=>?_⟩⟩
  have x2:=Ext.laid (o:=yO X S (eG ss)) xt.nh hS
  have x3:=Ext.laid (o:=.lst ((iO (eG ss)).map V.str)) x2.nh hl'
  have hl0 : H l = none:=((xt.trans x2).hh).free hl'
  exact q _ _ _ ((xt.trans x2).trans x3) (.lst (SqL.of a8) (mq _)) fun _=>⟨_,_,_,rfl,rfl,hl0,a8,mq _⟩
 ·cases ee
end
end DL
namespace DL
open PySem PySem.Spec PySem.W PyProof.Rows
inductive Run (n : Nat) (lt : Nat->Nat->Bool) {α : Type} : KasT α->α->Prop where
 | ret (a : α) : Run n lt (.ret a) a
 | ask {i j : Nat} {k : Bool->KasT α} {a : α} (hi : i < n) (hj : j < n) (h : Run n lt (k (lt i j)) a) : Run n lt (.ask i j k) a
theorem Run.bind {n : Nat} {lt : Nat->Nat->Bool} {α β : Type} {t : KasT α} {f : α->KasT β} {a : α} {b : β} (h : Run n lt t a) (k : Run n lt (f a) b) : Run n lt (t.bind f) b:=by
 induction h with
 | ret a=>exact k
 | ask hi hj _ ih=>exact .ask hi hj (ih k)
theorem Run.wp {n : Nat} {lt : Nat->Nat->Bool} {α : Type} {cmp : Nat->Nat->(Bool->Shared->Prop)->Shared->Prop} {Q : α->Shared->Prop} {t : KasT α} {a : α} (J : Shared->Prop)
  (hc : ∀ i j C s,i < n->j < n->J s->(∀ s',J s'->C (lt i j) s')->cmp i j C s) (h : Run n lt t a) : ∀ {s : Shared},J s->(∀ s',J s'->Q a s')->t.kasWp cmp Q s:=by
 induction h with
 | ret a=>intro s hJ hQ; exact hQ s hJ
 | ask hi hj _ ih=>intro s hJ hQ; exact hc _ _ _ _ hi hj hJ fun s' hJ'=>ih hJ' hQ
section
variable {n : Nat} {rk : Nat->Int}
abbrev ltR (rk : Nat->Int) (i j : Nat) : Bool:=decide (rk i < rk j)
def bA (rk : Nat->Int) (p : Array Nat) (k : Nat) : Int:=rk (p.getD k 0)
structure Arr (n : Nat) (p : Array Nat) : Prop where
 size : p.size = n
 perm : p.toList.Perm (List.range n)
theorem Arr.lt {p : Array Nat} (h : Arr n p) {k : Nat} (hk : k < n) : p.getD k 0 < n:=by
 have hk' : k < p.size:=by rw [h.size]; exact hk
 have : p.getD k 0 = p[k]:=by rw [Array.getD_eq_getD_getElem?,Array.getElem?_eq_getElem hk']; rfl
 rw [this]
 exact List.mem_range.mp (h.perm.mem_iff.mp (by simp))
theorem Arr.rev {p : Array Nat} (h : Arr n p) (i j : Nat) : Arr n (kas_rev p i j) :=
 ⟨(mirror_size _ _ _ _).trans h.size,(Array.perm_iff_toList_perm.mp (mirror_perm p i j _)).trans h.perm⟩
theorem Arr.bub {p : Array Nat} (h : Arr n p) (k d : Nat) : Arr n (bubble p k d) :=
 ⟨(bubble_size _ _ _).trans h.size,(Array.perm_iff_toList_perm.mp (bubble_perm p k d)).trans h.perm⟩
theorem q8 {p : Array Nat} {i j : Nat} (hj : j<=p.size) (k : Nat) : bA rk (kas_rev p i j) k = if i<=k/\k < j then bA rk p (i + j - 1 - k) else bA rk p k:=by
 unfold bA kas_rev
 rw [Array.getD_eq_getD_getElem?,getElem?_mirror_all hj]
 split <;> rw [Array.getD_eq_getD_getElem?]
theorem yQ {p : Array Nat} {src d : Nat} (hs : src < p.size) (hd : d<=src) (k : Nat) : bA rk (bubble p src d) k = if k = src - d then bA rk p src else if src - d < k/\k<=src then bA rk p (k - 1) else bA rk p k:=by
 unfold bA
 simp only [Array.getD_eq_getD_getElem?]
 rw [getElem?_bubble hs d hd]
 repeat' split
 all_goals rfl
def Up (rk : Nat->Int) (p : Array Nat) (m : Nat) : Prop:=∀ i j,i<=j->j < m->bA rk p i<=bA rk p j
def qA (rk : Nat->Int) (p : Array Nat) (m : Nat) : Prop:=∀ i j,i<=j->j < m->bA rk p j<=bA rk p i
theorem CP (p : Array Nat) : Up rk p 1:=fun i j h1 h2=>by
 have : i = j:=by omega
 subst this; exact Int.le_refl _
theorem qB {p : Array Nat} (h : Arr n p) {r : Nat} (hr : r<=n) : ∀ (f m : Nat),r - m = f->1<=m->m<=r->Up rk p m->∃ m',Run n (ltR rk) (kas_asc p f m) m'/\m<=m'/\m'<=r/\Up rk p m'/\(m' < r->bA rk p m' < bA rk p (m' - 1))
 | 0,m,hf,h1,hm,hu=>⟨m,.ret m,Nat.le_refl _,hm,hu,fun z=>by omega⟩
 | f + 1,m,hf,h1,hm,hu=>by
  have a1:=h.lt (k:=m) (by omega)
  have a2:=h.lt (k:=m - 1) (by omega)
  by_cases hc : bA rk p m < bA rk p (m - 1)
  ·refine ⟨m,.ask a1 a2 ?_,Nat.le_refl _,hm,hu,fun _=>hc⟩
   have : ltR rk (p.getD m 0) (p.getD (m - 1) 0) = true:=decide_eq_true hc
   rw [this,if_pos rfl]; exact .ret m
  ·have hu' : Up rk p (m + 1):=fun i j hij hj=>by
    by_cases e : j = m
    ·subst e
     by_cases e2 : i = j
     ·subst e2; exact Int.le_refl _
     ·have:=hu i (j - 1) (by omega) (by omega); omega
    ·exact hu i j hij (by omega)
   obtain ⟨m',q1,q2,q3,q4,q5⟩:=qB h hr f (m + 1) (by omega) (by omega) (by omega) hu'
   refine ⟨m',.ask a1 a2 ?_,by omega,q3,q4,q5⟩
   have : ltR rk (p.getD m 0) (p.getD (m - 1) 0) = false:=decide_eq_false hc
   rw [this,if_neg Bool.false_ne_true]; exact q1
def A3 (rk : Nat->Int) (p : Array Nat) (m q : Nat) : Prop:=q + 1<=m/\∀ k,m - (q + 1)<=k->k < m->bA rk p k = bA rk p (m - 1)
theorem sF {p : Array Nat} {m q : Nat} (hs : m<=p.size) (hf : A3 rk p m q) (k : Nat) : bA rk (kas_rev p (m - (q + 1)) m) k = bA rk p k:=by
 rw [q8 hs]
 split
 ·rename_i hk
  have h0:=hf.1
  rw [hf.2 k hk.1 hk.2,hf.2 _ (by omega) (by omega)]
 ·rfl
theorem vQ {p p' : Array Nat} {m : Nat} (e : ∀ k,bA rk p' k = bA rk p k) (h : qA rk p m) : qA rk p' m:=fun i j h1 h2=>by rw [e,e]; exact h i j h1 h2
theorem ms (p : Array Nat) {m : Nat} (h : 1<=m) : A3 rk p m 0:=⟨h,fun k h1 h2=>by
 have : k = m - 1:=by omega
 rw [this]⟩
theorem jA {r : Nat} (hr : r<=n) : ∀ (f : Nat) (p : Array Nat) (m q : Nat),Arr n p->r - m = f->1<=m->m<=r->qA rk p m->A3 rk p m q->∃ p' m' q',Run n (ltR rk) (kas_desc f p m q) (p',m',q')/\Arr n p'/\m<=m'/\m'<=r/\qA rk p' m'/\A3 rk p' m' q'
 | 0,p,m,q,h,hf,h1,hm,hd,hq=>⟨p,m,q,.ret _,h,Nat.le_refl _,hm,hd,hq⟩
 | f + 1,p,m,q,h,hf,h1,hm,hd,hq=>by
  have a1:=h.lt (k:=m) (by omega)
  have a2:=h.lt (k:=m - 1) (by omega)
  have step : ∀ p' : Array Nat,(∀ k,bA rk p' k = bA rk p k)->bA rk p m<=bA rk p (m - 1)->qA rk p' (m + 1):=fun p' e hle i j hij hj=>by
   rw [e,e]
   by_cases z : j = m
   ·subst z
    by_cases z2 : i = j
    ·subst z2; exact Int.le_refl _
    ·have:=hd i (j - 1) (by omega) (by omega); omega
   ·exact hd i j hij (by omega)
  by_cases hc : bA rk p m < bA rk p (m - 1)
  ·have hcl : ltR rk (p.getD m 0) (p.getD (m - 1) 0) = true:=decide_eq_true hc
   by_cases hq0 : q > 0
   ·have e:=sF (p:=p) (by rw [h.size]; omega) hq
    obtain ⟨p',m',q',g1,g2,g3,g4,g5,g6⟩:=jA hr f (kas_rev p (m - (q + 1)) m) (m + 1) 0 (h.rev _ _) (by omega) (by omega) (by omega) (step _ e (by omega)) (ms _ (by omega))
    refine ⟨p',m',q',.ask a1 a2 ?_,g2,by omega,g4,g5,g6⟩
    rw [hcl,if_pos rfl,if_pos hq0]; exact g1
   ·obtain ⟨p',m',q',g1,g2,g3,g4,g5,g6⟩:=jA hr f p (m + 1) 0 h (by omega) (by omega) (by omega) (step _ (fun _=>rfl) (by omega)) (ms _ (by omega))
    refine ⟨p',m',q',.ask a1 a2 ?_,g2,by omega,g4,g5,g6⟩
    rw [hcl,if_pos rfl,if_neg hq0]; exact g1
  ·have hcl : ltR rk (p.getD m 0) (p.getD (m - 1) 0) = false:=decide_eq_false hc
   by_cases hc2 : bA rk p (m - 1) < bA rk p m
   ·have hcl2 : ltR rk (p.getD (m - 1) 0) (p.getD m 0) = true:=decide_eq_true hc2
    refine ⟨p,m,q,.ask a1 a2 ?_,h,Nat.le_refl _,hm,hd,hq⟩
    rw [hcl,if_neg Bool.false_ne_true]
    refine .ask a2 a1 ?_
    rw [hcl2,if_pos rfl]; exact .ret _
   ·have hcl2 : ltR rk (p.getD (m - 1) 0) (p.getD m 0) = false:=decide_eq_false hc2
    have he : bA rk p m = bA rk p (m - 1):=by omega
    obtain ⟨p',m',q',g1,g2,g3,g4,g5,g6⟩:=jA hr f p (m + 1) (q + 1) h (by omega) (by omega) (by omega) (step _ (fun _=>rfl) (by omega)) ⟨by have:=hq.1; omega,fun k k1 k2=>by
     rw [Nat.add_sub_cancel]
     by_cases z : k = m
     ·rw [z]
     ·rw [hq.2 k (by omega) (by omega),he]⟩
    refine ⟨p',m',q',.ask a1 a2 ?_,g2,by omega,g4,g5,g6⟩
    rw [hcl,if_neg Bool.false_ne_true]
    refine .ask a2 a1 ?_
    rw [hcl2,if_neg Bool.false_ne_true]; exact g1
theorem sG {r : Nat} (hr : r<=n) {p : Array Nat} (h : Arr n p) {m : Nat} (h1 : 1<=m) (hm : m<=r) (hd : qA rk p m) : ∃ m' p',Run n (ltR rk) (kas_tail3 m r p) (m',p')/\Arr n p'/\1<=m'/\m'<=r/\Up rk p' m':=by
 have hu : Up rk (kas_rev p 0 m) m:=fun i j hij hj=>by
  rw [q8 (by rw [h.size]; omega),q8 (by rw [h.size]; omega),if_pos (by omega),if_pos (by omega)]
  exact hd _ _ (by omega) (by omega)
 obtain ⟨m',q1,q2,q3,q4,_⟩:=qB (h.rev 0 m) hr (r - m) m rfl h1 hm hu
 exact ⟨m',_,q1.bind (.ret _),h.rev 0 m,by omega,q3,q4⟩
theorem sI {r : Nat} (hr : r<=n) {p : Array Nat} (h : Arr n p) {m : Nat} (hm : m + 1<=r) (hd : qA rk p (m + 1)) : ∃ m' p',Run n (ltR rk) (kas_descPart m r p) (m',p')/\Arr n p'/\1<=m'/\m'<=r/\Up rk p' m':=by
 obtain ⟨p1,m1,q1,g1,g2,g3,g4,g5,g6⟩:=jA hr (r - (m + 1)) p (m + 1) 0 h rfl (by omega) hm hd (ms _ (by omega))
 by_cases hq : q1 > 0
 ·obtain ⟨m',p',k1,k2,k3,k4,k5⟩:=sG hr (g2.rev (m1 - (q1 + 1)) m1) (m:=m1) (by omega) g4 (vQ (sF (by rw [g2.size]; omega) g6) g5)
  exact ⟨m',p',g1.bind (by dsimp only; rw [if_pos hq]; exact k1),k2,k3,k4,k5⟩
 ·obtain ⟨m',p',k1,k2,k3,k4,k5⟩:=sG hr g2 (m:=m1) (by omega) g4 g5
  exact ⟨m',p',g1.bind (by dsimp only; rw [if_neg hq]; exact k1),k2,k3,k4,k5⟩
theorem xn {p : Array Nat} (h : Arr n p) (hn : 1<=n) : ∃ m' p',Run n (ltR rk) (kas_count n p) (m',p')/\Arr n p'/\1<=m'/\m'<=n/\Up rk p' m':=by
 obtain ⟨m,q1,q2,q3,q4,q5⟩:=qB h (Nat.le_refl n) (n - 1) 1 rfl (Nat.le_refl 1) hn (CP (rk:=rk) p)
 by_cases e : m = n
 ·exact ⟨m,p,q1.bind (by rw [if_pos (by simp [e])]; exact .ret _),h,q2,q3,q4⟩
 ·have hlt:=q5 (by omega)
  have e1 : ¬ (m == n) = true:=by simp [e]
  by_cases hm1 : m > 1
  ·by_cases hc : bA rk p 0 < bA rk p (m - 1)
   ·refine ⟨m,p,q1.bind ?_,h,q2,q3,q4⟩
    rw [if_neg e1,if_pos hm1]
    refine .ask (h.lt (by omega)) (h.lt (by omega)) ?_
    have : ltR rk (p.getD 0 0) (p.getD (m - 1) 0) = true:=decide_eq_true hc
    rw [this,if_pos rfl]; exact .ret _
   ·have hall : ∀ k,k < m->bA rk p k = bA rk p 0:=fun k hk=>by
     have z1:=q4 0 k (by omega) hk
     have z2:=q4 k (m - 1) (by omega) (by omega)
     omega
    have er : ∀ k,bA rk (kas_rev p 0 m) k = bA rk p k:=fun k=>by
     rw [q8 (by rw [h.size]; omega)]
     split
     ·rename_i z; rw [hall _ (by omega),hall k z.2]
     ·rfl
    have hd : qA rk p (m + 1):=fun i j hij hj=>by
     by_cases z : j = m
     ·subst z
      by_cases z2 : i = j
      ·subst z2; exact Int.le_refl _
      ·rw [hall i (by omega)]; rw [hall (j - 1) (by omega)] at hlt; omega
     ·rw [hall i (by omega),hall j (by omega)]; exact Int.le_refl _
    obtain ⟨m',p',k1,k2,k3,k4,k5⟩:=sI (Nat.le_refl n) (h.rev 0 m) (m:=m) (by omega) (vQ er hd)
    refine ⟨m',p',q1.bind ?_,k2,k3,k4,k5⟩
    rw [if_neg e1,if_pos hm1]
    refine .ask (h.lt (by omega)) (h.lt (by omega)) ?_
    have : ltR rk (p.getD 0 0) (p.getD (m - 1) 0) = false:=decide_eq_false hc
    rw [this,if_neg Bool.false_ne_true]; exact k1
  ·have em : m = 1:=by omega
   subst em
   have hd : qA rk p 2:=fun i j hij hj=>by
    by_cases z2 : i = j
    ·subst z2; exact Int.le_refl _
    ·have : i = 0:=by omega
     have : j = 1:=by omega
     subst_vars
     have:=hlt
     simp at this
     omega
   obtain ⟨m',p',k1,k2,k3,k4,k5⟩:=sI (Nat.le_refl n) h (m:=1) (by omega) hd
   refine ⟨m',p',q1.bind ?_,k2,k3,k4,k5⟩
   rw [if_neg e1,if_neg hm1]; exact k1
theorem km {p : Array Nat} (h : Arr n p) {k : Nat} (hk : k < n) (hu : Up rk p k) : ∀ (f l r : Nat),r - l<=f->l<=r->r<=k->(∀ i,i < l->bA rk p i<=bA rk p k)->(∀ i,r<=i->i < k->bA rk p k < bA rk p i) ->
  ∃ l',Run n (ltR rk) (kas_place p k f l r) l'/\l'<=k/\(∀ i,i < l'->bA rk p i<=bA rk p k)/\(∀ i,l'<=i->i < k->bA rk p k < bA rk p i)
 | 0,l,r,hf,hl,hr,h1,h2=>⟨l,.ret l,by omega,h1,fun i a b=>h2 i (by omega) b⟩
 | f + 1,l,r,hf,hl,hr,h1,h2=>by
  by_cases hge : l ≥ r
  ·refine ⟨l, ?_,by omega,h1,fun i a b=>h2 i (by omega) b⟩
   unfold kas_place; rw [if_pos hge]; exact .ret l
  ·by_cases hc : bA rk p k < bA rk p ((l + r) / 2)
   ·obtain ⟨l',q1,q2,q3,q4⟩:=km h hk hu f l ((l + r) / 2) (by omega) (by omega) (by omega) h1 fun i a b=>by
     have:=hu ((l + r) / 2) i a b; omega
    refine ⟨l', ?_,q2,q3,q4⟩
    unfold kas_place; rw [if_neg hge]
    refine .ask (h.lt (by omega)) (h.lt (by omega)) ?_
    have : ltR rk (p.getD k 0) (p.getD ((l + r) / 2) 0) = true:=decide_eq_true hc
    rw [this,if_pos rfl]; exact q1
   ·obtain ⟨l',q1,q2,q3,q4⟩:=km h hk hu f ((l + r) / 2 + 1) r (by omega) (by omega) hr (fun i a=>by
     have:=hu i ((l + r) / 2) (by omega) (by omega); omega) h2
    refine ⟨l', ?_,q2,q3,q4⟩
    unfold kas_place; rw [if_neg hge]
    refine .ask (h.lt (by omega)) (h.lt (by omega)) ?_
    have : ltR rk (p.getD k 0) (p.getD ((l + r) / 2) 0) = false:=decide_eq_false hc
    rw [this,if_neg Bool.false_ne_true]; exact q1
theorem vR : ∀ (f : Nat) (p : Array Nat) (k : Nat),Arr n p->n - k = f->k<=n->Up rk p k->∃ p',Run n (ltR rk) (kas_bin f p k) p'/\Arr n p'/\Up rk p' n
 | 0,p,k,h,hf,hk,hu=>⟨p,.ret p,h,(show k = n by omega) ▸ hu⟩
 | f + 1,p,k,h,hf,hk,hu=>by
  have hk' : k < n:=by omega
  obtain ⟨l,q1,q2,q3,q4⟩:=km h hk' hu k 0 k (by omega) (by omega) (Nat.le_refl _) (fun i z=>by omega) (fun i a b=>by omega)
  have hsz : k < p.size:=by rw [h.size]; exact hk'
  have hu' : Up rk (bubble p k (k - l)) (k + 1):=fun i j hij hj=>by
   rw [yQ hsz (by omega),yQ hsz (by omega)]
   have e : k - (k - l) = l:=by omega
   rw [e]
   by_cases i1 : i = l
   ·rw [if_pos i1]
    by_cases j1 : j = l
    ·rw [if_pos j1]; exact Int.le_refl _
    ·rw [if_neg j1,if_pos (by omega)]; have:=q4 (j - 1) (by omega) (by omega); omega
   ·rw [if_neg i1]
    by_cases i2 : l < i/\i<=k
    ·rw [if_pos i2,if_neg (by omega),if_pos (by omega)]; exact hu _ _ (by omega) (by omega)
    ·rw [if_neg i2]
     by_cases j1 : j = l
     ·rw [if_pos j1]; exact q3 i (by omega)
     ·rw [if_neg j1]
      by_cases j2 : l < j/\j<=k
      ·rw [if_pos j2]; exact hu _ _ (by omega) (by omega)
      ·rw [if_neg j2]; exact hu _ _ hij (by omega)
  obtain ⟨p',k1,k2,k3⟩:=vR f (bubble p k (k - l)) (k + 1) (h.bub _ _) (by omega) (by omega) hu'
  exact ⟨p',q1.bind k1,k2,k3⟩
theorem yR (hn : 1<=n) : ∃ p,Run n (ltR rk) (kas_sort n) p/\Arr n p/\Up rk p n:=by
 have h0 : Arr n (List.toArray (List.range n)):=⟨by simp,by simp⟩
 obtain ⟨m,p,q1,q2,q3,q4,q5⟩:=xn (rk:=rk) h0 hn
 by_cases e : m < n
 ·have hmx : max m 1 = m:=by omega
  obtain ⟨p',k1,k2,k3⟩:=vR (n - max m 1) p (max m 1) q2 rfl (by omega) (by rw [hmx]; exact q5)
  exact ⟨p',q1.bind (by dsimp only; rw [if_pos e]; exact k1),k2,k3⟩
 ·have : m = n:=by omega
  subst this
  exact ⟨p,q1.bind (by dsimp only; rw [if_neg e]; exact .ret _),q2,q5⟩
end
theorem iq {a b c : List Int} (h : a < b) (k : b < c) : a < c:=List.lt_trans h k
theorem xo {a b c : List Int} (h : ¬ b < a) (k : ¬ c < b) : ¬ c < a:=List.not_lt.mpr (List.le_trans (List.not_lt.mp h) (List.not_lt.mp k))
theorem yS {a b : List Int} (h : ¬ b < a) (k : ¬ a < b) : a = b:=List.le_antisymm (List.not_lt.mp h) (List.not_lt.mp k)
section
variable {α : Type} (f : α->List Int)
def leF (a b : α) : Prop:=¬ f b < f a
def uG (x : α) : List α->List α
 | []=>[x]
 | y :: r=>if f y < f x then y :: uG x r else x :: y :: r
def f9 (l : List α) : List α:=l.foldr (uG f) []
theorem kn (x : α) : ∀ l,(uG f x l).Perm (x :: l)
 | []=>List.Perm.refl _
 | y :: r=>by
  unfold uG
  split
  ·exact ((kn x r).cons y).trans (List.Perm.swap x y r)
  ·exact List.Perm.refl _
theorem bf : ∀ l,(f9 f l).Perm l
 | []=>List.Perm.refl _
 | x :: l=>(kn f x (f9 f l)).trans ((bf l).cons x)
theorem oZ (x : α) : ∀ l,l.Pairwise (leF f)->(uG f x l).Pairwise (leF f)
 | [],_=>by simp [uG]
 | y :: r,h=>by
  obtain ⟨h1,h2⟩:=List.pairwise_cons.mp h
  unfold uG
  split
  ·rename_i hl
   refine List.pairwise_cons.mpr ⟨fun z hz=>?_,oZ x r h2⟩
   rcases List.mem_cons.mp ((kn f x r).mem_iff.mp hz) with rfl | hz
   ·exact fun k=>List.lt_irrefl _ (iq hl k)
   ·exact h1 z hz
  ·rename_i hl
   refine List.pairwise_cons.mpr ⟨fun z hz=>?_,h⟩
   rcases List.mem_cons.mp hz with rfl | hz
   ·exact hl
   ·exact xo hl (h1 z hz)
theorem cU : ∀ l,(f9 f l).Pairwise (leF f)
 | []=>List.Pairwise.nil
 | x :: l=>oZ f x _ (cU l)
theorem pb : ∀ (l1 l2 : List α),(∀ x ∈ l1,∀ y ∈ l1,f x = f y->x = y)->l1.Perm l2->l1.Pairwise (leF f)->l2.Pairwise (leF f)->l1 = l2
 | [],l2,_,p,_,_=>(List.nil_perm.mp p).symm
 | x :: r1,[],_,p,_,_=>absurd p.length_eq (by simp)
 | x :: r1,y :: r2,hi,p,h1,h2=>by
  have hy : y ∈ x :: r1:=p.mem_iff.mpr (mX ..)
  have hxy : leF f x y:=by
   rcases List.mem_cons.mp hy with z | z
   ·rw [z]; exact List.lt_irrefl _
   ·exact (List.pairwise_cons.mp h1).1 y z
  have hyx : leF f y x:=by
   rcases List.mem_cons.mp (p.mem_iff.mp (mX ..)) with z | z
   ·rw [z]; exact List.lt_irrefl _
   ·exact (List.pairwise_cons.mp h2).1 x z
  have e : x = y:=hi x (mX ..) y hy (yS hxy hyx)
  subst e
  rw [pb r1 r2 (fun a ha b hb=>hi a (mZ _ ha) b (mZ _ hb)) (List.Perm.cons_inv p) (List.pairwise_cons.mp h1).2 (List.pairwise_cons.mp h2).2]
theorem gI {l l' : List α} (hi : ∀ x ∈ l,∀ y ∈ l,f x = f y->x = y) (p : l'.Perm l) (h : l'.Pairwise (leF f)) : l' = f9 f l :=
 pb f _ _ (fun x hx y hy=>hi x (p.mem_iff.mp hx) y (p.mem_iff.mp hy)) (p.trans (bf f l).symm) h (cU f l)
end
theorem jb {α : Type} {p q : α->Bool} (h : ∀ x,p x = true->q x = true) : ∀ l : List α,(l.filter p).length<=(l.filter q).length
 | []=>Nat.le_refl _
 | x :: l=>by
  have ih:=jb h l
  rw [List.filter_cons,List.filter_cons]
  by_cases z : p x = true
  ·rw [if_pos z,if_pos (h x z)]; simp only [List.length_cons]; omega
  ·rw [if_neg z]
   split
   ·simp only [List.length_cons]; omega
   ·exact ih
def jB (cs : List (List Int)) (c : List Int) : Int:=((cs.filter fun x=>decide (x < c)).length : Nat)
theorem A4 {cs : List (List Int)} {a b : List Int} (h : ¬ b < a) : jB cs a<=jB cs b:=by
 unfold jB
 refine Int.ofNat_le.mpr (jb (fun x hx=>?_) cs)
 rw [decide_eq_true_eq] at hx ⊢
 rcases List.le_iff_lt_or_eq.mp (List.not_lt.mp h) with z | z
 ·exact iq hx z
 ·rw [← z]; exact hx
theorem vS {cs : List (List Int)} {a b : List Int} (ha : a ∈ cs) (h : a < b) : jB cs a < jB cs b:=by
 unfold jB
 apply Int.ofNat_lt.mpr
 induction cs with
 | nil=>simp at ha
 | cons c cs ih =>
  have key : ∀ l : List (List Int),(l.filter fun x=>decide (x < a)).length<=(l.filter fun x=>decide (x < b)).length:=fun l =>
   jb (fun x hx=>by rw [decide_eq_true_eq] at hx ⊢; exact iq hx h) l
  rw [List.filter_cons,List.filter_cons]
  rcases List.mem_cons.mp ha with rfl | ha
  ·rw [if_neg (by simp [List.lt_irrefl]),if_pos (by simpa using h)]
   have:=key cs
   simp only [List.length_cons]; omega
  ·have:=ih ha
   by_cases z : c < a
   ·rw [if_pos (by simpa using z),if_pos (by simpa using iq z h)]
    simp only [List.length_cons]; omega
   ·rw [if_neg (by simpa using z)]
    split
    ·simp only [List.length_cons]; omega
    ·exact this
theorem yT {cs : List (List Int)} {a b : List Int} (ha : a ∈ cs) : decide (jB cs a < jB cs b) = decide (a < b):=by
 by_cases h : a < b
 ·rw [decide_eq_true h,decide_eq_true (vS ha h)]
 ·rw [decide_eq_false h,decide_eq_false]
  have:=A4 (cs:=cs) h
  omega
inductive At where
 | i (n : Int)
 | s (z : Str)
def enc : At->List Int
 | .i n=>[n]
 | .s z=>z.cps.toList.map (fun (c : Nat)=>(c : Int) + 1) ++ [0]
def bK (xs : List At) : List Int:=xs.flatMap enc
def aZ : List At->List At->Option Bool
 | [],ys=>some (!ys.isEmpty)
 | _ :: _,[]=>some false
 | .i a :: xs,.i b :: ys=>if a = b then aZ xs ys else some (decide (a < b))
 | .s a :: xs,.s b :: ys=>if a = b then aZ xs ys else some (decide (a.cps.toList < b.cps.toList))
 | _ :: _,_ :: _=>none
theorem qC : ∀ (a b : List Nat) (r r' : List Int),(a.map (fun (c : Nat)=>(c : Int) + 1) ++ 0 :: r) < (b.map (fun (c : Nat)=>(c : Int) + 1) ++ 0 :: r') ↔ a < b ∨ (a = b/\r < r')
 | [],[],r,r'=>by simp [List.cons_lt_cons_iff]
 | [],y :: b,r,r'=>by simp [List.cons_lt_cons_iff]
 | x :: a,[],r,r'=>by simp [List.cons_lt_cons_iff]; omega
 | x :: a,y :: b,r,r'=>by
  rw [List.map_cons,List.map_cons,List.cons_append,List.cons_append,List.cons_lt_cons_iff,qC a b r r',List.cons_lt_cons_iff]
  constructor
  ·rintro (h | ⟨h,k | ⟨k1,k2⟩⟩)
   ·exact .inl (.inl (by omega))
   ·exact .inl (.inr ⟨by omega,k⟩)
   ·exact .inr ⟨by rw [k1,show x = y by omega],k2⟩
  ·rintro ((h | ⟨h,k⟩) | ⟨h,k⟩)
   ·exact .inl (by omega)
   ·exact .inr ⟨by omega,.inl k⟩
   ·injection h with h1 h2
    exact .inr ⟨by omega,.inr ⟨h2,k⟩⟩
theorem fB (x : At) (xs : List At) : bK (x :: xs) = enc x ++ bK xs:=by unfold bK; rw [List.flatMap_cons]
theorem CQ (x : At) : enc x ≠ []:=by cases x <;> simp [enc]
theorem vT {a b : Str} : a.cps.toList = b.cps.toList ↔ a = b:=by
 constructor
 ·intro h
  obtain ⟨a⟩:=a; obtain ⟨b⟩:=b
  have : a = b:=Array.toList_inj.mp h
  rw [this]
 ·rintro rfl; rfl
theorem lF : ∀ (xs ys : List At) (b : Bool),aZ xs ys = some b->b = decide (bK xs < bK ys)
 | [],[],b,h=>by simp [aZ] at h; subst h; simp [bK]
 | [],y :: ys,b,h=>by
  simp [aZ] at h; subst h
  rw [fB]
  cases e : enc y with
  | nil=>exact absurd e (CQ y)
  | cons c cs=>simp [bK]
 | x :: xs,[],b,h=>by simp [aZ] at h; subst h; simp [bK]
 | .i a :: xs,.i c :: ys,b,h=>by
  rw [aZ] at h
  rw [fB,fB]
  show b = decide (a :: bK xs < c :: bK ys)
  split at h
  ·rename_i e
   subst e
   rw [lF xs ys b h]
   exact decide_eq_decide.mpr (by rw [List.cons_lt_cons_iff]; simp)
  ·rename_i e
   cases h
   exact decide_eq_decide.mpr (by rw [List.cons_lt_cons_iff]; simp [e])
 | .s a :: xs,.s c :: ys,b,h=>by
  rw [aZ] at h
  rw [fB,fB]
  have e0 : ∀ (z : Str) (r : List Int),enc (.s z) ++ r = z.cps.toList.map (fun (c : Nat)=>(c : Int) + 1) ++ 0 :: r:=fun z r=>by simp [enc]
  rw [e0,e0]
  split at h
  ·rename_i e
   subst e
   rw [lF xs ys b h]
   exact decide_eq_decide.mpr (by rw [qC]; exact ⟨fun z=>.inr ⟨rfl,z⟩,fun z=>z.elim (fun q=>absurd q (List.lt_irrefl _)) (·.2)⟩)
  ·rename_i e
   cases h
   exact decide_eq_decide.mpr (by rw [qC,vT]; exact ⟨.inl,fun z=>z.elim id fun q=>absurd q.1 e⟩)
 | .i _ :: _,.s _ :: _,b,h=>by simp [aZ] at h
 | .s _ :: _,.i _ :: _,b,h=>by simp [aZ] at h
theorem uH : ∀ (xs ys : List At),aZ xs ys = some false->aZ ys xs = some false->xs = ys
 | [],[],_,_=>rfl
 | [],y :: ys,h,_=>by simp [aZ] at h
 | x :: xs,[],_,h=>by simp [aZ] at h
 | .i a :: xs,.i c :: ys,h,k=>by
  rw [aZ] at h k
  by_cases e : a = c
  ·subst e
   rw [if_pos rfl] at h k
   rw [uH xs ys h k]
  ·rw [if_neg e] at h
   rw [if_neg (Ne.symm e)] at k
   simp at h k
   omega
 | .s a :: xs,.s c :: ys,h,k=>by
  rw [aZ] at h k
  by_cases e : a = c
  ·subst e
   rw [if_pos rfl] at h k
   rw [uH xs ys h k]
  ·rw [if_neg e] at h
   rw [if_neg (Ne.symm e)] at k
   simp only [Option.some.injEq,decide_eq_false_iff_not] at h k
   exact absurd (vT.mp (List.le_antisymm (List.not_lt.mp k) (List.not_lt.mp h))) e
 | .i _ :: _,.s _ :: _,h,_=>by simp [aZ] at h
 | .s _ :: _,.i _ :: _,h,_=>by simp [aZ] at h
def dw (ks : List (List At)) : Bool:=ks.all fun x=>ks.all fun y=>(aZ x y).isSome
theorem fD {ks : List (List At)} (h : dw ks = true) {x y : List At} (hx : x ∈ ks) (hy : y ∈ ks) : aZ x y = some (decide (bK x < bK y)):=by
 have:=List.all_eq_true.mp (List.all_eq_true.mp h x hx) y hy
 obtain ⟨b,e⟩:=Option.isSome_iff_exists.mp this
 rw [e,lF _ _ _ e]
theorem pc {ks : List (List At)} (h : dw ks = true) {x y : List At} (hx : x ∈ ks) (hy : y ∈ ks) (e : bK x = bK y) : x = y:=by
 refine uH _ _ ?_ ?_
 ·rw [fD h hx hy,e,decide_eq_false (List.lt_irrefl _)]
 ·rw [fD h hy hx,e,decide_eq_false (List.lt_irrefl _)]
def atV : At->Value->Prop
 | .i n,v=>∃ t,v = .int n t
 | .s z,v=>∃ t,v = .str z t
def gz (h : Heap) (xs : List At) (v : Value) : Prop:=∃ a o its n,v = .ref a/\h.get? a = some o/\o.cls = .type "tuple"/\o.data = .seq its n/\Paired atV xs its.toList
def dh (ks : List (List At)) : Bool:=ks.all (fun x=>match x with | .i _ :: _=>true | _=>false) || ks.all (fun x=>match x with | .s _ :: _=>true | _=>false)
section
variable {prog : Program} {w : World} {A : Around} {E : Value->Shared->Prop} {s : Shared}
theorem mt {Q : Bool->Shared->Prop} {b : Bool} {fin : Bool} : ∀ (xs ys : List At) (its jts : List Value) (i : Nat),Paired atV xs its->Paired atV ys jts->aZ xs ys = some b->fin = decide (xs.length < ys.length)->Q b s->KatLex prog w A true fin Q (its.zip jts) i s
 | [],ys,_,jts,i,.nil,r2,h,hf,q=>by
  rw [List.zip_nil_left]
  refine kat_nil ?_
  cases ys with
  | nil=>simp [aZ] at h; subst h; rw [hf]; exact q
  | cons y ys=>simp [aZ] at h; subst h; rw [hf]; simpa using q
 | x :: xs,[],_,_,i,_,.nil,h,hf,q=>by
  rw [List.zip_nil_right]
  refine kat_nil ?_
  simp [aZ] at h; subst h; rw [hf]; simpa using q
 | .i a :: xs,.i c :: ys,_,_,i,.cons r1 r1',.cons r2 r2',h,hf,q=>by
  obtain ⟨t,rfl⟩:=r1
  obtain ⟨u,rfl⟩:=r2
  rw [List.zip_cons_cons]
  refine kat_cons (wpAny_eqBool_int ?_)
  rw [aZ] at h
  by_cases e : a = c
  ·rw [if_pos e] at h
   rw [show (a == c) = true by simp [e]]
   exact kat_yes (mt xs ys _ _ (i + 1) r1' r2' h (by rw [hf]; simp) q)
  ·rw [if_neg e] at h
   cases h
   rw [show (a == c) = false by simp [e]]
   refine kat_no ?_
   cases hb : (true && i == 0) with
   | true=>exact oneLt_int q
   | false=>exact kat_one _ _ (PyProof.Rows.lt_int q)
 | .s a :: xs,.s c :: ys,_,_,i,.cons r1 r1',.cons r2 r2',h,hf,q=>by
  obtain ⟨t,rfl⟩:=r1
  obtain ⟨u,rfl⟩:=r2
  rw [List.zip_cons_cons]
  refine kat_cons (wpAny_eqBool_str ?_)
  rw [aZ] at h
  by_cases e : a = c
  ·rw [if_pos e] at h
   rw [decide_eq_true e]
   exact kat_yes (mt xs ys _ _ (i + 1) r1' r2' h (by rw [hf]; simp) q)
  ·rw [if_neg e] at h
   cases h
   rw [decide_eq_false e]
   refine kat_no ?_
   cases hb : (true && i == 0) with
   | true=>exact oneLt_str q
   | false=>exact kat_one _ _ (PySem.P.lt_str q)
 | .i _ :: _,.s _ :: _,_,_,_,_,_,h,_,_=>by simp [aZ] at h
 | .s _ :: _,.i _ :: _,_,_,_,_,_,h,_,_=>by simp [aZ] at h
theorem jc {α β : Type} {F : α->β->Prop} : ∀ {l₁ : List α} {l₂ : List β},Paired F l₁ l₂->l₁.length = l₂.length
 | _,_,.nil=>rfl
 | _,_,.cons _ t=>by simp [jc t]
theorem CS {Q : Bool->Shared->Prop} {xs ys : List At} {x y : Value} {b : Bool} (hx : gz s.heap xs x) (hy : gz s.heap ys y) (h : aZ xs ys = some b) (q : Q b s) : wpAny (model prog w) A (keyLt' (tuples' true) x y) Q E s:=by
 obtain ⟨a,o,its,n,rfl,ho,_,hd,r⟩:=hx
 obtain ⟨a',o',its',n',rfl,ho',_,hd',r'⟩:=hy
 refine kat_lt ho hd ho' hd' (mt xs ys _ _ 0 r r' h ?_ q)
 rw [← Array.length_toList,← Array.length_toList,jc r,jc r']
theorem kP {h : Heap} : ∀ {ks : List (List At)} {vs : List Value},Paired (gz h) ks vs->(∀ k ∈ ks,k ≠ [])->∃ fs,KatTups h vs fs/\fs.length = ks.length/\∀ v ∈ fs,∃ k r,(k :: r) ∈ ks/\atV k v
 | _,_,.nil,_=>⟨[],trivial,rfl,by simp⟩
 | k :: ks,_,.cons x t,hne=>by
  obtain ⟨fs,h1,h2,h3⟩:=kP t fun z hz=>hne z (mZ _ hz)
  obtain ⟨a,o,its,n,rfl,ho,hc,hd,r⟩:=x
  cases r' : its.toList with
  | nil =>
   rw [r'] at r
   cases r
   exact absurd rfl (hne [] (mX ..))
  | cons v vs =>
   rw [r'] at r
   obtain ⟨p,r1⟩ : ∃ p,its[0]? = some v:=⟨(),by rw [← Array.getElem?_toList,r']; rfl⟩
   cases r with
   | cons q qs =>
    rename_i k0 kr
    refine ⟨v :: fs,KatTups.cons ho hc hd r1 h1,by simp [h2],fun u hu=>?_⟩
    rcases List.mem_cons.mp hu with rfl | hu
    ·exact ⟨k0,kr,mX ..,q⟩
    ·obtain ⟨k1,r1,m1,m2⟩:=h3 u hu
     exact ⟨k1,r1,mZ _ m1,m2⟩
theorem yU {ks : List (List At)} {vs : List Value} {Q : SortKind->Shared->Prop} (hp : Paired (gz s.heap) ks vs) (hf : dh ks = true) (hn : 0 < ks.length) (q : Q (tuples' true) s) : wpAny (model prog w) A (keyKind' vs.toArray) Q E s:=by
 have hne : ∀ k ∈ ks,k ≠ []:=fun k hk z=>by
  subst z
  unfold dh at hf
  rw [Bool.or_eq_true] at hf
  rcases hf with hf | hf
  ·have:=List.all_eq_true.mp hf [] hk; simp at this
  ·have:=List.all_eq_true.mp hf [] hk; simp at this
 obtain ⟨fs,h1,h2,h3⟩:=kP hp hne
 unfold dh at hf
 rw [Bool.or_eq_true] at hf
 rcases hf with hf | hf
 ·refine kat_kind (T:=.type "int") h1 (by omega) (fun v hv=>?_) (by decide) q
  obtain ⟨k,r,m,z⟩:=h3 v hv
  have:=List.all_eq_true.mp hf _ m
  cases k with
  | i n=>obtain ⟨t,rfl⟩:=z; exact .now
  | s z'=>simp at this
 ·refine kat_kind (T:=.type "str") h1 (by omega) (fun v hv=>?_) (by decide) q
  obtain ⟨k,r,m,z⟩:=h3 v hv
  have:=List.all_eq_true.mp hf _ m
  cases k with
  | s z'=>obtain ⟨t,rfl⟩:=z; exact .now
  | i n=>simp at this
end
section
variable {prog : Program} {w : World} {A : Around} {E : Value->Shared->Prop} {s : Shared}
theorem jd {α β : Type} {F : α->β->Prop} (d : α) (e : β) : ∀ {l₁ : List α} {l₂ : List β},Paired F l₁ l₂->∀ {i : Nat},i < l₁.length->F (l₁.getD i d) (l₂.getD i e)
 | _,_,.cons r t,0,_=>r
 | _,_,.cons r t,i + 1,h=>by
  simp only [List.getD_cons_succ]
  exact jd d e t (by simpa using h)
 | _,_,.nil,i,h=>by simp at h
def rkK (ks : List (List At)) (i : Nat) : Int:=jB (ks.map bK) (bK (ks.getD i []))
theorem A5 {ks : List (List At)} {vs : List Value} (hc : dw ks = true) (hp : Paired (gz s.heap) ks vs) : ∀ (i j : Nat) (C : Bool->Shared->Prop) (s1 : Shared),i < ks.length->j < ks.length->s1 = s->(∀ s',s' = s->C (ltR (rkK ks) i j) s')->kas_ask prog w A (tuples' true) vs i j C s1:=by
 intro i j C s1 hi hj e hC
 subst e
 unfold kas_ask
 have mi : ks.getD i [] ∈ ks:=by rw [List.getD_eq_getElem?_getD,List.getElem?_eq_getElem hi]; exact List.getElem_mem hi
 have mj : ks.getD j [] ∈ ks:=by rw [List.getD_eq_getElem?_getD,List.getElem?_eq_getElem hj]; exact List.getElem_mem hj
 refine CS (jd [] Value.none hp hi) (jd [] Value.none hp hj) (fD hc mi mj) ?_
 have:=hC s1 rfl
 unfold ltR rkK at this
 rw [yT (List.mem_map.mpr ⟨_,mi,rfl⟩)] at this
 exact this
end
end DL
namespace DL
open PySem PySem.Spec PySem.W PyProof.Rows L2
def B9 : D->Option At
 | .int n=>some (.i n)
 | .str z=>some (.s z)
 | _=>none
def dY : List D->Option (List At)
 | []=>some []
 | d :: ds=>(B9 d).bind fun a=>(dY ds).map (a :: ·)
def mv : D->Option (List At)
 | .tup es=>dY es
 | _=>none
def cy : List D->Option (List (List At))
 | []=>some []
 | d :: ds=>(mv d).bind fun a=>(cy ds).map (a :: ·)
def BA : List D->Option (List Int)
 | []=>some []
 | .int n :: ds=>(BA ds).map (n :: ·)
 | _ :: _=>none
theorem cH : ∀ {ds : List D} {ks : List (List At)},cy ds = some ks->ks.length = ds.length
 | [],_,h=>by simp only [cy] at h; cases h; rfl
 | d :: ds,_,h=>by
  simp only [cy] at h
  obtain ⟨a,h1,h⟩:=oX h
  obtain ⟨r,h2,h⟩:=oY h
  subst h
  simp [cH h2]
theorem fE : ∀ {ds : List D} {ks : List (List At)},cy ds = some ks->∀ {i : Nat},i < ds.length->mv (ds.getD i .non) = some (ks.getD i [])
 | [],_,h,i,hi=>by simp at hi
 | d :: ds,_,h,0,hi=>by
  simp only [cy] at h
  obtain ⟨a,h1,h⟩:=oX h
  obtain ⟨r,h2,h⟩:=oY h
  subst h
  exact h1
 | d :: ds,_,h,i + 1,hi=>by
  simp only [cy] at h
  obtain ⟨a,h1,h⟩:=oX h
  obtain ⟨r,h2,h⟩:=oY h
  subst h
  simp only [List.getD_cons_succ]
  exact fE h2 (by simpa using hi)
section
variable {X : Cx}
theorem sJ {K : PySem.W.Frag} {B : Hp} : ∀ {vs : List V} {es : List D} {k : List At} {its : List Value},aQ vs its->IsL K B vs es->dY es = some k->Paired atV k its
 | _,_,_,_,.nil,.nil,h=>by simp only [dY] at h; cases h; exact .nil
 | _,_,_,_,.cons r rr,.cons i ii,h=>by
  simp only [dY] at h
  obtain ⟨a,h1,h⟩:=oX h
  obtain ⟨t,h2,h⟩:=oY h
  subst h
  refine .cons ?_ (sJ rr ii h2)
  cases i <;> simp only [B9] at h1 <;> cases h1
  ·exact r
  ·exact r
theorem qD {pins : List (Addr × Obj)} {σ : St} {H : Hp} {s : Shared} (I : Inv X pins σ H s) : ∀ {ys : List V} {ds : List D} {ks : List (List At)} {its : List Value},aQ ys its->IsL X.K H ys ds->cy ds = some ks->Paired (gz s.heap) ks its
 | _,_,_,_,.nil,.nil,h=>by simp only [cy] at h; cases h; exact .nil
 | _,_,_,_,.cons r rr,.cons i ii,h=>by
  simp only [cy] at h
  obtain ⟨a,h1,h⟩:=oX h
  obtain ⟨t,h2,h⟩:=oY h
  subst h
  refine .cons ?_ (qD I rr ii h2)
  cases i <;> simp only [mv] at h1 <;> try (cases h1; done)
  rename_i hq hl
  cases r
  obtain ⟨its',r',⟨o,ho,hc,n,hd⟩,_⟩:=I.tuple hq
  exact ⟨_,o,_,n,rfl,ho,hc,hd,by simpa using sJ r' hl h1⟩
theorem vU {K : PySem.W.Frag} {B : Hp} : ∀ {vs : List V} {ds : List D},IsL K B vs ds->∀ {i : Nat},i < ds.length->Is K B (vs.getD i .non) (ds.getD i .non)
 | _,_,.cons h _,0,_=>h
 | _,_,.cons _ t,i + 1,hi=>by
  simp only [List.getD_cons_succ]
  exact vU t (by simpa using hi)
 | _,_,.nil,i,hi=>by simp at hi
theorem sK : ∀ {vs : List V} {us : List Value},aQ vs us->∀ {i : Nat},i < vs.length->aN (vs.getD i .non) (us.getD i Value.none)
 | _,_,.cons h _,0,_=>h
 | _,_,.cons _ t,i + 1,hi=>by
  simp only [List.getD_cons_succ]
  exact sK t (by simpa using hi)
 | _,_,.nil,i,hi=>by simp at hi
theorem sL {K : PySem.W.Frag} {B : Hp} {vs : List V} {ds : List D} (h : IsL K B vs ds) : ∀ (l : List Nat),(∀ i ∈ l,i < ds.length)->IsL K B (l.map fun i=>vs.getD i .non) (l.map fun i=>ds.getD i .non)
 | [],_=>.nil
 | i :: l,hl=>.cons (vU h (hl i (mX ..))) (sL h l fun j hj=>hl j (mZ _ hj))
theorem pd {vs : List V} {us : List Value} (h : aQ vs us) : ∀ (l : List Nat),(∀ i ∈ l,i < vs.length)->aQ (l.map fun i=>vs.getD i .non) (l.map fun i=>us.getD i Value.none)
 | [],_=>.nil
 | i :: l,hl=>.cons (sK h (hl i (mX ..))) (pd h l fun j hj=>hl j (mZ _ hj))
end
section
variable {X : Cx}
theorem ie : ∀ {its : List Value} {zs : List Int},IntsAre its zs->aQ (zs.map V.int) its
 | _,_,.nil=>.nil
 | _,_,.cons x t r=>.cons ⟨t,rfl⟩ (ie r)
end
end DL
namespace DL
open PySem PySem.Spec PyProof.Rows L2
section
variable {X : Cx} {pos : Pos}
@[simp] def F5 (i : Nat) (f : FE) : FS:=fun ρ=>match ρ[i]? with
 | some (some (.lst ds,true))=>(f ρ).bind fun x=>(BA ds).bind fun ns=>match x.1 with
  | .int n=>if ns.findIdx (· == n) < ns.length then some (.nx (ρ.set i (some (.lst ((ns.eraseIdx (ns.findIdx (· == n))).map .int),true)))) else none
  | _=>none
 | _=>none
end
section
variable {prog : Program} {w : World} {A : Around} {E : Value->Shared->Prop} {s : Shared}
theorem uI {a : Addr} {o : Obj} {its : Array Value} {n : Nat} {x : Value} {e : Value->Bool} {j : Nat} {P : PySem.Fin->Shared->Prop} (ho : s.heap.get? a = some o) (hd : o.data = .seq its n)
  (he : ∀ y ∈ its,MeetsSeq.EqGives y x (e y)) (hj : j < its.size) (hit : e its[j] = true) (hno : ∀ m (hm : m < its.size),m < j->e its[m] = false)
  (h : P (.done (.ret (.int j s.toks))) { s with toks:=s.toks + 1 }) : wpAny (model prog w) A (Builtin.«tuple.index» ⟨[.ref a,x],[]⟩) P E s:=by
 show wpAny _ _ (Builtin.Tuple.tupleItemsOf (.ref a) >>= _) _ _ s
 refine wX (wpAny_tupleItemsOf ho hd ?_)
 dsimp only
 refine wX (wY (wX (wY (wX ?_))))
 rw [Std.Legacy.Range.forIn_eq_forIn_range']
 refine wpAny_forIn_list _
  (fun az r s'=>r.1 = none/\s' = s/\∃ i,i<=j/\az = List.range' i (its.size - i))
  _ ?_ ?_ _ _ ⟨rfl,rfl,0,Nat.zero_le _, ?_⟩
 ·rintro k az r s' ⟨hr,rfl,i,hi,hz⟩
  have hlt : i < its.size:=by omega
  obtain ⟨m,hm⟩ : ∃ m,its.size - i = m + 1:=⟨its.size - i - 1,by omega⟩
  rw [hm,List.range'_succ] at hz
  injection hz with z1 z2
  have z1:=z1.symm
  subst z1
  subst z2
  have hg : its[i]? = some its[i]:=by simp [hlt]
  simp only [hg]
  refine wX (he _ (Array.getElem_mem hlt) prog w _ _ _ _ ?_)
  by_cases hij : i = j
  ·subst hij
   rw [hit]
   simp only [if_true]
   refine wX ?_
   show wpAny _ _ (mkInt (i : Int) >>= fun v=>ret v) _ _ _
   exact wX (wpAny_mkInt (wY (wY (wY h))))
  ·rw [hno i hlt (by omega)]
   simp only [Bool.false_eq_true,if_false]
   exact wY ⟨rfl,rfl,i + 1,by omega,by rw [show its.size - (i + 1) = m by omega]⟩
 ·rintro ⟨r1,r2⟩ s' ⟨hr,rfl,i,hi,hz⟩
  exfalso
  have : (List.range' i (its.size - i)).length = 0:=by rw [← hz]; rfl
  rw [List.length_range'] at this
  omega
 ·simp
end
theorem CRows.findT {K : PySem.W.Frag} {P : Params} (y : Str) {ds : List D} : ∀ {es : List DictEntry} {kvs : List (Str × D)},CRows K P es kvs->kvs.lookup y = some (.tup ds) ->
  ∃ e a its n osl,es.find? (fun e=>Value.isStrOf y e.key) = some e/\e.val = .ref a/\K.lookup a = some ⟨.type "tuple",none,.seq its n,osl⟩/\gc its.toList ds = true
 | _,_,.nil,h=>by simp at h
 | _,_,.tup (x:=x) (t:=t) (a:=a) (ds:=ds') hh l f tl,h=>by
  by_cases e : y = x
  ·subst e
   rw [List.lookup_cons_self] at h
   cases h
   rw [Bool.and_eq_true] at f
   exact ⟨_,a,_,_,_,List.find?_cons_of_pos (by simp [Value.isStrOf]),rfl,l,f.2⟩
  ·rw [List.lookup_cons,beq_eq_false_iff_ne.mpr e] at h
   have nf : Value.isStrOf y (Value.str x t) = false:=by
    rw [Bool.eq_false_iff]
    intro z
    obtain ⟨t',q⟩:=Value.isStrOf_shape z
    injection q with q1
    exact e q1.symm
   simp only [List.find?_cons,nf]
   exact tl.findT y h
 | _,_,.flat (x:=x) (t:=t) (u:=u) (d:=d) hh f tl,h=>by
  by_cases e : y = x
  ·subst e
   rw [List.lookup_cons_self] at h
   cases h
   cases u <;> simp [qq] at f
  ·rw [List.lookup_cons,beq_eq_false_iff_ne.mpr e] at h
   have nf : Value.isStrOf y (Value.str x t) = false:=by
    rw [Bool.eq_false_iff]
    intro z
    obtain ⟨t',q⟩:=Value.isStrOf_shape z
    injection q with q1
    exact e q1.symm
   simp only [List.find?_cons,nf]
   exact tl.findT y h
section
variable {X : Cx} {b e : Expr} {pos : Pos} {x : Str} {p : Pos}
def EY (K : PySem.W.Frag) : V->List V->Hp->VK->Prop:=fun x xs H Q=>∃ (a : Addr) (o : Obj) (its : Array Value) (n : Nat) (zs : List Str) (y : Str),x = .ref a/\xs = [.str y]/\K.lookup a = some o/\o.cls = .type "tuple"/\o.data = .seq its n/\StrsAre its.toList zs/\zs.findIdx (· == y) < zs.length/\Q (.int (zs.findIdx (· == y) : Nat)) H
def BB (y : Str) : Value->Bool
 | .str z _=>z == y
 | _=>false
theorem vV : ∀ {its : List Value} {zs : List Str},StrsAre its zs->∀ (i : Nat) (hi : i < its.length),∃ (h : i < zs.length) (t : Tok),its[i] = .str zs[i] t
 | _,_,.cons z t h,0,_=>⟨by simp,t,rfl⟩
 | _,_,.cons z t h,i + 1,hi=>by
  obtain ⟨h',t',e⟩:=vV h i (by simpa using hi)
  exact ⟨by simpa using h',t',by simpa using e⟩
 | _,_,.nil,i,hi=>by simp at hi
theorem sM : ∀ {its : List Value} {zs : List Str},StrsAre its zs->its.length = zs.length
 | _,_,.nil=>rfl
 | _,_,.cons _ _ h=>by rw [List.length_cons,List.length_cons,sM h]
theorem yV : MtR X "tuple.index" (EY X.K):=by
 intro pins s σ H x xs v us Q I rx rv h
 obtain ⟨a,o,its,n,zs,y,rfl,rfl,lk,hc,hd,hz,hk,q⟩:=h
 cases rx
 obtain ⟨u,rfl,⟨t,rfl⟩⟩:=rv.one
 have ho:=I.kIn a o lk
 have hl:=sM hz
 rw [Array.length_toList] at hl
 have at' : ∀ (i : Nat) (hi : i < its.size),∃ (h : i < zs.length) (t : Tok),its[i] = .str zs[i] t:=fun i hi=>by
  obtain ⟨h',t',e⟩:=vV hz i (by simpa using hi)
  exact ⟨h',t',by simpa using e⟩
 refine wpAny_call_entry PySem.F.slot_tuple_index ⟨o,ho,hc⟩ PySem.F.entry_tuple_index (uI (e:=BB y) (j:=zs.findIdx (· == y)) ho hd (fun z hm=>?_) (by omega) ?_ (fun m hm hlt=>?_) ⟨_,rfl,.int (zs.findIdx (· == y) : Nat),H,I.tok _,⟨_,rfl⟩,q⟩) (PySem.F.args_tuple_index_2 _ _)
 ·obtain ⟨i,hi,rfl⟩:=Array.mem_iff_getElem.mp hm
  obtain ⟨_,t',e'⟩:=at' i hi
  rw [e']
  exact eqGives_str _ _ _ _
 ·obtain ⟨_,t',e'⟩:=at' (zs.findIdx (· == y)) (by omega)
  rw [e']
  exact List.findIdx_getElem (p:=(· == y)) (w:=hk)
 ·obtain ⟨_,t',e'⟩:=at' m hm
  rw [e']
  have:=List.not_of_lt_findIdx (p:=(· == y)) (xs:=zs) hlt
  simpa [BB] using this
@[simp] def oy (kvs : List (Str × D)) : D->D->Option (D × Bool)
 | .str y,.str z=>match kvs.lookup y with
  | some (.tup ds)=>(eO ds).bind fun zs=>if zs.findIdx (· == z) < zs.length then some (.int (zs.findIdx (· == z) : Nat),false) else none
  | _=>none
 | _,_=>none
theorem A6 {kvs : List (Str × D)} {f g : FE} {apos cpos : Pos} (h : ∃ d,X.mg x = some (.ref d)/\oN X.K X.w.params d kvs) (hb : JE X b f) (he : JE X e g) (hg : Gl X x:=by rfl) (hdb : (x == ("__debug__" : Str)) = false:=by decide) (hs : lD b:=by intro _ _; rfl)
  (hbase : attributeBase (.Subscript (.Name x p) b pos) "index" X.env (eval (.Subscript (.Name x p) b pos) X.env) = eval (.Subscript (.Name x p) b pos) X.env:=by rfl)
  (hfew : ((backTo cpos (starEach [e] X.env)).all (fun x=>!x.1) && (backToKw cpos (keywordEach [] X.env)).all (fun x=>x.1.isSome)
   && decide ([e].length + ([] : List Keyword).length + (if ([] : List Keyword).isEmpty then 0 else 1) < 30)) = true:=by rfl)
  (hline : (apos.endLine == cpos.line) = true:=by rfl) (hst : starEach [e] X.env = [(false,eval e X.env)]:=by rfl) :
  JE X (.Call (.Attribute (.Subscript (.Name x p) b pos) "index" apos) [e] [] cpos) (f2 (oy kvs) f g):=by
 obtain ⟨d,hm,cd⟩:=h
 have ix : IxR X (fun x y H Q=>∃ z ds,x = .ref d/\y = .str z/\kvs.lookup z = some (.tup ds)/\∀ a its n osl,X.K.lookup a = some ⟨.type "tuple",none,.seq its n,osl⟩->gc its.toList ds = true->Q (.ref a) H):=by
  intro value slice pins s σ H x y v u Q I rx ry q hs
  obtain ⟨z,ds,rfl,rfl,el,q⟩:=q
  cases rx
  obtain ⟨t,rfl⟩:=ry
  obtain ⟨es,n,l,r,sm⟩:=cd
  have hM:=PySem.W.mapOf_K (prog:=X.prog) (w:=X.w) I.kIn l r.lit
  obtain ⟨en,a,its,n',osl,e1,e2,e3,e4⟩:=r.findT z el
  have ff : findBy Value.isStrOf es z = some (.ref a):=by
   unfold findBy
   obtain ⟨es⟩:=es
   rw [List.find?_toArray,e1,← e2]
   rfl
  exact tail_any hM.typeIs slot_dict_getitem.lookup (wpAny_getItem_of (strKind_is X.prog X.w z t) hM ff ⟨.ref a,H,I.tok _,rfl,q a _ _ _ e3 e4⟩) hs
 refine PE.to (Be (T:="tuple") PySem.F.plainAttrs_tuple PySem.F.slot_tuple_index PySem.F.type_tuple_index yV (Bd ix (vx (v:=.ref d) hg hm rfl hdb) hb hs) (eI he g8 hst) hbase hfew hline hst rfl) fun σ H Q q=>?_
 obtain ⟨B,ρ,d',bb,sB,r,ee,q⟩:=q
 obtain ⟨x1,ex,ee⟩:=oX ee
 obtain ⟨y1,ey,ee⟩:=oX ee
 obtain ⟨xd,xb⟩:=x1
 obtain ⟨yd,yb⟩:=y1
 cases xd with
 | str z =>
  cases yd with
  | str y =>
   refine ⟨B,ρ,_,xb,sB,r,ex,fun v H1 N1 xt i1 _=>?_⟩
   cases i1
   simp only [oy] at ee
   split at ee
   ·rename_i ds el
    obtain ⟨zs,ez,ee⟩:=oX ee
    split at ee
    ·rename_i hk
     cases ee
     refine ⟨z,ds,rfl,rfl,el,fun a its n osl l fl=>⟨.inr (.inl ⟨rfl,_,l,rfl,rfl⟩),N1,ρ,_,yb,xt.nh,r.mono xt.bn,ey,fun v2 H2 N2 xt2 i2 _=>?_⟩⟩
     cases i2
     obtain ⟨vs,rv,iv⟩:=gd (K:=X.K) fl
     exact ⟨a,_,its,n,zs,y,rfl,rfl,l,rfl,rfl,lZ rv (iv N2) ez,hk,(q.into (xt.trans xt2)).one xt2.nh (.int _)⟩
    ·cases ee
   ·cases ee
  | _=>simp [oy] at ee
 | _=>simp [oy] at ee
end
open PySem.W (tabIn tabObj CodeHd kla_fn kla_obj kla_eval kla_makeFunction kla_makeFunctionHit kla_callFunE kla_codeExpr envX)
def Es (K : PySem.W.Frag) (c P : Addr) : Prop:=∃ o vs file tf flags tg inF text tt,K.lookup c = some o/\o.cls = .type "code"/\o.data = .fields vs/\vs[11]? = some (.ref P)/\vs.getD 11 .none = .ref P/\vs.getD 18 .none = .str file tf /\
 vs.getD 7 .none = .int flags tg/\vs.getD 9 .none = .bool inF/\vs.getD 10 .none = .int text tt/\c ≠ P
def qE (K : PySem.W.Frag) (x : Str) : Prop:=∃ c P,tabIn K x = some (c,P)/\Es K c P
def yW (H : Hp) (f : Addr) (q : Str) (params : Arguments) (body : Expr) (scope : Scope) (cl : List (Str × Addr)) : Prop :=
 ∃ pm c ctv u oc u' vs t,H f = some (.frz (kla_obj "<lambda>" q params body scope cl pm c ctv) u)/\H c = some (.frz oc u')/\oc.data = .fields vs/\vs[1]? = some (.str q t)
theorem yW.mono {H H' : Hp} {f : Addr} {q : Str} {params : Arguments} {body : Expr} {scope : Scope} {cl : List (Str × Addr)} (h : yW H f q params body scope cl) (e : aJ H H') : yW H' f q params body scope cl :=
 let ⟨pm,c,ctv,u,oc,u',vs,t,h1,h2,h3,h4⟩:=h; ⟨pm,c,ctv,u,oc,u',vs,t,e _ _ h1,e _ _ h2,h3,h4⟩
theorem lam_mk {K : PySem.W.Frag} {x : Str} {f c P : Addr} {oc : Value} {od od' : Option Addr} {osl osl' : Array (Option Value)} {fd : FuncData} {vs : Array Value} {file : Str} {tf tg tt : Tok} {flags text : Int} {inF : Bool} (e1 : PySem.W.nsIn K mainGlobals x = some (some (.ref f))) (e2 : K.lookup f = some ⟨oc,od,.func fd,osl⟩)
  (e3 : fd.code = .ref c) (e4 : K.lookup c = some ⟨.type "code",od',.fields vs,osl'⟩) (e5 : vs[11]? = some (.ref P)) (e6 : vs.getD 11 .none = .ref P) (e7 : vs.getD 18 .none = .str file tf) (e8 : vs.getD 7 .none = .int flags tg) (e9 : vs.getD 9 .none = .bool inF) (e10 : vs.getD 10 .none = .int text tt) (e11 : (c == P) = false) : qE K x :=
 ⟨c,P,tab_yes e1 e2 e3 e4 e5,_,vs,file,tf,flags,tg,inF,text,tt,e4,rfl,rfl,e5,e6,e7,e8,e9,e10,fun z=>by rw [z] at e11; simp at e11⟩
theorem uJ {pos : Pos} {a b : Int} {c cv : Value} (l : List Value) (h : TriplesOk l) (e : codeAmong pos (l ++ [rawInt a,rawInt b,c]) = some cv) : codeAmong pos l = some cv ∨ cv = c:=by
 fun_induction TriplesOk l with
 | case1 =>
  simp only [List.nil_append,rawInt,codeAmong] at e
  split at e
  ·cases e; exact .inr rfl
  ·cases e
 | case2 a' t b' u x az ih =>
  simp only [List.cons_append,codeAmong] at e ⊢
  split at e
  ·rename_i hc; rw [if_pos hc]; exact .inl e
  ·rename_i hc; rw [if_neg hc]; exact ih h e
 | case3 l h1 h2=>exact h.elim
section
variable {X : Cx} {pins : List (Addr × Obj)} {σ : St} {H : Hp} {s : Shared}
theorem yX {x : Str} {params : Arguments} {body : Expr} {scope : Scope} {pos : Pos} {cl : List (Str × Addr)} {Q : Value->Shared->Prop} {E : Value->Shared->Prop}
  (hx : x ∈ jx) (L : qE X.K x) (hc : ∀ c P,tabIn X.K x = some (c,P)->X.env.code = .ref c) (hq : X.env.qual ++ "<lambda>" = lP x) (hdef : defaultsOf params X.env = ([],[])) (hcl : closureFor scope X.env = pure cl)
  (I : Inv X pins σ H s) (tb : Tb X.K H) (k : ∀ f H' s',Inv X pins σ H' s'->aJ H H'->yW H' f (lP x) params body scope cl->Q (.ref f) s') :
  wpAny (model X.prog X.w) X.A (eval (.Lambda params body scope pos) X.env) Q E s:=by
 refine kla_eval hdef ?_
 rw [hq]
 obtain ⟨c,P,ht,o,vs,file,tf,flags,tg,inF,text,tt,lk,ck⟩:=L
 have hcode:=hc c P ht
 have hP:=tb x hx c P ht
 obtain ⟨ps,e,tr,co⟩:=I.hok P _ hP
 have C : CodeHd s.heap c P:=⟨o,vs,file,tf,flags,tg,inF,text,tt,I.kIn c o lk,ck⟩
 have hg : s.heap.Ns mainGlobals X.mg:=I.mod.glob.keeps I.bk
 have nP : ∀ b,H b = none->b ≠ P:=fun b n z=>by rw [z,hP] at n; cases n
 have hgP : mainGlobals ≠ P:=by
  obtain ⟨og,_,_,eg,_⟩:=I.mod.glob
  exact nP _ (I.bs _ _ eg).2
 have hb : s.heap.BuiltinsAt X.mg P:=by
  obtain ⟨bm,ob,b1,b2,b3,b4,b5,b6⟩:=I.mod.bmain
  refine ⟨bm,ob,b1,b2,fun z=>?_,nP _ (I.bs _ _ b3).2,I.bk _ _ b3,b4,b5,b6⟩
  obtain ⟨og,es,ep,eg,dg,_⟩:=I.mod.glob
  rw [z,eg] at b3; cases b3
  rw [dg] at b6; cases b6
 cases hf : codeAmong pos ps.toList with
 | some cv =>
  obtain ⟨c',oc,u,ws,t,rfl,hH,hd,hv⟩:=co pos cv hf
  refine kla_makeFunctionHit (mg:=X.mg) hcl I.ok.glob hg hcode C e tr hf hb fun ctv h' tk hk hsz=>?_
  have hn : H h'.objs.size = none:=I.hok.fresh hsz
  have sm : aJ H (upd H h'.objs.size (.frz (kla_obj "<lambda>" (lP x) params body scope cl ((X.mg "__name__").getD .none) c' ctv) (.own h'.objs.size))):=fun b u q=>by rw [a9 (aL q hn)]; exact q
  refine k _ _ _ (I.laid (t':=tk) (fun b u q=>Heap.get?_push_of_some _ (hk b u q)) hsz (show bD X.prog X.w _ _ _ (.frz _ (.own h'.objs.size)) from ⟨Heap.get?_push_size _ rfl,_,Heap.get?_push_size _ rfl⟩)) sm ?_
  exact ⟨_,c',ctv,_,oc,u,ws,t,a8,sm _ _ hH,hd,hv⟩
 | none =>
  refine kla_makeFunction (mg:=X.mg) hcl I.ok.glob hg hcode C e tr hf hgP hb fun c' ctv h' tk hx' hge hlt hrec htb=>?_
  obtain ⟨c2,oc,ws,t,e2,hoc,hd,hv⟩:=hrec
  cases e2
  have hnc : H c' = none:=I.hok.fresh hge
  have hsz : s.heap.objs.size<=h'.objs.size:=Nat.le_trans hge (Nat.le_of_lt hlt)
  have hnf : H h'.objs.size = none:=I.hok.fresh hsz
  have ncf : c' ≠ h'.objs.size:=Nat.ne_of_lt hlt
  let fo : Obj:=kla_obj "<lambda>" (lP x) params body scope cl ((X.mg "__name__").getD .none) c' ctv
  let H1 : Hp:=upd (upd H c' (.frz oc (.own c'))) h'.objs.size (.frz fo (.own h'.objs.size))
  have sm : aJ H H1:=fun b u q=>by
   show upd _ _ _ b = _
   rw [a9 (aL q hnf),a9 (aL q hnc)]; exact q
  have H1c : H1 c' = some (.frz oc (.own c')):=by show upd _ _ _ c' = _; rw [a9 ncf,a8]
  have keep : ∀ b u,b ≠ P->s.heap.get? b = some u->(h'.push fo).get? b = some u:=fun b u n q=>Heap.get?_push_of_some _ (hx' b u n q)
  have lt : ∀ b u,s.heap.get? b = some u->b ≠ c'/\b ≠ h'.objs.size:=fun b u q=>⟨Nat.ne_of_lt (Nat.lt_of_lt_of_le (Heap.lt_size q) hge),Nat.ne_of_lt (Nat.lt_of_lt_of_le (Heap.lt_size q) hsz)⟩
  have htb' : (h'.push fo).get? P = some (tabObj (ps ++ #[rawInt pos.line,rawInt pos.col,.ref c'])):=Heap.get?_push_of_some _ htb
  refine k _ H1 _ (I.un (t':=tk) (h':=h'.push fo) ⟨fun b u q n _ _=>keep b u (nP b n) q,fun b u q n _ _=>⟨u.slots,keep b u (nP b n) q⟩,fun b u q n _=>?_,fun b u q _=>?_,fun b xs q=>sm _ _ q,fun b ob u q=>sm _ _ q,fun b u q=>sm _ _ q⟩ fun b u q=>?_) sm ⟨_,c',ctv,_,oc,_,ws,t,a8,H1c,hd,hv⟩
  ·show upd _ _ _ b = _
   rw [a9 (lt b u q).2,a9 (lt b u q).1]; exact n
  ·by_cases z : b = P
   ·subst z; exact ⟨_,htb'⟩
   ·exact ⟨u,keep b u z q⟩
  ·by_cases z1 : b = h'.objs.size
   ·subst z1
    have q' : some (HO.frz fo (.own h'.objs.size)) = some u:=by rw [← q]; exact a8.symm
    cases q'
    exact ⟨Heap.get?_push_size _ rfl,_,Heap.get?_push_size _ rfl⟩
   ·by_cases z2 : b = c'
    ·subst z2
     rw [H1c] at q; cases q
     exact ⟨Heap.get?_push_of_some _ hoc,_,Heap.get?_push_of_some _ hoc⟩
    ·have q' : H b = some u:=by
      have : H1 b = H b:=by show upd _ _ _ b = _; rw [a9 z1,a9 z2]
      rw [← this]; exact q
     by_cases z3 : b = P
     ·subst z3
      rw [hP] at q'; cases q'
      refine ⟨_,htb', ?_,fun pos' cv' ea=>?_⟩
      ·rw [Array.toList_append]; exact TriplesOk_snoc _ _ _ _ tr
      ·rw [Array.toList_append] at ea
       rcases uJ _ tr ea with ea | rfl
       ·obtain ⟨c3,oc3,u3,vs3,t3,y1,y2,y3⟩:=co pos' cv' ea
        exact ⟨c3,oc3,u3,vs3,t3,y1,sm _ _ y2,y3⟩
       ·exact ⟨c',oc,_,ws,t,rfl,H1c,hd,hv⟩
     ·refine (I.hok b u q').stay (fun d v hd' r=>keep d v ?_ r) (fun d r=>sm _ _ r) (fun d xs r=>sm _ _ r) fun d ob v r=>sm _ _ r
      rcases hd' with rfl | r
      ·exact z3
      ·intro z; rw [z,hP] at r; cases r
end
section
variable {P : Program} {w : World} {K : PySem.W.Frag} {mg : Str->Option Value} {base : Heap}
theorem Def.fnL {x : Str} {st : Stmt} {N ps : List Str} {k : Nat} {g : FS} {h : Heap} (F : Def K x st) (X : K.In h) (G : h.Ns mainGlobals mg) (S : FnScope N ps (ar st))
  (hbd : ∀ (kV doc pm : Value) (an : Option Addr) (cdv ct : Value) (us : List Value),us.length = ps.length->bindArgs (PySem.W.fnOf x x (eJ st) (cx st) (ar st) .none kV doc pm an cdv ct) ⟨us,[]⟩ = pure (ps.zip us))
  (hb : ∀ (f : Addr) (cdv : Value) (A : Around) (outer : List PySem.Env) (s : Shared) (H : Hp) (E : XK),(∀ c P,tabIn K x = some (c,P)->cdv = .ref c)->Room k (A.deeper (envOfC x (ar st) s.heap.objs.size f cdv))->JSs (lN CX0 P w K mg base N x (ar st) f cdv A outer s H E).nox (cx st) g) :
  Fn P w K mg base (k + 1) x (aV g ps.length (N.length - ps.length)):=by
 obtain ⟨f,fd,F1,a⟩:=F
 have F2:=F1
 obtain ⟨oc,od,kV,doc,pm,an,cdv,ct,osl,rfl,lk,hcd⟩:=F2.ex
 have hc : ∀ c P,tabIn K x = some (c,P)->cdv = .ref c:=fun c P e=>by
  unfold tabIn at e
  simp only [a,lk] at e
  split at e
  ·rename_i c' _
   split at e
   ·split at e
    ·cases e; rfl
    ·cases e
   ·cases e
  ·cases e
 have len : ∀ vs H Q E,spD K (aV g ps.length (N.length - ps.length)) vs H Q E->vs.length = ps.length:=fun vs H Q E h=>by
  obtain ⟨B,ds,d,b,sB,i,e,q⟩:=h
  unfold aV at e
  split at e
  ·rename_i hl; rw [i.length]; exact hl
  ·cases e
 refine ⟨f,_,ps,Bc lk hcd S len fun A outer s H vs Q E hr h=>⟨_,PSs.nox (hb f cdv A outer s H E hc hr), ?_⟩,PySem.W.mg_of X G a,F1.kp,F1.binds hbd⟩
 have hlen:=len vs H Q E h
 obtain ⟨B,ds,d,b,sB,i,e,q⟩:=h
 unfold aV at e
 rw [if_pos (by rw [← i.length]; exact hlen)] at e
 have s0:=rP (N:=N) sB.1 sB.2 i
 rw [hlen] at s0
 split at e
 ·rename_i d' b' eg
  cases e
  exact ⟨B,H,_,_,⟨B,s0⟩,eg,fun v H' N' x' i' f'=>q v H' N' x' i' f'⟩
 ·rename_i ρ' eg
  cases e
  exact ⟨B,H,_,_,⟨B,s0⟩,eg,fun σ' H' ⟨N',s'⟩=>q .non H' N' s'.ext .non (by simp)⟩
 ·cases e
end
inductive LCaps (X : Cx) (N' : List Str) (scope : Scope) (cl : List (Str × Addr)) : Nat->List Nat->Prop where
 | nil {j : Nat} (h : N'.length = j) : LCaps X N' scope cl j []
 | cons {j i : Nat} {r : List Nat} {x : Str} (h1 : N'[j]? = some x) (h2 : X.N[i]? = some x) (h3 : X.env.kindOf x = some .cell ∨ X.env.kindOf x = some .free)
   (h4 : scope.names.lookup x = some .free) (h5 : cl.lookup x = X.env.cells.lookup x) (t : LCaps X N' scope cl (j + 1) r) : LCaps X N' scope cl j (i :: r)
theorem LCaps.len {X : Cx} {N' : List Str} {scope : Scope} {cl : List (Str × Addr)} : ∀ {j : Nat} {cap : List Nat},LCaps X N' scope cl j cap->N'.length = j + cap.length
 | _,_,.nil h=>by rw [h]; rfl
 | j,i :: r,.cons _ _ _ _ _ t=>by rw [t.len,List.length_cons]; omega
theorem LCaps.get {X : Cx} {N' : List Str} {scope : Scope} {cl : List (Str × Addr)} : ∀ {j : Nat} {cap : List Nat} {k i : Nat},LCaps X N' scope cl j cap->cap[k]? = some i->∃ x,N'[j + k]? = some x/\X.N[i]? = some x/\(X.env.kindOf x = some .cell ∨ X.env.kindOf x = some .free) /\
  scope.names.lookup x = some .free/\cl.lookup x = X.env.cells.lookup x
 | _,_,_,_,.nil _,e=>by simp at e
 | j,_,0,_,.cons h1 h2 h3 h4 h5 _,e=>by simp at e; subst e; exact ⟨_,h1,h2,h3,h4,h5⟩
 | j,_,k + 1,i,.cons _ _ _ _ _ t,e=>by
  obtain ⟨x,q,r⟩:=t.get (k:=k) (i:=i) (by simpa using e)
  exact ⟨x,by rw [show j + (k + 1) = j + 1 + k by omega]; exact q,r⟩
abbrev sO (X : Cx) (N' : List Str) (scope : Scope) (cl : List (Str × Addr)) (q : Str) (A : Around) (f c : Addr) (s : Shared) (H : Hp) : Cx :=
 { X with A:=A.deeper (envX q scope s.heap.objs.size f (.ref c) cl),N:=N',s₀:=s,H₀:=H,env:=envX q scope s.heap.objs.size f (.ref c) cl,outer:=X.stack,stack:=envX q scope s.heap.objs.size f (.ref c) cl :: X.stack,ex:=[],fn:=fun _=>false,calm:=true,pn:=[],xe:=fun _ _=>False }
structure LamSc (X : Cx) (scope : Scope) (cl : List (Str × Addr)) (y : Str) : Prop where
 clos : closureFor scope X.env = pure cl
 nocell : ∀ z ∈ scope.names,z.2 ≠ .cell
 kind : scope.kind = .function
 co : scope.isCoroutine = false
 gen : scope.isGenerator = false
 par : scope.names.lookup y = some .local
 sub : ∀ x c,cl.lookup x = some c->X.env.cells.lookup x = some c
 has : ∀ x,scope.names.lookup x = some .free->∃ c,cl.lookup x = some c
theorem yY {X : Cx} {scope : Scope} {y : Str} (h1 : ∀ z ∈ scope.names,z.2 ≠ .cell) (h2 : scope.kind = .function) (h3 : scope.isCoroutine = false) (h3' : scope.isGenerator = false) (hp : scope.names.lookup y = some .local)
  (h4' : (scope.names.all fun z=>!(z.2 == NameKind.free) || (X.env.cells.lookup z.1).isSome) = true) : LamSc X scope (eE scope.names X.env.cells []) y:=by
 have h4 : ∀ z ∈ scope.names,z.2 = .free->(X.env.cells.lookup z.1).isSome = true:=fun z hz e=>by
  have:=List.all_eq_true.mp h4' z hz
  rw [e] at this
  simpa using this
 exact ⟨oH scope.names [] h4,h1,h2,h3,h3',hp,fun x c e=>j0 scope.names [] (fun y d q=>by cases q) e,fun x h=>by
  have:=j3 (x:=x) scope.names [] (d3 h) (h4 _ (d3 h) rfl)
  exact Option.isSome_iff_exists.mp this⟩
section
variable {X : Cx} {pins : List (Addr × Obj)} {σ : St} {H : Hp} {s : Shared} {A : Around} {N' : List Str} {scope : Scope} {cl : List (Str × Addr)} {q y : Str} {cap : List Nat}
theorem A7 {f c : Addr} {v : V} {u : Value} {h₁ : Heap} {tk : Nat} (S : LamSc X scope cl y) (N0 : N'[0]? = some y) (cp : LCaps X N' scope cl 1 cap) (I : Inv X pins σ H s) (hA : A.frames = some X.stack) (hh : A.handled = none) (r : aN v u)
  (hns : h₁.Ns s.heap.objs.size (fun x=>[(y,u)].reverse.lookup x)) (hk : ∀ b o,s.heap.get? b = some o->h₁.get? b = some o) :
  Inv (sO X N' scope cl q A f c s H) [] (some v :: om 0 cap σ) H { s with heap:=h₁,toks:=tk }:=by
 have noA : ∀ b : Addr,b ∉ (sO X N' scope cl q A f c s H).ex:=fun b z=>absurd (show b ∈ ([] : List Addr) from z) (by simp)
 refine ⟨⟨I.ok.mod,S.kind,rfl,rfl,Nat.le_refl _,fun x z d e1 e2=>I.ok.inj x z d (S.sub _ _ e1) (S.sub _ _ e2),fun x hx=>?_,(fun x d e=>by cases e),fun _=>hh,Around.frames_deeper hA,.inr ⟨rfl,rfl⟩,fun b z=>absurd z (noA b),I.bs,Nat.le_trans I.ok.bsz I.sz,fun b _ _=>noA b,fun b z=>absurd z (noA b),I.stack,I.stkFree⟩,
  rfl,I.bare,Un.kept hk,⟨_,hns,fun i x v' e1 e2 e3=>?_⟩,fun x d e=>?_,I.hok.fresh (Nat.le_refl _),fun x d e=>I.freeC x d (S.sub _ _ e),fun p hp=>absurd (show p ∈ ([] : List (Addr × Obj)) from hp) (by simp),I.hok.kept hk, ?_⟩
 ·have hx' : scope.names.lookup x = some .cell ∨ scope.names.lookup x = some .free:=hx
  rcases hx' with hx' | hx'
  ·exact absurd rfl (S.nocell _ (d3 hx'))
  ·exact S.has x hx'
 ·cases i with
  | zero =>
   have e1' : N'[0]? = some x:=e1
   rw [N0] at e1'; cases e1'
   have e2' : some v = some v':=by simpa using e2
   cases e2'
   exact ⟨u,r,.inl ⟨S.par,by simp⟩⟩
  | succ k =>
   have e2' : (om 0 cap σ)[k]? = some (some v'):=by simpa using e2
   obtain ⟨k',i',hk',g1,g2⟩:=qg e2'
   have : k = k':=by omega
   subst this
   obtain ⟨x',n1,n2,n3,n4,n5⟩:=cp.get g1
   have : x' = x:=by
    have e1' : N'[k + 1]? = some x:=e1
    rw [show 1 + k = k + 1 by omega] at n1
    rw [n1] at e1'; exact Option.some.inj e1'
   subst this
   have g2' : σ[i']? = some (some v'):=by
    cases z : σ[i']? with
    | none=>rw [z] at g2; cases g2
    | some w=>rw [z] at g2; cases w with
     | none=>cases g2
     | some w=>cases g2; rfl
   obtain ⟨m,_,hl⟩:=I.loc
   obtain ⟨u',ru,lk⟩:=hl i' x' v' n2 g2' (by
    rcases n3 with n3 | n3
    ·exact .inr (.inl n3)
    ·exact .inr (.inr n3))
   refine ⟨u',ru,.inr ⟨.inr n4, ?_⟩⟩
   rcases lk with ⟨l1,_⟩ | ⟨_,d,l2,l3⟩
   ·rcases n3 with n3 | n3 <;> (rw [l1] at n3; cases n3)
   ·obtain ⟨ob,ho,hd⟩:=l3
    exact ⟨d,by show cl.lookup x' = _; rw [n5]; exact l2,ob,hk _ _ ho,hd⟩
 ·obtain ⟨w,ob,ho,hd⟩:=I.cell x d (S.sub _ _ e)
  exact ⟨w,ob,hk _ _ ho,hd⟩
 ·have:=cp.len
  show (some v :: om 0 cap σ).length = N'.length
  unfold om
  rw [this]; simp; omega
theorem A8 {f : Addr} {params : Arguments} {body : Expr} {fb : FE} {B : Hp} {ρ : Env} {v : V} {u : Value} {d d' : D} {b' : Bool} {Q : VK} (S : LamSc X scope cl y) (N0 : N'[0]? = some y) (cp : LCaps X N' scope cl 1 cap) (I : Inv X pins σ H s)
  (hA : A.frames = some X.stack) (hh : A.handled = none) (hroom : A.depth < recursionLimit) (lv : yW H f q params body scope cl)
  (hbind : ∀ pm c ctv u,bindArgs (kla_fn "<lambda>" q params body scope cl pm (.ref c) ctv) ⟨[u],[]⟩ = pure [(y,u)])
  (hb : ∀ (f c : Addr) (s : Shared) (H : Hp),JE (sO X N' scope cl q A f c s H) body fb)
  (rep : RepE X.K B σ ρ) (sB : aJ B H) (r : aN v u) (i : Is X.K B v d) (e : fb (some (d,false) :: bE 0 cap ρ) = some (d',b')) (qf : Fin X.K B H d' b' Q) :
  wpAny (model X.prog X.w) A (call (.ref f) [u]) (EP X pins σ Q) (fun _ _=>False) s:=by
 obtain ⟨pm,c,ctv,uf,oc,u',ws,t,hf,hc,hd,hv⟩:=lv
 have ho:=(I.hok f _ hf).1
 have hoc:=(I.hok c _ hc).1
 refine wpAny_call (codeAny_mono (R:=fun r s'=>CR CX0 X.stack X.prog X.w H s Q (fun _ _ _=>False) r s') ?_ fun r s' hq=>?_)
 ·refine kla_callFunE hroom ho rfl S.co S.gen rfl ⟨c,oc,ws,t,rfl,hoc,hd,hv⟩ ?_
  rw [hbind]
  refine wY (wpAny_newFunctionEnv S.nocell (fun z hz=>by rw [List.mem_singleton.mp hz]; exact S.par) (fun h₁ hns hsb=>⟨I.nolimit.fresh _ hsb, ?_⟩) S.kind)
  have hk₁ : ∀ b o,s.heap.get? b = some o->h₁.get? b = some o:=fun b o e=>hsb.extBut b o (Nat.ne_of_lt (Heap.lt_size e)) (Heap.get?_push_of_some _ e)
  have J:=A7 (f:=f) (c:=c) (q:=q) (tk:=s.toks + 1) S N0 cp I hA hh r hns hk₁
  refine kla_codeExpr (wpAny_mono (hb f c s H [] _ _ H Q J ⟨B,_,d',b',sB,⟨rep.tb,fun j e0 b0 z=>?_⟩,e,qf⟩) (fun w s' hw=>?_) fun _ _ z=>z.elim)
  ·cases j with
   | zero=>
    have z' : some (d,false) = some (e0,b0):=by simpa using z
    cases z'
    exact ⟨v,rfl,i⟩
   | succ j =>
    obtain ⟨w,h1,h2⟩:=(rep.caps (nT:=0) (cap:=cap)).at' j e0 b0 (by simpa using z)
    exact ⟨w,by simpa using h1,h2⟩
  ·obtain ⟨v',H',J',rv,qv⟩:=hw
   exact ⟨v',H',J'.os,J'.bare,J'.base,J'.hok,rv,qv⟩
 ·cases r with
  | error e=>exact False.elim hq
  | ok fl =>
   cases fl with
   | ret w=>exact I.after hq
   | next=>exact False.elim hq
   | brk=>exact False.elim hq
   | cont=>exact False.elim hq
end
end DL
namespace DL
open PySem PySem.Spec PySem.W PyProof.Rows L2
section
variable {X : Cx} {pins : List (Addr × Obj)} {σ : St} {H : Hp} {s : Shared} {h' : Heap} {t' : Nat}
theorem ir {p : Addr} {o : Obj} (I : Inv X ((p,o) :: pins) σ H s) : ∀ x c,X.env.cells.lookup x = some c->c ≠ p:=fun x c e z=>by
 have pf:=I.pin (p,o) (mY _ mX)
 obtain ⟨v,ob,ho,hd⟩:=I.cell x c e
 rw [z,pf.1] at ho; cases ho
 exact pf.2.2.2.2 v hd
theorem dZ {p : Addr × Obj} (I : Inv X (p :: pins) σ H s) : Inv X pins σ H s:=I.pins_of fun q hq=>I.pin q (mY _ (mZ _ hq))
theorem bY {p : Addr} {o o' : Obj} (I : Inv X ((p,o) :: pins) σ H s) (h0 : X.s₀.heap.objs.size<=p) (hp : ∀ q ∈ X.pn ++ pins,q.1 ≠ p) (k : ∀ b u,b ≠ p->s.heap.get? b = some u->h'.get? b = some u) (e' : h'.get? p = some o') (nc : ∀ v,o'.data ≠ .cell v) :
  Inv X ((p,o') :: pins) σ H { s with heap:=h',toks:=t' }:=by
 have pf:=I.pin (p,o) (mY _ mX)
 have J:=(dZ I).turned (t':=t') k pf.2.1 pf.2.2.1 (.inr h0) (ir I) hp
 refine J.pins_of fun q hq=>?_
 rcases List.mem_cons.mp hq with rfl | hq
 ·exact ⟨e',pf.2.1,pf.2.2.1,pf.2.2.2.1,nc⟩
 ·exact J.pin q (mY _ hq)
theorem iu {p : Addr} {o : Obj} (I : Inv X pins σ H s) (k : ∀ b u,s.heap.get? b = some u->h'.get? b = some u) (hs : s.heap.objs.size<=p) (e' : h'.get? p = some o) (nc : ∀ v,o.data ≠ .cell v) : Inv X ((p,o) :: pins) σ H { s with heap:=h',toks:=t' }:=by
 have J:=I.kept (t':=t') k
 refine J.pins_of fun q hq=>?_
 rcases List.mem_cons.mp hq with rfl | hq
 ·exact ⟨e',I.hok.fresh hs,Nat.ne_of_gt (Nat.lt_of_lt_of_le I.lt hs),I.nofs hs,nc⟩
 ·exact J.pin q (mY _ hq)
theorem A9 {p : Addr} {o : Obj} {ob : HO} (I : Inv X ((p,o) :: pins) σ H s) (h0 : X.s₀.heap.objs.size<=p) (hp : ∀ q ∈ X.pn ++ pins,q.1 ≠ p) (k : ∀ b u,b ≠ p->s.heap.get? b = some u->h'.get? b = some u) (eo : ∃ u,h'.get? p = some u)
  (new : bD X.prog X.w (upd H p ob) h' p ob) : Inv X pins σ (upd H p ob) { s with heap:=h',toks:=t' }:=by
 have pf:=I.pin (p,o) (mY _ mX)
 have hn:=pf.2.1
 have hn : H p = none:=hn
 have cs:=ir I
 refine (dZ I).step (g':=s.gens) (d':=s.drawn) (ch:=[p]) (fun b hb=>?_) (fun b u _ _ hc e _=>k b u (fun z=>hc (by simp [z])) e) (fun b u _ _ hc e _=>⟨u.slots,k b u (fun z=>hc (by simp [z])) e⟩) (fun b u hc _ n=>by rw [a9 (fun z=>hc (by simp [z]))]; exact n)
  (fun b u hc e=>⟨u,k b u (fun z=>hc (by simp [z])) e⟩) (fun b xs e=>by rw [a9 (aL e hn)]; exact e) (fun b u w e=>by rw [a9 (aL e hn)]; exact e) (fun b q e=>by rw [a9 (aL e hn)]; exact e) (fun m hm=>?_) (fun b u e=>?_) I.bare
 ·have z : b = p:=by simpa using hb
  subst z
  exact ⟨.inr h0,pf.2.2.1,cs,hp⟩
 ·obtain ⟨ol,es,ep,ho,r⟩:=hm
  exact ⟨ol,es,ep,k _ ol (fun z=>pf.2.2.1 z.symm) ho,r⟩
 ·by_cases z : b = p
  ·subst z; rw [a8] at e; cases e; exact new
  ·rw [a9 z] at e
   refine (I.hok b u e).stay (fun c v hc q=>k c v ?_ q) (fun c q=>?_) (fun c xs q=>?_) fun c w xs q=>?_
   ·rcases hc with rfl | hc
    ·exact z
    ·exact aL hc hn
   ·rw [a9 (aL q hn)]; exact q
   ·rw [a9 (aL q hn)]; exact q
   ·rw [a9 (aL q hn)]; exact q
end
def vW (X : Cx) (A : Around) (σ : St) (qv : Value) (B H1 : Hp) (kf : D->Option D) : Prop :=
 ∀ (pins : List (Addr × Obj)) (s : Shared) (H N : Hp) (v : V) (u : Value) (d d' : D),Inv X pins σ H s->aJ H1 H->aJ B N->aJ N H->Is X.K N v d->aN v u->kf d = some d' ->
  wpAny (model X.prog X.w) A (call qv [u]) (EP X pins σ fun v' H'=>∃ N',Ext N N' H H'/\Is X.K N' v' d') (fun _ _=>False) s
def JK (X : Cx) (A : Around) (e : Expr) (kf : Env->D->Option D) : Prop:=∀ (pins : List (Addr × Obj)) (s : Shared) (σ : St) (H B : Hp) (ρ : Env) (Q : Value->Shared->Prop) (E : Value->Shared->Prop),Inv X pins σ H s->aJ B H->RepE X.K B σ ρ ->
 (∀ qa H1 s1,Inv X pins σ H1 s1->aJ H H1->vW X A σ (.ref qa) B H1 (kf ρ)->Q (.ref qa) s1)->wpAny (model X.prog X.w) X.A (eval e X.env) Q E s
section
variable {X : Cx} {A : Around}
@[simp] def sP (cap : List Nat) (fb : FE) : Env->D->Option D:=fun ρ d=>(fb (some (d,false) :: bE 0 cap ρ)).map (·.1)
theorem uK {x y : Str} {params : Arguments} {body : Expr} {scope : Scope} {pos : Pos} {N' : List Str} {cap : List Nat} {fb : FE} (hx : x ∈ jx) (L : qE X.K x) (hc : ∀ c P,tabIn X.K x = some (c,P)->X.env.code = .ref c) (hq : X.env.qual ++ "<lambda>" = lP x)
  (hdef : defaultsOf params X.env = ([],[])) (S : LamSc X scope (eE scope.names X.env.cells []) y) (N0 : N'[0]? = some y) (cp : LCaps X N' scope (eE scope.names X.env.cells []) 1 cap) {k : Nat} (hA : A.frames = X.A.frames) (hr : Room (k + 1) A)
  (hbind : ∀ pm c ctv u,bindArgs (kla_fn "<lambda>" (lP x) params body scope (eE scope.names X.env.cells []) pm (.ref c) ctv) ⟨[u],[]⟩ = pure [(y,u)])
  (hb : ∀ (f c : Addr) (s : Shared) (H : Hp),Room k (sO X N' scope (eE scope.names X.env.cells []) (lP x) A f c s H).A->JE (sO X N' scope (eE scope.names X.env.cells []) (lP x) A f c s H) body fb) : JK X A (.Lambda params body scope pos) (sP cap fb):=by
 intro pins s σ H B ρ Q E I sB rep kk
 refine yX hx L hc hq hdef S.clos I (rep.tb.mono sB) fun f H1 s1 I1 sm lv=>kk f H1 s1 I1 sm ?_
 intro pins' s' H' N v u d d' I' m1 m2 m3 iv r e
 simp only [sP] at e
 obtain ⟨⟨d2,b2⟩,e1,e2⟩:=oY e
 cases e2
 exact A8 S N0 cp I' (hA.trans I'.ok.frames) hr.hd hr.depth (lv.mono m1) hbind (fun f c s H=>hb f c s H (hr.deeper _)) (rep.mono m2) m3 r iv e1 fun v' H2 N2 x2 i2 _=>⟨N2,x2,i2⟩
@[simp] def oz (g : List D->Option (D × Bool)) : Env->D->Option D:=fun _ d=>(g [d]).map (·.1)
theorem vX {k : Nat} {x : Str} {g : List D->Option (D × Bool)} {p : Pos} (F : Fn X.prog X.w X.K X.mg X.base k x g) (hr : Room k A) (hA : A.frames = X.A.frames) (hg : Gl X x:=by rfl) (hdb : (x == ("__debug__" : Str)) = false:=by decide) : JK X A (.Name x p) (oz g):=by
 intro pins s σ H B ρ Q E I sB rep kk
 obtain ⟨ad,fd,ps,F1,hm,hk,hb⟩:=F.ex
 refine pQ I hg hm ?_ hdb
 refine kk ad H s I (.refl H) ?_
 intro pins' s' H' N v u d d' I' m1 m2 m3 iv r e
 simp only [oz] at e
 obtain ⟨⟨d2,b2⟩,e1,e2⟩:=oY e
 cases e2
 have sp : spD X.K g [v] H' (fun v' H2=>∃ N',Ext N N' H' H2/\Is X.K N' v' d2) (fun _ _ _=>False):=⟨N,[d],d2,b2,⟨m3,rep.tb.mono m2⟩,.cons iv .nil,e1,fun v' H2 N2 x2 i2 _=>⟨N2,x2,i2⟩⟩
 have hl : [u].length = ps.length:=by have:=F1.len _ _ _ _ sp; simpa using this
 have e0:=I'.env0
 have bb:=hb s' [u] I'.kIn (by simpa using hl)
 rw [List.append_nil] at bb
 refine wpAny_call (codeAny_mono (F1.run A X.stack s' H' ⟨[u],[]⟩ [u] [v] _ (fun _ _ _=>False) hr ⟨hA.trans e0.frames,e0.mod,e0.bs,e0.bsz,e0.funs,e0.frf,e0.hok,e0.bare⟩ bb (.cons r .nil) sp) fun r s' hq=>?_)
 cases r with
 | error e=>exact False.elim hq
 | ok fl =>
  cases fl with
  | ret w=>exact I'.after hq
  | next=>exact False.elim hq
  | brk=>exact False.elim hq
  | cont=>exact False.elim hq
end
def fF (f : D->Option D) : List D->Option (List D)
 | []=>some []
 | d :: ds=>(f d).bind fun x=>(fF f ds).map (x :: ·)
theorem cA {f : D->Option D} : ∀ {ds ks : List D},fF f ds = some ks->ks.length = ds.length
 | [],_,h=>by simp only [fF] at h; cases h; rfl
 | d :: ds,_,h=>by
  simp only [fF] at h
  obtain ⟨a,h1,h⟩:=oX h
  obtain ⟨r,h2,h⟩:=oY h
  subst h
  simp [cA h2]
theorem fG {f : D->Option D} : ∀ {ds ks : List D},fF f ds = some ks->∀ {i : Nat} {d : D},ds[i]? = some d->∃ k,ks[i]? = some k/\f d = some k
 | [],_,h,i,d,e=>by simp at e
 | d :: ds,_,h,0,e,q=>by
  simp only [fF] at h
  obtain ⟨a,h1,h⟩:=oX h
  obtain ⟨r,h2,h⟩:=oY h
  subst h
  simp at q; subst q
  exact ⟨a,by simp,h1⟩
 | d :: ds,_,h,i + 1,e,q=>by
  simp only [fF] at h
  obtain ⟨a,h1,h⟩:=oX h
  obtain ⟨r,h2,h⟩:=oY h
  subst h
  obtain ⟨k,z1,z2⟩:=fG h2 (i:=i) (d:=e) (by simpa using q)
  exact ⟨k,by simpa using z1,z2⟩
section
variable {X : Cx} {pins : List (Addr × Obj)} {σ : St} {s : Shared}
theorem pe {x : V} {u : Value} (r : aN x u) : ∀ {vs : List V} {us : List Value},aQ vs us->aQ (vs ++ [x]) (us ++ [u])
 | _,_,.nil=>.cons r .nil
 | _,_,.cons h t=>.cons h (pe r t)
theorem bt {c : Value} {od : Option Addr} {its : Array Value} {n : Nat} {sl : Array (Option Value)} : ∀ v,(Obj.mk c od (.seq its n) sl).data ≠ .cell v:=fun v z=>by cases z
theorem uL {A : Around} {E : Value->Shared->Prop} {a : Addr} {n : Nat} {qv : Value} {its : List Value} {vs : List V} {ds kds : List D} {ks : List (List At)} {B H : Hp} {kf : D->Option D} {P : PySem.Fin->Shared->Prop}
  (I : Inv X ((a,seqObj "list" its.toArray n) :: pins) σ H s) (h0 : X.s₀.heap.objs.size<=a) (hp : ∀ q ∈ X.pn ++ pins,q.1 ≠ a) (kfn : vW X A σ qv B H kf) (rv : aQ vs its) (iv : IsL X.K B vs ds) (sB : aJ B H)
  (em : fF kf ds = some kds) (ek : cy kds = some ks) (hc : dw ks = true) (hf : dh ks = true) (h64 : its.length < 64)
  (h : ∀ (p : Array Nat) (s' : Shared) (H' N : Hp),Arr its.length p->Up (rkK ks) p its.length->Inv X pins σ (upd H' a (.lst (p.toList.map fun i=>vs.getD i .non))) s'->Ext B N H H'->H' a = none->P (.done (.ret .none)) s') :
  wpAny (model X.prog X.w) A (ksk_tree a qv false) P E s:=by
 have pa:=I.pin (a,seqObj "list" its.toArray n) (mY _ mX)
 have hvl : vs.length = its.length:=rv.length
 have hdl : ds.length = vs.length:=iv.length.symm
 have hkd : kds.length = ds.length:=cA em
 have hks : ks.length = kds.length:=cH ek
 have hz : its.length<=sizeLine:=by rw [sizeLine_eq]; omega
 have hna : H a = none:=pa.2.1
 obtain ⟨e1,ho1⟩ : ∃ e1,(s.heap.update a (Obj.mapSeq fun _=>(#[] : Array Value))).get? a = some (seqObj "list" #[] e1):=⟨_,get?_update_seq pa.1 fun _=>#[]⟩
 have u1:=Heap.SameBut.update s.heap a (Obj.mapSeq fun _=>(#[] : Array Value))
 have I1 : Inv X ((a,seqObj "list" #[] e1) :: pins) σ H { s with heap:=s.heap.update a (Obj.mapSeq fun _=>(#[] : Array Value)) }:=bY (t':=s.toks) I h0 hp (fun b u n q=>(u1.2 b n).trans q) ho1 bt
 let h2 : Heap:=(s.heap.update a (Obj.mapSeq fun _=>(#[] : Array Value))).push (seqObj "tuple" its.toArray 0)
 have I2 : Inv X ((a,seqObj "list" #[] e1) :: pins) σ H { s with heap:=h2 }:=I1.kept (t':=s.toks) fun b u q=>Heap.get?_push_of_some _ q
 let kS : Addr:=h2.objs.size
 have I3 : Inv X ((kS,seqObj "list" #[] 0) :: (a,seqObj "list" #[] e1) :: pins) σ H { s with heap:=h2.push (seqObj "list" #[] 0) }:=iu (s:={ s with heap:=h2 }) (t':=s.toks) I2 (fun b u q=>Heap.get?_push_of_some _ q) (Nat.le_refl _) (Heap.get?_push_size _ rfl) bt
 have k0 : X.s₀.heap.objs.size<=kS:=I2.sz
 have kp : ∀ q ∈ X.pn ++ ((a,seqObj "list" #[] e1) :: pins),q.1 ≠ kS:=fun q hq=>Nat.ne_of_lt (Heap.lt_size (I2.pin q hq).1)
 have kna : kS ≠ a:=fun z=>kp (a,seqObj "list" #[] e1) (mY _ mX) z.symm
 unfold ksk_tree
 refine wX (listItems_at pa.1 rfl ?_)
 refine wX (listUpdate_at pa.1 rfl ?_ (by simpa using hz) (Nat.zero_le _))
 refine wX (seqEpoch_at ho1 rfl ?_)
 refine wX (wpAny_newTuple ?_ (by show its.length<=sizeLine; exact hz))
 refine wX (wpAny_newList ?_ (Nat.zero_le _))
 refine wpAny_holding ?_
 show wpAny (model X.prog X.w) A (ksk_rest a qv false its.toArray e1 (.ref kS)) P E { s with heap:=h2.push (seqObj "list" #[] 0) }
 unfold ksk_rest
 refine wX (wpAny_rule ?_)
 rw [List.forIn_toArray]
 refine wX (ksk_fold (fun i s'=>∃ (H' N : Hp) (kA : Array Value) (e : Nat) (kvs : List V),Inv X ((kS,seqObj "list" kA e) :: (a,seqObj "list" #[] e1) :: pins) σ H' s'/\Ext B N H H'/\aQ kvs kA.toList/\IsL X.K N kvs (kds.take i)) its 0 _
  ⟨H,B,#[],0,[],I3,.refl sB,.nil,by simpa using IsL.nil⟩ ?step ?done)
 case step =>
  rintro j u s' hu ⟨H',N,kA,e,kvs,J,x1,rk,ik⟩
  simp only [Nat.zero_add] at ik ⊢
  have hj : j < its.length:=(List.getElem?_eq_some_iff.mp hu).1
  obtain ⟨d,hd⟩ : ∃ d,ds[j]? = some d:=⟨_,List.getElem?_eq_getElem (by omega)⟩
  obtain ⟨v,hv,iv'⟩:=iv.get hd
  obtain ⟨kd,hkj,hkf⟩:=fG em hd
  obtain ⟨u',hu',ru⟩:=rv.get hv
  rw [hu] at hu'; cases hu'
  have kl : kA.size = j:=by
   have z1:=rk.length
   have z2:=ik.length
   rw [List.length_take] at z2
   rw [Array.length_toList] at z1
   exact z1.symm.trans (z2.trans (Nat.min_eq_left (by omega)))
  refine wX (wpAny_attempt (wpAny_mono (kfn _ s' H' N v u d kd J x1.hh x1.bn x1.nh (iv'.mono x1.bn) ru hkf) (fun w s'' hw=>?_) fun _ _ hF=>hF.elim))
  obtain ⟨v',H'',J',rv',N',x2,i2⟩:=hw
  have pk:=J'.pin (kS,seqObj "list" kA e) (mY _ mX)
  obtain ⟨c2,hc2⟩ : ∃ c2,(s''.heap.update kS (Obj.mapSeq (·.push w))).get? kS = some (seqObj "list" (kA.push w) c2):=⟨_,get?_update_seq pk.1 (·.push w)⟩
  have u2:=Heap.SameBut.update s''.heap kS (Obj.mapSeq (·.push w))
  refine wX (listUpdate_at pk.1 rfl ?_ (by rw [sizeLine_eq]; omega) (Nat.le_trans (Nat.le_of_eq (Array.size_push ..)) (by rw [sizeLine_eq]; omega)))
  refine wY ⟨rfl,H'',N',kA.push w,c2,kvs ++ [v'],bY (t':=s''.toks) J' k0 kp (fun b q n z=>(u2.2 b n).trans z) hc2 bt,x1.trans x2, ?_, ?_⟩
  ·rw [Array.toList_push]; exact pe rv' rk
  ·rw [List.take_add_one,hkj]; exact (ik.mono x2.bn).append (.cons i2 .nil)
 case done =>
  rintro s' ⟨H',N,kA,e,kvs,J,x1,rk,ik⟩
  have ik' : IsL X.K N kvs kds:=by
   have z : kds.take (0 + its.length) = kds:=List.take_of_length_le (by omega)
   rw [z] at ik; exact ik
  have pk:=J.pin (kS,seqObj "list" kA e) (mY _ mX)
  have pa':=J.pin (a,seqObj "list" #[] e1) (mY _ (mZ _ mX))
  have hn' : H' a = none:=pa'.2.1
  have kz : kA.toList.length = its.length:=by rw [← rk.length,ik'.length]; omega
  have kz' : kA.size = its.length:=by rw [← Array.length_toList]; exact kz
  refine wX (listItems_at pk.1 rfl ?_)
  have hkp : Paired (gz s'.heap) ks kA.toList:=qD J rk (ik'.mono x1.nh) ek
  -- the end of the sort,for a permutation p
  have ends : ∀ (st : SortSt) (p : Array Nat),arrOf st = p.map (kas_item (kA.toList.toArray.zip its.toArray))->failedOf st = none->Arr its.length p->Up (rkK ks) p its.length ->
    wpAny (model X.prog X.w) A (ksk_tail a false e1 (.ref kS) st) P E s':=fun st p ea ef ap up=>by
   have eo : (arrOf st).map (·.2) = List.toArray (p.toList.map fun i=>its.getD i Value.none):=kat_snds kz ea
   have hin : ∀ i ∈ p.toList,i < vs.length:=fun i hi=>by
    have:=List.mem_range.mp (ap.perm.mem_iff.mp hi)
    omega
   obtain ⟨c3,hc3⟩ : ∃ c3,(s'.heap.update kS (Obj.mapSeq fun _=>(#[] : Array Value))).get? kS = some (seqObj "list" #[] c3):=⟨_,get?_update_seq pk.1 fun _=>#[]⟩
   have u3:=Heap.SameBut.update s'.heap kS (Obj.mapSeq fun _=>(#[] : Array Value))
   have J3:=dZ (bY (t':=s'.toks) J k0 kp (fun b q n z=>(u3.2 b n).trans z) hc3 bt)
   have pa3:=J3.pin (a,seqObj "list" #[] e1) (mY _ mX)
   obtain ⟨c4,hc4⟩ : ∃ c4,((s'.heap.update kS (Obj.mapSeq fun _=>(#[] : Array Value))).update a (Obj.mapSeq fun _=>(arrOf st).map (·.2))).get? a = some (seqObj "list" ((arrOf st).map (·.2)) c4):=⟨_,get?_update_seq pa3.1 fun _=>(arrOf st).map (·.2)⟩
   have u4:=Heap.SameBut.update (s'.heap.update kS (Obj.mapSeq fun _=>(#[] : Array Value))) a (Obj.mapSeq fun _=>(arrOf st).map (·.2))
   have so : ((arrOf st).map (·.2)).size = its.length:=by rw [eo]; simp only [List.size_toArray,List.length_map,Array.length_toList,ap.size]
   unfold ksk_tail
   try dsimp only
   refine wX (listUpdate_at pk.1 rfl ?_ (by rw [kz',sizeLine_eq]; omega) (Nat.zero_le _))
   refine wX (wpAny_letGo ?_)
   refine wX (seqEpoch_at pa3.1 rfl ?_)
   refine wX (listUpdate_at pa3.1 rfl ?_ (Nat.zero_le _) (by simp only [Bool.false_eq_true,if_false]; rw [so,sizeLine_eq]; omega))
   rw [ef]
   simp only [bne_self_eq_false,Bool.false_eq_true,if_false]
   refine wY (h p _ H' N ap up (A9 (s:={ s' with heap:=s'.heap.update kS (Obj.mapSeq fun _=>(#[] : Array Value)) }) (t':=s'.toks) J3 h0 hp (fun b q n z=>(u4.2 b n).trans z) ⟨_,hc4⟩ ?_) x1 hn')
   refine ⟨by rw [List.length_map,Array.length_toList,ap.size]; exact hz,p.toList.map fun i=>its.getD i Value.none,c4,pd rv p.toList hin, ?_⟩
   rw [← eo]; exact hc4
  unfold ksk_end
  try dsimp only
  simp only [Bool.false_eq_true,if_false]
  have ekA : kA = kA.toList.toArray:=by simp
  by_cases h2' : its.toArray.size < 2
  ·rw [if_pos h2',if_pos h2']
   refine wX (wY ?_)
   rw [StateT.run_pure]
   refine wX (wY ?_)
   have hsm : its.length < 2:=by simpa using h2'
   refine ends _ (List.toArray (List.range its.length)) ?_ rfl ⟨by simp,by simp⟩ ?_
   ·show kA.zip its.toArray = _
    have:=kas_range (kA.toList.toArray.zip its.toArray)
    rw [show (kA.toList.toArray.zip its.toArray).size = its.length by simp [kz']] at this
    rw [this]
   ·intro i j hij hj
    have : i = j:=by omega
    subst this; exact Int.le_refl _
  ·rw [if_neg h2',if_neg h2']
   have h2'' : 2<=its.length:=by simp at h2'; omega
   rw [ekA]
   refine wX (yU hkp hf (by omega) ?_)
   obtain ⟨p,r1,r2,r3⟩:=yR (n:=its.length) (rk:=rkK ks) (by omega)
   refine wX (wpAny_mono (kat_run (E:=E) (ks:=kA.toList) (vs:=its) (κ:=tuples' true) (s:=s') (Q:=fun st' s2=>s2 = s'/\arrOf st' = p.map (kas_item (kA.toList.toArray.zip its.toArray))/\failedOf st' = none)
    (G:=fun p' s2=>p' = p/\s2 = s') kz h2'' h64 (fun p' st' s2 _ e2 e3 e4=>by
     obtain ⟨rfl,rfl⟩:=e4
     exact ⟨rfl,e2,e3⟩) (Run.wp (fun s2=>s2 = s') (fun i j C s2 hi hj e hC=>A5 (s:=s') hc hkp i j C s2 (by omega) (by omega) e hC) r1 rfl fun s2 e=>⟨rfl,e⟩)) (fun r s2 hr=>?_) fun _ _ z=>z)
   obtain ⟨⟨⟩,st'⟩:=r
   obtain ⟨rfl,e2,e3⟩:=hr
   exact ends st' p e2 e3 r2 r3
end
theorem sQ {α β : Type} {f : α->β} : ∀ {l : List α},(l.map f).Nodup->l.Nodup
 | [],_=>List.nodup_nil
 | a :: l,h=>by
  rw [List.map_cons,List.nodup_cons] at h
  exact List.nodup_cons.mpr ⟨fun z=>h.1 (List.mem_map.mpr ⟨a,z,rfl⟩),sQ h.2⟩
def gJ (ks : List (List At)) (ds : List D) : List D:=(f9 (fun p : List At × D=>bK p.1) (ks.zip ds)).map (·.2)
theorem yZ {α β : Type} (d : α) (e : β) : ∀ {l₁ : List α} {l₂ : List β},l₁.length = l₂.length->(List.range l₂.length).map (fun i=>(l₁.getD i d,l₂.getD i e)) = l₁.zip l₂:=fun {l₁ l₂} h=>by
 apply List.ext_getElem?
 intro i
 by_cases hi : i < l₂.length
 ·have hi' : i < l₁.length:=by omega
  have:=(List.getElem?_zip_eq_some (z:=(l₁[i],l₂[i]))).mpr ⟨List.getElem?_eq_getElem hi',List.getElem?_eq_getElem hi⟩
  rw [this]
  simp [hi,hi']
 ·simp [hi,h]
theorem AA {α β : Type} {l₁ : List α} {l₂ : List β} (nd : l₁.Nodup) {a : α} {b c : β} (h1 : (a,b) ∈ l₁.zip l₂) (h2 : (a,c) ∈ l₁.zip l₂) : b = c:=by
 obtain ⟨i,hi⟩:=List.mem_iff_getElem?.mp h1
 obtain ⟨j,hj⟩:=List.mem_iff_getElem?.mp h2
 obtain ⟨i1,i2⟩:=List.getElem?_zip_eq_some.mp hi
 obtain ⟨j1,j2⟩:=List.getElem?_zip_eq_some.mp hj
 obtain ⟨li,ei⟩:=List.getElem?_eq_some_iff.mp i1
 obtain ⟨lj,ej⟩:=List.getElem?_eq_some_iff.mp j1
 have : i = j:=(List.getElem_inj nd).mp (ei.trans ej.symm)
 subst this
 rw [i2] at j2; exact Option.some.inj j2
theorem uM {ds : List D} {ks : List (List At)} {p : Array Nat} (hl : ks.length = ds.length) (hc : dw ks = true) (nd : ks.Nodup) (ap : Arr ds.length p) (up : Up (rkK ks) p ds.length) : p.toList.map (fun i=>ds.getD i .non) = gJ ks ds:=by
 unfold gJ
 have e : p.toList.map (fun i=>(ks.getD i [],ds.getD i .non)) = f9 (fun p : List At × D=>bK p.1) (ks.zip ds):=by
  apply gI
  ·intro x hx y hy e
   have mx:=(List.of_mem_zip hx).1
   have my:=(List.of_mem_zip hy).1
   have:=pc hc mx my e
   obtain ⟨k1,d1⟩:=x
   obtain ⟨k2,d2⟩:=y
   have z : k1 = k2:=this
   subst z
   rw [AA nd hx hy]
  ·have:=ap.perm.map (fun i=>(ks.getD i [],ds.getD i D.non))
   rw [yZ [] D.non hl] at this
   exact this
  ·rw [List.pairwise_iff_getElem]
   intro i j hi hj hij
   have hsz:=ap.size
   have hi' : i < p.size:=by simpa using hi
   have hj' : j < p.size:=by simpa using hj
   have:=up i j (Nat.le_of_lt hij) (by omega)
   unfold bA rkK at this
   have gi : p.getD i 0 = p[i]:=by rw [Array.getD_eq_getD_getElem?,Array.getElem?_eq_getElem hi']; rfl
   have gj : p.getD j 0 = p[j]:=by rw [Array.getD_eq_getD_getElem?,Array.getElem?_eq_getElem hj']; rfl
   have lj:=ap.lt (k:=j) (by omega)
   have mj : ks.getD (p.getD j 0) [] ∈ ks:=by
    have h' : p.getD j 0 < ks.length:=by omega
    rw [List.getD_eq_getElem?_getD,List.getElem?_eq_getElem h']; exact List.getElem_mem h'
   have nl : ¬ bK (ks.getD (p.getD j 0) []) < bK (ks.getD (p.getD i 0) []):=fun z=>by
    have:=vS (cs:=ks.map bK) (List.mem_map.mpr ⟨_,mj,rfl⟩) z
    omega
   simp only [List.getElem_map,Array.getElem_toList]
   unfold leF
   rw [← gi,← gj]
   exact nl
 rw [← e,List.map_map]
 rfl
@[simp] def ko (f : FE) (kf : Env->D->Option D) : FE:=fun ρ=>(f ρ).bind fun x=>match x.1 with
 | .lst ds=>(fF (kf ρ) ds).bind fun kds=>(cy kds).bind fun ks=>if ks.length < 64/\dw ks = true/\dh ks = true/\(ks.map bK).Nodup then some (.lst (gJ ks ds),true) else none
 | _=>none
section
variable {X : Cx} {e ke : Expr} {p pos kp : Pos}
theorem sR {f : FE} {kf : Env->D->Option D} (hm : X.mg "sorted" = none) (he : JE X e f) (hk : JK X X.A.in1.in1 ke kf) (hg : Gl X "sorted":=by rfl)
  (hes : starEach [e] X.env = [(false,eval e X.env)]:=by rfl) (heb : backTo pos (starEach [e] X.env) = (false,eval e X.env) :: backTo pos (starEach [] X.env):=by rfl) (hpl : (backTo pos (starEach [e] X.env)).any (·.1) = false:=by rfl)
  (hall : (backToKw pos (keywordEach [⟨some "key",ke,kp⟩] X.env)).all (·.1.isSome) = true:=by rfl) (hkw : (backToKw pos (keywordEach [⟨some "key",ke,kp⟩] X.env)).any (·.1.isNone) = false:=by rfl)
  (hnm : (backToKw pos (keywordEach [⟨some "key",ke,kp⟩] X.env)).filterMap (·.1) = [("key" : Str)]:=by rfl) :
  JE X (.Call (.Name "sorted" p) [e] [⟨some "key",ke,kp⟩] pos) (ko f kf):=by
 intro pins s σ H Q I h
 obtain ⟨B,ρ,d,b,sB,rep,ee,q⟩:=h
 obtain ⟨⟨xd,xb⟩,ex,ee⟩:=oX ee
 cases xd <;> try (cases ee; done)
 rename_i ds
 obtain ⟨kds,em,ee⟩:=oX ee
 obtain ⟨ks,ek,ee⟩:=oX ee
 split at ee
 ·rename_i hh
  obtain ⟨h64,hc,hf,nd⟩:=hh
  cases ee
  refine wpAny_Call_Name_kw (iU I hg hm (u:=.builtin "sorted") rfl ?_)
  refine callWith_kw (thn ((eI he g8 hes) pos pins s σ H (fun vs H1=>∃ v N,vs = [v]/\Ext B N H H1/\Is X.K N v (.lst ds)) I ⟨B,ρ,_,_,sB,rep,ex,fun v H1 N x1 i1 _=>⟨v,N,rfl,x1,i1⟩⟩) fun us s1 hA=>?_) heb hpl hall hkw
  obtain ⟨vs1,H1,I1,r1,v,N,rfl,x1,i1⟩:=hA
  obtain ⟨u,rfl,ru⟩:=iJ r1
  refine kws_cons (hk pins s1 σ H1 N ρ _ _ I1 x1.nh (rep.mono x1.bn) fun qa H2 s2 I2 m2 kfn=>kws_nil ?_)
  rw [hnm]
  show wpAny _ _ (call (.builtin "sorted") [u] [(("key" : Str),.ref qa)]) _ _ _
  cases i1
  rename_i l vs hq il
  cases ru
  have sN : aJ N H2:=x1.nh.trans m2
  obtain ⟨its,rv,pl,hz⟩:=I2.list (sN.seq hq)
  have hvl : vs.length = its.length:=rv.length
  have hdl : ds.length = vs.length:=il.length.symm
  have hkd : kds.length = ds.length:=cA em
  have hks : ks.length = kds.length:=cH ek
  have h64' : its.length < 64:=by omega
  refine call_function_entry_kw kind_sorted plain_sorted entry_sorted (ksk_s1 _ _) ?_
  unfold Builtin.«sorted»
  refine wX (m:=checkCount "sorted" 1 1 _) (wY (wX (collect_list pl.isList (wX (wpAny_newList ?_ (by rw [sizeLine_eq]; omega))) (by rw [sizeLine_eq]; omega))))
  let h1 : Heap:=(s2.heap.push (seqObj "list" #[] 0)).update s2.heap.objs.size (Obj.mapSeq (· ++ its.toArray))
  have hsz : h1.objs.size = s2.heap.objs.size + 1:=by show (Heap.update _ _ _).objs.size = _; rw [Heap.size_update,size_push']
  have keep1 : ∀ b o,s2.heap.get? b = some o->h1.get? b = some o:=fun b o q=>(Heap.get?_update_ne _ _ _ _ (Nat.ne_of_lt (Heap.lt_size q))).trans (Heap.get?_push_of_some _ q)
  have I3 : Inv X ((h1.objs.size,seqObj "list" its.toArray 0) :: pins) σ H2 { s2 with heap:=h1.push (seqObj "list" its.toArray 0) } :=
   iu (t':=s2.toks) I2 (fun b u q=>Heap.get?_push_of_some _ (keep1 b u q)) (by rw [hsz]; exact Nat.le_succ _) (Heap.get?_push_size _ rfl) bt
  have p3:=I3.pin (h1.objs.size,seqObj "list" its.toArray 0) (mY _ mX)
  show wpAny (model X.prog X.w) X.A.in1 (holding [.ref h1.objs.size] (call (.builtin "list.sort") [.ref h1.objs.size] [(("key" : Str),.ref qa)]) >>= _) _ _ { s2 with heap:=h1.push (seqObj "list" its.toArray 0) }
  refine wX (wpAny_holding (wpAny_call_entry_kw slot_list_sort ⟨_,p3.1,rfl⟩ entry_list_sort ?_ (ksk_l1 _ _)))
  show wpAny (model X.prog X.w) X.A.in1.in1 (Builtin.«list.sort» ⟨[.ref h1.objs.size],[(Str.ofString "key",.ref qa)]⟩) _ _ _
  rw [ksk_t1]
  refine uL I3 (Nat.le_trans I2.sz (by rw [hsz]; exact Nat.le_succ _)) (fun q hq=>by rw [hsz]; exact Nat.ne_of_lt (Nat.lt_succ_of_lt (Heap.lt_size (I2.pin q hq).1))) kfn rv il sN em ek hc hf h64' fun pm s' H' N' ap up J x3 hn=>⟨_,rfl,wY ⟨_,rfl, ?_⟩⟩
  have hpl : its.length = ds.length:=by omega
  rw [hpl] at ap up
  have er:=uM (by omega) hc (sQ nd) ap up
  have hin : ∀ i ∈ pm.toList,i < ds.length:=fun i hi=>List.mem_range.mp (ap.perm.mem_iff.mp hi)
  have ip:=sL (il.mono x3.bn) pm.toList hin
  rw [er] at ip
  have x4 : Ext B N' H H':=(x1.trans (.grow x1.nh m2)).trans x3
  have hN : N' h1.objs.size = none:=x3.nh.free hn
  have x5:=x4.trans (Ext.laid (o:=.lst (pm.toList.map fun i=>vs.getD i .non)) x3.nh hn)
  exact ⟨.ref h1.objs.size,_,J,rfl,q _ _ _ x5 (.lst (SqL.of a8) (ip.mono (Ext.laid (o:=.lst (pm.toList.map fun i=>vs.getD i .non)) x3.nh hn).bn)) fun _=>⟨_,_,_,rfl,rfl,x4.hh.free hn,a8,ip.mono (Ext.laid (o:=.lst (pm.toList.map fun i=>vs.getD i .non)) x3.nh hn).bn⟩⟩
 ·cases ee
end
section
variable {prog : Program} {w : World} {A : Around} {E : Value->Shared->Prop} {s : Shared}
theorem gz.type {xs : List At} {v : Value} (h : gz s.heap xs v) : s.TypeIs v "tuple":=by
 obtain ⟨a,o,its,n,rfl,ho,hc,_⟩:=h
 exact ⟨o,ho,hc⟩
theorem za {xs ys : List At} {a b : Addr} {r : Bool} {P : PySem.Fin->Shared->Prop} (hx : gz s.heap xs (.ref a)) (hy : gz s.heap ys (.ref b)) (h : aZ xs ys = some r) (q : P (.done (.ret (.bool r))) s) : wpAny (model prog w) A (Builtin.«tuple.__lt__» ⟨[.ref a,.ref b],[]⟩) P E s:=by
 have hTb:=hy.type
 obtain ⟨a',oa,its,na,ea,hoa,_,hda,ra⟩:=hx
 obtain ⟨b',ob,jts,nb,eb,hob,_,hdb,rb⟩:=hy
 cases ea
 cases eb
 show wpAny _ _ (isInstance (.ref _) (.type "tuple") >>= _) _ _ s
 refine wX (wpAny_isInstance hTb isSubtype_tuple_tuple ?_)
 simp only [Bool.not_true,Bool.false_eq_true,if_false]
 refine wX (wpAny_tupleItemsOf hoa hda ?_)
 refine wX (wpAny_tupleItemsOf hob hdb ?_)
 refine wX ?_
 refine wpAny_forIn_list _
  (fun az z s'=>z.1 = none/\s' = s/\∃ xs' ys' its' jts' n,az = List.zip its' jts'/\Paired atV xs' its'/\Paired atV ys' jts'/\aZ xs' ys' = some r/\its'.length + n = its.size/\jts'.length + n = jts.size)
  _ ?_ ?_ _ _ ⟨rfl,rfl,xs,ys,its.toList,jts.toList,0,rfl,ra,rb,h,by simp,by simp⟩
 ·rintro ⟨u,v⟩ az z s' ⟨hz,rfl,xs',ys',its',jts',n,e,p1,p2,hl,n1,n2⟩
  cases p1 with
  | nil=>simp at e
  | @cons x u' xs'' its'' r1 p1' =>
   cases p2 with
   | nil=>simp at e
   | @cons y v' ys'' jts'' r2 p2' =>
    simp only [List.zip_cons_cons,List.cons.injEq,Prod.mk.injEq] at e
    obtain ⟨⟨rfl,rfl⟩,rfl⟩:=e
    cases x with
    | i i =>
     cases y with
     | s j=>simp [aZ] at hl
     | i j =>
      obtain ⟨t,rfl⟩:=r1
      obtain ⟨t',rfl⟩:=r2
      rw [aZ] at hl
      refine wX (wpAny_eqBool_int ?_)
      by_cases hk : i = j
      ·rw [if_pos hk] at hl
       rw [show (i == j) = true by simp [hk]]
       simp only [Bool.not_true,Bool.false_eq_true,if_false]
       exact wY ⟨rfl,rfl,xs'',ys'',its'',jts'',n + 1,rfl,p1',p2',hl,by rw [← n1,List.length_cons]; omega,by rw [← n2,List.length_cons]; omega⟩
      ·rw [if_neg hk] at hl
       cases hl
       rw [show (i == j) = false by simp [hk]]
       simp only [Bool.not_false,if_true]
       refine wX (wpAny_rule (wX (m:=richCompare .Lt (.int i t) (.int j t')) (wpAny_mono (show wpAny _ _ (richCompare .Lt (.int i t) (.int j t')) (fun v s''=>v = .bool (decide (i < j))/\s'' = s') E s' from PyProof.Rows.lt_int ⟨rfl,rfl⟩) (fun v s'' hv=>?_) fun _ _ z=>z)))
       obtain ⟨rfl,rfl⟩:=hv
       exact wX (wY (wY (wY q)))
    | s i =>
     cases y with
     | i j=>simp [aZ] at hl
     | s j =>
      obtain ⟨t,rfl⟩:=r1
      obtain ⟨t',rfl⟩:=r2
      rw [aZ] at hl
      refine wX (wpAny_eqBool_str ?_)
      by_cases hk : i = j
      ·rw [if_pos hk] at hl
       rw [decide_eq_true hk]
       simp only [Bool.not_true,Bool.false_eq_true,if_false]
       exact wY ⟨rfl,rfl,xs'',ys'',its'',jts'',n + 1,rfl,p1',p2',hl,by rw [← n1,List.length_cons]; omega,by rw [← n2,List.length_cons]; omega⟩
      ·rw [if_neg hk] at hl
       cases hl
       rw [decide_eq_false hk]
       simp only [Bool.not_false,if_true]
       refine wX (wpAny_rule (wX (m:=richCompare .Lt (.str i t) (.str j t')) (wpAny_mono (show wpAny _ _ (richCompare .Lt (.str i t) (.str j t')) (fun v s''=>v = .bool (decide (i.cps.toList < j.cps.toList))/\s'' = s') E s' from PySem.P.lt_str ⟨rfl,rfl⟩) (fun v s'' hv=>?_) fun _ _ z=>z)))
       obtain ⟨rfl,rfl⟩:=hv
       exact wX (wY (wY (wY q)))
 ·rintro ⟨z1,z2⟩ s' ⟨hz,rfl,xs',ys',its',jts',n,e,p1,p2,hl,n1,n2⟩
  simp only at hz
  subst hz
  refine wY ?_
  have : decide (its.size < jts.size) = r:=by
   cases p1 with
   | nil =>
    cases p2 with
    | nil=>simp [aZ] at hl; subst hl; simp at n1 n2; simp; omega
    | cons _ _=>simp [aZ] at hl; subst hl; simp at n1 n2; simp; omega
   | cons _ _ =>
    cases p2 with
    | nil=>simp [aZ] at hl; subst hl; simp at n1 n2; simp; omega
    | cons _ _=>simp at e
  show P (.done (.ret (.bool (decide (its.size < jts.size))))) s'
  rw [this]; exact q
theorem zb {xs ys : List At} {a b : Addr} {r : Bool} {P : PySem.Fin->Shared->Prop} (hx : gz s.heap xs (.ref a)) (hy : gz s.heap ys (.ref b)) (h : aZ ys xs = some r) (q : P (.done (.ret (.bool r))) s) : wpAny (model prog w) A (Builtin.«tuple.__gt__» ⟨[.ref a,.ref b],[]⟩) P E s:=by
 have hTb:=hy.type
 obtain ⟨a',oa,its,na,ea,hoa,_,hda,ra⟩:=hx
 obtain ⟨b',ob,jts,nb,eb,hob,_,hdb,rb⟩:=hy
 cases ea
 cases eb
 show wpAny _ _ (isInstance (.ref _) (.type "tuple") >>= _) _ _ s
 refine wX (wpAny_isInstance hTb isSubtype_tuple_tuple ?_)
 simp only [Bool.not_true,Bool.false_eq_true,if_false]
 refine wX (wpAny_tupleItemsOf hoa hda ?_)
 refine wX (wpAny_tupleItemsOf hob hdb ?_)
 refine wX ?_
 refine wpAny_forIn_list _
  (fun az z s'=>z.1 = none/\s' = s/\∃ xs' ys' its' jts' n,az = List.zip its' jts'/\Paired atV xs' its'/\Paired atV ys' jts'/\aZ ys' xs' = some r/\its'.length + n = its.size/\jts'.length + n = jts.size)
  _ ?_ ?_ _ _ ⟨rfl,rfl,xs,ys,its.toList,jts.toList,0,rfl,ra,rb,h,by simp,by simp⟩
 ·rintro ⟨u,v⟩ az z s' ⟨hz,rfl,xs',ys',its',jts',n,e,p1,p2,hl,n1,n2⟩
  cases p1 with
  | nil=>simp at e
  | @cons x u' xs'' its'' r1 p1' =>
   cases p2 with
   | nil=>simp at e
   | @cons y v' ys'' jts'' r2 p2' =>
    simp only [List.zip_cons_cons,List.cons.injEq,Prod.mk.injEq] at e
    obtain ⟨⟨rfl,rfl⟩,rfl⟩:=e
    cases x with
    | i i =>
     cases y with
     | s j=>simp [aZ] at hl
     | i j =>
      obtain ⟨t,rfl⟩:=r1
      obtain ⟨t',rfl⟩:=r2
      rw [aZ] at hl
      refine wX (wpAny_eqBool_int ?_)
      by_cases hk : j = i
      ·rw [if_pos hk] at hl
       rw [show (i == j) = true by simp [hk]]
       simp only [Bool.not_true,Bool.false_eq_true,if_false]
       exact wY ⟨rfl,rfl,xs'',ys'',its'',jts'',n + 1,rfl,p1',p2',hl,by rw [← n1,List.length_cons]; omega,by rw [← n2,List.length_cons]; omega⟩
      ·rw [if_neg hk] at hl
       cases hl
       rw [show (i == j) = false by simp; exact fun z=>hk z.symm]
       simp only [Bool.not_false,if_true]
       refine wX (wpAny_rule (wX (m:=richCompare .Gt (.int i t) (.int j t')) (wpAny_mono (show wpAny _ _ (richCompare .Gt (.int i t) (.int j t')) (fun v s''=>v = .bool (decide (j < i))/\s'' = s') E s' from PyProof.Rows.gt_int ⟨rfl,rfl⟩) (fun v s'' hv=>?_) fun _ _ z=>z)))
       obtain ⟨rfl,rfl⟩:=hv
       exact wX (wY (wY (wY q)))
    | s i =>
     cases y with
     | i j=>simp [aZ] at hl
     | s j =>
      obtain ⟨t,rfl⟩:=r1
      obtain ⟨t',rfl⟩:=r2
      rw [aZ] at hl
      refine wX (wpAny_eqBool_str ?_)
      by_cases hk : j = i
      ·rw [if_pos hk] at hl
       rw [decide_eq_true hk.symm]
       simp only [Bool.not_true,Bool.false_eq_true,if_false]
       exact wY ⟨rfl,rfl,xs'',ys'',its'',jts'',n + 1,rfl,p1',p2',hl,by rw [← n1,List.length_cons]; omega,by rw [← n2,List.length_cons]; omega⟩
      ·rw [if_neg hk] at hl
       cases hl
       rw [decide_eq_false fun z=>hk z.symm]
       simp only [Bool.not_false,if_true]
       refine wX (wpAny_rule (wX (m:=richCompare .Gt (.str i t) (.str j t')) (wpAny_mono (show wpAny _ _ (richCompare .Gt (.str i t) (.str j t')) (fun v s''=>v = .bool (decide (j.cps.toList < i.cps.toList))/\s'' = s') E s' from PySem.P.gt_str ⟨rfl,rfl⟩) (fun v s'' hv=>?_) fun _ _ z=>z)))
       obtain ⟨rfl,rfl⟩:=hv
       exact wX (wY (wY (wY q)))
 ·rintro ⟨z1,z2⟩ s' ⟨hz,rfl,xs',ys',its',jts',n,e,p1,p2,hl,n1,n2⟩
  simp only at hz
  subst hz
  refine wY ?_
  have : decide (jts.size < its.size) = r:=by
   cases p1 with
   | nil =>
    cases p2 with
    | nil=>simp [aZ] at hl; subst hl; simp at n1 n2; simp; omega
    | cons _ _=>simp [aZ] at hl; subst hl; simp at n1 n2; simp; omega
   | cons _ _ =>
    cases p2 with
    | nil=>simp [aZ] at hl; subst hl; simp at n1 n2; simp; omega
    | cons _ _=>simp at e
  show P (.done (.ret (.bool (decide (jts.size < its.size))))) s'
  rw [this]; exact q
theorem Et {xs ys : List At} {x y : Value} {r : Bool} {Q : Value->Shared->Prop} (hx : gz s.heap xs x) (hy : gz s.heap ys y) (h : aZ xs ys = some r) (hu : A.units < cLine) (q : Q (.bool r) s) : wpAny (model prog w) A (richCompare .Lt x y) Q E s:=by
 have tx:=hx.type
 have ty:=hy.type
 obtain ⟨a,_,_,_,rfl,_⟩:=id hx
 obtain ⟨b,_,_,_,rfl,_⟩:=id hy
 exact wpAny_richCompare_same_room (op:=.Lt) tx ty PySem.F.slot_tuple_lt (wpAny_call_entry PySem.F.slot_tuple_lt tx PySem.F.entry_tuple_lt (za hx hy h ⟨_,rfl,(fun e=>nomatch e),q⟩) (PySem.F.args_tuple_lt_2 _ _)) hu
theorem Eu {xs ys : List At} {x y : Value} {r : Bool} {Q : Value->Shared->Prop} (hx : gz s.heap xs x) (hy : gz s.heap ys y) (h : aZ ys xs = some r) (hu : A.units < cLine) (q : Q (.bool r) s) : wpAny (model prog w) A (richCompare .Gt x y) Q E s:=by
 have tx:=hx.type
 have ty:=hy.type
 obtain ⟨a,_,_,_,rfl,_⟩:=id hx
 obtain ⟨b,_,_,_,rfl,_⟩:=id hy
 exact wpAny_richCompare_same_room (op:=.Gt) tx ty PySem.F.slot_tuple_gt (wpAny_call_entry PySem.F.slot_tuple_gt tx PySem.F.entry_tuple_gt (zb hx hy h ⟨_,rfl,(fun e=>nomatch e),q⟩) (PySem.F.args_tuple_gt_2 _ _)) hu
end
def iP : List At × D->List (List At × D)->D
 | b,[]=>b.2
 | b,x :: r=>if aZ b.1 x.1 = some true then iP x r else iP b r
theorem qF (a v : Value) : argsOk "max" ⟨[a],[(Str.ofString "key",v)]⟩:=by unfold argsOk; kernel_rfl
section
variable {X : Cx} {pins : List (Addr × Obj)} {σ : St}
theorem lG {pins : List (Addr × Obj)} {H : Hp} {s : Shared} {v : V} {u : Value} {d : D} {k : List At} (I : Inv X pins σ H s) (r : aN v u) (i : Is X.K H v d) (e : mv d = some k) : gz s.heap k u:=by
 have:=qD I (ys:=[v]) (ds:=[d]) (ks:=[k]) (its:=[u]) (.cons r .nil) (.cons i .nil) (by simp only [cy,e]; rfl)
 cases this; assumption
theorem zc {qv : Value} {l S It : Addr} {vs : List V} {ds kds : List D} {ks : List (List At)} {B H1 : Hp} {kf : D->Option D} {d0 : D} {R : Result->Shared->Prop} (hh : X.A.handled = none) (hu : X.A.in1.units < cLine) (kfn : vW X X.A.in1 σ qv B H1 kf) (hqv : ∃ a,qv = .ref a) (hq : SqL X.K B l vs) (iv : IsL X.K B vs ds)
  (em : fF kf ds = some kds) (ek : cy kds = some ks) (hc : dw ks = true) (S0 : X.s₀.heap.objs.size<=S) (I0 : X.s₀.heap.objs.size<=It) (hSp : ∀ q ∈ X.pn ++ pins,q.1 ≠ S) (hIp : ∀ q ∈ X.pn ++ pins,q.1 ≠ It) (hSI : S ≠ It) (hSl : S ≠ l) (hIl : l ≠ It)
  (hR : ∀ (s' : Shared) (H' N : Hp) (v : V) (u : Value),Inv X pins σ H' s'->Ext B N H1 H'->aN v u->Is X.K N v d0->R (.ok (.ret u)) s') :
  ∀ (r j : Nat) (s : Shared) (H N : Hp) (ub kub : Value) (vb kvb : V) (db kdb : D) (kb : List At) (c : Nat) (oI : Obj),vs.length - j = r->j<=vs.length->Inv X ((S,seqObj "list" #[ub,kub] c) :: (It,oI) :: pins) σ H s->s.heap.IsListIter It l j->Ext B N H1 H ->
   aN vb ub->Is X.K N vb db->aN kvb kub->Is X.K N kvb kdb->mv kdb = some kb->kb ∈ ks->iP (kb,db) ((ks.zip ds).drop j) = d0 ->
   codeAny (model X.prog X.w) X.A (.builtin "max.loop" ⟨[.ref It,qv,.ref S],[]⟩) R s:=by
 have hname : (toString "max" ++ toString ".loop" : String) = "max.loop":=by decide
 obtain ⟨qa,rfl⟩:=hqv
 intro r
 induction r with
 | zero =>
  intro j s H N ub kub vb kvb db kdb kb c oI hr hj I hit x1 r1 i1 r2 i2 ekb mk hd
  have pS:=I.pin (S,seqObj "list" #[ub,kub] c) (mY _ mX)
  have sB : aJ B H:=x1.bn.trans x1.nh
  obtain ⟨its,rv,pl,_⟩:=I.list (sB.seq hq)
  have hl:=pl.isList
  have W:=Walks.list (prog:=X.prog) (w:=X.w) (A:=X.A.in1) hh It l hIl its.toArray
  have hsz : its.toArray.size = its.length:=List.size_toArray ..
  have hvl : vs.length = its.length:=rv.length
  have hdl : ds.length = its.length:=by rw [← iv.length]; exact rv.length
  have hkl : ks.length = ds.length:=by rw [cH ek,cA em]
  have hd' : db = d0:=by
   rw [List.drop_of_length_le (by rw [List.length_zip]; omega)] at hd
   exact hd
  subst hd'
  refine codeAny_builtin PySem.F.entry_max_loop ?_
  rw [Around.under_plainId PySem.F.plain_max_loop _]
  show wpAny _ X.A.in1 (seqItems? (.ref S) >>= _) _ _ _
  refine wX (wpAny_seqItems pS.1 rfl ?_)
  show wpAny _ X.A.in1 (tryCatch (pyNext (.ref It)) _ >>= _) _ _ _
  refine wX (wpAny_tryCatch (W.done _ _ _ ⟨by rw [hsz,show its.length = j by omega]; exact hit,hl⟩ fun h' tk' hk'=>?_))
  have J1 : Inv X ((It,oI) :: (S,seqObj "list" #[ub,kub] c) :: pins) σ H s:=I.pins_of fun q hq=>I.pin q (by
   rcases List.mem_cons.mp hq with rfl | hq
   ·exact mY _ (mZ _ mX)
   ·rcases List.mem_cons.mp hq with rfl | hq
    ·exact mY _ mX
    ·exact mY _ (mZ _ (mZ _ hq)))
  have hIp' : ∀ q ∈ X.pn ++ ((S,seqObj "list" #[ub,kub] c) :: pins),q.1 ≠ It:=fun q hq=>by
   rcases List.mem_append.mp hq with hq | hq
   ·exact hIp q (List.mem_append_left _ hq)
   ·rcases List.mem_cons.mp hq with rfl | hq
    ·exact hSI
    ·exact hIp q (mY _ hq)
  have J2 : Inv X ((S,seqObj "list" #[ub,kub] c) :: pins) σ H { s with heap:=h',toks:=tk' } :=
   (dZ J1).turned (t':=tk') (fun b o n e=>hk' b o (by simpa using n) e) (J1.pin (It,oI) (mY _ mX)).2.1 (J1.pin (It,oI) (mY _ mX)).2.2.1 (.inr I0) (ir J1) hIp'
  have pS2:=J2.pin (S,seqObj "list" #[ub,kub] c) (mY _ mX)
  obtain ⟨c2,hc2⟩ : ∃ c2,(h'.update S (Obj.mapSeq fun _=>(#[] : Array Value))).get? S = some (seqObj "list" #[] c2):=⟨_,get?_update_seq pS2.1 fun _=>#[]⟩
  have u2:=Heap.SameBut.update h' S (Obj.mapSeq fun _=>(#[] : Array Value))
  show wpAny _ X.A.in1 (updateSeq S (fun _=>#[]) >>= _) _ _ _
  refine wX ?_
  refine wpAny_updateSeq pS2.1 rfl (wX (wpAny_letGo (wY ?_)))
  exact hR _ H N vb ub (dZ (bY (t':=tk') J2 S0 hSp (fun b o n e=>(u2.2 b n).trans e) hc2 bt)) x1 r1 i1
 | succ r ih =>
  intro j s H N ub kub vb kvb db kdb kb c oI hr hj I hit x1 r1 i1 r2 i2 ekb mk hd
  have hlt : j < vs.length:=by omega
  have pS:=I.pin (S,seqObj "list" #[ub,kub] c) (mY _ mX)
  have sB : aJ B H:=x1.bn.trans x1.nh
  obtain ⟨its,rv,pl,_⟩:=I.list (sB.seq hq)
  have hl:=pl.isList
  have W:=Walks.list (prog:=X.prog) (w:=X.w) (A:=X.A.in1) hh It l hIl its.toArray
  have hsz : its.toArray.size = its.length:=List.size_toArray ..
  have hvl : vs.length = its.length:=rv.length
  have hdl : ds.length = its.length:=by rw [← iv.length]; exact rv.length
  have hkl : ks.length = ds.length:=by rw [cH ek,cA em]
  refine codeAny_builtin PySem.F.entry_max_loop ?_
  rw [Around.under_plainId PySem.F.plain_max_loop _]
  show wpAny _ X.A.in1 (seqItems? (.ref S) >>= _) _ _ _
  refine wX (wpAny_seqItems pS.1 rfl ?_)
  show wpAny _ X.A.in1 (tryCatch (pyNext (.ref It)) _ >>= _) _ _ _
  refine wX (wpAny_tryCatch (W.item j _ _ _ (by rw [hsz]; omega) ⟨hit,hl⟩ fun u h' tk' hP hst' hk'=>?_))
  have hu' : its[j]? = some u:=by simpa using hP
  obtain ⟨d,hdj⟩ : ∃ d,ds[j]? = some d:=⟨_,List.getElem?_eq_getElem (by omega)⟩
  obtain ⟨v,hv,iv'⟩:=iv.get hdj
  obtain ⟨kd,hkj,hkf⟩:=fG em hdj
  obtain ⟨u2,hu2,ru⟩:=rv.get hv
  rw [hu'] at hu2; cases hu2
  obtain ⟨k,hk1⟩ : ∃ k,ks[j]? = some k:=⟨_,List.getElem?_eq_getElem (by omega)⟩
  have ekd : mv kd = some k:=by
   have:=fE ek (i:=j) (by rw [cA em]; omega)
   rw [List.getD_eq_getElem?_getD,hkj,List.getD_eq_getElem?_getD,hk1] at this
   exact this
  have hm : k ∈ ks:=List.mem_of_getElem? hk1
  obtain ⟨oI',hoI',hoc,hod⟩:=id hst'.1
  have J1 : Inv X ((It,oI) :: (S,seqObj "list" #[ub,kub] c) :: pins) σ H s:=I.pins_of fun q hq=>I.pin q (by
   rcases List.mem_cons.mp hq with rfl | hq
   ·exact mY _ (mZ _ mX)
   ·rcases List.mem_cons.mp hq with rfl | hq
    ·exact mY _ mX
    ·exact mY _ (mZ _ (mZ _ hq)))
  have hIp' : ∀ q ∈ X.pn ++ ((S,seqObj "list" #[ub,kub] c) :: pins),q.1 ≠ It:=fun q hq=>by
   rcases List.mem_append.mp hq with hq | hq
   ·exact hIp q (List.mem_append_left _ hq)
   ·rcases List.mem_cons.mp hq with rfl | hq
    ·exact hSI
    ·exact hIp q (mY _ hq)
  have hSp' : ∀ q ∈ X.pn ++ ((It,oI') :: pins),q.1 ≠ S:=fun q hq=>by
   rcases List.mem_append.mp hq with hq | hq
   ·exact hSp q (List.mem_append_left _ hq)
   ·rcases List.mem_cons.mp hq with rfl | hq
    ·exact hSI.symm
    ·exact hSp q (mY _ hq)
  have J2 : Inv X ((It,oI') :: (S,seqObj "list" #[ub,kub] c) :: pins) σ H { s with heap:=h',toks:=tk' } :=
   bY (t':=tk') J1 I0 hIp' (fun b o n e=>hk' b o (by simpa using n) e) hoI' (fun v z=>by rw [hod] at z; cases z)
  have J3 : Inv X ((S,seqObj "list" #[ub,kub] c) :: (It,oI') :: pins) σ H { s with heap:=h',toks:=tk' }:=J2.pins_of fun q hq=>J2.pin q (by
   rcases List.mem_cons.mp hq with rfl | hq
   ·exact mY _ (mZ _ mX)
   ·rcases List.mem_cons.mp hq with rfl | hq
    ·exact mY _ mX
    ·exact mY _ (mZ _ (mZ _ hq)))
  show wpAny _ X.A.in1 (tryCatch (holding [u] (call (.ref qa) [u])) _ >>= _) _ _ _
  refine wX (wpAny_tryCatch (wpAny_holding (wpAny_mono (kfn _ _ H N v u d kd J3 x1.hh x1.bn x1.nh (iv'.mono x1.bn) ru hkf) (fun ku s2 he=>?_) fun _ _ hF=>hF.elim)))
  obtain ⟨kv,H2,J4,rk,N2,x2,ik⟩:=he
  have pI4:=J4.pin (It,oI') (mY _ (mZ _ mX))
  have pS4:=J4.pin (S,seqObj "list" #[ub,kub] c) (mY _ mX)
  have hit2 : s2.heap.IsListIter It l (j + 1):=⟨oI',pI4.1,hoc,hod⟩
  have t1:=lG J4 rk (ik.mono x2.nh) ekd
  have t2:=lG J4 r2 (i2.mono (x2.bn.trans x2.nh)) ekb
  have hz : (ks.zip ds).drop j = (k,d) :: (ks.zip ds).drop (j + 1):=by
   have hj' : j < (ks.zip ds).length:=by rw [List.length_zip]; omega
   rw [List.drop_eq_getElem_cons hj']
   have : (ks.zip ds)[j]? = some (k,d):=List.getElem?_zip_eq_some.mpr ⟨hk1,hdj⟩
   rw [List.getElem?_eq_getElem hj'] at this
   rw [Option.some.inj this]
  rw [hz,iP] at hd
  have hlx:=fD hc mk hm
  show wpAny _ X.A.in1 (tryCatch (holding [u,ku] (richCompare .Gt ku kub >>= _)) _ >>= _) _ _ _
  refine wX (wpAny_tryCatch (wpAny_holding (wX (Eu t1 t2 hlx hu ?_))))
  refine wX (wpAny_holding (wpAny_truthy_bool ?_))
  refine wX (wpAny_letGo (wY ?_))
  by_cases hb : bK kb < bK k
  ·rw [if_pos (by rw [hlx]; simp [hb])] at hd
   obtain ⟨c2,hc2⟩ : ∃ c2,(s2.heap.update S (Obj.mapSeq fun _=>#[u,ku])).get? S = some (seqObj "list" #[u,ku] c2):=⟨_,get?_update_seq pS4.1 fun _=>#[u,ku]⟩
   have u2:=Heap.SameBut.update s2.heap S (Obj.mapSeq fun _=>#[u,ku])
   simp only [hb,decide_true,if_true]
   refine wX ?_
   refine wpAny_updateSeq pS4.1 rfl (wX (wpAny_letGo ?_))
   rw [hname]
   exact wY ⟨plainId_quiet PySem.F.plain_max_loop _,ih (j + 1) _ H2 N2 u ku v kv d kd k c2 oI' (by omega) hlt (bY (t':=s2.toks) J4 S0 hSp' (fun b o n e=>(u2.2 b n).trans e) hc2 bt) ⟨oI',(u2.2 It hSI.symm).trans pI4.1,hoc,hod⟩ (x1.trans x2) ru (iv'.mono (x1.bn.trans x2.bn)) rk ik ekd hm hd⟩
  ·rw [if_neg (by rw [hlx]; simp [hb])] at hd
   simp only [hb,decide_false,Bool.false_eq_true,if_false]
   refine wX (wpAny_letGo ?_)
   rw [hname]
   exact wY ⟨plainId_quiet PySem.F.plain_max_loop _,ih (j + 1) _ H2 N2 ub kub vb kvb db kdb kb c oI' (by omega) hlt J4 hit2 (x1.trans x2) r1 (i1.mono x2.bn) r2 (i2.mono x2.bn) ekb mk hd⟩
end
@[simp] def mw (f : FE) (kf : Env->D->Option D) : FE:=fun ρ=>(f ρ).bind fun x=>match x.1 with
 | .lst ds=>(fF (kf ρ) ds).bind fun kds=>(cy kds).bind fun ks=>if dw ks = true then match ks.zip ds with
  | []=>none
  | y :: r=>some (iP y r,false)
  else none
 | _=>none
section
variable {X : Cx} {e ke : Expr} {p pos kp : Pos}
theorem vY {f : FE} {kf : Env->D->Option D} {k : Nat} (hm : X.mg "max" = none) (he : JE X e f) (hk : JK X X.A.in1 ke kf) (hr : Room k X.A) (hg : Gl X "max":=by rfl)
  (hes : starEach [e] X.env = [(false,eval e X.env)]:=by rfl) (heb : backTo pos (starEach [e] X.env) = (false,eval e X.env) :: backTo pos (starEach [] X.env):=by rfl) (hpl : (backTo pos (starEach [e] X.env)).any (·.1) = false:=by rfl)
  (hall : (backToKw pos (keywordEach [⟨some "key",ke,kp⟩] X.env)).all (·.1.isSome) = true:=by rfl) (hkw : (backToKw pos (keywordEach [⟨some "key",ke,kp⟩] X.env)).any (·.1.isNone) = false:=by rfl)
  (hnm : (backToKw pos (keywordEach [⟨some "key",ke,kp⟩] X.env)).filterMap (·.1) = [("key" : Str)]:=by rfl) :
  JE X (.Call (.Name "max" p) [e] [⟨some "key",ke,kp⟩] pos) (mw f kf):=by
 have hname : (toString "max" ++ toString ".loop" : String) = "max.loop":=by decide
 intro pins s σ H Q I h
 obtain ⟨B,ρ,d,b,sB,rep,ee,q⟩:=h
 obtain ⟨⟨xd,xb⟩,ex,ee⟩:=oX ee
 cases xd <;> try (cases ee; done)
 rename_i ds
 obtain ⟨kds,em,ee⟩:=oX ee
 obtain ⟨ks,ek,ee⟩:=oX ee
 split at ee
 ·rename_i hc
  split at ee
  ·cases ee
  ·rename_i y az ez
   cases ee
   refine wpAny_Call_Name_kw (iU I hg hm (u:=.builtin "max") rfl ?_)
   refine callWith_kw (thn ((eI he g8 hes) pos pins s σ H (fun vs H1=>∃ v N,vs = [v]/\Ext B N H H1/\Is X.K N v (.lst ds)) I ⟨B,ρ,_,_,sB,rep,ex,fun v H1 N x1 i1 _=>⟨v,N,rfl,x1,i1⟩⟩) fun us s1 hA=>?_) heb hpl hall hkw
   obtain ⟨vs1,H1,I1,r1,v,N,rfl,x1,i1⟩:=hA
   obtain ⟨u,rfl,ru⟩:=iJ r1
   refine kws_cons (hk pins s1 σ H1 N ρ _ _ I1 x1.nh (rep.mono x1.bn) fun qa H2 s2 I2 m2 kfn=>kws_nil ?_)
   rw [hnm]
   show wpAny _ _ (call (.builtin "max") [u] [(("key" : Str),.ref qa)]) _ _ _
   cases i1
   rename_i l vs hq il
   cases ru
   have sN : aJ N H2:=x1.nh.trans m2
   obtain ⟨its,rv,pl,hz⟩:=I2.list (sN.seq hq)
   have hvl : vs.length = its.length:=rv.length
   have hdl : ds.length = vs.length:=il.length.symm
   have hkd : kds.length = ds.length:=cA em
   have hks : ks.length = kds.length:=cH ek
   have hll : l < s2.heap.objs.size:=by
    obtain ⟨ol,hol,_⟩:=pl.isList
    exact Heap.lt_size hol
   -- the first item
   obtain ⟨k0,d0⟩:=y
   have hne : 0 < its.length:=by
    have:=congrArg List.length ez
    rw [List.length_zip,List.length_cons] at this
    omega
   have z0 : (ks.zip ds)[0]? = some (k0,d0):=by rw [ez]; rfl
   obtain ⟨hk0,hd0⟩:=List.getElem?_zip_eq_some.mp z0
   have hrest : (ks.zip ds).drop 1 = az:=by rw [ez]; rfl
   refine kmk_tree PySem.F.kind_max PySem.F.plain_max PySem.F.entry_max (qF _ _) ?_
   show wpAny _ X.A.in1 (Builtin.Builtins.bindParams "max" ["key","default"] 0 ⟨[],[(Str.ofString "key",.ref qa)]⟩ >>= _) _ _ s2
   refine wX (wpAny_of_eq (show Builtin.Builtins.bindParams "max" ["key","default"] 0 ⟨[],[(Str.ofString "key",.ref qa)]⟩ = pure [some (.ref qa),none] from rfl) ?_)
   refine wX (wY ?_)
   refine wX (wpAny_pyIter_list pl.isList ?_)
   refine wX (wpAny_newList ?_ (Nat.zero_le _))
   rw [hname]
   let It : Addr:=s2.heap.objs.size
   let oI : Obj:={ cls:=.type "list_iterator",data:=.fields #[.ref l,.int 0 0] }
   let S : Addr:=(s2.heap.push oI).objs.size
   have hS : S = s2.heap.objs.size + 1:=size_push' ..
   have hSI : S ≠ It:=by rw [hS]; exact Nat.ne_of_gt (Nat.lt_succ_self _)
   have J1 : Inv X ((It,oI) :: pins) σ H2 { s2 with heap:=s2.heap.push oI }:=iu (t':=s2.toks) I2 (fun b u q=>Heap.get?_push_of_some _ q) (Nat.le_refl _) (Heap.get?_push_size _ rfl) (fun v z=>by cases z)
   have J2 : Inv X ((S,seqObj "list" #[] 0) :: (It,oI) :: pins) σ H2 { s2 with heap:=(s2.heap.push oI).push (seqObj "list" #[] 0) }:=iu (s:={ s2 with heap:=s2.heap.push oI }) (t':=s2.toks) J1 (fun b u q=>Heap.get?_push_of_some _ q) (Nat.le_refl _) (Heap.get?_push_size _ rfl) bt
   have I0 : X.s₀.heap.objs.size<=It:=I2.sz
   have S0 : X.s₀.heap.objs.size<=S:=by rw [hS]; exact Nat.le_succ_of_le I2.sz
   have hIp : ∀ q ∈ X.pn ++ pins,q.1 ≠ It:=fun q hq=>Nat.ne_of_lt (Heap.lt_size (I2.pin q hq).1)
   have hSp : ∀ q ∈ X.pn ++ pins,q.1 ≠ S:=fun q hq=>by rw [hS]; exact Nat.ne_of_lt (Nat.lt_succ_of_lt (Heap.lt_size (I2.pin q hq).1))
   have hIl : l ≠ It:=Nat.ne_of_lt hll
   have hSl : S ≠ l:=by rw [hS]; exact Nat.ne_of_gt (Nat.lt_succ_of_lt hll)
   have hh : X.A.handled = none:=hr.hd
   have hu : X.A.in1.units < cLine:=by have:=hr.un; show X.A.units + 1 < cLine; omega
   have pS:=J2.pin (S,seqObj "list" #[] 0) (mY _ mX)
   have pI:=J2.pin (It,oI) (mY _ (mZ _ mX))
   obtain ⟨its2,rv2,pl2,_⟩:=J2.list (sN.seq hq)
   have hv2 : vs.length = its2.length:=rv2.length
   have W:=Walks.list (prog:=X.prog) (w:=X.w) (A:=X.A.in1) hh It l hIl its2.toArray
   have hsz : its2.toArray.size = its2.length:=List.size_toArray ..
   refine wY ⟨plainId_quiet PySem.F.plain_max_loop _, ?_⟩
   refine codeAny_builtin PySem.F.entry_max_loop ?_
   rw [Around.under_plainId PySem.F.plain_max_loop _]
   show wpAny _ X.A.in1 (seqItems? (.ref S) >>= _) _ _ { s2 with heap:=(s2.heap.push oI).push (seqObj "list" #[] 0) }
   refine wX (wpAny_seqItems pS.1 rfl ?_)
   show wpAny _ X.A.in1 (tryCatch (pyNext (.ref It)) _ >>= _) _ _ _
   refine wX (wpAny_tryCatch (W.item 0 _ _ _ (by rw [hsz]; omega) ⟨⟨oI,pI.1,rfl,rfl⟩,pl2.isList⟩ fun u h' tk' hP hst' hk'=>?_))
   have hu' : its2[0]? = some u:=by simpa using hP
   obtain ⟨v,hv,iv'⟩:=il.get hd0
   obtain ⟨kd,hkj,hkf⟩:=fG em hd0
   obtain ⟨u2,hu2,ru⟩:=rv2.get hv
   rw [hu'] at hu2; cases hu2
   have ekd : mv kd = some k0:=by
    have:=fE ek (i:=0) (by omega)
    rw [List.getD_eq_getElem?_getD,hkj,List.getD_eq_getElem?_getD,hk0] at this
    exact this
   obtain ⟨oI',hoI',hoc,hod⟩:=id hst'.1
   have swap : ∀ {o1 o2 : Obj} {H' : Hp} {s' : Shared} {a1 a2 : Addr},Inv X ((a1,o1) :: (a2,o2) :: pins) σ H' s'->Inv X ((a2,o2) :: (a1,o1) :: pins) σ H' s':=fun {o1 o2 H' s' a1 a2} J=>J.pins_of fun q hq=>J.pin q (by
    rcases List.mem_cons.mp hq with rfl | hq
    ·exact mY _ (mZ _ mX)
    ·rcases List.mem_cons.mp hq with rfl | hq
     ·exact mY _ mX
     ·exact mY _ (mZ _ (mZ _ hq)))
   have hIp' : ∀ q ∈ X.pn ++ ((S,seqObj "list" #[] 0) :: pins),q.1 ≠ It:=fun q hq=>by
    rcases List.mem_append.mp hq with hq | hq
    ·exact hIp q (List.mem_append_left _ hq)
    ·rcases List.mem_cons.mp hq with rfl | hq
     ·exact hSI
     ·exact hIp q (mY _ hq)
   have hSp' : ∀ q ∈ X.pn ++ ((It,oI') :: pins),q.1 ≠ S:=fun q hq=>by
    rcases List.mem_append.mp hq with hq | hq
    ·exact hSp q (List.mem_append_left _ hq)
    ·rcases List.mem_cons.mp hq with rfl | hq
     ·exact hSI.symm
     ·exact hSp q (mY _ hq)
   have J3:=swap (bY (t':=tk') (swap J2) I0 hIp' (fun b o n e=>hk' b o (by simpa using n) e) hoI' (fun v z=>by rw [hod] at z; cases z))
   show wpAny _ X.A.in1 (tryCatch (holding [u] (call (.ref qa) [u])) _ >>= _) _ _ _
   refine wX (wpAny_tryCatch (wpAny_holding (wpAny_mono (kfn _ _ H2 N v u d0 kd J3 (.refl _) (.refl _) sN iv' ru hkf) (fun ku s3 he=>?_) fun _ _ hF=>hF.elim)))
   obtain ⟨kv,H3,J4,rk,N3,x3,ik⟩:=he
   have pI4:=J4.pin (It,oI') (mY _ (mZ _ mX))
   have pS4:=J4.pin (S,seqObj "list" #[] 0) (mY _ mX)
   obtain ⟨c2,hc2⟩ : ∃ c2,(s3.heap.update S (Obj.mapSeq fun _=>#[u,ku])).get? S = some (seqObj "list" #[u,ku] c2):=⟨_,get?_update_seq pS4.1 fun _=>#[u,ku]⟩
   have u2:=Heap.SameBut.update s3.heap S (Obj.mapSeq fun _=>#[u,ku])
   show wpAny _ X.A.in1 (updateSeq S (fun _=>#[u,ku]) >>= _) _ _ _
   refine wX ?_
   refine wpAny_updateSeq pS4.1 rfl ?_
   rw [hname]
   have xx : Ext B N H H2:=x1.trans (.grow x1.nh m2)
   refine wY ⟨plainId_quiet PySem.F.plain_max_loop _,zc (S:=S) (It:=It) hh hu kfn ⟨qa,rfl⟩ hq il em ek hc S0 I0 hSp hIp hSI hSl hIl (fun s' H' N' v' u' J' x' r' i'=>⟨v',H',J',r',q _ _ _ (xx.trans x') i' (by simp)⟩) _ 1 _ H3 N3 u ku v kv d0 kd k0 c2 oI' rfl (by omega)
    (bY (t':=s3.toks) J4 S0 hSp' (fun b o n e=>(u2.2 b n).trans e) hc2 bt) ⟨oI',(u2.2 It hSI.symm).trans pI4.1,hoc,hod⟩ x3 ru (iv'.mono x3.bn) rk ik ekd (List.mem_of_getElem? hk0) (by rw [hrest])⟩
 ·cases ee
end
def gK : List At × D->List (List At × D)->D
 | b,[]=>b.2
 | b,x :: r=>if aZ x.1 b.1 = some true then gK x r else gK b r
theorem qG (a v : Value) : argsOk "min" ⟨[a],[(Str.ofString "key",v)]⟩:=by unfold argsOk; kernel_rfl
section
variable {X : Cx} {pins : List (Addr × Obj)} {σ : St}
theorem zd {qv : Value} {l S It : Addr} {vs : List V} {ds kds : List D} {ks : List (List At)} {B H1 : Hp} {kf : D->Option D} {d0 : D} {R : Result->Shared->Prop} (hh : X.A.handled = none) (hu : X.A.in1.units < cLine) (kfn : vW X X.A.in1 σ qv B H1 kf) (hqv : ∃ a,qv = .ref a) (hq : SqL X.K B l vs) (iv : IsL X.K B vs ds)
  (em : fF kf ds = some kds) (ek : cy kds = some ks) (hc : dw ks = true) (S0 : X.s₀.heap.objs.size<=S) (I0 : X.s₀.heap.objs.size<=It) (hSp : ∀ q ∈ X.pn ++ pins,q.1 ≠ S) (hIp : ∀ q ∈ X.pn ++ pins,q.1 ≠ It) (hSI : S ≠ It) (hSl : S ≠ l) (hIl : l ≠ It)
  (hR : ∀ (s' : Shared) (H' N : Hp) (v : V) (u : Value),Inv X pins σ H' s'->Ext B N H1 H'->aN v u->Is X.K N v d0->R (.ok (.ret u)) s') :
  ∀ (r j : Nat) (s : Shared) (H N : Hp) (ub kub : Value) (vb kvb : V) (db kdb : D) (kb : List At) (c : Nat) (oI : Obj),vs.length - j = r->j<=vs.length->Inv X ((S,seqObj "list" #[ub,kub] c) :: (It,oI) :: pins) σ H s->s.heap.IsListIter It l j->Ext B N H1 H ->
   aN vb ub->Is X.K N vb db->aN kvb kub->Is X.K N kvb kdb->mv kdb = some kb->kb ∈ ks->gK (kb,db) ((ks.zip ds).drop j) = d0 ->
   codeAny (model X.prog X.w) X.A (.builtin "min.loop" ⟨[.ref It,qv,.ref S],[]⟩) R s:=by
 have hname : (toString "min" ++ toString ".loop" : String) = "min.loop":=by decide
 obtain ⟨qa,rfl⟩:=hqv
 intro r
 induction r with
 | zero =>
  intro j s H N ub kub vb kvb db kdb kb c oI hr hj I hit x1 r1 i1 r2 i2 ekb mk hd
  have pS:=I.pin (S,seqObj "list" #[ub,kub] c) (mY _ mX)
  have sB : aJ B H:=x1.bn.trans x1.nh
  obtain ⟨its,rv,pl,_⟩:=I.list (sB.seq hq)
  have hl:=pl.isList
  have W:=Walks.list (prog:=X.prog) (w:=X.w) (A:=X.A.in1) hh It l hIl its.toArray
  have hsz : its.toArray.size = its.length:=List.size_toArray ..
  have hvl : vs.length = its.length:=rv.length
  have hdl : ds.length = its.length:=by rw [← iv.length]; exact rv.length
  have hkl : ks.length = ds.length:=by rw [cH ek,cA em]
  have hd' : db = d0:=by
   rw [List.drop_of_length_le (by rw [List.length_zip]; omega)] at hd
   exact hd
  subst hd'
  refine codeAny_builtin PySem.F.entry_min_loop ?_
  rw [Around.under_plainId PySem.F.plain_min_loop _]
  show wpAny _ X.A.in1 (seqItems? (.ref S) >>= _) _ _ _
  refine wX (wpAny_seqItems pS.1 rfl ?_)
  show wpAny _ X.A.in1 (tryCatch (pyNext (.ref It)) _ >>= _) _ _ _
  refine wX (wpAny_tryCatch (W.done _ _ _ ⟨by rw [hsz,show its.length = j by omega]; exact hit,hl⟩ fun h' tk' hk'=>?_))
  have J1 : Inv X ((It,oI) :: (S,seqObj "list" #[ub,kub] c) :: pins) σ H s:=I.pins_of fun q hq=>I.pin q (by
   rcases List.mem_cons.mp hq with rfl | hq
   ·exact mY _ (mZ _ mX)
   ·rcases List.mem_cons.mp hq with rfl | hq
    ·exact mY _ mX
    ·exact mY _ (mZ _ (mZ _ hq)))
  have hIp' : ∀ q ∈ X.pn ++ ((S,seqObj "list" #[ub,kub] c) :: pins),q.1 ≠ It:=fun q hq=>by
   rcases List.mem_append.mp hq with hq | hq
   ·exact hIp q (List.mem_append_left _ hq)
   ·rcases List.mem_cons.mp hq with rfl | hq
    ·exact hSI
    ·exact hIp q (mY _ hq)
  have J2 : Inv X ((S,seqObj "list" #[ub,kub] c) :: pins) σ H { s with heap:=h',toks:=tk' } :=
   (dZ J1).turned (t':=tk') (fun b o n e=>hk' b o (by simpa using n) e) (J1.pin (It,oI) (mY _ mX)).2.1 (J1.pin (It,oI) (mY _ mX)).2.2.1 (.inr I0) (ir J1) hIp'
  have pS2:=J2.pin (S,seqObj "list" #[ub,kub] c) (mY _ mX)
  obtain ⟨c2,hc2⟩ : ∃ c2,(h'.update S (Obj.mapSeq fun _=>(#[] : Array Value))).get? S = some (seqObj "list" #[] c2):=⟨_,get?_update_seq pS2.1 fun _=>#[]⟩
  have u2:=Heap.SameBut.update h' S (Obj.mapSeq fun _=>(#[] : Array Value))
  show wpAny _ X.A.in1 (updateSeq S (fun _=>#[]) >>= _) _ _ _
  refine wX ?_
  refine wpAny_updateSeq pS2.1 rfl (wX (wpAny_letGo (wY ?_)))
  exact hR _ H N vb ub (dZ (bY (t':=tk') J2 S0 hSp (fun b o n e=>(u2.2 b n).trans e) hc2 bt)) x1 r1 i1
 | succ r ih =>
  intro j s H N ub kub vb kvb db kdb kb c oI hr hj I hit x1 r1 i1 r2 i2 ekb mk hd
  have hlt : j < vs.length:=by omega
  have pS:=I.pin (S,seqObj "list" #[ub,kub] c) (mY _ mX)
  have sB : aJ B H:=x1.bn.trans x1.nh
  obtain ⟨its,rv,pl,_⟩:=I.list (sB.seq hq)
  have hl:=pl.isList
  have W:=Walks.list (prog:=X.prog) (w:=X.w) (A:=X.A.in1) hh It l hIl its.toArray
  have hsz : its.toArray.size = its.length:=List.size_toArray ..
  have hvl : vs.length = its.length:=rv.length
  have hdl : ds.length = its.length:=by rw [← iv.length]; exact rv.length
  have hkl : ks.length = ds.length:=by rw [cH ek,cA em]
  refine codeAny_builtin PySem.F.entry_min_loop ?_
  rw [Around.under_plainId PySem.F.plain_min_loop _]
  show wpAny _ X.A.in1 (seqItems? (.ref S) >>= _) _ _ _
  refine wX (wpAny_seqItems pS.1 rfl ?_)
  show wpAny _ X.A.in1 (tryCatch (pyNext (.ref It)) _ >>= _) _ _ _
  refine wX (wpAny_tryCatch (W.item j _ _ _ (by rw [hsz]; omega) ⟨hit,hl⟩ fun u h' tk' hP hst' hk'=>?_))
  have hu' : its[j]? = some u:=by simpa using hP
  obtain ⟨d,hdj⟩ : ∃ d,ds[j]? = some d:=⟨_,List.getElem?_eq_getElem (by omega)⟩
  obtain ⟨v,hv,iv'⟩:=iv.get hdj
  obtain ⟨kd,hkj,hkf⟩:=fG em hdj
  obtain ⟨u2,hu2,ru⟩:=rv.get hv
  rw [hu'] at hu2; cases hu2
  obtain ⟨k,hk1⟩ : ∃ k,ks[j]? = some k:=⟨_,List.getElem?_eq_getElem (by omega)⟩
  have ekd : mv kd = some k:=by
   have:=fE ek (i:=j) (by rw [cA em]; omega)
   rw [List.getD_eq_getElem?_getD,hkj,List.getD_eq_getElem?_getD,hk1] at this
   exact this
  have hm : k ∈ ks:=List.mem_of_getElem? hk1
  obtain ⟨oI',hoI',hoc,hod⟩:=id hst'.1
  have J1 : Inv X ((It,oI) :: (S,seqObj "list" #[ub,kub] c) :: pins) σ H s:=I.pins_of fun q hq=>I.pin q (by
   rcases List.mem_cons.mp hq with rfl | hq
   ·exact mY _ (mZ _ mX)
   ·rcases List.mem_cons.mp hq with rfl | hq
    ·exact mY _ mX
    ·exact mY _ (mZ _ (mZ _ hq)))
  have hIp' : ∀ q ∈ X.pn ++ ((S,seqObj "list" #[ub,kub] c) :: pins),q.1 ≠ It:=fun q hq=>by
   rcases List.mem_append.mp hq with hq | hq
   ·exact hIp q (List.mem_append_left _ hq)
   ·rcases List.mem_cons.mp hq with rfl | hq
    ·exact hSI
    ·exact hIp q (mY _ hq)
  have hSp' : ∀ q ∈ X.pn ++ ((It,oI') :: pins),q.1 ≠ S:=fun q hq=>by
   rcases List.mem_append.mp hq with hq | hq
   ·exact hSp q (List.mem_append_left _ hq)
   ·rcases List.mem_cons.mp hq with rfl | hq
    ·exact hSI.symm
    ·exact hSp q (mY _ hq)
  have J2 : Inv X ((It,oI') :: (S,seqObj "list" #[ub,kub] c) :: pins) σ H { s with heap:=h',toks:=tk' } :=
   bY (t':=tk') J1 I0 hIp' (fun b o n e=>hk' b o (by simpa using n) e) hoI' (fun v z=>by rw [hod] at z; cases z)
  have J3 : Inv X ((S,seqObj "list" #[ub,kub] c) :: (It,oI') :: pins) σ H { s with heap:=h',toks:=tk' }:=J2.pins_of fun q hq=>J2.pin q (by
   rcases List.mem_cons.mp hq with rfl | hq
   ·exact mY _ (mZ _ mX)
   ·rcases List.mem_cons.mp hq with rfl | hq
    ·exact mY _ mX
    ·exact mY _ (mZ _ (mZ _ hq)))
  show wpAny _ X.A.in1 (tryCatch (holding [u] (call (.ref qa) [u])) _ >>= _) _ _ _
  refine wX (wpAny_tryCatch (wpAny_holding (wpAny_mono (kfn _ _ H N v u d kd J3 x1.hh x1.bn x1.nh (iv'.mono x1.bn) ru hkf) (fun ku s2 he=>?_) fun _ _ hF=>hF.elim)))
  obtain ⟨kv,H2,J4,rk,N2,x2,ik⟩:=he
  have pI4:=J4.pin (It,oI') (mY _ (mZ _ mX))
  have pS4:=J4.pin (S,seqObj "list" #[ub,kub] c) (mY _ mX)
  have hit2 : s2.heap.IsListIter It l (j + 1):=⟨oI',pI4.1,hoc,hod⟩
  have t1:=lG J4 rk (ik.mono x2.nh) ekd
  have t2:=lG J4 r2 (i2.mono (x2.bn.trans x2.nh)) ekb
  have hz : (ks.zip ds).drop j = (k,d) :: (ks.zip ds).drop (j + 1):=by
   have hj' : j < (ks.zip ds).length:=by rw [List.length_zip]; omega
   rw [List.drop_eq_getElem_cons hj']
   have : (ks.zip ds)[j]? = some (k,d):=List.getElem?_zip_eq_some.mpr ⟨hk1,hdj⟩
   rw [List.getElem?_eq_getElem hj'] at this
   rw [Option.some.inj this]
  rw [hz,gK] at hd
  have hlx:=fD hc hm mk
  show wpAny _ X.A.in1 (tryCatch (holding [u,ku] (richCompare .Lt ku kub >>= _)) _ >>= _) _ _ _
  refine wX (wpAny_tryCatch (wpAny_holding (wX (Et t1 t2 hlx hu ?_))))
  refine wX (wpAny_holding (wpAny_truthy_bool ?_))
  refine wX (wpAny_letGo (wY ?_))
  by_cases hb : bK k < bK kb
  ·rw [if_pos (by rw [hlx]; simp [hb])] at hd
   obtain ⟨c2,hc2⟩ : ∃ c2,(s2.heap.update S (Obj.mapSeq fun _=>#[u,ku])).get? S = some (seqObj "list" #[u,ku] c2):=⟨_,get?_update_seq pS4.1 fun _=>#[u,ku]⟩
   have u2:=Heap.SameBut.update s2.heap S (Obj.mapSeq fun _=>#[u,ku])
   simp only [hb,decide_true,if_true]
   refine wX ?_
   refine wpAny_updateSeq pS4.1 rfl (wX (wpAny_letGo ?_))
   rw [hname]
   exact wY ⟨plainId_quiet PySem.F.plain_min_loop _,ih (j + 1) _ H2 N2 u ku v kv d kd k c2 oI' (by omega) hlt (bY (t':=s2.toks) J4 S0 hSp' (fun b o n e=>(u2.2 b n).trans e) hc2 bt) ⟨oI',(u2.2 It hSI.symm).trans pI4.1,hoc,hod⟩ (x1.trans x2) ru (iv'.mono (x1.bn.trans x2.bn)) rk ik ekd hm hd⟩
  ·rw [if_neg (by rw [hlx]; simp [hb])] at hd
   simp only [hb,decide_false,Bool.false_eq_true,if_false]
   refine wX (wpAny_letGo ?_)
   rw [hname]
   exact wY ⟨plainId_quiet PySem.F.plain_min_loop _,ih (j + 1) _ H2 N2 ub kub vb kvb db kdb kb c oI' (by omega) hlt J4 hit2 (x1.trans x2) r1 (i1.mono x2.bn) r2 (i2.mono x2.bn) ekb mk hd⟩
end
@[simp] def mz (f : FE) (kf : Env->D->Option D) : FE:=fun ρ=>(f ρ).bind fun x=>match x.1 with
 | .lst ds=>(fF (kf ρ) ds).bind fun kds=>(cy kds).bind fun ks=>if dw ks = true then match ks.zip ds with
  | []=>none
  | y :: r=>some (gK y r,false)
  else none
 | _=>none
section
variable {X : Cx} {e ke : Expr} {p pos kp : Pos}
theorem qH {f : FE} {kf : Env->D->Option D} {k : Nat} (hm : X.mg "min" = none) (he : JE X e f) (hk : JK X X.A.in1 ke kf) (hr : Room k X.A) (hg : Gl X "min":=by rfl)
  (hes : starEach [e] X.env = [(false,eval e X.env)]:=by rfl) (heb : backTo pos (starEach [e] X.env) = (false,eval e X.env) :: backTo pos (starEach [] X.env):=by rfl) (hpl : (backTo pos (starEach [e] X.env)).any (·.1) = false:=by rfl)
  (hall : (backToKw pos (keywordEach [⟨some "key",ke,kp⟩] X.env)).all (·.1.isSome) = true:=by rfl) (hkw : (backToKw pos (keywordEach [⟨some "key",ke,kp⟩] X.env)).any (·.1.isNone) = false:=by rfl)
  (hnm : (backToKw pos (keywordEach [⟨some "key",ke,kp⟩] X.env)).filterMap (·.1) = [("key" : Str)]:=by rfl) :
  JE X (.Call (.Name "min" p) [e] [⟨some "key",ke,kp⟩] pos) (mz f kf):=by
 have hname : (toString "min" ++ toString ".loop" : String) = "min.loop":=by decide
 intro pins s σ H Q I h
 obtain ⟨B,ρ,d,b,sB,rep,ee,q⟩:=h
 obtain ⟨⟨xd,xb⟩,ex,ee⟩:=oX ee
 cases xd <;> try (cases ee; done)
 rename_i ds
 obtain ⟨kds,em,ee⟩:=oX ee
 obtain ⟨ks,ek,ee⟩:=oX ee
 split at ee
 ·rename_i hc
  split at ee
  ·cases ee
  ·rename_i y az ez
   cases ee
   refine wpAny_Call_Name_kw (iU I hg hm (u:=.builtin "min") rfl ?_)
   refine callWith_kw (thn ((eI he g8 hes) pos pins s σ H (fun vs H1=>∃ v N,vs = [v]/\Ext B N H H1/\Is X.K N v (.lst ds)) I ⟨B,ρ,_,_,sB,rep,ex,fun v H1 N x1 i1 _=>⟨v,N,rfl,x1,i1⟩⟩) fun us s1 hA=>?_) heb hpl hall hkw
   obtain ⟨vs1,H1,I1,r1,v,N,rfl,x1,i1⟩:=hA
   obtain ⟨u,rfl,ru⟩:=iJ r1
   refine kws_cons (hk pins s1 σ H1 N ρ _ _ I1 x1.nh (rep.mono x1.bn) fun qa H2 s2 I2 m2 kfn=>kws_nil ?_)
   rw [hnm]
   show wpAny _ _ (call (.builtin "min") [u] [(("key" : Str),.ref qa)]) _ _ _
   cases i1
   rename_i l vs hq il
   cases ru
   have sN : aJ N H2:=x1.nh.trans m2
   obtain ⟨its,rv,pl,hz⟩:=I2.list (sN.seq hq)
   have hvl : vs.length = its.length:=rv.length
   have hdl : ds.length = vs.length:=il.length.symm
   have hkd : kds.length = ds.length:=cA em
   have hks : ks.length = kds.length:=cH ek
   have hll : l < s2.heap.objs.size:=by
    obtain ⟨ol,hol,_⟩:=pl.isList
    exact Heap.lt_size hol
   -- the first item
   obtain ⟨k0,d0⟩:=y
   have hne : 0 < its.length:=by
    have:=congrArg List.length ez
    rw [List.length_zip,List.length_cons] at this
    omega
   have z0 : (ks.zip ds)[0]? = some (k0,d0):=by rw [ez]; rfl
   obtain ⟨hk0,hd0⟩:=List.getElem?_zip_eq_some.mp z0
   have hrest : (ks.zip ds).drop 1 = az:=by rw [ez]; rfl
   refine kmk_tree PySem.F.kind_min PySem.F.plain_min PySem.F.entry_min (qG _ _) ?_
   show wpAny _ X.A.in1 (Builtin.Builtins.bindParams "min" ["key","default"] 0 ⟨[],[(Str.ofString "key",.ref qa)]⟩ >>= _) _ _ s2
   refine wX (wpAny_of_eq (show Builtin.Builtins.bindParams "min" ["key","default"] 0 ⟨[],[(Str.ofString "key",.ref qa)]⟩ = pure [some (.ref qa),none] from rfl) ?_)
   refine wX (wY ?_)
   refine wX (wpAny_pyIter_list pl.isList ?_)
   refine wX (wpAny_newList ?_ (Nat.zero_le _))
   rw [hname]
   let It : Addr:=s2.heap.objs.size
   let oI : Obj:={ cls:=.type "list_iterator",data:=.fields #[.ref l,.int 0 0] }
   let S : Addr:=(s2.heap.push oI).objs.size
   have hS : S = s2.heap.objs.size + 1:=size_push' ..
   have hSI : S ≠ It:=by rw [hS]; exact Nat.ne_of_gt (Nat.lt_succ_self _)
   have J1 : Inv X ((It,oI) :: pins) σ H2 { s2 with heap:=s2.heap.push oI }:=iu (t':=s2.toks) I2 (fun b u q=>Heap.get?_push_of_some _ q) (Nat.le_refl _) (Heap.get?_push_size _ rfl) (fun v z=>by cases z)
   have J2 : Inv X ((S,seqObj "list" #[] 0) :: (It,oI) :: pins) σ H2 { s2 with heap:=(s2.heap.push oI).push (seqObj "list" #[] 0) }:=iu (s:={ s2 with heap:=s2.heap.push oI }) (t':=s2.toks) J1 (fun b u q=>Heap.get?_push_of_some _ q) (Nat.le_refl _) (Heap.get?_push_size _ rfl) bt
   have I0 : X.s₀.heap.objs.size<=It:=I2.sz
   have S0 : X.s₀.heap.objs.size<=S:=by rw [hS]; exact Nat.le_succ_of_le I2.sz
   have hIp : ∀ q ∈ X.pn ++ pins,q.1 ≠ It:=fun q hq=>Nat.ne_of_lt (Heap.lt_size (I2.pin q hq).1)
   have hSp : ∀ q ∈ X.pn ++ pins,q.1 ≠ S:=fun q hq=>by rw [hS]; exact Nat.ne_of_lt (Nat.lt_succ_of_lt (Heap.lt_size (I2.pin q hq).1))
   have hIl : l ≠ It:=Nat.ne_of_lt hll
   have hSl : S ≠ l:=by rw [hS]; exact Nat.ne_of_gt (Nat.lt_succ_of_lt hll)
   have hh : X.A.handled = none:=hr.hd
   have hu : X.A.in1.units < cLine:=by have:=hr.un; show X.A.units + 1 < cLine; omega
   have pS:=J2.pin (S,seqObj "list" #[] 0) (mY _ mX)
   have pI:=J2.pin (It,oI) (mY _ (mZ _ mX))
   obtain ⟨its2,rv2,pl2,_⟩:=J2.list (sN.seq hq)
   have hv2 : vs.length = its2.length:=rv2.length
   have W:=Walks.list (prog:=X.prog) (w:=X.w) (A:=X.A.in1) hh It l hIl its2.toArray
   have hsz : its2.toArray.size = its2.length:=List.size_toArray ..
   refine wY ⟨plainId_quiet PySem.F.plain_min_loop _, ?_⟩
   refine codeAny_builtin PySem.F.entry_min_loop ?_
   rw [Around.under_plainId PySem.F.plain_min_loop _]
   show wpAny _ X.A.in1 (seqItems? (.ref S) >>= _) _ _ { s2 with heap:=(s2.heap.push oI).push (seqObj "list" #[] 0) }
   refine wX (wpAny_seqItems pS.1 rfl ?_)
   show wpAny _ X.A.in1 (tryCatch (pyNext (.ref It)) _ >>= _) _ _ _
   refine wX (wpAny_tryCatch (W.item 0 _ _ _ (by rw [hsz]; omega) ⟨⟨oI,pI.1,rfl,rfl⟩,pl2.isList⟩ fun u h' tk' hP hst' hk'=>?_))
   have hu' : its2[0]? = some u:=by simpa using hP
   obtain ⟨v,hv,iv'⟩:=il.get hd0
   obtain ⟨kd,hkj,hkf⟩:=fG em hd0
   obtain ⟨u2,hu2,ru⟩:=rv2.get hv
   rw [hu'] at hu2; cases hu2
   have ekd : mv kd = some k0:=by
    have:=fE ek (i:=0) (by omega)
    rw [List.getD_eq_getElem?_getD,hkj,List.getD_eq_getElem?_getD,hk0] at this
    exact this
   obtain ⟨oI',hoI',hoc,hod⟩:=id hst'.1
   have swap : ∀ {o1 o2 : Obj} {H' : Hp} {s' : Shared} {a1 a2 : Addr},Inv X ((a1,o1) :: (a2,o2) :: pins) σ H' s'->Inv X ((a2,o2) :: (a1,o1) :: pins) σ H' s':=fun {o1 o2 H' s' a1 a2} J=>J.pins_of fun q hq=>J.pin q (by
    rcases List.mem_cons.mp hq with rfl | hq
    ·exact mY _ (mZ _ mX)
    ·rcases List.mem_cons.mp hq with rfl | hq
     ·exact mY _ mX
     ·exact mY _ (mZ _ (mZ _ hq)))
   have hIp' : ∀ q ∈ X.pn ++ ((S,seqObj "list" #[] 0) :: pins),q.1 ≠ It:=fun q hq=>by
    rcases List.mem_append.mp hq with hq | hq
    ·exact hIp q (List.mem_append_left _ hq)
    ·rcases List.mem_cons.mp hq with rfl | hq
     ·exact hSI
     ·exact hIp q (mY _ hq)
   have hSp' : ∀ q ∈ X.pn ++ ((It,oI') :: pins),q.1 ≠ S:=fun q hq=>by
    rcases List.mem_append.mp hq with hq | hq
    ·exact hSp q (List.mem_append_left _ hq)
    ·rcases List.mem_cons.mp hq with rfl | hq
     ·exact hSI.symm
     ·exact hSp q (mY _ hq)
   have J3:=swap (bY (t':=tk') (swap J2) I0 hIp' (fun b o n e=>hk' b o (by simpa using n) e) hoI' (fun v z=>by rw [hod] at z; cases z))
   show wpAny _ X.A.in1 (tryCatch (holding [u] (call (.ref qa) [u])) _ >>= _) _ _ _
   refine wX (wpAny_tryCatch (wpAny_holding (wpAny_mono (kfn _ _ H2 N v u d0 kd J3 (.refl _) (.refl _) sN iv' ru hkf) (fun ku s3 he=>?_) fun _ _ hF=>hF.elim)))
   obtain ⟨kv,H3,J4,rk,N3,x3,ik⟩:=he
   have pI4:=J4.pin (It,oI') (mY _ (mZ _ mX))
   have pS4:=J4.pin (S,seqObj "list" #[] 0) (mY _ mX)
   obtain ⟨c2,hc2⟩ : ∃ c2,(s3.heap.update S (Obj.mapSeq fun _=>#[u,ku])).get? S = some (seqObj "list" #[u,ku] c2):=⟨_,get?_update_seq pS4.1 fun _=>#[u,ku]⟩
   have u2:=Heap.SameBut.update s3.heap S (Obj.mapSeq fun _=>#[u,ku])
   show wpAny _ X.A.in1 (updateSeq S (fun _=>#[u,ku]) >>= _) _ _ _
   refine wX ?_
   refine wpAny_updateSeq pS4.1 rfl ?_
   rw [hname]
   have xx : Ext B N H H2:=x1.trans (.grow x1.nh m2)
   refine wY ⟨plainId_quiet PySem.F.plain_min_loop _,zd (S:=S) (It:=It) hh hu kfn ⟨qa,rfl⟩ hq il em ek hc S0 I0 hSp hIp hSI hSl hIl (fun s' H' N' v' u' J' x' r' i'=>⟨v',H',J',r',q _ _ _ (xx.trans x') i' (by simp)⟩) _ 1 _ H3 N3 u ku v kv d0 kd k0 c2 oI' rfl (by omega)
    (bY (t':=s3.toks) J4 S0 hSp' (fun b o n e=>(u2.2 b n).trans e) hc2 bt) ⟨oI',(u2.2 It hSI.symm).trans pI4.1,hoc,hod⟩ x3 ru (iv'.mono x3.bn) rk ik ekd (List.mem_of_getElem? hk0) (by rw [hrest])⟩
 ·cases ee
end
section
variable {X : Cx}
@[simp] def tLt : D->D->Option (D × Bool)
 | .tup xs,.tup ys=>(dY xs).bind fun as=>(dY ys).bind fun bs=>(aZ as bs).map fun r=>(.bl r,false)
 | _,_=>none
@[simp] def tGt : D->D->Option (D × Bool)
 | .tup xs,.tup ys=>(dY xs).bind fun as=>(dY ys).bind fun bs=>(aZ bs as).map fun r=>(.bl r,false)
 | _,_=>none
end
section
variable {X : Cx} {a b : Expr} {p pos : Pos}
@[simp] def E6 (f g : FE) : FA:=fun ρ=>(f ρ).bind fun x=>(g ρ).bind fun y=>match x.1,y.1 with
 | .int i,.int j=>if -1000<=i/\i<=1000/\-1000<=j/\j<=1000 then some (dM i (j - i).toNat) else none
 | _,_=>none
end
@[simp] def Fo : List D->Option (D × Bool)
 | [.tup xs,.tup ys]=>(dY xs).bind fun as=>(dY ys).bind fun bs=>(aZ as bs).map fun r=>(if r = true then .tup ys else .tup xs,false)
 | _=>none
end DL
namespace DL
open PySem PySem.Spec PyProof.Rows L2
section
variable {X : Cx}
@[simp] def Fp : D->D->Option (D × Bool)
 | .tup xs,.tup ys=>if xs.length + ys.length<=sizeLine then some (.tup (xs ++ ys),false) else none
 | _,_=>none
end
section
variable {X : Cx}
@[simp] def E7 : List D->Option (D × Bool)
 | [d,.tup [.ty n,.ty m]]=>if Ei d = true then none else if n = "list"/\m = "tuple" then some (.bl (CF d == "list" || CF d == "tuple"),false) else none
 | _=>none
end
@[simp] def jC : D->Option Key
 | .int i=>some (.inl i)
 | .str x=>some (.inr x)
 | _=>none
theorem ze {K : PySem.W.Frag} {B : Hp} {v : V} {d : D} {k : Key} (i : Is K B v d) (e : jC d = some k) : v = kV k:=by
 cases i <;> simp only [jC] at e <;> cases e <;> rfl
def cb {κ : Type} [DecidableEq κ] : List κ->List D->κ->Option D
 | k' :: ks,d :: ds,k=>if k' = k then some d else cb ks ds k
 | _,_,_=>none
theorem uN {κ : Type} [DecidableEq κ] {K : PySem.W.Frag} {B : Hp} (k : κ) : ∀ {ks : List κ} {vs : List V} {ds : List D},ks.length = vs.length->IsL K B vs ds ->
  (∃ v d,iG (ks.zip vs) k = some v/\cb ks ds k = some d/\Is K B v d) ∨ (iG (ks.zip vs) k = none/\cb ks ds k = none)
 | [],vs,ds,_,_=>.inr ⟨by cases vs <;> rfl,by cases ds <;> rfl⟩
 | k' :: ks,[],_,h,_=>by simp at h
 | k' :: ks,v :: vs,_,h,.cons i is=>by
  rw [List.zip_cons_cons]
  unfold cb
  by_cases e : k' = k
  ·rw [if_pos e]
   exact .inl ⟨v,_,jv (p:=(k',v)) e,rfl,i⟩
  ·rw [if_neg e,jw (p:=(k',v)) e]
   exact uN k (by simpa using h) is
section
variable {X : Cx} {o e i : Expr} {pos : Pos}
@[simp] def uO : D->D->Option (D × Bool)
 | .dk ks vs,y=>(jC y).map fun k=>((cb ks vs k).getD .non,false)
 | _,_=>none
theorem sS {apos cpos : Pos} {fo fe : FE} (hu : X.A.units + 1 < cLine) (ho : JE X o fo) (he : JE X e fe) (m : M1 X o "get" apos e cpos) : JE X (.Call (.Attribute o "get" apos) [e] [] cpos) (f2 uO fo fe):=by
 refine PE.to (rN hu ho he m) fun σ H Q q=>?_
 obtain ⟨B,ρ,d,bb,sB,r,ee,q⟩:=q
 obtain ⟨x,ex,ee⟩:=oX ee
 obtain ⟨y,ey,ee⟩:=oX ee
 refine ⟨B,ρ,x.1,x.2,sB,r,ex,fun v H1 N1 x1 i1 ff=>?_⟩
 obtain ⟨xd,xb⟩:=x
 cases i1 with
 | @dk a ks vs ds h hl hs =>
  simp only [uO] at ee
  obtain ⟨k,hk,ee⟩:=oY ee
  cases ee
  refine ⟨a,rfl,.inl ⟨_,.inl (x1.nh _ _ h)⟩,N1,ρ,y.1,y.2,x1.nh,r.mono x1.bn,ey,fun v2 H2 N2 x2 i2 _=>?_⟩
  have hv:=ze i2 hk
  subst hv
  refine ⟨iG (ks.zip vs) k,.inl ⟨_,k,.inl (x2.nh _ _ (x2.bn _ _ h)),rfl,rfl⟩, ?_⟩
  have hs2:=hs.mono x2.bn
  rcases uN k hl hs2 with ⟨v,d',e1,e2,i3⟩ | ⟨e1,e2⟩
  ·rw [e1]
   rw [e2] at q
   exact (q.into (x1.trans x2)).one x2.nh i3
  ·rw [e1]
   rw [e2] at q
   exact (q.into (x1.trans x2)).one x2.nh .non
 | _=>simp [uO] at ee
@[simp] def ixK : D->D->Option (D × Bool)
 | .dk ks vs,y=>(jC y).bind fun k=>(cb ks vs k).map fun d=>(d,false)
 | _,_=>none
@[simp] def inK : D->D->Option (D × Bool)
 | y,.dk ks vs=>(jC y).map fun k=>(.bl (cb ks vs k).isSome,false)
 | _,_=>none
@[simp] def EZ : D->D->Option (D × Bool)
 | y,.dk ks vs=>(jC y).map fun k=>(.bl (!(cb ks vs k).isSome),false)
 | _,_=>none
end
def di {κ : Type} [DecidableEq κ] (ks : List κ) (k : κ) : List κ:=if k ∈ ks then ks else ks ++ [k]
def dI {κ α : Type} [DecidableEq κ] (ks : List κ) (xs : List α) (k : κ) (x : α) : List α:=if k ∈ ks then List.zipWith (fun k' x'=>if k' = k then x else x') ks xs else xs ++ [x]
theorem vZ {κ : Type} [DecidableEq κ] (k : κ) : ∀ {ks : List κ} {vs : List V},ks.length = vs.length->((ks.zip vs).any fun kv=>decide (kv.1 = k)) = decide (k ∈ ks)
 | [],_,_=>by simp
 | k' :: ks,[],h=>by simp at h
 | k' :: ks,v :: vs,h=>by
  have ih:=vZ k (ks:=ks) (vs:=vs) (by simpa using h)
  rw [List.zip_cons_cons,List.any_cons,ih]
  by_cases e : k' = k
  ·simp [e]
  ·have e' : ¬ k = k':=fun z=>e z.symm
   simp [e,e']
theorem wa {κ : Type} [DecidableEq κ] (k : κ) (v : V) : ∀ (ks : List κ) (vs : List V),(ks.zip vs).map (fun kv=>if kv.1 = k then (kv.1,v) else kv) = ks.zip (List.zipWith (fun k' x'=>if k' = k then v else x') ks vs)
 | [],_=>by simp
 | _ :: _,[]=>by simp
 | k' :: ks,w :: vs=>by
  rw [List.zip_cons_cons,List.map_cons,wa k v ks vs,List.zipWith_cons_cons,List.zip_cons_cons]
  by_cases e : k' = k
  ·simp [e]
  ·simp [e]
theorem wb {κ : Type} [DecidableEq κ] {ks : List κ} {vs : List V} (hl : ks.length = vs.length) (k : κ) (v : V) : iH (ks.zip vs) k v = (di ks k).zip (dI ks vs k v):=by
 unfold iH di dI
 rw [vZ k hl]
 by_cases h : k ∈ ks
 ·rw [if_pos (decide_eq_true h),if_pos h,if_pos h,wa]
 ·rw [if_neg (by simpa using h),if_neg h,if_neg h,List.zip_append hl]
  rfl
theorem qI {κ α : Type} [DecidableEq κ] {ks : List κ} {xs : List α} (hl : ks.length = xs.length) (k : κ) (x : α) : (di ks k).length = (dI ks xs k x).length:=by
 unfold di dI
 split <;> simp [hl]
theorem IsL.zipWith {κ : Type} [DecidableEq κ] {K : PySem.W.Frag} {B : Hp} {k : κ} {v : V} {d : D} (i : Is K B v d) : ∀ {ks : List κ} {vs : List V} {ds : List D},IsL K B vs ds->IsL K B (List.zipWith (fun k' x'=>if k' = k then v else x') ks vs) (List.zipWith (fun k' x'=>if k' = k then d else x') ks ds)
 | [],_,_,_=>by simpa using IsL.nil
 | _ :: _,_,_,.nil=>by simpa using IsL.nil
 | k' :: ks,_,_,.cons h t=>by
  rw [List.zipWith_cons_cons,List.zipWith_cons_cons]
  refine .cons ?_ (IsL.zipWith i t)
  by_cases e : k' = k
  ·rw [if_pos e,if_pos e]; exact i
  ·rw [if_neg e,if_neg e]; exact h
theorem IsL.put {κ : Type} [DecidableEq κ] {K : PySem.W.Frag} {B : Hp} {k : κ} {v : V} {d : D} (i : Is K B v d) {ks : List κ} {vs : List V} {ds : List D} (h : IsL K B vs ds) : IsL K B (dI ks vs k v) (dI ks ds k d):=by
 unfold dI
 split
 ·exact h.zipWith i
 ·exact h.append (.cons i .nil)
section
variable {K : PySem.W.Frag} {E : Ends} {σ : St} {H : Hp}
def zf (i : Nat) : FS:=fun ρ=>some (.nx (ρ.set i (some (.dt [] [],true))))
theorem StN.newBox {B0 H0 N : Hp} {ρ : Env} (s : StN K B0 H0 N H σ ρ) {p : Addr} {ob : HO} {dd : D} (i : Nat) (hp : H p = none) (hb : ∀ C,Bx K C ob dd) : StN K B0 H0 (upd N p ob) (upd H p ob) (σ.set i (some (.ref p))) (ρ.set i (some (dd,true))):=by
 have x:=Ext.laid (o:=ob) s.ext.nh hp
 have s1:=s.grow x
 have hNp : N p = none:=s.ext.nh.free hp
 have hop : ¬ own σ ρ p:=fun z=>by obtain ⟨ws,⟨q,_⟩,_⟩:=s.owned z; rw [hNp] at q; cases q
 have c : aJ (cut N (own σ ρ)) (cut (upd N p ob) (fun b=>own σ ρ b ∨ b = p)):=cZ fun b u e q=>⟨x.bn _ _ e,fun z=>z.elim q fun z=>by subst z; rw [hNp] at e; cases e⟩
 refine s1.bindOwn a8 (s.ext.hh.free hp) (fun j e q z=>hop ⟨j,e,q,z⟩) (fun j e _ q=>?_) (fun j e _ q=>?_) (hb _)
 ·obtain ⟨w,h1,h2⟩:=s.sh j e q; exact ⟨w,h1,h2.mono c⟩
 ·obtain ⟨a',o',h1,h2,_,h4⟩:=s.ow j e q
  exact ⟨a',o',h1,x.bn _ _ h2,h4.mono c⟩
theorem zg {i : Nat} (q : tDS K (zf i) E σ H) : zP yo (kL i) E σ H:=by
 obtain ⟨B0,H0,ρ,r,⟨N,s⟩,e,p⟩:=q
 cases e
 exact fun a ha=>p _ _ ⟨_,s.newBox i ha fun _=>.dt (ks:=[]) (vs:=[]) rfl .nil⟩
end
section
variable {X : Cx} {pos : Pos} {e k : Expr}
theorem AB {i : Nat} {x : Str} {p dp : Pos} (hN : X.N.Nodup) (hi : X.N[i]? = some x:=by rfl) (hx : Loc X.env.scope x:=by first | exact Or.inl rfl | exact Or.inr rfl) (hs : swapsWith (.Dict [] [] dp) (some (.Name x p)) pos.line X.env = pure false:=by rfl)
  (hf : X.fn x = true ∨ X.env.scope.names.lookup x = some .local:=by first | exact .inl rfl | exact .inr rfl) : JS X (.Assign [.Name x p] (.Dict [] [] dp) pos) (zf i):=PS.to (xU hN hi hx yp hs hf) fun _ _ _ q=>zg q
end
section
variable {prog : Program} {w : World} {A : Around} {E : Value->Shared->Prop} {s : Shared}
abbrev CT (h : Heap) (z TI TO T0 : Addr) (f : Bool) : Prop:=h.get? z = some { cls:=.type "zip",dict:=none,data:=.fields #[rawInt T0,.bool f,.bool false,.ref TI,.ref TO],slots:=#[] }
end
def ZSt (k1 k2 : Bool) (z TI TO i1 i2 l1 l2 S : Addr) (i : Nat) (h : Heap) : Prop :=
 IsPair h TI (.ref i1) (.ref i2)/\KIt k1 h i1 l1 i/\KIt k2 h i2 l2 i/\((IsZip h z TI TO .none/\∃ a b,IsPair h TO a b) ∨ ∃ T0 f oT oO,CT h z TI TO T0 f/\h.get? T0 = some oT/\T0 ∉ [z,TI,TO,i1,i2]/\T0 ≠ S/\h.get? TO = some oO)
section
variable {prog : Program} {w : World} {A : Around} {E : Value->Shared->Prop} {s : Shared} {k1 k2 : Bool} {z TI TO i1 i2 l1 l2 S : Addr} {j : Nat} {xs ys : Array Value}
theorem ZSt.ty {h : Heap} (st : ZSt k1 k2 z TI TO i1 i2 l1 l2 S j h) : ∃ o,h.get? z = some o/\o.cls = .type "zip":=by
 obtain ⟨_,_,_,a4⟩:=st
 rcases a4 with ⟨b1,_⟩ | ⟨T0,f,oT,oO,b1,_⟩
 ·exact ⟨_,b1,rfl⟩
 ·exact ⟨_,b1,rfl⟩
end
theorem m4 {H : Hp} {a : Addr} {o : HO} (h : H a = none) : aJ H (upd H a o):=fun b u e=>by rw [a9 (aL e h)]; exact e
@[simp] def fLZ (fa fb : FE) : FE:=fun ρ=>(EU fa fb ρ).map fun ds=>(.lst ds,true)
end DL
namespace DL
open PySem PySem.Spec PyProof.Rows
theorem qJ : typeLookup (.type "list") "keys" = pure none:=by rw [typeLookup_type,builtinLookup_eq_fast]; kernel_rfl
theorem xp {prog : Program} {w : World} {A : Around} {E : Value->Shared->Prop} {s : Shared} {a : Addr} {xs : Array Value} {k : Nat} {sl : Array (Option Value)} {Q : Option Value->Shared->Prop}
  (hx : s.heap.get? a = some { cls:=.type "list",dict:=none,data:=.seq xs k,slots:=sl }) (hA : A.handled = none)
  (h : ∀ h' tk,(∀ b o,s.heap.get? b = some o->h'.get? b = some o)->Q none { s with heap:=h',toks:=tk }) :
  wpAny (model prog w) A (getAttr? (.ref a) "keys") Q E s:=by
 obtain ⟨hp,g,d,tk,os⟩:=s
 have hT : ∀ tk',(⟨hp,g,d,tk',os⟩ : Shared).TypeIs (.ref a) "list":=fun _=>⟨_,hx,rfl⟩
 have f1:=sub_AttributeError
 have f3:=PySem.F.slot_list_getattribute.lookup
 have f4:=PySem.F.slot_list_getattribute.bind (.ref a)
 have f5:=am_list_getattr_none
 unfold getAttr? getAttrBy? getAttrBy
 repeat (any_goals (first | assumption | exact hT _ | ((with_reducible show wpAny _ _ (call (Value.builtin "list.__getattribute__") _ _) _ _ _); refine call_meets PySem.F.slot_list_getattribute (hT _) am_entry_list_getattribute (PySem.F.args_list_getattribute_2 _ _) (meets_getattribute_miss_list a xs k sl "keys" _ qJ (by decide) (by decide)) ⟨hx,hA,fun h' tk' e hx'=>?_⟩) | wp_step))
 obtain ⟨t',u',he⟩:=hx'.there
 show wpAny _ _ (getattributeRaised _ _ _ _ _ _ _) _ _ _
 unfold getattributeRaised
 repeat (any_goals (first | assumption | wp_step))
 exact h _ _ hx'.of.keeps
end DL
namespace DL
open PySem PySem.Spec PyProof.Rows L2
def fq : List D->Option (List (Key × D))
 | []=>some []
 | .tup [k,v] :: r=>(jC k).bind fun kk=>(fq r).map fun l=>(kk,v) :: l
 | _=>none
def qK (a : List Key × List D) (p : Key × D) : List Key × List D:=(di a.1 p.1,dI a.1 a.2 p.1 p.2)
def bq (l : List (Key × D)) : List Key × List D:=l.foldl qK ([],[])
theorem m7 (l : List (Key × D)) (p : Key × D) : bq (l ++ [p]) = qK (bq l) p:=by unfold bq; rw [List.foldl_append]; rfl
theorem m8 : ∀ {ds : List D} {l : List (Key × D)},fq ds = some l->l.length = ds.length
 | [],l,h=>by simp [fq] at h; subst h; rfl
 | d :: r,l,h=>by
  unfold fq at h
  split at h
  ·rename_i h0; cases h0
  ·rename_i k v r' h0
   cases h0
   obtain ⟨kk,_,h⟩:=oX h
   obtain ⟨l',h1,rfl⟩:=oY h
   simp [m8 h1]
  ·cases h
theorem m9 : ∀ {ds : List D} {l : List (Key × D)} {i : Nat} {d : D},fq ds = some l->ds[i]? = some d->∃ k v kk,d = .tup [k,v]/\jC k = some kk/\l[i]? = some (kk,v)
 | [],l,i,d,_,h=>by simp at h
 | d0 :: r,l,i,d,h,hi=>by
  unfold fq at h
  split at h
  ·rename_i h0; cases h0
  ·rename_i k v r' h0
   cases h0
   obtain ⟨kk,h2,h⟩:=oX h
   obtain ⟨l',h1,rfl⟩:=oY h
   cases i with
   | zero=>simp at hi; subst hi; exact ⟨k,v,kk,rfl,h2,rfl⟩
   | succ i=>simp only [List.getElem?_cons_succ] at hi ⊢; exact m9 h1 hi
  ·cases h
theorem zh (l : List (Key × D)) : ∀ a : List Key × List D,a.1.length = a.2.length->(l.foldl qK a).1.length = (l.foldl qK a).2.length/\(l.foldl qK a).1.length<=a.1.length + l.length:=by
 induction l with
 | nil=>intro a h; exact ⟨h,Nat.le_refl _⟩
 | cons p l ih =>
  intro a h
  have h1 : (qK a p).1.length<=a.1.length + 1:=by
   show (di _ _).length<=_
   unfold di
   split <;> simp
  have:=ih (qK a p) (qI h _ _)
  rw [List.foldl_cons,List.length_cons]
  exact ⟨this.1,by omega⟩
theorem xq (l : List (Key × D)) : (bq l).1.length = (bq l).2.length/\(bq l).1.length<=l.length:=by
 have:=zh l ([],[]) rfl
 exact ⟨this.1,Nat.le_trans this.2 (by simp)⟩
theorem ph : entryFor table "dict.update.loop" = some Builtin.«dict.update.loop»:=entryFor_of_tree (by kernel_rfl)
theorem iw : plainId "dict.update.loop" = true:=by decide +kernel
section
variable {X : Cx} {pins : List (Addr × Obj)} {σ : St} {B H0 : Hp} {A : Around} {R : Result->Shared->Prop} {it l d : Addr} {us : List V} {ds : List D} {kds : List (Key × D)}
theorem uP (hA : A.handled = none) (nl : l ≠ it) (nd : d ≠ it) (hl : SqL X.K B l us) (il : IsL X.K B us ds) (hp : fq ds = some kds)
  (hR : ∀ Hc N vs s',Inv X pins σ (upd Hc d (.dK ((bq kds).1.zip vs))) s'->Hc d = none->Ext B N H0 Hc->(bq kds).1.length = vs.length->IsL X.K N vs (bq kds).2->R (.ok (.ret .none)) s') :
  ∀ (k i : Nat) (tk : Nat) (s : Shared) (Hc N : Hp) (vs : List V),ds.length - i = k->i<=ds.length->Inv X pins σ (upd Hc d (.dK ((bq (kds.take i)).1.zip vs))) s->Hc d = none->Ext B N H0 Hc->jY X pins (upd Hc d (.dK ((bq (kds.take i)).1.zip vs))) it ->
   s.heap.IsListIter it l i->(bq (kds.take i)).1.length = vs.length->IsL X.K N vs (bq (kds.take i)).2 ->
   codeAny (model X.prog X.w) A (.builtin "dict.update.loop" ⟨[.ref d,.ref it,.int i tk,.none],[]⟩) R s:=by
 have n1:=il.length
 have n2:=m8 hp
 intro k
 induction k with
 | zero =>
  intro i tk s Hc N vs hk hi I hc xt fp st hz hv
  have hin : i = ds.length:=by omega
  have sm : aJ B (upd Hc d (.dK ((bq (kds.take i)).1.zip vs))):=(xt.bn.trans xt.nh).trans (m4 hc)
  obtain ⟨its,r1,p1,z1⟩:=I.list (sm.seq hl)
  have e1:=r1.length
  refine codeAny_builtin ph ?_
  rw [Around.under_plainId iw _]
  show wpAny _ A.in1 (pyNext (.ref it) >>= _) _ _ s
  refine wX (wpAny_pyNext_list_end (A:=A.in1) hA st p1.isList (by simp; omega) fun h' hk'=>?_)
  show wpAny _ _ (Builtin.Dict.addKeywords d [] >>= _) _ _ _
  refine wX (wY (wY ?_))
  have I1:=qt (t':=s.toks) (h':=h') (ch:=[it]) I (fun b hb=>by rw [List.mem_singleton.mp hb]; exact fp) fun b o hb e=>hk' b o (fun q=>hb (by simp [q])) e
  rw [hin,← n2,List.take_length] at I1 hz hv
  exact hR Hc N vs _ I1 hc xt hz hv
 | succ k ih =>
  intro i tk s Hc N vs hk hi I hc xt fp st hz hv
  have hlt : i < ds.length:=by omega
  have sm : aJ B (upd Hc d (.dK ((bq (kds.take i)).1.zip vs))):=(xt.bn.trans xt.nh).trans (m4 hc)
  obtain ⟨its,r1,p1,z1⟩:=I.list (sm.seq hl)
  obtain ⟨kd,vd,kk,ed,ek,el⟩:=m9 hp (List.getElem?_eq_getElem hlt)
  obtain ⟨x,hx,ix⟩:=il.get (List.getElem?_eq_getElem hlt)
  rw [ed] at ix
  cases ix with
  | @tup T xs _ hT hxs =>
   cases hxs with
   | cons ik r =>
    cases r with
    | cons iv r =>
     cases r
     rename_i xk xv
     have exk:=ze ik ek
     subst exk
     obtain ⟨u,hu,ru⟩:=r1.get hx
     cases (show u = Value.ref T from ru)
     refine codeAny_builtin ph ?_
     rw [Around.under_plainId iw _]
     show wpAny _ A.in1 (pyNext (.ref it) >>= _) _ _ s
     refine wX (wpAny_pyNext_list_item (A:=A.in1) st p1.isList (x:=.ref T) (by simpa using hu) fun h' st' hs=>?_)
     have I1:=qt (t':=s.toks) (h':=h') (ch:=[it]) I (fun b hb=>by rw [List.mem_singleton.mp hb]; exact fp) fun b o hb e=>hs.extBut b o (fun q=>hb (by simp [q])) e
     obtain ⟨ps,r2,p2,z2⟩:=I1.tuple (aX sm hT)
     obtain ⟨uk,uv,rfl,rk,rv⟩:=r2.two
     have hpr : Shared.TypeIs { s with heap:=h' } (.ref T) "tuple":=by obtain ⟨o,e,c,_⟩:=p2; exact ⟨o,e,c⟩
     dsimp only
     refine wX (wpAny_holding (wX (wpAny_tryCatch ?_)))
     unfold Builtin.Dict.pairItems
     refine wX (wpAny_typeOf hpr ?_)
     obtain ⟨oT,eT,cT,nT,dT⟩:=p2
     rw [if_pos (by decide)]
     refine wX (wpAny_seqItems eT dT (wY ?_))
     show wpAny _ _ (holding [uk,uv] (dictSet d uk uv)) _ _ _
     obtain ⟨zz,hsm,vs0,rel,dd⟩:=Bg I1.hok (a:=d) a8
     have hz0 : vs0.length<=sizeLine:=by rw [← rel.length]; exact zz
     have nk : ((bq (kds.take i)).1.zip vs).length < sizeLine:=by
      have a1:=(xq (kds.take i)).2
      have a2:=z1
      rw [List.length_take] at a1
      rw [List.length_zip]
      omega
     refine wpAny_holding (wpAny_dictSet_pairs (hsz:=hz0) (v0 rk) dd fun h2 dd2 hs2=>?_)
     have hl2 : (iH ((bq (kds.take i)).1.zip vs) kk xv).length<=sizeLine:=by have:=gA ((bq (kds.take i)).1.zip vs) kk xv; omega
     have he2 : ∃ q,h2.get? d = some q:=let ⟨q,_,_,hq,_⟩:=dd2; ⟨q,hq⟩
     have I2:=pY (t':=s.toks + 1) I1 (a:=d) (ob:=.dK (iH ((bq (kds.take i)).1.zip vs) kk xv)) (by rw [a8]; exact True.intro) hs2 he2 (yk hl2 hsm (rel.put kk rv) dd2)
     rw [zI,wb hz] at I2
     have et : kds.take (i + 1) = kds.take i ++ [(kk,vd)]:=by rw [List.take_add_one,el]; rfl
     have ed1 : (bq (kds.take (i + 1))).1 = di (bq (kds.take i)).1 kk:=by rw [et,m7]; rfl
     have ed2 : (bq (kds.take (i + 1))).2 = dI (bq (kds.take i)).1 (bq (kds.take i)).2 kk vd:=by rw [et,m7]; rfl
     refine wY ⟨plainId_quiet iw _, ?_⟩
     refine ih (i + 1) 0 _ Hc N (dI (bq (kds.take i)).1 vs kk xv) (by omega) hlt (by rw [ed1]; exact I2) hc xt ?_ ?_ ?_ ?_
     ·obtain ⟨f0,f1⟩:=fp
      refine ⟨?_,f1⟩
      rw [a9 nd.symm] at f0 ⊢
      exact f0
     ·exact st'.at fun o e=>(hs2.2 it nd.symm).trans e
     ·rw [ed1]; exact qI hz _ _
     ·rw [ed2]
      exact hv.put (iv.mono xt.bn)
end
@[simp] def gg : List D->Option (D × Bool)
 | [.lst ds]=>(fq ds).map fun kds=>(.dk (bq kds).1 (bq kds).2,false)
 | _=>none
theorem CU : bootBuiltins "dict" = some (.type "dict"):=by decide +kernel
section
variable {X : Cx}
theorem CV (hcal : X.calm = true) : bR X (.type "dict") (rDA X.K gg):=by
 intro pins s σ H xs us Q I r h
 obtain ⟨B,dds,d0,bb,sB,i0,ee,q⟩:=h
 cases i0 with
 | nil=>simp [gg] at ee
 | cons i1 i2 =>
  cases i2 with
  | cons _ _=>cases i1 <;> simp [gg] at ee
  | nil =>
   cases i1 <;> try (simp [gg] at ee; done)
   rename_i l ws ds hl il
   simp only [gg] at ee
   obtain ⟨kds,hp,ee⟩:=oY ee
   cases ee
   obtain ⟨u,rfl,rx⟩:=iJ r
   cases rx
   have hA : X.A.handled = none:=I.ok.hd hcal
   refine callType_codes (Q₁:=fun obj s₁=>obj = .ref s.heap.objs.size/\s₁ = { s with heap:=s.heap.push { cls:=.type "dict",data:=.dict #[] } }) PySem.F.kt_called_dict (PySem.F.kt_typeCall_dict_1 _) PySem.F.entry_dict_init (kt_code_dict_new _ ⟨rfl,rfl⟩) ?_
   rintro obj s₁ ⟨rfl,rfl⟩
   have I1 : Inv X pins σ (upd H s.heap.objs.size (.dK [])) { s with heap:=s.heap.push { cls:=.type "dict",data:=.dict #[] } }:=I.laid (t':=s.toks) (fun b o e=>Heap.get?_push_of_some _ e) (Nat.le_refl _) (ym s.heap I.big)
   have hc0 : H s.heap.objs.size = none:=I.fresh
   have hT : Shared.TypeIs { s with heap:=s.heap.push { cls:=.type "dict",data:=.dict #[] } } (.ref s.heap.objs.size) "dict":=⟨_,Heap.get?_push_size _ rfl,rfl⟩
   refine ⟨hT,PySem.F.args_dict_init_2 _ _, ?_⟩
   unfold Builtin.«dict.__init__»
   refine wX ?_
   unfold Builtin.Dict.selfAndRest
   refine wX (wpAny_notOrdered_dict hT ?_)
   show wpAny _ _ (pure (s.heap.objs.size,[Value.ref l])) _ _ _
   refine wY ?_
   show wpAny _ _ (Builtin.Dict.updateFrom "dict.__init__" s.heap.objs.size (.ref l) [] .none) _ _ _
   unfold Builtin.Dict.updateFrom
   have sm : aJ B (upd H s.heap.objs.size (.dK [])):=sB.trans (m4 hc0)
   obtain ⟨its,r1,p1,z1⟩:=I1.list (sm.seq hl)
   have pl:=p1.isList
   obtain ⟨ol,nl,eol,cl,ddl,dl⟩:=p1
   have hTl : Shared.TypeIs { s with heap:=s.heap.push { cls:=.type "dict",data:=.dict #[] } } (.ref l) "list":=⟨ol,eol,cl⟩
   refine wX (wpAny_typeOf hTl ?_)
   rw [if_pos (by decide)]
   obtain ⟨oc,od,oo,os⟩:=ol
   simp only at cl ddl dl
   subst cl ddl dl
   refine wX (xp eol (by exact hA) fun h' tk hk=>?_)
   dsimp only [Option.isNone_none]
   rw [if_pos rfl]
   have I2 : Inv X pins σ (upd H s.heap.objs.size (.dK [])) { s with heap:=h',toks:=tk }:=I1.kept (t':=tk) hk
   refine wX (wpAny_rule ?_)
   refine wX (wpAny_pyIter_list (items:=its.toArray) ⟨_,hk _ _ eol,rfl,nl,rfl⟩ ?_)
   have I3 : Inv X pins σ (upd H s.heap.objs.size (.dK [])) { s with heap:=h'.push { cls:=.type "list_iterator",data:=.fields #[.ref l,.int 0 0] },toks:=tk }:=I2.kept (t':=tk) fun b o e=>Heap.get?_push_of_some _ e
   have ld : s.heap.objs.size < h'.objs.size:=Heap.lt_size (hk _ _ (Heap.get?_push_size _ rfl))
   have ll : l < h'.objs.size:=Heap.lt_size (hk _ _ eol)
   refine wY ⟨plainId_quiet iw _,uP (A:=X.A.in1) (B:=B) (H0:=H) (l:=l) (d:=s.heap.objs.size) (it:=h'.objs.size) hA (Nat.ne_of_lt ll) (Nat.ne_of_lt ld) hl il hp (fun Hc N vs s' I' hc' xt hz hv=>?_) _ 0 0 _ H B [] rfl (Nat.zero_le _) I3 hc0 (Ext.refl sB) (I2.fpOk (Nat.le_refl _) (I2.hok.fresh (Nat.le_refl _))) ⟨_,Heap.get?_push_size _ rfl,rfl,rfl⟩ rfl .nil⟩
   refine ⟨rfl,.ref s.heap.objs.size,_,I',rfl, ?_⟩
   have x3:=xt.trans (Ext.laid (o:=.dK ((bq kds).1.zip vs)) xt.nh hc')
   exact q _ _ _ x3 (.dk a8 hz (hv.mono (Ext.laid (o:=.dK ((bq kds).1.zip vs)) xt.nh hc').bn)) (by simp)
end
@[simp] def Fq : FE:=fun _=>none
@[simp] def Fr : FA:=fun _=>none
theorem hu1 {n : Nat} (h : n + 40 < cLine) : n + 1 < cLine:=by omega
@[simp] def Fa : D->D->Option (D × Bool)
 | .lst ds,.int k=>if 0<=k/\ds.length * k.toNat<=1000/\k<=1000 then some (.lst (List.replicate k.toNat ds).flatten,true) else none
 | _,_=>none
@[simp] def F6 (fa fb : FE) : FE:=fun ρ=>(fa ρ).bind fun x=>if x.2 = true then (fb ρ).bind fun y=>Fa x.1 y.1 else none
def eP : List D->Option (List Key)
 | []=>some []
 | d :: ds=>(jC d).bind fun k=>(eP ds).map (k :: ·)
theorem uQ {K : PySem.W.Frag} {B : Hp} : ∀ {vs : List V} {ds : List D} {ks : List Key},IsL K B vs ds->eP ds = some ks->vs = ks.map kV
 | _,_,ks,.nil,e=>by simp [eP] at e; subst e; rfl
 | _,_,ks,.cons i is,e=>by
  simp only [eP] at e
  obtain ⟨k,h1,e⟩:=oX e
  obtain ⟨r,h2,rfl⟩:=oY e
  rw [ze i h1,uQ is h2]
  rfl
@[simp] def zi (fo : FE) (fa : FA) : FE:=fun ρ=>(fo ρ).bind fun x=>(fa ρ).bind fun ds=>match x.1 with
 | .dt kss vs=>if ds.length<=sizeLine then (eP ds).map fun k=>((cb kss vs k).getD .non,false) else none
 | _=>none
section
variable {X : Cx} {o : Expr} {es : List Expr} {pos : Pos}
theorem zj {apos cpos tpos : Pos} {x1 : Nat} {fo : FE} {fa : FA} (hu : X.A.units + 1 < cLine) (ho : JE X o fo) (ha : JA X es fa) (m : M1 X o "get" apos (.Tuple es x1 tpos) cpos) : JE X (.Call (.Attribute o "get" apos) [.Tuple es x1 tpos] [] cpos) (zi fo fa):=by
 refine PE.to (rN hu ho (uh ha) m) fun σ H Q q=>?_
 obtain ⟨B,ρ,d,bb,sB,r,ee,q⟩:=q
 obtain ⟨x,ex,ee⟩:=oX ee
 obtain ⟨ds,ey,ee⟩:=oX ee
 refine ⟨B,ρ,x.1,x.2,sB,r,ex,fun v H1 N1 x1 i1 ff=>?_⟩
 obtain ⟨xd,xb⟩:=x
 cases i1 with
 | @dt a ks vs dvs h hl hs =>
  simp only at ee
  split at ee
  ·rename_i hz
   obtain ⟨k,hk,ee⟩:=oY ee
   cases ee
   refine ⟨a,rfl,.inr ⟨_,.inl (x1.nh _ _ h)⟩,N1,ρ,ds,x1.nh,r.mono x1.bn,ey,fun us H2 N2 x2 i2=>?_⟩
   have hv:=uQ i2 hk
   have hul : us.length<=sizeLine:=by rw [i2.length]; exact hz
   refine ⟨hul,fun p hp=>?_⟩
   have x3:=Ext.laid (o:=.tup us) x2.nh hp
   have ha2 : N2 a = some (.dT (ks.zip vs)):=x2.bn _ _ h
   refine ⟨iG (ks.zip vs) k,.inr ⟨_,k,p,.inl (x3.nh _ _ (x3.bn _ _ ha2)),rfl,by rw [a8,hv],rfl⟩, ?_⟩
   have hs2:=(hs.mono x2.bn).mono x3.bn
   rcases uN k hl hs2 with ⟨v,d',e1,e2,i3⟩ | ⟨e1,e2⟩
   ·rw [e1]
    rw [e2] at q
    exact (q.into ((x1.trans x2).trans x3)).one x3.nh i3
   ·rw [e1]
    rw [e2] at q
    exact (q.into ((x1.trans x2).trans x3)).one x3.nh .non
  ·cases ee
 | _=>simp at ee
end
section
variable {K : PySem.W.Frag} {E : Ends} {σ : St} {H : Hp}
def pi (i : Nat) (fk : FA) (fv : FE) : FS:=fun ρ=>match ρ[i]? with
 | some (some (.dt ks vs,true))=>(fv ρ).bind fun v=>(fk ρ).bind fun kd=>(eP kd).bind fun kk=>if bc v.1 = true/\ks.length < sizeLine/\kd.length<=sizeLine then some (.nx (ρ.set i (some (.dt (di ks kk) (dI ks vs kk v.1),true)))) else none
 | _=>none
theorem zk {i : Nat} {fk : FA} {fv : FE} (q : tDS K (pi i fk fv) E σ H) : Bh (BM i) (DI (tDA K fk)) (tD K fv) E σ H:=by
 obtain ⟨B0,H0,ρ,r,⟨N,s⟩,e,p⟩:=q
 unfold pi at e
 split at e
 ·rename_i ks ds ei
  obtain ⟨v,ev,e⟩:=oX e
  obtain ⟨kd,ek,e⟩:=oX e
  obtain ⟨kk,hk,e⟩:=oX e
  split at e
  ·rename_i hx
   cases e
   refine ⟨N,ρ,v.1,v.2,s.ext.nh,s.rep,ev,fun v1 H1 N1 x1 i1 _=>?_⟩
   have s1:=s.grow x1
   obtain ⟨a,o,h1,h2,h3,h4⟩:=s1.ow i _ ei
   refine ⟨.ref a,h1,N1,ρ,kd,s1.ext.nh,s1.rep,ek,fun us H2 N2 x2 i2=>?_⟩
   have s2:=s1.grow x2
   have hv:=uQ i2 hk
   refine ⟨by rw [i2.length]; exact hx.2.2,fun pp hp=>?_⟩
   have x3:=Ext.laid (o:=.tup us) s2.ext.nh hp
   have s3:=s2.grow x3
   obtain ⟨a',o',k1,k2,k3,k4⟩:=s3.ow i _ ei
   rw [h1] at k1
   cases k1
   cases k4 with
   | @dt ks vs ds hl h5 =>
    refine ⟨a,_,rfl,.inr ⟨_,kk,pp,s3.ext.nh _ _ k2,rfl,by rw [a8,hv], ?_,rfl⟩, ?_⟩
    ·rw [List.length_zip]; omega
    ·rw [wb hl]
     exact p σ _ ⟨_,s3.writeB ei h1 (.dt (qI hl _ _) (h5.put (s3.flat ((i1.mono x2.bn).mono x3.bn) hx.1)))⟩
  ·cases e
 ·cases e
end
section
variable {X : Cx} {pos : Pos} {e : Expr} {es : List Expr}
theorem AC {i : Nat} {y : Str} {py pt tpos : Pos} {x1 : Nat} {fk : FA} {fv : FE} (hu : X.A.units + 1 < cLine) (hv : JE X e fv) (hk : JA X es fk) (hN : X.N[i]? = some y:=by rfl) (hvis : Vis X.env.scope y:=by first | exact Or.inl rfl | exact Or.inr (Or.inl rfl) | exact Or.inr (Or.inr rfl)) (hd : (y == ("__debug__" : Str)) = false:=by decide)
  (hcd : (y == ("__classdict__" : Str)) = false:=by decide) (hs : swapsWith e (some (.Subscript (.Name y py) (.Tuple es x1 tpos) pt)) pos.line X.env = pure false:=by rfl) : JS X (.Assign [.Subscript (.Name y py) (.Tuple es x1 tpos) pt] e pos) (pi i fk fv) :=
 PS.to (Ag hu (pP hN hvis hd hcd) (uh hk) hv hs) fun _ _ _ q=>zk q
end
end DL
namespace DL
open PySem L2
theorem dJ {tg : FG} {g : FS} (I : Nat->Env->Prop) (ds : List D) (ρ0 : Env) (h0 : I 0 ρ0)
  (step : ∀ i d ρ,ds[i]? = some d->I i ρ->∃ ρ1 ρ',tg d ρ = some ρ1/\(g ρ1 = some (.nx ρ') ∨ g ρ1 = some (.ct ρ'))/\I (i + 1) ρ') :
  ∃ ρ',f6 tg g ds ρ0 = some (.nx ρ')/\I ds.length ρ':=by
 have key : ∀ (es : List D) (i : Nat) (ρ : Env),ds.drop i = es->i + es.length = ds.length->I i ρ->∃ ρ',f6 tg g es ρ = some (.nx ρ')/\I ds.length ρ':=by
  intro es
  induction es with
  | nil=>intro i ρ e hl h; refine ⟨ρ,by rw [yv], ?_⟩; rw [← hl]; exact h
  | cons d es ih =>
   intro i ρ e hl h
   have hd : ds[i]? = some d:=by
    have : (ds.drop i)[0]? = some d:=by rw [e]; rfl
    rwa [List.getElem?_drop,Nat.add_zero] at this
   obtain ⟨ρ1,ρ',h1,h2,h3⟩:=step i d ρ hd h
   have he : ds.drop (i + 1) = es:=by rw [← List.drop_drop,e]; rfl
   obtain ⟨ρ2,k1,k2⟩:=ih (i + 1) ρ' he (by simp at hl; omega) h3
   refine ⟨ρ2, ?_,k2⟩
   rw [wS,h1]
   rcases h2 with h2 | h2 <;> simp only [Option.bind_some,h2] <;> exact k1
 exact key ds 0 ρ0 (by simp) (by simp) h0
theorem mB {tg : FG} {g : FS} (n : Nat) (I : Nat->Env->Prop) (ρ0 : Env) (h0 : I 0 ρ0)
  (step : ∀ (i : Nat) ρ,i < n->I i ρ->∃ ρ1 ρ',tg (.int (i : Int)) ρ = some ρ1/\(g ρ1 = some (.nx ρ') ∨ g ρ1 = some (.ct ρ'))/\I (i + 1) ρ') :
  ∃ ρ',f6 tg g (dM 0 n) ρ0 = some (.nx ρ')/\I n ρ':=by
 have hl : (dM 0 n).length = n:=by simp [dM]
 obtain ⟨ρ',h1,h2⟩:=dJ (tg:=tg) (g:=g) I (dM 0 n) ρ0 h0 fun i d ρ hd h=>by
  unfold dM at hd
  rw [List.getElem?_map] at hd
  obtain ⟨k,hk,hd⟩:=oY hd
  obtain ⟨hlt,hk⟩:=List.getElem?_eq_some_iff.mp hk
  rw [List.length_range] at hlt
  rw [List.getElem_range] at hk
  subst hk
  rw [Int.zero_add] at hd
  subst hd
  exact step i ρ hlt h
 rw [hl] at h2
 exact ⟨ρ',h1,h2⟩
theorem gL {α : Type} {xs : List α} {j : Nat} (h : j < xs.length) : atI xs (j : Int) = some xs[j]:=Ad (by simp [h])
theorem qL {α : Type} {xs : List α} {i : Int} (h0 : 0<=i) (h : i.toNat < xs.length) : atI xs i = some xs[i.toNat]:=by
 have:=gL h
 rwa [Int.toNat_of_nonneg h0] at this
@[simp] theorem BC (xs : List Int) : bo (xs.map D.int) = true:=by
 induction xs with
 | nil=>simp
 | cons x xs ih=>simp [ih]
@[simp] theorem zH (n : Nat) (xs : List Int) : (xs.map D.int).all (ai n) = true:=by
 induction xs with
 | nil=>simp
 | cons x xs ih=>simpa using ih
@[simp] theorem AD (xs : List Int) : (xs.map D.int).all dQ = true:=by
 induction xs with
 | nil=>simp
 | cons x xs ih=>simpa using ih
theorem xr (n : Nat) : dM 0 n = ((List.range n).map fun (k : Nat)=>(k : Int)).map D.int:=by
 unfold dM
 rw [List.map_map]
 apply List.map_congr_left
 intro k _
 simp
mutual
def jD : D->D->Bool
 | .non,.non=>true
 | .bl a,.bl b=>a == b
 | .int a,.int b=>decide (a = b)
 | .str a,.str b=>decide (a = b)
 | .ty a,.ty b=>decide (a = b)
 | .tup xs,.tup ys=>mC xs ys
 | .lst xs,.lst ys=>mC xs ys
 | _,_=>false
def mC : List D->List D->Bool
 | [],[]=>true
 | x :: xs,y :: ys=>jD x y && mC xs ys
 | _,_=>false
end
mutual
theorem wc : ∀ {x y : D},jD x y = true->x = y
 | .non,.non,_=>rfl
 | .bl a,.bl b,h=>by simp [jD] at h; rw [h]
 | .int a,.int b,h=>by simp [jD] at h; rw [h]
 | .str a,.str b,h=>by simp [jD] at h; rw [h]
 | .ty a,.ty b,h=>by simp [jD] at h; rw [h]
 | .tup xs,.tup ys,h=>by rw [jD] at h; rw [mD h]
 | .lst xs,.lst ys,h=>by rw [jD] at h; rw [mD h]
theorem mD : ∀ {xs ys : List D},mC xs ys = true->xs = ys
 | [],[],_=>rfl
 | x :: xs,y :: ys,h=>by
  rw [mC,Bool.and_eq_true] at h
  rw [wc h.1,mD h.2]
end
def isR (r : Option (D × Bool)) (d : D) (b : Bool) : Bool:=match r with
 | some (e,c)=>jD e d && c == b
 | none=>false
theorem bg {r : Option (D × Bool)} {d : D} {b : Bool} (h : isR r d b = true) : r = some (d,b):=by
 unfold isR at h
 split at h
 ·rw [Bool.and_eq_true] at h
  rw [wc h.1,eq_of_beq h.2]
 ·cases h
section
variable {f : FE} {c : FT} {g g' h : FS} {ρ ρ' : Env} {i : Nat} {d : D} {b : Bool} {r : Option Res} {ds : List D}
theorem a7 {n k : Nat} (hl : ds.length = n) (e : g (ds.map (fun d=>some (d,false)) ++ List.replicate k none) = some (.rt d b)) : aV g n k ds = some (d,b):=by
 unfold aV; rw [if_pos hl,e]
theorem pj (n : bc d = true) : setE ρ i d b = ρ.set i (some (d,false)):=by unfold setE; rw [if_pos n]
theorem mE (n : bo ds = true) : setE ρ i (.lst ds) true = ρ.set i (some (.lst ds,true)):=by
 unfold setE
 rw [if_neg (by simp),if_pos ⟨rfl,by simpa using n⟩]
theorem wd (n : bc d = false) (m : b = false ∨ oG d = false) : setE ρ i d b = (unown ρ).set i (some (d,false)):=by
 unfold setE
 have hz : ¬ (b = true/\oG d = true):=fun z=>by
  rcases m with m | m
  ·rw [m] at z; exact absurd z.1 (by decide)
  ·rw [m] at z; exact absurd z.2 (by decide)
 rw [if_neg (by simp [n]),if_neg hz]
theorem zl (e : f ρ = some (d,b)) (k : h (setE ρ i d b) = r) : aF (aS i f) h ρ = r:=by simp [e]; exact k
theorem aR (e : f ρ = some (d,b)) (n : bc d = true) (k : h (ρ.set i (some (d,false))) = r) : aF (aS i f) h ρ = r:=zl e (by rw [pj n]; exact k)
theorem bZ (e : f ρ = some (.lst ds,true)) (n : bo ds = true) (k : h (ρ.set i (some (.lst ds,true))) = r) : aF (aS i f) h ρ = r:=zl e (by rw [mE n]; exact k)
theorem Fb (e : f ρ = some (d,b)) (n : bc d = false) (m : b = false ∨ oG d = false) (k : h ((unown ρ).set i (some (d,false))) = r) : aF (aS i f) h ρ = r:=zl e (by rw [wd n m]; exact k)
theorem dz (e : g ρ = some (.nx ρ')) (k : h ρ' = r) : aF g h ρ = r:=by unfold aF; rw [e]; exact k
theorem Fc (e : g ρ = some (.rt d b)) : aF g h ρ = some (.rt d b):=by unfold aF; rw [e]
theorem Fd (e : g ρ = some (.ct ρ')) : aF g h ρ = some (.ct ρ'):=by unfold aF; rw [e]
theorem kq (e : c ρ = some true) (k : g ρ = r) : gIf c g g' ρ = r:=by unfold gIf; rw [e]; exact k
theorem gM (e : c ρ = some false) (k : g' ρ = r) : gIf c g g' ρ = r:=by unfold gIf; rw [e]; exact k
theorem dO (e : c ρ = some true) (k : g ρ = some (.rt d b)) : aF (gIf c g g') h ρ = some (.rt d b):=Fc (kq e k)
theorem bO (e : c ρ = some false) (k : h ρ = r) : aF (gIf c g cn) h ρ = r:=dz (gM e rfl) k
theorem aK (e : f ρ = some (d,b)) : bz f ρ = some (.rt d b):=by simp [e]
theorem lH (e : ρ[i]? = some (some (d,b))) (hb : Bj d = false:=by rfl) : jy i ρ = some (.rt d b):=by simp only [jy,e,hb]; simp
theorem gN (e : f ρ = some (d,b)) (n : bc d = true) : aS i f ρ = some (.nx (ρ.set i (some (d,false)))):=by
 show (f ρ).map _ = _
 rw [e,Option.map_some,pj n]
theorem qM (e : f ρ = some (.lst ds,true)) (n : bo ds = true) : aS i f ρ = some (.nx (ρ.set i (some (.lst ds,true)))):=by
 show (f ρ).map _ = _
 rw [e,Option.map_some,mE n]
theorem ft (e : ρ[i]? = some (some (.lst ds,true))) (ef : f ρ = some (d,b)) (n : bc d = true) (l : ds.length < sizeLine) : jz i f ρ = some (.nx (ρ.set i (some (.lst (ds ++ [d]),true)))):=by
 simp [e,ef,n,l]
theorem mF {fi : FA} {tg : FG} {ds : List D} (e : fi ρ = some ds) (k : f6 tg g ds ρ = some (.nx ρ')) : lS fi tg g ρ = some (.nx ρ'):=by unfold lS; rw [e]; exact k
theorem gh {fi : FA} {tg : FG} {ds : List D} (e : fi (oj ρ) = some ds) (k : f6 tg g ds ρ = some (.nx ρ')) : lR fi tg g ρ = some (.nx ρ'):=by unfold lR; rw [e]; exact k
theorem iz {f : FE} {j : Nat} (e : f ρ = some (.int j,b)) (hj : j<=1000) : dN f ρ = some (dM 0 j):=by
 unfold dN; rw [e]; simp only []; rw [if_pos (by omega)]; simp
theorem aH {x : Bool} (e : f ρ = some (.bl x,b)) : tOf f ρ = some x:=by unfold tOf; rw [e]
theorem ah {F : List D->Option (D × Bool)} {fa : FA} {x : Option (D × Bool)} (e : fa ρ = some ds) (k : F ds = x) : fA F fa ρ = x:=by unfold fA; rw [e,Option.bind_some]; exact k
theorem zm {f1 g1 : D->D->Option (D × Bool)} {fa fb fc : FE} {x y z : D} {b1 b2 b3 b4 p q : Bool} (ea : fa ρ = some (x,b1)) (eb : fb ρ = some (y,b2)) (ec : fc ρ = some (z,b3)) (e1 : f1 x y = some (.bl p,b4)) (e2 : p = true->g1 y z = some (.bl q,false)) : ka f1 g1 fa fb fc ρ = some (.bl (p && q),false):=by
 unfold ka
 rw [ea,eb,ec]
 simp only [Option.bind_some,e1]
 cases p
 ·rfl
 ·exact e2 rfl
theorem gO {f1 f2 : FE} {p q b1 : Bool} (e1 : f1 ρ = some (.bl p,b1)) (e2 : p = true->f2 ρ = some (.bl q,false)) : j5 f1 f2 ρ = some (.bl (p && q),false):=by
 unfold j5
 rw [e1]
 cases p
 ·rfl
 ·exact e2 rfl
theorem BD {f1 f2 : FE} {p q b1 : Bool} (e1 : f1 ρ = some (.bl p,b1)) (e2 : p = false->f2 ρ = some (.bl q,false)) : fOr f1 f2 ρ = some (.bl (p || q),false):=by
 unfold fOr
 rw [e1]
 cases p
 ·exact e2 rfl
 ·rfl
theorem av {fr : FA} {xs : List D} (e1 : f ρ = some (d,b)) (e2 : fr ρ = some xs) : ac f fr ρ = some (d :: xs):=by
 unfold ac; rw [e1,Option.bind_some,e2,Option.bind_some]
theorem aG {op : D->D->Option (D × Bool)} {fa fb : FE} {x y : D} {b1 b2 : Bool} {z : Option (D × Bool)} (e1 : fa ρ = some (x,b1)) (e2 : fb ρ = some (y,b2)) (e3 : op x y = z) : f2 op fa fb ρ = z:=by
 unfold f2; rw [e1,Option.bind_some,e2,Option.bind_some]; exact e3
theorem cz {c1 c2 : FT} {p q : Bool} (e1 : c1 ρ = some p) (e2 : p = true->c2 ρ = some q) : cM c1 c2 ρ = some (p && q):=by
 unfold cM
 rw [e1]
 cases p
 ·rfl
 ·exact e2 rfl
theorem je {c1 c2 : FT} {p q : Bool} (e1 : c1 ρ = some p) (e2 : p = false->c2 ρ = some q) : fV c1 c2 ρ = some (p || q):=by
 unfold fV
 rw [e1]
 cases p
 ·exact e2 rfl
 ·rfl
theorem lI {c1 : FT} {p : Bool} (e1 : c1 ρ = some p) : gB c1 ρ = some (!p):=by
 unfold gB; rw [e1]; rfl
end
theorem lt1 (a c : Nat) : decide ([a] < [c]) = decide (a < c):=by
 congr 1
 rw [List.cons_lt_cons_iff]
 simp
@[simp] theorem E8 (a c : Nat) : dLe (.str ⟨#[a]⟩) (.str ⟨#[c]⟩) = some (.bl (decide (a<=c)),false):=by
 unfold dLe
 show some (D.bl (!decide ([c] < [a])),false) = _
 rw [lt1]
 congr 3
 by_cases h : c < a
 ·rw [decide_eq_true h,decide_eq_false (by omega)]; rfl
 ·rw [decide_eq_false h,decide_eq_true (by omega)]; rfl
theorem b8 {n : Nat} (h : n<=100000) : n < sizeLine:=Nat.lt_of_le_of_lt h (by decide)
theorem bG {n : Nat} (h : n<=100000) : n<=sizeLine:=Nat.le_of_lt (b8 h)
theorem iQ {α : Type} {fi : FA} {nT : Nat} {cap : List Nat} {tg : FG} {c : FT} {fe : FE} {ρ : DL.Env} (l : List α) (g : α->D) (p : α->Bool) (h : α->D) (e : fi ρ = some (l.map g)) (hl : l.length<=100000)
  (k : ∀ x ∈ l,∃ ρ1,tg (g x) (bE nT cap ρ) = some ρ1/\c ρ1 = some (p x)/\(p x = true->∃ b,fe ρ1 = some (h x,b))) : cq fi nT cap tg c fe ρ = some (.lst ((l.filter p).map h),true):=by
 have key : ∀ l' : List α,(∀ x ∈ l',x ∈ l)->dX tg c fe (bE nT cap ρ) (l'.map g) = some ((l'.filter p).map h):=by
  intro l'
  induction l' with
  | nil=>intro _; simp
  | cons x l' ih =>
   intro hm
   obtain ⟨ρ1,h1,h2,h3⟩:=k x (hm x mX)
   have ih:=ih fun y hy=>hm y (mZ _ hy)
   rw [List.map_cons,ur,h1,Option.bind_some,h2,Option.bind_some]
   cases hp : p x with
   | false=>simp [hp,ih]
   | true =>
    obtain ⟨b,h4⟩:=h3 hp
    simp [hp,ih,h4]
 unfold cq
 rw [e,Option.bind_some,if_pos (bG (by simpa using hl)),key l fun _ h=>h,Option.map_some]
theorem we {α : Type} {fi : FA} {nT : Nat} {cap : List Nat} {tg : FG} {fe : FE} {ρ : DL.Env} (l : List α) (g : α->D) (h : α->D) (e : fi ρ = some (l.map g)) (hl : l.length<=100000)
  (k : ∀ x ∈ l,∃ ρ1,tg (g x) (bE nT cap ρ) = some ρ1/\∃ b,fe ρ1 = some (h x,b)) : cq fi nT cap tg iL fe ρ = some (.lst (l.map h),true):=by
 have:=iQ (c:=iL) (fe:=fe) l g (fun _=>true) h e hl fun x hx=>by
  obtain ⟨ρ1,h1,h2⟩:=k x hx
  exact ⟨ρ1,h1,rfl,fun _=>h2⟩
 rw [List.filter_eq_self.mpr fun _ _=>rfl] at this
 exact this
@[simp] theorem Ev {α : Type} (f : α->Bool) (l : List α) : u5 (l.map fun x=>.bl (f x)) = some (l.map f):=by
 induction l with
 | nil=>rfl
 | cons x l ih=>simp [ih]
theorem um {z : Str} {i : Int} (h0 : 0<=i) (h : i.toNat < z.cps.size) (hz : z.length<=100000) : ixD (.str z) (.int i) = some (.str ⟨#[z.cps.toList.getD i.toNat 0]⟩,false):=by
 have hh : i.toNat < z.cps.toList.length:=by simpa using h
 simp only [ixD]
 rw [if_pos (bG hz),qL h0 hh]
 simp [List.getD,h]
theorem zn {ds : List D} {i : Int} (h0 : 0<=i) (h : i.toNat < ds.length) : ixD (.lst ds) (.int i) = some (ds.getD i.toNat .non,false):=by
 simp only [ixD]
 rw [qL h0 h]
 simp [List.getD,h]
theorem yg {ds : List D} {i : Int} (h0 : 0<=i) (h : i.toNat < ds.length) : ixD (.tup ds) (.int i) = some (ds.getD i.toNat .non,false):=by
 simp only [ixD]
 rw [qL h0 h]
 simp [List.getD,h]
theorem wf {xs : List Int} {i : Int} (h0 : 0<=i) (h : i.toNat < xs.length) : ixD (.lst (xs.map .int)) (.int i) = some (.int (xs.getD i.toNat 0),false):=by
 rw [zn h0 (by simpa using h)]
 simp [List.getD,h]
theorem mod_lt {x m : Int} (hm : 0 < m) : 0<=x % m/\x % m < m:=⟨Int.emod_nonneg _ (by omega),Int.emod_lt_of_pos _ hm⟩
theorem AE {ds : List D} : dE [.lst ds] = some (.int ds.length,false):=rfl
theorem wg {i j : Int} : dEq (.int i) (.int j) = some (.bl (decide (i = j)),false):=by simp
theorem sT {n d : Nat} {v : Int} (h : 0<=v) : HT.sIx n d (some v) = min v.toNat n:=by
 show (if v < 0 then (v + (n : Int)).toNat else min v.toNat n) = _
 rw [if_neg (by omega)]
def zo {α : Type} (xs : List α) (lo hi : Option Int) : List α:=(xs.drop (HT.sIx xs.length 0 lo)).take (HT.sIx xs.length xs.length hi - HT.sIx xs.length 0 lo)
theorem zp {α : Type} (f : α->D) (xs : List α) (lo hi : Option Int) : kh (xs.map f) lo hi = (zo xs lo hi).map f:=by
 unfold kh zo
 rw [List.length_map,List.map_take,List.map_drop]
end DL
namespace Lw
open PySem DL
def eQ : List (PySem.Str × D):=[(("root" : Str),(.tup [(.str "office"),(.str "matters"),(.str "further"),(.str "rule")])),(("named" : Str),(.tup [(.str "day"),(.str "office"),(.str "person")])),(("chosen" : Str),(.tup [(.str "day"),(.str "by"),(.str "office"),(.str "person"),(.str "since")])),(("heir" : Str),(.tup [(.str "day"),(.str "by"),(.str "office"),(.str "person")])),(("death" : Str),(.tup [(.str "day"),(.str "person")])),(("lost" : Str),(.tup [(.str "day"),(.str "person")])),(("found" : Str),(.tup [(.str "day"),(.str "person")])),(("leave" : Str),(.tup [(.str "day"),(.str "by"),(.str "person"),(.str "matters"),(.str "stretch"),(.str "further")])),(("paper" : Str),(.tup [(.str "day"),(.str "by"),(.str "matters"),(.str "stretch"),(.str "whom"),(.str "pieces")])),(("like" : Str),(.tup [(.str "day"),(.str "by"),(.str "matters"),(.str "stretch"),(.str "whom"),(.str "of"),(.str "changes")])),(("copy" : Str),(.tup [(.str "day"),(.str "by"),(.str "of")])),(("call" : Str),(.tup [(.str "day"),(.str "by"),(.str "of")]))]
def d6 : D:=(.tup [(.str "chosen"),(.str "heir"),(.str "leave"),(.str "paper"),(.str "like"),(.str "copy"),(.str "call")])
def pq : FS :=
  (bz (f2 ixD (f2 ixD (af 0) (fC (.int 1))) (fC (.int 0))))
def aD : List D->Option (D × Bool):=aV pq 1 0
def pr : FS :=
  (bz (f2 ixD (f2 ixD (af 0) (fC (.int 1))) (f2 bN (fC (.int 1)) (f2 (oy eQ) (fA aD (ac (af 0) aj)) (af 1)))))
def aq : List D->Option (D × Bool):=aV pr 2 0
def sU : FS :=
  (aF (gIf (tOf (f2 dEq (fA aD (ac (af 0) aj)) (fC (.str "root")))) (bz (fC .non)) cn)
  (bz (fA aq (ac (af 0) (ac (fC (.str "day")) aj)))))
def aM : List D->Option (D × Bool):=aV sU 1 0
def wj : FS :=
  (bz (cq (vL (af 0)) 2 [1] (tgT [0,1]) (tOf (f2 dLe (f2 ixD (af 1) (fC (.int 0))) (af 2))) (af 0)))
def ci : List D->Option (D × Bool):=aV wj 2 0
def zq : FS :=
  (bz (fA aP (ac (fA aM (ac (f2 ixD (af 0) (af 1)) aj)) (ac (af 1) aj))))
def cV : List D->Option (D × Bool):=aV zq 2 0
def mG : FS :=
  (aF (aS 2 (cq (cG (fA ci (ac (af 0) (ac (af 1) aj)))) 1 [0] (tgN 0) (tOf (f2 gG (fA aM (ac (f2 ixD (af 1) (af 0)) aj)) (fC .non))) (af 0)))
  (bz (ko (af 2) (sP [0] (fA cV (ac (af 1) (ac (af 0) aj)))))))
def d7 : List D->Option (D × Bool):=aV mG 2 1
def kQ : FS :=
  (bz (fA aP (ac (f2 ixD (af 0) (fC (.int 0))) (ac (f2 ixD (af 0) (fC (.int 2))) (ac (f2 ixD (af 0) (fC (.int 4))) aj)))))
def cX : List D->Option (D × Bool):=aV kQ 1 0
def wl : FS :=
  (aF (aS 2 (cq (cG (fA ci (ac (af 0) (ac (af 1) aj)))) 1 [0] (tgN 0) iL (f2 ixD (af 1) (af 0))))
  (bz (fA gg (ac (cq (cG (af 2)) 1 [] (tgN 0) (tOf (f2 dEq (fA aD (ac (af 0) aj)) (fC (.str "root")))) (fA aP (ac (fA aq (ac (af 0) (ac (fC (.str "office")) aj))) (ac (af 0) aj)))) aj))))
def eR : List D->Option (D × Bool):=aV wl 2 1
def mH : FS :=
  (bz (j5 (ka dLe dLt (fC (.int 0)) (af 2) (fA dE (ac (af 0) aj))) (f2 dLe (f2 ixD (f2 ixD (af 0) (af 2)) (fC (.int 0))) (af 1))))
def eu : List D->Option (D × Bool):=aV mH 3 0
def wm : FS :=
  (bz (j5 (f2 dIn (fA aD (ac (af 0) aj)) (af 1)) (j5 (f2 dEq (fA aq (ac (af 0) (ac (fC (.str "person")) aj))) (af 2)) (f2 dLe (fA aM (ac (af 0) aj)) (af 3)))))
def jE : List D->Option (D × Bool):=aV wm 4 0
def pv : FS :=
  (bz (cq (cG (fA ci (ac (af 0) (ac (af 1) aj)))) 1 [2,3,4,0] (tgN 0) (tOf (fA jE (ac (f2 ixD (af 4) (af 0)) (ac (af 1) (ac (af 2) (ac (af 3) aj)))))) (af 0)))
def cI : List D->Option (D × Bool):=aV pv 5 0
def wn : FS :=
  (bz (f2 dEq (fA dE (ac (fA cI (ac (af 0) (ac (af 1) (ac (fA aP (ac (fC (.str "death")) aj)) (ac (af 2) (ac (af 3) aj)))))) aj)) (fC (.int 0))))
def gk : List D->Option (D × Bool):=aV wn 4 0
def mI : FS :=
  (aF (aS 4 (fA cI (ac (af 0) (ac (af 1) (ac (fA aP (ac (fC (.str "lost")) (ac (fC (.str "found")) aj))) (ac (af 2) (ac (af 3) aj)))))))
  (aF (gIf (tOf (f2 dEq (fA dE (ac (af 4) aj)) (fC (.int 0)))) (bz (fC (.bl true))) cn)
  (bz (f2 dEq (fA aD (ac (f2 ixD (af 0) (mw (af 4) (sP [0] (fA cV (ac (af 1) (ac (af 0) aj)))))) aj)) (fC (.str "found"))))))
def gl : List D->Option (D × Bool):=aV mI 4 1
def mJ : FS :=
  (aF (gIf (fV (gB (tOf (fA eu (ac (af 0) (ac (af 1) (ac (af 2) aj)))))) (tOf (f2 d5 (fA aD (ac (f2 ixD (af 0) (af 2)) aj)) (fC d6)))) (bz (fC (.bl false))) cn)
  (aF (aS 3 (fA aq (ac (f2 ixD (af 0) (af 2)) (ac (fC (.str "by")) aj))))
  (aF (aS 4 (fA aM (ac (f2 ixD (af 0) (af 2)) aj)))
  (bz (j5 (fA gk (ac (af 0) (ac (af 1) (ac (af 3) (ac (af 4) aj))))) (fA gl (ac (af 0) (ac (af 1) (ac (af 3) (ac (af 4) aj))))))))))
def gm : List D->Option (D × Bool):=aV mJ 3 2
def pw : FS :=
  (bz (j5 (f2 dLe (f2 ixD (af 1) (fC (.int 0))) (af 0)) (fOr (f2 dIs (f2 ixD (af 1) (fC (.int 1))) (fC .non)) (f2 dLt (af 0) (f2 ixD (af 1) (fC (.int 1)))))))
def i6 : List D->Option (D × Bool):=aV pw 2 0
def mK : FS :=
  (bz (fA i6 (ac (af 1) (ac (fA aP (ac (f2 ixD (af 0) (fC (.int 2))) (ac (f2 ixD (af 0) (fC (.int 3))) aj))) aj))))
def bu : List D->Option (D × Bool):=aV mK 2 0
def mL : FS :=
  (bz (fA aP (ac (f2 ixD (af 0) (fC (.int 2))) (ac (f2 ixD (af 0) (fC (.int 4))) aj))))
def bH : List D->Option (D × Bool):=aV mL 1 0
def mM : FS :=
  (aF (gIf (tOf (f2 dEq (af 1) (fC (.str "last")))) (bz (f2 ixD (mw (af 0) (oz bH)) (fC (.int 1)))) cn)
  (bz (f2 ixD (mz (af 0) (oz bH)) (fC (.int 1)))))
def gn : List D->Option (D × Bool):=aV mM 2 0
def kR : FS :=
  (aF (aS 3 (cq (cG (af 0)) 1 [2,1] (tgN 0) (cM (tOf (f2 dEq (f2 ixD (af 0) (fC (.int 0))) (fA aq (ac (af 2) (ac (fC (.str "office")) aj))))) (tOf (fA bu (ac (af 0) (ac (af 1) aj))))) (af 0)))
  (aF (aS 4 (f1 dH (cq (cG (af 3)) 1 [] (tgN 0) iL (f2 ixD (af 0) (fC (.int 1))))))
  (aF (gIf (tOf (f2 dEq (fA dE (ac (af 4) aj)) (fC (.int 0)))) (bz (fA aP (ac (fC (.str "none")) aj))) cn)
  (aF (gIf (cM (tOf (f2 iGt (fA dE (ac (af 4) aj)) (fC (.int 1)))) (tOf (f2 dEq (fA aq (ac (af 1) (ac (fC (.str "rule")) aj))) (fC (.str "open"))))) (bz (fA aP (ac (fC (.str "parted")) (ac (af 4) aj)))) cn)
  (aF (aS 5 (fA gn (ac (af 3) (ac (fA aq (ac (af 1) (ac (fC (.str "rule")) aj))) aj))))
  (aF (aS 6 (mz (cq (cG (af 3)) 1 [5] (tgN 0) (tOf (f2 dEq (f2 ixD (af 0) (fC (.int 1))) (af 1))) (af 0)) (oz bH)))
  (bz (fA aP (ac (fC (.str "one")) (ac (af 5) (ac (f2 ixD (af 6) (fC (.int 4))) aj)))))))))))
def ce : List D->Option (D × Bool):=aV kR 3 4
def jF : FS :=
  (bz (f2 dEq (fSl (fA ce (ac (af 0) (ac (af 1) (ac (af 3) aj)))) gv (dD (fC (.int 2)))) (fA aP (ac (fC (.str "one")) (ac (af 2) aj)))))
def dj : List D->Option (D × Bool):=aV jF 4 0
def fH : FS :=
  (aF (aS 3 (f2 ixD (af 0) (af 2)))
  (aF (aS 4 (fA cI (ac (af 0) (ac (af 1) (ac (fA aP (ac (fC (.str "death")) aj)) (ac (fA aq (ac (af 3) (ac (fC (.str "person")) aj))) (ac (fA aM (ac (af 3) aj)) aj)))))))
  (bz (f2 dEq (mz (af 4) (sP [0] (fA cV (ac (af 1) (ac (af 0) aj))))) (af 2)))))
def cJ : List D->Option (D × Bool):=aV fH 3 2
def sV : FS :=
  (aF (aS 4 (f2 ixD (af 0) (af 3)))
  (aF (gIf (tOf (f2 dEq (fA aD (ac (af 4) aj)) (fC (.str "death")))) (bz (fA cJ (ac (af 0) (ac (af 1) (ac (af 3) aj))))) cn)
  (aF (gIf (tOf (f2 d5 (fA aD (ac (af 4) aj)) (fA aP (ac (fC (.str "named")) (ac (fC (.str "chosen")) (ac (fC (.str "heir")) aj)))))) (bz (fC (.bl false))) cn)
  (aF (aS 5 (f2 uO (fA eR (ac (af 0) (ac (af 1) aj))) (fA aq (ac (af 4) (ac (fC (.str "office")) aj)))))
  (aF (gIf (tOf (f2 dIs (af 5) (fC .non))) (bz (fC (.bl false))) cn)
  (aF (gIf (tOf (f2 dEq (fA aD (ac (af 4) aj)) (fC (.str "named")))) (bz (fC (.bl true))) cn)
  (bz (j5 (fA gm (ac (af 0) (ac (af 1) (ac (af 3) aj)))) (fA dj (ac (af 2) (ac (af 5) (ac (fA aq (ac (af 4) (ac (fC (.str "by")) aj))) (ac (fA aM (ac (af 4) aj)) aj)))))))))))))
def gP : List D->Option (D × Bool):=aV sV 4 2
def kT : FS :=
  (bz (fA aP (ac (fA aq (ac (af 0) (ac (fC (.str "office")) aj))) (ac (fA aq (ac (af 0) (ac (fC (.str "person")) aj))) (ac (af 1) (ac (fC .non) (ac (af 2) aj)))))))
def cB : List D->Option (D × Bool):=aV kT 3 0
def mN : FS :=
  (gIf (fV (tOf (f2 d5 (f2 ixD (af 5) (fC (.int 0))) (af 1))) (fV (tOf (f2 dNe (f2 ixD (af 5) (fC (.int 1))) (af 2))) (gB (fV (tOf (fA bu (ac (af 5) (ac (af 3) aj)))) (tOf (f2 iGt (f2 ixD (af 5) (fC (.int 2))) (af 3))))))) (jz 4 (af 5)) (gIf (tOf (f2 dLt (f2 ixD (af 5) (fC (.int 2))) (af 3))) (jz 4 (fA aP (ac (f2 ixD (af 5) (fC (.int 0))) (ac (af 2) (ac (f2 ixD (af 5) (fC (.int 2))) (ac (af 3) (ac (f2 ixD (af 5) (fC (.int 4))) aj))))))) cn))
def wo : FS :=
  (aF (aS 4 (fA bW aj))
  (aF (lR (cG (af 0)) (tgN 5) mN)
  (jy 4)))
def i7 : List D->Option (D × Bool):=aV wo 4 2
def gQ : FS :=
  (aF (aS 3 (fA aq (ac (af 1) (ac (fC (.str "since")) aj))))
  (aF (aS 4 (fA i7 (ac (af 0) (ac (fA bW (ac (fA aq (ac (af 1) (ac (fC (.str "office")) aj))) aj)) (ac (fA aq (ac (af 1) (ac (fC (.str "by")) aj))) (ac (af 3) aj))))))
  (bz (f2 bN (af 4) (fA bW (ac (fA cB (ac (af 1) (ac (af 3) (ac (af 2) aj)))) aj))))))
def dm : List D->Option (D × Bool):=aV gQ 3 2
def dS : FS :=
  (aF (aS 9 (zi (af 3) (ac (af 8) (ac (af 5) aj))))
  (gIf (cM (tOf (f2 gG (af 9) (fC .non))) (tOf (fA gk (ac (af 0) (ac (af 1) (ac (af 9) (ac (af 6) aj))))))) (jz 7 (fA aP (ac (af 8) (ac (af 9) (ac (af 6) (ac (fC .non) (ac (af 4) aj))))))) cn))
def kU : FS :=
  (aF (aS 5 (fA aq (ac (f2 ixD (af 0) (af 4)) (ac (fC (.str "person")) aj))))
  (aF (aS 6 (fA aM (ac (f2 ixD (af 0) (af 4)) aj)))
  (aF (aS 7 (fA bW aj))
  (aF (gUn [5,6] (lR (cG (f1 dH (cq (cG (af 2)) 1 [5,6] (tgN 0) (cM (tOf (f2 dEq (f2 ixD (af 0) (fC (.int 1))) (af 1))) (tOf (fA bu (ac (af 0) (ac (af 2) aj))))) (f2 ixD (af 0) (fC (.int 0)))))) (tgN 8) dS))
  (jy 7)))))
def eS : List D->Option (D × Bool):=aV kU 5 5
def iR : FS :=
  (aF (aS 5 (cq (cG (af 2)) 1 [] (tgN 0) iL (f2 ixD (af 0) (fC (.int 0)))))
  (aF (aS 6 (fA i7 (ac (af 2) (ac (af 5) (ac (fA aq (ac (f2 ixD (af 0) (af 4)) (ac (fC (.str "person")) aj))) (ac (fA aM (ac (f2 ixD (af 0) (af 4)) aj)) aj))))))
  (bz (f2 bN (af 6) (fA eS (ac (af 0) (ac (af 1) (ac (af 2) (ac (af 3) (ac (af 4) aj))))))))))
def dC : List D->Option (D × Bool):=aV iR 5 2
def iA : FS :=
  (aF (aS 5 (f2 ixD (af 0) (af 4)))
  (aF (gIf (gB (tOf (fA gP (ac (af 0) (ac (af 1) (ac (af 2) (ac (af 4) aj))))))) B8 cn)
  (gIf (tOf (f2 dEq (fA aD (ac (af 5) aj)) (fC (.str "named")))) (aS 2 (f2 bN (af 2) (fA bW (ac (fA cB (ac (af 5) (ac (fA aM (ac (af 5) aj)) (ac (af 4) aj)))) aj)))) (gIf (tOf (f2 dEq (fA aD (ac (af 5) aj)) (fC (.str "chosen")))) (aS 2 (fA dm (ac (af 2) (ac (af 5) (ac (af 4) aj))))) (gIf (tOf (f2 dEq (fA aD (ac (af 5) aj)) (fC (.str "heir")))) (pi 3 (ac (fA aq (ac (af 5) (ac (fC (.str "office")) aj))) (ac (fA aq (ac (af 5) (ac (fC (.str "by")) aj))) aj)) (fA aq (ac (af 5) (ac (fC (.str "person")) aj)))) (aS 2 (fA dC (ac (af 0) (ac (af 1) (ac (af 2) (ac (af 3) (ac (af 4) aj))))))))))))
def sW : FS :=
  (aF (aS 2 (fA bW aj))
  (aF (zf 3)
  (aF (lR (cG (fA d7 (ac (af 0) (ac (af 1) aj)))) (tgN 4) iA)
  (bz (ko (af 2) (oz cX))))))
def cr : List D->Option (D × Bool):=aV sW 2 4
def kW : FS :=
  (aF (gIf (tOf (f2 dLt (af 1) (fA dE (ac (af 0) aj)))) (bz (f2 ixD (af 0) (af 1))) cn)
  (bz (fC (.int 0))))
def aT : List D->Option (D × Bool):=aV kW 2 0
def mO : FS :=
  (aF (aS 7 (f2 ixD (fC (.str "bqcxdlenhusv")) (f2 cN (f2 bN (f2 eF (af 0) (fC (.int 64))) (f2 Au (fC (.int 5)) (af 6))) (fC (.int 12)))))
  (jz 5 (f2 bN (f2 bN (fSl (af 3) gv (dD (af 4))) (af 7)) (fSl (af 3) (dD (f2 bN (af 4) (fC (.int 1)))) gv))))
def px : FS :=
  (aF (aS 2 (f2 bN (fC (.int 1)) (f2 cN (af 0) (fC (.int 8)))))
  (aF (aS 3 (fSl (fC (.str "gmtazkfw")) gv (dD (af 2))))
  (aF (aS 4 (f2 cN (f2 eF (af 0) (fC (.int 8))) (af 2)))
  (aF (aS 5 (fA bW aj))
  (aF (lS (dN (af 1)) (tgN 6) mO)
  (jy 5))))))
def iB : List D->Option (D × Bool):=aV px 2 6
def mP : FS :=
  (aF (aS 4 (f2 cN (f2 bN (f2 bN (f2 Au (af 4) (fC (.int 48271))) (fA dE (ac (af 3) aj))) (fC (.int 1))) (fC (.int 2147483647))))
  (jz 3 (af 4)))
def pz : FS :=
  (aF (aS 3 (fSl (af 0) (dD (af 1)) (dD (f2 bN (af 1) (af 2)))))
  (aF (aS 4 (f2 cN (fA aT (ac (af 0) (ac (fC (.int 1)) aj))) (fC (.int 2147483647))))
  (aF (fg (cM (tOf (f2 dEq (f2 cN (f2 eF (fA aT (ac (af 0) (ac (fC (.int 0)) aj))) (fC (.int 21))) (fC (.int 8))) (fC (.int 5)))) (tOf (f2 dLt (fA dE (ac (af 3) aj)) (af 2)))) mP 1000)
  (jy 3))))
def fJ : List D->Option (D × Bool):=aV pz 3 2
def sX : FS :=
  (aF (aS 5 (fA bW (ac (fA aP (ac (fC (.str "chosen")) (ac (af 1) (ac (af 2) (ac (af 3) (ac (af 4) (ac (f2 bN (af 1) (f2 cN (f2 eF (af 0) (fC (.int 16))) (fC (.int 5)))) aj))))))) (ac (fA aP (ac (fC (.str "heir")) (ac (af 1) (ac (af 2) (ac (af 3) (ac (af 4) aj)))))) aj))))
  (aF (aS 5 (f2 bN (af 5) (fA bW (ac (fA aP (ac (fC (.str "death")) (ac (af 1) (ac (af 2) aj)))) (ac (fA aP (ac (fC (.str "named")) (ac (af 1) (ac (af 3) (ac (af 4) aj))))) (ac (fA aP (ac (fC (.str "lost")) (ac (af 1) (ac (af 2) aj)))) (ac (fA aP (ac (fC (.str "found")) (ac (af 1) (ac (af 2) aj)))) aj)))))))
  (aF (aS 5 (f2 bN (af 5) (fA bW (ac (fA aP (ac (fC (.str "death")) (ac (af 1) (ac (af 4) aj)))) (ac (fA aP (ac (fC (.str "call")) (ac (af 1) (ac (af 2) (ac (f2 cN (af 0) (fC (.int 60))) aj))))) aj)))))
  (bz (f2 ixD (af 5) (f2 ixD (fA bW (ac (fC (.int 0)) (ac (fC (.int 0)) (ac (fC (.int 0)) (ac (fC (.int 0)) (ac (fC (.int 0)) (ac (fC (.int 1)) (ac (fC (.int 1)) (ac (fC (.int 1)) (ac (fC (.int 1)) (ac (fC (.int 2)) (ac (fC (.int 2)) (ac (fC (.int 3)) (ac (fC (.int 3)) (ac (fC (.int 4)) (ac (fC (.int 5)) (ac (f2 bN (fC (.int 6)) (f2 cN (f2 eF (af 0) (fC (.int 80))) (fC (.int 2)))) aj))))))))))))))))) (f2 cN (af 0) (fC (.int 16)))))))))
def eA : List D->Option (D × Bool):=aV sX 5 1
def kx : FS :=
  (jz 4 (fA aP (ac (fC (.int 0)) (ac (fA aP (ac (fC (.str "root")) (ac (f2 ixD (af 3) (af 5)) (ac (fC (.int 7)) (ac (fC (.int 1)) (ac (f2 ixD (fA bW (ac (fC (.str "open")) (ac (fC (.str "first")) (ac (fC (.str "last")) aj)))) (f2 cN (f2 eF (af 2) (f2 bN (fC (.int 2)) (af 5))) (fC (.int 3)))) aj)))))) aj))))
def ky : FS :=
  (aF (aS 7 (f2 bN (f2 eF (af 5) (fC (.int 3))) (f2 cN (f2 eF (af 2) (fC (.int 400))) (fC (.int 3)))))
  (aF (aS 8 (f2 ixD (f2 bN (af 3) (fA bW (ac (fC (.str "mill")) aj))) (f2 eF (f2 cN (f2 eF (af 2) (fC (.int 1200))) (f2 bN (f2 Au (fC (.int 4)) (fA dE (ac (af 3) aj))) (fC (.int 1)))) (fC (.int 4)))))
  (aF (aS 9 (f2 ixD (af 1) (f2 cN (f2 eF (af 2) (fC (.int 30000))) (fA dE (ac (af 1) aj)))))
  (aF (aS 10 (fA eA (ac (af 2) (ac (af 7) (ac (f2 ixD (af 6) (f2 DX (f1 Av (fC (.int 1))) (f2 cN (f2 eF (af 2) (fC (.int 10000))) (fA CD (ac (fC (.int 3)) (ac (fA dE (ac (af 6) aj)) aj)))))) (ac (af 8) (ac (af 9) aj)))))))
  (aF (gIf (fV (tOf (f2 dEq (af 5) (fC (.int 0)))) (tOf (f2 dEq (f2 cN (f2 eF (af 2) (fC (.int 200000))) (fC (.int 9))) (fC (.int 1))))) (aS 10 (fA aP (ac (fC (.str "named")) (ac (af 7) (ac (af 8) (ac (af 9) aj)))))) cn)
  (aF (gIf (tOf (f2 dIn (f2 ixD (af 10) (fC (.int 0))) (fA aP (ac (fC (.str "named")) (ac (fC (.str "chosen")) aj))))) (jz 6 (af 9)) cn)
  (jz 4 (fA aP (ac (af 7) (ac (af 10) aj))))))))))
def sY : FS :=
  (aF (aS 2 (fA aT (ac (af 0) (ac (fC (.int 1)) aj))))
  (aF (aS 3 (fSl (fA bW (ac (fC (.str "crown")) (ac (fC (.str "abbey")) aj))) gv (dD (f2 bN (fC (.int 1)) (f2 cN (af 2) (fC (.int 2)))))))
  (aF (aS 4 (fA bW aj))
  (aF (lS (dN (fA dE (ac (af 3) aj))) (tgN 5) kx)
  (aF (aS 6 (fA bW (ac (f2 ixD (af 1) (fC (.int 0))) aj)))
  (aF (lR (vL (fA fJ (ac (af 0) (ac (fC (.int 5)) (ac (fC (.int 30)) aj))))) (tgT [5,2]) ky)
  (bz (fA dc (ac (af 4) aj)))))))))
def jG : List D->Option (D × Bool):=aV sY 2 9
def kX : FS :=
  (aF (gIf (cM (tOf (f2 dNe (f2 ixD (af 4) (fC (.int 0))) (fC (.str "root")))) (tOf (f2 iGt (f2 ixD (af 4) (fC (.int 1))) (af 1)))) (aS 3 (fC (.int 9999))) cn)
  (jz 2 (fA aP (ac (af 3) (ac (af 4) aj)))))
def mQ : FS :=
  (aF (aS 2 (fA bW aj))
  (aF (lR (cG (af 0)) (tgT [3,4]) kX)
  (bz (fA dc (ac (af 2) aj)))))
def gp : List D->Option (D × Bool):=aV mQ 2 3
def jH : FS :=
  (aF (aS 6 (fA aT (ac (af 0) (ac (f2 bN (fC (.int 35)) (af 5)) aj))))
  (aF (aS 7 (f2 bN (f2 bN (af 3) (fC (.int 1))) (f2 cN (f2 eF (af 6) (fC (.int 160))) (fC (.int 9)))))
  (aF (aS 8 (f2 ixD (af 2) (f2 cN (f2 eF (af 6) (fC (.int 1440))) (fA dE (ac (af 2) aj)))))
  (jz 4 (fA aP (ac (af 7) (ac (fA eA (ac (af 6) (ac (af 7) (ac (af 8) (ac (fC (.str "crown")) (ac (f2 ixD (af 2) (f2 cN (f2 eF (af 6) (fC (.int 8640))) (fA dE (ac (af 2) aj)))) aj)))))) aj)))))))
def kY : FS :=
  (aF (aS 4 (fA ge (ac (af 1) aj)))
  (aF (lS (dN (f2 cN (fA aT (ac (af 0) (ac (fC (.int 4)) aj))) (fC (.int 6)))) (tgN 5) jH)
  (bz (fA dc (ac (af 4) aj)))))
def eU : List D->Option (D × Bool):=aV kY 4 5
def sZ : FS :=
  (aF (aS 4 (f2 uO (fA eR (ac (af 0) (ac (af 1) aj))) (af 2)))
  (aF (gIf (tOf (f2 dIs (af 4) (fC .non))) (bz (fA aP (ac (fC (.str "none")) aj))) cn)
  (bz (fA ce (ac (fA cr (ac (af 0) (ac (af 1) aj))) (ac (af 4) (ac (af 3) aj)))))))
def eB : List D->Option (D × Bool):=aV sZ 4 1
def p0 : FS :=
  (aS 3 (f2 bN (af 3) (cq (dN (f2 bN (af 1) (fC (.int 1)))) 1 [0,2,4] (tgN 0) iL (fA eB (ac (af 1) (ac (af 2) (ac (af 3) (ac (af 0) aj))))))))
def tm : FS :=
  (aF (aS 3 (fA bW aj))
  (aF (lR (cG (fA bW (ac (fC (.str "crown")) (ac (fC (.str "abbey")) (ac (fC (.str "mill")) aj))))) (tgN 4) p0)
  (aF (aS 5 (cq (cG (fA cr (ac (af 0) (ac (af 2) aj)))) 1 [1] (tgN 0) (tOf (f2 dLe (f2 ixD (af 0) (fC (.int 2))) (af 1))) (fA aP (ac (f2 ixD (af 0) (fC (.int 0))) (ac (f2 ixD (af 0) (fC (.int 1))) (ac (f2 ixD (af 0) (fC (.int 2))) (ac (f2 ixD (af 0) (fC (.int 4))) aj)))))))
  (bz (fA aP (ac (af 3) (ac (af 5) aj)))))))
def fK : List D->Option (D × Bool):=aV tm 3 3
def p4 : FS :=
  (aF (aS 8 (f2 ixD (f2 ixD (af 0) (af 7)) (fC (.int 1))))
  (aF (gIf (fV (tOf (f2 d5 (af 3) (af 2))) (cM (tOf (f2 gG (af 6) (fC .non))) (tOf (f2 dLe (af 6) (af 5))))) (bz (fC (.bl false))) cn)
  (aF (gIf (tOf (f2 dEq (f2 ixD (af 8) (fC (.int 0))) (fC (.str "named")))) (aS 9 (f2 dEq (af 8) (fA aP (ac (fC (.str "named")) (ac (af 5) (ac (af 3) (ac (af 4) aj))))))) (gIf (tOf (f2 dEq (f2 ixD (af 8) (fC (.int 0))) (fC (.str "chosen")))) (aS 9 (f2 dEq (fSl (af 8) (dD (fC (.int 3))) gv) (fA aP (ac (af 3) (ac (af 4) (ac (af 5) aj)))))) (aS 9 (j5 (f2 dEq (fSl (af 8) gv (dD (fC (.int 2)))) (fA aP (ac (fC (.str "death")) (ac (af 5) aj)))) (f2 dNe (f2 ixD (af 8) (fC (.int 2))) (af 4))))))
  (gIf (gB (tOf (af 9))) (bz (fC (.bl false))) cn))))
def tp : FS :=
  (aF (aS 2 (cq (cG (af 0)) 2 [] (tgT [0,1]) (tOf (f2 dEq (f2 ixD (af 1) (fC (.int 0))) (fC (.str "root")))) (f2 ixD (af 1) (fC (.int 1)))))
  (aF (lR (cG (af 1)) (tgT [3,4,5,6,7]) p4)
  (bz (fC (.bl true)))))
def fL : List D->Option (D × Bool):=aV tp 2 8
def zr : FS :=
  (aF (aS 1 (fA iB (ac (fA aT (ac (af 0) (ac (fC (.int 2)) aj))) (ac (f2 bN (fC (.int 2)) (f2 cN (fA aT (ac (af 0) (ac (fC (.int 0)) aj))) (fC (.int 5)))) aj))))
  (aF (aS 2 (fA jG (ac (af 0) (ac (af 1) aj))))
  (aF (aS 3 (f2 cN (fA aT (ac (af 0) (ac (fC (.int 3)) aj))) (fC (.int 13))))
  (aF (aS 4 (fA eU (ac (af 0) (ac (af 2) (ac (af 1) (ac (af 3) aj))))))
  (aF (aS 5 (fA fK (ac (af 2) (ac (af 3) (ac (fC (.int 9998)) aj)))))
  (aF (gIf (fV (tOf (f2 dNe (fA fK (ac (fA gp (ac (af 2) (ac (af 3) aj))) (ac (af 3) (ac (fC (.int 9998)) aj)))) (af 5))) (tOf (f2 dNe (fA fK (ac (af 4) (ac (af 3) (ac (fC (.int 9998)) aj)))) (af 5)))) (bz (fC (.bl false))) cn)
  (bz (j5 (fA fL (ac (af 2) (ac (fA cr (ac (af 2) (ac (fC (.int 9998)) aj))) aj))) (fA fL (ac (af 4) (ac (fA cr (ac (af 4) (ac (fC (.int 9999)) aj))) aj)))))))))))
def F_law : List D->Option (D × Bool):=aV zr 1 5
end Lw
namespace Lw
open PySem DL L2
theorem iC (ns : List Int) (k : Nat) : aT [.lst (ns.map .int),.int k] = some (.int (ns.getD k 0),false):=by
 by_cases h : k < ns.length
 ·refine a7 rfl (dO (aH (b:=false) (by simp; omega)) (aK ?_))
  exact aG (x:=.lst (ns.map .int)) (y:=.int k) (b1:=false) (b2:=false) rfl rfl (by have:=wf (xs:=ns) (i:=k) (by omega) (by simpa using h); simpa using this)
 ·have z : ns.getD k 0 = 0:=by simp [List.getD_eq_getElem?_getD,List.getElem?_eq_none (Nat.not_lt.mp h)]
  rw [z]
  exact a7 rfl (bO (aH (b:=false) (by simp; omega)) (aK rfl))
theorem p5 {c : FT} {g : FS} (I : Nat->DL.Env->Prop) (step : ∀ m ρ,I m ρ->c ρ = some false ∨ (c ρ = some true/\∃ m' ρ',m = m' + 1/\g ρ = some (.nx ρ')/\I m' ρ')) : ∀ (n m : Nat) (ρ : DL.Env),m < n->I m ρ->∃ m' ρ',fg c g n ρ = some (.nx ρ')/\I m' ρ'
 | 0,m,ρ,h,_=>by omega
 | n + 1,m,ρ,h,i=>by
  rw [fg]
  rcases step m ρ i with e | ⟨e,m',ρ',rfl,e2,i'⟩
  ·exact ⟨m,ρ,by rw [e],i⟩
  ·obtain ⟨m2,ρ2,h1,h2⟩:=p5 I step n m' ρ' (by omega) i'
   exact ⟨m2,ρ2,by rw [e]; dsimp only; rw [e2]; exact h1,h2⟩
theorem xu (ns : List Int) (most : Nat) (hm : most<=900) : ∃ cs : List Int,fJ [.lst (ns.map .int),.int 5,.int most] = some (.lst (cs.map .int),true)/\cs.length<=most:=by
 have c1:=iC ns 1
 have c0:=iC ns 0
 let cs0 : List Int:=zo ns (some 5) (some (5 + most))
 have hl0 : cs0.length<=most:=by
  show (zo ns (some 5) (some (5 + most))).length<=most
  unfold zo
  rw [List.length_take,sT (by omega),sT (by omega)]
  omega
 have e0 : fSl (af 0) (dD (af 1)) (dD (f2 bN (af 1) (af 2))) [some (.lst (ns.map .int),false),some (.int 5,false),some (.int most,false),none,none] = some (.lst (cs0.map .int),true):=by
  simp [cs0,zp]
 obtain ⟨m',ρ',hw,cs,num,rfl,hl,_⟩:=p5 (c:=cM (tOf (f2 dEq (f2 cN (f2 eF (fA aT (ac (af 0) (ac (fC (.int 0)) aj))) (fC (.int 21))) (fC (.int 8))) (fC (.int 5)))) (tOf (f2 dLt (fA dE (ac (af 3) aj)) (af 2)))) (g:=mP)
  (fun m ρ=>∃ (cs : List Int) (num : Int),ρ = [some (.lst (ns.map .int),false),some (.int 5,false),some (.int most,false),some (.lst (cs.map .int),true),some (.int num,false)]/\cs.length + m = most/\m<=most) (fun m ρ hI=>by
   obtain ⟨cs,num,rfl,hl,hm'⟩:=hI
   have t1 : tOf (f2 dEq (f2 cN (f2 eF (fA aT (ac (af 0) (ac (fC (.int 0)) aj))) (fC (.int 21))) (fC (.int 8))) (fC (.int 5))) [some (.lst (ns.map .int),false),some (.int 5,false),some (.int most,false),some (.lst (cs.map .int),true),some (.int num,false)] = some (decide (ns.getD 0 0 / 21 % 8 = 5)):=by
    refine aH (b:=false) (aG (x:=.int (ns.getD 0 0 / 21 % 8)) (y:=.int 5) (b1:=false) (b2:=false) (aG (x:=.int (ns.getD 0 0 / 21)) (y:=.int 8) (b1:=false) (b2:=false) (aG (x:=.int (ns.getD 0 0)) (y:=.int 21) (b1:=false) (b2:=false) (ah (ds:=[.lst (ns.map .int),.int 0]) rfl (by simpa using c0)) rfl (by simp [])) rfl (by simp)) rfl (by simp))
   have t2 : tOf (f2 dLt (fA dE (ac (af 3) aj)) (af 2)) [some (.lst (ns.map .int),false),some (.int 5,false),some (.int most,false),some (.lst (cs.map .int),true),some (.int num,false)] = some (decide (cs.length < most)):=by simp
   by_cases h1 : ns.getD 0 0 / 21 % 8 = 5
   ·by_cases h2 : cs.length < most
    ·refine .inr ⟨by rw [cz (p:=true) (q:=true) (by rw [t1,decide_eq_true h1]) fun _=>by rw [t2,decide_eq_true h2]]; rfl,m - 1,[some (.lst (ns.map .int),false),some (.int 5,false),some (.int most,false),some (.lst ((cs ++ [(num * 48271 + cs.length + 1) % 2147483647]).map .int),true),some (.int ((num * 48271 + cs.length + 1) % 2147483647),false)],by omega, ?_,cs ++ [(num * 48271 + cs.length + 1) % 2147483647],_,rfl,by simp; omega,by omega⟩
     refine aR (d:=.int ((num * 48271 + cs.length + 1) % 2147483647)) (b:=false) (by simp) rfl ?_
     rw [ft (ds:=cs.map .int) (d:=.int ((num * 48271 + cs.length + 1) % 2147483647)) (b:=false) rfl rfl rfl (b8 (by simp; omega))]
     simp
    ·exact .inl (by rw [cz (p:=true) (q:=false) (by rw [t1,decide_eq_true h1]) fun _=>by rw [t2,decide_eq_false h2]]; rfl)
   ·exact .inl (by rw [cz (p:=false) (q:=false) (by rw [t1,decide_eq_false h1]) (by simp)]; rfl)) 1000 (most - cs0.length) [some (.lst (ns.map .int),false),some (.int 5,false),some (.int most,false),some (.lst (cs0.map .int),true),some (.int (ns.getD 1 0 % 2147483647),false)] (by omega) ⟨cs0,_,rfl,by omega,by omega⟩
 refine ⟨cs,a7 rfl (bZ (ds:=cs0.map .int) e0 (by simp) (aR (d:=.int (ns.getD 1 0 % 2147483647)) (b:=false) ?_ rfl (dz hw (lH rfl)))),by omega⟩
 exact aG (x:=.int (ns.getD 1 0)) (y:=.int 2147483647) (b1:=false) (b2:=false) (ah (ds:=[.lst (ns.map .int),.int 1]) rfl (by simpa using c1)) rfl (by simp)
theorem qN (a b : Str) : (a ++ b).length = a.length + b.length:=by
 show (a.cps ++ b.cps).size = _
 exact Array.size_append
theorem io (c : Int) (n : Nat) (hn : n<=100) : ∃ zs : List Str,iB [.int c,.int n] = some (.lst (zs.map .str),true)/\zs.length = n/\∀ z ∈ zs,z.length<=20:=by
 have h8:=mod_lt (x:=c) (m:=8) (by decide)
 obtain ⟨sz,hsz⟩ : ∃ sz : Int,1 + c % 8 = sz:=⟨_,rfl⟩
 have hs0 : 0 < sz:=by omega
 have hs1 : sz < 1073741824:=by omega
 obtain ⟨base,hbase⟩ : ∃ base : Str,Txt.slice ("gmtazkfw" : Str) none (some sz) = base:=⟨_,rfl⟩
 have hb8 : base.length<=8:=by rw [← hbase]; exact Nat.le_trans (Txt.slice_le _ _ _) (by decide +kernel)
 obtain ⟨aa,haa⟩ : ∃ aa : Int,c / 8 % sz = aa:=⟨_,rfl⟩
 obtain ⟨b1,hb1⟩ : ∃ b1 : Str,Txt.slice base none (some aa) = b1:=⟨_,rfl⟩
 obtain ⟨b2,hb2⟩ : ∃ b2 : Str,Txt.slice base (some (aa + 1)) none = b2:=⟨_,rfl⟩
 have l1 : b1.length<=8:=by rw [← hb1]; exact Nat.le_trans (Txt.slice_le _ _ _) hb8
 have l2 : b2.length<=8:=by rw [← hb2]; exact Nat.le_trans (Txt.slice_le _ _ _) hb8
 let ltr : Nat->Str:=fun k=>⟨#[("bqcxdlenhusv" : Str).cps.toList.getD ((c / 64 + 5 * k) % 12).toNat 0]⟩
 let nm : Nat->Str:=fun k=>b1 ++ ltr k ++ b2
 have ln : ∀ k,(nm k).length<=20:=fun k=>by
  show (b1 ++ ltr k ++ b2).length<=20
  rw [qN,qN]
  have : (ltr k).length = 1:=rfl
  omega
 obtain ⟨ρ',e,v6,v7,rfl⟩:=mB (tg:=tgN 6) (g:=mO) n (fun i ρ=>∃ v6 v7 : Option (D × Bool),ρ = [some (.int c,false),some (.int n,false),some (.int sz,false),some (.str base,false),some (.int aa,false),some (.lst (((List.range i).map nm).map .str),true),v6,v7])
  [some (.int c,false),some (.int n,false),some (.int sz,false),some (.str base,false),some (.int aa,false),some (.lst [],true),none,none] ⟨none,none,rfl⟩ (by
   rintro i ρ hi ⟨v6,v7,rfl⟩
   have h12:=mod_lt (x:=c / 64 + 5 * (i : Int)) (m:=12) (by decide)
   have hi2 : -18446744073709551616 < (i : Int)/\(i : Int) < 18446744073709551616:=by omega
   refine ⟨_,_,rfl,.inl (aR (d:=.str (ltr i)) (b:=false) ?_ rfl (ft (ds:=((List.range i).map nm).map .str) (d:=.str (nm i)) (b:=false) rfl ?_ rfl (b8 (by simp; omega)))),some (.int i,false),some (.str (ltr i),false), ?_⟩
   ·refine aG (x:=.str "bqcxdlenhusv") (y:=.int ((c / 64 + 5 * i) % 12)) (b1:=false) (b2:=false) rfl (by simp) ?_
    exact DL.um h12.1 (by rw [show ("bqcxdlenhusv" : Str).cps.size = 12 by decide +kernel]; omega) (by decide +kernel)
   ·refine aG (x:=.str (b1 ++ ltr i)) (y:=.str b2) (b1:=false) (b2:=false) (aG (x:=.str b1) (y:=.str (ltr i)) (b1:=false) (b2:=false) ?_ rfl ?_) ?_ ?_
    ·simp [hb1]; exact bG (by omega)
    ·simp; exact bG (by have : (ltr i).length = 1:=rfl; omega)
    ·simp [hb2]; exact bG (by omega)
    ·have hh : (b1 ++ ltr i).length + b2.length<=sizeLine:=bG (by rw [qN]; have : (ltr i).length = 1:=rfl; omega)
     show bN (.str (b1 ++ ltr i)) (.str b2) = some (.str (b1 ++ ltr i ++ b2),false)
     simp only [bN,if_pos hh]
   ·simp [List.range_succ])
 refine ⟨(List.range n).map nm,a7 rfl (aR (d:=.int sz) (b:=false) (by simp [hsz]) rfl (aR (d:=.str base) (b:=false) ?_ rfl (aR (d:=.int aa) (b:=false) (by simp [hs0,hs1,haa]) rfl (bZ (ds:=[]) (by simp [sizeLine]) (by simp) (dz (mF (iz (j:=n) (b:=false) (by simp) (by omega)) e) (lH rfl)))))),by simp, ?_⟩
 ·simp [hbase]; decide +kernel
 ·intro z hz
  obtain ⟨k,_,rfl⟩:=List.mem_map.mp hz
  exact ln k
end Lw
namespace DL
open PySem L2
theorem eC : ∀ (n m : Nat) (d : D),n<=m->ai n d = true->ai m d = true
 | n,m,.non,_,_=>by simp
 | n,m,.bl _,_,_=>by simp
 | n,m,.int _,_,_=>by simp
 | n,m,.str _,_,_=>by simp
 | n,m,.ty _,_,h=>by cases n <;> simp [ai] at h
 | n,m,.dk _ _,_,h=>by simp at h
 | n,m,.dt _ _,_,h=>by simp at h
 | 0,m,.tup _,_,h=>by simp [ai] at h
 | 0,m,.lst _,_,h=>by simp [ai] at h
 | n + 1,0,_,h,_=>by omega
 | n + 1,m + 1,.tup ds,hl,h=>by
  simp only [ai,List.all_eq_true] at h ⊢
  exact fun d hd=>eC n m d (by omega) (h d hd)
 | n + 1,m + 1,.lst ds,hl,h=>by
  simp only [ai,List.all_eq_true] at h ⊢
  exact fun d hd=>eC n m d (by omega) (h d hd)
theorem k6 : ∀ (ds : List D),(∀ d ∈ ds,eqD d d = true)->da ds ds = true
 | [],_=>by simp only [da]
 | d :: ds,h=>by
  simp only [da,h d mX,Bool.true_and]
  exact k6 ds fun e he=>h e (mZ _ he)
theorem jI : ∀ (n : Nat) (d : D),ai n d = true->eqD d d = true
 | n,.non,_=>by simp
 | n,.bl _,_=>by simp
 | n,.int _,_=>by simp
 | n,.str _,_=>by simp
 | n,.ty _,h=>by cases n <;> simp [ai] at h
 | n,.dk _ _,h=>by simp at h
 | n,.dt _ _,h=>by simp at h
 | 0,.tup _,h=>by simp [ai] at h
 | 0,.lst _,h=>by simp [ai] at h
 | n + 1,.tup ds,h=>by
  simp only [ai,List.all_eq_true] at h
  simp only [eqD]
  exact k6 ds fun d hd=>jI n d (h d hd)
 | n + 1,.lst ds,h=>by
  simp only [ai,List.all_eq_true] at h
  simp only [eqD]
  exact k6 ds fun d hd=>jI n d (h d hd)
theorem zu {d : D} (h : ai 40 d = true) : dEq d d = some (.bl true,false):=by unfold dEq; rw [if_pos ⟨h,h⟩,jI 40 d h]
end DL
namespace Lw
open PySem DL L2
theorem at0 (d : D) (r : List D) : atI (d :: r) 0 = some d:=by have:=gL (xs:=d :: r) (j:=0) (by simp); simpa using this
theorem at1 (d e : D) (r : List D) : atI (d :: e :: r) 1 = some e:=by have:=gL (xs:=d :: e :: r) (j:=1) (by simp); simpa using this
theorem at2 (d e f : D) (r : List D) : atI (d :: e :: f :: r) 2 = some f:=by have:=gL (xs:=d :: e :: f :: r) (j:=2) (by simp); simpa using this
def bT (k : Str) : Bool:=decide (k = ("death" : Str)) || decide (k = ("lost" : Str)) || decide (k = ("found" : Str))
def dn (k : Str) : Bool:=decide (k = ("chosen" : Str)) || decide (k = ("heir" : Str)) || decide (k = ("leave" : Str)) || decide (k = ("paper" : Str)) || decide (k = ("like" : Str)) || decide (k = ("copy" : Str)) || decide (k = ("call" : Str))
structure DeedP (kind : Str) (az : List D) : Prop where
 flat : bo az = true
 plain : az.all (ai 5) = true
 three : bT kind = true->∃ (day : Int) (p : Str),az = [.int day,.str p]
 slg : dn kind = true->∃ (day : Int) (p : Str) (r : List D),az = .int day :: .str p :: r
def row (h : Int) (kind : Str) (az : List D) : D:=.tup [.int h,.tup (.str kind :: az)]
def k7 (r : D) : Prop:=∃ h kind az,r = row h kind az/\DeedP kind az
theorem k7.flat {r : D} (h : k7 r) : bc r = true:=by obtain ⟨a,k,az,rfl,dp⟩:=h; simp [row,dp.flat]
theorem k7.plain {r : D} (h : k7 r) : ai 39 r = true:=by
 obtain ⟨a,k,az,rfl,dp⟩:=h
 refine eC 7 39 _ (by decide) ?_
 have:=dp.plain
 simp only [row,ai,List.all_cons,List.all_nil,Bool.and_true,Bool.true_and]
 exact this
theorem cC {ds : List D} (h : ∀ d ∈ ds,bc d = true) : bo ds = true:=by
 induction ds with
 | nil=>rfl
 | cons d r ih=>simp [h d (by simp),ih fun e he=>h e (by simp [he])]
theorem dL (zs : List Str) : bo (zs.map D.str) = true:=by
 induction zs with
 | nil=>rfl
 | cons a l ih=>simp [ih]
def cP : D->Int
 | .tup (.int h :: _)=>h
 | _=>0
def kindOf : D->Str
 | .tup [_,.tup (.str k :: _)]=>k
 | _=>("" : Str)
def aB : D->Int
 | .tup [_,.tup (_ :: .int d :: _)]=>d
 | _=>0
def mR (p : Str) (day : Int) : List D->Bool
 | [.int d,.str q]=>decide (q = p) && decide (d<=day)
 | _=>false
def told (ws : List Str) (p : Str) (day : Int) : D->Bool
 | .tup [_,.tup (.str kind :: az)]=>decide (kind ∈ ws) && mR p day az
 | _=>false
theorem eV (h : Int) (kind : Str) (az : List D) : aD [row h kind az] = some (.str kind,false):=a7 rfl (aK (by simp [row,at1,at0]))
theorem gR {k : Str} (h : bT k = true) : k = ("death" : Str) ∨ k = ("lost" : Str) ∨ k = ("found" : Str):=by
 unfold bT at h
 simp only [Bool.or_eq_true,decide_eq_true_eq] at h
 rcases h with (h | h) | h
 ·exact .inl h
 ·exact .inr (.inl h)
 ·exact .inr (.inr h)
theorem jf {k : Str} (h : dn k = true) : k = ("chosen" : Str) ∨ k = ("heir" : Str) ∨ k = ("leave" : Str) ∨ k = ("paper" : Str) ∨ k = ("like" : Str) ∨ k = ("copy" : Str) ∨ k = ("call" : Str):=by
 unfold dn at h
 simp only [Bool.or_eq_true,decide_eq_true_eq] at h
 rcases h with (((((h | h) | h) | h) | h) | h) | h
 ·exact .inl h
 ·exact .inr (.inl h)
 ·exact .inr (.inr (.inl h))
 ·exact .inr (.inr (.inr (.inl h)))
 ·exact .inr (.inr (.inr (.inr (.inl h))))
 ·exact .inr (.inr (.inr (.inr (.inr (.inl h)))))
 ·exact .inr (.inr (.inr (.inr (.inr (.inr h)))))
theorem AF {k : Str} (h : bT k = true ∨ dn k = true) : oy eQ (.str k) (.str "day") = some (.int 0,false):=by
 rcases h with h | h
 ·rcases gR h with rfl | rfl | rfl <;> exact bg (by decide +kernel)
 ·rcases jf h with rfl | rfl | rfl | rfl | rfl | rfl | rfl <;> exact bg (by decide +kernel)
theorem uR {k : Str} (h : bT k = true) : oy eQ (.str k) (.str "person") = some (.int 1,false):=by
 rcases gR h with rfl | rfl | rfl <;> exact bg (by decide +kernel)
theorem zv {k : Str} (h : bT k = true ∨ dn k = true) : dEq (.str k) (.str "root") = some (.bl false,false):=by
 rcases h with h | h
 ·rcases gR h with rfl | rfl | rfl <;> exact bg (by decide +kernel)
 ·rcases jf h with rfl | rfl | rfl | rfl | rfl | rfl | rfl <;> exact bg (by decide +kernel)
theorem bi {h : Int} {k : Str} {az : List D} {part : Str} {i : Nat} {d : D} (hi : oy eQ (.str k) (.str part) = some (.int i,false)) (hd : az[i]? = some d) : aq [row h k az,.str part] = some (d,false):=by
 refine a7 rfl (aK ?_)
 refine aG (x:=.tup (.str k :: az)) (y:=.int (1 + i)) (b1:=false) (b2:=false) (by simp [row,at1]) (aG (x:=.int 1) (y:=.int i) (b1:=false) (b2:=false) rfl (aG (x:=.str k) (y:=.str part) (b1:=false) (b2:=false) (ah (ds:=[row h k az]) rfl (eV _ _ _)) rfl hi) (by simp)) ?_
 have hlt : i < az.length:=(List.getElem?_eq_some_iff.mp hd).1
 have : atI (.str k :: az) (1 + (i : Int)) = some d:=by
  have:=gL (xs:=(.str k : D) :: az) (j:=i + 1) (by simp; omega)
  rw [show (1 + (i : Int)) = ((i + 1 : Nat) : Int) by omega,this]
  simp only [List.getElem_cons_succ]
  rw [List.getElem?_eq_getElem hlt] at hd
  exact hd
 simp [this]
theorem fM {h : Int} {k : Str} {az : List D} {d : Int} {r : List D} (hk : bT k = true ∨ dn k = true) (hr : az = .int d :: r) : aM [row h k az] = some (.int d,false):=by
 subst hr
 refine a7 rfl (bO (aH (b:=false) (aG (x:=.str k) (y:=.str "root") (b1:=false) (b2:=false) (ah (ds:=[row h k (.int d :: r)]) rfl (eV _ _ _)) rfl (zv hk))) (aK (ah (ds:=[row h k (.int d :: r),.str "day"]) rfl (bi (i:=0) (AF hk) rfl))))
theorem mS (k : Str) (ws : List Str) : inD (.str k) (ws.map .str) = decide (k ∈ ws):=by
 induction ws with
 | nil=>simp [inD]
 | cons w ws ih =>
  have : inD (.str k) ((w :: ws).map .str) = (eqD (.str w) (.str k) || inD (.str k) (ws.map .str)):=rfl
  rw [this,ih,kN]
  by_cases e : w = k
  ·simp [e]
  ·have e' : ¬ k = w:=fun z=>e z.symm
   simp [e,e']
theorem k8 (ws : List Str) : (ws.map D.str).all dQ = true:=by
 induction ws with
 | nil=>rfl
 | cons w ws ih=>simp [dQ]
theorem tq (k : Str) (ws : List Str) : dIn (.str k) (.tup (ws.map .str)) = some (.bl (decide (k ∈ ws)),false):=by
 simp only [dIn,eM,Option.bind_some,mS]
 rw [if_pos ⟨rfl,k8 ws⟩]
theorem zw {r : D} (hr : k7 r) (ws : List Str) (hw : ∀ w ∈ ws,bT w = true) (p : Str) (day : Int) : jE [r,.tup (ws.map .str),.str p,.int day] = some (.bl (told ws p day r),false):=by
 obtain ⟨h,kind,az,rfl,dp⟩:=hr
 have hin : f2 dIn (fA aD (ac (af 0) aj)) (af 1) [some (row h kind az,false),some (.tup (ws.map .str),false),some (.str p,false),some (.int day,false)] = some (.bl (decide (kind ∈ ws)),false) :=
  aG (x:=.str kind) (y:=.tup (ws.map .str)) (b1:=false) (b2:=false) (ah (ds:=[row h kind az]) rfl (eV _ _ _)) rfl (tq kind ws)
 have ht : told ws p day (row h kind az) = (decide (kind ∈ ws) && mR p day az):=rfl
 rw [ht]
 refine a7 rfl (aK (gO (b1:=false) hin fun hk=>?_))
 have h3:=hw kind (of_decide_eq_true hk)
 obtain ⟨d,q,rfl⟩:=dp.three h3
 show j5 _ _ _ = some (.bl (decide (q = p) && decide (d<=day)),false)
 refine gO (b1:=false) ?_ fun _=>?_
 ·exact aG (x:=.str q) (y:=.str p) (b1:=false) (b2:=false) (ah (ds:=[row h kind [.int d,.str q],.str "person"]) rfl (bi (i:=1) (uR h3) rfl)) rfl (by simp)
 ·exact aG (x:=.int d) (y:=.int day) (b1:=false) (b2:=false) (ah (ds:=[row h kind [.int d,.str q]]) rfl (fM (.inl h3) rfl)) rfl (by simp)
theorem mT (ds : List D) : j8 ds = ds.zipIdx.map fun x=>.tup [.int x.2,x.1]:=by
 unfold j8
 apply List.ext_getElem?
 intro i
 simp [List.getElem?_mapIdx,List.getElem?_zipIdx]
 cases ds[i]? <;> simp
def au (rows : List D) (known : Int) : List (D × Nat):=rows.zipIdx.filter fun x=>decide (cP x.1<=known)
theorem mU (rows : List D) (hr : ∀ r ∈ rows,k7 r) (hl : rows.length<=1000) (known : Int) : ci [.tup rows,.int known] = some (.lst ((au rows known).map fun x=>.int x.2),true):=by
 have hc:=iQ (fi:=vL (af 0)) (nT:=2) (cap:=[1]) (tg:=tgT [0,1]) (c:=tOf (f2 dLe (f2 ixD (af 1) (fC (.int 0))) (af 2))) (fe:=af 0) (ρ:=[some (.tup rows,false),some (.int known,false)]) rows.zipIdx (fun x=>.tup [.int x.2,x.1]) (fun x=>decide (cP x.1<=known)) (fun x=>.int x.2)
  (by simp [mT]) (by simp; omega) fun x hx=>by
   obtain ⟨h,kind,az,e,_⟩:=hr x.1 (List.fst_mem_of_mem_zipIdx hx)
   refine ⟨_,rfl,aH (b:=false) ?_,fun _=>⟨false,by simp [bE]⟩⟩
   simp [bE,e,row,at0,cP]
 exact a7 rfl (aK hc)
def l8 (rows : List D) (known : Int) (ws : List Str) (p : Str) (day : Int) : List (D × Nat):=(au rows known).filter fun x=>told ws p day x.1
theorem wq {rows : List D} {known : Int} {ws : List Str} {p : Str} {day : Int} {x : D × Nat} (h : x ∈ l8 rows known ws p day) : rows[x.2]? = some x.1/\told ws p day x.1 = true:=by
 obtain ⟨h1,h2⟩:=List.mem_filter.mp h
 exact ⟨(List.mk_mem_zipIdx_iff_getElem? (x:=x.1) (i:=x.2)).mp (List.mem_filter.mp h1).1,h2⟩
theorem gS {rows : List D} {i : Nat} {r : D} (h : rows[i]? = some r) : atI rows (i : Int) = some r:=by
 obtain ⟨hlt,e⟩:=List.getElem?_eq_some_iff.mp h
 rw [gL hlt,e]
theorem AG (rows : List D) (known : Int) (ws : List Str) (p : Str) (day : Int) : (l8 rows known ws p day).length<=rows.length:=by
 have h1:=List.length_filter_le (fun x : D × Nat=>told ws p day x.1) (au rows known)
 have h2:=List.length_filter_le (fun x : D × Nat=>decide (cP x.1<=known)) rows.zipIdx
 rw [List.length_zipIdx] at h2
 exact Nat.le_trans h1 h2
theorem qO (rows : List D) (hr : ∀ r ∈ rows,k7 r) (hl : rows.length<=1000) (known : Int) (ws : List Str) (hw : ∀ w ∈ ws,bT w = true) (p : Str) (day : Int) :
  cI [.tup rows,.int known,.tup (ws.map .str),.str p,.int day] = some (.lst ((l8 rows known ws p day).map fun x=>.int x.2),true):=by
 have hc:=iQ (fi:=cG (fA ci (ac (af 0) (ac (af 1) aj)))) (nT:=1) (cap:=[2,3,4,0]) (tg:=tgN 0) (c:=tOf (fA jE (ac (f2 ixD (af 4) (af 0)) (ac (af 1) (ac (af 2) (ac (af 3) aj)))))) (fe:=af 0)
  (ρ:=[some (.tup rows,false),some (.int known,false),some (.tup (ws.map .str),false),some (.str p,false),some (.int day,false)]) (au rows known) (fun x=>.int x.2) (fun x=>told ws p day x.1) (fun x=>.int x.2)
  (by
   show (fA ci (ac (af 0) (ac (af 1) aj)) _).bind _ = _
   rw [ah (ds:=[.tup rows,.int known]) rfl (mU rows hr hl known)]
   rfl) (by have:=List.length_filter_le (fun x : D × Nat=>decide (cP x.1<=known)) rows.zipIdx; rw [List.length_zipIdx] at this; exact Nat.le_trans this (by omega)) fun x hx=>by
   have hg : rows[x.2]? = some x.1:=(List.mk_mem_zipIdx_iff_getElem? (x:=x.1) (i:=x.2)).mp (List.mem_filter.mp hx).1
   refine ⟨_,rfl,aH (b:=false) (ah (ds:=[x.1,.tup (ws.map .str),.str p,.int day]) ?_ (zw (hr _ (List.mem_of_getElem? hg)) ws hw p day)),fun _=>⟨false,by simp [bE]⟩⟩
   have ha:=gS hg
   simp [bE,ha]
 exact a7 rfl (aK hc)
def kA (x : D × Nat) : List At:=[.i (aB x.1),.i x.2]
def eW (a b : D × Nat) : Bool:=decide (aB a.1 < aB b.1 ∨ (aB a.1 = aB b.1/\(a.2 : Int) < b.2))
def dP : D × Nat->List (D × Nat)->D × Nat
 | b,[]=>b
 | b,x :: r=>if eW b x = true then dP x r else dP b r
def BE : List (D × Nat)->Option (D × Nat)
 | []=>none
 | x :: r=>some (dP x r)
theorem Ew (a b c d : Int) : aZ [.i a,.i b] [.i c,.i d] = some (decide (a < c ∨ (a = c/\b < d))):=by
 rw [aZ]
 by_cases h : a = c
 ·rw [if_pos h,aZ]
  by_cases h2 : b = d
  ·rw [if_pos h2,aZ]; simp [h,h2]
  ·rw [if_neg h2]; simp [h]
 ·rw [if_neg h]; simp [h]
theorem qP (a b : D × Nat) : aZ (kA a) (kA b) = some (eW a b):=Ew _ _ _ _
theorem qQ (l : List (D × Nat)) : dw (l.map kA) = true:=by
 unfold dw
 simp [List.all_eq_true,qP]
theorem k9 : ∀ (r : List (D × Nat)) (b : D × Nat),iP (kA b,.int b.2) (r.map fun x=>(kA x,D.int x.2)) = .int (dP b r).2
 | [],b=>rfl
 | x :: r,b=>by
  rw [List.map_cons,iP,dP]
  show (if aZ (kA b) (kA x) = some true then _ else _) = _
  rw [qP]
  by_cases h : eW b x = true
  ·rw [if_pos h,if_pos (by rw [h])]; exact k9 r x
  ·rw [if_neg h,if_neg (by simpa using h)]; exact k9 r b
theorem mV : ∀ (r : List (D × Nat)) (b : D × Nat),dP b r ∈ b :: r
 | [],b=>by simp [dP]
 | x :: r,b=>by
  rw [dP]
  split
  ·exact mZ _ (mV r x)
  ·rcases List.mem_cons.mp (mV r b) with h | h
   ·rw [h]; exact mX
   ·exact mZ _ (mZ _ h)
theorem fN {α : Type} {f : D->Option D} {g h : α->D} : ∀ (l : List α),(∀ x ∈ l,f (g x) = some (h x))->fF f (l.map g) = some (l.map h)
 | [],_=>rfl
 | x :: l,hx=>by
  rw [List.map_cons,fF,hx x mX,Option.bind_some,fN l fun y hy=>hx y (mZ _ hy)]
  rfl
theorem dU {α : Type} {g : α->D} {h : α->List At} : ∀ (l : List α),(∀ x ∈ l,mv (g x) = some (h x))->cy (l.map g) = some (l.map h)
 | [],_=>rfl
 | x :: l,hx=>by
  rw [List.map_cons,cy,hx x mX,Option.bind_some,dU l fun y hy=>hx y (mZ _ hy)]
  rfl
def jJ : List Str:=[("lost" : Str),("found" : Str)]
theorem kZ : ∀ w ∈ jJ,bT w = true:=by
 intro w hw
 rcases List.mem_cons.mp hw with rfl | hw
 ·decide +kernel
 ·rcases List.mem_cons.mp hw with rfl | hw
  ·decide +kernel
  ·cases hw
def tu (rows : List D) (known : Int) (p : Str) (day : Int) : Bool:=match BE (l8 rows known jJ p day) with
 | none=>true
 | some b=>decide (kindOf b.1 = ("found" : Str))
theorem mW {ws : List Str} (hw : ∀ w ∈ ws,bT w = true) {p : Str} {day : Int} {r : D} (hr : k7 r) (ht : told ws p day r = true) : ∃ h k d,r = row h k [.int d,.str p]/\bT k = true/\k ∈ ws/\d<=day:=by
 obtain ⟨h,kind,az,rfl,dp⟩:=hr
 have ht' : (decide (kind ∈ ws) && mR p day az) = true:=ht
 rw [Bool.and_eq_true] at ht'
 have hm:=of_decide_eq_true ht'.1
 obtain ⟨d,q,rfl⟩:=dp.three (hw _ hm)
 have hq : (decide (q = p) && decide (d<=day)) = true:=ht'.2
 rw [Bool.and_eq_true] at hq
 have:=of_decide_eq_true hq.1
 subst this
 exact ⟨h,kind,d,rfl,hw _ hm,hm,of_decide_eq_true hq.2⟩
theorem wt {rows : List D} {i : Nat} {h d : Int} {k p : Str} (hg : rows[i]? = some (row h k [.int d,.str p])) (h3 : bT k = true) : cV [.tup rows,.int i] = some (.tup [.int d,.int i],false):=by
 have ha:=gS hg
 refine a7 rfl (aK (ah (ds:=[.int d,.int i]) (av (d:=.int d) (b:=false) (ah (ds:=[row h k [.int d,.str p]]) (by simp [ha]) (fM (.inl h3) rfl)) rfl) (by simp [sizeLine])))
theorem AH (rows : List D) (hr : ∀ r ∈ rows,k7 r) (hl : rows.length<=1000) (known : Int) (p : Str) (day : Int) : gl [.tup rows,.int known,.str p,.int day] = some (.bl (tu rows known p day),false):=by
 have ht:=qO rows hr hl known jJ kZ p day
 have hsl:=AG rows known jJ p day
 have key : ∀ x ∈ l8 rows known jJ p day,∃ h k d,rows[x.2]? = some (row h k [.int d,.str p])/\x.1 = row h k [.int d,.str p]/\bT k = true:=fun x hx=>by
  obtain ⟨hg,htl⟩:=wq hx
  obtain ⟨h,k,d,e,h3,_⟩:=mW kZ (hr _ (List.mem_of_getElem? hg)) htl
  exact ⟨h,k,d,by rw [hg,e],e,h3⟩
 unfold tu
 generalize hsel : l8 rows known jJ p day = sel at ht key hsl ⊢
 have hset : fA cI (ac (af 0) (ac (af 1) (ac (fA aP (ac (fC (.str "lost")) (ac (fC (.str "found")) aj))) (ac (af 2) (ac (af 3) aj))))) [some (.tup rows,false),some (.int known,false),some (.str p,false),some (.int day,false),none] = some (.lst (sel.map fun x=>.int x.2),true) :=
  ah (ds:=[.tup rows,.int known,.tup (jJ.map .str),.str p,.int day]) (by simp [jJ,sizeLine]) ht
 have hnl : bo (sel.map fun x=>D.int x.2) = true:=cC fun d hd=>by obtain ⟨x,_,rfl⟩:=List.mem_map.mp hd; rfl
 cases sel with
 | nil=>exact a7 rfl (bZ hset hnl (dO (aH (b:=false) (by simp)) (aK rfl)))
 | cons x r =>
  refine a7 rfl (bZ hset hnl (bO (aH (b:=false) (by simp; omega)) (aK ?_)))
  obtain ⟨h,k,d,hg,e,h3⟩:=key (dP x r) (mV r x)
  have hb : kindOf (dP x r).1 = k:=by rw [e]; rfl
  show _ = some (D.bl (decide (kindOf (dP x r).1 = ("found" : Str))),false)
  rw [hb]
  refine aG (x:=.str k) (y:=.str "found") (b1:=false) (b2:=false) (ah (ds:=[row h k [.int d,.str p]]) (av (d:=row h k [.int d,.str p]) (b:=false) (aG (x:=.tup rows) (y:=.int (dP x r).2) (b1:=false) (b2:=false) rfl ?_ (by simp [gS hg])) rfl) (eV _ _ _)) rfl (by simp)
  have hm : ∀ ρ : DL.Env,ρ[0]? = some (some (.tup rows,false))->fF (sP [0] (fA cV (ac (af 1) (ac (af 0) aj))) ρ) ((x :: r).map fun x=>D.int x.2) = some ((x :: r).map fun x=>.tup [.int (aB x.1),.int x.2]):=fun ρ h0 =>
   fN (x :: r) fun y hy=>by
    obtain ⟨h,k,d,hg,e,h3⟩:=key y hy
    have hd : aB y.1 = d:=by rw [e]; rfl
    rw [hd]
    show (fA cV _ _).map _ = _
    rw [ah (ds:=[.tup rows,.int y.2]) (by simp [bE,h0]) (wt hg h3)]
    rfl
  have hk : cy ((x :: r).map fun x=>D.tup [.int (aB x.1),.int x.2]) = some ((x :: r).map kA):=dU (x :: r) fun y _=>rfl
  have hz : ((x :: r).map kA).zip ((x :: r).map fun x=>D.int x.2) = (kA x,.int x.2) :: r.map fun x=>(kA x,D.int x.2):=by
   rw [List.zip_map']
   rfl
  show (mw (af 4) _ _) = _
  unfold mw
  show ((some (D.lst ((x :: r).map fun x=>D.int x.2),false)).bind _) = _
  simp only [Option.bind_some]
  rw [hm _ rfl]
  simp only [Option.bind_some]
  rw [hk]
  simp only [Option.bind_some]
  rw [if_pos (qQ _),hz]
  simp only [k9]
def bP : List Str:=[("death" : Str)]
theorem gq : ∀ w ∈ bP,bT w = true:=by
 intro w hw
 rcases List.mem_cons.mp hw with rfl | hw
 ·decide +kernel
 ·cases hw
def kB (rows : List D) (known : Int) (p : Str) (day : Int) : Bool:=(l8 rows known bP p day).isEmpty
theorem tw (rows : List D) (hr : ∀ r ∈ rows,k7 r) (hl : rows.length<=1000) (known : Int) (p : Str) (day : Int) : gk [.tup rows,.int known,.str p,.int day] = some (.bl (kB rows known p day),false):=by
 have ht:=qO rows hr hl known bP gq p day
 unfold kB
 generalize l8 rows known bP p day = sel at ht ⊢
 refine a7 rfl (aK (aG (x:=.int ((sel.map fun x=>D.int x.2).length : Nat)) (y:=.int 0) (b1:=false) (b2:=false) ?_ rfl ?_))
 ·exact ah (ds:=[.lst (sel.map fun x=>.int x.2)]) (av (d:=.lst (sel.map fun x=>.int x.2)) (b:=true) (ah (ds:=[.tup rows,.int known,.tup (bP.map .str),.str p,.int day]) (by simp [sizeLine,bP]) ht) rfl) AE
 ·rw [wg]
  cases sel <;> simp
  omega
def xw : D->Str
 | .tup [_,.tup (_ :: _ :: .str p :: _)]=>p
 | _=>("" : Str)
def wu : List Str:=[("chosen" : Str),("heir" : Str),("leave" : Str),("paper" : Str),("like" : Str),("copy" : Str),("call" : Str)]
theorem uS (k : Str) : dn k = decide (k ∈ wu):=by
 unfold dn wu
 simp [List.mem_cons,Bool.or_assoc]
theorem uT : d6 = .tup (wu.map .str):=rfl
theorem la (k : Str) (ws : List Str) : d5 (.str k) (.tup (ws.map .str)) = some (.bl (!decide (k ∈ ws)),false):=by
 simp only [d5,eM,Option.bind_some,mS]
 rw [if_pos ⟨rfl,k8 ws⟩]
theorem CW {k : Str} (h : dn k = true) : oy eQ (.str k) (.str "by") = some (.int 1,false):=by
 rcases jf h with rfl | rfl | rfl | rfl | rfl | rfl | rfl <;> exact bg (by decide +kernel)
def qR (rows : List D) (known : Int) (r : D) : Bool:=(decide (cP r<=known) && dn (kindOf r)) && (kB rows known (xw r) (aB r) && tu rows known (xw r) (aB r))
theorem zx {rows : List D} {i : Nat} {h : Int} {kind : Str} {az : List D} (hg : rows[i]? = some (row h kind az)) (known : Int) : eu [.tup rows,.int known,.int i] = some (.bl (decide (h<=known)),false):=by
 have hlt : i < rows.length:=(List.getElem?_eq_some_iff.mp hg).1
 have ha:=gS hg
 refine a7 rfl (aK ?_)
 have:=gO (f1:=ka dLe dLt (fC (.int 0)) (af 2) (fA dE (ac (af 0) aj))) (f2:=f2 dLe (f2 ixD (f2 ixD (af 0) (af 2)) (fC (.int 0))) (af 1)) (ρ:=[some (.tup rows,false),some (.int known,false),some (.int i,false)]) (p:=true) (q:=decide (h<=known)) (b1:=false)
  (by
   refine (zm (x:=.int 0) (y:=.int i) (z:=.int rows.length) (b1:=false) (b2:=false) (b3:=false) (b4:=false) (p:=true) (q:=true) rfl rfl (by simp) (by simp) fun _=>?_).trans rfl
   simp; omega) fun _=>by simp [ha,row,at0]
 exact this
theorem zy (rows : List D) (hr : ∀ r ∈ rows,k7 r) (hl : rows.length<=1000) (known : Int) {i : Nat} {r : D} (hg : rows[i]? = some r) : gm [.tup rows,.int known,.int i] = some (.bl (qR rows known r),false):=by
 obtain ⟨h,kind,az,rfl,dp⟩:=hr r (List.mem_of_getElem? hg)
 have hk:=zx hg known
 have ha:=gS hg
 have hword : ∀ (ρ : DL.Env),f2 ixD (af 0) (af 2) ρ = some (row h kind az,false)->fA aD (ac (f2 ixD (af 0) (af 2)) aj) ρ = some (.str kind,false):=fun ρ e=>ah (ds:=[row h kind az]) (av e rfl) (eV _ _ _)
 have hrow : f2 ixD (af 0) (af 2) [some (.tup rows,false),some (.int known,false),some (.int i,false),none,none] = some (row h kind az,false):=by simp [ha]
 have hc : (fV (gB (tOf (fA eu (ac (af 0) (ac (af 1) (ac (af 2) aj)))))) (tOf (f2 d5 (fA aD (ac (f2 ixD (af 0) (af 2)) aj)) (fC d6)))) [some (.tup rows,false),some (.int known,false),some (.int i,false),none,none] = some (!decide (h<=known) || !dn kind):=by
  refine je (lI (aH (b:=false) (ah (ds:=[.tup rows,.int known,.int i]) rfl hk))) fun _=>aH (b:=false) (aG (x:=.str kind) (y:=d6) (b1:=false) (b2:=false) (hword _ hrow) rfl ?_)
  rw [uT,uS]
  exact la kind wu
 have hs : qR rows known (row h kind az) = ((decide (h<=known) && dn kind) && (kB rows known (xw (row h kind az)) (aB (row h kind az)) && tu rows known (xw (row h kind az)) (aB (row h kind az)))):=rfl
 cases hb : (decide (h<=known) && dn kind) with
 | false =>
  rw [hs,hb]
  refine a7 rfl (dO (hc.trans ?_) (aK rfl))
  rw [← Bool.not_and,hb]; rfl
 | true =>
  rw [hs,hb]
  rw [Bool.and_eq_true] at hb
  obtain ⟨day,p,r',rfl⟩:=dp.slg hb.2
  show _ = some (D.bl (true && (kB rows known p day && tu rows known p day)),false)
  rw [Bool.true_and]
  refine a7 rfl (bO (hc.trans (by rw [hb.1,hb.2]; rfl)) (aR (d:=.str p) (b:=false) (ah (ds:=[row h kind (.int day :: .str p :: r'),.str "by"]) (av hrow rfl) (bi (i:=1) (CW hb.2) rfl)) rfl (aR (d:=.int day) (b:=false) (ah (ds:=[row h kind (.int day :: .str p :: r')]) (av (d:=row h kind (.int day :: .str p :: r')) (b:=false) (by simp [ha]) rfl) (fM (.inr hb.2) rfl)) rfl (aK ?_))))
  exact gO (b1:=false) (ah (ds:=[.tup rows,.int known,.str p,.int day]) (by simp) (tw rows hr hl known p day)) fun _=>ah (ds:=[.tup rows,.int known,.str p,.int day]) (by simp) (AH rows hr hl known p day)
inductive Cd : Str->List D->Prop
 | root (o r : Str) (m f : Int) : Cd ("root" : Str) [.str o,.int m,.int f,.str r]
 | named (d : Int) (o p : Str) : Cd ("named" : Str) [.int d,.str o,.str p]
 | chosen (d : Int) (b o p : Str) (s : Int) : Cd ("chosen" : Str) [.int d,.str b,.str o,.str p,.int s]
 | heir (d : Int) (b o p : Str) : Cd ("heir" : Str) [.int d,.str b,.str o,.str p]
 | three (k : Str) (hk : k = ("death" : Str) ∨ k = ("lost" : Str) ∨ k = ("found" : Str)) (d : Int) (p : Str) : Cd k [.int d,.str p]
 | other (k : Str) (hk : k = ("leave" : Str) ∨ k = ("paper" : Str) ∨ k = ("like" : Str) ∨ k = ("copy" : Str) ∨ k = ("call" : Str)) (d : Int) (b : Str) (r : List D) (hf : bo r = true) (hp : r.all (ai 5) = true) : Cd k (.int d :: .str b :: r)
theorem Cd.deed {k : Str} {r : List D} (h : Cd k r) : DeedP k r:=by
 cases h with
 | root o rl m f=>exact ⟨rfl,by simp,fun h=>absurd h (by decide +kernel),fun h=>absurd h (by decide +kernel)⟩
 | named d o p=>exact ⟨rfl,by simp,fun h=>absurd h (by decide +kernel),fun h=>absurd h (by decide +kernel)⟩
 | chosen d b o p s=>exact ⟨rfl,by simp,fun h=>absurd h (by decide +kernel),fun _=>⟨d,b,_,rfl⟩⟩
 | heir d b o p=>exact ⟨rfl,by simp,fun h=>absurd h (by decide +kernel),fun _=>⟨d,b,_,rfl⟩⟩
 | three k hk d p=>exact ⟨rfl,by simp,fun _=>⟨d,p,rfl⟩,fun h=>by rcases hk with rfl | rfl | rfl <;> exact absurd h (by decide +kernel)⟩
 | other k hk d b r hf hp=>exact ⟨by simp [hf],by simp only [List.all_cons,hp,ai,Bool.and_true],fun h=>by rcases hk with rfl | rfl | rfl | rfl | rfl <;> exact absurd h (by decide +kernel),fun _=>⟨d,b,r,rfl⟩⟩
def lA (r : D) : Prop:=∃ h k az,r = row h k az/\Cd k az
theorem lA.rp {r : D} (h : lA r) : k7 r:=by obtain ⟨a,k,az,rfl,d⟩:=h; exact ⟨a,k,az,rfl,d.deed⟩
def bd (r : D) : Bool:=decide (kindOf r = ("root" : Str))
theorem Cd.day {k : Str} {r : List D} (h : Cd k r) (hk : k ≠ ("root" : Str)) : ∃ d q,r = .int d :: q:=by
 cases h with
 | root=>exact absurd rfl hk
 | named d=>exact ⟨d,_,rfl⟩
 | chosen d=>exact ⟨d,_,rfl⟩
 | heir d=>exact ⟨d,_,rfl⟩
 | three _ _ d=>exact ⟨d,_,rfl⟩
 | other _ _ d=>exact ⟨d,_,rfl⟩
theorem Cd.day_idx {k : Str} {r : List D} (h : Cd k r) (hk : k ≠ ("root" : Str)) : oy eQ (.str k) (.str "day") = some (.int 0,false):=by
 cases h with
 | root=>exact absurd rfl hk
 | named=>exact bg (by decide +kernel)
 | chosen=>exact bg (by decide +kernel)
 | heir=>exact bg (by decide +kernel)
 | three _ hh=>rcases hh with rfl | rfl | rfl <;> exact bg (by decide +kernel)
 | other _ hh=>rcases hh with rfl | rfl | rfl | rfl | rfl <;> exact bg (by decide +kernel)
theorem bI {f : FE} {ρ : DL.Env} {a b : Str} {x : Bool} {bb : Bool} (e : f ρ = some (.str a,bb)) (h : decide (a = b) = x) : tOf (f2 dEq f (fC (.str b))) ρ = some x:=aH (b:=false) (aG (x:=.str a) (y:=.str b) (b1:=bb) (b2:=false) e rfl (by rw [← h]; simp))
def uU (r : D) : D:=if bd r = true then .non else .int (aB r)
theorem uV {r : D} (g : lA r) : aD [r] = some (.str (kindOf r),false):=by
 obtain ⟨h,k,az,rfl,_⟩:=g
 exact eV h k az
theorem wv {r : D} (g : lA r) : aM [r] = some (uU r,false):=by
 obtain ⟨h,k,az,rfl,d⟩:=g
 unfold uU
 by_cases hk : k = ("root" : Str)
 ·have : bd (row h k az) = true:=decide_eq_true hk
  rw [if_pos this]
  exact a7 rfl (dO (bI (a:=k) (bb:=false) (ah (ds:=[row h k az]) rfl (eV _ _ _)) (decide_eq_true hk)) (aK rfl))
 ·have : bd (row h k az) = false:=decide_eq_false hk
  rw [if_neg (by rw [this]; decide)]
  obtain ⟨dd,q,rfl⟩:=d.day hk
  exact a7 rfl (bO (bI (a:=k) (bb:=false) (ah (ds:=[row h k (.int dd :: q)]) rfl (eV _ _ _)) (decide_eq_false hk)) (aK (ah (ds:=[row h k (.int dd :: q),.str "day"]) rfl (bi (i:=0) (d.day_idx hk) rfl))))
def cY (rows : List D) : Prop:=rows.length<=60/\∀ r ∈ rows,lA r
theorem cY.rp {rows : List D} (g : cY rows) : ∀ r ∈ rows,k7 r:=fun r hr=>(g.2 r hr).rp
theorem cY.le {rows : List D} (g : cY rows) : rows.length<=1000:=Nat.le_trans g.1 (by decide)
theorem cj {rows : List D} {known : Int} {x : D × Nat} (h : x ∈ au rows known) : rows[x.2]? = some x.1:=by
 obtain ⟨h1,_⟩:=List.mem_filter.mp h
 exact List.mem_zipIdx_iff_getElem?.mp h1
theorem jg (rows : List D) (known : Int) : (au rows known).length<=rows.length:=by
 have:=List.length_filter_le (fun x : D × Nat=>decide (cP x.1<=known)) rows.zipIdx
 rw [List.length_zipIdx] at this
 exact this
theorem jK (rows : List D) (known : Int) : ((au rows known).map (·.2)).Nodup:=by
 have h1 : (rows.zipIdx.map (·.2)).Nodup:=by rw [List.zipIdx_map_snd]; exact List.nodup_range'
 exact List.Nodup.sublist (List.Sublist.map _ (List.filter_sublist)) h1
def ca (rows : List D) (known : Int) : List (D × Nat):=(au rows known).filter fun x=>!bd x.1
def Ex (rows : List D) (known : Int) : List (D × Nat):=f9 (fun x=>bK (kA x)) (ca rows known)
theorem uW {a b : D × Nat} (h : bK (kA a) = bK (kA b)) : a.2 = b.2:=by
 have h : [aB a.1,(a.2 : Int)] = [aB b.1,(b.2 : Int)]:=h
 injection h with _ h
 injection h with h
 omega
theorem AI {rows : List D} {known : Int} {a b : D × Nat} (ha : a ∈ au rows known) (hb : b ∈ au rows known) (h : a.2 = b.2) : a = b:=by
 have h1:=cj ha
 have h2:=cj hb
 rw [h,h2] at h1
 exact Prod.ext (Option.some.inj h1).symm h
theorem tz {rows : List D} (g : cY rows) (known : Int) : d7 [.tup rows,.int known] = some (.lst ((Ex rows known).map fun x=>.int x.2),true):=by
 have hl:=g.1
 have hll:=jg rows known
 have hrow : ∀ x ∈ au rows known,atI rows (x.2 : Int) = some x.1/\lA x.1:=fun x hx=>⟨gS (cj hx),g.2 _ (List.mem_of_getElem? (cj hx))⟩
 have hc:=iQ (fi:=cG (fA ci (ac (af 0) (ac (af 1) aj)))) (nT:=1) (cap:=[0]) (tg:=tgN 0) (c:=tOf (f2 gG (fA aM (ac (f2 ixD (af 1) (af 0)) aj)) (fC .non))) (fe:=af 0) (ρ:=[some (.tup rows,false),some (.int known,false),none]) (au rows known) (fun x=>.int x.2) (fun x=>!bd x.1) (fun x=>.int x.2)
  (by
   show (fA ci (ac (af 0) (ac (af 1) aj)) _).bind _ = _
   rw [ah (ds:=[.tup rows,.int known]) rfl (mU rows g.rp g.le known)]
   rfl) (by omega) fun x hx=>by
   obtain ⟨ha,gx⟩:=hrow x hx
   refine ⟨_,rfl,aH (b:=false) (aG (x:=uU x.1) (y:=.non) (b1:=false) (b2:=false) (ah (ds:=[x.1]) (by simp [bE,ha]) (wv gx)) rfl ?_),fun _=>⟨false,by simp [bE]⟩⟩
   unfold uU
   cases bd x.1 <;> simp [wU]
 have hc' : cq (cG (fA ci (ac (af 0) (ac (af 1) aj)))) 1 [0] (tgN 0) (tOf (f2 gG (fA aM (ac (f2 ixD (af 1) (af 0)) aj)) (fC .non))) (af 0) [some (.tup rows,false),some (.int known,false),none] = some (.lst ((ca rows known).map fun x=>.int x.2),true):=hc
 have hfl : bo ((ca rows known).map fun x=>D.int x.2) = true:=cC fun d hd=>by obtain ⟨x,_,rfl⟩:=List.mem_map.mp hd; rfl
 have hdl : (ca rows known).length<=60:=Nat.le_trans (List.length_filter_le _ _) (by omega)
 have hmem : ∀ x ∈ ca rows known,x ∈ au rows known/\bd x.1 = false:=fun x hx=>by
  obtain ⟨h1,h2⟩:=List.mem_filter.mp hx
  exact ⟨h1,by simpa using h2⟩
 have hm : ∀ ρ : DL.Env,ρ[0]? = some (some (.tup rows,false))->fF (sP [0] (fA cV (ac (af 1) (ac (af 0) aj))) ρ) ((ca rows known).map fun x=>.int x.2) = some ((ca rows known).map fun x=>.tup [.int (aB x.1),.int x.2]):=fun ρ h0 =>
  fN (ca rows known) fun x hx=>by
   obtain ⟨h1,h2⟩:=hmem x hx
   obtain ⟨ha,gx⟩:=hrow x h1
   have hd:=wv gx
   unfold uU at hd
   rw [h2,if_neg (by decide)] at hd
   have hr : cV [.tup rows,.int x.2] = some (.tup [.int (aB x.1),.int x.2],false):=a7 rfl (aK (ah (ds:=[.int (aB x.1),.int x.2]) (av (d:=.int (aB x.1)) (b:=false) (ah (ds:=[x.1]) (by simp [ha]) hd) rfl) (by simp [sizeLine])))
   show (fA cV _ _).map _ = _
   rw [ah (ds:=[.tup rows,.int x.2]) (by simp [bE,h0]) hr]
   rfl
 have hk : cy ((ca rows known).map fun x=>D.tup [.int (aB x.1),.int x.2]) = some ((ca rows known).map kA):=dU _ fun x _=>rfl
 have hz : ((ca rows known).map kA).zip ((ca rows known).map fun x=>D.int x.2) = (ca rows known).map fun x=>(kA x,D.int x.2):=by rw [List.zip_map']
 have hnd : ((ca rows known).map (·.2)).Nodup:=List.Nodup.sublist (List.Sublist.map _ (List.filter_sublist)) (jK rows known)
 have hcond : ((ca rows known).map kA).length < 64/\dw ((ca rows known).map kA) = true/\dh ((ca rows known).map kA) = true/\(((ca rows known).map kA).map bK).Nodup:=by
  refine ⟨by rw [List.length_map]; omega,qQ _, ?_, ?_⟩
  ·unfold dh
   rw [Bool.or_eq_true]
   left
   simp [List.all_eq_true,kA]
  ·rw [List.map_map]
   exact List.Pairwise.map _ (fun a b h e=>h (uW e)) (List.pairwise_map.mp hnd)
 refine a7 rfl (bZ hc' hfl (aK ?_))
 show (ko (af 2) _ _) = _
 unfold ko
 show ((some (D.lst ((ca rows known).map fun x=>D.int x.2),false)).bind _) = _
 simp only [Option.bind_some]
 rw [hm _ rfl]
 simp only [Option.bind_some]
 rw [hk]
 simp only [Option.bind_some]
 rw [if_pos hcond]
 unfold gJ
 rw [hz]
 have key : ((Ex rows known).map fun x=>(kA x,D.int x.2)) = f9 (fun p : List At × D=>bK p.1) ((ca rows known).map fun x=>(kA x,D.int x.2)):=by
  refine gI _ (fun x hx y hy e=>?_) ((bf _ _).map _) ?_
  ·obtain ⟨a,ha,rfl⟩:=List.mem_map.mp hx
   obtain ⟨b,hb,rfl⟩:=List.mem_map.mp hy
   rw [AI (hmem a ha).1 (hmem b hb).1 (uW e)]
  ·exact List.pairwise_map.mpr (cU _ _)
 rw [← key,List.map_map]
 rfl
structure Cl where
 o : Str
 p : Str
 s : Int
 u : Option Int
 n : Nat
def uD : Option Int->D
 | none=>.non
 | some x=>.int x
def clD (c : Cl) : D:=.tup [.str c.o,.str c.p,.int c.s,uD c.u,.int c.n]
theorem AJ (u : Option Int) : bc (uD u) = true:=by cases u <;> rfl
theorem jL (c : Cl) : bc (clD c) = true:=by simp [clD,AJ]
theorem fO (cs : List Cl) : bo (cs.map clD) = true:=cC fun d hd=>by obtain ⟨c,_,rfl⟩:=List.mem_map.mp hd; exact jL c
def cm (c : Cl) (day : Int) : Bool:=decide (c.s<=day) && (match c.u with | none=>true | some x=>decide (day < x))
theorem at3 (d e f g : D) (r : List D) : atI (d :: e :: f :: g :: r) 3 = some g:=by have:=gL (xs:=d :: e :: f :: g :: r) (j:=3) (by simp); simpa using this
theorem at4 (d e f g h : D) (r : List D) : atI (d :: e :: f :: g :: h :: r) 4 = some h:=by have:=gL (xs:=d :: e :: f :: g :: h :: r) (j:=4) (by simp); simpa using this
theorem cl0 (c : Cl) : ixD (clD c) (.int 0) = some (.str c.o,false):=by simp [clD,at0]
theorem cl1 (c : Cl) : ixD (clD c) (.int 1) = some (.str c.p,false):=by simp [clD,at1]
theorem cl2 (c : Cl) : ixD (clD c) (.int 2) = some (.int c.s,false):=by simp [clD,at2]
theorem cl3 (c : Cl) : ixD (clD c) (.int 3) = some (uD c.u,false):=by simp [clD,at3]
theorem cl4 (c : Cl) : ixD (clD c) (.int 4) = some (.int c.n,false):=by simp [clD,at4]
theorem cD (ds : List D) (h : ds.length<=100) : aP ds = some (.tup ds,false):=if_pos (bG (by omega))
theorem ng (ds : List D) (h : ds.length<=100) : bW ds = some (.lst ds,true):=if_pos (bG (by omega))
theorem AK (s day : Int) (u : Option Int) : i6 [.int day,.tup [.int s,uD u]] = some (.bl (decide (s<=day) && (match u with | none=>true | some x=>decide (day < x))),false):=by
 refine a7 rfl (aK (gO (b1:=false) (by simp [at0]) fun _=>?_))
 cases u with
 | none=>exact BD (p:=true) (q:=true) (b1:=false) (by simp [at1,uD]) (by simp)
 | some x=>exact BD (p:=false) (q:=decide (day < x)) (b1:=false) (by simp [at1,uD]) fun _=>by simp [at1,uD]
theorem ni (c : Cl) (day : Int) : bu [clD c,.int day] = some (.bl (cm c day),false) :=
 a7 rfl (aK (ah (ds:=[.int day,.tup [.int c.s,uD c.u]]) (av (b:=false) rfl (av (b:=false) (ah (ds:=[.int c.s,uD c.u]) (av (aG (x:=clD c) (y:=.int 2) (b1:=false) (b2:=false) rfl rfl (cl2 c)) (av (aG (x:=clD c) (y:=.int 3) (b1:=false) (b2:=false) rfl rfl (cl3 c)) rfl)) (cD _ (by simp))) rfl)) (AK c.s day c.u)))
theorem t4 (c : Cl) : bH [clD c] = some (.tup [.int c.s,.int c.n],false) :=
 a7 rfl (aK (ah (ds:=[.int c.s,.int c.n]) (av (aG (x:=clD c) (y:=.int 2) (b1:=false) (b2:=false) rfl rfl (cl2 c)) (av (aG (x:=clD c) (y:=.int 4) (b1:=false) (b2:=false) rfl rfl (cl4 c)) rfl)) (cD _ (by simp))))
theorem qS (c : Cl) : cX [clD c] = some (.tup [.str c.o,.int c.s,.int c.n],false) :=
 a7 rfl (aK (ah (ds:=[.str c.o,.int c.s,.int c.n]) (av (aG (x:=clD c) (y:=.int 0) (b1:=false) (b2:=false) rfl rfl (cl0 c)) (av (aG (x:=clD c) (y:=.int 2) (b1:=false) (b2:=false) rfl rfl (cl2 c)) (av (aG (x:=clD c) (y:=.int 4) (b1:=false) (b2:=false) rfl rfl (cl4 c)) rfl))) (cD _ (by simp))))
def kS (c : Cl) : List At:=[.i c.s,.i c.n]
def fP : Cl->List Cl->Cl
 | b,[]=>b
 | b,x :: r=>if aZ (kS x) (kS b) = some true then fP x r else fP b r
def jM : Cl->List Cl->Cl
 | b,[]=>b
 | b,x :: r=>if aZ (kS b) (kS x) = some true then jM x r else jM b r
theorem nj : ∀ (r : List Cl) (b : Cl),gK (kS b,clD b) (r.map fun x=>(kS x,clD x)) = clD (fP b r)
 | [],b=>rfl
 | x :: r,b=>by
  rw [List.map_cons,gK,fP]
  split
  ·exact nj r x
  ·exact nj r b
theorem nn : ∀ (r : List Cl) (b : Cl),iP (kS b,clD b) (r.map fun x=>(kS x,clD x)) = clD (jM b r)
 | [],b=>rfl
 | x :: r,b=>by
  rw [List.map_cons,iP,jM]
  split
  ·exact nn r x
  ·exact nn r b
theorem ww (cs : List Cl) : dw (cs.map kS) = true:=by
 unfold dw
 simp [List.all_eq_true,kS,Ew]
theorem np (ρ : DL.Env) (cs : List Cl) : fF (oz bH ρ) (cs.map clD) = some (cs.map fun c=>.tup [.int c.s,.int c.n]):=fN cs fun c _=>by
 show (bH [clD c]).map _ = _
 rw [t4]
 rfl
theorem lb (cs : List Cl) : cy (cs.map fun c=>D.tup [.int c.s,.int c.n]) = some (cs.map kS):=dU cs fun c _=>rfl
theorem z4 {f : FE} {ρ : DL.Env} {b : Cl} {r : List Cl} {bb : Bool} (e : f ρ = some (.lst ((b :: r).map clD),bb)) : mz f (oz bH) ρ = some (clD (fP b r),false):=by
 unfold mz
 rw [e,Option.bind_some]
 dsimp only
 rw [np,Option.bind_some,lb,Option.bind_some,if_pos (ww _)]
 have : ((b :: r).map kS).zip ((b :: r).map clD) = (kS b,clD b) :: r.map fun x=>(kS x,clD x):=by rw [List.zip_map']; rfl
 rw [this]
 show some (gK _ _,false) = _
 rw [nj]
theorem CY {f : FE} {ρ : DL.Env} {b : Cl} {r : List Cl} {bb : Bool} (e : f ρ = some (.lst ((b :: r).map clD),bb)) : mw f (oz bH) ρ = some (clD (jM b r),false):=by
 unfold mw
 rw [e,Option.bind_some]
 dsimp only
 rw [np,Option.bind_some,lb,Option.bind_some,if_pos (ww _)]
 have : ((b :: r).map kS).zip ((b :: r).map clD) = (kS b,clD b) :: r.map fun x=>(kS x,clD x):=by rw [List.zip_map']; rfl
 rw [this]
 show some (iP _ _,false) = _
 rw [nn]
def d8 (rl : Str) (b : Cl) (r : List Cl) : Cl:=if rl = ("last" : Str) then jM b r else fP b r
theorem z5 (rl : Str) (b : Cl) (r : List Cl) : gn [.lst ((b :: r).map clD),.str rl] = some (.str (d8 rl b r).p,false):=by
 unfold d8
 by_cases h : rl = ("last" : Str)
 ·rw [if_pos h]
  exact a7 rfl (dO (bI (a:=rl) (bb:=false) rfl (decide_eq_true h)) (aK (aG (x:=clD (jM b r)) (y:=.int 1) (b1:=false) (b2:=false) (CY (bb:=false) rfl) rfl (cl1 _))))
 ·rw [if_neg h]
  exact a7 rfl (bO (bI (a:=rl) (bb:=false) rfl (decide_eq_false h)) (aK (aG (x:=clD (fP b r)) (y:=.int 1) (b1:=false) (b2:=false) (z4 (bb:=false) rfl) rfl (cl1 _))))
theorem nq : ∀ (r : List Cl) (b : Cl),fP b r ∈ b :: r
 | [],b=>by simp [fP]
 | x :: r,b=>by
  rw [fP]
  split
  ·exact mZ _ (nq r x)
  ·rcases List.mem_cons.mp (nq r b) with h | h
   ·rw [h]; exact mX
   ·exact mZ _ (mZ _ h)
theorem nr : ∀ (r : List Cl) (b : Cl),jM b r ∈ b :: r
 | [],b=>by simp [jM]
 | x :: r,b=>by
  rw [jM]
  split
  ·exact mZ _ (nr r x)
  ·rcases List.mem_cons.mp (nr r b) with h | h
   ·rw [h]; exact mX
   ·exact mZ _ (mZ _ h)
theorem xy (rl : Str) (b : Cl) (r : List Cl) : d8 rl b r ∈ b :: r:=by
 unfold d8
 split
 ·exact nr r b
 ·exact nq r b
def alL (cs : List Cl) (o : Str) (day : Int) : List Cl:=cs.filter fun c=>decide (c.o = o) && cm c day
def gT (cs : List Cl) : List Str:=iO (eG (cs.map (·.p)))
def AL : List Cl->Nat
 | []=>0
 | b :: r=>(fP b r).n
def gU (rl : Str) : List Cl->D
 | []=>.tup [.str "none"]
 | b :: r=>if 1 < (gT (b :: r)).length/\rl = ("open" : Str) then .tup [.str "parted",.lst ((gT (b :: r)).map .str)]
  else .tup [.str "one",.str (d8 rl b r).p,.int (AL ((b :: r).filter fun c=>decide (c.p = (d8 rl b r).p)))]
def iS (cs : List Cl) (o rl : Str) (day : Int) : D:=gU rl (alL cs o day)
theorem AM {z : Str} {zs : List Str} : eG (z :: zs) ≠ []:=by
 have : ∀ (ss : List Str) (ts : List Str),z ∈ ts->z ∈ ss.foldl gf ts:=fun ss=>by
  induction ss with
  | nil=>intro ts h; exact h
  | cons a l ih=>intro ts h; exact ih _ (md.mpr (.inl h))
 have h:=this zs (gf [] z) (md.mpr (.inr rfl))
 intro e
 unfold eG at e
 rw [List.foldl_cons] at e
 rw [e] at h
 cases h
theorem lf {h : Int} {o rl : Str} {m f : Int} : aq [row h ("root" : Str) [.str o,.int m,.int f,.str rl],.str "office"] = some (.str o,false):=bi (i:=0) (bg (by decide +kernel)) rfl
theorem xz {h : Int} {o rl : Str} {m f : Int} : aq [row h ("root" : Str) [.str o,.int m,.int f,.str rl],.str "rule"] = some (.str rl,false):=bi (i:=3) (bg (by decide +kernel)) rfl
theorem t6 (zs : List Str) : eO (zs.map .str) = some zs:=by
 induction zs with
 | nil=>rfl
 | cons z zs ih=>simp [ih]
theorem jN (cs : List Cl) (hl : cs.length<=60) {h : Int} {o rl : Str} {m f : Int} (day : Int) : ce [.lst (cs.map clD),row h ("root" : Str) [.str o,.int m,.int f,.str rl],.int day] = some (iS cs o rl day,false):=by
 let rt : D:=row h ("root" : Str) [.str o,.int m,.int f,.str rl]
 have h1:=iQ (fi:=cG (af 0)) (nT:=1) (cap:=[2,1]) (tg:=tgN 0) (c:=cM (tOf (f2 dEq (f2 ixD (af 0) (fC (.int 0))) (fA aq (ac (af 2) (ac (fC (.str "office")) aj))))) (tOf (fA bu (ac (af 0) (ac (af 1) aj))))) (fe:=af 0)
  (ρ:=[some (.lst (cs.map clD),false),some (rt,false),some (.int day,false),none,none,none,none]) cs clD (fun c=>decide (c.o = o) && cm c day) clD (by simp) (by omega) fun c hc=>by
   refine ⟨_,rfl,cz (aH (b:=false) (aG (x:=.str c.o) (y:=.str o) (b1:=false) (b2:=false) (aG (x:=clD c) (y:=.int 0) (b1:=false) (b2:=false) (by simp [bE]) rfl (cl0 c)) (ah (ds:=[rt,.str "office"]) (by simp [bE]) lf) (by simp))) fun _=>aH (b:=false) (ah (ds:=[clD c,.int day]) (by simp [bE]) (ni c day)),fun _=>⟨false,by simp [bE]⟩⟩
 have h1' : cq (cG (af 0)) 1 [2,1] (tgN 0) (cM (tOf (f2 dEq (f2 ixD (af 0) (fC (.int 0))) (fA aq (ac (af 2) (ac (fC (.str "office")) aj))))) (tOf (fA bu (ac (af 0) (ac (af 1) aj))))) (af 0) [some (.lst (cs.map clD),false),some (rt,false),some (.int day,false),none,none,none,none] = some (.lst ((alL cs o day).map clD),true):=h1
 have hal : (alL cs o day).length<=60:=Nat.le_trans (List.length_filter_le _ _) hl
 unfold iS
 generalize alL cs o day = al at h1' hal
 have h2 : ∀ ρ : DL.Env,ρ[3]? = some (some (.lst (al.map clD),true))->f1 dH (cq (cG (af 3)) 1 [] (tgN 0) iL (f2 ixD (af 0) (fC (.int 1)))) ρ = some (.lst ((gT al).map .str),true):=fun ρ h3=>by
  have hc:=we (fi:=cG (af 3)) (nT:=1) (cap:=[]) (tg:=tgN 0) (fe:=f2 ixD (af 0) (fC (.int 1))) (ρ:=ρ) al clD (fun c=>.str c.p) (by simp [h3]) (by omega) fun c hc=>⟨_,rfl,false,aG (x:=clD c) (y:=.int 1) (b1:=false) (b2:=false) (by simp [bE]) rfl (cl1 c)⟩
  have e2 : al.map (fun c=>D.str c.p) = (al.map (·.p)).map .str:=by rw [List.map_map]; rfl
  rw [e2] at hc
  unfold f1
  rw [hc,Option.bind_some]
  show (eO ((al.map (·.p)).map .str)).bind _ = _
  rw [t6,Option.bind_some,if_pos (by rw [List.length_map]; omega)]
  rfl
 have hpl : bo ((gT al).map D.str) = true:=dL _
 refine a7 rfl (bZ (ds:=al.map clD) h1' (fO al) (bZ (ds:=(gT al).map .str) (h2 _ rfl) hpl ?_))
 cases al with
 | nil=>exact dO (aH (b:=false) (by simp [gT,eG,iO])) (aK (ah (ds:=[.str "none"]) rfl (cD _ (by simp))))
 | cons b r =>
  have hne : (gT (b :: r)).length ≠ 0:=by
   unfold gT
   rw [(cS _).length_eq]
   intro e
   exact AM (List.length_eq_zero_iff.mp e)
  refine bO (aH (b:=false) (by simp [hne])) ?_
  have hrule : ∀ ρ : DL.Env,ρ[1]? = some (some (rt,false))->fA aq (ac (af 1) (ac (fC (.str "rule")) aj)) ρ = some (.str rl,false):=fun ρ q1=>ah (ds:=[rt,.str "rule"]) (by simp [q1]) xz
  by_cases hp : 1 < (gT (b :: r)).length/\rl = ("open" : Str)
  ·have : gU rl (b :: r) = .tup [.str "parted",.lst ((gT (b :: r)).map .str)]:=by rw [gU,if_pos hp]
   rw [this]
   exact dO (cz (p:=true) (q:=true) (aH (b:=false) (by simp; omega)) fun _=>bI (bb:=false) (hrule _ rfl) (decide_eq_true hp.2)) (aK (ah (ds:=[.str "parted",.lst ((gT (b :: r)).map .str)]) (by simp) (cD _ (by simp))))
  ·have : gU rl (b :: r) = .tup [.str "one",.str (d8 rl b r).p,.int (AL ((b :: r).filter fun c=>decide (c.p = (d8 rl b r).p)))]:=by rw [gU,if_neg hp]
   rw [this]
   have hcond : cM (tOf (f2 iGt (fA dE (ac (af 4) aj)) (fC (.int 1)))) (tOf (f2 dEq (fA aq (ac (af 1) (ac (fC (.str "rule")) aj))) (fC (.str "open")))) [some (.lst (cs.map clD),false),some (rt,false),some (.int day,false),some (.lst ((b :: r).map clD),true),some (.lst ((gT (b :: r)).map .str),true),none,none] = some false:=by
    by_cases h5 : 1 < (gT (b :: r)).length
    ·exact cz (p:=true) (q:=false) (aH (b:=false) (by simp; omega)) fun _=>bI (bb:=false) (hrule _ rfl) (decide_eq_false fun e=>hp ⟨h5,e⟩)
    ·exact cz (p:=false) (q:=false) (aH (b:=false) (by simp; omega)) (by simp)
   have hmem:=xy rl b r
   let ch:=d8 rl b r
   have h6:=iQ (fi:=cG (af 3)) (nT:=1) (cap:=[5]) (tg:=tgN 0) (c:=tOf (f2 dEq (f2 ixD (af 0) (fC (.int 1))) (af 1))) (fe:=af 0) (ρ:=[some (.lst (cs.map clD),false),some (rt,false),some (.int day,false),some (.lst ((b :: r).map clD),true),some (.lst ((gT (b :: r)).map .str),true),some (.str ch.p,false),none]) (b :: r) clD (fun c=>decide (c.p = ch.p)) clD (by simp) (by omega) fun c hc=>⟨_,rfl,aH (b:=false) (aG (x:=.str c.p) (y:=.str ch.p) (b1:=false) (b2:=false) (aG (x:=clD c) (y:=.int 1) (b1:=false) (b2:=false) (by simp [bE]) rfl (cl1 c)) (by simp [bE]) (by simp)),fun _=>⟨false,by simp [bE]⟩⟩
   obtain ⟨b2,r2,hf⟩ : ∃ b2 r2,(b :: r).filter (fun c=>decide (c.p = ch.p)) = b2 :: r2:=by
    cases hq : (b :: r).filter (fun c=>decide (c.p = ch.p)) with
    | nil =>
     have:=List.filter_eq_nil_iff.mp hq _ hmem
     simp [ch] at this
    | cons b2 r2=>exact ⟨b2,r2,rfl⟩
   rw [hf] at h6 ⊢
   refine bO hcond (aR (d:=.str ch.p) (b:=false) (ah (ds:=[.lst ((b :: r).map clD),.str rl]) (av (b:=false) (by simp) (av (hrule _ rfl) rfl)) (z5 rl b r)) rfl (aR (d:=clD (fP b2 r2)) (b:=false) (z4 (bb:=true) h6) (jL _) (aK (ah (ds:=[.str "one",.str ch.p,.int (fP b2 r2).n]) (av (b:=false) rfl (av (b:=false) rfl (av (aG (x:=clD (fP b2 r2)) (y:=.int 4) (b1:=false) (b2:=false) rfl rfl (cl4 _)) rfl))) (cD _ (by simp))))))
def BF : D->D
 | .tup ds=>.tup (kh ds none (some 2))
 | d=>d
def t7 (cs : List Cl) (o rl p : Str) (day : Int) : Bool:=eqD (BF (iS cs o rl day)) (.tup [.str "one",.str p])
theorem uX (n : Nat) (zs : List Str) : (zs.map D.str).all (ai n) = true:=by
 induction zs with
 | nil=>rfl
 | cons a l ih=>simp
theorem p6 (rl : Str) (al : List Cl) : ∃ ds,gU rl al = .tup ds/\ds.all (ai 5) = true:=by
 cases al with
 | nil=>exact ⟨_,rfl,by simp⟩
 | cons b r =>
  rw [gU]
  split
  ·exact ⟨_,rfl,by simp only [List.all_cons,List.all_nil,ai,Bool.and_true,Bool.true_and]; exact uX _ _⟩
  ·exact ⟨_,rfl,by simp⟩
theorem z6 {ds : List D} {lo hi : Option Int} (h : ds.all (ai 5) = true) : (kh ds lo hi).all (ai 5) = true:=by
 rw [List.all_eq_true] at h ⊢
 exact fun d hd=>h d (List.mem_of_mem_drop (List.mem_of_mem_take hd))
theorem kD {ds : List D} (h : ds.all (ai 5) = true) : ai 40 (.tup ds) = true:=eC 6 40 _ (by decide) (by simpa only [ai] using h)
theorem AN (cs : List Cl) (hl : cs.length<=60) {h : Int} {o rl : Str} {m f : Int} (p : Str) (day : Int) : dj [.lst (cs.map clD),row h ("root" : Str) [.str o,.int m,.int f,.str rl],.str p,.int day] = some (.bl (t7 cs o rl p day),false):=by
 have hb:=jN cs hl (h:=h) (o:=o) (rl:=rl) (m:=m) (f:=f) day
 obtain ⟨ds,e,hd⟩:=p6 rl (alL cs o day)
 have e' : iS cs o rl day = .tup ds:=e
 refine a7 rfl (aK (aG (x:=BF (iS cs o rl day)) (y:=.tup [.str "one",.str p]) (b1:=false) (b2:=false) ?_ (by simp [sizeLine]) ?_))
 ·have hc:=ah (F:=ce) (fa:=ac (af 0) (ac (af 1) (ac (af 3) aj))) (ρ:=[some (.lst (cs.map clD),false),some (row h ("root" : Str) [.str o,.int m,.int f,.str rl],false),some (.str p,false),some (.int day,false)]) (ds:=[.lst (cs.map clD),row h ("root" : Str) [.str o,.int m,.int f,.str rl],.int day]) rfl hb
  rw [e'] at hc ⊢
  show fSl (fA ce (ac (af 0) (ac (af 1) (ac (af 3) aj)))) gv (dD (fC (.int 2))) _ = _
  unfold fSl
  rw [show (List.map (fun d=>some (d,false)) [D.lst (cs.map clD),row h ("root" : Str) [.str o,.int m,.int f,.str rl],.str p,.int day] ++ List.replicate 0 none : DL.Env) = [some (.lst (cs.map clD),false),some (row h ("root" : Str) [.str o,.int m,.int f,.str rl],false),some (.str p,false),some (.int day,false)] from rfl,hc]
  rfl
 ·unfold t7 dEq
  rw [if_pos]
  rw [e']
  exact ⟨kD (z6 hd),kD (by simp)⟩
def ax (j : Nat) : D->Str
 | .tup [_,.tup (_ :: az)]=>match az[j]? with
  | some (.str s)=>s
  | _=>("" : Str)
 | _=>("" : Str)
def gV (j : Nat) : D->Int
 | .tup [_,.tup (_ :: az)]=>match az[j]? with
  | some (.int s)=>s
  | _=>0
 | _=>0
theorem Cd.root_of {r : List D} (h : Cd ("root" : Str) r) : ∃ o rl,∃ m f : Int,r = [.str o,.int m,.int f,.str rl]:=by
 generalize hk : ("root" : Str) = k at h
 cases h with
 | root o rl m f=>exact ⟨o,rl,m,f,rfl⟩
 | named=>exact absurd hk (by decide +kernel)
 | chosen=>exact absurd hk (by decide +kernel)
 | heir=>exact absurd hk (by decide +kernel)
 | three _ hh=>rcases hh with rfl | rfl | rfl <;> exact absurd hk (by decide +kernel)
 | other _ hh=>rcases hh with rfl | rfl | rfl | rfl | rfl <;> exact absurd hk (by decide +kernel)
theorem p7 {κ α : Type} [DecidableEq κ] {ks : List κ} {k : κ} {x y : α} : ∀ {xs : List α},y ∈ dI ks xs k x->y = x ∨ y ∈ xs:=by
 intro xs h
 unfold dI at h
 split at h
 ·rename_i hk0
  clear hk0
  induction ks generalizing xs with
  | nil=>simp at h
  | cons a ks ih =>
   cases xs with
   | nil=>simp at h
   | cons b xs =>
    rw [List.zipWith_cons_cons,List.mem_cons] at h
    rcases h with h | h
    ·split at h
     ·exact .inl h
     ·exact .inr (by rw [h]; exact mX)
    ·rcases ih h with h | h
     ·exact .inl h
     ·exact .inr (mZ _ h)
 ·rcases List.mem_append.mp h with h | h
  ·exact .inr h
  ·exact .inl (List.mem_singleton.mp h)
theorem p8 : ∀ (l : List (Key × D)) (a : List Key × List D) (y : D),y ∈ (l.foldl qK a).2->y ∈ a.2 ∨ ∃ p ∈ l,p.2 = y
 | [],a,y,h=>.inl h
 | p :: l,a,y,h=>by
  rw [List.foldl_cons] at h
  rcases p8 l _ y h with h | ⟨q,hq,e⟩
  ·rcases p7 (show y ∈ dI a.1 a.2 p.1 p.2 from h) with h | h
   ·exact .inr ⟨p,mX,h.symm⟩
   ·exact .inl h
  ·exact .inr ⟨q,mZ _ hq,e⟩
theorem p9 {α : Type} (f : α->Str) (g : α->D) : ∀ (l : List α),fq (l.map fun x=>D.tup [.str (f x),g x]) = some (l.map fun x=>(.inr (f x),g x))
 | []=>rfl
 | x :: l=>by
  rw [List.map_cons,fq,p9 f g l]
  rfl
theorem nu {κ : Type} [DecidableEq κ] : ∀ {ks : List κ} {vs : List D} {k : κ} {v : D},cb ks vs k = some v->v ∈ vs
 | k' :: ks,d :: ds,k,v,h=>by
  unfold cb at h
  split at h
  ·cases h; exact mX
  ·exact mZ _ (nu h)
 | [],_,_,_,h=>by simp [cb] at h
 | _ :: _,[],_,_,h=>by simp [cb] at h
def gW (KL : List (D × Nat)) : List (Key × D):=(KL.filter fun x=>bd x.1).map fun x=>(.inr (ax 0 x.1),x.1)
def fQ (KL : List (D × Nat)) (o : Str) : Option D:=cb (bq (gW KL)).1 (bq (gW KL)).2 (.inr o)
theorem nv {r : D} (g : lA r) (h : bd r = true) : ∃ a o rl,∃ m f : Int,r = row a ("root" : Str) [.str o,.int m,.int f,.str rl]:=by
 obtain ⟨a,k,az,rfl,d⟩:=g
 have hk : k = ("root" : Str):=of_decide_eq_true h
 subst hk
 obtain ⟨o,rl,m,f,rfl⟩:=d.root_of
 exact ⟨a,o,rl,m,f,rfl⟩
theorem cu {rows : List D} (g : cY rows) {known : Int} {x : D × Nat} (hx : x ∈ au rows known) : atI rows (x.2 : Int) = some x.1/\lA x.1:=⟨gS (cj hx),g.2 _ (List.mem_of_getElem? (cj hx))⟩
theorem lg {rows : List D} (g : cY rows) {known : Int} {o : Str} {v : D} (h : fQ (au rows known) o = some v) : ∃ a o2 rl,∃ m f : Int,v = row a ("root" : Str) [.str o2,.int m,.int f,.str rl]:=by
 have hv:=nu h
 rcases p8 _ ([],[]) v hv with h | ⟨p,hp,e⟩
 ·cases h
 ·obtain ⟨x,hx,rfl⟩:=List.mem_map.mp hp
  obtain ⟨h1,h2⟩:=List.mem_filter.mp hx
  rw [← e]
  exact nv (cu g h1).2 h2
theorem t8 {rows : List D} (g : cY rows) (known : Int) : eR [.tup rows,.int known] = some (.dk (bq (gW (au rows known))).1 (bq (gW (au rows known))).2,false):=by
 have hl:=jg rows known
 have hl2:=g.1
 have h1:=we (fi:=cG (fA ci (ac (af 0) (ac (af 1) aj)))) (nT:=1) (cap:=[0]) (tg:=tgN 0) (fe:=f2 ixD (af 1) (af 0)) (ρ:=[some (.tup rows,false),some (.int known,false),none]) (au rows known) (fun x=>.int x.2) Prod.fst
  (by
   show (fA ci (ac (af 0) (ac (af 1) aj)) _).bind _ = _
   rw [ah (ds:=[.tup rows,.int known]) rfl (mU rows g.rp g.le known)]
   rfl) (by omega) fun x hx=>by
   have ha:=(cu g hx).1
   exact ⟨_,rfl,false,by simp [bE,ha]⟩
 have hn : bo ((au rows known).map Prod.fst) = true:=cC fun d hd=>by
  obtain ⟨x,hx,rfl⟩:=List.mem_map.mp hd
  exact (cu g hx).2.rp.flat
 have h2:=iQ (fi:=cG (af 2)) (nT:=1) (cap:=[]) (tg:=tgN 0) (c:=tOf (f2 dEq (fA aD (ac (af 0) aj)) (fC (.str "root")))) (fe:=fA aP (ac (fA aq (ac (af 0) (ac (fC (.str "office")) aj))) (ac (af 0) aj)))
  (ρ:=[some (.tup rows,false),some (.int known,false),some (.lst ((au rows known).map Prod.fst),true)]) (au rows known) Prod.fst (fun x=>bd x.1) (fun x=>.tup [.str (ax 0 x.1),x.1]) (by simp) (by omega) fun x hx=>by
   have gr:=(cu g hx).2
   refine ⟨_,rfl,bI (a:=kindOf x.1) (bb:=false) (ah (ds:=[x.1]) rfl (uV gr)) rfl,fun hp=>⟨false, ?_⟩⟩
   obtain ⟨a,o,rl,m,f,e⟩:=nv gr hp
   refine ah (ds:=[.str (ax 0 x.1),x.1]) (av (b:=false) (ah (ds:=[x.1,.str "office"]) rfl ?_) rfl) (cD _ (by simp))
   rw [e]
   exact lf
 refine a7 rfl (bZ (ds:=(au rows known).map Prod.fst) h1 hn (aK (ah (ds:=[.lst (((au rows known).filter fun x : D × Nat=>bd x.1).map fun x : D × Nat=>D.tup [.str (ax 0 x.1),x.1])]) (av h2 rfl) ?_)))
 rw [gg,p9 (fun x : D × Nat=>ax 0 x.1) Prod.fst]
 rfl
def lB : D × Nat->List (D × Nat)->D × Nat
 | b,[]=>b
 | b,x :: r=>if aZ (kA x) (kA b) = some true then lB x r else lB b r
theorem qT : ∀ (r : List (D × Nat)) (b : D × Nat),gK (kA b,.int b.2) (r.map fun x=>(kA x,D.int x.2)) = .int (lB b r).2
 | [],b=>rfl
 | x :: r,b=>by
  rw [List.map_cons,gK,lB]
  split
  ·exact qT r x
  ·exact qT r b
def dq (KL : List (D × Nat)) (p : Str) (day : Int) (i : Nat) : Bool:=match KL.filter (fun x=>told bP p day x.1) with
 | []=>false
 | b :: r=>decide ((lB b r).2 = i)
theorem z7 {rows : List D} (g : cY rows) (known : Int) {x : D × Nat} (hx : x ∈ au rows known) {a d : Int} {p : Str} (e : x.1 = row a ("death" : Str) [.int d,.str p]) : cJ [.tup rows,.int known,.int x.2] = some (.bl (dq (au rows known) p d x.2),false):=by
 have ha:=(cu g hx).1
 have gx:=(cu g hx).2
 have ht:=qO rows g.rp g.le known bP gq p d
 have hpart : aq [x.1,.str "person"] = some (.str p,false):=by rw [e]; exact bi (i:=1) (bg (by decide +kernel)) rfl
 have hday : aM [x.1] = some (.int d,false):=by rw [e]; exact fM (.inl (by decide +kernel)) rfl
 have hmem : x ∈ l8 rows known bP p d:=List.mem_filter.mpr ⟨hx,by rw [e]; simp [told,row,bP,mR]⟩
 have hfv : dq (au rows known) p d x.2 = match l8 rows known bP p d with | []=>false | b :: r=>decide ((lB b r).2 = x.2):=rfl
 have key : ∀ y ∈ l8 rows known bP p d,∃ h k dd,rows[y.2]? = some (row h k [.int dd,.str p])/\y.1 = row h k [.int dd,.str p]/\bT k = true:=fun y hy=>by
  obtain ⟨hg,htl⟩:=wq hy
  obtain ⟨h,k,dd,e2,h3,_⟩:=mW gq (g.rp _ (List.mem_of_getElem? hg)) htl
  exact ⟨h,k,dd,by rw [hg,e2],e2,h3⟩
 rw [hfv]
 cases hs : l8 rows known bP p d with
 | nil=>rw [hs] at hmem; cases hmem
 | cons b r =>
  rw [hs] at ht key
  have hm : ∀ ρ : DL.Env,ρ[0]? = some (some (.tup rows,false))->fF (sP [0] (fA cV (ac (af 1) (ac (af 0) aj))) ρ) ((b :: r).map fun y=>.int y.2) = some ((b :: r).map fun y=>.tup [.int (aB y.1),.int y.2]):=fun ρ h0 =>
   fN (b :: r) fun y hy=>by
    obtain ⟨h,k,dd,hg,e2,h3⟩:=key y hy
    show (fA cV _ _).map _ = _
    rw [ah (ds:=[.tup rows,.int y.2]) (by simp [bE,h0]) (wt hg h3),e2]
    rfl
  have hk : cy ((b :: r).map fun y=>D.tup [.int (aB y.1),.int y.2]) = some ((b :: r).map kA):=dU _ fun y _=>rfl
  have hz : ((b :: r).map kA).zip ((b :: r).map fun y=>D.int y.2) = (kA b,D.int b.2) :: r.map fun y=>(kA y,D.int y.2):=by rw [List.zip_map']; rfl
  have hfl : bo ((b :: r).map fun y=>D.int y.2) = true:=cC fun d hd=>by obtain ⟨y,_,rfl⟩:=List.mem_map.mp hd; rfl
  refine a7 rfl (aR (d:=x.1) (b:=false) (by simp [ha]) gx.rp.flat (bZ (ds:=(b :: r).map fun y=>.int y.2) (ah (ds:=[.tup rows,.int known,.tup (bP.map .str),.str p,.int d]) (av (b:=false) rfl (av (b:=false) rfl (av (b:=false) (ah (ds:=[.str "death"]) rfl (cD _ (by simp))) (av (ah (ds:=[x.1,.str "person"]) rfl hpart) (av (ah (ds:=[x.1]) rfl hday) rfl))))) ht) hfl (aK (aG (x:=.int (lB b r).2) (y:=.int x.2) (b1:=false) (b2:=false) ?_ rfl ?_))))
  ·unfold mz
   show ((some (D.lst ((b :: r).map fun y=>D.int y.2),false)).bind _) = _
   rw [Option.bind_some]
   dsimp only
   rw [hm _ rfl,Option.bind_some,hk,Option.bind_some,if_pos (qQ _),hz]
   show some (gK _ _,false) = _
   rw [qT]
  ·rw [wg]
   congr 3
   apply decide_eq_decide.mpr
   omega
abbrev KL:=List (D × Nat)
def fu (K : KL) (p : Str) (day : Int) : Bool:=(K.filter fun x=>told bP p day x.1).isEmpty
def BG (K : KL) (p : Str) (day : Int) : Bool:=match BE (K.filter fun x=>told jJ p day x.1) with
 | none=>true
 | some x=>decide (kindOf x.1 = ("found" : Str))
def jh (K : KL) (r : D) : Bool:=dn (kindOf r) && (fu K (xw r) (aB r) && BG K (xw r) (aB r))
def t9 (r : D) : Str:=if kindOf r = ("named" : Str) then ax 1 r else ax 2 r
def o0 : List Str:=[("named" : Str),("chosen" : Str),("heir" : Str)]
def bp (K : KL) (so : List Cl) (x : D × Nat) : Bool :=
 if kindOf x.1 = ("death" : Str) then dq K (ax 1 x.1) (aB x.1) x.2
 else if kindOf x.1 ∈ o0 then match fQ K (t9 x.1) with
  | none=>false
  | some v=>if kindOf x.1 = ("named" : Str) then true else jh K x.1 && t7 so (ax 0 v) (ax 3 v) (ax 1 x.1) (aB x.1)
 else false
theorem AO (rows : List D) (known : Int) (p : Str) (day : Int) : kB rows known p day = fu (au rows known) p day:=rfl
theorem AQ {rows : List D} {known : Int} {r : D} (h : cP r<=known) : qR rows known r = jh (au rows known) r:=by
 unfold qR jh
 rw [decide_eq_true h,Bool.true_and]
 rfl
theorem x0 {rows : List D} (g : cY rows) (known : Int) (so : List Cl) (hso : so.length<=60) {x : D × Nat} (hx : x ∈ au rows known) (hnr : bd x.1 = false) : gP [.tup rows,.int known,.lst (so.map clD),.int x.2] = some (.bl (bp (au rows known) so x),false):=by
 obtain ⟨ha,gx⟩:=cu g hx
 have hh : cP x.1<=known:=of_decide_eq_true (List.mem_filter.mp hx).2
 have hf : bc x.1 = true:=gx.rp.flat
 have hw : ∀ ρ : DL.Env,ρ[4]? = some (some (x.1,false))->fA aD (ac (af 4) aj) ρ = some (.str (kindOf x.1),false):=fun ρ h4=>ah (ds:=[x.1]) (by simp [h4]) (uV gx)
 have hni : ∀ ρ : DL.Env,ρ[4]? = some (some (x.1,false))->tOf (f2 d5 (fA aD (ac (af 4) aj)) (fA aP (ac (fC (.str "named")) (ac (fC (.str "chosen")) (ac (fC (.str "heir")) aj))))) ρ = some (!decide (kindOf x.1 ∈ o0)):=fun ρ h4 =>
  aH (b:=false) (aG (x:=.str (kindOf x.1)) (y:=.tup (o0.map .str)) (b1:=false) (b2:=false) (hw ρ h4) (by simp [sizeLine,o0]) (la _ _))
 by_cases hd : kindOf x.1 = ("death" : Str)
 ·obtain ⟨a,k,az,e,d⟩:=gx
  have hk : k = ("death" : Str):=by rw [e] at hd; exact hd
  subst hk
  obtain ⟨dd,p,rfl⟩:=d.deed.three (by decide +kernel)
  have hc : bp (au rows known) so x = dq (au rows known) p dd x.2:=by
   unfold bp
   rw [if_pos hd,e]
   rfl
  rw [hc]
  exact a7 rfl (aR (d:=x.1) (b:=false) (by simp [ha]) hf (dO (bI (bb:=false) (hw _ rfl) (decide_eq_true hd)) (aK (ah (ds:=[.tup rows,.int known,.int x.2]) rfl (z7 g known hx e)))))
 ·by_cases h3 : kindOf x.1 ∈ o0
  ·have hoff : aq [x.1,.str "office"] = some (.str (t9 x.1),false):=by
    obtain ⟨a,k,az,e,d⟩:=gx
    rw [e] at h3 hd hnr ⊢
    replace h3 : k ∈ o0:=h3
    clear hd hnr
    cases d with
    | root=>exact absurd h3 (by decide +kernel)
    | named d o p=>exact bi (i:=1) (bg (by decide +kernel)) rfl
    | chosen d b o p s=>exact bi (i:=2) (bg (by decide +kernel)) rfl
    | heir d b o p=>exact bi (i:=2) (bg (by decide +kernel)) rfl
    | three _ hk=>rcases hk with rfl | rfl | rfl <;> exact absurd h3 (by decide +kernel)
    | other _ hk=>rcases hk with rfl | rfl | rfl | rfl | rfl <;> exact absurd h3 (by decide +kernel)
   have e5 : ∀ ρ : DL.Env,ρ[0]? = some (some (.tup rows,false))->ρ[1]? = some (some (.int known,false))->ρ[4]? = some (some (x.1,false))->f2 uO (fA eR (ac (af 0) (ac (af 1) aj))) (fA aq (ac (af 4) (ac (fC (.str "office")) aj))) ρ = some ((fQ (au rows known) (t9 x.1)).getD .non,false):=fun ρ q0 q1 q4 =>
    aG (x:=.dk (bq (gW (au rows known))).1 (bq (gW (au rows known))).2) (y:=.str (t9 x.1)) (b1:=false) (b2:=false) (ah (ds:=[.tup rows,.int known]) (by simp [q0,q1]) (t8 g known)) (ah (ds:=[x.1,.str "office"]) (by simp [q4]) hoff) rfl
   cases hr : fQ (au rows known) (t9 x.1) with
   | none =>
    rw [hr] at e5
    have hc : bp (au rows known) so x = false:=by unfold bp; rw [if_neg hd,if_pos h3,hr]
    rw [hc]
    exact a7 rfl (aR (d:=x.1) (b:=false) (by simp [ha]) hf (bO (bI (bb:=false) (hw _ rfl) (decide_eq_false hd)) (bO (by rw [hni _ rfl,decide_eq_true h3]; rfl) (aR (d:=.non) (b:=false) (e5 _ rfl rfl rfl) rfl (dO (aH (b:=false) (aG (x:=.non) (y:=.non) (b1:=false) (b2:=false) rfl rfl (by simp))) (aK rfl))))))
   | some v =>
    rw [hr] at e5
    obtain ⟨va,vo,vrl,vm,vf,ev⟩:=lg g hr
    have hvf : bc v = true:=by rw [ev]; rfl
    have hvn : dIs v .non = some (.bl false,false):=by rw [ev]; simp [row]
    by_cases hn : kindOf x.1 = ("named" : Str)
    ·have hc : bp (au rows known) so x = true:=by unfold bp; rw [if_neg hd,if_pos h3,hr]; dsimp only; rw [if_pos hn]
     rw [hc]
     exact a7 rfl (aR (d:=x.1) (b:=false) (by simp [ha]) hf (bO (bI (bb:=false) (hw _ rfl) (decide_eq_false hd)) (bO (by rw [hni _ rfl,decide_eq_true h3]; rfl) (aR (d:=v) (b:=false) (e5 _ rfl rfl rfl) hvf (bO (aH (b:=false) (aG (x:=v) (y:=.non) (b1:=false) (b2:=false) rfl rfl hvn)) (dO (bI (bb:=false) (hw _ rfl) (decide_eq_true hn)) (aK rfl)))))))
    ·have hc : bp (au rows known) so x = (jh (au rows known) x.1 && t7 so (ax 0 v) (ax 3 v) (ax 1 x.1) (aB x.1)):=by unfold bp; rw [if_neg hd,if_pos h3,hr]; dsimp only; rw [if_neg hn]
     have hby : aq [x.1,.str "by"] = some (.str (ax 1 x.1),false)/\aM [x.1] = some (.int (aB x.1),false):=by
      refine ⟨?_,by rw [wv gx]; unfold uU; rw [hnr]; rfl⟩
      obtain ⟨a,k,az,e,d⟩:=gx
      rw [e] at h3 hn ⊢
      replace h3 : k ∈ o0:=h3
      cases d with
      | root=>exact absurd h3 (by decide +kernel)
      | named=>exact absurd rfl hn
      | chosen d b o p s=>exact bi (i:=1) (bg (by decide +kernel)) rfl
      | heir d b o p=>exact bi (i:=1) (bg (by decide +kernel)) rfl
      | three _ hk=>rcases hk with rfl | rfl | rfl <;> exact absurd h3 (by decide +kernel)
      | other _ hk=>rcases hk with rfl | rfl | rfl | rfl | rfl <;> exact absurd h3 (by decide +kernel)
     have hs:=zy rows g.rp g.le known (cj hx)
     rw [AQ hh] at hs
     have hheld : dj [.lst (so.map clD),v,.str (ax 1 x.1),.int (aB x.1)] = some (.bl (t7 so (ax 0 v) (ax 3 v) (ax 1 x.1) (aB x.1)),false):=by
      rw [ev]
      exact AN so hso _ _
     rw [hc]
     refine a7 rfl (aR (d:=x.1) (b:=false) (by simp [ha]) hf (bO (bI (bb:=false) (hw _ rfl) (decide_eq_false hd)) (bO (by rw [hni _ rfl,decide_eq_true h3]; rfl) (aR (d:=v) (b:=false) (e5 _ rfl rfl rfl) hvf (bO (aH (b:=false) (aG (x:=v) (y:=.non) (b1:=false) (b2:=false) rfl rfl hvn)) (bO (bI (bb:=false) (hw _ rfl) (decide_eq_false hn)) (aK ?_)))))))
     exact gO (b1:=false) (ah (ds:=[.tup rows,.int known,.int x.2]) rfl hs) fun _=>ah (ds:=[.lst (so.map clD),v,.str (ax 1 x.1),.int (aB x.1)]) (av (b:=false) rfl (av (b:=false) rfl (av (ah (ds:=[x.1,.str "by"]) rfl hby.1) (av (ah (ds:=[x.1]) rfl hby.2) rfl)))) hheld
  ·have hc : bp (au rows known) so x = false:=by unfold bp; rw [if_neg hd,if_neg h3]
   rw [hc]
   exact a7 rfl (aR (d:=x.1) (b:=false) (by simp [ha]) hf (bO (bI (bb:=false) (hw _ rfl) (decide_eq_false hd)) (dO (by rw [hni _ rfl,decide_eq_false h3]; rfl) (aK rfl))))
def cW (offs : List Str) (p : Str) (day : Int) (c : Cl) : List Cl :=
 if (!decide (c.o ∈ offs) || (!decide (c.p = p) || !(cm c day || decide (day < c.s)))) = true then [c] else if c.s < day then [⟨c.o,p,c.s,some day,c.n⟩] else []
def ba (so : List Cl) (offs : List Str) (p : Str) (day : Int) : List Cl:=so.flatMap (cW offs p day)
theorem d9 (offs : List Str) (p : Str) (day : Int) : ∀ so : List Cl,(ba so offs p day).length<=so.length
 | []=>Nat.le_refl _
 | c :: so=>by
  unfold ba
  rw [List.flatMap_cons,List.length_append,List.length_cons]
  have h1:=d9 offs p day so
  have h2 : (cW offs p day c).length<=1:=by
   unfold cW
   split
   ·simp
   ·split <;> simp
  unfold ba at h1
  omega
theorem nw (k : Str) (ws : List Str) : d5 (.str k) (.lst (ws.map .str)) = some (.bl (!decide (k ∈ ws)),false):=by
 simp only [d5,eM,Option.bind_some,mS]
 rw [if_pos ⟨rfl,k8 ws⟩]
theorem tE (so : List Cl) (hso : so.length<=60) (offs : List Str) (p : Str) (day : Int) : i7 [.lst (so.map clD),.lst (offs.map .str),.str p,.int day] = some (.lst ((ba so offs p day).map clD),true):=by
 obtain ⟨ρ',e,v5,rfl⟩:=dJ (tg:=tgN 5) (g:=mN) (fun j ρ=>∃ v5 : Option (D × Bool),ρ = [some (.lst (so.map clD),false),some (.lst (offs.map .str),false),some (.str p,false),some (.int day,false),some (.lst ((ba (so.take j) offs p day).map clD),true),v5]) (so.map clD)
  [some (.lst (so.map clD),false),some (.lst (offs.map .str),false),some (.str p,false),some (.int day,false),some (.lst [],true),none] ⟨none,rfl⟩ (by
   rintro j d ρ hd ⟨v5,rfl⟩
   rw [List.getElem?_map] at hd
   obtain ⟨c,hc,rfl⟩:=oY hd
   have hj : j < so.length:=(List.getElem?_eq_some_iff.mp hc).1
   have et : ba (so.take (j + 1)) offs p day = ba (so.take j) offs p day ++ cW offs p day c:=by
    unfold ba
    rw [List.take_add_one,hc,Option.toList_some,List.flatMap_append,List.flatMap_cons,List.flatMap_nil,List.append_nil]
   have hlen : (ba (so.take j) offs p day).length<=60:=Nat.le_trans (d9 offs p day _) (by rw [List.length_take]; omega)
   let ρ1 : DL.Env:=[some (.lst (so.map clD),false),some (.lst (offs.map .str),false),some (.str p,false),some (.int day,false),some (.lst ((ba (so.take j) offs p day).map clD),true),some (clD c,false)]
   have q0 : f2 ixD (af 5) (fC (.int 0)) ρ1 = some (.str c.o,false):=aG (x:=clD c) (y:=.int 0) (b1:=false) (b2:=false) rfl rfl (cl0 c)
   have q1 : f2 ixD (af 5) (fC (.int 1)) ρ1 = some (.str c.p,false):=aG (x:=clD c) (y:=.int 1) (b1:=false) (b2:=false) rfl rfl (cl1 c)
   have q2 : f2 ixD (af 5) (fC (.int 2)) ρ1 = some (.int c.s,false):=aG (x:=clD c) (y:=.int 2) (b1:=false) (b2:=false) rfl rfl (cl2 c)
   have q4 : f2 ixD (af 5) (fC (.int 4)) ρ1 = some (.int c.n,false):=aG (x:=clD c) (y:=.int 4) (b1:=false) (b2:=false) rfl rfl (cl4 c)
   have hcond : fV (tOf (f2 d5 (f2 ixD (af 5) (fC (.int 0))) (af 1))) (fV (tOf (f2 dNe (f2 ixD (af 5) (fC (.int 1))) (af 2))) (gB (fV (tOf (fA bu (ac (af 5) (ac (af 3) aj)))) (tOf (f2 iGt (f2 ixD (af 5) (fC (.int 2))) (af 3)))))) ρ1 = some (!decide (c.o ∈ offs) || (!decide (c.p = p) || !(cm c day || decide (day < c.s)))) :=
    je (aH (b:=false) (aG (x:=.str c.o) (y:=.lst (offs.map .str)) (b1:=false) (b2:=false) q0 rfl (nw _ _))) fun _=>je (aH (b:=false) (aG (x:=.str c.p) (y:=.str p) (b1:=false) (b2:=false) q1 rfl (by simp))) fun _=>lI (je (aH (b:=false) (ah (ds:=[clD c,.int day]) rfl (ni c day))) fun _=>aH (b:=false) (aG (x:=.int c.s) (y:=.int day) (b1:=false) (b2:=false) q2 rfl (by simp)))
   by_cases h1 : (!decide (c.o ∈ offs) || (!decide (c.p = p) || !(cm c day || decide (day < c.s)))) = true
   ·have eo : cW offs p day c = [c]:=by unfold cW; rw [if_pos h1]
    rw [h1] at hcond
    refine ⟨_,_,rfl,.inl (kq hcond (ft (ds:=(ba (so.take j) offs p day).map clD) (d:=clD c) (b:=false) rfl rfl (jL c) (b8 (by simp; omega)))),some (clD c,false), ?_⟩
    rw [et,eo,List.map_append]
    rfl
   ·rw [Bool.not_eq_true] at h1
    rw [h1] at hcond
    by_cases h2 : c.s < day
    ·have eo : cW offs p day c = [⟨c.o,p,c.s,some day,c.n⟩]:=by unfold cW; rw [if_neg (by rw [h1]; decide),if_pos h2]
     refine ⟨_,_,rfl,.inl (gM hcond (kq (aH (b:=false) (aG (x:=.int c.s) (y:=.int day) (b1:=false) (b2:=false) q2 rfl (by simp [h2]))) (ft (ds:=(ba (so.take j) offs p day).map clD) (d:=clD ⟨c.o,p,c.s,some day,c.n⟩) (b:=false) rfl (ah (ds:=[.str c.o,.str p,.int c.s,.int day,.int c.n]) (av q0 (av (b:=false) rfl (av q2 (av (b:=false) rfl (av q4 rfl))))) (cD _ (by simp))) (jL _) (b8 (by simp; omega))))),some (clD c,false), ?_⟩
     rw [et,eo,List.map_append]
     rfl
    ·have eo : cW offs p day c = []:=by unfold cW; rw [if_neg (by rw [h1]; decide),if_neg h2]
     refine ⟨_,_,rfl,.inl (gM hcond (gM (aH (b:=false) (aG (x:=.int c.s) (y:=.int day) (b1:=false) (b2:=false) q2 rfl (by simp; omega))) rfl)),some (clD c,false), ?_⟩
     rw [et,eo,List.append_nil]
     rfl)
 have e' : f6 (tgN 5) mN (so.map clD) [some (.lst (so.map clD),false),some (.lst (offs.map .str),false),some (.str p,false),some (.int day,false),some (.lst [],true),none] = some (.nx [some (.lst (so.map clD),false),some (.lst (offs.map .str),false),some (.str p,false),some (.int day,false),some (.lst ((ba so offs p day).map clD),true),v5]):=by
  rw [e]
  have : so.take (so.map clD).length = so:=by rw [List.length_map,List.take_length]
  rw [this]
 exact a7 rfl (bZ (ds:=[]) (by simp [sizeLine]) rfl (dz (gh (ds:=so.map clD) (by simp [oj]) e') (lH rfl)))
theorem BH {r : D} {o p : Str} (ho : aq [r,.str "office"] = some (.str o,false)) (hp : aq [r,.str "person"] = some (.str p,false)) (s : Int) (n : Nat) : cB [r,.int s,.int n] = some (clD ⟨o,p,s,none,n⟩,false) :=
 a7 rfl (aK (ah (ds:=[.str o,.str p,.int s,.non,.int n]) (av (ah (ds:=[r,.str "office"]) rfl ho) (av (ah (ds:=[r,.str "person"]) rfl hp) rfl)) (cD _ (by simp))))
theorem xA (so : List Cl) (hso : so.length<=60) {a d s : Int} {b o p : Str} (n : Nat) : dm [.lst (so.map clD),row a ("chosen" : Str) [.int d,.str b,.str o,.str p,.int s],.int n] = some (.lst ((ba so [o] b s ++ [(⟨o,p,s,none,n⟩ : Cl)]).map clD),true):=by
 let r : D:=row a ("chosen" : Str) [.int d,.str b,.str o,.str p,.int s]
 have ho : aq [r,.str "office"] = some (.str o,false):=bi (i:=2) (bg (by decide +kernel)) rfl
 have hp : aq [r,.str "person"] = some (.str p,false):=bi (i:=3) (bg (by decide +kernel)) rfl
 have hb : aq [r,.str "by"] = some (.str b,false):=bi (i:=1) (bg (by decide +kernel)) rfl
 have hs : aq [r,.str "since"] = some (.int s,false):=bi (i:=4) (bg (by decide +kernel)) rfl
 have hl:=d9 [o] b s so
 refine a7 rfl (aR (d:=.int s) (b:=false) (ah (ds:=[r,.str "since"]) rfl hs) rfl (bZ (ds:=(ba so [o] b s).map clD) (ah (ds:=[.lst (so.map clD),.lst ([o].map .str),.str b,.int s]) (av (b:=false) rfl (av (b:=true) (ah (ds:=[.str o]) (av (ah (ds:=[r,.str "office"]) rfl ho) rfl) (ng _ (by simp))) (av (ah (ds:=[r,.str "by"]) rfl hb) rfl))) (tE so hso [o] b s)) (fO _) (aK ?_)))
 refine aG (x:=.lst ((ba so [o] b s).map clD)) (y:=.lst [clD ⟨o,p,s,none,n⟩]) (b1:=false) (b2:=true) rfl (ah (ds:=[clD ⟨o,p,s,none,n⟩]) (av (ah (ds:=[r,.int s,.int n]) rfl (BH ho hp s n)) rfl) (ng _ (by simp))) ?_
 rw [List.map_append]
 exact if_pos (bG (by rw [List.length_map,List.length_singleton]; omega))
def tF (hk : List (List Key)) (hv : List D) (o p : Str) : Option Str:=match cb hk hv [.inr o,.inr p] with
 | some (.str h)=>some h
 | _=>none
def bQ (K : KL) (hk : List (List Key)) (hv : List D) (p : Str) (day : Int) (n : Nat) (o : Str) : List Cl:=match tF hk hv o p with
 | some h=>if fu K h day = true then [⟨o,h,day,none,n⟩] else []
 | none=>[]
def bL (so : List Cl) (p : Str) (day : Int) : List Str:=iO (eG ((so.filter fun c=>decide (c.p = p) && cm c day).map (·.o)))
def g0 (K : KL) (so : List Cl) (hk : List (List Key)) (hv : List D) (p : Str) (day : Int) (n : Nat) : List Cl:=(bL so p day).flatMap (bQ K hk hv p day n)
theorem ji (K : KL) (hk : List (List Key)) (hv : List D) (p : Str) (day : Int) (n : Nat) (o : Str) : (bQ K hk hv p day n o).length<=1:=by
 unfold bQ
 split
 ·split <;> simp
 ·simp
theorem ny {α β : Type} (f : α->List β) (h : ∀ a,(f a).length<=1) : ∀ l : List α,(l.flatMap f).length<=l.length
 | []=>Nat.le_refl _
 | a :: l=>by
  rw [List.flatMap_cons,List.length_append,List.length_cons]
  have:=h a
  have:=ny f h l
  omega
theorem tG (so : List Cl) (p : Str) (day : Int) : (bL so p day).length<=so.length:=by
 unfold bL
 rw [(cS _).length_eq]
 refine Nat.le_trans (mf _) ?_
 rw [List.length_map]
 exact List.length_filter_le _ _
theorem qU {rows : List D} (g : cY rows) (known : Int) (so : List Cl) (hso : so.length<=60) (hk : List (List Key)) (hv : List D) (hhv : ∀ v ∈ hv,∃ s,v = .str s) {x : D × Nat} (hx : x ∈ au rows known) {a d : Int} {p : Str} (e : x.1 = row a ("death" : Str) [.int d,.str p]) :
  eS [.tup rows,.int known,.lst (so.map clD),.dt hk hv,.int x.2] = some (.lst ((g0 (au rows known) so hk hv p d x.2).map clD),true):=by
 have ha:=(cu g hx).1
 have hpart : aq [x.1,.str "person"] = some (.str p,false):=by rw [e]; exact bi (i:=1) (bg (by decide +kernel)) rfl
 have hday : aM [x.1] = some (.int d,false):=by rw [e]; exact fM (.inl (by decide +kernel)) rfl
 have holen:=tG so p d
 have hstep : ∀ (o : Str) (l : List Cl) (v9 : Option (D × Bool)),l.length<=60->dS [some (.tup rows,false),some (.int known,false),some (.lst (so.map clD),false),some (.dt hk hv,false),some (.int x.2,false),some (.str p,false),some (.int d,false),some (.lst (l.map clD),true),some (.str o,false),v9] = some (.nx [some (.tup rows,false),some (.int known,false),some (.lst (so.map clD),false),some (.dt hk hv,false),some (.int x.2,false),some (.str p,false),some (.int d,false),some (.lst ((l ++ bQ (au rows known) hk hv p d x.2 o).map clD),true),some (.str o,false),some ((cb hk hv [.inr o,.inr p]).getD .non,false)]):=fun o l v9 hl=>by
  have eg : zi (af 3) (ac (af 8) (ac (af 5) aj)) [some (.tup rows,false),some (.int known,false),some (.lst (so.map clD),false),some (.dt hk hv,false),some (.int x.2,false),some (.str p,false),some (.int d,false),some (.lst (l.map clD),true),some (.str o,false),v9] = some ((cb hk hv [.inr o,.inr p]).getD .non,false):=by
   simp [eP,sizeLine]
  cases hlk : cb hk hv [.inr o,.inr p] with
  | none =>
   rw [hlk] at eg
   have ei : bQ (au rows known) hk hv p d x.2 o = []:=by unfold bQ tF; rw [hlk]
   rw [ei,List.append_nil]
   exact aR (d:=.non) (b:=false) eg rfl (gM (cz (p:=false) (q:=false) (aH (b:=false) (by simp)) (by simp)) rfl)
  | some v =>
   obtain ⟨h,rfl⟩:=hhv v (nu hlk)
   rw [hlk] at eg
   have hlv:=tw rows g.rp g.le known h d
   rw [AO] at hlv
   have hand : ∀ ρ : DL.Env,ρ[0]? = some (some (.tup rows,false))->ρ[1]? = some (some (.int known,false))->ρ[6]? = some (some (.int d,false))->ρ[9]? = some (some (.str h,false))->cM (tOf (f2 gG (af 9) (fC .non))) (tOf (fA gk (ac (af 0) (ac (af 1) (ac (af 9) (ac (af 6) aj)))))) ρ = some (true && fu (au rows known) h d):=fun ρ q0 q1 q6 q9 =>
    cz (aH (b:=false) (by simp [q9])) fun _=>aH (b:=false) (ah (ds:=[.tup rows,.int known,.str h,.int d]) (by simp [q0,q1,q6,q9]) hlv)
   cases hl2 : fu (au rows known) h d with
   | false =>
    have ei : bQ (au rows known) hk hv p d x.2 o = []:=by unfold bQ tF; rw [hlk]; dsimp only; rw [hl2]; rfl
    rw [ei,List.append_nil]
    exact aR (d:=.str h) (b:=false) eg rfl (gM (by rw [hand _ rfl rfl rfl rfl,hl2]; rfl) rfl)
   | true =>
    have ei : bQ (au rows known) hk hv p d x.2 o = [⟨o,h,d,none,x.2⟩]:=by unfold bQ tF; rw [hlk]; dsimp only; rw [hl2]; rfl
    rw [ei,List.map_append]
    exact aR (d:=.str h) (b:=false) eg rfl (kq (by rw [hand _ rfl rfl rfl rfl,hl2]; rfl) (ft (ds:=l.map clD) (d:=clD ⟨o,h,d,none,x.2⟩) (b:=false) rfl (ah (ds:=[.str o,.str h,.int d,.non,.int x.2]) rfl (cD _ (by simp))) rfl (b8 (by simp; omega))))
 obtain ⟨ρ',el,v8,v9,rfl⟩:=dJ (tg:=tgN 8) (g:=dS) (fun j ρ=>∃ v8 v9 : Option (D × Bool),ρ = [some (.tup rows,false),some (.int known,false),some (.lst (so.map clD),false),some (.dt hk hv,false),some (.int x.2,false),some (.str p,false),some (.int d,false),some (.lst ((((bL so p d).take j).flatMap (bQ (au rows known) hk hv p d x.2)).map clD),true),v8,v9]) ((bL so p d).map .str)
  [some (.tup rows,false),some (.int known,false),some (.lst (so.map clD),false),some (.dt hk hv,false),some (.int x.2,false),some (.str p,false),some (.int d,false),some (.lst [],true),none,none] ⟨none,none,rfl⟩ (by
   rintro j dd ρ hd ⟨v8,v9,rfl⟩
   rw [List.getElem?_map] at hd
   obtain ⟨o,ho,rfl⟩:=oY hd
   have hl : (((bL so p d).take j).flatMap (bQ (au rows known) hk hv p d x.2)).length<=60:=Nat.le_trans (ny _ (ji _ _ _ _ _ _) _) (by rw [List.length_take]; omega)
   refine ⟨_,_,rfl,.inl (hstep o _ v9 hl),some (.str o,false),some ((cb hk hv [.inr o,.inr p]).getD .non,false), ?_⟩
   rw [List.take_add_one,ho,Option.toList_some,List.flatMap_append,List.flatMap_cons,List.flatMap_nil,List.append_nil])
 have e' : f6 (tgN 8) dS ((bL so p d).map .str) [some (.tup rows,false),some (.int known,false),some (.lst (so.map clD),false),some (.dt hk hv,false),some (.int x.2,false),some (.str p,false),some (.int d,false),some (.lst [],true),none,none] = some (.nx [some (.tup rows,false),some (.int known,false),some (.lst (so.map clD),false),some (.dt hk hv,false),some (.int x.2,false),some (.str p,false),some (.int d,false),some (.lst ((g0 (au rows known) so hk hv p d x.2).map clD),true),v8,v9]):=by
  rw [el]
  have : (bL so p d).take ((bL so p d).map D.str).length = bL so p d:=by rw [List.length_map,List.take_length]
  rw [this]
  rfl
 have hset : ∀ ρ : DL.Env,ρ[2]? = some (some (.lst (so.map clD),false))->ρ[5]? = some (some (.str p,false))->ρ[6]? = some (some (.int d,false))->cG (f1 dH (cq (cG (af 2)) 1 [5,6] (tgN 0) (cM (tOf (f2 dEq (f2 ixD (af 0) (fC (.int 1))) (af 1))) (tOf (fA bu (ac (af 0) (ac (af 2) aj))))) (f2 ixD (af 0) (fC (.int 0))))) ρ = some ((bL so p d).map .str):=fun ρ q2 q5 q6=>by
  have hc:=iQ (fi:=cG (af 2)) (nT:=1) (cap:=[5,6]) (tg:=tgN 0) (c:=cM (tOf (f2 dEq (f2 ixD (af 0) (fC (.int 1))) (af 1))) (tOf (fA bu (ac (af 0) (ac (af 2) aj))))) (fe:=f2 ixD (af 0) (fC (.int 0))) (ρ:=ρ) so clD (fun c=>decide (c.p = p) && cm c d) (fun c=>.str c.o) (by simp [q2]) (by omega) fun c hc =>
   ⟨_,rfl,cz (aH (b:=false) (aG (x:=.str c.p) (y:=.str p) (b1:=false) (b2:=false) (aG (x:=clD c) (y:=.int 1) (b1:=false) (b2:=false) (by simp [bE]) rfl (cl1 c)) (by simp [bE,q5]) (by simp))) fun _=>aH (b:=false) (ah (ds:=[clD c,.int d]) (by simp [bE,q6]) (ni c d)),fun _=>⟨false,aG (x:=clD c) (y:=.int 0) (b1:=false) (b2:=false) (by simp [bE]) rfl (cl0 c)⟩⟩
  have e2 : (so.filter fun c=>decide (c.p = p) && cm c d).map (fun c=>D.str c.o) = ((so.filter fun c=>decide (c.p = p) && cm c d).map (·.o)).map .str:=by rw [List.map_map]; rfl
  rw [e2] at hc
  show (f1 dH _ ρ).bind _ = _
  unfold f1
  rw [hc,Option.bind_some]
  have hln : ((so.filter fun c=>decide (c.p = p) && cm c d).map (·.o)).length < 64:=by rw [List.length_map]; exact Nat.lt_of_le_of_lt (List.length_filter_le _ _) (by omega)
  show ((eO _).bind _).bind _ = _
  rw [t6,Option.bind_some,if_pos hln]
  rfl
 refine a7 rfl (aR (d:=.str p) (b:=false) (ah (ds:=[x.1,.str "person"]) (by simp [ha]) hpart) rfl (aR (d:=.int d) (b:=false) (ah (ds:=[x.1]) (by simp [ha]) hday) rfl (bZ (ds:=[]) (by simp [sizeLine]) rfl (dz (ρ':=[some (.tup rows,false),some (.int known,false),some (.lst (so.map clD),false),some (.dt hk hv,false),some (.int x.2,false),some (.str p,false),some (.int d,false),some (.lst ((g0 (au rows known) so hk hv p d x.2).map clD),true),v8,v9]) ?_ (lH rfl)))))
 exact gh (ρ:=[some (.tup rows,false),some (.int known,false),some (.lst (so.map clD),false),some (.dt hk hv,false),some (.int x.2,false),some (.str p,false),some (.int d,false),some (.lst [],true),none,none]) (hset _ rfl rfl rfl) e'
theorem z8 {rows : List D} (g : cY rows) (known : Int) (so : List Cl) (hso : so.length<=60) (hk : List (List Key)) (hv : List D) (hhv : ∀ v ∈ hv,∃ s,v = .str s) {x : D × Nat} (hx : x ∈ au rows known) {a d : Int} {p : Str} (e : x.1 = row a ("death" : Str) [.int d,.str p]) :
  dC [.tup rows,.int known,.lst (so.map clD),.dt hk hv,.int x.2] = some (.lst ((ba so (so.map Cl.o) p d ++ g0 (au rows known) so hk hv p d x.2).map clD),true):=by
 have ha:=(cu g hx).1
 have hpart : aq [x.1,.str "person"] = some (.str p,false):=by rw [e]; exact bi (i:=1) (bg (by decide +kernel)) rfl
 have hday : aM [x.1] = some (.int d,false):=by rw [e]; exact fM (.inl (by decide +kernel)) rfl
 have h1:=we (fi:=cG (af 2)) (nT:=1) (cap:=[]) (tg:=tgN 0) (fe:=f2 ixD (af 0) (fC (.int 0))) (ρ:=[some (.tup rows,false),some (.int known,false),some (.lst (so.map clD),false),some (.dt hk hv,false),some (.int x.2,false),none,none]) so clD (fun c=>.str c.o) (by simp) (by omega) fun c hc=>⟨_,rfl,false,aG (x:=clD c) (y:=.int 0) (b1:=false) (b2:=false) (by simp [bE]) rfl (cl0 c)⟩
 have e2 : so.map (fun c=>D.str c.o) = (so.map Cl.o).map .str:=by rw [List.map_map]; rfl
 rw [e2] at h1
 have hl1:=d9 (so.map Cl.o) p d so
 have hl2 : (g0 (au rows known) so hk hv p d x.2).length<=60:=Nat.le_trans (ny _ (ji _ _ _ _ _ _) _) (Nat.le_trans (tG so p d) hso)
 refine a7 rfl (bZ (ds:=(so.map Cl.o).map .str) h1 (dL _) (bZ (ds:=(ba so (so.map Cl.o) p d).map clD) (ah (ds:=[.lst (so.map clD),.lst ((so.map Cl.o).map .str),.str p,.int d]) (av (b:=false) rfl (av (b:=false) rfl (av (b:=false) (ah (ds:=[x.1,.str "person"]) (by simp [ha]) hpart) (av (b:=false) (ah (ds:=[x.1]) (by simp [ha]) hday) rfl)))) (tE so hso _ p d)) (fO _) (aK ?_)))
 refine aG (x:=.lst ((ba so (so.map Cl.o) p d).map clD)) (y:=.lst ((g0 (au rows known) so hk hv p d x.2).map clD)) (b1:=false) (b2:=true) rfl (ah (ds:=[.tup rows,.int known,.lst (so.map clD),.dt hk hv,.int x.2]) rfl (qU g known so hso hk hv hhv hx e)) ?_
 rw [List.map_append]
 exact if_pos (bG (by rw [List.length_map,List.length_map]; omega))
abbrev St3:=List Cl × List (List Key) × List D
def bC (K : KL) (st : St3) (x : D × Nat) : St3 :=
 if bp K st.1 x = true then
  if kindOf x.1 = ("named" : Str) then (st.1 ++ [⟨ax 1 x.1,ax 2 x.1,aB x.1,none,x.2⟩],st.2)
  else if kindOf x.1 = ("chosen" : Str) then (ba st.1 [ax 2 x.1] (ax 1 x.1) (gV 4 x.1) ++ [⟨ax 2 x.1,ax 3 x.1,gV 4 x.1,none,x.2⟩],st.2)
  else if kindOf x.1 = ("heir" : Str) then (st.1,di st.2.1 [.inr (ax 2 x.1),.inr (ax 1 x.1)],dI st.2.1 st.2.2 [.inr (ax 2 x.1),.inr (ax 1 x.1)] (.str (ax 3 x.1)))
  else (ba st.1 (st.1.map Cl.o) (ax 1 x.1) (aB x.1) ++ g0 K st.1 st.2.1 st.2.2 (ax 1 x.1) (aB x.1) x.2,st.2)
 else st
def cE (K : KL) : KL:=f9 (fun x=>bK (kA x)) (K.filter fun x=>!bd x.1)
def fR (K : KL) (l : KL) : St3:=l.foldl (bC K) ([],[],[])
def kC (c : Cl) : List At:=[.s c.o,.i c.s,.i c.n]
def bj (K : KL) : List Cl:=f9 (fun c=>bK (kC c)) (fR K (cE K)).1
def uY : List Key->Str
 | [_,.inr p]=>p
 | _=>("" : Str)
def lvK (dd : List Str) (ks : List (List Key)) : Nat:=(ks.filter fun k=>decide (uY k ∉ dd)).length
structure SoOk (K l : KL) (dd : List Str) (st : St3) : Prop where
 len : st.1.length + lvK dd st.2.1<=l.length
 ded : ∀ q ∈ dd,∃ y ∈ l,dq K q (aB y.1) y.2 = true
 nod : (st.1.map fun c=>(c.o,c.n)).Nodup
 num : ∀ c ∈ st.1,c.n ∈ l.map (·.2)
 hs : ∀ v ∈ st.2.2,∃ s,v = D.str s
 hk : st.2.1.length<=l.length
theorem qV {ws : List Str} {p : Str} {d : Int} {r : D} (h : told ws p d r = true) : aB r<=d/\∀ d',aB r<=d'->told ws p d' r = true:=by
 unfold told at h
 split at h
 ·rename_i k az
  rw [Bool.and_eq_true] at h
  obtain ⟨h1,h2⟩:=h
  unfold mR at h2
  split at h2
  ·rename_i dd q
   rw [Bool.and_eq_true] at h2
   refine ⟨of_decide_eq_true h2.2,fun d' hd=>?_⟩
   unfold told
   rw [Bool.and_eq_true]
   refine ⟨h1, ?_⟩
   unfold mR
   rw [Bool.and_eq_true]
   exact ⟨h2.1,decide_eq_true hd⟩
  ·cases h2
 ·cases h
theorem nz : ∀ (r : KL) (b : D × Nat),lB b r ∈ b :: r/\∀ y ∈ b :: r,eW y (lB b r) = false
 | [],b=>⟨by simp [lB],fun y hy=>by rw [List.mem_singleton.mp hy]; simp [lB,eW]⟩
 | x :: r,b=>by
  rw [lB,qP]
  by_cases h : eW x b = true
  ·rw [if_pos (by rw [h])]
   obtain ⟨h1,h2⟩:=nz r x
   refine ⟨mZ _ h1,fun y hy=>?_⟩
   rcases List.mem_cons.mp hy with rfl | hy
   ·have:=h2 x mX
    unfold eW at *
    simp at *
    omega
   ·exact h2 y hy
  ·rw [if_neg (by simpa using h)]
   obtain ⟨h1,h2⟩:=nz r b
   refine ⟨?_,fun y hy=>?_⟩
   ·rcases List.mem_cons.mp h1 with e | e
    ·rw [e]; exact mX
    ·exact mZ _ (mZ _ e)
   ·rcases List.mem_cons.mp hy with rfl | hy
    ·exact h2 _ mX
    ·rcases List.mem_cons.mp hy with rfl | hy
     ·have:=h2 b mX
      unfold eW at *
      simp at *
      omega
     ·exact h2 y (mZ _ hy)
theorem n0 {K : KL} {p : Str} {d : Int} {i : Nat} (h : dq K p d i = true) : ∃ m ∈ K,told bP p d m.1 = true/\m.2 = i/\∀ y ∈ K,told bP p d y.1 = true->eW y m = false:=by
 unfold dq at h
 split at h
 ·cases h
 ·rename_i b r e
  obtain ⟨h1,h2⟩:=nz r b
  rw [← e] at h1 h2
  obtain ⟨h3,h4⟩:=List.mem_filter.mp h1
  exact ⟨_,h3,h4,of_decide_eq_true h,fun y hy ht=>h2 y (List.mem_filter.mpr ⟨hy,ht⟩)⟩
theorem uZ {K : KL} {p : Str} {d1 d2 : Int} {i1 i2 : Nat} (h1 : dq K p d1 i1 = true) (h2 : dq K p d2 i2 = true) : i1 = i2:=by
 obtain ⟨m1,k1,t1,e1,q1⟩:=n0 h1
 obtain ⟨m2,k2,t2,e2,q2⟩:=n0 h2
 have a1:=qV t1
 have a2:=qV t2
 by_cases hd : d1<=d2
 ·have z1:=q2 m1 k1 (a1.2 d2 (by omega))
  have hm : aB m2.1<=aB m1.1:=by unfold eW at z1; simp at z1; omega
  have z2:=q1 m2 k2 (a2.2 d1 (by omega))
  unfold eW at z1 z2
  simp at z1 z2
  omega
 ·have z1:=q1 m2 k2 (a2.2 d1 (by omega))
  have hm : aB m1.1<=aB m2.1:=by unfold eW at z1; simp at z1; omega
  have z2:=q2 m1 k1 (a1.2 d2 (by omega))
  unfold eW at z1 z2
  simp at z1 z2
  omega
theorem n6 {κ : Type} [DecidableEq κ] : ∀ {ks : List κ} {vs : List D} {k : κ} {v : D},cb ks vs k = some v->k ∈ ks
 | k' :: ks,d :: ds,k,v,h=>by
  unfold cb at h
  split at h
  ·rename_i e; rw [← e]; exact mX
  ·exact mZ _ (n6 h)
 | [],_,_,_,h=>by simp [cb] at h
 | _ :: _,[],_,_,h=>by simp [cb] at h
theorem n8 (p : Str) (dd : List Str) (hp : p ∉ dd) : ∀ ks : List (List Key),lvK dd ks = lvK (p :: dd) ks + (ks.filter fun k=>decide (uY k = p)).length
 | []=>rfl
 | k :: ks=>by
  have ih:=n8 p dd hp ks
  unfold lvK at ih ⊢
  by_cases e : uY k = p
  ·rw [List.filter_cons_of_pos (by simpa [e] using hp),List.filter_cons_of_neg (by simp [e]),List.filter_cons_of_pos (by simp [e]),List.length_cons,List.length_cons]
   omega
  ·by_cases h : uY k ∈ dd
   ·rw [List.filter_cons_of_neg (by simp [h]),List.filter_cons_of_neg (by simp [h]),List.filter_cons_of_neg (by simp [e])]
    exact ih
   ·rw [List.filter_cons_of_pos (by simp [h]),List.filter_cons_of_pos (by simp [h,e]),List.filter_cons_of_neg (by simp [e]),List.length_cons,List.length_cons]
    omega
theorem iD (offs : List Str) (p : Str) (day : Int) : ∀ so : List Cl,((ba so offs p day).map fun c=>(c.o,c.n)).Sublist (so.map fun c=>(c.o,c.n))
 | []=>List.Sublist.slnil
 | c :: so=>by
  have ih:=iD offs p day so
  unfold ba at ih ⊢
  rw [List.flatMap_cons,List.map_append,List.map_cons]
  have : ((cW offs p day c).map fun c=>(c.o,c.n)) = [(c.o,c.n)] ∨ ((cW offs p day c).map fun c=>(c.o,c.n)) = []:=by
   unfold cW
   split
   ·exact .inl rfl
   ·split
    ·exact .inl rfl
    ·exact .inr rfl
  rcases this with h | h
  ·rw [h]; exact ih.cons₂ _
  ·rw [h]; exact ih.cons _
theorem iE {offs : List Str} {p : Str} {day : Int} {so : List Cl} {c : Cl} (h : c ∈ ba so offs p day) : ∃ c' ∈ so,c'.o = c.o/\c'.n = c.n:=by
 have:=(iD offs p day so).subset (List.mem_map.mpr ⟨c,h,rfl⟩)
 obtain ⟨c',h1,h2⟩:=List.mem_map.mp this
 injection h2 with h3 h4
 exact ⟨c',h1,h3,h4⟩
theorem fS : ∀ (ss ts : List Str),ts.Nodup->(ss.foldl gf ts).Nodup
 | [],_,h=>h
 | s :: ss,ts,h=>fS ss _ (uA h s)
theorem gX : ∀ (ss ts : List Str) (x : Str),x ∈ ss.foldl gf ts->x ∈ ts ∨ x ∈ ss
 | [],_,_,h=>.inl h
 | s :: ss,ts,x,h=>by
  rcases gX ss _ x h with h | h
  ·rcases md.mp h with h | h
   ·exact .inl h
   ·exact .inr (by rw [h]; exact mX)
  ·exact .inr (mZ _ h)
theorem nA (so : List Cl) (p : Str) (day : Int) : (bL so p day).Nodup:=(cS _).nodup_iff.mpr (fS _ [] List.nodup_nil)
theorem z9 {so : List Cl} {p : Str} {day : Int} {o : Str} (h : o ∈ bL so p day) : ∃ c ∈ so,c.o = o:=by
 have h1:=(cS _).mem_iff.mp h
 rcases gX _ _ _ h1 with h | h
 ·cases h
 ·obtain ⟨c,hc,e⟩:=List.mem_map.mp h
  exact ⟨c,(List.mem_filter.mp hc).1,e⟩
theorem tH (K : KL) (hk : List (List Key)) (hv : List D) (p : Str) (day : Int) (n : Nat) : ∀ os : List Str,((os.flatMap (bQ K hk hv p day n)).map fun c=>(c.o,c.n)).Sublist (os.map fun o=>(o,n))
 | []=>List.Sublist.slnil
 | o :: os=>by
  have ih:=tH K hk hv p day n os
  rw [List.flatMap_cons,List.map_append,List.map_cons]
  have : ((bQ K hk hv p day n o).map fun c=>(c.o,c.n)) = [(o,n)] ∨ ((bQ K hk hv p day n o).map fun c=>(c.o,c.n)) = []:=by
   unfold bQ
   split
   ·split
    ·exact .inl rfl
    ·exact .inr rfl
   ·exact .inr rfl
  rcases this with h | h
  ·rw [h]; exact ih.cons₂ _
  ·rw [h]; exact ih.cons _
theorem pA {α : Type} [DecidableEq α] : ∀ (l m : List α),l.Nodup->(∀ x ∈ l,x ∈ m)->l.length<=m.length
 | [],_,_,_=>Nat.zero_le _
 | x :: l,m,h,s=>by
  rw [List.nodup_cons] at h
  have hx:=s x mX
  have:=pA l (m.erase x) h.2 fun y hy=>(List.mem_erase_of_ne (a:=y) (b:=x) (fun e=>h.1 (by rw [← e]; exact hy))).mpr (s y (mZ _ hy))
  rw [List.length_erase_of_mem hx] at this
  have : 0 < m.length:=List.length_pos_of_mem hx
  rw [List.length_cons]
  omega
theorem pB {α β : Type} (f : α->List β) (q : α->Bool) (h : ∀ a,(f a).length<=1/\(q a = false->f a = [])) : ∀ l : List α,(l.flatMap f).length<=(l.filter q).length
 | []=>Nat.le_refl _
 | a :: l=>by
  have ih:=pB f q h l
  rw [List.flatMap_cons,List.length_append]
  cases hq : q a with
  | true=>rw [List.filter_cons_of_pos hq,List.length_cons]; have:=(h a).1; omega
  | false=>rw [List.filter_cons_of_neg (by rw [hq]; decide),(h a).2 hq]; simpa using ih
theorem AR (K : KL) (so : List Cl) (hk : List (List Key)) (hv : List D) (p : Str) (day : Int) (n : Nat) : (g0 K so hk hv p day n).length<=(hk.filter fun k=>decide (uY k = p)).length:=by
 refine Nat.le_trans (pB _ (fun o=>(cb hk hv [.inr o,.inr p]).isSome) (fun o=>⟨ji _ _ _ _ _ _ _,fun h=>?_⟩) _) ?_
 ·have hl : cb hk hv [.inr o,.inr p] = none:=by simpa using h
  unfold bQ tF
  rw [hl]
 ·have hnd : (((bL so p day).filter fun o=>(cb hk hv [.inr o,.inr p]).isSome).map fun o=>([.inr o,.inr p] : List Key)).Nodup:=List.Pairwise.map _ (fun a b hab e=>hab (by injection e with e _; injection e)) ((nA so p day).filter _)
  have:=pA _ (hk.filter fun k=>decide (uY k = p)) hnd fun k hm=>by
   obtain ⟨o,ho,rfl⟩:=List.mem_map.mp hm
   obtain ⟨v,hv⟩:=Option.isSome_iff_exists.mp (List.mem_filter.mp ho).2
   exact List.mem_filter.mpr ⟨n6 hv,decide_eq_true rfl⟩
  rwa [List.length_map] at this
theorem SoOk.step {K l : KL} {dd : List Str} {st : St3} (h : SoOk K l dd st) {x : D × Nat} (hx : x.2 ∉ l.map (·.2)) : ∃ dd',SoOk K (l ++ [x]) dd' (bC K st x):=by
 have up : ∀ {n : Nat},n ∈ l.map (·.2)->n ∈ (l ++ [x]).map (·.2):=fun h=>by rw [List.map_append]; exact List.mem_append_left _ h
 have me : x.2 ∈ (l ++ [x]).map (·.2):=by simp
 have ll : (l ++ [x]).length = l.length + 1:=by simp
 have dup : ∀ q ∈ dd,∃ y ∈ l ++ [x],dq K q (aB y.1) y.2 = true:=fun q hq=>by
  obtain ⟨y,h1,h2⟩:=h.ded q hq
  exact ⟨y,List.mem_append_left _ h1,h2⟩
 have wk : SoOk K (l ++ [x]) dd st:=⟨by have:=h.len; omega,dup,h.nod,fun c hc=>up (h.num c hc),h.hs,by have:=h.hk; omega⟩
 have hlen:=h.len
 unfold bC
 split
 ·rename_i hcount
  split
  ·refine ⟨dd,by simp; omega,dup, ?_,fun c hc=>?_,h.hs,by rw [ll]; exact Nat.le_succ_of_le h.hk⟩
   ·rw [List.map_append,List.nodup_append]
    refine ⟨h.nod,by simp,fun a ha b hb e=>?_⟩
    obtain ⟨c,hc,rfl⟩:=List.mem_map.mp ha
    simp at hb
    subst hb
    injection e with _ e2
    exact hx (e2 ▸ h.num c hc)
   ·rcases List.mem_append.mp hc with hc | hc
    ·exact up (h.num c hc)
    ·rw [List.mem_singleton.mp hc]; exact me
  ·split
   ·have hl:=d9 [ax 2 x.1] (ax 1 x.1) (gV 4 x.1) st.1
    refine ⟨dd,by simp; omega,dup, ?_,fun c hc=>?_,h.hs,by rw [ll]; exact Nat.le_succ_of_le h.hk⟩
    ·rw [List.map_append,List.nodup_append]
     refine ⟨h.nod.sublist (iD _ _ _ _),by simp,fun a ha b hb e=>?_⟩
     obtain ⟨c,hc,rfl⟩:=List.mem_map.mp ha
     simp at hb
     subst hb
     injection e with _ e2
     obtain ⟨c',h1,_,h3⟩:=iE hc
     exact hx (e2 ▸ h3 ▸ h.num c' h1)
    ·rcases List.mem_append.mp hc with hc | hc
     ·obtain ⟨c',h1,_,h3⟩:=iE hc
      rw [← h3]; exact up (h.num c' h1)
     ·rw [List.mem_singleton.mp hc]; exact me
   ·split
    ·have hp : ∀ k : List Key,lvK dd (di st.2.1 k)<=lvK dd st.2.1 + 1/\(di st.2.1 k).length<=st.2.1.length + 1:=fun k=>by
      unfold di
      split
      ·omega
      ·have : ([k].filter fun k=>decide (uY k ∉ dd)).length<=1:=List.length_filter_le _ _
       unfold lvK
       rw [List.filter_append,List.length_append,List.length_append,List.length_singleton]
       omega
     refine ⟨dd, ?_,dup,wk.nod,wk.num,fun v hv=>?_, ?_⟩
     ·have:=(hp [.inr (ax 2 x.1),.inr (ax 1 x.1)]).1
      rw [ll]
      show st.1.length + lvK dd (di st.2.1 [.inr (ax 2 x.1),.inr (ax 1 x.1)])<=_
      omega
     ·rcases p7 hv with hv | hv
      ·exact ⟨_,hv⟩
      ·exact h.hs v hv
     ·have:=(hp [.inr (ax 2 x.1),.inr (ax 1 x.1)]).2
      have:=h.hk
      rw [ll]
      show (di _ _).length<=_
      omega
    ·rename_i n1 n2 n3
     have hd : kindOf x.1 = ("death" : Str):=by
      unfold bp at hcount
      by_cases hd : kindOf x.1 = ("death" : Str)
      ·exact hd
      ·rw [if_neg hd,if_neg (by simp [o0,n1,n2,n3])] at hcount
       cases hcount
     have hf : dq K (ax 1 x.1) (aB x.1) x.2 = true:=by unfold bp at hcount; rwa [if_pos hd] at hcount
     have hnp : ax 1 x.1 ∉ dd:=fun hm=>by
      obtain ⟨y,h1,h2⟩:=h.ded _ hm
      exact hx (by rw [← uZ h2 hf]; exact List.mem_map.mpr ⟨y,h1,rfl⟩)
     have hl:=d9 (st.1.map Cl.o) (ax 1 x.1) (aB x.1) st.1
     have hio:=AR K st.1 st.2.1 st.2.2 (ax 1 x.1) (aB x.1) x.2
     have hks:=n8 (ax 1 x.1) dd hnp st.2.1
     have hik:=tH K st.2.1 st.2.2 (ax 1 x.1) (aB x.1) x.2 (bL st.1 (ax 1 x.1) (aB x.1))
     have him : ∀ c ∈ g0 K st.1 st.2.1 st.2.2 (ax 1 x.1) (aB x.1) x.2,c.o ∈ bL st.1 (ax 1 x.1) (aB x.1)/\c.n = x.2:=fun c hc=>by
      have:=hik.subset (List.mem_map.mpr ⟨c,hc,rfl⟩)
      obtain ⟨o,h1,h2⟩:=List.mem_map.mp this
      injection h2 with h3 h4
      exact ⟨h3 ▸ h1,h4.symm⟩
     refine ⟨ax 1 x.1 :: dd, ?_,fun q hq=>?_, ?_,fun c hc=>?_,h.hs,by rw [ll]; exact Nat.le_succ_of_le h.hk⟩
     ·rw [ll]
      show (ba st.1 (st.1.map Cl.o) (ax 1 x.1) (aB x.1) ++ g0 K st.1 st.2.1 st.2.2 (ax 1 x.1) (aB x.1) x.2).length + lvK _ st.2.1<=_
      rw [List.length_append]
      omega
     ·rcases List.mem_cons.mp hq with rfl | hq
      ·exact ⟨x,by simp,hf⟩
      ·exact dup q hq
     ·rw [List.map_append,List.nodup_append]
      refine ⟨h.nod.sublist (iD _ _ _ _),List.Nodup.sublist hik (List.Pairwise.map _ (fun a b hab e=>hab (by injection e)) (nA _ _ _)),fun a ha b hb e=>?_⟩
      obtain ⟨c,hc,rfl⟩:=List.mem_map.mp ha
      obtain ⟨c2,hc2,rfl⟩:=List.mem_map.mp hb
      injection e with _ e2
      obtain ⟨c',h1,_,h3⟩:=iE hc
      exact hx ((him c2 hc2).2 ▸ e2 ▸ h3 ▸ h.num c' h1)
     ·rcases List.mem_append.mp hc with hc | hc
      ·obtain ⟨c',h1,_,h3⟩:=iE hc
       rw [← h3]; exact up (h.num c' h1)
      ·rw [(him c hc).2]; exact me
 ·exact ⟨dd,wk⟩
theorem AS {ρ : DL.Env} {i : Nat} {ks : List (List Key)} {vs : List D} {fk : FA} {fv : FE} {d : D} {b : Bool} {kd : List D} {kk : List Key} (e : ρ[i]? = some (some (.dt ks vs,true))) (ev : fv ρ = some (d,b)) (ek : fk ρ = some kd) (hk : eP kd = some kk) (hf : bc d = true) (h1 : ks.length<=1000) (h2 : kd.length<=1000) : pi i fk fv ρ = some (.nx (ρ.set i (some (.dt (di ks kk) (dI ks vs kk d),true)))):=by
 unfold pi
 rw [e]
 dsimp only
 rw [ev,Option.bind_some,ek,Option.bind_some,hk,Option.bind_some,if_pos ⟨hf,b8 (by omega),bG (by omega)⟩]
theorem Fe (a b : Cl) : (aZ (kC a) (kC b)).isSome = true:=by
 unfold kC
 rw [aZ]
 split
 ·rw [aZ]
  split
  ·rw [aZ]
   split
   ·rw [aZ]; rfl
   ·rfl
  ·rfl
 ·rfl
theorem wx (cs : List Cl) : dw (cs.map kC) = true:=by
 unfold dw
 simp [List.all_eq_true,Fe]
theorem iF {α β : Type} (f : α->β) : ∀ {l : List α},(l.map f).Nodup->∀ {a b : α},a ∈ l->b ∈ l->f a = f b->a = b
 | [],_,_,_,ha,_,_=>by cases ha
 | c :: l,h,a,b,ha,hb,e=>by
  rw [List.map_cons,List.nodup_cons] at h
  rcases List.mem_cons.mp ha with ea | ha1
  ·rcases List.mem_cons.mp hb with eb | hb1
   ·rw [ea,eb]
   ·exact absurd (List.mem_map.mpr ⟨b,hb1,by rw [← e,ea]⟩) h.1
  ·rcases List.mem_cons.mp hb with eb | hb1
   ·exact absurd (List.mem_map.mpr ⟨a,ha1,by rw [e,eb]⟩) h.1
   ·exact iF f h.2 ha1 hb1 e
theorem vc {cs : List Cl} {a b : Cl} (ha : a ∈ cs) (hb : b ∈ cs) (e : bK (kC a) = bK (kC b)) : (a.o,a.n) = (b.o,b.n):=by
 have h:=pc (wx cs) (List.mem_map.mpr ⟨a,ha,rfl⟩) (List.mem_map.mpr ⟨b,hb,rfl⟩) e
 unfold kC at h
 injection h with h1 h2
 injection h1 with h1
 injection h2 with _ h3
 injection h3 with h3 _
 injection h3 with h3
 rw [h1,show a.n = b.n by omega]
theorem AT {rows : List D} (g : cY rows) (known : Int) {l : KL} {dd : List Str} {st : St3} (h : SoOk (au rows known) l dd st) (hj : l.length<=60) {x : D × Nat} (hx : x ∈ au rows known) (hnr : bd x.1 = false) (v5 : Option (D × Bool)) :
  ∃ w5,(iA [some (.tup rows,false),some (.int known,false),some (.lst (st.1.map clD),true),some (.dt st.2.1 st.2.2,true),some (.int x.2,false),v5] = some (.nx [some (.tup rows,false),some (.int known,false),some (.lst ((bC (au rows known) st x).1.map clD),true),some (.dt (bC (au rows known) st x).2.1 (bC (au rows known) st x).2.2,true),some (.int x.2,false),w5])
   ∨ iA [some (.tup rows,false),some (.int known,false),some (.lst (st.1.map clD),true),some (.dt st.2.1 st.2.2,true),some (.int x.2,false),v5] = some (.ct [some (.tup rows,false),some (.int known,false),some (.lst ((bC (au rows known) st x).1.map clD),true),some (.dt (bC (au rows known) st x).2.1 (bC (au rows known) st x).2.2,true),some (.int x.2,false),w5])):=by
 obtain ⟨ha,gx⟩:=cu g hx
 have hso : st.1.length<=60:=by have:=h.len; omega
 have hf : bc x.1 = true:=gx.rp.flat
 have ec:=x0 g known st.1 hso hx hnr
 have ecall : gB (tOf (fA gP (ac (af 0) (ac (af 1) (ac (af 2) (ac (af 4) aj)))))) [some (.tup rows,false),some (.int known,false),some (.lst (st.1.map clD),true),some (.dt st.2.1 st.2.2,true),some (.int x.2,false),some (x.1,false)] = some (!bp (au rows known) st.1 x) :=
  lI (aH (b:=false) (ah (ds:=[.tup rows,.int known,.lst (st.1.map clD),.int x.2]) (by simp) ec))
 have hw : fA aD (ac (af 5) aj) [some (.tup rows,false),some (.int known,false),some (.lst (st.1.map clD),true),some (.dt st.2.1 st.2.2,true),some (.int x.2,false),some (x.1,false)] = some (.str (kindOf x.1),false):=ah (ds:=[x.1]) rfl (uV gx)
 refine ⟨some (x.1,false), ?_⟩
 cases hc : bp (au rows known) st.1 x with
 | false =>
  rw [hc] at ecall
  have es : bC (au rows known) st x = st:=by unfold bC; rw [hc]; rfl
  rw [es]
  exact .inr (aR (d:=x.1) (b:=false) (by simp [ha]) hf (Fd (kq ecall rfl)))
 | true =>
  rw [hc] at ecall
  left
  refine aR (d:=x.1) (b:=false) (by simp [ha]) hf (dz (gM ecall rfl) ?_)
  by_cases hn : kindOf x.1 = ("named" : Str)
  ·have es : bC (au rows known) st x = (st.1 ++ [⟨ax 1 x.1,ax 2 x.1,aB x.1,none,x.2⟩],st.2):=by unfold bC; rw [hc,if_pos rfl,if_pos hn]
   rw [es]
   refine kq (bI (bb:=false) hw (decide_eq_true hn)) ?_
   have hpo : aq [x.1,.str "office"] = some (.str (ax 1 x.1),false)/\aq [x.1,.str "person"] = some (.str (ax 2 x.1),false):=by
    obtain ⟨a,k,az,e,d⟩:=gx
    rw [e] at hn ⊢
    replace hn : k = ("named" : Str):=hn
    cases d with
    | named d o p=>exact ⟨bi (i:=1) (bg (by decide +kernel)) rfl,bi (i:=2) (bg (by decide +kernel)) rfl⟩
    | root=>exact absurd hn (by decide +kernel)
    | chosen=>exact absurd hn (by decide +kernel)
    | heir=>exact absurd hn (by decide +kernel)
    | three _ hk=>rcases hk with rfl | rfl | rfl <;> exact absurd hn (by decide +kernel)
    | other _ hk=>rcases hk with rfl | rfl | rfl | rfl | rfl <;> exact absurd hn (by decide +kernel)
   have hday : aM [x.1] = some (.int (aB x.1),false):=by rw [wv gx]; unfold uU; rw [hnr]; rfl
   have e2 : f2 bN (af 2) (fA bW (ac (fA cB (ac (af 5) (ac (fA aM (ac (af 5) aj)) (ac (af 4) aj)))) aj)) [some (.tup rows,false),some (.int known,false),some (.lst (st.1.map clD),true),some (.dt st.2.1 st.2.2,true),some (.int x.2,false),some (x.1,false)] = some (.lst (st.1.map clD ++ [clD ⟨ax 1 x.1,ax 2 x.1,aB x.1,none,x.2⟩]),true):=by
    refine aG (x:=.lst (st.1.map clD)) (y:=.lst [clD ⟨ax 1 x.1,ax 2 x.1,aB x.1,none,x.2⟩]) (b1:=false) (b2:=true) rfl ?_ (if_pos (bG (by rw [List.length_map,List.length_singleton]; omega)))
    exact ah (ds:=[clD ⟨ax 1 x.1,ax 2 x.1,aB x.1,none,x.2⟩]) (av (ah (ds:=[x.1,.int (aB x.1),.int x.2]) (av (b:=false) rfl (av (b:=false) (ah (ds:=[x.1]) rfl hday) rfl)) (BH hpo.1 hpo.2 _ _)) rfl) (ng _ (by simp))
   have:=qM (i:=2) e2 (by have hq:=fO (st.1 ++ [(⟨ax 1 x.1,ax 2 x.1,aB x.1,none,x.2⟩ : Cl)]); rwa [List.map_append] at hq)
   rw [List.map_append]
   exact this
  ·refine gM (bI (bb:=false) hw (decide_eq_false hn)) ?_
   by_cases hch : kindOf x.1 = ("chosen" : Str)
   ·have es : bC (au rows known) st x = (ba st.1 [ax 2 x.1] (ax 1 x.1) (gV 4 x.1) ++ [⟨ax 2 x.1,ax 3 x.1,gV 4 x.1,none,x.2⟩],st.2):=by unfold bC; rw [hc,if_pos rfl,if_neg hn,if_pos hch]
    rw [es]
    refine kq (bI (bb:=false) hw (decide_eq_true hch)) (qM (i:=2) (ah (ds:=[.lst (st.1.map clD),x.1,.int x.2]) rfl ?_) (fO _))
    obtain ⟨a,k,az,e,d⟩:=gx
    rw [e] at hch ⊢
    replace hch : k = ("chosen" : Str):=hch
    cases d with
    | chosen d b o p s=>exact xA st.1 hso x.2
    | root=>exact absurd hch (by decide +kernel)
    | named=>exact absurd hch (by decide +kernel)
    | heir=>exact absurd hch (by decide +kernel)
    | three _ hk=>rcases hk with rfl | rfl | rfl <;> exact absurd hch (by decide +kernel)
    | other _ hk=>rcases hk with rfl | rfl | rfl | rfl | rfl <;> exact absurd hch (by decide +kernel)
   ·refine gM (bI (bb:=false) hw (decide_eq_false hch)) ?_
    by_cases hh : kindOf x.1 = ("heir" : Str)
    ·have es : bC (au rows known) st x = (st.1,di st.2.1 [.inr (ax 2 x.1),.inr (ax 1 x.1)],dI st.2.1 st.2.2 [.inr (ax 2 x.1),.inr (ax 1 x.1)] (.str (ax 3 x.1))):=by unfold bC; rw [hc,if_pos rfl,if_neg hn,if_neg hch,if_pos hh]
     rw [es]
     have hpo : aq [x.1,.str "office"] = some (.str (ax 2 x.1),false)/\aq [x.1,.str "by"] = some (.str (ax 1 x.1),false)/\aq [x.1,.str "person"] = some (.str (ax 3 x.1),false):=by
      obtain ⟨a,k,az,e,d⟩:=gx
      rw [e] at hh ⊢
      replace hh : k = ("heir" : Str):=hh
      cases d with
      | heir d b o p=>exact ⟨bi (i:=2) (bg (by decide +kernel)) rfl,bi (i:=1) (bg (by decide +kernel)) rfl,bi (i:=3) (bg (by decide +kernel)) rfl⟩
      | root=>exact absurd hh (by decide +kernel)
      | named=>exact absurd hh (by decide +kernel)
      | chosen=>exact absurd hh (by decide +kernel)
      | three _ hk=>rcases hk with rfl | rfl | rfl <;> exact absurd hh (by decide +kernel)
      | other _ hk=>rcases hk with rfl | rfl | rfl | rfl | rfl <;> exact absurd hh (by decide +kernel)
     exact kq (bI (bb:=false) hw (decide_eq_true hh)) (AS (ks:=st.2.1) (vs:=st.2.2) (kd:=[.str (ax 2 x.1),.str (ax 1 x.1)]) (b:=false) rfl (ah (ds:=[x.1,.str "person"]) rfl hpo.2.2) (av (ah (ds:=[x.1,.str "office"]) rfl hpo.1) (av (ah (ds:=[x.1,.str "by"]) rfl hpo.2.1) rfl)) rfl rfl (by have:=h.hk; omega) (by simp))
    ·refine gM (bI (bb:=false) hw (decide_eq_false hh)) ?_
     have es : bC (au rows known) st x = (ba st.1 (st.1.map Cl.o) (ax 1 x.1) (aB x.1) ++ g0 (au rows known) st.1 st.2.1 st.2.2 (ax 1 x.1) (aB x.1) x.2,st.2):=by unfold bC; rw [hc,if_pos rfl,if_neg hn,if_neg hch,if_neg hh]
     rw [es]
     have hd : kindOf x.1 = ("death" : Str):=by
      unfold bp at hc
      by_cases hd : kindOf x.1 = ("death" : Str)
      ·exact hd
      ·rw [if_neg hd,if_neg (by simp [o0,hn,hch,hh])] at hc
       cases hc
     refine qM (i:=2) (ah (ds:=[.tup rows,.int known,.lst (st.1.map clD),.dt st.2.1 st.2.2,.int x.2]) (by simp) ?_) (fO _)
     obtain ⟨a,k,az,e,d⟩:=gx
     have hk : k = ("death" : Str):=by rw [e] at hd; exact hd
     subst hk
     obtain ⟨dd,p,rfl⟩:=d.deed.three (by decide +kernel)
     have:=z8 g known st.1 hso st.2.1 st.2.2 h.hs hx e
     rw [this,e]
     rfl
theorem wy (K : KL) : ∀ (l l0 : KL) (st : St3) (dd : List Str),SoOk K l0 dd st->((l0 ++ l).map (·.2)).Nodup->∃ dd',SoOk K (l0 ++ l) dd' (l.foldl (bC K) st)
 | [],l0,st,dd,h,_=>⟨dd,by rw [List.append_nil]; exact h⟩
 | x :: l,l0,st,dd,h,hn=>by
  have hx : x.2 ∉ l0.map (·.2):=fun hm=>by
   rw [List.map_append,List.nodup_append] at hn
   exact hn.2.2 _ hm x.2 (by simp) rfl
  obtain ⟨dd',h'⟩:=h.step hx
  have e : l0 ++ x :: l = (l0 ++ [x]) ++ l:=by simp
  rw [e] at hn ⊢
  exact wy K l _ _ _ h' hn
theorem qW (K l : KL) (h : (l.map (·.2)).Nodup) : ∃ dd,SoOk K l dd (fR K l):=by
 have:=wy K l [] ([],[],[]) [] ⟨Nat.zero_le _,by simp,by simp,by simp,by simp,Nat.zero_le _⟩ h
 exact this
theorem pC {K : KL} (h : (K.map (·.2)).Nodup) : ((cE K).map (·.2)).Nodup:=((bf _ _).map _).nodup_iff.mpr (List.Nodup.sublist (List.Sublist.map _ List.filter_sublist) h)
theorem kE {rows : List D} (g : cY rows) (known : Int) (hlen : (cE (au rows known)).length<=60) : cr [.tup rows,.int known] = some (.lst ((bj (au rows known)).map clD),true)/\(bj (au rows known)).length<=60:=by
 have eL : d7 [.tup rows,.int known] = some (.lst ((cE (au rows known)).map fun x=>.int x.2),true):=tz g known
 generalize hK : au rows known = K at hlen eL ⊢
 have hmem : ∀ x ∈ cE K,x ∈ K/\bd x.1 = false:=fun x hx=>by
  obtain ⟨h1,h2⟩:=List.mem_filter.mp ((bf _ _).mem_iff.mp hx)
  exact ⟨h1,by simpa using h2⟩
 have hnd : ((cE K).map (·.2)).Nodup:=pC (by rw [← hK]; exact jK rows known)
 obtain ⟨ρ',e,v4,v5,rfl⟩:=dJ (tg:=tgN 4) (g:=iA) (fun j ρ=>∃ v4 v5 : Option (D × Bool),ρ = [some (.tup rows,false),some (.int known,false),some (.lst ((fR K ((cE K).take j)).1.map clD),true),some (.dt (fR K ((cE K).take j)).2.1 (fR K ((cE K).take j)).2.2,true),v4,v5]) ((cE K).map fun x=>.int x.2)
  [some (.tup rows,false),some (.int known,false),some (.lst [],true),some (.dt [] [],true),none,none] ⟨none,none,rfl⟩ (by
   rintro j d ρ hd ⟨v4,v5,rfl⟩
   rw [List.getElem?_map] at hd
   obtain ⟨x,hx,rfl⟩:=oY hd
   have hjl : j < (cE K).length:=(List.getElem?_eq_some_iff.mp hx).1
   have et : (cE K).take (j + 1) = (cE K).take j ++ [x]:=by rw [List.take_add_one,hx]; rfl
   have ef : fR K ((cE K).take (j + 1)) = bC K (fR K ((cE K).take j)) x:=by rw [et]; unfold fR; rw [List.foldl_append]; rfl
   obtain ⟨hxK,hxr⟩:=hmem x (List.mem_of_getElem? hx)
   obtain ⟨dd,h⟩:=qW K ((cE K).take j) (List.Nodup.sublist (List.Sublist.map _ (List.take_sublist _ _)) hnd)
   rw [← hK] at h
   have hst:=AT g known h (by rw [hK,List.length_take]; omega) (x:=x) (by rw [hK]; exact hxK) hxr v5
   rw [hK] at hst
   obtain ⟨w5,hst⟩:=hst
   exact ⟨_,_,rfl,hst,some (.int x.2,false),w5,by rw [ef]⟩)
 have hall : (cE K).take ((cE K).map fun x=>D.int x.2).length = cE K:=by rw [List.length_map,List.take_length]
 rw [hall] at e
 obtain ⟨dd,hso⟩:=qW K (cE K) hnd
 generalize hcs : (fR K (cE K)) = st at e hso
 have hcl : st.1.length<=60:=by have:=hso.len; omega
 have hCk : bj K = f9 (fun c=>bK (kC c)) st.1:=by unfold bj; rw [hcs]
 have hm : ∀ ρ : DL.Env,fF (oz cX ρ) (st.1.map clD) = some (st.1.map fun c=>.tup [.str c.o,.int c.s,.int c.n]):=fun ρ=>fN st.1 fun c _=>by
  show (cX [clD c]).map _ = _
  rw [qS]
  rfl
 have hk : cy (st.1.map fun c=>D.tup [.str c.o,.int c.s,.int c.n]) = some (st.1.map kC):=dU st.1 fun c _=>rfl
 have hcond : (st.1.map kC).length < 64/\dw (st.1.map kC) = true/\dh (st.1.map kC) = true/\((st.1.map kC).map bK).Nodup:=by
  refine ⟨by rw [List.length_map]; omega,wx _, ?_, ?_⟩
  ·unfold dh
   rw [Bool.or_eq_true]
   right
   simp [List.all_eq_true,kC]
  ·rw [List.map_map]
   have h1 : st.1.Pairwise fun a b=>(a.o,a.n) ≠ (b.o,b.n):=List.pairwise_map.mp hso.nod
   have h2 : st.1.Pairwise fun a b=>bK (kC a) ≠ bK (kC b):=by
    refine List.Pairwise.imp_of_mem ?_ h1
    intro a b ha hb hne e
    exact hne (vc ha hb e)
   exact List.pairwise_map.mpr h2
 have hz : (st.1.map kC).zip (st.1.map clD) = st.1.map fun c=>(kC c,clD c):=by rw [List.zip_map']
 have key : ((bj K).map fun c=>(kC c,clD c)) = f9 (fun p : List At × D=>bK p.1) (st.1.map fun c=>(kC c,clD c)):=by
  rw [hCk]
  refine gI _ (fun x hx y hy e=>?_) ((bf _ _).map _) ?_
  ·obtain ⟨a,ha,rfl⟩:=List.mem_map.mp hx
   obtain ⟨b,hb,rfl⟩:=List.mem_map.mp hy
   rw [iF (fun c : Cl=>(c.o,c.n)) hso.nod ha hb (vc ha hb e)]
  ·exact List.pairwise_map.mpr (cU _ _)
 refine ⟨a7 rfl (bZ (ds:=[]) (by simp [sizeLine]) rfl (dz (ρ':=[some (.tup rows,false),some (.int known,false),some (.lst [],true),some (.dt [] [],true),none,none]) rfl (dz (gh (ds:=(cE K).map fun x=>.int x.2) ?_ e) (aK ?_)))),by rw [hCk,(bf _ _).length_eq]; exact hcl⟩
 ·show (fA d7 (ac (af 0) (ac (af 1) aj)) _).bind _ = _
  rw [ah (ds:=[.tup rows,.int known]) rfl eL]
  rfl
 ·unfold ko
  show ((some (D.lst (st.1.map clD),false)).bind _) = _
  simp only [Option.bind_some]
  rw [hm]
  simp only [Option.bind_some]
  rw [hk]
  simp only [Option.bind_some]
  rw [if_pos hcond]
  unfold gJ
  rw [hz,← key,List.map_map]
  rfl
def eX (K : KL) (o : Str) (day : Int) : D:=match fQ K o with
 | none=>.tup [.str "none"]
 | some v=>iS (bj K) (ax 0 v) (ax 3 v) day
theorem xB {rows : List D} (g : cY rows) (known : Int) (hlen : (cE (au rows known)).length<=60) (o : Str) (day : Int) : eB [.tup rows,.int known,.str o,.int day] = some (eX (au rows known) o day,false):=by
 obtain ⟨ec,hcl⟩:=kE g known hlen
 have e4 : f2 uO (fA eR (ac (af 0) (ac (af 1) aj))) (af 2) [some (.tup rows,false),some (.int known,false),some (.str o,false),some (.int day,false),none] = some ((fQ (au rows known) o).getD .non,false) :=
  aG (x:=.dk (bq (gW (au rows known))).1 (bq (gW (au rows known))).2) (y:=.str o) (b1:=false) (b2:=false) (ah (ds:=[.tup rows,.int known]) rfl (t8 g known)) rfl rfl
 unfold eX
 cases hr : fQ (au rows known) o with
 | none =>
  rw [hr] at e4
  exact a7 rfl (aR (d:=.non) (b:=false) e4 rfl (dO (aH (b:=false) (by simp)) (aK (ah (ds:=[.str "none"]) rfl (cD _ (by simp))))))
 | some v =>
  rw [hr] at e4
  obtain ⟨va,vo,vrl,vm,vf,ev⟩:=lg g hr
  subst ev
  exact a7 rfl (aR (d:=row va ("root" : Str) [.str vo,.int vm,.int vf,.str vrl]) (b:=false) e4 rfl (bO (aH (b:=false) (by simp [row])) (aK (ah (ds:=[.lst ((bj (au rows known)).map clD),row va ("root" : Str) [.str vo,.int vm,.int vf,.str vrl],.int day]) (av (ah (ds:=[.tup rows,.int known]) rfl ec) rfl) (jN _ hcl day)))))
def b9 (e : Int) (x : D × Nat) : Bool:=bd x.1 || decide (aB x.1<=e)
def bv (e : Int) (K : KL) : KL:=K.filter (b9 e)
theorem nB (e : Int) (K : KL) (o : Str) : fQ (bv e K) o = fQ K o:=by
 have : gW (bv e K) = gW K:=by
  unfold gW bv
  rw [List.filter_filter,List.filter_congr fun x _=>show (bd x.1 && b9 e x) = bd x.1 by unfold b9; cases bd x.1 <;> rfl]
 unfold fQ
 rw [this]
theorem jj {e d : Int} (h : d<=e) (ws : List Str) (p : Str) (K : KL) : (bv e K).filter (fun x=>told ws p d x.1) = K.filter fun x=>told ws p d x.1:=by
 unfold bv
 rw [List.filter_filter,List.filter_congr fun x _=>show (told ws p d x.1 && b9 e x) = told ws p d x.1 from ?_]
 cases ht : told ws p d x.1 with
 | false=>rfl
 | true =>
  have:=(qV ht).1
  unfold b9
  rw [decide_eq_true (by omega),Bool.or_true]
  rfl
theorem tI {e d : Int} (h : d<=e) (K : KL) (p : Str) (i : Nat) : dq (bv e K) p d i = dq K p d i:=by
 unfold dq
 rw [jj h]
theorem lh {e d : Int} (h : d<=e) (K : KL) (p : Str) : fu (bv e K) p d = fu K p d:=by
 unfold fu
 rw [jj h]
theorem tJ {e : Int} (K : KL) {r : D} (h : aB r<=e) : jh (bv e K) r = jh K r:=by
 unfold jh BG
 rw [lh h,jj h]
theorem qX {e : Int} (K : KL) (so : List Cl) {x : D × Nat} (h : aB x.1<=e) : bp (bv e K) so x = bp K so x:=by
 unfold bp
 rw [tI h,nB,tJ K h]
theorem xC {e d : Int} (h : d<=e) (K : KL) (so : List Cl) (hk : List (List Key)) (hv : List D) (p : Str) (n : Nat) : g0 (bv e K) so hk hv p d n = g0 K so hk hv p d n:=by
 have : bQ (bv e K) hk hv p d n = bQ K hk hv p d n:=funext fun o=>by
  unfold bQ
  split
  ·rw [lh h]
  ·rfl
 unfold g0
 rw [this]
theorem ve {e : Int} (K : KL) (st : St3) {x : D × Nat} (h : aB x.1<=e) : bC (bv e K) st x = bC K st x:=by
 unfold bC
 rw [qX K st.1 h,xC h]
theorem nD {e : Int} (K : KL) : ∀ (l : KL) (st : St3),(∀ x ∈ l,aB x.1<=e)->l.foldl (bC (bv e K)) st = l.foldl (bC K) st
 | [],_,_=>rfl
 | x :: l,st,h=>by
  rw [List.foldl_cons,List.foldl_cons,ve K st (h x mX)]
  exact nD K l _ fun y hy=>h y (mZ _ hy)
def qY (e : Int) (c : Cl) : Cl:=⟨c.o,c.p,c.s,match c.u with | some x=>if x<=e then some x else none | none=>none,c.n⟩
def vw (e : Int) (cs : List Cl) : List Cl:=(cs.filter fun c=>decide (c.s<=e)).map (qY e)
theorem nE (e : Int) (a b : List Cl) : vw e (a ++ b) = vw e a ++ vw e b:=by unfold vw; rw [List.filter_append,List.map_append]
theorem jO {e : Int} {l : List Cl} (h : ∀ c ∈ l,e < c.s) : vw e l = []:=by
 unfold vw
 rw [List.filter_eq_nil_iff.mpr fun c hc=>by have:=h c hc; simp; omega]
 rfl
theorem CZ (e : Int) (c : Cl) (l : List Cl) : vw e (c :: l) = vw e [c] ++ vw e l:=nE e [c] l
theorem nF {e t : Int} (h : e < t) (offs : List Str) (p : Str) : ∀ so : List Cl,vw e (ba so offs p t) = vw e so
 | []=>rfl
 | c :: so=>by
  have ih:=nF h offs p so
  unfold ba at ih ⊢
  rw [List.flatMap_cons,nE,CZ e c so,ih]
  congr 1
  unfold cW
  split
  ·rfl
  ·rename_i hc
   by_cases hs : c.s<=e
   ·rw [if_pos (by omega)]
    rw [Bool.not_eq_true,Bool.or_eq_false_iff,Bool.or_eq_false_iff] at hc
    have hp : c.p = p:=by simpa using hc.2.1
    have ha : cm c t = true:=by
     have:=hc.2.2
     simp only [Bool.not_eq_eq_eq_not,Bool.not_false,Bool.or_eq_true,decide_eq_true_eq] at this
     rcases this with h | h
     ·exact h
     ·omega
    have hu : (qY e c) = qY e ⟨c.o,p,c.s,some t,c.n⟩:=by
     unfold qY
     rw [hp]
     congr 1
     dsimp only
     rw [if_neg (by omega)]
     cases hu : c.u with
     | none=>rfl
     | some x =>
      unfold cm at ha
      rw [hu] at ha
      simp only [Bool.and_eq_true,decide_eq_true_eq] at ha
      exact if_neg (by omega)
    unfold vw
    rw [List.filter_cons_of_pos (by simpa using hs),List.filter_cons_of_pos (by simpa using hs),List.filter_nil,List.map_singleton,List.map_singleton,hu]
   ·rw [show vw e [c] = [] from jO fun d hd=>by rw [List.mem_singleton.mp hd]; omega]
    split
    ·exact jO fun d hd=>by rw [List.mem_singleton.mp hd]; show e < c.s; omega
    ·rfl
theorem wz {K : KL} {so : List Cl} {hk : List (List Key)} {hv : List D} {p : Str} {d : Int} {n : Nat} {c : Cl} (h : c ∈ g0 K so hk hv p d n) : c.o ∈ bL so p d/\c.s = d/\c.u = none/\c.n = n/\fu K c.p d = true:=by
 unfold g0 at h
 obtain ⟨o,ho,h⟩:=List.mem_flatMap.mp h
 unfold bQ at h
 split at h
 ·split at h
  ·rename_i hl
   rw [List.mem_singleton.mp h]
   exact ⟨ho,rfl,rfl,rfl,hl⟩
  ·cases h
 ·cases h
def gs (x : D × Nat) : Prop:=kindOf x.1 = ("chosen" : Str)->aB x.1<=gV 4 x.1
theorem xD {e : Int} (K : KL) (st : St3) {x : D × Nat} (h : e < aB x.1) (hs : gs x) : vw e (bC K st x).1 = vw e st.1:=by
 unfold bC
 split
 ·split
  ·show vw e (st.1 ++ _) = _
   rw [nE,show vw e [(⟨ax 1 x.1,ax 2 x.1,aB x.1,none,x.2⟩ : Cl)] = [] from jO fun c hc=>by rw [List.mem_singleton.mp hc]; exact h,List.append_nil]
  ·split
   ·rename_i hk
    have hs:=hs hk
    show vw e (ba _ _ _ _ ++ _) = _
    rw [nE,nF (by omega),show vw e [(⟨ax 2 x.1,ax 3 x.1,gV 4 x.1,none,x.2⟩ : Cl)] = [] from jO fun c hc=>by rw [List.mem_singleton.mp hc]; show e < gV 4 x.1; omega,List.append_nil]
   ·split
    ·rfl
    ·show vw e (ba _ _ _ _ ++ g0 _ _ _ _ _ _ _) = _
     rw [nE,nF h,jO (l:=g0 _ _ _ _ _ _ _) fun c hc=>by rw [(wz hc).2.1]; exact h,List.append_nil]
 ·rfl
theorem pD {e : Int} (K : KL) : ∀ (l : KL) (st : St3),(∀ x ∈ l,e < aB x.1/\gs x)->vw e (l.foldl (bC K) st).1 = vw e st.1
 | [],_,_=>rfl
 | x :: l,st,h=>by
  rw [List.foldl_cons,pD K l _ fun y hy=>h y (mZ _ hy)]
  exact xD K st (h x mX).1 (h x mX).2
theorem xE (e : Int) {K : KL} (hn : (K.map (·.2)).Nodup) : cE K = cE (bv e K) ++ cE (K.filter fun x=>!b9 e x):=by
 have hin : ∀ {x : D × Nat} {L : KL},x ∈ cE L->x ∈ L/\bd x.1 = false:=fun hx=>by
  obtain ⟨h1,h2⟩:=List.mem_filter.mp ((bf _ _).mem_iff.mp hx)
  exact ⟨h1,by simpa using h2⟩
 symm
 refine gI _ (fun x hx y hy q=>iF (·.2) hn (List.mem_filter.mp hx).1 (List.mem_filter.mp hy).1 (uW q)) ?_ ?_
 ·refine (List.Perm.append (bf _ _) (bf _ _)).trans ?_
  unfold bv
  rw [← List.filter_append]
  exact (List.filter_append_perm (b9 e) K).filter _
 ·rw [List.pairwise_append]
  refine ⟨cU _ _,cU _ _,fun x hx y hy=>?_⟩
  obtain ⟨h1,h2⟩:=hin hx
  obtain ⟨h3,h4⟩:=hin hy
  have a1:=(List.mem_filter.mp h1).2
  have a2:=(List.mem_filter.mp h3).2
  unfold b9 at a1 a2
  rw [h2] at a1
  rw [h4] at a2
  simp at a1 a2
  show ¬ bK (kA y) < bK (kA x)
  intro hl
  have q:=lF _ _ _ (qP y x)
  rw [decide_eq_true hl] at q
  unfold eW at q
  have q:=of_decide_eq_true q
  omega
theorem jP (e : Int) {K : KL} (hn : (K.map (·.2)).Nodup) (hs : ∀ x ∈ K,gs x) : vw e (bj K) = vw e (bj (bv e K)):=by
 have hin : ∀ {x : D × Nat} {L : KL},x ∈ cE L->x ∈ L/\bd x.1 = false:=fun hx=>by
  obtain ⟨h1,h2⟩:=List.mem_filter.mp ((bf _ _).mem_iff.mp hx)
  exact ⟨h1,by simpa using h2⟩
 have hf : vw e (fR K (cE K)).1 = vw e (fR (bv e K) (cE (bv e K))).1:=by
  unfold fR
  rw [xE e hn,List.foldl_append,pD,nD]
  ·intro x hx
   obtain ⟨h1,h2⟩:=hin hx
   have a1:=(List.mem_filter.mp h1).2
   unfold b9 at a1
   rw [h2] at a1
   simpa using a1
  ·intro x hx
   obtain ⟨h1,h2⟩:=hin hx
   obtain ⟨a0,a1⟩:=List.mem_filter.mp h1
   unfold b9 at a1
   rw [h2] at a1
   exact ⟨by simpa using a1,hs x a0⟩
 have hsort : ∀ L : KL,(L.map (·.2)).Nodup->vw e (bj L) = f9 (fun c=>bK (kC c)) (vw e (fR L (cE L)).1):=fun L hL=>by
  obtain ⟨dd,so⟩:=qW L (cE L) (pC hL)
  unfold bj
  refine gI _ (fun x hx y hy q=>?_) (((bf _ _).filter _).map _) ?_
  ·obtain ⟨a,ha,rfl⟩:=List.mem_map.mp hx
   obtain ⟨b,hb,rfl⟩:=List.mem_map.mp hy
   have ha:=(List.mem_filter.mp ha).1
   have hb:=(List.mem_filter.mp hb).1
   rw [iF (fun c : Cl=>(c.o,c.n)) so.nod ha hb (vc ha hb q)]
  ·exact List.pairwise_map.mpr ((cU (fun c=>bK (kC c)) _).filter _)
 rw [hsort K hn,hsort (bv e K) (List.Nodup.sublist (List.Sublist.map _ List.filter_sublist) hn),hf]
theorem jQ (f : Cl->Cl) (hf : ∀ c,kS (f c) = kS c) : ∀ (r : List Cl) (b : Cl),fP (f b) (r.map f) = f (fP b r)
 | [],b=>rfl
 | x :: r,b=>by
  rw [List.map_cons,fP,fP,hf,hf]
  split
  ·exact jQ f hf r x
  ·exact jQ f hf r b
theorem nG (f : Cl->Cl) (hf : ∀ c,kS (f c) = kS c) : ∀ (r : List Cl) (b : Cl),jM (f b) (r.map f) = f (jM b r)
 | [],b=>rfl
 | x :: r,b=>by
  rw [List.map_cons,jM,jM,hf,hf]
  split
  ·exact nG f hf r x
  ·exact nG f hf r b
theorem zA (f : Cl->Cl) (hf : ∀ c,kS (f c) = kS c) (hp : ∀ c,(f c).p = c.p) (hn : ∀ c,(f c).n = c.n) (rl : Str) (al : List Cl) : gU rl (al.map f) = gU rl al:=by
 have hpp : ∀ l : List Cl,gT (l.map f) = gT l:=fun l=>by unfold gT; rw [List.map_map]; congr 2; exact List.map_congr_left fun c _=>hp c
 cases al with
 | nil=>rfl
 | cons b r =>
  have hch : (d8 rl (f b) (r.map f)).p = (d8 rl b r).p:=by
   unfold d8
   split
   ·rw [nG f hf,hp]
   ·rw [jQ f hf,hp]
  have hold : ∀ q : Str,AL (((b :: r).map f).filter fun c=>decide (c.p = q)) = AL ((b :: r).filter fun c=>decide (c.p = q)):=fun q=>by
   rw [List.filter_map,List.filter_congr fun c _=>show ((fun c : Cl=>decide (c.p = q)) ∘ f) c = decide (c.p = q) by show decide ((f c).p = q) = _; rw [hp]]
   cases (b :: r).filter fun c=>decide (c.p = q) with
   | nil=>rfl
   | cons b2 r2=>show (fP (f b2) (r2.map f)).n = (fP b2 r2).n; rw [jQ f hf,hn]
  have hb:=hpp (b :: r)
  have ho:=hold (d8 rl b r).p
  rw [List.map_cons] at hb ho ⊢
  rw [gU,gU,hb,hch,ho]
theorem xF {e day : Int} (h : day<=e) (c : Cl) : cm (qY e c) day = cm c day:=by
 unfold cm qY
 cases c.u with
 | none=>rfl
 | some x =>
  dsimp only
  by_cases hx : x<=e
  ·rw [if_pos hx]
  ·rw [if_neg hx]
   dsimp only
   rw [decide_eq_true (show day < x by omega)]
theorem w4 {e day : Int} (h : day<=e) (cs : List Cl) (o rl : Str) : iS cs o rl day = iS (vw e cs) o rl day:=by
 have : alL (vw e cs) o day = (alL cs o day).map (qY e):=by
  unfold alL vw
  rw [List.filter_map,List.filter_filter]
  congr 1
  refine List.filter_congr fun c _=>?_
  show ((decide (c.o = o) && cm (qY e c) day) && decide (c.s<=e)) = _
  rw [xF h]
  cases ha : cm c day with
  | false=>simp
  | true =>
   have : c.s<=e:=by
    unfold cm at ha
    rw [Bool.and_eq_true] at ha
    have:=of_decide_eq_true ha.1
    omega
   rw [decide_eq_true this,Bool.and_true]
 unfold iS
 rw [this,zA (qY e) (fun c=>rfl) (fun c=>rfl) fun c=>rfl]
theorem qZ {e day : Int} (h : day<=e) {K : KL} (hn : (K.map (·.2)).Nodup) (hs : ∀ x ∈ K,gs x) (o : Str) : eX K o day = eX (bv e K) o day:=by
 unfold eX
 rw [nB]
 split
 ·rfl
 ·rw [w4 h,jP e hn hs,← w4 h]
def re (c : Cl) : D:=.tup [.str c.o,.str c.p,.int c.s,.int c.n]
theorem tK (e : Int) {K : KL} (hn : (K.map (·.2)).Nodup) (hs : ∀ x ∈ K,gs x) : ((bj K).filter fun c=>decide (c.s<=e)).map re = ((bj (bv e K)).filter fun c=>decide (c.s<=e)).map re:=by
 have : ∀ cs : List Cl,(cs.filter fun c=>decide (c.s<=e)).map re = (vw e cs).map re:=fun cs=>by unfold vw; rw [List.map_map]; rfl
 rw [this,this,jP e hn hs]
structure WellC (K : KL) (c : Cl) : Prop where
 rt : ∃ v,fQ K c.o = some v
 un : ∀ x,c.u = some x->c.s < x
 de : ∃ r,(r,c.n) ∈ K/\((kindOf r = ("named" : Str)/\aB r = c.s/\ax 1 r = c.o/\ax 2 r = c.p) ∨ (kindOf r = ("chosen" : Str)/\ax 2 r = c.o/\ax 3 r = c.p/\gV 4 r = c.s) ∨ (kindOf r = ("death" : Str)/\aB r = c.s/\ax 1 r ≠ c.p))
theorem nH {K : KL} {so : List Cl} (h : ∀ c ∈ so,WellC K c) (offs : List Str) (p : Str) (day : Int) : ∀ c ∈ ba so offs p day,WellC K c:=fun c hc=>by
 unfold ba at hc
 obtain ⟨c',h1,h2⟩:=List.mem_flatMap.mp hc
 unfold cW at h2
 split at h2
 ·rw [List.mem_singleton.mp h2]; exact h c' h1
 ·rename_i hn
  split at h2
  ·rename_i hd
   rw [List.mem_singleton.mp h2]
   have w:=h c' h1
   have hp : c'.p = p:=by
    rw [Bool.not_eq_true,Bool.or_eq_false_iff,Bool.or_eq_false_iff] at hn
    simpa using hn.2.1
   obtain ⟨r,hr,hk⟩:=w.de
   rw [hp] at hk
   exact ⟨w.rt,fun x e=>by cases e; exact hd,r,hr,hk⟩
  ·cases h2
theorem xG {K : KL} {st : St3} (h : ∀ c ∈ st.1,WellC K c) {x : D × Nat} (hx : x ∈ K) (hx3 : kindOf x.1 = ("death" : Str)->told bP (ax 1 x.1) (aB x.1) x.1 = true) : ∀ c ∈ (bC K st x).1,WellC K c:=by
 unfold bC
 split
 ·rename_i hc
  have hroot : kindOf x.1 ≠ ("death" : Str)->∃ v,fQ K (t9 x.1) = some v:=fun hd=>by
   unfold bp at hc
   rw [if_neg hd] at hc
   split at hc
   ·split at hc
    ·cases hc
    ·rename_i v e; exact ⟨v,e⟩
   ·cases hc
  split
  ·rename_i hk
   intro c hm
   rcases List.mem_append.mp hm with hm | hm
   ·exact h c hm
   ·rw [List.mem_singleton.mp hm]
    have hr:=hroot (by rw [hk]; decide +kernel)
    unfold t9 at hr
    rw [if_pos hk] at hr
    exact ⟨hr,fun x e=>(by cases e),x.1,hx,.inl ⟨hk,rfl,rfl,rfl⟩⟩
  ·split
   ·rename_i hk1 hk
    intro c hm
    rcases List.mem_append.mp hm with hm | hm
    ·exact nH h _ _ _ c hm
    ·rw [List.mem_singleton.mp hm]
     have hr:=hroot (by rw [hk]; decide +kernel)
     unfold t9 at hr
     rw [if_neg hk1] at hr
     exact ⟨hr,fun x e=>(by cases e),x.1,hx,.inr (.inl ⟨hk,rfl,rfl,rfl⟩)⟩
   ·split
    ·exact h
    ·rename_i n1 n2 n3
     have hd : kindOf x.1 = ("death" : Str):=by
      unfold bp at hc
      by_cases hd : kindOf x.1 = ("death" : Str)
      ·exact hd
      ·rw [if_neg hd,if_neg (by simp [o0,n1,n2,n3])] at hc
       cases hc
     intro c hm
     rcases List.mem_append.mp hm with hm | hm
     ·exact nH h _ _ _ c hm
     ·obtain ⟨h1,h2,h3,h4,h5⟩:=wz hm
      obtain ⟨c',hc',ho⟩:=z9 h1
      refine ⟨by rw [← ho]; exact (h c' hc').rt,fun y e=>(by rw [h3] at e; cases e),x.1,by rw [h4]; exact hx,.inr (.inr ⟨hd,h2.symm,fun e=>?_⟩)⟩
      unfold fu at h5
      rw [List.isEmpty_iff] at h5
      have:=List.filter_eq_nil_iff.mp h5 x hx
      rw [← e] at this
      exact this (hx3 hd)
 ·exact h
theorem tL {K : KL} (h3 : ∀ x ∈ K,kindOf x.1 = ("death" : Str)->told bP (ax 1 x.1) (aB x.1) x.1 = true) : ∀ c ∈ bj K,WellC K c:=by
 have go : ∀ (l : KL) (st : St3),(∀ c ∈ st.1,WellC K c)->(∀ x ∈ l,x ∈ K)->∀ c ∈ (l.foldl (bC K) st).1,WellC K c:=fun l=>by
  induction l with
  | nil=>intro st h _; exact h
  | cons x l ih =>
   intro st h hl
   have hx:=hl x mX
   exact ih _ (xG h hx (h3 x hx)) fun y hy=>hl y (mZ _ hy)
 intro c hc
 exact go (cE K) ([],[],[]) (by simp) (fun x hx=>(List.mem_filter.mp ((bf _ _).mem_iff.mp hx)).1) c ((bf _ _).mem_iff.mp hc)
theorem Ey {ns : List Int} {i : Int} (h1 : 0<=i) (h2 : i < ns.length) : ∃ m ∈ ns,ixD (.lst (ns.map .int)) (.int i) = some (.int m,false):=by
 have h : i.toNat < ns.length:=by omega
 refine ⟨ns.getD i.toNat 0, ?_,wf h1 h⟩
 rw [List.getD_eq_getElem?_getD,List.getElem?_eq_getElem h]
 exact List.getElem_mem h
theorem gY {zs : List Str} {i : Int} (h1 : -(zs.length : Int)<=i) (h2 : i < zs.length) : ∃ z ∈ zs,ixD (.lst (zs.map .str)) (.int i) = some (.str z,false):=by
 obtain ⟨j,hj,hl⟩ : ∃ j,ixN (zs.map D.str).length i = some j/\j < zs.length:=by
  unfold ixN
  rw [List.length_map]
  by_cases h0 : 0<=i
  ·rw [if_pos h0,if_pos h2]; exact ⟨_,rfl,by omega⟩
  ·rw [if_neg h0,if_pos (by omega)]; exact ⟨_,rfl,by omega⟩
 refine ⟨zs[j],List.getElem_mem hl, ?_⟩
 have : atI (zs.map D.str) i = some (.str zs[j]):=by unfold atI; rw [hj,Option.bind_some,List.getElem?_map,List.getElem?_eq_getElem hl]; rfl
 simp [this]
def iI (r : D) : Prop:=lA r/\(kindOf r = ("chosen" : Str)->aB r<=gV 4 r)/\cP r<=100
def tM (day : Int) (k : Str) (r : List D) : Prop:=Cd k r/\k ≠ ("root" : Str)/\∀ h,aB (row h k r) = day/\(k = ("chosen" : Str)->day<=gV 4 (row h k r))
theorem tM.row {day : Int} {k : Str} {r : List D} (h : tM day k r) (hd : day<=100) : iI (Lw.row day k r)/\bd (Lw.row day k r) = false:=⟨⟨⟨_,_,_,rfl,h.1⟩,fun e=>by rw [(h.2.2 day).1]; exact (h.2.2 day).2 e,hd⟩,decide_eq_false h.2.1⟩
theorem w6 (c day : Int) (b o p : Str) : ∃ k r,eA [.int c,.int day,.str b,.str o,.str p] = some (.tup (.str k :: r),false)/\tM day k r:=by
 have h16:=mod_lt (x:=c) (m:=16) (by decide)
 have h5:=mod_lt (x:=c / 16) (m:=5) (by decide)
 have h2:=mod_lt (x:=c / 80) (m:=2) (by decide)
 have h60:=mod_lt (x:=c) (m:=60) (by decide)
 obtain ⟨iv,hiv,eiv⟩:=Ey (ns:=[0,0,0,0,0,1,1,1,1,2,2,3,3,4,5,6 + c / 80 % 2]) (i:=c % 16) h16.1 h16.2
 have hi8 : 0<=iv/\iv < 8:=by simp only [List.mem_cons,List.not_mem_nil,or_false] at hiv; omega
 let L1 : List D:=[.tup [.str "chosen",.int day,.str b,.str o,.str p,.int (day + c / 16 % 5)],.tup [.str "heir",.int day,.str b,.str o,.str p]]
 let L2 : List D:=[.tup [.str "death",.int day,.str b],.tup [.str "named",.int day,.str o,.str p],.tup [.str "lost",.int day,.str b],.tup [.str "found",.int day,.str b]]
 let L3 : List D:=[.tup [.str "death",.int day,.str p],.tup [.str "call",.int day,.str b,.int (c % 60)]]
 have e1 : fA bW (ac (fA aP (ac (fC (.str "chosen")) (ac (af 1) (ac (af 2) (ac (af 3) (ac (af 4) (ac (f2 bN (af 1) (f2 cN (f2 eF (af 0) (fC (.int 16))) (fC (.int 5)))) aj))))))) (ac (fA aP (ac (fC (.str "heir")) (ac (af 1) (ac (af 2) (ac (af 3) (ac (af 4) aj)))))) aj)) [some (.int c,false),some (.int day,false),some (.str b,false),some (.str o,false),some (.str p,false),none] = some (.lst L1,true):=by simp [L1,sizeLine]
 have q : ∀ n : Nat,n<=100->n<=sizeLine:=fun n h=>bG (by omega)
 have e2 : f2 bN (af 5) (fA bW (ac (fA aP (ac (fC (.str "death")) (ac (af 1) (ac (af 2) aj)))) (ac (fA aP (ac (fC (.str "named")) (ac (af 1) (ac (af 3) (ac (af 4) aj))))) (ac (fA aP (ac (fC (.str "lost")) (ac (af 1) (ac (af 2) aj)))) (ac (fA aP (ac (fC (.str "found")) (ac (af 1) (ac (af 2) aj)))) aj))))) [some (.int c,false),some (.int day,false),some (.str b,false),some (.str o,false),some (.str p,false),some (.lst L1,true)] = some (.lst (L1 ++ L2),true) :=
  aG (x:=.lst L1) (y:=.lst L2) (b1:=false) (b2:=true) rfl (by simp [L2,sizeLine]) (if_pos (c:=6<=sizeLine) (e:=none) (q 6 (by decide)))
 have e3 : f2 bN (af 5) (fA bW (ac (fA aP (ac (fC (.str "death")) (ac (af 1) (ac (af 4) aj)))) (ac (fA aP (ac (fC (.str "call")) (ac (af 1) (ac (af 2) (ac (f2 cN (af 0) (fC (.int 60))) aj))))) aj))) [some (.int c,false),some (.int day,false),some (.str b,false),some (.str o,false),some (.str p,false),some (.lst (L1 ++ L2),true)] = some (.lst (L1 ++ L2 ++ L3),true) :=
  aG (x:=.lst (L1 ++ L2)) (y:=.lst L3) (b1:=false) (b2:=true) rfl (by simp [L3,sizeLine]) (if_pos (c:=8<=sizeLine) (e:=none) (q 8 (by decide)))
 have hl8 : (L1 ++ L2 ++ L3).length = 8:=rfl
 have fin : eA [.int c,.int day,.str b,.str o,.str p] = some ((L1 ++ L2 ++ L3).getD iv.toNat .non,false):=by
  refine a7 rfl (bZ (ds:=L1) e1 rfl (bZ (ds:=L1 ++ L2) e2 rfl (bZ (ds:=L1 ++ L2 ++ L3) e3 rfl (aK (aG (x:=.lst (L1 ++ L2 ++ L3)) (y:=.int iv) (b1:=false) (b2:=false) rfl (aG (x:=.lst (([0,0,0,0,0,1,1,1,1,2,2,3,3,4,5,6 + c / 80 % 2] : List Int).map .int)) (y:=.int (c % 16)) (b1:=true) (b2:=false) ?_ (by simp) eiv) (zn hi8.1 (by rw [hl8]; omega)))))))
  exact ah (ds:=([0,0,0,0,0,1,1,1,1,2,2,3,3,4,5,6 + c / 80 % 2] : List Int).map .int) (by simp) (ng _ (by simp))
 rw [fin]
 rcases (show iv = 0 ∨ iv = 1 ∨ iv = 2 ∨ iv = 3 ∨ iv = 4 ∨ iv = 5 ∨ iv = 6 ∨ iv = 7 by omega) with h | h | h | h | h | h | h | h <;> subst h
 ·exact ⟨_,_,rfl,.chosen _ _ _ _ _,by decide +kernel,fun _=>⟨rfl,fun _=>show day<=day + c / 16 % 5 by omega⟩⟩
 ·exact ⟨_,_,rfl,.heir _ _ _ _,by decide +kernel,fun _=>⟨rfl,fun h=>absurd h (by decide +kernel)⟩⟩
 ·exact ⟨_,_,rfl,.three _ (.inl rfl) _ _,by decide +kernel,fun _=>⟨rfl,fun h=>absurd h (by decide +kernel)⟩⟩
 ·exact ⟨_,_,rfl,.named _ _ _,by decide +kernel,fun _=>⟨rfl,fun h=>absurd h (by decide +kernel)⟩⟩
 ·exact ⟨_,_,rfl,.three _ (.inr (.inl rfl)) _ _,by decide +kernel,fun _=>⟨rfl,fun h=>absurd h (by decide +kernel)⟩⟩
 ·exact ⟨_,_,rfl,.three _ (.inr (.inr rfl)) _ _,by decide +kernel,fun _=>⟨rfl,fun h=>absurd h (by decide +kernel)⟩⟩
 ·exact ⟨_,_,rfl,.three _ (.inl rfl) _ _,by decide +kernel,fun _=>⟨rfl,fun h=>absurd h (by decide +kernel)⟩⟩
 ·exact ⟨_,_,rfl,.other _ (.inr (.inr (.inr (.inr rfl)))) _ _ _ rfl (by simp),by decide +kernel,fun _=>⟨rfl,fun h=>absurd h (by decide +kernel)⟩⟩
theorem AU (day : Int) (o p : Str) : tM day ("named" : Str) [.int day,.str o,.str p]:=⟨.named _ _ _,by decide +kernel,fun _=>⟨rfl,fun h=>absurd h (by decide +kernel)⟩⟩
theorem pE {x n : Int} (h : 0 < n) : cN (.int x) (.int n) = some (.int (x % n),false):=by
 show (if decide ((0 : Int) < n) = true then _ else _) = _
 rw [if_pos (decide_eq_true h)]
theorem Ez (c : Int) (k : Nat) (hk : k < 60) (ns : List Int) (zs offs had : List Str) (hz : 0 < zs.length) (hol : 0 < offs.length/\offs.length<=10) (rows : List D) (hr : rows.length<=100) (hh : had ≠ []) (hh2 : had.length<=100) (v8 v9 v10 v11 : Option (D × Bool)) :
  ∃ r had' w8 w9 w10 w11,(iI r/\bd r = false)/\had' ≠ []/\had'.length<=had.length + 1/\ky [some (.lst (ns.map .int),false),some (.lst (zs.map .str),false),some (.int c,false),some (.lst (offs.map .str),true),some (.lst rows,true),some (.int k,false),some (.lst (had.map .str),true),v8,v9,v10,v11] = some (.nx [some (.lst (ns.map .int),false),some (.lst (zs.map .str),false),some (.int c,false),some (.lst (offs.map .str),true),some (.lst (rows ++ [r]),true),some (.int k,false),some (.lst (had'.map .str),true),w8,w9,w10,w11]):=by
 obtain ⟨day,hday⟩ : ∃ day : Int,(k : Int) / 3 + c / 400 % 3 = day:=⟨_,rfl⟩
 have hl1 : (0 : Int) < 4 * offs.length + 1:=by omega
 have hl2 : (0 : Int) < zs.length:=by omega
 have hm4 : -18446744073709551616 < (offs.length : Int)/\(offs.length : Int) < 18446744073709551616:=by omega
 have hm1:=mod_lt (x:=c / 1200) (m:=4 * offs.length + 1) hl1
 obtain ⟨o,ho,eo⟩:=gY (zs:=offs ++ [("mill" : Str)]) (i:=c / 1200 % (4 * offs.length + 1) / 4) (by simp; omega) (by simp; omega)
 have h3:=mod_lt (x:=c / 400) (m:=3) (by decide)
 have hd100 : day<=100:=by omega
 have hm2:=mod_lt (x:=c / 30000) (m:=zs.length) hl2
 obtain ⟨p,_,ep⟩:=gY (zs:=zs) (i:=c / 30000 % zs.length) (by omega) (by omega)
 obtain ⟨n,hn,hn1,hn3⟩ : ∃ n : Int,(if (had.length : Int) < 3 then (had.length : Int) else 3) = n/\0 < n/\n<=had.length:=by
  have : 0 < had.length:=List.length_pos_iff.mpr hh
  split
  ·exact ⟨_,rfl,by omega,by omega⟩
  ·exact ⟨_,rfl,by omega,by omega⟩
 have hmn:=mod_lt (x:=c / 10000) (m:=n) hn1
 obtain ⟨b,_,eb⟩:=gY (zs:=had) (i:=-1 - c / 10000 % n) (by omega) (by omega)
 obtain ⟨kd,r,ed,dd,hkr,hf⟩:=w6 c day b o p
 have hdf : bc (.tup (.str kd :: r)) = true:=by simp [dd.deed.flat]
 obtain ⟨k2,r2,e2,hf2⟩ : ∃ k2 r2,gIf (fV (tOf (f2 dEq (af 5) (fC (.int 0)))) (tOf (f2 dEq (f2 cN (f2 eF (af 2) (fC (.int 200000))) (fC (.int 9))) (fC (.int 1))))) (aS 10 (fA aP (ac (fC (.str "named")) (ac (af 7) (ac (af 8) (ac (af 9) aj)))))) cn [some (.lst (ns.map .int),false),some (.lst (zs.map .str),false),some (.int c,false),some (.lst (offs.map .str),true),some (.lst rows,true),some (.int k,false),some (.lst (had.map .str),true),some (.int day,false),some (.str o,false),some (.str p,false),some (.tup (.str kd :: r),false)] = some (.nx [some (.lst (ns.map .int),false),some (.lst (zs.map .str),false),some (.int c,false),some (.lst (offs.map .str),true),some (.lst rows,true),some (.int k,false),some (.lst (had.map .str),true),some (.int day,false),some (.str o,false),some (.str p,false),some (.tup (.str k2 :: r2),false)])/\tM day k2 r2:=by
  have hcond : fV (tOf (f2 dEq (af 5) (fC (.int 0)))) (tOf (f2 dEq (f2 cN (f2 eF (af 2) (fC (.int 200000))) (fC (.int 9))) (fC (.int 1)))) [some (.lst (ns.map .int),false),some (.lst (zs.map .str),false),some (.int c,false),some (.lst (offs.map .str),true),some (.lst rows,true),some (.int k,false),some (.lst (had.map .str),true),some (.int day,false),some (.str o,false),some (.str p,false),some (.tup (.str kd :: r),false)] = some (decide ((k : Int) = 0) || decide (c / 200000 % 9 = 1)):=je (aH (b:=false) (by simp)) fun _=>aH (b:=false) (by simp)
  cases hb : (decide ((k : Int) = 0) || decide (c / 200000 % 9 = 1)) with
  | true=>exact ⟨("named" : Str),[.int day,.str o,.str p],kq (hcond.trans (by rw [hb])) (gN (d:=.tup [.str "named",.int day,.str o,.str p]) (b:=false) (ah (ds:=[.str "named",.int day,.str o,.str p]) (by simp) (cD _ (by simp))) rfl),AU _ _ _⟩
  | false=>exact ⟨kd,r,gM (hcond.trans (by rw [hb])) rfl,dd,hkr,hf⟩
 have e4 : ∀ (ρ : DL.Env),ρ[10]? = some (some (.tup (.str k2 :: r2),false))->f2 ixD (af 10) (fC (.int 0)) ρ = some (.str k2,false):=fun ρ h=>aG (x:=.tup (.str k2 :: r2)) (y:=.int 0) (b1:=false) (b2:=false) (by simp [h]) rfl (by simp [at0])
 have hin : ∀ (ρ : DL.Env),ρ[10]? = some (some (.tup (.str k2 :: r2),false))->tOf (f2 dIn (f2 ixD (af 10) (fC (.int 0))) (fA aP (ac (fC (.str "named")) (ac (fC (.str "chosen")) aj)))) ρ = some (decide (k2 ∈ [("named" : Str),("chosen" : Str)])):=fun ρ h=>aH (b:=false) (aG (x:=.str k2) (y:=.tup (([("named" : Str),("chosen" : Str)] : List Str).map .str)) (b1:=false) (b2:=false) (e4 ρ h) (by simp [sizeLine]) (tq _ _))
 let had' : List Str:=if k2 ∈ [("named" : Str),("chosen" : Str)] then had ++ [p] else had
 have hne : had' ≠ []:=by simp only [had']; split <;> simp [hh]
 have hln : had'.length<=had.length + 1:=by simp only [had']; split <;> simp
 refine ⟨row day k2 r2,had',some (.int day,false),some (.str o,false),some (.str p,false),some (.tup (.str k2 :: r2),false),hf2.row hd100,hne,hln, ?_⟩
 refine aR (d:=.int day) (b:=false) (by simp [hday]) rfl (aR (d:=.str o) (b:=false) (aG (x:=.lst ((offs ++ [("mill" : Str)]).map .str)) (y:=.int (c / 1200 % (4 * offs.length + 1) / 4)) (b1:=true) (b2:=false) (aG (x:=.lst (offs.map .str)) (y:=.lst [.str "mill"]) (b1:=false) (b2:=true) rfl (by simp [sizeLine]) (by rw [List.map_append]; exact if_pos (bG (by simp; omega)))) (aG (x:=.int (c / 1200 % (4 * offs.length + 1))) (y:=.int 4) (b1:=false) (b2:=false) (aG (x:=.int (c / 1200)) (y:=.int (4 * offs.length + 1)) (b1:=false) (b2:=false) (by simp) (by simp [hm4]) (pE hl1)) rfl (by simp)) eo) rfl (aR (d:=.str p) (b:=false) (aG (x:=.lst (zs.map .str)) (y:=.int (c / 30000 % zs.length)) (b1:=false) (b2:=false) rfl (aG (x:=.int (c / 30000)) (y:=.int zs.length) (b1:=false) (b2:=false) (by simp) (by simp) (pE hl2)) ep) rfl (aR (d:=.tup (.str kd :: r)) (b:=false) ?_ hdf (dz e2 (dz (ρ':=[some (.lst (ns.map .int),false),some (.lst (zs.map .str),false),some (.int c,false),some (.lst (offs.map .str),true),some (.lst rows,true),some (.int k,false),some (.lst (had'.map .str),true),some (.int day,false),some (.str o,false),some (.str p,false),some (.tup (.str k2 :: r2),false)]) ?_ (ft (ds:=rows) (d:=row day k2 r2) (b:=false) rfl ?_ (hf2.row hd100).1.1.rp.flat (b8 (by omega))))))))
 ·refine ah (ds:=[.int c,.int day,.str b,.str o,.str p]) (av (b:=false) rfl (av (b:=false) rfl (av (b:=false) (aG (x:=.lst (had.map .str)) (y:=.int (-1 - c / 10000 % n)) (b1:=false) (b2:=false) rfl ?_ eb) rfl))) ed
  refine aG (x:=.int (-1)) (y:=.int (c / 10000 % n)) (b1:=false) (b2:=false) rfl (aG (x:=.int (c / 10000)) (y:=.int n) (b1:=false) (b2:=false) (by simp) (by simp [hn]) (pE hn1)) rfl
 ·by_cases hx : k2 ∈ [("named" : Str),("chosen" : Str)]
  ·have eh : had' = had ++ [p]:=by simp only [had']; rw [if_pos hx]
   rw [eh,List.map_append]
   exact kq ((hin _ rfl).trans (by rw [decide_eq_true hx])) (ft (ds:=had.map .str) (d:=.str p) (b:=false) rfl rfl rfl (b8 (by simp; omega)))
  ·have eh : had' = had:=by simp only [had']; rw [if_neg hx]
   rw [eh]
   exact gM ((hin _ rfl).trans (by rw [decide_eq_false hx])) rfl
 ·exact ah (ds:=[.int day,.tup (.str k2 :: r2)]) rfl (cD _ (by simp))
theorem E1 (c : Int) (ns : List Int) (zs offs : List Str) (rows : List D) (hr : rows.length<=100) (i : Nat) (hi : i < offs.length) (hi2 : i < 10) :
  ∃ r,iI r/\kx [some (.lst (ns.map .int),false),some (.lst (zs.map .str),false),some (.int c,false),some (.lst (offs.map .str),true),some (.lst rows,true),some (.int i,false),none,none,none,none,none] = some (.nx [some (.lst (ns.map .int),false),some (.lst (zs.map .str),false),some (.int c,false),some (.lst (offs.map .str),true),some (.lst (rows ++ [r]),true),some (.int i,false),none,none,none,none,none]):=by
 have h3:=mod_lt (x:=c / (2 + i)) (m:=3) (by decide)
 obtain ⟨rl,_,erl⟩:=gY (zs:=[("open" : Str),("first" : Str),("last" : Str)]) (i:=c / (2 + i) % 3) (by simp; omega) (by simp; omega)
 obtain ⟨o,ho,eo⟩:=gY (zs:=offs) (i:=i) (by omega) (by omega)
 have b2 : (0 : Int) < 2 + i/\(2 : Int) + i < 1073741824:=by omega
 refine ⟨row 0 ("root" : Str) [.str o,.int 7,.int 1,.str rl],⟨⟨_,_,_,rfl,.root _ _ _ _⟩,fun h=>absurd (show ("root" : Str) = ("chosen" : Str) from h) (by decide +kernel),show (0 : Int)<=100 by decide⟩,ft (ds:=rows) (d:=row 0 ("root" : Str) [.str o,.int 7,.int 1,.str rl]) (b:=false) rfl ?_ rfl (b8 (by omega))⟩
 exact ah (ds:=[.int 0,.tup [.str "root",.str o,.int 7,.int 1,.str rl]]) (av (b:=false) rfl (av (b:=false) (ah (ds:=[.str "root",.str o,.int 7,.int 1,.str rl]) (av (b:=false) rfl (av (b:=false) (aG (x:=.lst (offs.map .str)) (y:=.int i) (b1:=false) (b2:=false) rfl rfl eo) (av (b:=false) rfl (av (b:=false) rfl (av (b:=false) (aG (x:=.lst (([("open" : Str),("first" : Str),("last" : Str)] : List Str).map .str)) (y:=.int (c / (2 + i) % 3)) (b1:=true) (b2:=false) (by simp [sizeLine]) (by simp [b2]) erl) rfl))))) (cD _ (by simp))) rfl)) (cD _ (by simp))
theorem AV (ns : List Int) (zs : List Str) (hz : 0 < zs.length/\zs.length<=100) : ∃ rows : List D,jG [.lst (ns.map .int),.lst (zs.map .str)] = some (.tup rows,false)/\(∀ r ∈ rows,iI r)/\rows.length<=32:=by
 obtain ⟨c,hc⟩ : ∃ c,ns.getD 1 0 = c:=⟨_,rfl⟩
 have e1:=iC ns 1
 rw [hc] at e1
 have h2:=mod_lt (x:=c) (m:=2) (by decide)
 obtain ⟨offs,hoffs,hol,hol2⟩ : ∃ offs : List Str,kh ([("crown" : Str),("abbey" : Str)].map .str) none (some (1 + c % 2)) = offs.map .str/\0 < offs.length/\offs.length<=2:=by
  rcases (show c % 2 = 0 ∨ c % 2 = 1 by omega) with h | h
  ·rw [h]; exact ⟨[("crown" : Str)],rfl,by decide,by decide⟩
  ·rw [h]; exact ⟨[("crown" : Str),("abbey" : Str)],rfl,by decide,by decide⟩
 obtain ⟨cs,ecs,hcs⟩:=xu ns 30 (by decide)
 obtain ⟨z0,hz0,ez0⟩:=gY (zs:=zs) (i:=0) (by omega) (by omega)
 obtain ⟨ρ1,f1,rows1,v5,rfl,g1,l1⟩:=mB (tg:=tgN 5) (g:=kx) offs.length (fun i ρ=>∃ (rows : List D) (v5 : Option (D × Bool)),ρ = [some (.lst (ns.map .int),false),some (.lst (zs.map .str),false),some (.int c,false),some (.lst (offs.map .str),true),some (.lst rows,true),v5,none,none,none,none,none]/\(∀ r ∈ rows,iI r)/\rows.length = i)
  [some (.lst (ns.map .int),false),some (.lst (zs.map .str),false),some (.int c,false),some (.lst (offs.map .str),true),some (.lst [],true),none,none,none,none,none,none] ⟨[],none,rfl,by simp,rfl⟩ (by
   rintro i ρ hi ⟨rows,v5,rfl,g,l⟩
   obtain ⟨r,q1,e⟩:=E1 c ns zs offs rows (by omega) i hi (by omega)
   refine ⟨_,_,rfl,.inl e,rows ++ [r],_,rfl, ?_,by simp [l]⟩
   intro r' hr
   simp only [List.mem_append,List.mem_singleton] at hr
   rcases hr with hr | rfl
   ·exact g r' hr
   ·exact q1)
 obtain ⟨ρ2,f2',rows2,had2,c2,w5,w8,w9,w10,w11,rfl,g2,l2,q2,q3⟩:=dJ (tg:=tgT [5,2]) (g:=ky) (fun i ρ=>∃ (rows : List D) (had : List Str) (v2 v5 v8 v9 v10 v11 : Option (D × Bool)),ρ = [some (.lst (ns.map .int),false),some (.lst (zs.map .str),false),v2,some (.lst (offs.map .str),true),some (.lst rows,true),v5,some (.lst (had.map .str),true),v8,v9,v10,v11]/\(∀ r ∈ rows,iI r)/\rows.length = offs.length + i/\had ≠ []/\had.length<=i + 1) (j8 (cs.map .int))
  [some (.lst (ns.map .int),false),some (.lst (zs.map .str),false),some (.int c,false),some (.lst (offs.map .str),true),some (.lst rows1,true),v5,some (.lst ([z0].map .str),true),none,none,none,none] ⟨rows1,[z0],some (.int c,false),v5,none,none,none,none,rfl,g1,by omega,by simp,by simp⟩ (by
   rintro i d ρ hd ⟨rows,had,v2,v5,v8,v9,v10,v11,rfl,g,l,q,q'⟩
   rw [mT,List.getElem?_map] at hd
   obtain ⟨x,hx,rfl⟩:=oY hd
   rw [List.getElem?_zipIdx] at hx
   obtain ⟨dv,hdv,rfl⟩:=oY hx
   rw [List.getElem?_map] at hdv
   obtain ⟨cc,hcc,rfl⟩:=oY hdv
   have hi : i < cs.length:=(List.getElem?_eq_some_iff.mp hcc).1
   obtain ⟨r,had',w8,w9,w10,w11,q1,q2,q3,e⟩:=Ez cc i (by omega) ns zs offs had hz.1 ⟨hol,by omega⟩ rows (by omega) q (by omega) v8 v9 v10 v11
   refine ⟨_,_,by simp [du],.inl e,rows ++ [r],had',some (.int cc,false),some (.int i,false),w8,w9,w10,w11,rfl, ?_,by simp; omega,q2,by omega⟩
   intro r' hr
   simp only [List.mem_append,List.mem_singleton] at hr
   rcases hr with hr | rfl
   ·exact g r' hr
   ·exact q1.1)
 have hel : (j8 (cs.map D.int)).length = cs.length:=by rw [mT]; simp
 rw [hel] at l2 q3
 refine ⟨rows2,a7 rfl (aR (d:=.int c) (b:=false) (ah (ds:=[.lst (ns.map .int),.int ((1 : Nat) : Int)]) rfl e1) rfl (bZ (ds:=offs.map .str) ?_ (dL _) (bZ (ds:=[]) (by simp [sizeLine]) rfl (dz (mF (iz (j:=offs.length) (b:=false) (by simp) (by omega)) f1) (bZ (ds:=[z0].map .str) (ah (ds:=[.str z0]) (av (b:=false) (aG (x:=.lst (zs.map .str)) (y:=.int 0) (b1:=false) (b2:=false) rfl rfl ez0) rfl) (ng _ (by simp))) rfl (dz (gh (ds:=j8 (cs.map .int)) ?_ f2') (aK (by simp)))))))),g2,by omega⟩
 ·show fSl (fA bW (ac (fC (.str "crown")) (ac (fC (.str "abbey")) aj))) gv (dD (f2 bN (fC (.int 1)) (f2 cN (af 2) (fC (.int 2))))) _ = _
  rw [← hoffs]
  simp [sizeLine]
 ·show (fA fJ (ac (af 0) (ac (fC (.int 5)) (ac (fC (.int 30)) aj))) _).bind _ = _
  rw [ah (ds:=[.lst (ns.map .int),.int 5,.int ((30 : Nat) : Int)]) rfl ecs]
  rfl
theorem vg (ns : List Int) (zs : List Str) (hz : 0 < zs.length) (rows : List D) (hR : ∀ r ∈ rows,iI r) (hl : rows.length<=40) (e : Nat) (he : e<=12) : ∃ L : List D,eU [.lst (ns.map .int),.tup rows,.lst (zs.map .str),.int e] = some (.tup (rows ++ L),false)/\L.length<=5/\∀ r ∈ L,(iI r/\bd r = false)/\e < aB r:=by
 have m6:=mod_lt (x:=ns.getD 4 0) (m:=6) (by decide)
 obtain ⟨j,hj⟩ : ∃ j : Nat,ns.getD 4 0 % 6 = j:=⟨(ns.getD 4 0 % 6).toNat,by omega⟩
 have hl2 : (0 : Int) < zs.length:=by omega
 obtain ⟨ρ1,f1,L,v5,v6,v7,v8,rfl,hL,g⟩:=mB (tg:=tgN 5) (g:=jH) j (fun i ρ=>∃ (L : List D) (v5 v6 v7 v8 : Option (D × Bool)),ρ = [some (.lst (ns.map .int),false),some (.tup rows,false),some (.lst (zs.map .str),false),some (.int e,false),some (.lst (rows ++ L),true),v5,v6,v7,v8]/\L.length = i/\∀ r ∈ L,(iI r/\bd r = false)/\e < aB r)
  [some (.lst (ns.map .int),false),some (.tup rows,false),some (.lst (zs.map .str),false),some (.int e,false),some (.lst (rows ++ []),true),none,none,none,none] ⟨[],none,none,none,none,rfl,rfl,by simp⟩ (by
   rintro i ρ hi ⟨L,v5,v6,v7,v8,rfl,hL,g⟩
   obtain ⟨c,hc⟩ : ∃ c,ns.getD (35 + i) 0 = c:=⟨_,rfl⟩
   have ec:=iC ns (35 + i)
   rw [hc] at ec
   have h9:=mod_lt (x:=c / 160) (m:=9) (by decide)
   obtain ⟨day,hday⟩ : ∃ day : Int,(e : Int) + 1 + c / 160 % 9 = day:=⟨_,rfl⟩
   have hm1:=mod_lt (x:=c / 1440) (m:=zs.length) hl2
   obtain ⟨p,_,ep⟩:=gY (zs:=zs) (i:=c / 1440 % zs.length) (by omega) (by omega)
   have hm2:=mod_lt (x:=c / 8640) (m:=zs.length) hl2
   obtain ⟨q,_,eq⟩:=gY (zs:=zs) (i:=c / 8640 % zs.length) (by omega) (by omega)
   obtain ⟨k,r,ed,dd⟩:=w6 c day p ("crown" : Str) q
   have hd:=dd.row (day:=day) (by omega)
   refine ⟨_,_,rfl,.inl (aR (d:=.int c) (b:=false) (ah (ds:=[.lst (ns.map .int),.int ((35 + i : Nat) : Int)]) (by simp) ec) rfl (aR (d:=.int day) (b:=false) (by simp [hday]) rfl (aR (d:=.str p) (b:=false) (aG (x:=.lst (zs.map .str)) (y:=.int (c / 1440 % zs.length)) (b1:=false) (b2:=false) rfl (aG (x:=.int (c / 1440)) (y:=.int zs.length) (b1:=false) (b2:=false) (by simp) (by simp) (pE hl2)) ep) rfl (ft (ds:=rows ++ L) (d:=row day k r) (b:=false) rfl ?_ hd.1.1.rp.flat (b8 (by simp; omega)))))),L ++ [row day k r],some (.int i,false),some (.int c,false),some (.int day,false),some (.str p,false),by rw [List.append_assoc]; rfl,by simp [hL], ?_⟩
   ·exact ah (ds:=[.int day,.tup (.str k :: r)]) (av (b:=false) rfl (av (b:=false) (ah (ds:=[.int c,.int day,.str p,.str "crown",.str q]) (av (b:=false) rfl (av (b:=false) rfl (av (b:=false) rfl (av (b:=false) rfl (av (b:=false) (aG (x:=.lst (zs.map .str)) (y:=.int (c / 8640 % zs.length)) (b1:=false) (b2:=false) rfl (aG (x:=.int (c / 8640)) (y:=.int zs.length) (b1:=false) (b2:=false) (by simp) (by simp) (pE hl2)) eq) rfl))))) ed) rfl)) (cD _ (by simp))
   ·intro r' hr
    rcases List.mem_append.mp hr with hr | hr
    ·exact g r' hr
    ·rw [List.mem_singleton.mp hr]
     exact ⟨hd,by rw [(dd.2.2 day).1]; omega⟩)
 have hflat : bo rows = true:=cC fun r hr=>(hR r hr).1.rp.flat
 have c4:=iC ns 4
 rw [List.append_nil] at f1
 exact ⟨L,a7 rfl (bZ (ds:=rows) (ah (ds:=[.tup rows]) rfl rfl) hflat (dz (mF (iz (j:=j) (b:=false) (aG (x:=.int (ns.getD 4 0)) (y:=.int 6) (b1:=false) (b2:=false) (ah (ds:=[.lst (ns.map .int),.int ((4 : Nat) : Int)]) rfl c4) rfl (by rw [pE (by decide),hj])) (by omega)) f1) (aK (by simp)))),by omega,g⟩
def g7 (e : Int) (r : D) : D:=if b9 e (r,0) = true then r else match r with
 | .tup (_ :: t)=>.tup (.int 9999 :: t)
 | d=>d
theorem rf (e h : Int) (k : Str) (az : List D) : g7 e (row h k az) = row (if b9 e (row h k az,0) = true then h else 9999) k az:=by
 unfold g7
 split <;> rfl
theorem xH (rows : List D) (hR : ∀ r ∈ rows,iI r) (hl : rows.length<=60) (e : Int) : gp [.tup rows,.int e] = some (.tup (rows.map (g7 e)),false):=by
 obtain ⟨ρ1,f1,v3,v4,rfl⟩:=dJ (tg:=tgT [3,4]) (g:=kX) (fun i ρ=>∃ v3 v4 : Option (D × Bool),ρ = [some (.tup rows,false),some (.int e,false),some (.lst ((rows.take i).map (g7 e)),true),v3,v4]) rows
  [some (.tup rows,false),some (.int e,false),some (.lst [],true),none,none] ⟨none,none,rfl⟩ (by
   rintro i r ρ hr ⟨v3,v4,rfl⟩
   have hm:=List.mem_of_getElem? hr
   have hi : i < rows.length:=(List.getElem?_eq_some_iff.mp hr).1
   obtain ⟨⟨h,k,az,rfl,cd⟩,_,_⟩:=hR r hm
   have hq : k ≠ ("root" : Str)->∃ d t,az = .int d :: t:=fun hk=>cd.day hk
   obtain ⟨b,hb⟩ : ∃ b,b9 e (row h k az,0) = b:=⟨_,rfl⟩
   have hcond : cM (tOf (f2 dNe (f2 ixD (af 4) (fC (.int 0))) (fC (.str "root")))) (tOf (f2 iGt (f2 ixD (af 4) (fC (.int 1))) (af 1))) [some (.tup rows,false),some (.int e,false),some (.lst ((rows.take i).map (g7 e)),true),some (.int h,false),some (.tup (.str k :: az),false)] = some (!b):=by
    have q0 : tOf (f2 dNe (f2 ixD (af 4) (fC (.int 0))) (fC (.str "root"))) [some (.tup rows,false),some (.int e,false),some (.lst ((rows.take i).map (g7 e)),true),some (.int h,false),some (.tup (.str k :: az),false)] = some (!decide (k = ("root" : Str))):=aH (b:=false) (aG (x:=.str k) (y:=.str "root") (b1:=false) (b2:=false) (by simp [at0]) rfl (by simp))
    rw [← hb]
    by_cases hk : k = ("root" : Str)
    ·rw [decide_eq_true hk] at q0
     rw [cz (p:=false) (q:=false) q0 (by simp)]
     unfold b9
     rw [show bd (row h k az) = true from decide_eq_true hk]
     rfl
    ·rw [decide_eq_false hk] at q0
     obtain ⟨d,t,rfl⟩:=hq hk
     rw [cz (p:=true) (q:=decide (e < d)) q0 fun _=>aH (b:=false) (aG (x:=.int d) (y:=.int e) (b1:=false) (b2:=false) (by simp [at1]) rfl (by simp))]
     unfold b9
     rw [show bd (row h k (.int d :: t)) = false from decide_eq_false hk,show aB (row h k (.int d :: t)) = d from rfl,Bool.true_and,Bool.false_or]
     by_cases hd : d<=e
     ·rw [decide_eq_true hd,decide_eq_false (by omega)]; rfl
     ·rw [decide_eq_false hd,decide_eq_true (by omega)]; rfl
   have ht : (rows.take (i + 1)).map (g7 e) = (rows.take i).map (g7 e) ++ [row (if b = true then h else 9999) k az]:=by
    rw [List.take_add_one,hr,Option.toList_some,List.map_append,List.map_singleton,rf,hb]
   refine ⟨_,_,rfl,.inl (dz (ρ':=[some (.tup rows,false),some (.int e,false),some (.lst ((rows.take i).map (g7 e)),true),some (.int (if b = true then h else 9999),false),some (.tup (.str k :: az),false)]) ?_ (ft (ds:=(rows.take i).map (g7 e)) (d:=row (if b = true then h else 9999) k az) (b:=false) rfl (ah (ds:=[.int (if b = true then h else 9999),.tup (.str k :: az)]) rfl (cD _ (by simp))) (by simp [row,cd.deed.flat]) (b8 (by simp; omega)))),some (.int (if b = true then h else 9999),false),some (.tup (.str k :: az),false),by rw [ht]; rfl⟩
   cases b with
   | true=>exact gM hcond rfl
   | false=>exact kq hcond (gN (d:=.int 9999) (b:=false) rfl rfl))
 rw [List.take_length] at f1
 exact a7 rfl (bZ (ds:=[]) (by simp [sizeLine]) rfl (dz (gh (ds:=rows) (by simp [oj]) f1) (aK (by simp))))
theorem E2 {e : Int} {r : D} (h : lA r) : lA (g7 e r):=by
 obtain ⟨a,k,az,rfl,d⟩:=h
 rw [rf]
 exact ⟨_,_,_,rfl,d⟩
theorem pF {rows : List D} (hR : ∀ r ∈ rows,iI r) {known : Int} (hk : 100<=known) : au rows known = rows.zipIdx:=List.filter_eq_self.mpr fun x hx=>decide_eq_true (by have:=(hR _ (List.fst_mem_of_mem_zipIdx hx)).2.2; omega)
theorem xI {rows : List D} (hR : ∀ r ∈ rows,iI r) (e : Int) : au (rows.map (g7 e)) 9998 = bv e rows.zipIdx:=by
 unfold au bv
 rw [List.zipIdx_map,List.filter_map]
 have hf : rows.zipIdx.filter ((fun x : D × Nat=>decide (cP x.1<=9998)) ∘ Prod.map (g7 e) id) = rows.zipIdx.filter (b9 e):=List.filter_congr fun x hx=>by
  obtain ⟨⟨a,k,az,er,_⟩,_,h100⟩:=hR _ (List.fst_mem_of_mem_zipIdx hx)
  show decide (cP (g7 e x.1)<=9998) = b9 e x
  have h0 : b9 e x = b9 e (x.1,0):=rfl
  rw [h0]
  rw [er] at h100 ⊢
  rw [rf]
  have h100 : a<=100:=h100
  show decide ((if b9 e (row a k az,0) = true then a else 9999)<=(9998 : Int)) = _
  cases b9 e (row a k az,0) with
  | true=>exact decide_eq_true (by rw [if_pos rfl]; omega)
  | false=>exact decide_eq_false (by rw [if_neg (by decide)]; omega)
 rw [hf]
 conv=>rhs; rw [← List.map_id (rows.zipIdx.filter (b9 e))]
 refine List.map_congr_left fun x hx=>?_
 have he : b9 e (x.1,0) = true:=(List.mem_filter.mp hx).2
 show (g7 e x.1,x.2) = x
 unfold g7
 rw [if_pos he]
def fT : List Str:=[("crown" : Str),("abbey" : Str),("mill" : Str)]
def cw (K : KL) (e : Nat) (o : Str) : List D:=(List.range (e + 1)).map fun d : Nat=>eX K o d
def eY (K : KL) (e : Nat) : D:=.tup [.lst (fT.flatMap (cw K e)),.lst (((bj K).filter fun c=>decide (c.s<=(e : Int))).map re)]
theorem vh (K : KL) (e : Nat) : ai 40 (eY K e) = true:=by
 unfold eY
 simp only [ai,List.all_cons,List.all_nil,Bool.and_true,Bool.and_eq_true,List.all_eq_true]
 refine ⟨fun d hd=>?_,fun d hd=>?_⟩
 ·obtain ⟨o,_,hd⟩:=List.mem_flatMap.mp hd
  obtain ⟨x,_,rfl⟩:=List.mem_map.mp hd
  unfold eX
  split
  ·simp
  ·exact eC 6 38 _ (by decide) (by obtain ⟨ds,e,h⟩:=p6 (ax 3 _) (alL (bj K) (ax 0 _) x); unfold iS; rw [e]; simpa only [ai] using h)
 ·obtain ⟨c,_,rfl⟩:=List.mem_map.mp hd
  simp [re,ai]
theorem vi {rows : List D} (known : Int) (hl : rows.length<=60) : (cE (au rows known)).length<=60:=by
 unfold cE
 rw [(bf _ _).length_eq]
 exact Nat.le_trans (List.length_filter_le _ _) (Nat.le_trans (jg rows known) hl)
theorem nI {rows : List D} (g : cY rows) (known : Int) (e : Nat) (he : e<=12) : fK [.tup rows,.int e,.int known] = some (eY (au rows known) e,false):=by
 obtain ⟨ec,hcl⟩:=kE g known (vi known g.1)
 have eh:=fun o day=>xB g known (vi known g.1) o day
 unfold eY
 generalize au rows known = K at ec hcl eh ⊢
 obtain ⟨ρ',ef,fl,v4,rfl⟩:=dJ (tg:=tgN 4) (g:=p0) (fun i ρ=>∃ (fl : Bool) (v4 : Option (D × Bool)),ρ = [some (.tup rows,false),some (.int e,false),some (.int known,false),some (.lst ((fT.take i).flatMap (cw K e)),fl),v4,none]) (fT.map .str)
  [some (.tup rows,false),some (.int e,false),some (.int known,false),some (.lst [],true),none,none] ⟨true,none,rfl⟩ (by
   rintro i d ρ hd ⟨fl,v4,rfl⟩
   rw [List.getElem?_map] at hd
   obtain ⟨o,ho,rfl⟩:=oY hd
   have hi : i < fT.length:=(List.getElem?_eq_some_iff.mp ho).1
   have hi3 : i < 3:=hi
   have hc:=we (fi:=dN (f2 bN (af 1) (fC (.int 1)))) (nT:=1) (cap:=[0,2,4]) (tg:=tgN 0) (fe:=fA eB (ac (af 1) (ac (af 2) (ac (af 3) (ac (af 0) aj)))))
    (ρ:=[some (.tup rows,false),some (.int e,false),some (.int known,false),some (.lst ((fT.take i).flatMap (cw K e)),fl),some (.str o,false),none]) (List.range (e + 1)) (fun (k : Nat)=>.int k) (fun d : Nat=>eX K o d)
    (by rw [iz (j:=e + 1) (b:=false) (by simp) (by omega),xr]; simp) (by simp; omega) fun k hk=>by
     exact ⟨_,rfl,false,ah (ds:=[.tup rows,.int known,.str o,.int k]) (by simp [bE]) (eh o k)⟩
   have hln : ∀ l : List Str,(l.flatMap (cw K e)).length<=l.length * 13:=fun l=>by
    induction l with
    | nil=>simp
    | cons a l ih =>
     rw [List.flatMap_cons,List.length_append,List.length_cons]
     have : (cw K e a).length = e + 1:=by simp [cw]
     omega
   have hl1:=hln (fT.take i)
   have hl2 : (fT.take i).length<=3:=by rw [List.length_take]; omega
   have ed : f2 bN (af 3) (cq (dN (f2 bN (af 1) (fC (.int 1)))) 1 [0,2,4] (tgN 0) iL (fA eB (ac (af 1) (ac (af 2) (ac (af 3) (ac (af 0) aj)))))) [some (.tup rows,false),some (.int e,false),some (.int known,false),some (.lst ((fT.take i).flatMap (cw K e)),fl),some (.str o,false),none] = some (.lst ((fT.take (i + 1)).flatMap (cw K e)),true):=by
    refine aG (x:=.lst ((fT.take i).flatMap (cw K e))) (y:=.lst (cw K e o)) (b1:=false) (b2:=true) rfl hc ?_
    rw [List.take_add_one,ho,Option.toList_some,List.flatMap_append,List.flatMap_cons,List.flatMap_nil,List.append_nil]
    exact if_pos (bG (by simp [cw] at hl1 ⊢; omega))
   obtain ⟨fl',hs⟩ : ∃ fl',aS 3 (f2 bN (af 3) (cq (dN (f2 bN (af 1) (fC (.int 1)))) 1 [0,2,4] (tgN 0) iL (fA eB (ac (af 1) (ac (af 2) (ac (af 3) (ac (af 0) aj))))))) [some (.tup rows,false),some (.int e,false),some (.int known,false),some (.lst ((fT.take i).flatMap (cw K e)),fl),some (.str o,false),none] = some (.nx [some (.tup rows,false),some (.int e,false),some (.int known,false),some (.lst ((fT.take (i + 1)).flatMap (cw K e)),fl'),some (.str o,false),none]):=by
    unfold aS
    rw [ed]
    by_cases hf : oG (.lst ((fT.take (i + 1)).flatMap (cw K e))) = true
    ·exact ⟨true,by show some (Res.nx (setE _ _ _ _)) = _; rw [mE hf]; rfl⟩
    ·exact ⟨false,by show some (Res.nx (setE _ _ _ _)) = _; rw [wd rfl (.inr (by simpa using hf))]; rfl⟩
   exact ⟨_,_,rfl,.inl hs,fl',some (.str o,false),rfl⟩)
 have hb:=iQ (fi:=cG (fA cr (ac (af 0) (ac (af 2) aj)))) (nT:=1) (cap:=[1]) (tg:=tgN 0) (c:=tOf (f2 dLe (f2 ixD (af 0) (fC (.int 2))) (af 1))) (fe:=fA aP (ac (f2 ixD (af 0) (fC (.int 0))) (ac (f2 ixD (af 0) (fC (.int 1))) (ac (f2 ixD (af 0) (fC (.int 2))) (ac (f2 ixD (af 0) (fC (.int 4))) aj)))))
  (ρ:=[some (.tup rows,false),some (.int e,false),some (.int known,false),some (.lst ((fT.take (fT.map D.str).length).flatMap (cw K e)),fl),v4,none]) (bj K) clD (fun c=>decide (c.s<=(e : Int))) re
  (by
   show (fA cr (ac (af 0) (ac (af 2) aj)) _).bind _ = _
   rw [ah (ds:=[.tup rows,.int known]) rfl ec]
   rfl) (by omega) fun c _=>by
   let ρ1 : DL.Env:=[some (clD c,false),some (.int e,false)]
   have q0 : f2 ixD (af 0) (fC (.int 0)) ρ1 = some (.str c.o,false):=aG (x:=clD c) (y:=.int 0) (b1:=false) (b2:=false) rfl rfl (cl0 c)
   have q1 : f2 ixD (af 0) (fC (.int 1)) ρ1 = some (.str c.p,false):=aG (x:=clD c) (y:=.int 1) (b1:=false) (b2:=false) rfl rfl (cl1 c)
   have q2 : f2 ixD (af 0) (fC (.int 2)) ρ1 = some (.int c.s,false):=aG (x:=clD c) (y:=.int 2) (b1:=false) (b2:=false) rfl rfl (cl2 c)
   have q4 : f2 ixD (af 0) (fC (.int 4)) ρ1 = some (.int c.n,false):=aG (x:=clD c) (y:=.int 4) (b1:=false) (b2:=false) rfl rfl (cl4 c)
   exact ⟨ρ1,rfl,aH (b:=false) (aG (x:=.int c.s) (y:=.int e) (b1:=false) (b2:=false) q2 rfl (by simp)),fun _=>⟨false,ah (ds:=[.str c.o,.str c.p,.int c.s,.int c.n]) (av q0 (av q1 (av q2 (av q4 rfl)))) (cD _ (by simp))⟩⟩
 have hbf : bo (((bj K).filter fun c=>decide (c.s<=(e : Int))).map re) = true:=cC fun d hd=>by obtain ⟨c,_,rfl⟩:=List.mem_map.mp hd; rfl
 exact a7 rfl (bZ (ds:=[]) (by simp [sizeLine]) rfl (dz (gh (ds:=fT.map .str) (by simp [fT,sizeLine]) ef) (bZ hb hbf (aK (ah (ds:=[.lst (fT.flatMap (cw K e)),.lst (((bj K).filter fun c=>decide (c.s<=(e : Int))).map re)]) rfl (cD _ (by simp)))))))
theorem gZ {K : KL} (hn : (K.map (·.2)).Nodup) (hs : ∀ x ∈ K,gs x) (e : Nat) : eY K e = eY (bv e K) e:=by
 unfold eY
 rw [tK e hn hs,show fT.flatMap (cw K e) = fT.flatMap (cw (bv e K) e) from ?_]
 congr 1
 funext o
 exact List.map_congr_left fun d hd=>qZ (by have:=List.mem_range.mp hd; omega) hn hs o
theorem xJ {K : KL} {o : Str} {v : D} (h : fQ K o = some v) : ∃ x ∈ K,bd x.1 = true/\ax 0 x.1 = o:=by
 have go : ∀ (l : List (Key × D)) (a : List Key × List D) (k : Key),k ∈ (l.foldl qK a).1->k ∈ a.1 ∨ ∃ p ∈ l,p.1 = k:=fun l=>by
  induction l with
  | nil=>intro a k h; exact .inl h
  | cons p l ih =>
   intro a k h
   rcases ih _ k h with h | ⟨q,hq,e⟩
   ·have h : k ∈ di a.1 p.1:=h
    unfold di at h
    split at h
    ·exact .inl h
    ·rcases List.mem_append.mp h with h | h
     ·exact .inl h
     ·exact .inr ⟨p,mX,(List.mem_singleton.mp h).symm⟩
   ·exact .inr ⟨q,mZ _ hq,e⟩
 rcases go _ _ _ (n6 h) with h | ⟨p,hp,e⟩
 ·cases h
 ·obtain ⟨x,hx,rfl⟩:=List.mem_map.mp hp
  obtain ⟨h1,h2⟩:=List.mem_filter.mp hx
  injection e with e
  exact ⟨x,h1,h2,e⟩
theorem AW {rows : List D} (hR : ∀ r ∈ rows,lA r) (hl : rows.length<=60) {K : KL} (hK : ∀ x ∈ K,rows[x.2]? = some x.1) {cs : List Cl} (hcl : cs.length<=60) (hw : ∀ c ∈ cs,WellC K c) : fL [.tup rows,.lst (cs.map clD)] = some (.bl true,false):=by
 have h2:=iQ (fi:=cG (af 0)) (nT:=2) (cap:=[]) (tg:=tgT [0,1]) (c:=tOf (f2 dEq (f2 ixD (af 1) (fC (.int 0))) (fC (.str "root")))) (fe:=f2 ixD (af 1) (fC (.int 1))) (ρ:=[some (.tup rows,false),some (.lst (cs.map clD),false),none,none,none,none,none,none,none,none]) rows id bd (fun r=>.str (ax 0 r)) (by simp) (by omega) fun r hr=>by
  obtain ⟨h,k,az,rfl,d⟩:=hR r hr
  refine ⟨[some (.int h,false),some (.tup (.str k :: az),false)],rfl,bI (a:=k) (bb:=false) (by simp [at0]) rfl,fun hk=>⟨false, ?_⟩⟩
  have hk : k = ("root" : Str):=of_decide_eq_true hk
  subst hk
  obtain ⟨o,rl,m,f,rfl⟩:=d.root_of
  simp [at1]
  rfl
 have e2 : (rows.filter bd).map (fun r=>D.str (ax 0 r)) = ((rows.filter bd).map (ax 0)).map .str:=by rw [List.map_map]; rfl
 rw [e2] at h2
 generalize hofs : (rows.filter bd).map (ax 0) = ofs at h2
 obtain ⟨ρ1,f1,v3,v4,v5,v6,v7,v8,v9,rfl⟩:=dJ (tg:=tgT [3,4,5,6,7]) (g:=p4) (fun i ρ=>∃ v3 v4 v5 v6 v7 v8 v9 : Option (D × Bool),ρ = [some (.tup rows,false),some (.lst (cs.map clD),false),some (.lst (ofs.map .str),true),v3,v4,v5,v6,v7,v8,v9]) (cs.map clD)
  [some (.tup rows,false),some (.lst (cs.map clD),false),some (.lst (ofs.map .str),true),none,none,none,none,none,none,none] ⟨_,_,_,_,_,_,_,rfl⟩ (by
   rintro i d ρ hd ⟨v3,v4,v5,v6,v7,v8,v9,rfl⟩
   rw [List.getElem?_map] at hd
   obtain ⟨c,hc,rfl⟩:=oY hd
   obtain ⟨⟨v,hv⟩,hu,r,hr,hk⟩:=hw c (List.mem_of_getElem? hc)
   have hg : rows[c.n]? = some r:=hK _ hr
   have ha:=gS hg
   have hmem : c.o ∈ ofs:=by
    obtain ⟨x,hx,q1,q2⟩:=xJ hv
    rw [← hofs,← q2]
    exact List.mem_map.mpr ⟨x.1,List.mem_filter.mpr ⟨List.mem_of_getElem? (hK x hx),q1⟩,rfl⟩
   obtain ⟨h,k,az,er,cd⟩:=hR r (List.mem_of_getElem? hg)
   subst er
   let E : Option (D × Bool)->DL.Env:=fun w9=>[some (.tup rows,false),some (.lst (cs.map clD),false),some (.lst (ofs.map .str),true),some (.str c.o,false),some (.str c.p,false),some (.int c.s,false),some (uD c.u,false),some (.int c.n,false),some (.tup (.str k :: az),false),w9]
   have hcond : fV (tOf (f2 d5 (af 3) (af 2))) (cM (tOf (f2 gG (af 6) (fC .non))) (tOf (f2 dLe (af 6) (af 5)))) (E v9) = some false:=by
    refine je (p:=false) (q:=false) (aH (b:=false) (aG (x:=.str c.o) (y:=.lst (ofs.map .str)) (b1:=false) (b2:=false) rfl rfl ?_)) fun _=>?_
    ·rw [nw,decide_eq_true hmem]; rfl
    ·cases hcu : c.u with
     | none=>exact cz (p:=false) (q:=false) (aH (b:=false) (by simp [E,hcu,uD])) (by simp)
     | some x =>
      have:=hu x hcu
      exact cz (p:=true) (q:=false) (aH (b:=false) (by simp [E,hcu,uD])) fun _=>aH (b:=false) (by simp [E,hcu,uD]; omega)
   have k0 : ∀ w : Str,tOf (f2 dEq (f2 ixD (af 8) (fC (.int 0))) (fC (.str w))) (E v9) = some (decide (k = w)):=fun w=>bI (a:=k) (bb:=false) (by simp [E,at0]) rfl
   have hset : gIf (tOf (f2 dEq (f2 ixD (af 8) (fC (.int 0))) (fC (.str "named")))) (aS 9 (f2 dEq (af 8) (fA aP (ac (fC (.str "named")) (ac (af 5) (ac (af 3) (ac (af 4) aj))))))) (gIf (tOf (f2 dEq (f2 ixD (af 8) (fC (.int 0))) (fC (.str "chosen")))) (aS 9 (f2 dEq (fSl (af 8) (dD (fC (.int 3))) gv) (fA aP (ac (af 3) (ac (af 4) (ac (af 5) aj)))))) (aS 9 (j5 (f2 dEq (fSl (af 8) gv (dD (fC (.int 2)))) (fA aP (ac (fC (.str "death")) (ac (af 5) aj)))) (f2 dNe (f2 ixD (af 8) (fC (.int 2))) (af 4))))) (E v9) = some (.nx (E (some (.bl true,false)))):=by
    have pl : ∀ ds : List D,ds.all (ai 5) = true->dEq (.tup ds) (.tup ds) = some (.bl true,false):=fun ds h=>zu (kD h)
    rcases hk with ⟨hk,q1,q2,q3⟩ | ⟨hk,q1,q2,q3⟩ | ⟨hk,q1,q2⟩
    ·replace hk : k = ("named" : Str):=hk
     refine kq ((k0 _).trans (by rw [decide_eq_true hk])) (gN (d:=.bl true) (b:=false) ?_ rfl)
     cases cd with
     | named d o p =>
      have q1 : d = c.s:=q1
      have q2 : o = c.o:=q2
      have q3 : p = c.p:=q3
      subst q1; subst q2; subst q3
      exact aG (b1:=false) (b2:=false) rfl (ah (ds:=[.str "named",.int c.s,.str c.o,.str c.p]) rfl (cD _ (by simp))) (pl _ (by simp))
     | root=>exact absurd hk (by decide +kernel)
     | chosen=>exact absurd hk (by decide +kernel)
     | heir=>exact absurd hk (by decide +kernel)
     | three _ hh=>rcases hh with rfl | rfl | rfl <;> exact absurd hk (by decide +kernel)
     | other _ hh=>rcases hh with rfl | rfl | rfl | rfl | rfl <;> exact absurd hk (by decide +kernel)
    ·replace hk : k = ("chosen" : Str):=hk
     refine gM ((k0 _).trans (by rw [decide_eq_false (by rw [hk]; decide +kernel)])) (kq ((k0 _).trans (by rw [decide_eq_true hk])) (gN (d:=.bl true) (b:=false) ?_ rfl))
     cases cd with
     | chosen d b o p s =>
      have q1 : o = c.o:=q1
      have q2 : p = c.p:=q2
      have q3 : s = c.s:=q3
      subst q1; subst q2; subst q3
      exact aG (x:=.tup [.str c.o,.str c.p,.int c.s]) (y:=.tup [.str c.o,.str c.p,.int c.s]) (b1:=false) (b2:=false) rfl (ah (ds:=[.str c.o,.str c.p,.int c.s]) rfl (cD _ (by simp))) (pl _ (by simp))
     | root=>exact absurd hk (by decide +kernel)
     | named=>exact absurd hk (by decide +kernel)
     | heir=>exact absurd hk (by decide +kernel)
     | three _ hh=>rcases hh with rfl | rfl | rfl <;> exact absurd hk (by decide +kernel)
     | other _ hh=>rcases hh with rfl | rfl | rfl | rfl | rfl <;> exact absurd hk (by decide +kernel)
    ·replace hk : k = ("death" : Str):=hk
     subst hk
     refine gM ((k0 _).trans (by rw [decide_eq_false (by decide +kernel)])) (gM ((k0 _).trans (by rw [decide_eq_false (by decide +kernel)])) (gN (d:=.bl true) (b:=false) ?_ rfl))
     obtain ⟨d,p,rfl⟩:=cd.deed.three (by decide +kernel)
     have q1 : d = c.s:=q1
     have q5 : p ≠ c.p:=q2
     subst q1
     exact gO (p:=true) (q:=true) (b1:=false) (aG (x:=.tup [.str "death",.int c.s]) (y:=.tup [.str "death",.int c.s]) (b1:=false) (b2:=false) rfl (ah (ds:=[.str "death",.int c.s]) rfl (cD _ (by simp))) (pl _ (by simp))) fun _=>aG (x:=.str p) (y:=.str c.p) (b1:=false) (b2:=false) (aG (x:=.tup [.str "death",.int c.s,.str p]) (y:=.int 2) (b1:=false) (b2:=false) rfl rfl (by simp [at2])) rfl (by simp [q5])
   have hfl : bc (.tup (.str k :: az)) = true:=by simp [cd.deed.flat]
   refine ⟨_,_,rfl,.inl (aR (d:=.tup (.str k :: az)) (b:=false) ?_ hfl (bO hcond (dz hset (gM (lI (p:=true) (aH (b:=false) rfl)) rfl)))),_,_,_,_,_,_,_,rfl⟩
   exact aG (x:=row h k az) (y:=.int 1) (b1:=false) (b2:=false) (aG (x:=.tup rows) (y:=.int c.n) (b1:=false) (b2:=false) rfl rfl (by simp [ha])) rfl (by simp [row,at1]))
 exact a7 rfl (bZ (ds:=ofs.map .str) h2 (dL _) (dz (gh (ds:=cs.map clD) (by simp [oj]) f1) (aK rfl)))
theorem law_true (ns : List Int) (hn : ns.length<=63) : ∃ b,F_law [.lst (ns.map .int)] = some (.bl true,b):=by
 have m5:=mod_lt (x:=ns.getD 0 0) (m:=5) (by decide)
 obtain ⟨many,hmany⟩ : ∃ many : Nat,2 + ns.getD 0 0 % 5 = many:=⟨(2 + ns.getD 0 0 % 5).toNat,by omega⟩
 obtain ⟨zs,hz,hzl,_⟩:=io (ns.getD 2 0) many (by omega)
 obtain ⟨rows,hrows,hR,hrl⟩:=AV ns zs (by omega)
 have m13:=mod_lt (x:=ns.getD 3 0) (m:=13) (by decide)
 obtain ⟨e,he⟩ : ∃ e : Nat,ns.getD 3 0 % 13 = e:=⟨(ns.getD 3 0 % 13).toNat,by omega⟩
 have he12 : e<=12:=by omega
 obtain ⟨L,hfur,hLl,hL⟩:=vg ns zs (by omega) rows hR (by omega) e he12
 have cel : ∀ (k : Nat) (ρ : DL.Env) (f : FE),af 0 ρ = some (.lst (ns.map .int),false)->f ρ = some (.int k,false)->fA aT (ac (af 0) (ac f aj)) ρ = some (.int (ns.getD k 0),false):=fun k ρ f h1 h2=>ah (ds:=[.lst (ns.map .int),.int k]) (av h1 (av h2 rfl)) (iC ns k)
 have hR2 : ∀ r ∈ rows ++ L,iI r:=fun r hr=>by
  rcases List.mem_append.mp hr with h | h
  ·exact hR r h
  ·exact (hL r h).1.1
 have g1 : cY rows:=⟨by omega,fun r hr=>(hR r hr).1⟩
 have g2 : cY (rows ++ L):=⟨by rw [List.length_append]; omega,fun r hr=>(hR2 r hr).1⟩
 have g3 : cY (rows.map (g7 e)):=⟨by rw [List.length_map]; omega,fun r hr=>by obtain ⟨r',h',rfl⟩:=List.mem_map.mp hr; exact E2 (hR r' h').1⟩
 have hSince : ∀ {rs : List D},(∀ r ∈ rs,iI r)->∀ x ∈ rs.zipIdx,gs x:=fun h x hx=>(h _ (List.fst_mem_of_mem_zipIdx hx)).2.1
 have hnod : ∀ rs : List D,(rs.zipIdx.map (·.2)).Nodup:=fun rs=>by rw [List.zipIdx_map_snd]; exact List.nodup_range'
 have t1:=nI g1 9998 e he12
 have t2:=nI g2 9998 e he12
 have t3:=nI g3 9998 e he12
 rw [pF hR (by decide)] at t1
 rw [pF hR2 (by decide)] at t2
 rw [xI hR] at t3
 have q2 : eY (rows ++ L).zipIdx e = eY rows.zipIdx e:=by
  rw [gZ (hnod _) (hSince hR2),gZ (hnod rows) (hSince hR)]
  congr 1
  unfold bv
  rw [List.zipIdx_append,List.filter_append,show (L.zipIdx (0 + rows.length)).filter (b9 e) = [] from List.filter_eq_nil_iff.mpr fun x hx=>?_,List.append_nil]
  obtain ⟨h1,h2⟩:=hL _ (List.fst_mem_of_mem_zipIdx hx)
  unfold b9
  rw [h1.2,decide_eq_false (by omega)]
  decide
 have q3 : eY (bv e rows.zipIdx) e = eY rows.zipIdx e:=(gZ (hnod rows) (hSince hR) e).symm
 rw [q2] at t2
 rw [q3] at t3
 have wel : ∀ {rs : List D},(∀ r ∈ rs,iI r)->rs.length<=60->∀ known : Int,cr [.tup rs,.int known] = some (.lst ((bj (au rs known)).map clD),true)/\fL [.tup rs,.lst ((bj (au rs known)).map clD)] = some (.bl true,false):=fun {rs} h hl known=>by
  have g : cY rs:=⟨hl,fun r hr=>(h r hr).1⟩
  obtain ⟨c1,c2⟩:=kE g known (vi known hl)
  refine ⟨c1,AW g.2 hl (fun x hx=>cj hx) c2 (tL fun x hx hk=>?_)⟩
  obtain ⟨a,k,az,er,d⟩:=g.2 _ (List.mem_of_getElem? (cj hx))
  rw [er] at hk ⊢
  replace hk : k = ("death" : Str):=hk
  subst hk
  obtain ⟨dd,p,rfl⟩:=d.deed.three (by decide +kernel)
  show told bP p dd _ = true
  simp [told,row,bP,mR]
 have w1:=wel hR (by omega) 9998
 have w2:=wel hR2 g2.1 9999
 have hpl:=vh rows.zipIdx e
 have hne : dNe (eY rows.zipIdx e) (eY rows.zipIdx e) = some (.bl false,false):=by
  unfold dNe
  rw [if_pos ⟨hpl,hpl⟩,jI 40 _ hpl]
  rfl
 have hfl : ∀ {rs : List D},(∀ r ∈ rs,iI r)->bc (.tup rs) = true:=fun h=>by simp [cC fun r hr=>(h r hr).1.rp.flat]
 refine ⟨false,a7 rfl (bZ (ds:=zs.map .str) ?_ (dL zs) (aR (d:=.tup rows) (b:=false) ?_ (hfl hR) (aR (d:=.int e) (b:=false) ?_ rfl (aR (d:=.tup (rows ++ L)) (b:=false) ?_ (hfl hR2) (Fb (d:=eY rows.zipIdx e) (b:=false) ?_ rfl (.inl rfl) (bO (je (p:=false) (q:=false) (aH (b:=false) ?_) fun _=>aH (b:=false) ?_) (aK (gO (p:=true) (q:=true) (b1:=false) ?_ fun _=>?_))))))))⟩
 ·refine ah (ds:=[.int (ns.getD 2 0),.int many]) (av (cel 2 _ _ rfl rfl) (av (d:=.int many) (b:=false) (aG (x:=.int 2) (y:=.int (ns.getD 0 0 % 5)) (b1:=false) (b2:=false) rfl (aG (x:=.int (ns.getD 0 0)) (y:=.int 5) (b1:=false) (b2:=false) (cel 0 _ _ rfl rfl) rfl (by simp)) (by simp only [bN,hmany])) rfl)) hz
 ·exact ah (ds:=[.lst (ns.map .int),.lst (zs.map .str)]) (by simp) hrows
 ·exact aG (x:=.int (ns.getD 3 0)) (y:=.int 13) (b1:=false) (b2:=false) (cel 3 _ _ rfl rfl) rfl (by rw [← he]; simp)
 ·exact ah (ds:=[.lst (ns.map .int),.tup rows,.lst (zs.map .str),.int e]) (by simp) hfur
 ·exact ah (ds:=[.tup rows,.int e,.int 9998]) (by simp) t1
 ·exact aG (b1:=false) (b2:=false) (ah (ds:=[.tup (rows.map (g7 e)),.int e,.int 9998]) (av (b:=false) (ah (ds:=[.tup rows,.int e]) rfl (xH rows hR (by omega) e)) rfl) t3) rfl hne
 ·exact aG (b1:=false) (b2:=false) (ah (ds:=[.tup (rows ++ L),.int e,.int 9998]) rfl t2) rfl hne
 ·exact ah (ds:=[.tup rows,.lst ((bj (au rows 9998)).map clD)]) (av (b:=false) rfl (av (ah (ds:=[.tup rows,.int 9998]) rfl w1.1) rfl)) w1.2
 ·exact ah (ds:=[.tup (rows ++ L),.lst ((bj (au (rows ++ L) 9999)).map clD)]) (av (b:=false) rfl (av (ah (ds:=[.tup (rows ++ L),.int 9999]) rfl w2.1) rfl)) w2.2
end Lw
namespace Lw
open PySem PySem.Spec PyProof.Rows L2 DL
theorem cL {X : Cx} {es : List Expr} {g : FA} {i : Int} {j : Nat} {pos : Pos} (hr : JA X es g) : JA X (.Constant (.int i) j pos :: es) (ac (fC (.int i)) g):=ab ao hr
theorem Da {a b : Expr} {pos : Pos} : lD (.Subscript a b pos):=by intro _ _; rfl
def top (i : Nat) : Stmt:=PySem.Challenge.pw_sealchain_k23_whole_later_deeds_change_n.main.body.getD i (.Pass ⟨0,0,0,0⟩)
structure Tx (K : PySem.W.Frag) (P : Params) (mg : Str->Option Value) : Prop where
 n_dict : mg "dict" = none
 n_enumerate : mg "enumerate" = none
 n_len : mg "len" = none
 n_list : mg "list" = none
 n_max : mg "max" = none
 n_min : mg "min" = none
 n_range : mg "range" = none
 n_set : mg "set" = none
 n_sorted : mg "sorted" = none
 n_tuple : mg "tuple" = none
 k_PARTS : ∃ d,mg "PARTS" = some (.ref d)/\oN K P d eQ
 k_SEALINGS : ∃ u v,mg "SEALINGS" = some u/\aN v u/\∀ B,Is K B v d6
section
variable {P : Program} {w : World} {K : PySem.W.Frag} {mg : Str->Option Value} {base h : Heap}
abbrev kF : Stmt:=top 4
theorem nJ : FnScope ["row"] ["row"] (ar kF):=by refine ⟨rfl,rfl,rfl, ?_,rfl, ?_, ?_⟩ <;> decide +kernel
theorem vj (T : Tx K w.params mg) (F : Def K "word_of" kF) (KX : K.In h) (G : h.Ns mainGlobals mg)  : Fn P w K mg base 1 "word_of" aD :=
 F.fn (k:=0) KX G nJ (fun _ _ _ _ _ _ us hl=>match us,hl with | [_],_=>rfl) fun f cdv A outer s H E hr =>
  have hu:=bS hr
  have nd:=nJ.nd
  (show JSs _ _ pq from
   (aw (aI (aC (aC (ae 0) ao) ao))))
abbrev kG : Stmt:=top 5
theorem nK : FnScope ["row","part"] ["row","part"] (ar kG):=by refine ⟨rfl,rfl,rfl, ?_,rfl, ?_, ?_⟩ <;> decide +kernel
theorem vk (T : Tx K w.params mg) (F : Def K "part_of" kG) (KX : K.In h) (G : h.Ns mainGlobals mg) (f_word_of : Fn P w K mg base 1 "word_of" aD) : Fn P w K mg base 2 "part_of" aq :=
 F.fn (k:=1) KX G nK (fun _ _ _ _ _ _ us hl=>match us,hl with | [_,_],_=>rfl) fun f cdv A outer s H E hr =>
  have hu:=bS hr
  have nd:=nK.nd
  (show JSs _ _ pr from
   (aw (aI (aC (aC (ae 0) ao) (aE br ao (A6 T.k_PARTS (ak f_word_of (hr.mono (by decide)) (ab (ae 0) ag)) (ae 1)))))))
abbrev nL : Stmt:=top 6
theorem pG : FnScope ["row"] ["row"] (ar nL):=by refine ⟨rfl,rfl,rfl, ?_,rfl, ?_, ?_⟩ <;> decide +kernel
theorem xK (T : Tx K w.params mg) (F : Def K "day_of" nL) (KX : K.In h) (G : h.Ns mainGlobals mg) (f_word_of : Fn P w K mg base 1 "word_of" aD) (f_part_of : Fn P w K mg base 2 "part_of" aq) : Fn P w K mg base 3 "day_of" aM :=
 F.fn (k:=2) KX G pG (fun _ _ _ _ _ _ us hl=>match us,hl with | [_],_=>rfl) fun f cdv A outer s H E hr =>
  have hu:=bS hr
  have nd:=pG.nd
  (show JSs _ _ sU from
   (am (bX (aO (dr hu) (ak f_word_of (hr.mono (by decide)) (ab (ae 0) ag)) ay) (aw (aI fY)) bM)
   (aw (aI (ak f_part_of (hr.mono (by decide)) (ab (ae 0) (ab ay ag)))))))
abbrev rg : Stmt:=top 8
theorem tN : FnScope ["book","known"] ["book","known"] (ar rg):=by refine ⟨rfl,rfl,rfl, ?_,rfl, ?_, ?_⟩ <;> decide +kernel
theorem zB (T : Tx K w.params mg) (F : Def K "heard" rg) (KX : K.In h) (G : h.Ns mainGlobals mg)  : Fn P w K mg base 1 "heard" ci :=
 F.fn (k:=0) KX G tN (fun _ _ _ _ _ _ us hl=>match us,hl with | [_,_],_=>rfl) fun f cdv A outer s H E hr =>
  have hu:=bS hr
  have nd:=tN.nd
  (show JSs _ _ wj from
   (aw (aI (fX rfl (nT:=2) (cap:=[1]) (N':=["number","row","known"]) (d4 (by decide +kernel) rfl (by decide +kernel) rfl) (.cons rfl rfl (Or.inl rfl) (Or.inl rfl) (bB (by decide +kernel) rfl) (.nil rfl)) (vM T.n_enumerate (ae 0)) (fun _ _ _ _=>(lL rfl (bU (aU (i:=0) (show List.Nodup (α:=Str) ["number","row","known"] by decide +kernel) rfl (Or.inl rfl)) (bU (aU (i:=1) (show List.Nodup (α:=Str) ["number","row","known"] by decide +kernel) rfl (Or.inl rfl)) js)))) (B7 (by decide)) (fun _ _ _ _=>(fW (aO lW (aC (ae 1) ao) (ae 2)))) (fun _ _ _ _=>(ae 0))))))
abbrev vn : Stmt:=top 10
theorem wA : FnScope ["book","number"] ["book","number"] (ar vn):=by refine ⟨rfl,rfl,rfl, ?_,rfl, ?_, ?_⟩ <;> decide +kernel
theorem AX (T : Tx K w.params mg) (F : Def K "rank" vn) (KX : K.In h) (G : h.Ns mainGlobals mg) (f_day_of : Fn P w K mg base 3 "day_of" aM) : Fn P w K mg base 4 "rank" cV :=
 F.fn (k:=3) KX G wA (fun _ _ _ _ _ _ us hl=>match us,hl with | [_,_],_=>rfl) fun f cdv A outer s H E hr =>
  have hu:=bS hr
  have nd:=wA.nd
  (show JSs _ _ zq from
   (aw (aI (aW (ab (ak f_day_of (hr.mono (by decide)) (ab (aC (ae 0) (ae 1)) ag)) (ab (ae 1) ag))))))
abbrev jk : Stmt:=top 11
theorem lm : FnScope ["book","known","dated"] ["book","known"] (ar jk):=by refine ⟨rfl,rfl,rfl, ?_,rfl, ?_, ?_⟩ <;> decide +kernel
theorem tO (T : Tx K w.params mg) (F : Def K "in_order" jk) (KX : K.In h) (G : h.Ns mainGlobals mg) (f_day_of : Fn P w K mg base 3 "day_of" aM) (f_heard : Fn P w K mg base 1 "heard" ci) (f_rank : Fn P w K mg base 4 "rank" cV) (l_in_order : qE K "in_order") : Fn P w K mg base 8 "in_order" d7 :=
 F.fnL (k:=7) KX G lm (fun _ _ _ _ _ _ us hl=>match us,hl with | [_,_],_=>rfl) fun f cdv A outer s H E hcd hr =>
  have hu:=bS hr
  have nd:=lm.nd
  (show JSs _ _ mG from
   (am (ij (i:=2) rfl nd rfl rfl rfl (nT:=1) (cap:=[0]) (N':=["number","book"]) (d4 (by decide +kernel) rfl (by decide +kernel) rfl) (.cons rfl rfl (Or.inl rfl) (Or.inl rfl) (bB (by decide +kernel) rfl) (.nil rfl)) (c8 (ak f_heard (hr.mono (by decide)) (ab (ae 0) (ab (ae 1) ag)))) (fun _ _ _ _=>(aU (i:=0) (show List.Nodup (α:=Str) ["number","book"] by decide +kernel) rfl (Or.inl rfl))) (c6 (by decide)) (fun _ _ _ _=>(fW (aO qm (ak f_day_of (hr.mono (by decide)) (ab (aC (ae 1) (ae 0)) ag)) fY))) (fun _ _ _ _=>(ae 0)))
   (aw (aI (sR T.n_sorted (ae 2) (uK (cap:=[0]) (N':=["number","book"]) (by decide +kernel) l_in_order hcd rfl rfl (yY (by decide +kernel) rfl rfl rfl rfl rfl) rfl (.cons rfl rfl (Or.inl rfl) rfl (bB (by decide +kernel) rfl) (.nil rfl)) rfl hr.in1.in1 (fun _ _ _ _=>rfl) fun _ _ _ _ hr=>have hu:=bS hr; (ak f_rank (hr.mono (by decide)) (ab (ae 1) (ab (ae 0) ag)))))))))
abbrev hU : Stmt:=top 23
theorem jR : FnScope ["claim"] ["claim"] (ar hU):=by refine ⟨rfl,rfl,rfl, ?_,rfl, ?_, ?_⟩ <;> decide +kernel
theorem rh (T : Tx K w.params mg) (F : Def K "by_office" hU) (KX : K.In h) (G : h.Ns mainGlobals mg)  : Fn P w K mg base 1 "by_office" cX :=
 F.fn (k:=0) KX G jR (fun _ _ _ _ _ _ us hl=>match us,hl with | [_],_=>rfl) fun f cdv A outer s H E hr =>
  have hu:=bS hr
  have nd:=jR.nd
  (show JSs _ _ kQ from
   (aw (aI (aW (ab (aC (ae 0) ao) (ab (aC (ae 0) ao) (ab (aC (ae 0) ao) ag)))))))
abbrev ri : Stmt:=top 12
theorem tP : FnScope ["book","known","known_rows"] ["book","known"] (ar ri):=by refine ⟨rfl,rfl,rfl, ?_,rfl, ?_, ?_⟩ <;> decide +kernel
theorem zC (T : Tx K w.params mg) (F : Def K "roots" ri) (KX : K.In h) (G : h.Ns mainGlobals mg) (f_word_of : Fn P w K mg base 1 "word_of" aD) (f_part_of : Fn P w K mg base 2 "part_of" aq) (f_heard : Fn P w K mg base 1 "heard" ci) : Fn P w K mg base 3 "roots" eR :=
 F.fn (k:=2) KX G tP (fun _ _ _ _ _ _ us hl=>match us,hl with | [_,_],_=>rfl) fun f cdv A outer s H E hr =>
  have hu:=bS hr
  have nd:=tP.nd
  (show JSs _ _ wl from
   (am (ij (i:=2) rfl nd rfl rfl rfl (nT:=1) (cap:=[0]) (N':=["number","book"]) (d4 (by decide +kernel) rfl (by decide +kernel) rfl) (.cons rfl rfl (Or.inl rfl) (Or.inl rfl) (bB (by decide +kernel) rfl) (.nil rfl)) (c8 (ak f_heard (hr.mono (by decide)) (ab (ae 0) (ab (ae 1) ag)))) (fun _ _ _ _=>(aU (i:=0) (show List.Nodup (α:=Str) ["number","book"] by decide +kernel) rfl (Or.inl rfl))) (c6 (by decide)) (fun _ _ _ _=>qh) (fun _ _ _ _=>(aC (ae 1) (ae 0))))
   (aw (aI (f7 (CV rfl) T.n_dict CU (ab (fX rfl (nT:=1) (cap:=[]) (N':=["row"]) (d4 (by decide +kernel) rfl (by decide +kernel) rfl) (.nil rfl) (c8 (ae 2)) (fun _ _ _ _=>(aU (i:=0) (show List.Nodup (α:=Str) ["row"] by decide +kernel) rfl (Or.inl rfl))) (c6 (by decide)) (fun _ _ _ _=>(fW (aO (dr hu) (ak f_word_of (hr.mono (by decide)) (ab (ae 0) ag)) ay))) (fun _ _ _ _=>(aW (ab (ak f_part_of (hr.mono (by decide)) (ab (ae 0) (ab ay ag))) (ab (ae 0) ag))))) ag))))))
abbrev jl : Stmt:=top 9
theorem lp : FnScope ["book","known","number"] ["book","known","number"] (ar jl):=by refine ⟨rfl,rfl,rfl, ?_,rfl, ?_, ?_⟩ <;> decide +kernel
theorem tQ (T : Tx K w.params mg) (F : Def K "is_known" jl) (KX : K.In h) (G : h.Ns mainGlobals mg)  : Fn P w K mg base 1 "is_known" eu :=
 F.fn (k:=0) KX G lp (fun _ _ _ _ _ _ us hl=>match us,hl with | [_,_,_],_=>rfl) fun f cdv A outer s H E hr =>
  have hu:=bS hr
  have nd:=lp.nd
  (show JSs _ _ mH from
   (aw (aI (gD (y0 lW sg ao (ae 2) (bF eK T.n_len eN (ab (ae 0) ag))) (gE (cR lW (aC (aC (ae 0) (ae 2)) ao) (ae 1)))))))
abbrev rj : Stmt:=top 15
theorem tR : FnScope ["row","words","person","day"] ["row","words","person","day"] (ar rj):=by refine ⟨rfl,rfl,rfl, ?_,rfl, ?_, ?_⟩ <;> decide +kernel
theorem zD (T : Tx K w.params mg) (F : Def K "tells" rj) (KX : K.In h) (G : h.Ns mainGlobals mg) (f_word_of : Fn P w K mg base 1 "word_of" aD) (f_part_of : Fn P w K mg base 2 "part_of" aq) (f_day_of : Fn P w K mg base 3 "day_of" aM) : Fn P w K mg base 4 "tells" jE :=
 F.fn (k:=3) KX G tR (fun _ _ _ _ _ _ us hl=>match us,hl with | [_,_,_,_],_=>rfl) fun f cdv A outer s H E hr =>
  have hu:=bS hr
  have nd:=tR.nd
  (show JSs _ _ wm from
   (aw (aI (gD (cR B5 (ak f_word_of (hr.mono (by decide)) (ab (ae 0) ag)) (ae 1)) (gD (cR (dr hu) (ak f_part_of (hr.mono (by decide)) (ab (ae 0) (ab ay ag))) (ae 2)) (gE (cR lW (ak f_day_of (hr.mono (by decide)) (ab (ae 0) ag)) (ae 3))))))))
abbrev kH : Stmt:=top 16
theorem nM : FnScope ["book","known","words","person","day"] ["book","known","words","person","day"] (ar kH):=by refine ⟨rfl,rfl,rfl, ?_,rfl, ?_, ?_⟩ <;> decide +kernel
theorem vp (T : Tx K w.params mg) (F : Def K "told_of" kH) (KX : K.In h) (G : h.Ns mainGlobals mg) (f_heard : Fn P w K mg base 1 "heard" ci) (f_tells : Fn P w K mg base 4 "tells" jE) : Fn P w K mg base 5 "told_of" cI :=
 F.fn (k:=4) KX G nM (fun _ _ _ _ _ _ us hl=>match us,hl with | [_,_,_,_,_],_=>rfl) fun f cdv A outer s H E hr =>
  have hu:=bS hr
  have nd:=nM.nd
  (show JSs _ _ pv from
   (aw (aI (fX rfl (nT:=1) (cap:=[2,3,4,0]) (N':=["number","words","person","day","book"]) (d4 (by decide +kernel) rfl (by decide +kernel) rfl) (.cons rfl rfl (Or.inl rfl) (Or.inl rfl) (bB (by decide +kernel) rfl) (.cons rfl rfl (Or.inl rfl) (Or.inl rfl) (bB (by decide +kernel) rfl) (.cons rfl rfl (Or.inl rfl) (Or.inl rfl) (bB (by decide +kernel) rfl) (.cons rfl rfl (Or.inl rfl) (Or.inl rfl) (bB (by decide +kernel) rfl) (.nil rfl))))) (c8 (ak f_heard (hr.mono (by decide)) (ab (ae 0) (ab (ae 1) ag)))) (fun _ _ _ _=>(aU (i:=0) (show List.Nodup (α:=Str) ["number","words","person","day","book"] by decide +kernel) rfl (Or.inl rfl))) (c6 (by decide)) (fun _ _ _ _=>(fW (gC (ak f_tells (hr.mono (by decide)) (ab (aC (ae 4) (ae 0)) (ab (ae 1) (ab (ae 2) (ab (ae 3) ag)))))))) (fun _ _ _ _=>(ae 0))))))
abbrev rm : Stmt:=top 17
theorem tS : FnScope ["book","known","person","day"] ["book","known","person","day"] (ar rm):=by refine ⟨rfl,rfl,rfl, ?_,rfl, ?_, ?_⟩ <;> decide +kernel
theorem zE (T : Tx K w.params mg) (F : Def K "lives" rm) (KX : K.In h) (G : h.Ns mainGlobals mg) (f_told_of : Fn P w K mg base 5 "told_of" cI) : Fn P w K mg base 6 "lives" gk :=
 F.fn (k:=5) KX G tS (fun _ _ _ _ _ _ us hl=>match us,hl with | [_,_,_,_],_=>rfl) fun f cdv A outer s H E hr =>
  have hu:=bS hr
  have nd:=tS.nd
  (show JSs _ _ wn from
   (aw (aI (cR (dr hu) (bF eK T.n_len eN (ab (ak f_told_of (hr.mono (by decide)) (ab (ae 0) (ab (ae 1) (ab (aW (ab ay ag)) (ab (ae 2) (ab (ae 3) ag)))))) ag)) ao))))
abbrev jm : Stmt:=top 18
theorem lq : FnScope ["book","known","person","day","told"] ["book","known","person","day"] (ar jm):=by refine ⟨rfl,rfl,rfl, ?_,rfl, ?_, ?_⟩ <;> decide +kernel
theorem tT (T : Tx K w.params mg) (F : Def K "has_seal" jm) (KX : K.In h) (G : h.Ns mainGlobals mg) (f_word_of : Fn P w K mg base 1 "word_of" aD) (f_rank : Fn P w K mg base 4 "rank" cV) (f_told_of : Fn P w K mg base 5 "told_of" cI) (l_has_seal : qE K "has_seal") : Fn P w K mg base 8 "has_seal" gl :=
 F.fnL (k:=7) KX G lq (fun _ _ _ _ _ _ us hl=>match us,hl with | [_,_,_,_],_=>rfl) fun f cdv A outer s H E hcd hr =>
  have hu:=bS hr
  have nd:=lq.nd
  (show JSs _ _ mI from
   (am (aA (i:=4) nd (ak f_told_of (hr.mono (by decide)) (ab (ae 0) (ab (ae 1) (ab (aW (ab ay (ab ay ag))) (ab (ae 2) (ab (ae 3) ag)))))))
   (am (bX (aO (dr hu) (bF eK T.n_len eN (ab (ae 4) ag)) ao) (aw (aI j4)) bM)
   (aw (aI (cR (dr hu) (ak f_word_of (hr.mono (by decide)) (ab (aC (ae 0) (vY T.n_max (ae 4) (uK (cap:=[0]) (N':=["number","book"]) (by decide +kernel) l_has_seal hcd rfl rfl (yY (by decide +kernel) rfl rfl rfl rfl rfl) rfl (.cons rfl rfl (Or.inl rfl) rfl (bB (by decide +kernel) rfl) (.nil rfl)) rfl hr.in1 (fun _ _ _ _=>rfl) fun _ _ _ _ hr=>have hu:=bS hr; (ak f_rank (hr.mono (by decide)) (ab (ae 1) (ab (ae 0) ag)))) hr)) ag)) ay))))))
abbrev jn : Stmt:=top 19
theorem lr : FnScope ["book","known","number","sealer","day"] ["book","known","number"] (ar jn):=by refine ⟨rfl,rfl,rfl, ?_,rfl, ?_, ?_⟩ <;> decide +kernel
theorem tU (T : Tx K w.params mg) (F : Def K "is_sound" jn) (KX : K.In h) (G : h.Ns mainGlobals mg) (f_word_of : Fn P w K mg base 1 "word_of" aD) (f_part_of : Fn P w K mg base 2 "part_of" aq) (f_day_of : Fn P w K mg base 3 "day_of" aM) (f_is_known : Fn P w K mg base 1 "is_known" eu) (f_lives : Fn P w K mg base 6 "lives" gk) (f_has_seal : Fn P w K mg base 8 "has_seal" gl) : Fn P w K mg base 9 "is_sound" gm :=
 F.fn (k:=8) KX G lr (fun _ _ _ _ _ _ us hl=>match us,hl with | [_,_,_],_=>rfl) fun f cdv A outer s H E hr =>
  have hu:=bS hr
  have nd:=lr.nd
  (show JSs _ _ mJ from
   (am (bX (kg (lU (qi (gC (ak f_is_known (hr.mono (by decide)) (ab (ae 0) (ab (ae 1) (ab (ae 2) ag)))))) (kc (aO j6 (ak f_word_of (hr.mono (by decide)) (ab (aC (ae 0) (ae 2)) ag)) (y8 T.k_SEALINGS))))) (aw (aI j4)) bM)
   (am (aA (i:=3) nd (ak f_part_of (hr.mono (by decide)) (ab (aC (ae 0) (ae 2)) (ab ay ag))))
   (am (aA (i:=4) nd (ak f_day_of (hr.mono (by decide)) (ab (aC (ae 0) (ae 2)) ag)))
   (aw (aI (gD (ak f_lives (hr.mono (by decide)) (ab (ae 0) (ab (ae 1) (ab (ae 3) (ab (ae 4) ag))))) (gE (ak f_has_seal (hr.mono (by decide)) (ab (ae 0) (ab (ae 1) (ab (ae 3) (ab (ae 4) ag)))))))))))))
abbrev kI : Stmt:=top 1
theorem nN : FnScope ["day","stretch"] ["day","stretch"] (ar kI):=by refine ⟨rfl,rfl,rfl, ?_,rfl, ?_, ?_⟩ <;> decide +kernel
theorem vq (T : Tx K w.params mg) (F : Def K "lies_in" kI) (KX : K.In h) (G : h.Ns mainGlobals mg)  : Fn P w K mg base 1 "lies_in" i6 :=
 F.fn (k:=0) KX G nN (fun _ _ _ _ _ _ us hl=>match us,hl with | [_,_],_=>rfl) fun f cdv A outer s H E hr =>
  have hu:=bS hr
  have nd:=nN.nd
  (show JSs _ _ pw from
   (aw (aI (gD (cR lW (aC (ae 1) ao) (ae 0)) (gE (DW (cR CB (aC (ae 1) ao) fY) (gE (cR sg (ae 0) (aC (ae 1) ao)))))))))
abbrev jo : Stmt:=top 21
theorem ls : FnScope ["claim","day"] ["claim","day"] (ar jo):=by refine ⟨rfl,rfl,rfl, ?_,rfl, ?_, ?_⟩ <;> decide +kernel
theorem tV (T : Tx K w.params mg) (F : Def K "is_alive" jo) (KX : K.In h) (G : h.Ns mainGlobals mg) (f_lies_in : Fn P w K mg base 1 "lies_in" i6) : Fn P w K mg base 2 "is_alive" bu :=
 F.fn (k:=1) KX G ls (fun _ _ _ _ _ _ us hl=>match us,hl with | [_,_],_=>rfl) fun f cdv A outer s H E hr =>
  have hu:=bS hr
  have nd:=ls.nd
  (show JSs _ _ mK from
   (aw (aI (ak f_lies_in (hr.mono (by decide)) (ab (ae 1) (ab (aW (ab (aC (ae 0) ao) (ab (aC (ae 0) ao) ag))) ag))))))
abbrev jp : Stmt:=top 22
theorem lu : FnScope ["claim"] ["claim"] (ar jp):=by refine ⟨rfl,rfl,rfl, ?_,rfl, ?_, ?_⟩ <;> decide +kernel
theorem tW (T : Tx K w.params mg) (F : Def K "by_since" jp) (KX : K.In h) (G : h.Ns mainGlobals mg)  : Fn P w K mg base 1 "by_since" bH :=
 F.fn (k:=0) KX G lu (fun _ _ _ _ _ _ us hl=>match us,hl with | [_],_=>rfl) fun f cdv A outer s H E hr =>
  have hu:=bS hr
  have nd:=lu.nd
  (show JSs _ _ mL from
   (aw (aI (aW (ab (aC (ae 0) ao) (ab (aC (ae 0) ao) ag))))))
abbrev jq : Stmt:=top 24
theorem lw : FnScope ["alive","rule"] ["alive","rule"] (ar jq):=by refine ⟨rfl,rfl,rfl, ?_,rfl, ?_, ?_⟩ <;> decide +kernel
theorem tX (T : Tx K w.params mg) (F : Def K "chief_of" jq) (KX : K.In h) (G : h.Ns mainGlobals mg) (f_by_since : Fn P w K mg base 1 "by_since" bH) : Fn P w K mg base 5 "chief_of" gn :=
 F.fn (k:=4) KX G lw (fun _ _ _ _ _ _ us hl=>match us,hl with | [_,_],_=>rfl) fun f cdv A outer s H E hr =>
  have hu:=bS hr
  have nd:=lw.nd
  (show JSs _ _ mM from
   (am (bX (aO (dr hu) (ae 1) ay) (aw (aI (aC (vY T.n_max (ae 0) (vX f_by_since (hr.in1.mono (by decide)) rfl) hr) ao))) bM)
   (aw (aI (aC (qH T.n_min (ae 0) (vX f_by_since (hr.in1.mono (by decide)) rfl) hr) ao)))))
abbrev hV : Stmt:=top 25
theorem jS : FnScope ["claimed","root","day","alive","people","person","oldest"] ["claimed","root","day"] (ar hV):=by refine ⟨rfl,rfl,rfl, ?_,rfl, ?_, ?_⟩ <;> decide +kernel
theorem ro (T : Tx K w.params mg) (F : Def K "holder_by" hV) (KX : K.In h) (G : h.Ns mainGlobals mg) (f_part_of : Fn P w K mg base 2 "part_of" aq) (f_is_alive : Fn P w K mg base 2 "is_alive" bu) (f_by_since : Fn P w K mg base 1 "by_since" bH) (f_chief_of : Fn P w K mg base 5 "chief_of" gn) : Fn P w K mg base 6 "holder_by" ce :=
 F.fn (k:=5) KX G jS (fun _ _ _ _ _ _ us hl=>match us,hl with | [_,_,_],_=>rfl) fun f cdv A outer s H E hr =>
  have hu:=bS hr
  have nd:=jS.nd
  (show JSs _ _ kR from
   (am (ij (i:=3) rfl nd rfl rfl rfl (nT:=1) (cap:=[2,1]) (N':=["claim","day","root"]) (d4 (by decide +kernel) rfl (by decide +kernel) rfl) (.cons rfl rfl (Or.inl rfl) (Or.inl rfl) (bB (by decide +kernel) rfl) (.cons rfl rfl (Or.inl rfl) (Or.inl rfl) (bB (by decide +kernel) rfl) (.nil rfl))) (c8 (ae 0)) (fun _ _ _ _=>(aU (i:=0) (show List.Nodup (α:=Str) ["claim","day","root"] by decide +kernel) rfl (Or.inl rfl))) (c6 (by decide)) (fun _ _ _ _=>(fW (kg (iV (aO (dr hu) (aC (ae 0) ao) (ak f_part_of (hr.mono (by decide)) (ab (ae 2) (ab ay ag)))) (fZ (gC (ak f_is_alive (hr.mono (by decide)) (ab (ae 0) (ab (ae 1) ag))))))))) (fun _ _ _ _=>(ae 0)))
   (am (aA (i:=4) nd (mr rfl T.n_sorted T.n_set (fX rfl (nT:=1) (cap:=[]) (N':=["claim"]) (d4 (by decide +kernel) rfl (by decide +kernel) rfl) (.nil rfl) (c8 (ae 3)) (fun _ _ _ _=>(aU (i:=0) (show List.Nodup (α:=Str) ["claim"] by decide +kernel) rfl (Or.inl rfl))) (c6 (by decide)) (fun _ _ _ _=>qh) (fun _ _ _ _=>(aC (ae 0) ao)))))
   (am (bX (aO (dr hu) (bF eK T.n_len eN (ab (ae 4) ag)) ao) (aw (aI (aW (ab ay ag)))) bM)
   (am (bX (kg (iV (aO C0 (bF eK T.n_len eN (ab (ae 4) ag)) ao) (fZ (aO (dr hu) (ak f_part_of (hr.mono (by decide)) (ab (ae 1) (ab ay ag))) ay)))) (aw (aI (aW (ab ay (ab (ae 4) ag))))) bM)
   (am (aA (i:=5) nd (ak f_chief_of (hr.mono (by decide)) (ab (ae 3) (ab (ak f_part_of (hr.mono (by decide)) (ab (ae 1) (ab ay ag))) ag))))
   (am (aA (i:=6) nd (qH T.n_min (fX rfl (nT:=1) (cap:=[5]) (N':=["claim","person"]) (d4 (by decide +kernel) rfl (by decide +kernel) rfl) (.cons rfl rfl (Or.inl rfl) (Or.inl rfl) (bB (by decide +kernel) rfl) (.nil rfl)) (c8 (ae 3)) (fun _ _ _ _=>(aU (i:=0) (show List.Nodup (α:=Str) ["claim","person"] by decide +kernel) rfl (Or.inl rfl))) (c6 (by decide)) (fun _ _ _ _=>(fW (aO (dr hu) (aC (ae 0) ao) (ae 1)))) (fun _ _ _ _=>(ae 0))) (vX f_by_since (hr.in1.mono (by decide)) rfl) hr))
   (aw (aI (aW (ab ay (ab (ae 5) (ab (aC (ae 6) ao) ag)))))))))))))
abbrev gt : Stmt:=top 26
theorem iT : FnScope ["claimed","root","person","day"] ["claimed","root","person","day"] (ar gt):=by refine ⟨rfl,rfl,rfl, ?_,rfl, ?_, ?_⟩ <;> decide +kernel
theorem o3 (T : Tx K w.params mg) (F : Def K "is_held_by" gt) (KX : K.In h) (G : h.Ns mainGlobals mg) (f_holder_by : Fn P w K mg base 6 "holder_by" ce) : Fn P w K mg base 7 "is_held_by" dj :=
 F.fn (k:=6) KX G iT (fun _ _ _ _ _ _ us hl=>match us,hl with | [_,_,_,_],_=>rfl) fun f cdv A outer s H E hr =>
  have hu:=bS hr
  have nd:=iT.nd
  (show JSs _ _ jF from
   (aw (aI (cR (dr hu) (dG (ak f_holder_by (hr.mono (by decide)) (ab (ae 0) (ab (ae 1) (ab (ae 3) ag)))) gb (dR ao)) (aW (ab ay (ab (ae 2) ag)))))))
abbrev dA : Stmt:=top 27
theorem eZ : FnScope ["book","known","number","row","deaths"] ["book","known","number"] (ar dA):=by refine ⟨rfl,rfl,rfl, ?_,rfl, ?_, ?_⟩ <;> decide +kernel
theorem jT (T : Tx K w.params mg) (F : Def K "is_first_death" dA) (KX : K.In h) (G : h.Ns mainGlobals mg) (f_part_of : Fn P w K mg base 2 "part_of" aq) (f_day_of : Fn P w K mg base 3 "day_of" aM) (f_rank : Fn P w K mg base 4 "rank" cV) (f_told_of : Fn P w K mg base 5 "told_of" cI) (l_is_first_death : qE K "is_first_death") : Fn P w K mg base 8 "is_first_death" cJ :=
 F.fnL (k:=7) KX G eZ (fun _ _ _ _ _ _ us hl=>match us,hl with | [_,_,_],_=>rfl) fun f cdv A outer s H E hcd hr =>
  have hu:=bS hr
  have nd:=eZ.nd
  (show JSs _ _ fH from
   (am (aA (i:=3) nd (aC (ae 0) (ae 2)))
   (am (aA (i:=4) nd (ak f_told_of (hr.mono (by decide)) (ab (ae 0) (ab (ae 1) (ab (aW (ab ay ag)) (ab (ak f_part_of (hr.mono (by decide)) (ab (ae 3) (ab ay ag))) (ab (ak f_day_of (hr.mono (by decide)) (ab (ae 3) ag)) ag)))))))
   (aw (aI (cR (dr hu) (qH T.n_min (ae 4) (uK (cap:=[0]) (N':=["each","book"]) (by decide +kernel) l_is_first_death hcd rfl rfl (yY (by decide +kernel) rfl rfl rfl rfl rfl) rfl (.cons rfl rfl (Or.inl rfl) rfl (bB (by decide +kernel) rfl) (.nil rfl)) rfl hr.in1 (fun _ _ _ _=>rfl) fun _ _ _ _ hr=>have hu:=bS hr; (ak f_rank (hr.mono (by decide)) (ab (ae 1) (ab (ae 0) ag)))) hr) (ae 2)))))))
abbrev nO : Stmt:=top 28
theorem pH : FnScope ["book","known","so_far","number","row","root"] ["book","known","so_far","number"] (ar nO):=by refine ⟨rfl,rfl,rfl, ?_,rfl, ?_, ?_⟩ <;> decide +kernel
theorem xL (T : Tx K w.params mg) (F : Def K "counts" nO) (KX : K.In h) (G : h.Ns mainGlobals mg) (f_word_of : Fn P w K mg base 1 "word_of" aD) (f_part_of : Fn P w K mg base 2 "part_of" aq) (f_day_of : Fn P w K mg base 3 "day_of" aM) (f_roots : Fn P w K mg base 3 "roots" eR) (f_is_sound : Fn P w K mg base 9 "is_sound" gm) (f_is_held_by : Fn P w K mg base 7 "is_held_by" dj) (f_is_first_death : Fn P w K mg base 8 "is_first_death" cJ) : Fn P w K mg base 10 "counts" gP :=
 F.fn (k:=9) KX G pH (fun _ _ _ _ _ _ us hl=>match us,hl with | [_,_,_,_],_=>rfl) fun f cdv A outer s H E hr =>
  have hu:=bS hr
  have nd:=pH.nd
  (show JSs _ _ sV from
   (am (aA (i:=4) nd (aC (ae 0) (ae 3)))
   (am (bX (aO (dr hu) (ak f_word_of (hr.mono (by decide)) (ab (ae 4) ag)) ay) (aw (aI (ak f_is_first_death (hr.mono (by decide)) (ab (ae 0) (ab (ae 1) (ab (ae 3) ag)))))) bM)
   (am (bX (aO j6 (ak f_word_of (hr.mono (by decide)) (ab (ae 4) ag)) (aW (ab ay (ab ay (ab ay ag))))) (aw (aI j4)) bM)
   (am (aA (i:=5) nd (sS (hu1 hu) (ak f_roots (hr.mono (by decide)) (ab (ae 0) (ab (ae 1) ag))) (ak f_part_of (hr.mono (by decide)) (ab (ae 4) (ab ay ag))) ⟨rfl,rfl,rfl,rfl⟩))
   (am (bX (aO CB (ae 5) fY) (aw (aI j4)) bM)
   (am (bX (aO (dr hu) (ak f_word_of (hr.mono (by decide)) (ab (ae 4) ag)) ay) (aw (aI j4)) bM)
   (aw (aI (gD (ak f_is_sound (hr.mono (by decide)) (ab (ae 0) (ab (ae 1) (ab (ae 3) ag)))) (gE (ak f_is_held_by (hr.mono (by decide)) (ab (ae 2) (ab (ae 5) (ab (ak f_part_of (hr.mono (by decide)) (ab (ae 4) (ab ay ag))) (ab (ak f_day_of (hr.mono (by decide)) (ab (ae 4) ag)) ag))))))))))))))))
abbrev hW : Stmt:=top 29
theorem jU : FnScope ["row","since","number"] ["row","since","number"] (ar hW):=by refine ⟨rfl,rfl,rfl, ?_,rfl, ?_, ?_⟩ <;> decide +kernel
theorem rq (T : Tx K w.params mg) (F : Def K "new_claim" hW) (KX : K.In h) (G : h.Ns mainGlobals mg) (f_part_of : Fn P w K mg base 2 "part_of" aq) : Fn P w K mg base 3 "new_claim" cB :=
 F.fn (k:=2) KX G jU (fun _ _ _ _ _ _ us hl=>match us,hl with | [_,_,_],_=>rfl) fun f cdv A outer s H E hr =>
  have hu:=bS hr
  have nd:=jU.nd
  (show JSs _ _ kT from
   (aw (aI (aW (ab (ak f_part_of (hr.mono (by decide)) (ab (ae 0) (ab ay ag))) (ab (ak f_part_of (hr.mono (by decide)) (ab (ae 0) (ab ay ag))) (ab (ae 1) (ab fY (ab (ae 2) ag)))))))))
abbrev rz : Stmt:=top 30
theorem tY : FnScope ["so_far","offices","person","day","left","claim"] ["so_far","offices","person","day"] (ar rz):=by refine ⟨rfl,rfl,rfl, ?_,rfl, ?_, ?_⟩ <;> decide +kernel
theorem zF (T : Tx K w.params mg) (F : Def K "ended" rz) (KX : K.In h) (G : h.Ns mainGlobals mg) (f_is_alive : Fn P w K mg base 2 "is_alive" bu) : Fn P w K mg base 3 "ended" i7 :=
 F.fn (k:=2) KX G tY (fun _ _ _ _ _ _ us hl=>match us,hl with | [_,_,_,_],_=>rfl) fun f cdv A outer s H E hr =>
  have hu:=bS hr
  have nd:=tY.nd
  (show JSs _ _ wo from
   (am (aA (i:=4) nd (cg ag))
   (am (iW PassesOwn.never rfl (c8 (ae 0)) (aU (i:=5) nd rfl (Or.inl rfl)) dW (aw (bX (kg (lU (aO j6 (aC (ae 5) ao) (ae 1)) (lU (aO (y7 hu) (aC (ae 5) ao) (ae 2)) (kc (qi (kg (lU (gC (ak f_is_alive (hr.mono (by decide)) (ab (ae 5) (ab (ae 3) ag)))) (kc (aO C0 (aC (ae 5) ao) (ae 3)))))))))) (aw (fj (i:=4) (ae 5))) (aw (bX (aO sg (aC (ae 5) ao) (ae 3)) (aw (fj (i:=4) (aW (ab (aC (ae 5) ao) (ab (ae 2) (ab (aC (ae 5) ao) (ab (ae 3) (ab (aC (ae 5) ao) ag)))))))) bM)))))
   (aw (lE 4)))))
abbrev eD : Stmt:=top 31
theorem gw : FnScope ["so_far","row","number","since","left"] ["so_far","row","number"] (ar eD):=by refine ⟨rfl,rfl,rfl, ?_,rfl, ?_, ?_⟩ <;> decide +kernel
theorem lC (T : Tx K w.params mg) (F : Def K "after_choice" eD) (KX : K.In h) (G : h.Ns mainGlobals mg) (f_part_of : Fn P w K mg base 2 "part_of" aq) (f_new_claim : Fn P w K mg base 3 "new_claim" cB) (f_ended : Fn P w K mg base 3 "ended" i7) : Fn P w K mg base 4 "after_choice" dm :=
 F.fn (k:=3) KX G gw (fun _ _ _ _ _ _ us hl=>match us,hl with | [_,_,_],_=>rfl) fun f cdv A outer s H E hr =>
  have hu:=bS hr
  have nd:=gw.nd
  (show JSs _ _ gQ from
   (am (aA (i:=3) nd (ak f_part_of (hr.mono (by decide)) (ab (ae 1) (ab ay ag))))
   (am (aA (i:=4) nd (ak f_ended (hr.mono (by decide)) (ab (ae 0) (ab (cg (ab (ak f_part_of (hr.mono (by decide)) (ab (ae 1) (ab ay ag))) ag)) (ab (ak f_part_of (hr.mono (by decide)) (ab (ae 1) (ab ay ag))) (ab (ae 3) ag))))))
   (aw (aI (aE br (ae 4) (cg (ab (ak f_new_claim (hr.mono (by decide)) (ab (ae 1) (ab (ae 3) (ab (ae 2) ag)))) ag))))))))
abbrev hX : Stmt:=top 32
theorem jV : FnScope ["book","known","so_far","heirs","number","person","day","told","office","heir"] ["book","known","so_far","heirs","number"] (ar hX):=by refine ⟨rfl,rfl,rfl, ?_,rfl, ?_, ?_⟩ <;> decide +kernel
theorem r0 (T : Tx K w.params mg) (F : Def K "inherited" hX) (KX : K.In h) (G : h.Ns mainGlobals mg) (f_part_of : Fn P w K mg base 2 "part_of" aq) (f_day_of : Fn P w K mg base 3 "day_of" aM) (f_lives : Fn P w K mg base 6 "lives" gk) (f_is_alive : Fn P w K mg base 2 "is_alive" bu) : Fn P w K mg base 7 "inherited" eS :=
 F.fn (k:=6) KX G jV (fun _ _ _ _ _ _ us hl=>match us,hl with | [_,_,_,_,_],_=>rfl) fun f cdv A outer s H E hr =>
  have hu:=bS hr
  have nd:=jV.nd
  (show JSs _ _ kU from
   (am (aA (i:=5) nd (ak f_part_of (hr.mono (by decide)) (ab (aC (ae 0) (ae 4)) (ab ay ag))))
   (am (aA (i:=6) nd (ak f_day_of (hr.mono (by decide)) (ab (aC (ae 0) (ae 4)) ag)))
   (am (aA (i:=7) nd (cg ag))
   (am (Ep [5,6] (iW PassesOwn.never rfl (c8 (mr rfl T.n_sorted T.n_set (fX rfl (nT:=1) (cap:=[5,6]) (N':=["claim","person","day"]) (d4 (by decide +kernel) rfl (by decide +kernel) rfl) (.cons rfl rfl (Or.inl rfl) (Or.inl rfl) (bB (by decide +kernel) rfl) (.cons rfl rfl (Or.inl rfl) (Or.inl rfl) (bB (by decide +kernel) rfl) (.nil rfl))) (c8 (ae 2)) (fun _ _ _ _=>(aU (i:=0) (show List.Nodup (α:=Str) ["claim","person","day"] by decide +kernel) rfl (Or.inl rfl))) (c6 (by decide)) (fun _ _ _ _=>(fW (kg (iV (aO (dr hu) (aC (ae 0) ao) (ae 1)) (fZ (gC (ak f_is_alive (hr.mono (by decide)) (ab (ae 0) (ab (ae 2) ag))))))))) (fun _ _ _ _=>(aC (ae 0) ao))))) (aU (i:=8) nd rfl (Or.inl rfl)) dW (am (aA (i:=9) nd (zj (hu1 hu) (ae 3) (ab (ae 8) (ab (ae 5) ag)) ⟨rfl,rfl,rfl,rfl⟩))
   (aw (bX (kg (iV (aO qm (ae 9) fY) (fZ (gC (ak f_lives (hr.mono (by decide)) (ab (ae 0) (ab (ae 1) (ab (ae 9) (ab (ae 6) ag))))))))) (aw (fj (i:=7) (aW (ab (ae 8) (ab (ae 9) (ab (ae 6) (ab fY (ab (ae 4) ag)))))))) bM)))))
   (aw (lE 7)))))))
abbrev fw : Stmt:=top 33
theorem hZ : FnScope ["book","known","so_far","heirs","number","offices","left"] ["book","known","so_far","heirs","number"] (ar fw):=by refine ⟨rfl,rfl,rfl, ?_,rfl, ?_, ?_⟩ <;> decide +kernel
theorem nQ (T : Tx K w.params mg) (F : Def K "after_death" fw) (KX : K.In h) (G : h.Ns mainGlobals mg) (f_part_of : Fn P w K mg base 2 "part_of" aq) (f_day_of : Fn P w K mg base 3 "day_of" aM) (f_ended : Fn P w K mg base 3 "ended" i7) (f_inherited : Fn P w K mg base 7 "inherited" eS) : Fn P w K mg base 8 "after_death" dC :=
 F.fn (k:=7) KX G hZ (fun _ _ _ _ _ _ us hl=>match us,hl with | [_,_,_,_,_],_=>rfl) fun f cdv A outer s H E hr =>
  have hu:=bS hr
  have nd:=hZ.nd
  (show JSs _ _ iR from
   (am (ij (i:=5) rfl nd rfl rfl rfl (nT:=1) (cap:=[]) (N':=["claim"]) (d4 (by decide +kernel) rfl (by decide +kernel) rfl) (.nil rfl) (c8 (ae 2)) (fun _ _ _ _=>(aU (i:=0) (show List.Nodup (α:=Str) ["claim"] by decide +kernel) rfl (Or.inl rfl))) (c6 (by decide)) (fun _ _ _ _=>qh) (fun _ _ _ _=>(aC (ae 0) ao)))
   (am (aA (i:=6) nd (ak f_ended (hr.mono (by decide)) (ab (ae 2) (ab (ae 5) (ab (ak f_part_of (hr.mono (by decide)) (ab (aC (ae 0) (ae 4)) (ab ay ag))) (ab (ak f_day_of (hr.mono (by decide)) (ab (aC (ae 0) (ae 4)) ag)) ag))))))
   (aw (aI (aE br (ae 6) (ak f_inherited (hr.mono (by decide)) (ab (ae 0) (ab (ae 1) (ab (ae 2) (ab (ae 3) (ab (ae 4) ag))))))))))))
abbrev nR : Stmt:=top 34
theorem pJ : FnScope ["book","known","so_far","heirs","number","row"] ["book","known"] (ar nR):=by refine ⟨rfl,rfl,rfl, ?_,rfl, ?_, ?_⟩ <;> decide +kernel
theorem xM (T : Tx K w.params mg) (F : Def K "claims" nR) (KX : K.In h) (G : h.Ns mainGlobals mg) (f_word_of : Fn P w K mg base 1 "word_of" aD) (f_part_of : Fn P w K mg base 2 "part_of" aq) (f_day_of : Fn P w K mg base 3 "day_of" aM) (f_in_order : Fn P w K mg base 8 "in_order" d7) (f_by_office : Fn P w K mg base 1 "by_office" cX) (f_counts : Fn P w K mg base 10 "counts" gP) (f_new_claim : Fn P w K mg base 3 "new_claim" cB) (f_after_choice : Fn P w K mg base 4 "after_choice" dm) (f_after_death : Fn P w K mg base 8 "after_death" dC) : Fn P w K mg base 11 "claims" cr :=
 F.fn (k:=10) KX G pJ (fun _ _ _ _ _ _ us hl=>match us,hl with | [_,_],_=>rfl) fun f cdv A outer s H E hr =>
  have hu:=bS hr
  have nd:=pJ.nd
  (show JSs _ _ sW from
   (am (aA (i:=2) nd (cg ag))
   (am (AB (i:=3) nd)
   (am (iW PassesOwn.never rfl (c8 (ak f_in_order (hr.mono (by decide)) (ab (ae 0) (ab (ae 1) ag)))) (aU (i:=4) nd rfl (Or.inl rfl)) dW (am (aA (i:=5) nd (aC (ae 0) (ae 4)))
   (am (bX (qi (gC (ak f_counts (hr.mono (by decide)) (ab (ae 0) (ab (ae 1) (ab (ae 2) (ab (ae 4) ag))))))) (aw Az) bM)
   (aw (bX (aO (dr hu) (ak f_word_of (hr.mono (by decide)) (ab (ae 5) ag)) ay) (aw (aA (i:=2) nd (aE br (ae 2) (cg (ab (ak f_new_claim (hr.mono (by decide)) (ab (ae 5) (ab (ak f_day_of (hr.mono (by decide)) (ab (ae 5) ag)) (ab (ae 4) ag)))) ag))))) (aw (bX (aO (dr hu) (ak f_word_of (hr.mono (by decide)) (ab (ae 5) ag)) ay) (aw (aA (i:=2) nd (ak f_after_choice (hr.mono (by decide)) (ab (ae 2) (ab (ae 5) (ab (ae 4) ag)))))) (aw (bX (aO (dr hu) (ak f_word_of (hr.mono (by decide)) (ab (ae 5) ag)) ay) (aw (AC (i:=3) (hu1 hu) (ak f_part_of (hr.mono (by decide)) (ab (ae 5) (ab ay ag))) (ab (ak f_part_of (hr.mono (by decide)) (ab (ae 5) (ab ay ag))) (ab (ak f_part_of (hr.mono (by decide)) (ab (ae 5) (ab ay ag))) ag)))) (aw (aA (i:=2) nd (ak f_after_death (hr.mono (by decide)) (ab (ae 0) (ab (ae 1) (ab (ae 2) (ab (ae 3) (ab (ae 4) ag)))))))))))))))))
   (aw (aI (sR T.n_sorted (ae 2) (vX f_by_office (hr.in1.in1.mono (by decide)) rfl))))))))
abbrev ia : Stmt:=top 37
theorem jW : FnScope ["_law_script","_law_k"] ["_law_script","_law_k"] (ar ia):=by refine ⟨rfl,rfl,rfl, ?_,rfl, ?_, ?_⟩ <;> decide +kernel
theorem r6 (T : Tx K w.params mg) (F : Def K "_law_cell_at" ia) (KX : K.In h) (G : h.Ns mainGlobals mg)  : Fn P w K mg base 1 "_law_cell_at" aT :=
 F.fn (k:=0) KX G jW (fun _ _ _ _ _ _ us hl=>match us,hl with | [_,_],_=>rfl) fun f cdv A outer s H E hr =>
  have hu:=bS hr
  have nd:=jW.nd
  (show JSs _ _ kW from
   (am (bX (aO sg (ae 1) (bF eK T.n_len eN (ab (ae 0) ag))) (aw (aI (aC (ae 0) (ae 1)))) bM)
   (aw (aI ao))))
abbrev kJ : Stmt:=top 39
theorem nS : FnScope ["_law_cell","_law_many","_law_size","_law_base","_law_at","_law_names_here","_law_k","_law_letter"] ["_law_cell","_law_many"] (ar kJ):=by refine ⟨rfl,rfl,rfl, ?_,rfl, ?_, ?_⟩ <;> decide +kernel
theorem vt (T : Tx K w.params mg) (F : Def K "_law_names" kJ) (KX : K.In h) (G : h.Ns mainGlobals mg)  : Fn P w K mg base 1 "_law_names" iB :=
 F.fn (k:=0) KX G nS (fun _ _ _ _ _ _ us hl=>match us,hl with | [_,_],_=>rfl) fun f cdv A outer s H E hr =>
  have hu:=bS hr
  have nd:=nS.nd
  (show JSs _ _ px from
   (am (aA (i:=2) nd (aE br ao (aE c7 (ae 0) ao)))
   (am (aA (i:=3) nd (dG ay gb (dR (ae 2))))
   (am (aA (i:=4) nd (aE c7 (aE cK (ae 0) ao) (ae 2)))
   (am (aA (i:=5) nd (cg ag))
   (am (qk PassesOwn.never rfl (j7 T.n_range (ae 1)) (aU (i:=6) nd rfl (Or.inl rfl)) dW (am (aA (i:=7) nd (aC ay (aE c7 (aE br (aE cK (ae 0) ao) (aE u0 ao (ae 6))) ao)))
   (aw (fj (i:=5) (aE br (aE br (dG (ae 3) gb (dR (ae 4))) (ae 7)) (dG (ae 3) (dR (aE br (ae 4) ao)) gb))))))
   (aw (lE 5))))))))
abbrev kK : Stmt:=top 38
theorem nU : FnScope ["_law_script","_law_first","_law_most","_law_cells_here","_law_number"] ["_law_script","_law_first","_law_most"] (ar kK):=by refine ⟨rfl,rfl,rfl, ?_,rfl, ?_, ?_⟩ <;> decide +kernel
theorem vv (T : Tx K w.params mg) (F : Def K "_law_cells" kK) (KX : K.In h) (G : h.Ns mainGlobals mg) (f_w_cell_at : Fn P w K mg base 1 "_law_cell_at" aT) : Fn P w K mg base 2 "_law_cells" fJ :=
 F.fn (k:=1) KX G nU (fun _ _ _ _ _ _ us hl=>match us,hl with | [_,_,_],_=>rfl) fun f cdv A outer s H E hr =>
  have hu:=bS hr
  have nd:=nU.nd
  (show JSs _ _ pz from
   (am (aA (i:=3) nd (dG (ae 0) (dR (ae 1)) (dR (aE br (ae 1) (ae 2)))))
   (am (aA (i:=4) nd (aE c7 (ak f_w_cell_at (hr.mono (by decide)) (ab (ae 0) (cL ag))) ao))
   (am (y6 1000 PassesOwn.never (kg (iV (aO (dr hu) (aE c7 (aE cK (ak f_w_cell_at (hr.mono (by decide)) (ab (ae 0) (cL ag))) ao) ao) ao) (fZ (aO sg (bF eK T.n_len eN (ab (ae 3) ag)) (ae 2))))) (am (aA (i:=4) nd (aE c7 (aE br (aE br (aE u0 (ae 4) ao) (bF eK T.n_len eN (ab (ae 3) ag))) ao) ao))
   (aw (fj (i:=3) (ae 4)))))
   (aw (lE 3))))))
abbrev nV : Stmt:=top 40
theorem pK : FnScope ["_law_cell","_law_day","_law_by","_law_office","_law_person","_law_some"] ["_law_cell","_law_day","_law_by","_law_office","_law_person"] (ar nV):=by refine ⟨rfl,rfl,rfl, ?_,rfl, ?_, ?_⟩ <;> decide +kernel
theorem xN (T : Tx K w.params mg) (F : Def K "_law_deed" nV) (KX : K.In h) (G : h.Ns mainGlobals mg)  : Fn P w K mg base 1 "_law_deed" eA :=
 F.fn (k:=0) KX G pK (fun _ _ _ _ _ _ us hl=>match us,hl with | [_,_,_,_,_],_=>rfl) fun f cdv A outer s H E hr =>
  have hu:=bS hr
  have nd:=pK.nd
  (show JSs _ _ sX from
   (am (aA (i:=5) nd (cg (ab (aW (ab ay (ab (ae 1) (ab (ae 2) (ab (ae 3) (ab (ae 4) (ab (aE br (ae 1) (aE c7 (aE cK (ae 0) ao) ao)) ag))))))) (ab (aW (ab ay (ab (ae 1) (ab (ae 2) (ab (ae 3) (ab (ae 4) ag)))))) ag))))
   (am (aA (i:=5) nd (aE br (ae 5) (cg (ab (aW (ab ay (ab (ae 1) (ab (ae 2) ag)))) (ab (aW (ab ay (ab (ae 1) (ab (ae 3) (ab (ae 4) ag))))) (ab (aW (ab ay (ab (ae 1) (ab (ae 2) ag)))) (ab (aW (ab ay (ab (ae 1) (ab (ae 2) ag)))) ag)))))))
   (am (aA (i:=5) nd (aE br (ae 5) (cg (ab (aW (ab ay (ab (ae 1) (ab (ae 4) ag)))) (ab (aW (ab ay (ab (ae 1) (ab (ae 2) (ab (aE c7 (ae 0) ao) ag))))) ag)))))
   (aw (aI (aC (hs:=Da) (ae 5) (by refine aC (hs:=?_) ?_ ?_; refine cg ?_; refine cL ?_; refine cL ?_; refine cL ?_; refine cL ?_; refine cL ?_; refine cL ?_; refine cL ?_; refine cL ?_; refine cL ?_; refine cL ?_; refine cL ?_; refine cL ?_; refine cL ?_; refine cL ?_; refine cL ?_; refine ab (aE br ao (aE c7 (aE cK (ae 0) ao) ao)) ?_; exact ag; exact (aE c7 (ae 0) ao); intro _ _; rfl))))))))
abbrev nW : Stmt:=top 41
theorem pL : FnScope ["_law_script","_law_names_here","_law_cell","_law_offices","_law_rows_here","_law_k","_law_had","_law_day","_law_office","_law_person","_law_deed_here"] ["_law_script","_law_names_here"] (ar nW):=by refine ⟨rfl,rfl,rfl, ?_,rfl, ?_, ?_⟩ <;> decide +kernel
theorem xO (T : Tx K w.params mg) (F : Def K "_law_rows" nW) (KX : K.In h) (G : h.Ns mainGlobals mg) (f_w_cell_at : Fn P w K mg base 1 "_law_cell_at" aT) (f_w_cells : Fn P w K mg base 2 "_law_cells" fJ) (f_w_deed : Fn P w K mg base 1 "_law_deed" eA) : Fn P w K mg base 3 "_law_rows" jG :=
 F.fn (k:=2) KX G pL (fun _ _ _ _ _ _ us hl=>match us,hl with | [_,_],_=>rfl) fun f cdv A outer s H E hr =>
  have hu:=bS hr
  have nd:=pL.nd
  (show JSs _ _ sY from
   (am (aA (i:=2) nd (ak f_w_cell_at (hr.mono (by decide)) (ab (ae 0) (cL ag))))
   (am (aA (i:=3) nd (dG (cg (ab ay (ab ay ag))) gb (dR (aE br ao (aE c7 (ae 2) ao)))))
   (am (aA (i:=4) nd (cg ag))
   (am (qk PassesOwn.never rfl (j7 T.n_range (bF eK T.n_len eN (ab (ae 3) ag))) (aU (i:=5) nd rfl (Or.inl rfl)) dW (aw (fj (i:=4) (aW (cL (ab (aW (ab ay (ab (aC (ae 3) (ae 5)) (cL (cL (ab (aC (cg (ab ay (ab ay (ab ay ag)))) (aE c7 (aE cK (ae 2) (aE br ao (ae 5))) ao)) ag)))))) ag))))))
   (am (aA (i:=6) nd (cg (ab (aC (ae 1) ao) ag)))
   (am (iW PassesOwn.never rfl (vM T.n_enumerate (ak f_w_cells (hr.mono (by decide)) (ab (ae 0) (cL (cL ag))))) (lL rfl (bU (aU (i:=5) nd rfl (Or.inl rfl)) (bU (aU (i:=2) nd rfl (Or.inl rfl)) js))) yJ (am (aA (i:=7) nd (aE br (aE cK (ae 5) ao) (aE c7 (aE cK (ae 2) ao) ao)))
   (am (aA (i:=8) nd (aC (aE br (ae 3) (cg (ab ay ag))) (aE cK (aE c7 (aE cK (ae 2) ao) (aE br (aE u0 ao (bF eK T.n_len eN (ab (ae 3) ag))) ao)) ao)))
   (am (aA (i:=9) nd (aC (ae 1) (aE c7 (aE cK (ae 2) ao) (bF eK T.n_len eN (ab (ae 1) ag)))))
   (am (aA (i:=10) nd (ak f_w_deed (hr.mono (by decide)) (ab (ae 2) (ab (ae 7) (ab (aC (ae 6) (aE Ea (DV Ef ao) (aE c7 (aE cK (ae 2) ao) (bF Eh T.n_min Eg (cL (ab (bF eK T.n_len eN (ab (ae 6) ag)) ag)))))) (ab (ae 8) (ab (ae 9) ag)))))))
   (am (bX (kg (lU (aO (dr hu) (ae 5) ao) (kc (aO (dr hu) (aE c7 (aE cK (ae 2) ao) ao) ao)))) (aw (aA (i:=10) nd (aW (ab ay (ab (ae 7) (ab (ae 8) (ab (ae 9) ag))))))) bM)
   (am (bX (aO B5 (aC (ae 10) ao) (aW (ab ay (ab ay ag)))) (aw (fj (i:=6) (ae 9))) bM)
   (aw (fj (i:=4) (aW (ab (ae 7) (ab (ae 10) ag))))))))))))
   (aw (aI (f7 qu T.n_tuple qo (ab (ae 4) ag)))))))))))
abbrev jr : Stmt:=top 42
theorem lx : FnScope ["_law_rows_here","_law_end","_law_found","_law_heard_on","_law_deed_here"] ["_law_rows_here","_law_end"] (ar jr):=by refine ⟨rfl,rfl,rfl, ?_,rfl, ?_, ?_⟩ <;> decide +kernel
theorem tZ (T : Tx K w.params mg) (F : Def K "_law_hidden" jr) (KX : K.In h) (G : h.Ns mainGlobals mg)  : Fn P w K mg base 1 "_law_hidden" gp :=
 F.fn (k:=0) KX G lx (fun _ _ _ _ _ _ us hl=>match us,hl with | [_,_],_=>rfl) fun f cdv A outer s H E hr =>
  have hu:=bS hr
  have nd:=lx.nd
  (show JSs _ _ mQ from
   (am (aA (i:=2) nd (cg ag))
   (am (iW PassesOwn.never rfl (c8 (ae 0)) (lL rfl (bU (aU (i:=3) nd rfl (Or.inl rfl)) (bU (aU (i:=4) nd rfl (Or.inl rfl)) js))) yJ (am (bX (kg (iV (aO (y7 hu) (aC (ae 4) ao) ay) (fZ (aO C0 (aC (ae 4) ao) (ae 1))))) (aw (aA (i:=3) nd ao)) bM)
   (aw (fj (i:=2) (aW (ab (ae 3) (ab (ae 4) ag)))))))
   (aw (aI (f7 qu T.n_tuple qo (ab (ae 2) ag)))))))
abbrev ib : Stmt:=top 43
theorem jX : FnScope ["_law_script","_law_rows_here","_law_names_here","_law_end","_law_found","_law_k","_law_cell","_law_day","_law_one"] ["_law_script","_law_rows_here","_law_names_here","_law_end"] (ar ib):=by refine ⟨rfl,rfl,rfl, ?_,rfl, ?_, ?_⟩ <;> decide +kernel
theorem r9 (T : Tx K w.params mg) (F : Def K "_law_further" ib) (KX : K.In h) (G : h.Ns mainGlobals mg) (f_w_cell_at : Fn P w K mg base 1 "_law_cell_at" aT) (f_w_deed : Fn P w K mg base 1 "_law_deed" eA) : Fn P w K mg base 2 "_law_further" eU :=
 F.fn (k:=1) KX G jX (fun _ _ _ _ _ _ us hl=>match us,hl with | [_,_,_,_],_=>rfl) fun f cdv A outer s H E hr =>
  have hu:=bS hr
  have nd:=jX.nd
  (show JSs _ _ kY from
   (am (aA (i:=4) nd (f7 CM T.n_list CC (ab (ae 1) ag)))
   (am (qk PassesOwn.never rfl (j7 T.n_range (aE c7 (ak f_w_cell_at (hr.mono (by decide)) (ab (ae 0) (cL ag))) ao)) (aU (i:=5) nd rfl (Or.inl rfl)) dW (am (aA (i:=6) nd (ak f_w_cell_at (hr.mono (by decide)) (ab (ae 0) (ab (aE br ao (ae 5)) ag))))
   (am (aA (i:=7) nd (aE br (aE br (ae 3) ao) (aE c7 (aE cK (ae 6) ao) ao)))
   (am (aA (i:=8) nd (aC (ae 2) (aE c7 (aE cK (ae 6) ao) (bF eK T.n_len eN (ab (ae 2) ag)))))
   (aw (fj (i:=4) (aW (ab (ae 7) (ab (ak f_w_deed (hr.mono (by decide)) (ab (ae 6) (ab (ae 7) (ab (ae 8) (ab ay (ab (aC (ae 2) (aE c7 (aE cK (ae 6) ao) (bF eK T.n_len eN (ab (ae 2) ag)))) ag)))))) ag)))))))))
   (aw (aI (f7 qu T.n_tuple qo (ab (ae 4) ag)))))))
abbrev nX : Stmt:=top 35
theorem pM : FnScope ["book","known","office","day","root"] ["book","known","office","day"] (ar nX):=by refine ⟨rfl,rfl,rfl, ?_,rfl, ?_, ?_⟩ <;> decide +kernel
theorem xP (T : Tx K w.params mg) (F : Def K "holder" nX) (KX : K.In h) (G : h.Ns mainGlobals mg) (f_roots : Fn P w K mg base 3 "roots" eR) (f_holder_by : Fn P w K mg base 6 "holder_by" ce) (f_claims : Fn P w K mg base 11 "claims" cr) : Fn P w K mg base 12 "holder" eB :=
 F.fn (k:=11) KX G pM (fun _ _ _ _ _ _ us hl=>match us,hl with | [_,_,_,_],_=>rfl) fun f cdv A outer s H E hr =>
  have hu:=bS hr
  have nd:=pM.nd
  (show JSs _ _ sZ from
   (am (aA (i:=4) nd (sS (hu1 hu) (ak f_roots (hr.mono (by decide)) (ab (ae 0) (ab (ae 1) ag))) (ae 2) ⟨rfl,rfl,rfl,rfl⟩))
   (am (bX (aO CB (ae 4) fY) (aw (aI (aW (ab ay ag)))) bM)
   (aw (aI (ak f_holder_by (hr.mono (by decide)) (ab (ak f_claims (hr.mono (by decide)) (ab (ae 0) (ab (ae 1) ag))) (ab (ae 4) (ab (ae 3) ag)))))))))
abbrev nY : Stmt:=top 44
theorem pN : FnScope ["_law_rows_here","_law_end","_law_last","_law_found","_law_office","_law_begun"] ["_law_rows_here","_law_end","_law_last"] (ar nY):=by refine ⟨rfl,rfl,rfl, ?_,rfl, ?_, ?_⟩ <;> decide +kernel
theorem xQ (T : Tx K w.params mg) (F : Def K "_law_told" nY) (KX : K.In h) (G : h.Ns mainGlobals mg) (f_claims : Fn P w K mg base 11 "claims" cr) (f_holder : Fn P w K mg base 12 "holder" eB) : Fn P w K mg base 13 "_law_told" fK :=
 F.fn (k:=12) KX G pN (fun _ _ _ _ _ _ us hl=>match us,hl with | [_,_,_],_=>rfl) fun f cdv A outer s H E hr =>
  have hu:=bS hr
  have nd:=pN.nd
  (show JSs _ _ tm from
   (am (aA (i:=3) nd (cg ag))
   (am (iW PassesOwn.never rfl (c8 (cg (ab ay (ab ay (ab ay ag))))) (aU (i:=4) nd rfl (Or.inr rfl)) dW (aw (aA (i:=3) nd (aE br (ae 3) (fX rfl (nT:=1) (cap:=[0,2,4]) (N':=["_law_day","_law_rows_here","_law_last","_law_office"]) (d4 (by decide +kernel) rfl (by decide +kernel) rfl) (.cons rfl rfl (Or.inl rfl) (Or.inl rfl) (bB (by decide +kernel) rfl) (.cons rfl rfl (Or.inl rfl) (Or.inl rfl) (bB (by decide +kernel) rfl) (.cons rfl rfl (Or.inl rfl) (Or.inl rfl) (bB (by decide +kernel) rfl) (.nil rfl)))) (yD T.n_range (aE br (ae 1) ao)) (fun _ _ _ _=>(aU (i:=0) (show List.Nodup (α:=Str) ["_law_day","_law_rows_here","_law_last","_law_office"] by decide +kernel) rfl (Or.inl rfl))) (c6 (by decide)) (fun _ _ _ _=>qh) (fun _ _ _ _=>(ak f_holder (hr.mono (by decide)) (ab (ae 1) (ab (ae 2) (ab (ae 3) (ab (ae 0) ag)))))))))))
   (am (ij (i:=5) rfl nd rfl rfl rfl (nT:=1) (cap:=[1]) (N':=["_law_one","_law_end"]) (d4 (by decide +kernel) rfl (by decide +kernel) rfl) (.cons rfl rfl (Or.inl rfl) (Or.inl rfl) (bB (by decide +kernel) rfl) (.nil rfl)) (c8 (ak f_claims (hr.mono (by decide)) (ab (ae 0) (ab (ae 2) ag)))) (fun _ _ _ _=>(aU (i:=0) (show List.Nodup (α:=Str) ["_law_one","_law_end"] by decide +kernel) rfl (Or.inl rfl))) (c6 (by decide)) (fun _ _ _ _=>(fW (aO lW (aC (ae 0) ao) (ae 1)))) (fun _ _ _ _=>(aW (ab (aC (ae 0) ao) (ab (aC (ae 0) ao) (ab (aC (ae 0) ao) (ab (aC (ae 0) ao) ag)))))))
   (aw (aI (aW (ab (ae 3) (ab (ae 5) ag)))))))))
abbrev nZ : Stmt:=top 45
theorem pO : FnScope ["_law_rows_here","_law_told_here","_law_offices","_law_office","_law_person","_law_since","_law_until","_law_number","_law_deed_here","_law_right"] ["_law_rows_here","_law_told_here"] (ar nZ):=by refine ⟨rfl,rfl,rfl, ?_,rfl, ?_, ?_⟩ <;> decide +kernel
theorem xR (T : Tx K w.params mg) (F : Def K "_law_well" nZ) (KX : K.In h) (G : h.Ns mainGlobals mg)  : Fn P w K mg base 1 "_law_well" fL :=
 F.fn (k:=0) KX G pO (fun _ _ _ _ _ _ us hl=>match us,hl with | [_,_],_=>rfl) fun f cdv A outer s H E hr =>
  have hu:=bS hr
  have nd:=pO.nd
  (show JSs _ _ tp from
   (am (ij (i:=2) rfl nd rfl rfl rfl (nT:=2) (cap:=[]) (N':=["_law_heard_on","_law_deed_here"]) (d4 (by decide +kernel) rfl (by decide +kernel) rfl) (.nil rfl) (c8 (ae 0)) (fun _ _ _ _=>(lL rfl (bU (aU (i:=0) (show List.Nodup (α:=Str) ["_law_heard_on","_law_deed_here"] by decide +kernel) rfl (Or.inl rfl)) (bU (aU (i:=1) (show List.Nodup (α:=Str) ["_law_heard_on","_law_deed_here"] by decide +kernel) rfl (Or.inl rfl)) js)))) (B7 (by decide)) (fun _ _ _ _=>(fW (aO (dr hu) (aC (ae 1) ao) ay))) (fun _ _ _ _=>(aC (ae 1) ao)))
   (am (iW PassesOwn.never rfl (c8 (ae 1)) (lL rfl (bU (aU (i:=3) nd rfl (Or.inl rfl)) (bU (aU (i:=4) nd rfl (Or.inl rfl)) (bU (aU (i:=5) nd rfl (Or.inl rfl)) (bU (aU (i:=6) nd rfl (Or.inl rfl)) (bU (aU (i:=7) nd rfl (Or.inl rfl)) js)))))) yJ (am (aA (i:=8) nd (aC (aC (ae 0) (ae 7)) ao))
   (am (bX (kg (lU (aO j6 (ae 3) (ae 2)) (kc (kg (iV (aO qm (ae 6) fY) (fZ (aO lW (ae 6) (ae 5)))))))) (aw (aI j4)) bM)
   (am (bX (aO (dr hu) (aC (ae 8) ao) ay) (aw (aA (i:=9) nd (cR (dr hu) (ae 8) (aW (ab ay (ab (ae 5) (ab (ae 3) (ab (ae 4) ag)))))))) (aw (bX (aO (dr hu) (aC (ae 8) ao) ay) (aw (aA (i:=9) nd (cR (dr hu) (dG (ae 8) (dR ao) gb) (aW (ab (ae 3) (ab (ae 4) (ab (ae 5) ag))))))) (aw (aA (i:=9) nd (gD (cR (dr hu) (dG (ae 8) gb (dR ao)) (aW (ab ay (ab (ae 5) ag)))) (gE (cR (y7 hu) (aC (ae 8) ao) (ae 4)))))))))
   (aw (bX (qi (gC (ae 9))) (aw (aI j4)) bM))))))
   (aw (aI j4)))))
abbrev ua : Stmt:=top 46
theorem zG : FnScope ["_law_script","_law_names_here","_law_rows_here","_law_end","_law_further_here","_law_due"] ["_law_script"] (ar ua):=by refine ⟨rfl,rfl,rfl, ?_,rfl, ?_, ?_⟩ <;> decide +kernel
theorem Db {P : Program} {w : World} {K : PySem.W.Frag} {mg : Str->Option Value} {base : Heap} (T : Tx K w.params mg) (f_claims : Fn P w K mg base 11 "claims" cr) (f_w_cell_at : Fn P w K mg base 1 "_law_cell_at" aT) (f_w_names : Fn P w K mg base 1 "_law_names" iB) (f_w_rows : Fn P w K mg base 3 "_law_rows" jG) (f_w_hidden : Fn P w K mg base 1 "_law_hidden" gp) (f_w_further : Fn P w K mg base 2 "_law_further" eU) (f_w_told : Fn P w K mg base 13 "_law_told" fK) (f_w_well : Fn P w K mg base 1 "_law_well" fL) (f : Addr) (cdv : Value) (A : Around) (outer : List PySem.Env) (s : Shared) (H : Hp) (E : XK) (hr : Room 13 (A.deeper (envOfC "law" (ar ua) s.heap.objs.size f cdv))) : JSs (lN CX0 P w K mg base ["_law_script","_law_names_here","_law_rows_here","_law_end","_law_further_here","_law_due"] "law" (ar ua) f cdv A outer s H E).nox (cx ua) zr :=
  have hu:=bS hr
  have nd:=zG.nd
  (show JSs _ _ zr from
   (am (aA (i:=1) nd (ak f_w_names (hr.mono (by decide)) (ab (ak f_w_cell_at (hr.mono (by decide)) (ab (ae 0) (cL ag))) (ab (aE br ao (aE c7 (ak f_w_cell_at (hr.mono (by decide)) (ab (ae 0) (cL ag))) ao)) ag))))
   (am (aA (i:=2) nd (ak f_w_rows (hr.mono (by decide)) (ab (ae 0) (ab (ae 1) ag))))
   (am (aA (i:=3) nd (aE c7 (ak f_w_cell_at (hr.mono (by decide)) (ab (ae 0) (cL ag))) ao))
   (am (aA (i:=4) nd (ak f_w_further (hr.mono (by decide)) (ab (ae 0) (ab (ae 2) (ab (ae 1) (ab (ae 3) ag))))))
   (am (aA (i:=5) nd (ak f_w_told (hr.mono (by decide)) (ab (ae 2) (ab (ae 3) (cL ag)))))
   (am (bX (kg (lU (aO (y7 hu) (ak f_w_told (hr.mono (by decide)) (ab (ak f_w_hidden (hr.mono (by decide)) (ab (ae 2) (ab (ae 3) ag))) (ab (ae 3) (cL ag)))) (ae 5)) (kc (aO (y7 hu) (ak f_w_told (hr.mono (by decide)) (ab (ae 4) (ab (ae 3) (cL ag)))) (ae 5))))) (aw (aI j4)) bM)
   (aw (aI (gD (ak f_w_well (hr.mono (by decide)) (ab (ae 2) (ab (ak f_claims (hr.mono (by decide)) (ab (ae 2) (cL ag))) ag))) (gE (ak f_w_well (hr.mono (by decide)) (ab (ae 4) (ab (ak f_claims (hr.mono (by decide)) (ab (ae 4) (cL ag))) ag))))))))))))))
end
theorem head {P : Program} {w : World} {K : PySem.W.Frag} {h : Heap} {mg : Str->Option Value} {fa : Addr} (X : K.In h) (G : h.Ns mainGlobals mg) (hfa : mg "law" = some (.ref fa))
  (d_word_of : Def K "word_of" kF) (d_part_of : Def K "part_of" kG) (d_day_of : Def K "day_of" nL) (d_heard : Def K "heard" rg) (d_rank : Def K "rank" vn) (d_in_order : Def K "in_order" jk) (d_by_office : Def K "by_office" hU) (d_roots : Def K "roots" ri) (d_is_known : Def K "is_known" jl) (d_tells : Def K "tells" rj) (d_told_of : Def K "told_of" kH) (d_lives : Def K "lives" rm) (d_has_seal : Def K "has_seal" jm) (d_is_sound : Def K "is_sound" jn) (d_lies_in : Def K "lies_in" kI) (d_is_alive : Def K "is_alive" jo) (d_by_since : Def K "by_since" jp) (d_chief_of : Def K "chief_of" jq) (d_holder_by : Def K "holder_by" hV) (d_is_held_by : Def K "is_held_by" gt) (d_is_first_death : Def K "is_first_death" dA) (d_counts : Def K "counts" nO) (d_new_claim : Def K "new_claim" hW) (d_ended : Def K "ended" rz) (d_after_choice : Def K "after_choice" eD) (d_inherited : Def K "inherited" hX) (d_after_death : Def K "after_death" fw) (d_claims : Def K "claims" nR) (d_w_cell_at : Def K "_law_cell_at" ia) (d_w_names : Def K "_law_names" kJ) (d_w_cells : Def K "_law_cells" kK) (d_w_deed : Def K "_law_deed" nV) (d_w_rows : Def K "_law_rows" nW) (d_w_hidden : Def K "_law_hidden" jr) (d_w_further : Def K "_law_further" ib) (d_holder : Def K "holder" nX) (d_w_told : Def K "_law_told" nY) (d_w_well : Def K "_law_well" nZ) (d_law : Def K "law" ua)
  (z_dict : PySem.W.nsIn K mainGlobals "dict" = some none) (z_enumerate : PySem.W.nsIn K mainGlobals "enumerate" = some none) (z_len : PySem.W.nsIn K mainGlobals "len" = some none) (z_list : PySem.W.nsIn K mainGlobals "list" = some none) (z_max : PySem.W.nsIn K mainGlobals "max" = some none) (z_min : PySem.W.nsIn K mainGlobals "min" = some none) (z_range : PySem.W.nsIn K mainGlobals "range" = some none) (z_set : PySem.W.nsIn K mainGlobals "set" = some none) (z_sorted : PySem.W.nsIn K mainGlobals "sorted" = some none) (z_tuple : PySem.W.nsIn K mainGlobals "tuple" = some none)
  (k_PARTS : ∃ d,PySem.W.nsIn K mainGlobals "PARTS" = some (some (.ref d))/\oN K w.params d eQ) (k_SEALINGS : ∃ u v,PySem.W.nsIn K mainGlobals "SEALINGS" = some (some u)/\aN v u/\∀ B,Is K B v d6)
  (l_in_order : qE K "in_order") (l_has_seal : qE K "has_seal") (l_is_first_death : qE K "is_first_death") :
  ∃ fd : FuncData,(∀ (s : Shared) (u : Value),BindsTo s fd ⟨[u],[]⟩ [("_law_script",u)])/\∀ base : Heap,K.In base->base.Ns mainGlobals mg->FnOk P w K mg base CX0 14 fa fd ["_law_script"] (spD K F_law):=by
 have T : Tx K w.params mg:=⟨PySem.W.mg_none_of X G z_dict,PySem.W.mg_none_of X G z_enumerate,PySem.W.mg_none_of X G z_len,PySem.W.mg_none_of X G z_list,PySem.W.mg_none_of X G z_max,PySem.W.mg_none_of X G z_min,PySem.W.mg_none_of X G z_range,PySem.W.mg_none_of X G z_set,PySem.W.mg_none_of X G z_sorted,PySem.W.mg_none_of X G z_tuple,(let ⟨d,e,r⟩:=k_PARTS; ⟨d,PySem.W.mg_of X G e,r⟩),(let ⟨u,v,e,r⟩:=k_SEALINGS; ⟨u,v,PySem.W.mg_of X G e,r⟩)⟩
 refine Def.law d_law X G hfa zG (fun _ _ _ _ _ _ u=>rfl) fun base kb nb=>?_
 have f_word_of:=vj (P:=P) (w:=w) (base:=base) T d_word_of X G 
 have f_part_of:=vk (P:=P) (w:=w) (base:=base) T d_part_of X G f_word_of
 have f_day_of:=xK (P:=P) (w:=w) (base:=base) T d_day_of X G f_word_of f_part_of
 have f_heard:=zB (P:=P) (w:=w) (base:=base) T d_heard X G 
 have f_rank:=AX (P:=P) (w:=w) (base:=base) T d_rank X G f_day_of
 have f_in_order:=tO (P:=P) (w:=w) (base:=base) T d_in_order X G f_day_of f_heard f_rank l_in_order
 have f_by_office:=rh (P:=P) (w:=w) (base:=base) T d_by_office X G 
 have f_roots:=zC (P:=P) (w:=w) (base:=base) T d_roots X G f_word_of f_part_of f_heard
 have f_is_known:=tQ (P:=P) (w:=w) (base:=base) T d_is_known X G 
 have f_tells:=zD (P:=P) (w:=w) (base:=base) T d_tells X G f_word_of f_part_of f_day_of
 have f_told_of:=vp (P:=P) (w:=w) (base:=base) T d_told_of X G f_heard f_tells
 have f_lives:=zE (P:=P) (w:=w) (base:=base) T d_lives X G f_told_of
 have f_has_seal:=tT (P:=P) (w:=w) (base:=base) T d_has_seal X G f_word_of f_rank f_told_of l_has_seal
 have f_is_sound:=tU (P:=P) (w:=w) (base:=base) T d_is_sound X G f_word_of f_part_of f_day_of f_is_known f_lives f_has_seal
 have f_lies_in:=vq (P:=P) (w:=w) (base:=base) T d_lies_in X G 
 have f_is_alive:=tV (P:=P) (w:=w) (base:=base) T d_is_alive X G f_lies_in
 have f_by_since:=tW (P:=P) (w:=w) (base:=base) T d_by_since X G 
 have f_chief_of:=tX (P:=P) (w:=w) (base:=base) T d_chief_of X G f_by_since
 have f_holder_by:=ro (P:=P) (w:=w) (base:=base) T d_holder_by X G f_part_of f_is_alive f_by_since f_chief_of
 have f_is_held_by:=o3 (P:=P) (w:=w) (base:=base) T d_is_held_by X G f_holder_by
 have f_is_first_death:=jT (P:=P) (w:=w) (base:=base) T d_is_first_death X G f_part_of f_day_of f_rank f_told_of l_is_first_death
 have f_counts:=xL (P:=P) (w:=w) (base:=base) T d_counts X G f_word_of f_part_of f_day_of f_roots f_is_sound f_is_held_by f_is_first_death
 have f_new_claim:=rq (P:=P) (w:=w) (base:=base) T d_new_claim X G f_part_of
 have f_ended:=zF (P:=P) (w:=w) (base:=base) T d_ended X G f_is_alive
 have f_after_choice:=lC (P:=P) (w:=w) (base:=base) T d_after_choice X G f_part_of f_new_claim f_ended
 have f_inherited:=r0 (P:=P) (w:=w) (base:=base) T d_inherited X G f_part_of f_day_of f_lives f_is_alive
 have f_after_death:=nQ (P:=P) (w:=w) (base:=base) T d_after_death X G f_part_of f_day_of f_ended f_inherited
 have f_claims:=xM (P:=P) (w:=w) (base:=base) T d_claims X G f_word_of f_part_of f_day_of f_in_order f_by_office f_counts f_new_claim f_after_choice f_after_death
 have f_w_cell_at:=r6 (P:=P) (w:=w) (base:=base) T d_w_cell_at X G 
 have f_w_names:=vt (P:=P) (w:=w) (base:=base) T d_w_names X G 
 have f_w_cells:=vv (P:=P) (w:=w) (base:=base) T d_w_cells X G f_w_cell_at
 have f_w_deed:=xN (P:=P) (w:=w) (base:=base) T d_w_deed X G 
 have f_w_rows:=xO (P:=P) (w:=w) (base:=base) T d_w_rows X G f_w_cell_at f_w_cells f_w_deed
 have f_w_hidden:=tZ (P:=P) (w:=w) (base:=base) T d_w_hidden X G 
 have f_w_further:=r9 (P:=P) (w:=w) (base:=base) T d_w_further X G f_w_cell_at f_w_deed
 have f_holder:=xP (P:=P) (w:=w) (base:=base) T d_holder X G f_roots f_holder_by f_claims
 have f_w_told:=xQ (P:=P) (w:=w) (base:=base) T d_w_told X G f_claims f_holder
 have f_w_well:=xR (P:=P) (w:=w) (base:=base) T d_w_well X G 
 exact Db T f_claims f_w_cell_at f_w_names f_w_rows f_w_hidden f_w_further f_w_told f_w_well
end Lw
namespace PySem.W.Fast
def tw5026210312770049775:=()
def tw17261525547809282220:=()
def tw6925121064774140522:=()
def tw6019168344879033129:=()
def tw4851266601813041751:=()
def tw12794017533645449255:=()
def tw5897204393497832874:=()
def tw6747433880221955490:=()
def tw11742363822657498438:=()
def tw8966306598921670736:=()
def tw6774446251590915417:=()
def tw4691064473744807612:=()
def tw11893092613607297914:=()
def tw16148303422084223662:=()
def tw121857949610428380:=()
def tw5875896751004392940:=()
def tw10508449363735213425:=()
def tw218971807077250009:=()
def tw1171896809999850961:=()
def tw8852693363181643645:=()
def tw1382460871910980570:=()
def tw1899442352282859043:=()
def tw2230762217403207332:=()
def tw5975159069113646201:=()
def tw6454200859405084038:=()
def tw7864555814215846746:=()
def tw9084363384468066685:=()
def tw6400732792506055430:=()
def tw8127441559280599490:=()
def tw15720144681812536719:=()
def tw14538210606777582466:=()
def tw14910201129988012816:=()
def tw14787164138274549852:=()
def tw7038177253240670894:=()
def tw3070505891494631515:=()
def tw16586269380511633239:=()
def tw14696250441495031881:=()
def tw8381112693441215576:=()
def tw18370081998229938670:=()
def tw7082856273803716202:=()
def tw3644884599920913657:=()
def tw17115059529765320210:=()
def tw6308220816383268203:=()
def tw359940360156109234:=()
def tw8805553720585874055:=()
def tw16814858576111616825:=()
def tw96801900064141128:=()
def tw8016727455785189970:=()
def tw17264994744335030475:=()
def tw9717326893051078242:=()
def tw1773474056013428590:=()
def tw6133647163111885017:=()
def tw2741473026890049664:=()
def tw11895319694078336139:=()
def tw2961938240657095777:=()
def tw6624510384802620927:=()
def tw6892358086958779706:=()
def tw493045288194166382:=()
def tw1563175808718550304:=()
def tw2429285501535324685:=()
def tw1077013338423842163:=()
def tw1756222422170180864:=()
def tw2286232891881245343:=()
def tw6978989277058815912:=()
def tw15210285211194431310:=()
def tw16420664235933234507:=()
def tw8073546581307053050:=()
def tw11103207295895488846:=()
def tw15771144607661373591:=()
def tw15538487458443736675:=()
def tw15364536331316020053:=()
def tw5613021792827470853:=()
def tw10318780660779497436:=()
def tw16122265625831308247:=()
def tw3751074423726205039:=()
def tw3097154514785150980:=()
def tw5058125696124748411:=()
def tw13686941333775974699:=()
def tw9579363558850420469:=()
def tw1480886121866525412:=()
def tw12652985606395899484:=()
def tw17912783074366352052:=()
end PySem.W.Fast
open PySem PySem.W PyProof.Rows
set_option maxRecDepth 100000 in
set_option maxHeartbeats 0 in
theorem PySem.Challenge.cw_sealchain_k23_whole_later_deeds_change_n_holds : PySem.Challenge.rw_sealchain_k23_whole_later_deeds_change_n.Holds := by
 w_on; o_law; k_head; (case hw => w_witness2)
 k_fill
 refine' DL.walkD (l := PySem.Challenge.rw_sealchain_k23_whole_later_deeds_change_n) (k := 14) (x := ("_law_script" : PySem.Str)) (f := Lw.F_law) (L := [(("in_order" : PySem.Str), ?t0), (("has_seal" : PySem.Str), ?t1), (("is_first_death" : PySem.Str), ?t2), (("bases_by" : PySem.Str), ?t3)]) rfl rfl ⟨rfl, by decide, by decide⟩ (fun w h Y => PySem.W.km_in_of Y) ?T ?D ?F Lw.law_true
 case T =>
  intro w
  refine' DL.tabs_fit ?h0 ?h1 ?h2 ?h3 ?ap ?nt
  (case h0 => refine' DL.tab_yes ?a ?l ?c ?m ?v; (case a => k_is); (case l => k_is); (case c => exact rfl); (case m => k_is); (case v => exact rfl))
  (case h1 => refine' DL.tab_yes ?a ?l ?c ?m ?v; (case a => k_is); (case l => k_is); (case c => exact rfl); (case m => k_is); (case v => exact rfl))
  (case h2 => refine' DL.tab_yes ?a ?l ?c ?m ?v; (case a => k_is); (case l => k_is); (case c => exact rfl); (case m => k_is); (case v => exact rfl))
  (case h3 => refine' DL.tab_no ?a; (case a => k_is))
  (case ap => decide)
  (case nt => kernel_rfl)
 case D => kernel_rfl
 case F =>
  intro w mg fa h KX G hmg
  refine' Lw.head KX G hmg ?d0 ?d1 ?d2 ?d3 ?d4 ?d5 ?d6 ?d7 ?d8 ?d9 ?d10 ?d11 ?d12 ?d13 ?d14 ?d15 ?d16 ?d17 ?d18 ?d19 ?d20 ?d21 ?d22 ?d23 ?d24 ?d25 ?d26 ?d27 ?d28 ?d29 ?d30 ?d31 ?d32 ?d33 ?d34 ?d35 ?d36 ?d37 ?d38 ?z0 ?z1 ?z2 ?z3 ?z4 ?z5 ?z6 ?z7 ?z8 ?z9 ?k0 ?k1 ?q0 ?q1 ?q2
  iterate 39 (refine' DL.def_mk ?a ?l ?c ?k; (case a => k_is); (case l => k_is); (case c => k_is); (case k => k_is))
  (case z0 => k_is)
  (case z1 => k_is)
  (case z2 => k_is)
  (case z3 => k_is)
  (case z4 => k_is)
  (case z5 => k_is)
  (case z6 => k_is)
  (case z7 => k_is)
  (case z8 => k_is)
  (case z9 => k_is)
  (case k0 => refine' DL.const_dict ?e ?l ?r ?s; (case e => k_is); (case l => k_is); (case r => refine' (DL.CRows.tup rfl ?l0 ?f0 (DL.CRows.tup rfl ?l1 ?f1 (DL.CRows.tup rfl ?l2 ?f2 (DL.CRows.tup rfl ?l3 ?f3 (DL.CRows.tup rfl ?l4 ?f4 (DL.CRows.tup rfl ?l5 ?f5 (DL.CRows.tup rfl ?l6 ?f6 (DL.CRows.tup rfl ?l7 ?f7 (DL.CRows.tup rfl ?l8 ?f8 (DL.CRows.tup rfl ?l9 ?f9 (DL.CRows.tup rfl ?l10 ?f10 (DL.CRows.tup rfl ?l11 ?f11 DL.CRows.nil)))))))))))); (case l0 => k_is); (case f0 => decide +kernel); (case l1 => k_is); (case f1 => decide +kernel); (case l2 => k_is); (case f2 => decide +kernel); (case l3 => k_is); (case f3 => decide +kernel); (case l4 => k_is); (case f4 => decide +kernel); (case l5 => k_is); (case f5 => decide +kernel); (case l6 => k_is); (case f6 => decide +kernel); (case l7 => k_is); (case f7 => decide +kernel); (case l8 => k_is); (case f8 => decide +kernel); (case l9 => k_is); (case f9 => decide +kernel); (case l10 => k_is); (case f10 => decide +kernel); (case l11 => k_is); (case f11 => decide +kernel)); (case s => decide +kernel))
  (case k1 => refine' DL.const_tup ?e ?l ?v; (case e => k_is); (case l => k_is); (case v => decide +kernel))
  (case q0 => refine' DL.lam_mk ?a ?l ?c ?m ?v1 ?v2 ?v3 ?v4 ?v5 ?v6 ?v7; (case a => k_is); (case l => k_is); (case c => exact rfl); (case m => k_is); (case v1 => exact rfl); (case v2 => exact rfl); (case v3 => exact rfl); (case v4 => exact rfl); (case v5 => exact rfl); (case v6 => exact rfl); (case v7 => decide))
  (case q1 => refine' DL.lam_mk ?a ?l ?c ?m ?v1 ?v2 ?v3 ?v4 ?v5 ?v6 ?v7; (case a => k_is); (case l => k_is); (case c => exact rfl); (case m => k_is); (case v1 => exact rfl); (case v2 => exact rfl); (case v3 => exact rfl); (case v4 => exact rfl); (case v5 => exact rfl); (case v6 => exact rfl); (case v7 => decide))
  (case q2 => refine' DL.lam_mk ?a ?l ?c ?m ?v1 ?v2 ?v3 ?v4 ?v5 ?v6 ?v7; (case a => k_is); (case l => k_is); (case c => exact rfl); (case m => k_is); (case v1 => exact rfl); (case v2 => exact rfl); (case v3 => exact rfl); (case v4 => exact rfl); (case v5 => exact rfl); (case v6 => exact rfl); (case v7 => decide))

