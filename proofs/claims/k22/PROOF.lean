import PyProof.Rows.All
import Wide.All
import OpenK.AllK
import Wide.FinOn
import Lean
import PyProof.EqAt
import PyProof.EqKinds
import PyProof.TupleCall
import PyProof.AttrMissHeap
import PySem.Challenge.RW_sealchain_k22_whole_three_rules
set_option Elab.async false
set_option linter.all false
set_option maxRecDepth 100000
set_option maxHeartbeats 40000000
theorem mY {α : Type _} {a : α} (l : List α) {k : List α} (h : a ∈ k) : a ∈ l ++ k:=List.mem_append_right l h
theorem mZ {α : Type _} (b : α) {a : α} {l : List α} (h : a ∈ l) : a ∈ b :: l:=List.mem_cons_of_mem b h
theorem mX {α : Type _} {a : α} {l : List α} : a ∈ a :: l:=List.mem_cons_self
theorem oX {α β : Type _} {o : Option α} {f : α->Option β} {b : β} (h : o.bind f = some b) : ∃ a,o = some a/\f a = some b:=Option.bind_eq_some_iff.mp h
theorem oY {α β : Type _} {f : α->β} {o : Option α} {b : β} (h : o.map f = some b) : ∃ a,o = some a/\f a = b:=Option.map_eq_some_iff.mp h
def wX:=@PySem.wpAny_bind
def wY:=@PySem.wpAny_pure
namespace L2
open PySem PySem.Spec PyProof.Rows
abbrev Key:=Sum Int Str
def nJ : Key->Value->Bool
 | .inl k,v=>Value.isInt k v
 | .inr x,v=>Value.isStrOf x v
def Eo (w : World) : Key->Int
 | .inl k=>hashInt k
 | .inr x=>hashStr w x
theorem bE : ∀ {k : Key} {v : Value},nJ k v = true->(∃ i t,k = Sum.inl i/\v = Value.int i t) ∨ (∃ x t,k = Sum.inr x/\v = Value.str x t)
 | .inl i,v,h=>by
  obtain ⟨t,e⟩:=Value.isInt_shape (k:=i) (v:=v) h
  exact .inl ⟨i,t,rfl,e⟩
 | .inr x,v,h=>by
  obtain ⟨t,e⟩:=Value.isStrOf_shape (x:=x) (v:=v) h
  exact .inr ⟨x,t,rfl,e⟩
theorem wc (i : Int) (t : Tok) : nJ (.inl i) (.int i t) = true:=by simp [nJ,Value.isInt]
theorem wd (x : Str) (t : Tok) : nJ (.inr x) (.str x t) = true:=by simp [nJ,Value.isStrOf]
theorem B5 (a b : Int) : decide ((Sum.inl a : Key) = Sum.inl b) = (a == b):=by
 by_cases e : a = b
 ·subst e; simp
 ·have h : ¬ (Sum.inl a : Key) = Sum.inl b:=fun q=>e (Sum.inl.inj q)
  rw [decide_eq_false h]
  exact (beq_eq_false_iff_ne.mpr e).symm
theorem B6 (a b : Str) : decide ((Sum.inr a : Key) = Sum.inr b) = decide (a = b):=by
 by_cases e : a = b
 ·subst e; simp
 ·have h : ¬ (Sum.inr a : Key) = Sum.inr b:=fun q=>e (Sum.inr.inj q)
  rw [decide_eq_false h,decide_eq_false e]
theorem B7 (a : Int) (b : Str) : decide ((Sum.inl a : Key) = Sum.inr b) = false:=decide_eq_false (fun q=>nomatch q)
theorem B8 (a : Str) (b : Int) : decide ((Sum.inr a : Key) = Sum.inl b) = false:=decide_eq_false (fun q=>nomatch q)
def bY (prog : Program) (w : World) : PySem.KeyKind prog w Key where
 is:=nJ
 hash:=Eo w
 inj:=fun v a b ha hb=>by
  rcases bE ha with ⟨i,t,rfl,rfl⟩ | ⟨x,t,rfl,rfl⟩
  ·rcases bE hb with ⟨j,u,rfl,e⟩ | ⟨y,u,rfl,e⟩
   ·injection e with e1 _; rw [e1]
   ·exact nomatch e
  ·rcases bE hb with ⟨j,u,rfl,e⟩ | ⟨y,u,rfl,e⟩
   ·exact nomatch e
   ·injection e with e1 _; rw [e1]
 byValue:=fun k v h=>by
  rcases bE h with ⟨i,t,rfl,rfl⟩ | ⟨x,t,rfl,rfl⟩ <;> rfl
 pyHash:=fun hv h=>by
  rcases bE hv with ⟨i,t,rfl,rfl⟩ | ⟨x,t,rfl,rfl⟩
  ·exact wpAny_pyHash_int h
  ·exact wpAny_pyHash_str h
 eqBool:=fun hu hv h=>by
  rcases bE hu with ⟨i,t,rfl,rfl⟩ | ⟨x,t,rfl,rfl⟩
  ·rcases bE hv with ⟨j,u,rfl,rfl⟩ | ⟨y,u,rfl,rfl⟩
   ·rw [B5] at h; exact wpAny_eqBool_int h
   ·rw [B7] at h; exact SeqAt.EqAt.int_str i t y u _ _ _ _ h
  ·rcases bE hv with ⟨j,u,rfl,rfl⟩ | ⟨y,u,rfl,rfl⟩
   ·rw [B8] at h; exact SeqAt.EqAt.str_int x t j u _ _ _ _ h
   ·rw [B6] at h; exact wpAny_eqBool_str h
 «strs»:=fun k x t v h=>by
  rcases bE h with ⟨i,u,rfl,e⟩ | ⟨y,u,rfl,e⟩
  ·exact nomatch e
  ·injection e with e1 _
   subst e1
   cases v <;> rfl
theorem qH (prog : Program) (w : World) (i : Int) (t : Tok) : (bY prog w).is (.inl i) (.int i t) = true:=wc i t
theorem qI (prog : Program) (w : World) (x : Str) (t : Tok) : (bY prog w).is (.inr x) (.str x t) = true:=wd x t
inductive V where
 | non | bl (b : Bool) | int (i : Int) | str (x : Str) | byt (b : Array UInt8) | flt (b : UInt64) | ref (a : Addr) | ty (n : String)
 deriving DecidableEq
def aN : V->Value->Prop
 | .non,u=>u = Value.none
 | .bl b,u=>u = Value.bool b
 | .int i,u=>∃ t,u = Value.int i t
 | .str x,u=>∃ t,u = Value.str x t
 | .byt b,u=>∃ t,u = Value.bytes b t
 | .flt b,u=>∃ t,u = Value.float b t
 | .ref a,u=>u = Value.ref a
 | .ty n,u=>u = Value.type n
abbrev aK : List V->List Value->Prop:=Paired aN
theorem aK.length {xs : List V} {us : List Value} (r : aK xs us) : xs.length = us.length:=Paired.length r
theorem aK.get : ∀ {xs : List V} {us : List Value} {i : Nat} {x : V},aK xs us->xs[i]? = some x->∃ u,us[i]? = some u/\aN x u
 | _,_,_,_,.nil,e=>by simp at e
 | _,_,0,_,.cons r _,e=>by simp at e; subst e; exact ⟨_,rfl,r⟩
 | _,_,i + 1,x,.cons _ t,e=>by
  obtain ⟨u,h1,h2⟩:=aK.get (i:=i) (x:=x) t (by simpa using e)
  exact ⟨u,by simpa using h1,h2⟩
theorem aK.set {x : V} {u : Value} (r : aN x u) : ∀ {xs : List V} {us : List Value} (i : Nat),aK xs us->aK (xs.set i x) (us.set i u)
 | _,_,_,.nil=>.nil
 | _,_,0,.cons _ t=>.cons r t
 | _,_,i + 1,.cons q t=>.cons q (aK.set r i t)
theorem aK.append : ∀ {xs ys : List V} {us ws : List Value},aK xs us->aK ys ws->aK (xs ++ ys) (us ++ ws)
 | _,_,_,_,.nil,s=>s
 | _,_,_,_,.cons r t,s=>.cons r (aK.append t s)
theorem aK.take : ∀ {xs : List V} {us : List Value} (n : Nat),aK xs us->aK (xs.take n) (us.take n)
 | _,_,0,_=>.nil
 | _,_,_ + 1,.nil=>.nil
 | _,_,n + 1,.cons r t=>.cons r (aK.take n t)
theorem aK.drop : ∀ {xs : List V} {us : List Value} (n : Nat),aK xs us->aK (xs.drop n) (us.drop n)
 | _,_,0,r=>r
 | _,_,_ + 1,.nil=>.nil
 | _,_,n + 1,.cons _ t=>aK.drop n t
theorem aK.none_of : ∀ {xs : List V} {us : List Value} {i : Nat},aK xs us->xs[i]? = none->us[i]? = none:=fun {xs us i} r e=>by
 have h1:=r.length
 have h2 : xs.length<=i:=List.getElem?_eq_none_iff.mp e
 exact List.getElem?_eq_none_iff.mpr (by omega)
def lb : Option V->Option Value->Prop
 | some v,some u=>aN v u
 | none,none=>True
 | _,_=>False
def KV {κ : Type} : List (κ × V)->List (κ × Value)->Prop:=Paired fun (p : κ × V) (q : κ × Value)=>p.1 = q.1/\aN p.2 q.2
def kV : Key->V
 | .inl i=>.int i
 | .inr x=>.str x
inductive HO where
  | lst (xs : List V)
  | tup (xs : List V)
  | dK (kvs : List (Key × V)) | dT (kvs : List (List Key × V))
  | set (S : Int->Bool) (n : Nat)
  | ins (C dx : Addr) (fs : List (Str × V))
  | own (x : Addr)
  | xd (fs : List (Str × V))
  | met (f x : Addr)
  | rng (lo hi : Int)
  | frz (o : Obj) (u : HO)
  | tbl (q : Str)
  | ext (φ : Heap->Prop)
abbrev Hp:=Addr->Option HO
def upd (H : Hp) (a : Addr) (o : HO) : Hp:=fun b=>if b = a then some o else H b
theorem ax {H : Hp} {a : Addr} {o : HO} : upd H a o a = some o:=by unfold upd; rw [if_pos rfl]
theorem a9 {H : Hp} {a b : Addr} {o : HO} (h : b ≠ a) : upd H a o b = H b:=by unfold upd; rw [if_neg h]
theorem zx {H : Hp} {a : Addr} {o u : HO} : upd (upd H a o) a u = upd H a u:=by
 funext b; unfold upd; split <;> rfl
theorem Dh {H : Hp} {a b : Addr} {o u : HO} (h : H a = some o) (h' : H b = some u) (d : o ≠ u) : a ≠ b:=by
 intro e; subst e; rw [h] at h'; exact d (Option.some.inj h')
theorem aG {H : Hp} {a b : Addr} {o : HO} (h : H a = some o) (h' : H b = none) : a ≠ b:=by
 intro e; subst e; rw [h] at h'; cases h'
section
variable (P : Program) (w : World)
def b9 (H : Hp) (h : Heap) (a : Addr) : HO->Prop
 | .lst xs=>xs.length<=sizeLine/\∃ (its : List Value) (n : Nat),aK xs its/\h.get? a = some { cls:=.type "list",data:=.seq its.toArray n }
 | .tup xs=>xs.length<=sizeLine/\∃ its : List Value,aK xs its/\IsTup h a its.toArray
 | .dK kvs=>kvs.length<=sizeLine/\(a == sysModules) = false/\∃ vs,KV kvs vs/\h.DictOf (bY P w) a vs
 | .dT kvs=>kvs.length<=sizeLine/\(a == sysModules) = false/\∃ xs : List (List Key × Addr × Value),
   Paired (fun (p : List Key × V) (q : List Key × Addr × Value)=>p.1 = q.1/\H q.2.1 = some (.tup (p.1.map kV))/\aN p.2 q.2.2) kvs xs /\
   ∃ o es ep,h.get? a = some o/\o.ExactDict/\o.data = .dict es ep/\es.toList = xs.map (entryOfKey (tupleKind (bY P w)))/\(xs.map (·.1)).Nodup
 | .set S n=>h.SetOf (intKind P w) a S n
 | .ins C dx fs=>H dx = some (.own a)/\fs.length<=1000/\dx ≠ a/\h.get? a = some (PySem.W.instObj C dx) /\
   ∃ mA,h.Ns1 dx mA/\(∀ f,lb (fs.lookup f) (mA f))/\PySem.Within mA (fs.map (·.1))
 | .own _=>∃ o,h.get? a = some o
 | .xd fs=>∃ mA,h.Ns1 a mA/\∀ f,lb (fs.lookup f) (mA f)
 | .rng lo hi=>∃ t u v,h.get? a = some { cls:=.type "range",data:=.fields #[.int lo t,.int hi u,.int 1 v] }
 | .frz o u=>h.get? a = some o/\b9 H h a u
 | .tbl q=>∃ ps : Array Value,h.get? a = some { cls:=.none,data:=.fields ps }/\TriplesOk ps.toList/\∀ pos cv,codeAmong pos ps.toList = some cv->∃ (c : Addr) (oc : Obj) (u : HO) (vs : Array Value) (t : Tok),cv = .ref c/\H c = some (.frz oc u)/\oc.data = .fields vs/\vs[1]? = some (.str q t)
 | .met f x=>h.get? a = some (PySem.W.methodObj (.ref f) (.ref x))
 | .ext φ=>φ h/\(∃ o,h.get? a = some o)/\∀ h1 h2 : Heap,φ h1->(∀ o,h1.get? a = some o->h2.get? a = some o)->φ h2
def HOk (H : Hp) (h : Heap) : Prop:=∀ a o,H a = some o->b9 P w H h a o
end
section
variable {P : Program} {w : World} {H H' : Hp} {h h' : Heap} {a : Addr} {o : HO}
theorem b9.lt (x : b9 P w H h a o) : a < h.objs.size:=by
 cases o with
 | lst xs=>obtain ⟨_,_,_,_,e⟩:=x; exact Heap.lt_size e
 | tup xs=>obtain ⟨_,_,_,p⟩:=x; exact p.lt
 | dK kvs=>obtain ⟨_,_,_,_,o,_,_,e,_⟩:=x; exact Heap.lt_size e
 | dT kvs=>obtain ⟨_,_,_,_,o,_,_,e,_⟩:=x; exact Heap.lt_size e
 | set S n=>obtain ⟨o,_,_,_,e,_⟩:=x; exact Heap.lt_size e
 | ins C dx fs=>obtain ⟨_,_,_,e,_⟩:=x; exact Heap.lt_size e
 | own y=>obtain ⟨_,e⟩:=x; exact Heap.lt_size e
 | xd fs=>obtain ⟨_,⟨_,_,_,e,_⟩,_⟩:=x; exact Heap.lt_size e
 | rng lo hi=>obtain ⟨_,_,_,e⟩:=x; exact Heap.lt_size e
 | frz ob u=>obtain ⟨e,_⟩:=x; exact Heap.lt_size e
 | tbl q=>obtain ⟨_,e,_⟩:=x; exact Heap.lt_size e
 | met f y=>exact Heap.lt_size (show h.get? a = some _ from x)
 | ext φ=>obtain ⟨_,⟨_,e⟩,_⟩:=x; exact Heap.lt_size e
theorem Paired.mapP {α β : Type} {F G : α->β->Prop} : ∀ {l₁ : List α} {l₂ : List β},Paired F l₁ l₂->(∀ a b,F a b->G a b)->Paired G l₁ l₂
 | _,_,.nil,_=>.nil
 | _,_,.cons r t,f=>.cons (f _ _ r) (Paired.mapP t f)
theorem b9.stay (x : b9 P w H h a o) (k : ∀ b u,(b = a ∨ H b = some (.own a))->h.get? b = some u->h'.get? b = some u)
  (ho : ∀ b,H b = some (.own a)->H' b = some (.own a)) (ht : ∀ b xs,H b = some (.tup xs)->H' b = some (.tup xs)) (hf : ∀ b o u,H b = some (.frz o u)->H' b = some (.frz o u)) : b9 P w H' h' a o:=by
 induction o with
 | lst xs=>obtain ⟨z,its,n,r,e⟩:=x; exact ⟨z,its,n,r,k _ _ (.inl rfl) e⟩
 | tup xs=>obtain ⟨z,its,r,ob,e,c⟩:=x; exact ⟨z,its,r,ob,k _ _ (.inl rfl) e,c⟩
 | dK kvs=>obtain ⟨z,y,vs,r,ob,es,ep,e,c⟩:=x; exact ⟨z,y,vs,r,ob,es,ep,k _ _ (.inl rfl) e,c⟩
 | dT kvs =>
  obtain ⟨z,y,xs,r,ob,es,ep,e,c⟩:=x
  exact ⟨z,y,xs,Paired.mapP r fun p q z=>⟨z.1,ht _ _ z.2.1,z.2.2⟩,ob,es,ep,k _ _ (.inl rfl) e,c⟩
 | set S n=>obtain ⟨ob,es,ep,t,e,c⟩:=x; exact ⟨ob,es,ep,t,k _ _ (.inl rfl) e,c⟩
 | ins C dx fs =>
  obtain ⟨d,z,ne,e,mA,⟨od,es,ep,e2,c⟩,r⟩:=x
  exact ⟨ho _ d,z,ne,k _ _ (.inl rfl) e,mA,⟨od,es,ep,k _ _ (.inr d) e2,c⟩,r⟩
 | own y=>obtain ⟨ob,e⟩:=x; exact ⟨ob,k _ _ (.inl rfl) e⟩
 | xd fs=>obtain ⟨mA,⟨od,es,ep,e,c⟩,r⟩:=x; exact ⟨mA,⟨od,es,ep,k _ _ (.inl rfl) e,c⟩,r⟩
 | rng lo hi=>obtain ⟨t,u,v,e⟩:=x; exact ⟨t,u,v,k _ _ (.inl rfl) e⟩
 | frz ob u ih=>obtain ⟨e,q⟩:=x; exact ⟨k _ _ (.inl rfl) e,ih q⟩
 | tbl q=>obtain ⟨ps,e,t,c⟩:=x; exact ⟨ps,k a _ (.inl rfl) e,t,fun pos cv z=>let ⟨d,oc,u,vs,tk,z1,z2,z3⟩:=c pos cv z; ⟨d,oc,u,vs,tk,z1,hf _ _ _ z2,z3⟩⟩
 | met f y =>
  have e : h.get? a = some (PySem.W.methodObj (.ref f) (.ref y)):=x
  show h'.get? a = some (PySem.W.methodObj (.ref f) (.ref y))
  exact k a _ (.inl rfl) e
 | ext φ=>obtain ⟨p,⟨o,e⟩,st⟩:=x; exact ⟨st _ _ p fun o q=>k _ _ (.inl rfl) q,⟨o,k _ _ (.inl rfl) e⟩,st⟩
theorem HOk.lt (x : HOk P w H h) (e : H a = some o) : a < h.objs.size:=(x a o e).lt
theorem HOk.fresh (x : HOk P w H h) (e : h.objs.size<=a) : H a = none:=by
 cases q : H a with
 | none=>rfl
 | some u=>exact absurd (Nat.lt_of_lt_of_le (x.lt q) e) (Nat.lt_irrefl _)
theorem HOk.kept (x : HOk P w H h) (k : ∀ b u,h.get? b = some u->h'.get? b = some u) : HOk P w H h':=fun a o e =>
 (x a o e).stay (fun b u _ q=>k b u q) (fun _ q=>q) (fun _ _ q=>q) fun _ _ _ q=>q
theorem HOk.laid (x : HOk P w H h) (k : ∀ b u,h.get? b = some u->h'.get? b = some u) (hp : h.objs.size<=a) (new : b9 P w (upd H a o) h' a o) : HOk P w (upd H a o) h':=fun b u e=>by
 have hn:=x.fresh hp
 by_cases hb : b = a
 ·subst hb; rw [ax] at e; cases e; exact new
 ·rw [a9 hb] at e
  exact (x b u e).stay (fun c v _ q=>k c v q) (fun c q=>by rw [a9 (aG q hn)]; exact q) (fun c xs q=>by rw [a9 (aG q hn)]; exact q) fun c o xs q=>by rw [a9 (aG q hn)]; exact q
end
def Rd (H : Hp) (a : Addr) (u : HO) : Prop:=H a = some u ∨ ∃ o,H a = some (.frz o u)
theorem Rd.of {H : Hp} {a : Addr} {u : HO} (h : H a = some u) : Rd H a u:=.inl h
theorem Rd.ok {P : Program} {w : World} {H : Hp} {h : Heap} {a : Addr} {u : HO} (r : Rd H a u) (x : HOk P w H h) : b9 P w H h a u:=by
 rcases r with r | ⟨o,r⟩
 ·exact x a u r
 ·obtain ⟨_,q⟩:=x a _ r
  exact q
def Mut : Option HO->Prop
 | some (.lst _)=>True
 | some (.dK _)=>True
 | some (.dT _)=>True
 | some (.set _ _)=>True
 | some (.ins _ _ _)=>True
 | some (.ext _)=>True
 | _=>False
section
variable {P : Program} {w : World} {H : Hp} {h h' : Heap} {x e : Addr} {o' : HO}
theorem HOk.write (ok : HOk P w H h) (mu : Mut (H x)) (he : e = x ∨ H e = some (.own x)) (k : ∀ b u,b ≠ e->h.get? b = some u->h'.get? b = some u) (heo : ∃ u,h'.get? e = some u)
  (new : b9 P w (upd H x o') h' x o') : HOk P w (upd H x o') h':=fun b u q=>by
 have nown : ∀ c y,H c = some (.own y)->c ≠ x:=fun c y r z=>by subst z; rw [r] at mu; exact mu
 have ntup : ∀ c xs,H c = some (.tup xs)->c ≠ x:=fun c xs r z=>by subst z; rw [r] at mu; exact mu
 by_cases hb : b = x
 ·subst hb; rw [ax] at q; cases q; exact new
 ·rw [a9 hb] at q
  by_cases hbe : b = e
  ·have q' : H b = some (.own x):=by
    rcases he with z | z
    ·exact absurd (hbe.trans z) hb
    ·rw [hbe]; exact z
   rw [q] at q'; cases q'
   obtain ⟨v,hv⟩:=heo
   exact ⟨v,by rw [hbe]; exact hv⟩
  ·refine (ok b u q).stay (fun c v hc r=>k c v ?_ r) (fun c r=>by rw [a9 (nown c b r)]; exact r) (fun c xs r=>by rw [a9 (ntup c xs r)]; exact r) fun c o xs r=>by rw [a9 (fun z=>by subst z; rw [r] at mu; exact mu)]; exact r
   rcases hc with rfl | hc
   ·exact hbe
   ·rintro rfl
    rcases he with z | z
    ·exact nown c b hc z
    ·rw [hc] at z; cases z; exact hb rfl
end
structure Un (fs ex : List Addr) (H H' : Hp) (h h' : Heap) : Prop where
 keep : ∀ b o,h.get? b = some o->H b = none->b ∉ fs->b ∉ ex->h'.get? b = some o
 slot : ∀ b o,h.get? b = some o->H b = none->b ∈ fs->b ∉ ex->∃ sl,h'.get? b = some { o with slots:=sl }
 free : ∀ b o,h.get? b = some o->H b = none->b ∉ ex->H' b = none
 there : ∀ b o,h.get? b = some o->b ∉ ex->∃ o',h'.get? b = some o'
 tups : ∀ b xs,H b = some (.tup xs)->H' b = some (.tup xs)
 frzs : ∀ b o u,H b = some (.frz o u)->H' b = some (.frz o u)
 tbls : ∀ b q,H b = some (.tbl q)->H' b = some (.tbl q)
section
variable {fs fs' ex ex' : List Addr} {H H1 H2 : Hp} {h h1 h2 h' : Heap} {a x e : Addr} {o : HO}
theorem Un.any (u : Un fs ex H H1 h h1) {b : Addr} {ob : Obj} (q : h.get? b = some ob) (n : H b = none) (hx : b ∉ ex) : ∃ sl,h1.get? b = some { ob with slots:=sl }:=by
 by_cases hb : b ∈ fs
 ·exact u.slot b ob q n hb hx
 ·exact ⟨ob.slots,u.keep b ob q n hb hx⟩
theorem Un.trans (a : Un fs ex H H1 h h1) (b : Un fs ex H1 H2 h1 h2) : Un fs ex H H2 h h2 where
 keep:=fun c ob q n hc hx=>b.keep c ob (a.keep c ob q n hc hx) (a.free c ob q n hx) hc hx
 slot:=fun c ob q n hc hx=>by
  obtain ⟨sl,e1⟩:=a.slot c ob q n hc hx
  obtain ⟨sl',e2⟩:=b.slot c _ e1 (a.free c ob q n hx) hc hx
  exact ⟨sl',e2⟩
 free:=fun c ob q n hx=>by
  obtain ⟨o',e1⟩:=a.there c ob q hx
  exact b.free c o' e1 (a.free c ob q n hx) hx
 there:=fun c ob q hx=>by
  obtain ⟨o',e1⟩:=a.there c ob q hx
  exact b.there c o' e1 hx
 tups:=fun c xs q=>b.tups c xs (a.tups c xs q)
 frzs:=fun c ob xs q=>b.frzs c ob xs (a.frzs c ob xs q)
 tbls:=fun c ps q=>b.tbls c ps (a.tbls c ps q)
theorem Un.kept (k : ∀ b u,h.get? b = some u->h'.get? b = some u) : Un fs ex H H h h' :=
 ⟨fun b ob q _ _ _=>k b ob q,fun b ob q _ _ _=>⟨ob.slots,k b ob q⟩,fun _ _ _ n _=>n,fun b ob q _=>⟨ob,k b ob q⟩,fun _ _ q=>q,fun _ _ _ q=>q,fun _ _ q=>q⟩
theorem Un.refl : Un fs ex H H h h:=Un.kept fun _ _ q=>q
theorem Un.laid (k : ∀ b u,h.get? b = some u->h'.get? b = some u) (hp : h.objs.size<=a) (hn : H a = none) : Un fs ex H (upd H a o) h h' where
 keep:=fun b u q _ _ _=>k b u q
 slot:=fun b u q _ _ _=>⟨u.slots,k b u q⟩
 free:=fun b u q n _=>by rw [a9 (Nat.ne_of_lt (Nat.lt_of_lt_of_le (Heap.lt_size q) hp))]; exact n
 there:=fun b u q _=>⟨u,k b u q⟩
 tups:=fun b xs q=>by rw [a9 (aG q hn)]; exact q
 frzs:=fun b u xs q=>by rw [a9 (aG q hn)]; exact q
 tbls:=fun b ps q=>by rw [a9 (aG q hn)]; exact q
theorem Un.write (mu : Mut (H x)) (he : e = x ∨ H e = some (.own x)) (k : ∀ b u,b ≠ e->h.get? b = some u->h'.get? b = some u) (heo : ∃ u,h'.get? e = some u) : Un fs ex H (upd H x o) h h':=by
 have hx : ∀ b,H b = none->b ≠ x:=fun b n z=>by subst z; rw [n] at mu; exact mu
 have hb : ∀ b,H b = none->b ≠ e:=fun b n z=>by
  subst z
  rcases he with r | r
  ·exact hx b n r
  ·rw [n] at r; cases r
 have hm : ∀ b u,H b = some u->¬ Mut (some u)->b ≠ x:=fun b u q nm z=>by subst z; rw [q] at mu; exact nm mu
 refine ⟨fun b u q n _ _=>k b u (hb b n) q,fun b u q n _ _=>⟨u.slots,k b u (hb b n) q⟩,fun b u q n _=>by rw [a9 (hx b n)]; exact n,fun b u q _=>?_,
  fun b xs q=>by rw [a9 (hm b _ q fun z=>z)]; exact q,fun b u xs q=>by rw [a9 (hm b _ q fun z=>z)]; exact q,fun b ps q=>by rw [a9 (hm b _ q fun z=>z)]; exact q⟩
 by_cases hbe : b = e
 ·subst hbe; exact heo
 ·exact ⟨u,k b u hbe q⟩
end
def trk (h : Heap) (H : Hp) : List Addr:=(List.range h.objs.size).filter fun a=>(H a).isSome
def qJ (h : Heap) (H : Hp) : Heap:=PySem.W.hideAll h (trk h H)
theorem we (h : Heap) (H : Hp) : (qJ h H).objs.size = h.objs.size:=PySem.W.hideAll_size _ _
theorem lz {h : Heap} {H : Hp} {b : Addr} {o : Obj} (e : h.get? b = some o) (n : H b = none) : (qJ h H).get? b = some o :=
 PySem.W.hideAll_get _ e fun hm=>by
  have q : (H b).isSome = true:=(List.mem_filter.mp hm).2
  rw [n] at q; simp at q
theorem zy {h : Heap} {H : Hp} {b : Addr} {o : Obj} (e : (qJ h H).get? b = some o) : h.get? b = some o/\H b = none:=by
 have e' : h.get? b = some o:=PySem.W.of_hideAll (trk h H) e
 refine ⟨e', ?_⟩
 cases q : H b with
 | none=>rfl
 | some x =>
  have hm : b ∈ trk h H:=List.mem_filter.mpr ⟨List.mem_range.mpr (Heap.lt_size e'),by simp [q]⟩
  have z : (qJ h H).get? b = none:=PySem.W.hideAll_none (trk h H) hm
  rw [z] at e; cases e
def z4 (g h : Heap) (L : Addr) : List (Addr × Obj):=(List.range h.objs.size).filterMap fun a=>if a = L ∨ (g.get? a).isSome = true then none else (h.get? a).map fun o=>(a,o)
def ay (g h : Heap) (L d : Addr) : List (Addr × Obj):=(z4 g h L).filter fun p=>decide (p.1 ≠ d)
structure Mod (K : PySem.W.Frag) (mg : Str->Option Value) (base : Heap) : Prop where
 kin : K.In base
 glob : base.Ns mainGlobals mg
 blt : ∃ mb,base.Ns builtinsNs mb/\∀ x : Str,x ≠ "__name__"->mb x = bootBuiltins x
 nolimit : base.NoLimit
 bmain : ∃ bm ob,mg "__builtins__" = some (.ref bm)/\bm ≠ builtinsNs/\base.get? bm = some ob/\ob.cls = .type "module"/\ob.dict = some builtinsNs/\ob.data = .plain
structure Cx where
 prog : Program
 w : World
 K : PySem.W.Frag
 mg : Str->Option Value
 base : Heap
 A : Around
 N : List Str
 s₀ : Shared
 H₀ : Hp
 env : Env
 outer : List Env
 stack : List Env
 ex : List Addr
 fn : Str->Bool
 calm : Bool
 pn : List (Addr × Obj)
 xe : Value->Shared->Prop
def frs (l : List Env) : List Addr:=l.filterMap (·.frame)
abbrev Cx.fs (X : Cx) : List Addr:=frs X.outer
def Vis (sc : Scope) (x : Str) : Prop:=sc.names.lookup x = some .local ∨ sc.names.lookup x = some .cell ∨ sc.names.lookup x = some .free
def Loc (sc : Scope) (x : Str) : Prop:=sc.names.lookup x = some .local ∨ sc.names.lookup x = some .cell
def Ep (env : Env) (h : Heap) (m : Str->Option Value) (x : Str) (u : Value) : Prop :=
 (env.kindOf x = some .local/\m x = some u) ∨ ((env.kindOf x = some .cell ∨ env.kindOf x = some .free)/\∃ c,env.cells.lookup x = some c/\h.IsCell c (some u))
structure Cx.Ok (X : Cx) : Prop where
 mod : Mod X.K X.mg X.base
 kind : X.env.scope.kind = .function
 glob : X.env.globals = mainGlobals
 blt : X.env.builtins = builtinsNs
 above : X.s₀.heap.objs.size<=X.env.locals
 inj : ∀ x y c,X.env.cells.lookup x = some c->X.env.cells.lookup y = some c->x = y
 has : ∀ x,(X.env.kindOf x = some .cell ∨ X.env.kindOf x = some .free)->∃ c,X.env.cells.lookup x = some c
 cab : ∀ x c,X.fn x = true->X.env.cells.lookup x = some c->X.s₀.heap.objs.size<=c
 hd : X.calm = true->X.A.handled = none
 frames : X.A.frames = some X.stack
 stk : X.stack = X.outer ∨ (X.stack = X.env :: X.outer/\X.env.frame = some X.env.locals)
 exf : ∀ b ∈ X.ex,b ≠ X.env.locals/\∀ x c,X.env.cells.lookup x = some c->c ≠ b
 bs : ∀ b o,X.base.get? b = some o->X.s₀.heap.get? b = some o/\X.H₀ b = none
 bsz : X.base.objs.size<=X.s₀.heap.objs.size
 noex : ∀ b o,X.base.get? b = some o->b ∉ X.ex
 exfs : ∀ b ∈ X.ex,b ∉ X.fs
 funs : X.s₀.heap.FunFrames X.base X.outer
 frf : ∀ b ∈ X.fs,X.H₀ b = none
structure Inv (X : Cx) (pins : List (Addr × Obj)) (σ : List (Option V)) (H : Hp) (s : Shared) : Prop where
 ok : X.Ok
 os : s.os = X.s₀.os
 bare : AllBare s.gens
 base : Un X.fs X.ex X.H₀ H X.s₀.heap s.heap
 loc : ∃ m,s.heap.Ns X.env.locals m/\∀ (i : Nat) (x : Str) (v : V),X.N[i]? = some x->σ[i]? = some (some v)->Vis X.env.scope x->∃ u,aN v u/\Ep X.env s.heap m x u
 cell : ∀ x c,X.env.cells.lookup x = some c->∃ v,s.heap.IsCell c v
 free : H X.env.locals = none
 freeC : ∀ x c,X.env.cells.lookup x = some c->H c = none
 pin : ∀ p ∈ X.pn ++ pins,s.heap.get? p.1 = some p.2/\H p.1 = none/\p.1 ≠ X.env.locals/\p.1 ∉ X.fs/\∀ v,p.2.data ≠ .cell v
 hok : HOk X.prog X.w H s.heap
 len : σ.length = X.N.length
section
variable {X : Cx} {pins : List (Addr × Obj)} {σ : List (Option V)} {H H' : Hp} {s : Shared} {h' : Heap}
theorem Cx.Ok.nofr (ok : X.Ok) {b : Addr} {o : Obj} (e : X.base.get? b = some o) : b ∉ X.fs:=fun hb=>by
 have:=(ok.funs.mem hb).1
 rw [e] at this; cases this
theorem Inv.bs (I : Inv X pins σ H s) : ∀ b o,X.base.get? b = some o->s.heap.get? b = some o/\H b = none:=fun b o e =>
 ⟨I.base.keep b o (I.ok.bs b o e).1 (I.ok.bs b o e).2 (I.ok.nofr e) (I.ok.noex b o e),I.base.free b o (I.ok.bs b o e).1 (I.ok.bs b o e).2 (I.ok.noex b o e)⟩
theorem Inv.bk (I : Inv X pins σ H s) : ∀ b o,X.base.get? b = some o->s.heap.get? b = some o:=fun b o e=>(I.bs b o e).1
theorem Inv.mod (I : Inv X pins σ H s) : Mod X.K X.mg X.base:=I.ok.mod
theorem Inv.kIn (I : Inv X pins σ H s) : X.K.In s.heap:=I.ok.mod.kin.keeps I.bk
theorem Inv.nolimit (I : Inv X pins σ H s) : s.heap.NoLimit:=I.ok.mod.nolimit.keeps I.bk
theorem Inv.lt (I : Inv X pins σ H s) : X.env.locals < s.heap.objs.size:=let ⟨_,hn,_⟩:=I.loc; hn.lt
theorem Inv.sz (I : Inv X pins σ H s) : X.s₀.heap.objs.size<=s.heap.objs.size:=Nat.le_trans I.ok.above (Nat.le_of_lt I.lt)
theorem Inv.nofs (I : Inv X pins σ H s) {a : Addr} (h : s.heap.objs.size<=a) : a ∉ X.fs:=fun hb=>by
 obtain ⟨_,o,ho,_⟩:=I.ok.funs.mem hb
 exact absurd (Nat.lt_of_lt_of_le (Heap.lt_size ho) (Nat.le_trans I.sz h)) (Nat.lt_irrefl _)
theorem Inv.cne (I : Inv X pins σ H s) : ∀ x c,X.env.cells.lookup x = some c->c ≠ X.env.locals:=fun x c e z=>by
 obtain ⟨v,o,ho,hd⟩:=I.cell x c e
 obtain ⟨m,⟨o',es,ep,ho',hd',_⟩,_⟩:=I.loc
 rw [z,ho'] at ho; cases ho; rw [hd'] at hd; cases hd
theorem Inv.funs (I : Inv X pins σ H s) : s.heap.FunFrames X.base X.outer:=by
 have all : ∀ (l : List Env),(∀ b ∈ frs l,b ∈ X.fs)->X.s₀.heap.FunFrames X.base l->s.heap.FunFrames X.base l:=by
  intro l
  induction l with
  | nil=>intro _ _; trivial
  | cons env r ih =>
   intro hs hl
   obtain ⟨hk,⟨L,o,hf,hn,ho,hd⟩,hr⟩:=hl
   have hL : L ∈ X.fs:=hs L (by unfold frs; rw [List.filterMap_cons,hf]; exact mX)
   obtain ⟨sl,e⟩:=I.base.slot L o ho (I.ok.frf L hL) hL fun z=>I.ok.exfs L z hL
   exact ⟨hk,⟨L,_,hf,hn,e,hd⟩,ih (fun b hb=>hs b (by unfold frs; rw [List.filterMap_cons,hf]; exact mZ _ hb)) hr⟩
 exact all X.outer (fun _ hb=>hb) I.ok.funs
theorem Inv.stack (I : Inv X pins σ H s) : s.heap.FunFrames X.base X.stack:=by
 rcases I.ok.stk with e | ⟨e,hf⟩
 ·rw [e]; exact I.funs
 ·rw [e]
  obtain ⟨m,hn,_⟩:=I.loc
  refine .cons (by rw [I.ok.kind]; decide) hf hn ?_ I.funs
  exact Heap.get?_none_of_le (Nat.le_trans I.ok.bsz I.ok.above)
theorem Inv.stkSub (I : Inv X pins σ H s) : ∀ b ∈ frs X.stack,b ∈ X.env.locals :: X.fs:=fun b hb=>by
 rcases I.ok.stk with e | ⟨e,hf⟩
 ·rw [e] at hb; exact mZ _ hb
 ·rw [e] at hb
  unfold frs at hb
  rw [List.filterMap_cons,hf] at hb
  exact hb
theorem Inv.stkFree (I : Inv X pins σ H s) : ∀ b ∈ frs X.stack,H b = none:=fun b hb=>by
 rcases List.mem_cons.mp (I.stkSub b hb) with e | hb
 ·rw [e]; exact I.free
 ·obtain ⟨_,o,ho,_⟩:=I.ok.funs.mem hb
  exact I.base.free b o ho (I.ok.frf b hb) fun z=>I.ok.exfs b z hb
theorem Inv.step {g' : Array GenState} {t' : Nat} {d' : Drawn} {ch : List Addr} (I : Inv X pins σ H s)
  (hch : ∀ b ∈ ch,(b ∈ X.ex ∨ X.s₀.heap.objs.size<=b)/\b ≠ X.env.locals/\(∀ x c,X.env.cells.lookup x = some c->c ≠ b)/\∀ p ∈ X.pn ++ pins,p.1 ≠ b)
  (keep : ∀ b o,b ≠ X.env.locals->b ∉ X.fs->b ∉ ch->s.heap.get? b = some o->H b = none->h'.get? b = some o)
  (slot : ∀ b o,b ≠ X.env.locals->b ∈ X.fs->b ∉ ch->s.heap.get? b = some o->H b = none->∃ sl,h'.get? b = some { o with slots:=sl }) (free : ∀ b o,b ∉ ch->s.heap.get? b = some o->H b = none->H' b = none)
  (there : ∀ b o,b ∉ ch->s.heap.get? b = some o->∃ o',h'.get? b = some o')
  (tups : ∀ b xs,H b = some (.tup xs)->H' b = some (.tup xs)) (frzs : ∀ b o u,H b = some (.frz o u)->H' b = some (.frz o u)) (tbls : ∀ b q,H b = some (.tbl q)->H' b = some (.tbl q))
  (ns : ∀ m,s.heap.Ns X.env.locals m->h'.Ns X.env.locals m) (hok : HOk X.prog X.w H' h') (hg : AllBare g') :
  Inv X pins σ H' { s with heap:=h',gens:=g',drawn:=d',toks:=t' }:=by
 have neL : ∀ b o,X.s₀.heap.get? b = some o->b ≠ X.env.locals:=fun b o e=>Nat.ne_of_lt (Nat.lt_of_lt_of_le (Heap.lt_size e) I.ok.above)
 have neC : ∀ b o,X.s₀.heap.get? b = some o->b ∉ X.ex->b ∉ ch:=fun b o e hx hb=>by
  rcases (hch b hb).1 with z | z
  ·exact hx z
  ·exact absurd (Nat.lt_of_lt_of_le (Heap.lt_size e) z) (Nat.lt_irrefl _)
 have cellK : ∀ x c,X.env.cells.lookup x = some c->∀ v,s.heap.IsCell c v->h'.IsCell c v:=fun x c e v ⟨o,ho,hd⟩=>by
  have nch : c ∉ ch:=fun z=>(hch c z).2.2.1 x c e rfl
  by_cases hc : c ∈ X.fs
  ·obtain ⟨sl,q⟩:=slot c o (I.cne x c e) hc nch ho (I.freeC x c e)
   exact ⟨_,q,hd⟩
  ·exact ⟨o,keep c o (I.cne x c e) hc nch ho (I.freeC x c e),hd⟩
 refine ⟨I.ok,I.os,hg,⟨fun b o e n hb hx=>?_,fun b o e n hb hx=>?_,fun b o e n hx=>?_,fun b o e hx=>?_,fun b xs e=>tups b xs (I.base.tups b xs e),fun b o xs e=>frzs b o xs (I.base.frzs b o xs e),fun b ps e=>?_⟩, ?_,fun x c e=>?_, ?_,fun x c e=>?_,fun p hp=>?_,hok,I.len⟩
 ·exact keep b o (neL b o e) hb (neC b o e hx) (I.base.keep b o e n hb hx) (I.base.free b o e n hx)
 ·obtain ⟨sl,e1⟩:=I.base.slot b o e n hb hx
  obtain ⟨sl',e2⟩:=slot b _ (neL b o e) hb (neC b o e hx) e1 (I.base.free b o e n hx)
  exact ⟨sl',e2⟩
 ·obtain ⟨o',e1⟩:=I.base.there b o e hx
  exact free b o' (neC b o e hx) e1 (I.base.free b o e n hx)
 ·obtain ⟨o',e1⟩:=I.base.there b o e hx
  exact there b o' (neC b o e hx) e1
 ·exact tbls b _ (I.base.tbls b ps e)
 ·obtain ⟨m,hn,hl⟩:=I.loc
  refine ⟨m,ns m hn,fun i x v e1 e2 e3=>?_⟩
  obtain ⟨u,r,l⟩:=hl i x v e1 e2 e3
  refine ⟨u,r, ?_⟩
  rcases l with l | ⟨k,c,e,z⟩
  ·exact .inl l
  ·exact .inr ⟨k,c,e,cellK x c e _ z⟩
 ·obtain ⟨v,z⟩:=I.cell x c e
  exact ⟨v,cellK x c e v z⟩
 ·obtain ⟨m,⟨o,_,_,ho,_⟩,_⟩:=I.loc
  exact free _ o (fun z=>(hch _ z).2.1 rfl) ho I.free
 ·obtain ⟨v,o,ho,hd⟩:=I.cell x c e
  exact free c o (fun z=>(hch c z).2.2.1 x c e rfl) ho (I.freeC x c e)
 ·obtain ⟨e,n,ne,nf,d⟩:=I.pin p hp
  have nch : p.1 ∉ ch:=fun z=>(hch p.1 z).2.2.2 p hp rfl
  exact ⟨keep p.1 p.2 ne nf nch e n,free p.1 p.2 nch e n,ne,nf,d⟩
theorem Inv.un {t' : Nat} (I : Inv X pins σ H s) (u : Un X.fs [] H H' s.heap h') (hok : HOk X.prog X.w H' h') : Inv X pins σ H' { s with heap:=h',toks:=t' }:=by
 obtain ⟨m,⟨o,es,ep,ho,r⟩,_⟩:=id I.loc
 obtain ⟨sl,hL⟩:=u.any ho I.free (by simp)
 exact I.step (g':=s.gens) (d':=s.drawn) (ch:=[]) (fun _ z=>nomatch z) (fun b o _ hb _ e n=>u.keep b o e n hb (by simp)) (fun b o _ hb _ e n=>u.slot b o e n hb (by simp)) (fun b o _ e n=>u.free b o e n (by simp)) (fun b o _ e=>u.there b o e (by simp)) u.tups u.frzs u.tbls (fun m' hm=>by
  obtain ⟨o',es',ep',ho',r'⟩:=hm
  rw [ho] at ho'; cases ho'
  exact ⟨_,es',ep',hL,r'⟩) hok I.bare
theorem Inv.call {g' : Array GenState} {t' : Nat} {d' : Drawn} {ch : List Addr} (I : Inv X pins σ H s) (u : Un (frs X.stack) ch H H' s.heap h') (hok : HOk X.prog X.w H' h') (hg : AllBare g')
  (hch : ∀ b ∈ ch,(b ∈ X.ex ∨ X.s₀.heap.objs.size<=b)/\b ≠ X.env.locals/\(∀ x c,X.env.cells.lookup x = some c->c ≠ b)/\∀ p ∈ X.pn ++ pins,p.1 ≠ b) :
  Inv X pins σ H' { s with heap:=h',gens:=g',drawn:=d',toks:=t' }:=by
 obtain ⟨m,⟨o,es,ep,ho,r⟩,_⟩:=id I.loc
 obtain ⟨sl,hL⟩:=u.any ho I.free fun z=>(hch _ z).2.1 rfl
 exact I.step (ch:=ch) hch (fun b o hL hb hc e n=>u.keep b o e n (fun z=>(List.mem_cons.mp (I.stkSub b z)).elim hL hb) hc) (fun b o _ _ hc e n=>u.any e n hc) (fun b o hc e n=>u.free b o e n hc) (fun b o hc e=>u.there b o e hc) u.tups u.frzs u.tbls (fun m' hm=>by
  obtain ⟨o',es',ep',ho',r'⟩:=hm
  rw [ho] at ho'; cases ho'
  exact ⟨_,es',ep',hL,r'⟩) hok hg
theorem Inv.turned {t' : Nat} {it : Addr} (I : Inv X pins σ H s) (k : ∀ b o,b ≠ it->s.heap.get? b = some o->h'.get? b = some o) (hn : H it = none) (hL : it ≠ X.env.locals)
  (h1 : it ∈ X.ex ∨ X.s₀.heap.objs.size<=it) (h2 : ∀ x c,X.env.cells.lookup x = some c->c ≠ it) (h3 : ∀ p ∈ X.pn ++ pins,p.1 ≠ it) : Inv X pins σ H { s with heap:=h',toks:=t' }:=by
 have nit : ∀ b u,H b = some u->b ≠ it:=fun b u e z=>by rw [z,hn] at e; cases e
 refine I.step (g':=s.gens) (d':=s.drawn) (ch:=[it]) (fun b hb=>?_) (fun b o _ _ hc e _=>k b o (fun z=>hc (by simp [z])) e) (fun b o _ _ hc e _=>⟨o.slots,k b o (fun z=>hc (by simp [z])) e⟩) (fun _ _ _ _ n=>n)
  (fun b o hc e=>⟨o,k b o (fun z=>hc (by simp [z])) e⟩) (fun _ _ e=>e) (fun _ _ _ e=>e) (fun _ _ e=>e) (fun m hm=>?_) (fun b u e=>?_) I.bare
 ·have e : b = it:=by simpa using hb
  subst e
  exact ⟨h1,hL,h2,h3⟩
 ·obtain ⟨o,es,ep,ho,r⟩:=hm
  exact ⟨o,es,ep,k _ o (Ne.symm hL) ho,r⟩
 ·refine (I.hok b u e).stay (fun c v hc q=>k c v ?_ q) (fun _ q=>q) (fun _ _ q=>q) fun _ _ _ q=>q
  rcases hc with z | z
  ·rw [z]; exact nit b u e
  ·exact nit c _ z
theorem Inv.tok (I : Inv X pins σ H s) (t : Nat) : Inv X pins σ H { s with toks:=t }:=I.un (h':=s.heap) (t':=t) Un.refl I.hok
theorem Inv.kept {t' : Nat} (I : Inv X pins σ H s) (k : ∀ b u,s.heap.get? b = some u->h'.get? b = some u) : Inv X pins σ H { s with heap:=h',toks:=t' }:=I.un (Un.kept k) (I.hok.kept k)
theorem Inv.laid {a : Addr} {o : HO} {t' : Nat} (I : Inv X pins σ H s) (k : ∀ b u,s.heap.get? b = some u->h'.get? b = some u) (hp : s.heap.objs.size<=a) (new : b9 X.prog X.w (upd H a o) h' a o) :
  Inv X pins σ (upd H a o) { s with heap:=h',toks:=t' }:=I.un (Un.laid k hp (I.hok.fresh hp)) (I.hok.laid k hp new)
theorem Inv.write {x e : Addr} {o : HO} {t' : Nat} (I : Inv X pins σ H s) (mu : Mut (H x)) (he : e = x ∨ H e = some (.own x)) (k : ∀ b u,b ≠ e->s.heap.get? b = some u->h'.get? b = some u) (heo : ∃ u,h'.get? e = some u)
  (new : b9 X.prog X.w (upd H x o) h' x o) : Inv X pins σ (upd H x o) { s with heap:=h',toks:=t' }:=I.un (Un.write mu he k heo) (I.hok.write mu he k heo new)
theorem Inv.pins_of {pins' : List (Addr × Obj)} (I : Inv X pins σ H s) (h : ∀ p ∈ pins',s.heap.get? p.1 = some p.2/\H p.1 = none/\p.1 ≠ X.env.locals/\p.1 ∉ X.fs/\∀ v,p.2.data ≠ .cell v) : Inv X pins' σ H s :=
 ⟨I.ok,I.os,I.bare,I.base,I.loc,I.cell,I.free,I.freeC,fun p hp=>(List.mem_append.mp hp).elim (fun z=>I.pin p (List.mem_append_left _ z)) (h p),I.hok,I.len⟩
theorem qK {N : List Str} (hN : N.Nodup) {i j : Nat} {x : Str} (a : N[i]? = some x) (b : N[j]? = some x) : i = j:=by
 obtain ⟨h1,e1⟩:=List.getElem?_eq_some_iff.mp a
 obtain ⟨h2,e2⟩:=List.getElem?_eq_some_iff.mp b
 exact (List.getElem_inj hN).mp (e1.trans e2.symm)
theorem nK {M : Model} {A : Around} {E : Value->Shared->Prop} {i : Nat} {x : Str} {v : V} {u : Value} {Q : Unit->Shared->Prop} (I : Inv X pins σ H s) (hN : X.N.Nodup) (hi : X.N[i]? = some x) (hx : Loc X.env.scope x) (r : aN v u)
  (h : ∀ s',Inv X pins (σ.set i (some v)) H s'->(∃ a,Heap.SameBut a s.heap s'.heap/\(a = X.env.locals ∨ X.env.cells.lookup x = some a))->Q () s') (hf : X.fn x = true ∨ X.env.scope.names.lookup x = some .local:=by first | exact .inl rfl | exact .inr rfl | assumption) : wpAny M A (storeName X.env x u) Q E s:=by
 obtain ⟨m,hn,hl⟩:=id I.loc
 have hcls : (X.env.scope.kind == .class || (X.env.scope.kind == .module && X.env.locals != X.env.globals)) = false:=by rw [I.ok.kind]; rfl
 have hiσ : i < σ.length:=by rw [I.len]; exact (List.getElem?_eq_some_iff.mp hi).1
 have cne:=I.cne
 have tracked : ∀ {a : Addr} {h' : Heap},(∃ o,s.heap.get? a = some o/\H a = none)->Heap.SameBut a s.heap h'->HOk X.prog X.w H h':=fun {a h'} ha hs b ob e=>by
  obtain ⟨_,_,hfree⟩:=ha
  refine (I.hok b ob e).stay (fun c w' hc q=>(hs.2 c ?_).trans q) (fun _ q=>q) (fun _ _ q=>q) fun _ _ _ q=>q
  rintro rfl
  rcases hc with rfl | hc
  ·rw [hfree] at e; cases e
  ·rw [hfree] at hc; cases hc
 rcases hx with hk | hk
 ·refine wpAny_storeName_local hk hn (fun h' hn' hs=>?_) hcls
  obtain ⟨oL,_,_,hoL,_⟩:=id hn
  refine h _ ⟨I.ok,I.os,I.bare,⟨fun b o e n hb hx=>?_,fun b o e n hb hx=>?_,I.base.free,fun b o e hx=>?_,I.base.tups,I.base.frzs,I.base.tbls⟩,⟨_,hn',fun j y v' e1 e2 e3=>?_⟩,fun y c e=>?_,I.free,I.freeC,fun p hp=>?_,tracked ⟨oL,hoL,I.free⟩ hs,by simpa using I.len⟩ ⟨_,hs,.inl rfl⟩
  ·exact (hs.2 b (Nat.ne_of_lt (Nat.lt_of_lt_of_le (Heap.lt_size e) I.ok.above))).trans (I.base.keep b o e n hb hx)
  ·obtain ⟨sl,e1⟩:=I.base.slot b o e n hb hx
   exact ⟨sl,(hs.2 b (Nat.ne_of_lt (Nat.lt_of_lt_of_le (Heap.lt_size e) I.ok.above))).trans e1⟩
  ·obtain ⟨o',e1⟩:=I.base.there b o e hx
   exact ⟨o',(hs.2 b (Nat.ne_of_lt (Nat.lt_of_lt_of_le (Heap.lt_size e) I.ok.above))).trans e1⟩
  ·by_cases hj : j = i
   ·subst hj
    rw [hi] at e1; cases e1
    rw [List.getElem?_set_self hiσ] at e2
    cases e2
    exact ⟨u,r,.inl ⟨hk,by simp⟩⟩
   ·rw [List.getElem?_set_ne (Ne.symm hj)] at e2
    obtain ⟨u',r',q⟩:=hl j y v' e1 e2 e3
    refine ⟨u',r', ?_⟩
    rcases q with ⟨k,e⟩ | ⟨k,c,e,z⟩
    ·refine .inl ⟨k, ?_⟩
     have : y ≠ x:=fun e=>hj (qK hN e1 (e ▸ hi))
     simp [this,e]
    ·exact .inr ⟨k,c,e,z.sameBut hs (cne y c e)⟩
  ·obtain ⟨w',z⟩:=I.cell y c e
   exact ⟨w',z.sameBut hs (cne y c e)⟩
  ·obtain ⟨e,n,ne,nf,d⟩:=I.pin p hp
   exact ⟨(hs.2 p.1 ne).trans e,n,ne,nf,d⟩
 ·have hfn : X.fn x = true:=by
   rcases hf with z | z
   ·exact z
   ·rw [z] at hk; cases hk
  obtain ⟨c,hc⟩:=I.ok.has x (.inl hk)
  obtain ⟨w',z⟩:=I.cell x c hc
  refine wpAny_storeName_cell I.ok.kind hk hc z (fun h' hc' hs=>?_)
  obtain ⟨oc,hoc,hocd⟩:=id z
  refine h { s with heap:=h' } ⟨I.ok,I.os,I.bare,⟨fun b o e n hb hx=>?_,fun b o e n hb hx=>?_,I.base.free,fun b o e hx=>?_,I.base.tups,I.base.frzs,I.base.tbls⟩,⟨m,hn.sameBut hs (Ne.symm (cne x c hc)),fun j y v' e1 e2 e3=>?_⟩,fun y c' e=>?_,I.free,I.freeC,fun p hp=>?_,tracked ⟨oc,hoc,I.freeC x c hc⟩ hs,by simpa using I.len⟩ ⟨c,hs,.inr hc⟩
  ·exact (hs.2 b (Nat.ne_of_lt (Nat.lt_of_lt_of_le (Heap.lt_size e) (I.ok.cab x c hfn hc)))).trans (I.base.keep b o e n hb hx)
  ·obtain ⟨sl,e1⟩:=I.base.slot b o e n hb hx
   exact ⟨sl,(hs.2 b (Nat.ne_of_lt (Nat.lt_of_lt_of_le (Heap.lt_size e) (I.ok.cab x c hfn hc)))).trans e1⟩
  ·obtain ⟨o',e1⟩:=I.base.there b o e hx
   exact ⟨o',(hs.2 b (Nat.ne_of_lt (Nat.lt_of_lt_of_le (Heap.lt_size e) (I.ok.cab x c hfn hc)))).trans e1⟩
  ·by_cases hj : j = i
   ·subst hj
    rw [hi] at e1; cases e1
    rw [List.getElem?_set_self hiσ] at e2
    cases e2
    exact ⟨u,r,.inr ⟨.inl hk,c,hc,hc'⟩⟩
   ·rw [List.getElem?_set_ne (Ne.symm hj)] at e2
    obtain ⟨u',r',q⟩:=hl j y v' e1 e2 e3
    refine ⟨u',r', ?_⟩
    rcases q with q | ⟨k,c',e,z'⟩
    ·exact .inl q
    ·refine .inr ⟨k,c',e,z'.sameBut hs ?_⟩
     rintro rfl
     exact hj (qK hN e1 (I.ok.inj _ _ _ e hc ▸ hi))
  ·by_cases hcc : c' = c
   ·subst hcc; exact ⟨_,hc'⟩
   ·obtain ⟨w2,z2⟩:=I.cell y c' e
    exact ⟨w2,z2.sameBut hs hcc⟩
  ·obtain ⟨e,n,ne,nf,d⟩:=I.pin p hp
   refine ⟨(hs.2 p.1 ?_).trans e,n,ne,nf,d⟩
   intro q
   rw [q,hoc] at e
   have q' : oc = p.2:=Option.some.inj e
   exact d w' (by rw [← q']; exact hocd)
theorem qL {M : Model} {A : Around} {E : Value->Shared->Prop} {i : Nat} {x : Str} {v : V} {u : Value} {Q : Unit->Shared->Prop} (I : Inv X pins σ H s) (hN : X.N.Nodup) (hi : X.N[i]? = some x) (hx : Loc X.env.scope x) (r : aN v u)
  (h : ∀ s',Inv X pins (σ.set i (some v)) H s'->Q () s') (hf : X.fn x = true ∨ X.env.scope.names.lookup x = some .local:=by first | exact .inl rfl | exact .inr rfl | assumption) : wpAny M A (storeName X.env x u) Q E s :=
 nK I hN hi hx r (fun s' I' _=>h s' I') hf
theorem Inv.call' {s' : Shared} {ch : List Addr} (I : Inv X pins σ H s) (ho : s'.os = s.os) (u : Un (frs X.stack) ch H H' s.heap s'.heap) (hok : HOk X.prog X.w H' s'.heap) (hg : AllBare s'.gens)
  (hch : ∀ b ∈ ch,(b ∈ X.ex ∨ X.s₀.heap.objs.size<=b)/\b ≠ X.env.locals/\(∀ x c,X.env.cells.lookup x = some c->c ≠ b)/\∀ p ∈ X.pn ++ pins,p.1 ≠ b) : Inv X pins σ H' s':=by
 obtain ⟨h',g',d',t',o'⟩:=s'
 have e : o' = s.os:=ho
 subst e
 exact I.call (g':=g') (t':=t') (d':=d') u hok hg hch
end
abbrev XK:=Value->Option Addr->Hp->Prop
abbrev St:=List (Option V)
abbrev VK:=V->Hp->Prop
abbrev TE:=St->Hp->VK->Prop
abbrev TT:=St->Hp->(Bool->Hp->Prop)->Prop
abbrev TA:=St->Hp->(List V->Hp->Prop)->Prop
structure Ends where
 nx : St->Hp->Prop
 rt : VK
 bk : St->Hp->Prop:=fun _ _=>False
 ct : St->Hp->Prop:=fun _ _=>False
abbrev TS:=Ends->St->Hp->Prop
def EP (X : Cx) (pins : List (Addr × Obj)) (σ : St) (Q : VK) (u : Value) (s' : Shared) : Prop:=∃ v H',Inv X pins σ H' s'/\aN v u/\Q v H'
def TP (X : Cx) (pins : List (Addr × Obj)) (σ : St) (Q : Bool->Hp->Prop) (b : Bool) (s' : Shared) : Prop:=∃ H',Inv X pins σ H' s'/\Q b H'
def AP (X : Cx) (pins : List (Addr × Obj)) (σ : St) (Q : List V->Hp->Prop) (us : List Value) (s' : Shared) : Prop:=∃ vs H',Inv X pins σ H' s'/\aK vs us/\Q vs H'
def SP (X : Cx) (pins : List (Addr × Obj)) (D : Ends) (f : Flow) (s' : Shared) : Prop :=
 match f with
 | .next=>∃ σ' H',Inv X pins σ' H' s'/\D.nx σ' H'
 | .brk=>∃ σ' H',Inv X pins σ' H' s'/\D.bk σ' H'
 | .cont=>∃ σ' H',Inv X pins σ' H' s'/\D.ct σ' H'
 | .ret u=>∃ v σ' H',Inv X pins σ' H' s'/\aN v u/\D.rt v H'
def PE (X : Cx) (e : Expr) (t : TE) : Prop :=
 ∀ (pins : List (Addr × Obj)) (s : Shared) (σ : St) (H : Hp) (Q : VK),Inv X pins σ H s->t σ H Q->wpAny (model X.prog X.w) X.A (eval e X.env) (EP X pins σ Q) X.xe s
def PT (X : Cx) (e : Expr) (t : TT) : Prop :=
 ∀ (pins : List (Addr × Obj)) (s : Shared) (σ : St) (H : Hp) (Q : Bool->Hp->Prop),Inv X pins σ H s->t σ H Q->wpAny (model X.prog X.w) X.A (isTrue e X.env (eval e X.env)) (TP X pins σ Q) X.xe s
def PW (X : Cx) (e : Expr) (t : TT) : Prop :=
 ∀ (whole : Sem Value) (pins : List (Addr × Obj)) (s : Shared) (σ : St) (H : Hp) (Q : Bool->Hp->Prop),Inv X pins σ H s->t σ H Q->wpAny (model X.prog X.w) X.A (isTrue e X.env whole) (TP X pins σ Q) X.xe s
theorem PW.pt {X : Cx} {e : Expr} {t : TT} (h : PW X e t) : PT X e t:=h _
def PA (X : Cx) (es : List Expr) (t : TA) : Prop :=
 ∀ (pos : Pos) (pins : List (Addr × Obj)) (s : Shared) (σ : St) (H : Hp) (Q : List V->Hp->Prop),Inv X pins σ H s->t σ H Q->wpAny (model X.prog X.w) X.A (spliced (backTo pos (starEach es X.env))) (AP X pins σ Q) X.xe s
def PS (X : Cx) (st : Stmt) (t : TS) : Prop :=
 ∀ (pins : List (Addr × Obj)) (s : Shared) (σ : St) (H : Hp) (D : Ends),Inv X pins σ H s->t D σ H->wpAny (model X.prog X.w) X.A (exec st X.env) (SP X pins D) X.xe s
def PSs (X : Cx) (st : List Stmt) (t : TS) : Prop :=
 ∀ (pins : List (Addr × Obj)) (s : Shared) (σ : St) (H : Hp) (D : Ends),Inv X pins σ H s->t D σ H->wpAny (model X.prog X.w) X.A (execs st X.env) (SP X pins D) X.xe s
theorem thn {α : Type} {t : Sem α} {Q Q' : α->Shared->Prop} {M : Model} {A : Around} {E : Value->Shared->Prop} {s : Shared} (h : wpAny M A t Q E s) (hQ : ∀ a s,Q a s->Q' a s) : wpAny M A t Q' E s:=wpAny_mono h hQ fun _ _ x=>x
section
variable {X : Cx}
theorem bin {a b : Expr} {ta tb : TE} (ha : PE X a ta) (hb : PE X b tb) {pins : List (Addr × Obj)} {s : Shared} {σ : St} {H : Hp} {R : V->V->Hp->Prop} (I : Inv X pins σ H s) (h : ta σ H fun x H1=>tb σ H1 fun y H2=>R x y H2)
  {α : Type} {Q : α->Shared->Prop} {f : Value->Value->Sem α}
  (hf : ∀ v u s2 x y H2,Inv X pins σ H2 s2->aN x v->aN y u->R x y H2->wpAny (model X.prog X.w) X.A (f v u) Q X.xe s2) :
  wpAny (model X.prog X.w) X.A (eval a X.env) (fun v s₁=>wpAny (model X.prog X.w) X.A (eval b X.env) (fun u s₂=>wpAny (model X.prog X.w) X.A (f v u) Q X.xe s₂) X.xe s₁) X.xe s:=by
 refine thn (ha pins s σ H _ I h) fun v s1 ⟨x,H1,I1,r1,q1⟩=>?_
 refine thn (hb pins s1 σ H1 _ I1 q1) fun u s2 ⟨y,H2,I2,r2,q2⟩=>?_
 exact hf v u s2 x y H2 I2 r1 r2 q2
def B9 (i : Nat) : TE:=fun σ H Q=>∃ v,σ[i]? = some (some v)/\Q v H
def tC (v : V) : TE:=fun _ H Q=>Q v H
theorem pq {i : Nat} {x : Str} {pos : Pos} (hN : X.N[i]? = some x) (hv : Vis X.env.scope x) (hd : (x == ("__debug__" : Str)) = false:=by decide) (hcd : (x == ("__classdict__" : Str)) = false:=by decide) : PE X (.Name x pos) (B9 i):=by
 intro pins s σ H Q I h
 obtain ⟨v,e,h⟩:=h
 obtain ⟨m,hn,hl⟩:=I.loc
 obtain ⟨u,r,l⟩:=hl i x v hN e hv
 have fin : EP X pins σ Q u s:=⟨v,H,I,r,h⟩
 rcases l with ⟨hk,hm⟩ | ⟨hk,c,hc,hcell⟩
 ·exact wpAny_Name (wpAny_loadName_local I.ok.kind hk hn hm fin) hd
 ·rcases hk with hk | hk
  ·exact wpAny_Name (wpAny_loadName_cell I.ok.kind hk hc hcell fin) hd
  ·exact wpAny_Name (wpAny_loadName_free I.ok.kind hk hc hcell fin hcd) hd
theorem BA {i j pos} : PE X (.Constant (.int i) j pos) (tC (.int i)):=fun _ _ _ H _ I h=>wpAny_Constant_int ⟨.int i,H,I.tok _,⟨_,rfl⟩,h⟩
theorem Di {b j pos} : PE X (.Constant (.bool b) j pos) (tC (.bl b)):=fun _ _ _ H _ I h=>Constant_bool ⟨.bl b,H,I,rfl,h⟩
theorem BB {j pos} : PE X (.Constant .none j pos) (tC .non):=fun _ _ _ H _ I h=>Constant_none ⟨.non,H,I,rfl,h⟩
theorem BC {x j pos} : PE X (.Constant (.str x) j pos) (tC (.str x)):=fun _ _ _ H _ I h=>Calls.Constant_str ⟨.str x,H,I.tok _,⟨_,rfl⟩,h⟩
def Gl (X : Cx) (x : Str) : Prop:=X.env.kindOf x = some .globalImplicit
theorem pr {E : Value->Shared->Prop} {pins : List (Addr × Obj)} {s : Shared} {σ : St} {H : Hp} {x : Str} {u : Value} {pos : Pos} {Q : Value->Shared->Prop} (I : Inv X pins σ H s) (hg : Gl X x) (hm : X.mg x = some u) (h : Q u s)
  (hd : (x == ("__debug__" : Str)) = false:=by decide) : wpAny (model X.prog X.w) X.A (eval (.Name x pos) X.env) Q E s :=
 Calls.Name_function_global I.ok.kind hg (Calls.loadGlobal_global (by rw [I.ok.glob]; exact I.mod.glob.keeps I.bk) hm h) hd
theorem iB {E : Value->Shared->Prop} {pins : List (Addr × Obj)} {s : Shared} {σ : St} {H : Hp} {x : Str} {u : Value} {pos : Pos} {Q : Value->Shared->Prop} (I : Inv X pins σ H s) (hg : Gl X x) (hm : X.mg x = none) (hv : bootBuiltins x = some u) (h : Q u s)
  (hn : x ≠ "__name__":=by decide) (hd : (x == ("__debug__" : Str)) = false:=by decide) : wpAny (model X.prog X.w) X.A (eval (.Name x pos) X.env) Q E s:=by
 obtain ⟨mb,h1,h2⟩:=I.mod.blt
 exact Calls.Name_function_global I.ok.kind hg (Calls.loadGlobal_builtin (by rw [I.ok.glob]; exact I.mod.glob.keeps I.bk) hm (by rw [I.ok.blt]; exact h1.keeps I.bk) ((h2 x hn).trans hv) h) hd
theorem uR {x : Str} {v : V} {u : Value} {pos : Pos} (hg : Gl X x) (hm : X.mg x = some u) (r : aN v u) (hd : (x == ("__debug__" : Str)) = false:=by decide) : PE X (.Name x pos) (tC v) :=
 fun _ _ _ H _ I h=>pr I hg hm ⟨v,H,I,r,h⟩ hd
def t2I (ta tb : TE) (k : Int->Int->Hp->Prop) : St->Hp->Prop:=fun σ H=>ta σ H fun x H1=>tb σ H1 fun y H2=>∃ i j,x = .int i/\y = .int j/\k i j H2
variable {a b : Expr} {ta tb : TE} {pos : Pos}
def PC (X : Cx) (op : CmpOp) (a b : Expr) (t : TE) : Prop :=
 ∀ (pins : List (Addr × Obj)) (s : Shared) (σ : St) (H : Hp) (Q : VK),Inv X pins σ H s->t σ H Q ->
  wpAny (model X.prog X.w) X.A (eval a X.env) (fun v s₁=>wpAny (model X.prog X.w) X.A (eval b X.env) (fun u s₂=>wpAny (model X.prog X.w) X.A (compareOp op v u) (EP X pins σ Q) X.xe s₂) X.xe s₁) X.xe s
theorem l5 (b : Expr) {op : CmpOp} (h : op ≠ .In) (h2 : op ≠ .NotIn) : behindInMarks op b = false:=by
 have e1 : (op == CmpOp.In) = false:=by cases op <;> first | rfl | exact absurd rfl h
 have e2 : (op == CmpOp.NotIn) = false:=by cases op <;> first | rfl | exact absurd rfl h2
 cases b <;> simp [behindInMarks,e1,e2]
def Dj (p : Int->Int->Bool) (ta tb : TE) : TE:=fun σ H Q=>t2I ta tb (fun i j H2=>Q (.bl (p i j)) H2) σ H
abbrev tLt : TE->TE->TE:=Dj fun i j=>decide (i < j)
abbrev tGt : TE->TE->TE:=Dj fun i j=>decide (j < i)
def tB (t : TE) : TT:=fun σ H Q=>t σ H fun x H1=>∃ c,x = .bl c/\Q c H1
theorem Er {op : CmpOp} {t : TE} (h : PC X op a b t) (h1 : behindInMarks op b = false:=by first | exact l5 _ (by decide) (by decide) | rfl) : PT X (.Compare a [op] [b] pos) (tB t):=by
 intro pins s σ H Q I hw
 refine wpAny_isTrue_Compare1 (thn (h pins s σ H _ I hw) fun v s1 h1=>thn h1 fun u s2 h2=>thn h2 fun c s3 ⟨x,H1,I1,r1,q1⟩=>?_) h1
 obtain ⟨d,rfl,q⟩:=q1
 cases r1
 exact wpAny_truthy_bool ⟨H1,I1,q⟩
theorem BD {e : Expr} {t : TE} (h : PE X e t) (he : ∀ whole,isTrue e X.env whole = (do let v ← whole; standAt e.pos; holding [v] (truthy v)):=by intro _; rfl) : PT X e (tB t):=by
 intro pins s σ H Q I hw
 refine isTrue_plain (thn (h pins s σ H _ I hw) fun v s1 ⟨x,H1,I1,r1,q1⟩=>?_) (he _)
 obtain ⟨d,rfl,q⟩:=q1
 cases r1
 exact wpAny_truthy_bool ⟨H1,I1,q⟩
variable {tA tB' : TT} {ay : List Expr}
def Dk (t u : TT) : TT:=fun σ H Q=>t σ H fun c H1=>if c = true then u σ H1 Q else Q false H1
def tOr (t u : TT) : TT:=fun σ H Q=>t σ H fun c H1=>if c = true then Q true H1 else u σ H1 Q
def Dl (t : TT) : TT:=fun σ H Q=>t σ H fun c H1=>Q (!c) H1
theorem z5 (ha : PT X a tA) : PW X (.BoolOp .And [a] pos) tA:=by
 intro wh pins s σ H Q I h
 refine isTrue_and (thn (ha pins s σ H Q I h) fun c s1 e=>?_)
 cases c with
 | true=>exact isTrue_and_nil e
 | false=>exact e
theorem BE (ha : PT X a tA) : PW X (.BoolOp .Or [a] pos) tA:=by
 intro wh pins s σ H Q I h
 refine isTrue_or (thn (ha pins s σ H Q I h) fun c s1 e=>?_)
 cases c with
 | false=>exact isTrue_or_nil e
 | true=>exact e
theorem BF (ha : PT X a tA) (hb : PW X (.BoolOp .And (b :: ay) pos) tB') : PW X (.BoolOp .And (a :: b :: ay) pos) (Dk tA tB'):=by
 intro wh pins s σ H Q I h
 refine isTrue_and (thn (ha pins s σ H _ I h) fun c s1 ⟨H1,I1,q1⟩=>?_)
 cases c with
 | true=>exact hb wh pins s1 σ H1 Q I1 q1
 | false=>exact ⟨H1,I1,q1⟩
theorem Dm (ha : PT X a tA) (hb : PW X (.BoolOp .Or (b :: ay) pos) tB') : PW X (.BoolOp .Or (a :: b :: ay) pos) (tOr tA tB'):=by
 intro wh pins s σ H Q I h
 refine isTrue_or (thn (ha pins s σ H _ I h) fun c s1 ⟨H1,I1,q1⟩=>?_)
 cases c with
 | true=>exact ⟨H1,I1,q1⟩
 | false=>exact hb wh pins s1 σ H1 Q I1 q1
theorem BG (ha : PT X a tA) : PT X (.UnaryOp .Not a pos) (Dl tA):=by
 intro pins s σ H Q I h
 exact isTrue_not (ha pins s σ H (fun c H1=>Q (!c) H1) I h)
def Dn (ta tb : TE) : TE:=fun σ H Q=>ta σ H fun x H1=>∃ c,x = .bl c/\if c = true then tb σ H1 Q else Q (.bl false) H1
def Es (ta tb : TE) : TE:=fun σ H Q=>ta σ H fun x H1=>∃ c,x = .bl c/\if c = true then Q (.bl true) H1 else tb σ H1 Q
theorem BH {op} {t : TE} (h : PE X a t) : PE X (.BoolOp op [a] pos) t:=fun pins s σ H Q I hw=>BoolOp_one (h pins s σ H Q I hw)
theorem BI (ha : PE X a ta) (hb : PE X (.BoolOp .And (b :: ay) pos) tb) : PE X (.BoolOp .And (a :: b :: ay) pos) (Dn ta tb):=by
 intro pins s σ H Q I h
 refine BoolOp_and (thn (ha pins s σ H _ I h) fun v s1 ⟨x,H1,I1,r1,q1⟩=>?_)
 obtain ⟨c,rfl,q1⟩:=q1
 cases r1
 refine wpAny_truthy_bool ?_
 cases c with
 | true=>exact hb pins s1 σ H1 Q I1 q1
 | false=>exact ⟨.bl false,H1,I1,rfl,q1⟩
theorem Do (ha : PE X a ta) (hb : PE X (.BoolOp .Or (b :: ay) pos) tb) : PE X (.BoolOp .Or (a :: b :: ay) pos) (Es ta tb):=by
 intro pins s σ H Q I h
 refine BoolOp_or (thn (ha pins s σ H _ I h) fun v s1 ⟨x,H1,I1,r1,q1⟩=>?_)
 obtain ⟨c,rfl,q1⟩:=q1
 cases r1
 refine wpAny_truthy_bool ?_
 cases c with
 | false=>exact hb pins s1 σ H1 Q I1 q1
 | true=>exact ⟨.bl true,H1,I1,rfl,q1⟩
end
def SqL (K : PySem.W.Frag) (H : Hp) (a : Addr) (xs : List V) : Prop :=
 Rd H a (.lst xs) ∨
  ∃ (o : Obj) (its : Array Value) (n : Nat),K.lookup a = some o/\o.cls = .type "list"/\o.dict = none/\o.data = .seq its n/\its.size<=sizeLine/\aK xs its.toList
def SqT (K : PySem.W.Frag) (H : Hp) (a : Addr) (xs : List V) : Prop :=
 Rd H a (.tup xs) ∨
  ∃ (o : Obj) (its : Array Value) (n : Nat),K.lookup a = some o/\o.cls = .type "tuple"/\o.data = .seq its n/\its.size<=sizeLine/\aK xs its.toList
def Et : Value->Option V
 | .none=>some .non
 | .bool b=>some (.bl b)
 | .int i _=>some (.int i)
 | .str x _=>some (.str x)
 | .bytes b _=>some (.byt b)
 | .float b _=>some (.flt b)
 | .ref a=>some (.ref a)
 | .type n=>some (.ty n)
 | _=>none
theorem aN.abs {x : V} {u : Value} (r : aN x u) : Et u = some x:=by
 cases x with
 | non=>cases r; rfl
 | bl _=>cases r; rfl
 | int _=>obtain ⟨t,rfl⟩:=r; rfl
 | str _=>obtain ⟨t,rfl⟩:=r; rfl
 | byt _=>obtain ⟨t,rfl⟩:=r; rfl
 | flt _=>obtain ⟨t,rfl⟩:=r; rfl
 | ref _=>cases r; rfl
 | ty _=>cases r; rfl
theorem aN.inj {x y : V} {u : Value} (r : aN x u) (q : aN y u) : x = y:=Option.some.inj (r.abs.symm.trans q.abs)
theorem aK.inj : ∀ {xs ys : List V} {us : List Value},aK xs us->aK ys us->xs = ys
 | _,_,_,.nil,.nil=>rfl
 | _,_,_,.cons r t,.cons r' t'=>by rw [r.inj r',aK.inj t t']
section
variable {X : Cx} {pins : List (Addr × Obj)} {σ : St} {H : Hp} {s : Shared} {a : Addr} {xs ys : List V}
theorem SqL.of {K : PySem.W.Frag} (h : H a = some (.lst xs)) : SqL K H a xs:=.inl (.inl h)
theorem SqT.of {K : PySem.W.Frag} (h : H a = some (.tup xs)) : SqT K H a xs:=.inl (.inl h)
theorem Inv.list (I : Inv X pins σ H s) (h : SqL X.K H a xs) : ∃ its : List Value,aK xs its/\PlainL s.heap a its.toArray/\xs.length<=sizeLine:=by
 rcases h with h | ⟨o,its,n,hk,hc,hd,hs,hz,r⟩
 ·obtain ⟨z,its,n,r,e⟩:=h.ok I.hok
  exact ⟨its,r,⟨_,n,e,rfl,rfl,rfl⟩,z⟩
 ·refine ⟨its.toList,r,⟨o,n,I.kIn a o hk,hc,hd,by simpa using hs⟩, ?_⟩
  have e:=r.length
  simp only [Array.length_toList] at e
  omega
theorem Inv.tuple (I : Inv X pins σ H s) (h : SqT X.K H a xs) : ∃ its : List Value,aK xs its/\IsTup s.heap a its.toArray/\xs.length<=sizeLine:=by
 rcases h with h | ⟨o,its,n,hk,hc,hs,hz,r⟩
 ·obtain ⟨z,its,r,p⟩:=h.ok I.hok
  exact ⟨its,r,p,z⟩
 ·refine ⟨its.toList,r,⟨o,I.kIn a o hk,hc,n,by simpa using hs⟩, ?_⟩
  have e:=r.length
  simp only [Array.length_toList] at e
  omega
theorem Inv.list_inj (I : Inv X pins σ H s) (h : SqL X.K H a xs) (h' : SqL X.K H a ys) : xs = ys:=by
 obtain ⟨its,r,⟨o,n,e,_,_,d⟩,_⟩:=I.list h
 obtain ⟨its',r',⟨o',n',e',_,_,d'⟩,_⟩:=I.list h'
 rw [e] at e'; cases e'
 rw [d] at d'
 injection d' with d1 _
 have : its = its':=by simpa using congrArg Array.toList d1
 subst this
 exact r.inj r'
theorem Inv.tuple_inj (I : Inv X pins σ H s) (h : SqT X.K H a xs) (h' : SqT X.K H a ys) : xs = ys:=by
 obtain ⟨its,r,⟨o,e,_,n,d⟩,_⟩:=I.tuple h
 obtain ⟨its',r',⟨o',e',_,n',d'⟩,_⟩:=I.tuple h'
 rw [e] at e'; cases e'
 rw [d] at d'
 injection d' with d1 _
 have : its = its':=by simpa using congrArg Array.toList d1
 subst this
 exact r.inj r'
end
abbrev Cx.wish (X : Cx) (E : Value->Shared->Prop) : Cx:={ X with xe:=E }
abbrev Cx.nox (X : Cx) : Cx:=X.wish fun _ _=>False
theorem Cx.Ok.wish {X : Cx} (ok : X.Ok) (E : Value->Shared->Prop) : (X.wish E).Ok :=
 ⟨ok.mod,ok.kind,ok.glob,ok.blt,ok.above,ok.inj,ok.has,ok.cab,ok.hd,ok.frames,ok.stk,ok.exf,ok.bs,ok.bsz,ok.noex,ok.exfs,ok.funs,ok.frf⟩
theorem Cx.Ok.unwish {X : Cx} {E : Value->Shared->Prop} (ok : (X.wish E).Ok) : X.Ok :=
 ⟨ok.mod,ok.kind,ok.glob,ok.blt,ok.above,ok.inj,ok.has,ok.cab,ok.hd,ok.frames,ok.stk,ok.exf,ok.bs,ok.bsz,ok.noex,ok.exfs,ok.funs,ok.frf⟩
section
variable {X : Cx} {pins : List (Addr × Obj)} {σ : St} {H : Hp} {s : Shared} {E : Value->Shared->Prop}
theorem Inv.wish (I : Inv X pins σ H s) (E : Value->Shared->Prop) : Inv (X.wish E) pins σ H s:=⟨I.ok.wish E,I.os,I.bare,I.base,I.loc,I.cell,I.free,I.freeC,I.pin,I.hok,I.len⟩
theorem Inv.unwish (I : Inv (X.wish E) pins σ H s) : Inv X pins σ H s:=⟨I.ok.unwish,I.os,I.bare,I.base,I.loc,I.cell,I.free,I.freeC,I.pin,I.hok,I.len⟩
theorem SP.unwish {D : Ends} {f : Flow} {s' : Shared} (h : SP (X.wish E) pins D f s') : SP X pins D f s':=by
 cases f with
 | next=>obtain ⟨σ',H',I,q⟩:=h; exact ⟨σ',H',I.unwish,q⟩
 | brk=>obtain ⟨σ',H',I,q⟩:=h; exact ⟨σ',H',I.unwish,q⟩
 | cont=>obtain ⟨σ',H',I,q⟩:=h; exact ⟨σ',H',I.unwish,q⟩
 | ret u=>obtain ⟨v,σ',H',I,r,q⟩:=h; exact ⟨v,σ',H',I.unwish,r,q⟩
theorem PSs.nox {st : List Stmt} {t : TS} (h : PSs X.nox st t) : PSs X st t:=fun pins s σ H D I hw =>
 wpAny_mono (h pins s σ H D (I.wish _) hw) (fun _ _ q=>q.unwish) fun _ _ z=>False.elim z
end
section
variable {X : Cx} {st : Stmt} {ay : List Stmt} {t u : TS} {e : Expr} {te : TE} {pos : Pos}
def AI : TS:=fun D σ H=>D.nx σ H
def Dp (t u : TS) : TS:=fun D σ H=>t { D with nx:=u D } σ H
theorem z6 : PSs X [] AI:=fun _ _ σ H _ I h=>wpAny_execs_nil ⟨σ,H,I,h⟩
theorem xl (h1 : PS X st t) (h2 : PSs X ay u) : PSs X (st :: ay) (Dp t u):=by
 intro pins s σ H D I h
 refine wpAny_execs_cons (thn (h1 pins s σ H { D with nx:=u D } I h) fun f s1 q=>?_)
 cases f with
 | next =>
  obtain ⟨σ',H',I',q⟩:=q
  exact h2 pins s1 σ' H' D I' q
 | ret v=>exact q
 | brk=>exact q
 | cont=>exact q
theorem z7 (h1 : PS X st t) : PSs X [st] t:=by
 intro pins s σ H D I h
 refine wpAny_execs_cons (thn (h1 pins s σ H D I h) fun f s1 q=>?_)
 cases f with
 | next=>exact wpAny_execs_nil q
 | ret v=>exact q
 | brk=>exact q
 | cont=>exact q
def Dq : TS:=fun D σ H=>D.ct σ H
theorem qM : PS X (.Continue pos) Dq:=fun _ _ σ H _ I h=>wpAny_Continue ⟨σ,H,I,h⟩
theorem Inv.quiet {pins : List (Addr × Obj)} {σ : St} {H : Hp} {s : Shared} (I : Inv X pins σ H s) : interactive X.env = false:=by simp [interactive,I.ok.kind]
def Dr (te : TE) : TS:=fun D σ H=>te σ H fun _ H1=>D.nx σ H1
theorem z8 (he : PE X e te) (hs : swapsWith e none pos.line X.env = pure false:=by rfl) : PS X (.Expr e pos) (Dr te):=by
 intro pins s σ H D I h
 exact wpAny_Expr_any (thn (he pins s σ H _ I h) fun v s1 ⟨x,H1,I1,r1,q1⟩=>⟨σ,H1,I1,q1⟩) I.quiet hs
def BJ (te : TE) : TS:=fun D σ H=>te σ H D.rt
theorem xm (he : PE X e te) : PS X (.Return (some e) pos) (BJ te):=by
 intro pins s σ H D I h
 exact wpAny_Return_some (thn (he pins s σ H _ I h) fun v s1 ⟨x,H1,I1,r1,q1⟩=>⟨x,σ,H1,I1,r1,q1⟩)
def Ds (c : TT) (t u : TS) : TS:=fun D σ H=>c σ H fun b H1=>if b = true then t D σ H1 else u D σ H1
theorem Dt {c : Expr} {a b : List Stmt} {tc : TT} (hc : PT X c tc) (ha : PSs X a t) (hb : PSs X b u) : PS X (.If c a b pos) (Ds tc t u):=by
 intro pins s σ H D I h
 refine wpAny_If (thn (hc pins s σ H _ I h) fun d s1 ⟨H1,I1,q1⟩=>?_)
 cases d with
 | true=>exact ha pins s1 σ H1 D I1 q1
 | false=>exact hb pins s1 σ H1 D I1 q1
end
abbrev TG:=V->St->Hp->(St->Hp->Prop)->Prop
abbrev TGs:=List V->St->Hp->(St->Hp->Prop)->Prop
def PG (X : Cx) (target : Expr) (t : TG) : Prop :=
 ∀ (pins : List (Addr × Obj)) (s : Shared) (σ : St) (H : Hp) (v : V) (u : Value) (Q : St->Hp->Prop),Inv X pins σ H s->aN v u->t v σ H Q ->
  wpAny (model X.prog X.w) X.A (assign target X.env u) (fun _ s'=>∃ σ' H',Inv X pins σ' H' s'/\Q σ' H') X.xe s
def PGs (X : Cx) (ts : List Expr) (t : TGs) : Prop :=
 ∀ (pins : List (Addr × Obj)) (s : Shared) (σ : St) (H : Hp) (vs : List V) (us : List Value) (Q : St->Hp->Prop),Inv X pins σ H s->aK vs us->t vs σ H Q ->
  wpAny (model X.prog X.w) X.A (assignInOrder ((assignEach ts X.env).map (·.2)) us) (fun _ s'=>∃ σ' H',Inv X pins σ' H' s'/\Q σ' H') X.xe s
section
variable {X : Cx} {pos : Pos}
def k9 (i : Nat) : TG:=fun v σ H Q=>Q (σ.set i (some v)) H
theorem aW {i : Nat} {x : Str} (hN : X.N.Nodup) (hi : X.N[i]? = some x) (hx : Loc X.env.scope x) (hf : X.fn x = true ∨ X.env.scope.names.lookup x = some .local:=by first | exact .inl rfl | exact .inr rfl | assumption) : PG X (.Name x pos) (k9 i):=by
 intro pins s σ H v u Q I r h
 exact wpAny_assign_Name (qL I hN hi hx r (fun s' I'=>⟨_,H,I',h⟩) hf)
def Du : TGs:=fun vs σ H Q=>vs = []/\Q σ H
def AJ (t : TG) (u : TGs) : TGs:=fun vs σ H Q=>∃ v r,vs = v :: r/\t v σ H fun σ' H'=>u r σ' H' Q
theorem pv : PGs X [] Du:=by
 intro pins s σ H vs us Q I r h
 obtain ⟨e,h⟩:=h
 subst e
 cases r
 exact assignInOrder_nil ⟨σ,H,I,h⟩
theorem dQ {e : Expr} {es : List Expr} {t : TG} {u : TGs} (h1 : PG X e t) (h2 : PGs X es u)
  (hs : (assignEach (e :: es) X.env).map (·.2) = assign e X.env :: (assignEach es X.env).map (·.2):=by rfl) : PGs X (e :: es) (AJ t u):=by
 intro pins s σ H vs us Q I r h
 obtain ⟨v,vr,e1,h⟩:=h
 subst e1
 cases r with
 | cons r rr =>
  rw [hs]
  refine assignInOrder_cons (thn (h1 pins s σ H _ _ _ I r h) fun _ s1 ⟨σ1,H1,I1,q1⟩=>?_)
  exact h2 pins s1 σ1 H1 _ _ Q I1 rr q1
def Dv (K : PySem.W.Frag) (n : Nat) (t : TGs) : TG:=fun v σ H Q=>∃ a xs,v = .ref a/\SqT K H a xs/\xs.length = n/\t xs σ H Q
theorem xn {es : List Expr} {k : Nat} {t : TGs} {n : Nat} (hc : X.calm = true) (h : PGs X es t)
  (hn : (assignEach es X.env).length = n:=by rfl) (hst : (assignEach es X.env).findIdx? (·.1) = none:=by rfl) : PG X (.Tuple es k pos) (Dv X.K n t):=by
 intro pins s σ H v u Q I r hw
 obtain ⟨a,xs,e1,hq,hl,hw⟩:=hw
 subst e1
 cases r
 obtain ⟨its,rv,ht,hz⟩:=I.tuple hq
 refine assign_Tuple_tuple (I.ok.hd hc) ht (by simp [hn,← hl,rv.length]) hst fun h' hx=>?_
 have I1 : Inv X pins σ H { s with heap:=h' }:=I.kept (t':=s.toks) fun b o e=>hx b o (Nat.ne_of_lt (Heap.lt_size e)) e
 exact h pins _ σ H xs _ Q I1 (by simpa using rv) hw
def wf (te : TE) (g : TG) : TS:=fun D σ H=>te σ H fun x H1=>g x σ H1 D.nx
theorem BK {tg e : Expr} {te : TE} {g : TG} (he : PE X e te) (hg : PG X tg g) (hs : swapsWithSole [tg] e pos.line X.env = pure false:=by rfl) (hw : swappedStores [tg] e X.env = pure none:=by rfl)
  (h1 : (assignEach [tg] X.env).map (·.2) = [assign tg X.env]:=by rfl) : PS X (.Assign [tg] e pos) (wf te g):=by
 intro pins s σ H D I h
 refine wpAny_Assign_stores (thn (he pins s σ H _ I h) fun v s1 ⟨x,H1,I1,r1,q1⟩=>?_) hs hw
 rw [h1]
 exact thn (hg pins s1 σ H1 x v _ I1 r1 q1) fun _ s2 q=>q
theorem xo {i : Nat} {x : Str} {e : Expr} {te : TE} {pos' : Pos} (hN : X.N.Nodup) (hi : X.N[i]? = some x) (hx : Loc X.env.scope x) (he : PE X e te) (hs : swapsWith e (some (.Name x pos')) pos.line X.env = pure false:=by rfl) (hf : X.fn x = true ∨ X.env.scope.names.lookup x = some .local:=by first | exact .inl rfl | exact .inr rfl | assumption) :
  PS X (.Assign [.Name x pos'] e pos) (wf te (k9 i)):=by
 intro pins s σ H D I h
 refine wpAny_Assign_Name (thn (he pins s σ H _ I h) fun v s1 ⟨y,H1,I1,r1,q1⟩=>?_) hs
 exact qL I1 hN hi hx r1 (fun s2 I2=>⟨_,H1,I2,q1⟩) hf
end
section
variable {X : Cx} {pos : Pos}
def xp (c : TT) (tb : TS) : TS:=fun D σ H=>∃ W : Nat->St->Hp->Prop,(∃ m,W m σ H)/\∀ m σ H,W m σ H ->
 c σ H fun b H1=>if b = true then ∃ N : St->Hp->Prop,(∀ σ' H',N σ' H'->∃ m',m' < m/\W m' σ' H')/\tb { D with nx:=N,ct:=N,bk:=D.nx } σ H1 else D.nx σ H1
theorem xq {c : Expr} {body : List Stmt} {tc : TT} {tb : TS} (hp : PassesOwn (model X.prog X.w) X.A X.env X.xe) (hc : PT X c tc) (hb : PSs X body tb) : PS X (.While c body [] pos) (xp tc tb):=by
 intro pins s σ H D I h
 obtain ⟨W,⟨m0,w0⟩,turn⟩:=h
 refine wpAny_While (codeAny_whileLoop (fun n s'=>∃ σ' H',Inv X pins σ' H' s'/\W n σ' H') ?_ m0 ⟨σ,H,I,w0⟩)
 rintro n s1 ⟨σ1,H1,I1,w1⟩
 refine wpAny_passesOwn hp (thn (hc pins s1 σ1 H1 _ I1 (turn n σ1 H1 w1)) fun b s2 ⟨H2,I2,q2⟩=>?_)
 cases b with
 | true =>
  obtain ⟨N,hN,q2⟩:=q2
  rw [if_pos rfl]
  refine wpAny_passesOwn hp (thn (hb pins s2 σ1 H2 _ I2 q2) fun f s3 q3=>?_)
  cases f with
  | next =>
   obtain ⟨σ3,H3,I3,n3⟩:=q3
   obtain ⟨m',hm,w3⟩:=hN σ3 H3 n3
   exact ⟨m',hm,σ3,H3,I3,w3⟩
  | cont =>
   obtain ⟨σ3,H3,I3,n3⟩:=q3
   obtain ⟨m',hm,w3⟩:=hN σ3 H3 n3
   exact ⟨m',hm,σ3,H3,I3,w3⟩
  | brk=>exact q3
  | ret v=>exact q3
 | false =>
  rw [if_neg Bool.false_ne_true]
  exact wpAny_execs_nil ⟨σ1,H2,I2,q2⟩
end
structure It where
 go : Nat->Hp->Prop
 yld : Nat->Hp->V->Hp->Prop
 stop : Nat->Hp->Prop
def jE (X : Cx) (pins : List (Addr × Obj)) (H : Hp) (b : Addr) : Prop :=
 H b = none/\b ≠ X.env.locals/\b ∉ X.fs/\(b ∈ X.ex ∨ X.s₀.heap.objs.size<=b)/\(∀ x c,X.env.cells.lookup x = some c->c ≠ b)/\∀ p ∈ X.pn ++ pins,p.1 ≠ b
theorem Inv.fpOk {X : Cx} {pins : List (Addr × Obj)} {σ : St} {H H' : Hp} {s : Shared} {b : Addr} (I : Inv X pins σ H s) (hb : s.heap.objs.size<=b) (hn : H' b = none) : jE X pins H' b:=by
 refine ⟨hn,Nat.ne_of_gt (Nat.lt_of_lt_of_le I.lt hb),I.nofs hb,.inr (Nat.le_trans I.sz hb),fun x c e z=>?_,fun p hp z=>?_⟩
 ·obtain ⟨v,q⟩:=I.cell x c e
  exact absurd (Nat.lt_of_lt_of_le q.lt (by rw [z]; exact hb)) (Nat.lt_irrefl _)
 ·exact absurd (Nat.lt_of_lt_of_le (Heap.lt_size (I.pin p hp).1) (by rw [z]; exact hb)) (Nat.lt_irrefl _)
structure Turn (P : Program) (w : World) (K : PySem.W.Frag) (tg : Expr) (J : It) (fp : List Addr) (it : Addr) (tn : Nat->Heap->Prop) : Prop where
 mem : it ∈ fp
 obj : ∀ i h,tn i h->∀ b ∈ fp,∃ o,h.get? b = some o/\∀ v,o.data ≠ .cell v
 keep : ∀ i h h',tn i h->(∀ b ∈ fp,∀ o,h.get? b = some o->h'.get? b = some o)->tn i h'
 item : ∀ (X : Cx),X.prog = P->X.w = w->X.K = K->X.calm = true->∀ (i : Nat) (pins : List (Addr × Obj)) (s : Shared) (σ : St) (H : Hp) (E : Value->Shared->Prop),Inv X pins σ H s->(∀ b ∈ fp,jE X pins H b)->tn i s.heap->J.go i H ->
  wpAny (model P w) X.A (pyNext (.ref it)) (fun r s1=>∃ u,r = some u /\
   wpAny (model P w) X.A (letOwnedTupleGo tg (.ref it) u) (fun _ s2=>∃ x H',Inv X pins σ H' s2/\aN x u/\J.yld i H x H'/\tn (i + 1) s2.heap/\∀ b ∈ fp,H' b = none) E s1) E s
 done : ∀ (X : Cx),X.prog = P->X.w = w->X.K = K->X.calm = true->∀ (i : Nat) (pins : List (Addr × Obj)) (s : Shared) (σ : St) (H : Hp) (E : Value->Shared->Prop),Inv X pins σ H s->(∀ b ∈ fp,jE X pins H b)->tn i s.heap->J.stop i H ->
  wpAny (model P w) X.A (pyNext (.ref it)) (fun r s1=>r = none/\Inv X pins σ H s1) E s
 self : ∀ (A : Around) (i : Nat) (s : Shared) (Q : Value->Shared->Prop) (E : Value->Shared->Prop),tn i s.heap->Q (.ref it) s->wpAny (model P w) A (pyIter (.ref it)) Q E s
abbrev TI:=St->Hp->(It->Hp->Prop)->Prop
def PIE (X : Cx) (pins : List (Addr × Obj)) (σ : St) (tg : Expr) (R : It->Hp->Prop) (itv : Value) (s2 : Shared) : Prop :=
 ∃ (it : Addr) (fp : List Addr) (tn : Nat->Heap->Prop) (J : It) (H' : Hp),itv = .ref it/\Inv X pins σ H' s2/\Turn X.prog X.w X.K tg J fp it tn/\tn 0 s2.heap/\(∀ b ∈ fp,jE X pins H' b)/\R J H'
def PI (X : Cx) (tg iter : Expr) (wi : TI) : Prop :=
 ∀ (pins : List (Addr × Obj)) (s : Shared) (σ : St) (H : Hp) (R : It->Hp->Prop),Inv X pins σ H s->wi σ H R ->
  wpAny (model X.prog X.w) X.A (eval iter X.env) (fun v s1=>wpAny (model X.prog X.w) X.A (pyIter v) (PIE X pins σ tg R) X.xe s1) X.xe s
theorem qN {M : Model} {A : Around} {E : Value->Shared->Prop} {s : Shared} {tg : Expr} {it : Addr} {u : Value} {o : Obj} {n : String} {vs : Array Value} {Q : Unit->Shared->Prop} (ho : s.heap.get? it = some o) (hc : o.cls = .type n) (hd : o.data = .fields vs)
    (hn : ["enumerate","zip","dict_itemiterator","dict_reverseitemiterator","odict_iterator","itertools.zip_longest","itertools.pairwise"].contains n = false) (hQ : Q () s) : wpAny M A (letOwnedTupleGo tg (.ref it) u) Q E s:=by
  unfold letOwnedTupleGo
  cases tg <;> first
    | exact wY hQ
    | (cases u <;> first
        | exact wY hQ
        | (refine wX (wpAny_load ho ?_)
           rw [hc,hd]
           show wpAny M A (if (["enumerate","zip","dict_itemiterator","dict_reverseitemiterator","odict_iterator","itertools.zip_longest","itertools.pairwise"].contains n && vs[0]? == some (rawInt _)) = true then _ else _) Q E s
           rw [if_neg (by intro h; rw [hn,Bool.false_and] at h; cases h)]
           exact wY hQ))
def Itl (K : PySem.W.Frag) (a : Addr) : It :=
 ⟨fun i H=>∃ xs x,SqL K H a xs/\xs[i]? = some x,fun i H x H'=>H' = H/\∀ xs,SqL K H a xs->xs[i]? = some x,fun i H=>∃ xs,SqL K H a xs/\xs.length<=i⟩
def Itt (K : PySem.W.Frag) (a : Addr) : It :=
 ⟨fun i H=>∃ xs x,SqT K H a xs/\xs[i]? = some x,fun i H x H'=>H' = H/\∀ xs,SqT K H a xs->xs[i]? = some x,fun i H=>∃ xs,SqT K H a xs/\xs.length<=i⟩
def Itr (lo : Int) (n : Nat) : It:=⟨fun i _=>i < n,fun i H x H'=>H' = H/\x = .int (lo + i),fun i _=>n<=i⟩
theorem wg {P : Program} {w : World} {K : PySem.W.Frag} {tg : Expr} (a it : Addr) : Turn P w K tg (Itl K a) [it] it (fun i h=>h.IsListIter it a i) where
 mem:=by simp
 obj:=fun i h st b hb=>by
  have e : b = it:=by simpa using hb
  subst e
  obtain ⟨o,e,c,d⟩:=st
  exact ⟨o,e,fun v z=>by rw [d] at z; cases z⟩
 keep:=fun i h h' st k=>st.at fun o e=>k it (by simp) o e
 item:=by
  intro X hP hw hK hc i pins s σ H E I hf st hg
  subst hP hw hK
  obtain ⟨xs,x,hq,hx⟩:=hg
  obtain ⟨its,rv,p,hz⟩:=I.list hq
  obtain ⟨u,hu,ru⟩:=rv.get hx
  obtain ⟨f0,f1,f2,f3,f4,f5⟩:=hf it (by simp)
  refine wpAny_pyNext_list_item st p.isList (x:=u) (by simpa using hu) fun h' st' sb=>?_
  have I1 : Inv X pins σ H { s with heap:=h' }:=I.turned (t':=s.toks) (fun b o hb e=>(sb.2 b hb).trans e) f0 f1 f3 f4 f5
  obtain ⟨o,e,c,d⟩:=id st'
  exact ⟨u,rfl,qN (s:={ s with heap:=h' }) e c d (by decide) ⟨x,H,I1,ru,⟨rfl,fun ys hy=>by rw [I.list_inj hy hq]; exact hx⟩,st',fun b hb=>(hf b hb).1⟩⟩
 done:=by
  intro X hP hw hK hc i pins s σ H E I hf st hg
  subst hP hw hK
  obtain ⟨xs,hq,hx⟩:=hg
  obtain ⟨its,rv,p,hz⟩:=I.list hq
  obtain ⟨f0,f1,f2,f3,f4,f5⟩:=hf it (by simp)
  have hl:=rv.length
  exact wpAny_pyNext_list_end (I.ok.hd hc) st p.isList (by simp; omega) fun h' eb=>⟨rfl,I.turned (t':=s.toks) (fun b o hb e=>eb b o hb e) f0 f1 f3 f4 f5⟩
 self:=fun _ _ _ _ _ st h=>wpAny_pyIter_listiter st h
theorem t8 {P : Program} {w : World} {K : PySem.W.Frag} {tg : Expr} (a it : Addr) : Turn P w K tg (Itt K a) [it] it (fun i h=>h.IsTupleIter it a i) where
 mem:=by simp
 obj:=fun i h st b hb=>by
  have e : b = it:=by simpa using hb
  subst e
  obtain ⟨o,e,c,d⟩:=st
  exact ⟨o,e,fun v z=>by rw [d] at z; cases z⟩
 keep:=fun i h h' st k=>st.at fun o e=>k it (by simp) o e
 item:=by
  intro X hP hw hK hc i pins s σ H E I hf st hg
  subst hP hw hK
  obtain ⟨xs,x,hq,hx⟩:=hg
  obtain ⟨its,rv,p,hz⟩:=I.tuple hq
  obtain ⟨u,hu,ru⟩:=rv.get hx
  obtain ⟨f0,f1,f2,f3,f4,f5⟩:=hf it (by simp)
  refine wpAny_pyNext_tuple_item st (show s.heap.IsTuple a its.toArray from p) (x:=u) (by simpa using hu) fun h' st' sb=>?_
  have I1 : Inv X pins σ H { s with heap:=h' }:=I.turned (t':=s.toks) (fun b o hb e=>(sb.2 b hb).trans e) f0 f1 f3 f4 f5
  obtain ⟨o,e,c,d⟩:=id st'
  exact ⟨u,rfl,qN (s:={ s with heap:=h' }) e c d (by decide) ⟨x,H,I1,ru,⟨rfl,fun ys hy=>by rw [I.tuple_inj hy hq]; exact hx⟩,st',fun b hb=>(hf b hb).1⟩⟩
 done:=by
  intro X hP hw hK hc i pins s σ H E I hf st hg
  subst hP hw hK
  obtain ⟨xs,hq,hx⟩:=hg
  obtain ⟨its,rv,p,hz⟩:=I.tuple hq
  obtain ⟨f0,f1,f2,f3,f4,f5⟩:=hf it (by simp)
  have hl:=rv.length
  exact wpAny_pyNext_tuple_end (I.ok.hd hc) st (show s.heap.IsTuple a its.toArray from p) (by simp; omega) fun h' eb=>⟨rfl,I.turned (t':=s.toks) (fun b o hb e=>eb b o hb e) f0 f1 f3 f4 f5⟩
 self:=fun _ _ _ _ _ st h=>wpAny_pyIter_tupleiter st h
theorem t9 {P : Program} {w : World} {K : PySem.W.Frag} {tg : Expr} (it : Addr) (lo : Int) (n : Nat) : Turn P w K tg (Itr lo n) [it] it (fun i h=>IsRangeIter h it (lo + (i : Nat) * 1) ((n : Int) - (i : Nat)) 1) where
 mem:=by simp
 obj:=fun i h st b hb=>by
  have e : b = it:=by simpa using hb
  subst e
  exact ⟨_,st,fun v z=>by
   have z' : Data.fields _ = Data.cell v:=z
   cases z'⟩
 keep:=fun i h h' st k=>k it (by simp) _ st
 item:=by
  intro X hP hw hK hc i pins s σ H E I hf st hg
  subst hP hw hK
  obtain ⟨f0,f1,f2,f3,f4,f5⟩:=hf it (by simp)
  have W:=Walks.range (prog:=X.prog) (w:=X.w) (I.ok.hd hc) it lo 1 n
  refine W.item i s _ _ hg st fun v h' tk hv st' kk=>?_
  obtain ⟨t,rfl⟩:=hv
  have I1 : Inv X pins σ H { s with heap:=h',toks:=tk }:=I.turned (fun b o hb e=>kk b o (by simpa using hb) e) f0 f1 f3 f4 f5
  refine ⟨_,rfl,qN (s:={ s with heap:=h',toks:=tk }) (n:="range_iterator") st' rfl rfl (by decide) ⟨.int (lo + i),H,I1,⟨t, ?_⟩,⟨rfl,rfl⟩,st',fun b hb=>(hf b hb).1⟩⟩
  rw [Int.mul_one]
 done:=by
  intro X hP hw hK hc i pins s σ H E I hf st hg
  subst hP hw hK
  obtain ⟨f0,f1,f2,f3,f4,f5⟩:=hf it (by simp)
  exact wpAny_pyNext_range_end (I.ok.hd hc) st (by have : n<=i:=hg; omega) fun h' eb=>⟨rfl,I.turned (t':=s.toks) (fun b o hb e=>eb b o hb e) f0 f1 f3 f4 f5⟩
 self:=fun _ _ _ _ _ st h=>wpAny_pyIter_rangeiter st h
section
variable {X : Cx} {tg : Expr}
def Dw (K : PySem.W.Frag) (tl : TE) : TI:=fun σ H R=>tl σ H fun x H1=>∃ a,x = .ref a/\(∃ xs,SqL K H1 a xs)/\R (Itl K a) H1
def Eu (K : PySem.W.Frag) (tl : TE) : TI:=fun σ H R=>tl σ H fun x H1=>∃ a,x = .ref a/\(∃ xs,SqT K H1 a xs)/\R (Itt K a) H1
theorem z9 {l : Expr} {tl : TE} (hl : PE X l tl) : PI X tg l (Dw X.K tl):=by
 intro pins s σ H R I h
 refine thn (hl pins s σ H _ I h) fun v s1 ⟨x,H1,I1,r1,q1⟩=>?_
 obtain ⟨a,e,⟨xs,hq⟩,q⟩:=q1
 subst e
 cases r1
 obtain ⟨its,rv,p,hz⟩:=I1.list hq
 refine wpAny_pyIter_list p.isList ?_
 refine ⟨s1.heap.objs.size,[s1.heap.objs.size],_,_,H1,rfl,I1.kept (t':=s1.toks) fun b o e=>Heap.get?_push_of_some _ e,wg a _,⟨_,Heap.get?_push_size _ rfl,rfl,rfl⟩,fun b hb=>?_,q⟩
 have e : b = s1.heap.objs.size:=by simpa using hb
 subst e
 exact I1.fpOk (Nat.le_refl _) (I1.hok.fresh (Nat.le_refl _))
theorem BL {l : Expr} {tl : TE} (hl : PE X l tl) : PI X tg l (Eu X.K tl):=by
 intro pins s σ H R I h
 refine thn (hl pins s σ H _ I h) fun v s1 ⟨x,H1,I1,r1,q1⟩=>?_
 obtain ⟨a,e,⟨xs,hq⟩,q⟩:=q1
 subst e
 cases r1
 obtain ⟨its,rv,p,hz⟩:=I1.tuple hq
 refine wpAny_pyIter_tuple (show s1.heap.IsTuple a its.toArray from p) ?_
 refine ⟨s1.heap.objs.size,[s1.heap.objs.size],_,_,H1,rfl,I1.kept (t':=s1.toks) fun b o e=>Heap.get?_push_of_some _ e,t8 a _,⟨_,Heap.get?_push_size _ rfl,rfl,rfl⟩,fun b hb=>?_,q⟩
 have e : b = s1.heap.objs.size:=by simpa using hb
 subst e
 exact I1.fpOk (Nat.le_refl _) (I1.hok.fresh (Nat.le_refl _))
theorem xr {pins : List (Addr × Obj)} {σ : St} {H : Hp} {s : Shared} {R : It->Hp->Prop} {E : Value->Shared->Prop} {lo hi : Int} {t u v : Tok} {tk : Nat} (I : Inv X pins σ H s) (h1 : -(2 ^ 62)<=lo) (h2 : lo < 2 ^ 62) (h3 : -(2 ^ 62)<=hi) (h4 : hi < 2 ^ 62)
  (q : R (Itr lo (hi - lo).toNat) H) : wpAny (model X.prog X.w) X.A (pyIter (.ref s.heap.objs.size)) (PIE X pins σ tg R) E { s with heap:=s.heap.push { cls:=.type "range",data:=.fields #[.int lo t,.int hi u,.int 1 v] },toks:=tk }:=by
 refine wpAny_pyIter_range (IsRange.new ..) (small_one h1 h2 h3 h4) ?_
 have I1 : Inv X pins σ H { s with heap:=s.heap.push { cls:=.type "range",data:=.fields #[.int lo t,.int hi u,.int 1 v] },toks:=tk }:=I.kept fun b o e=>Heap.get?_push_of_some _ e
 refine ⟨(s.heap.push { cls:=.type "range",data:=.fields #[.int lo t,.int hi u,.int 1 v] }).objs.size,[(s.heap.push { cls:=.type "range",data:=.fields #[.int lo t,.int hi u,.int 1 v] }).objs.size],_,_,H,rfl,
  I1.kept (t':=tk) fun b o e=>Heap.get?_push_of_some _ e,t9 _ lo (hi - lo).toNat, ?_,fun b hb=>?_,q⟩
 ·have e1 : lo + ((0 : Nat) : Int) * 1 = lo:=by simp
  have e2 : (((hi - lo).toNat : Nat) : Int) - ((0 : Nat) : Int) = Builtin.Range.rangeSize lo hi 1:=by rw [rangeSize_one]; split <;> omega
  show IsRangeIter _ _ (lo + ((0 : Nat) : Int) * 1) ((((hi - lo).toNat : Nat) : Int) - ((0 : Nat) : Int)) 1
  rw [e1,e2]
  exact Heap.get?_push_size _ rfl
 ·have e : b = (s.heap.push { cls:=.type "range",data:=.fields #[.int lo t,.int hi u,.int 1 v] }).objs.size:=by simpa using hb
  subst e
  exact I1.fpOk (Nat.le_refl _) (I1.hok.fresh (Nat.le_refl _))
def Dx (ta : TA) : TI:=fun σ H R=>ta σ H fun vs H1=>∃ j : Int,vs = [.int j]/\-(2 ^ 62)<=j/\j < 2 ^ 62/\R (Itr 0 j.toNat) H1
theorem wj {a : Expr} {ta : TA} {p pos : Pos} (hg : Gl X "range") (hm : X.mg "range" = none) (ha : PA X [a] ta) (hs : starEach [a] X.env = [(false,eval a X.env)]:=by rfl) : PI X tg (.Call (.Name "range" p) [a] [] pos) (Dx ta):=by
 intro pins s σ H R I h
 refine Call_ (iB I hg hm boot_range (PyProof.Rows.callWith_type1 (thn (ha pos pins s σ H _ I h) fun us s1 ⟨vs,H1,I1,r1,q1⟩=>?_) hs rfl))
 obtain ⟨j,e,q1,q2,q⟩:=q1
 subst e
 cases r1 with
 | cons r rr =>
  cases rr
  obtain ⟨t,rfl⟩:=r
  exact call_range_1 (xr I1 (by omega) (by omega) q1 q2 (by simpa using q))
def BM (wi : TI) (g : TG) (tb : TS) : TS:=fun D σ H=>wi σ H fun J H1=>∃ W : Nat->Nat->St->Hp->Prop,(∃ m,W 0 m σ H1)/\∀ i m σ H,W i m σ H ->
 (J.stop i H/\D.nx σ H) ∨ (J.go i H/\∃ N : St->Hp->Prop,(∀ σ' H',N σ' H'->∃ m',m' < m/\W (i + 1) m' σ' H')/\∀ x H',J.yld i H x H'->g x σ H' fun σ2 H2=>tb { D with nx:=N,ct:=N,bk:=D.nx } σ2 H2)
def jF (fp : List Addr) (h : Heap) : List (Addr × Obj):=fp.filterMap fun b=>(h.get? b).map fun o=>(b,o)
theorem fQ {fp : List Addr} {h : Heap} {b : Addr} {o : Obj} (hb : b ∈ fp) (e : h.get? b = some o) : (b,o) ∈ jF fp h:=List.mem_filterMap.mpr ⟨b,hb,by rw [e]; rfl⟩
theorem wl {fp : List Addr} {h : Heap} {p : Addr × Obj} (hp : p ∈ jF fp h) : p.1 ∈ fp/\h.get? p.1 = some p.2:=by
 obtain ⟨b,hb,e⟩:=List.mem_filterMap.mp hp
 cases q : h.get? b with
 | none=>rw [q] at e; cases e
 | some o =>
  rw [q] at e
  have e' : (b,o) = p:=Option.some.inj e
  subst e'
  exact ⟨hb,q⟩
theorem Inv.pinned {pins : List (Addr × Obj)} {σ : St} {H : Hp} {s : Shared} {fp : List Addr} (I : Inv X pins σ H s) (hf : ∀ b ∈ fp,jE X pins H b) (ho : ∀ b ∈ fp,∃ o,s.heap.get? b = some o/\∀ v,o.data ≠ .cell v) : Inv X (pins ++ jF fp s.heap) σ H s :=
 I.pins_of fun p hp=>(List.mem_append.mp hp).elim (fun z=>I.pin p (mY _ z)) fun z=>by
  obtain ⟨hb,e⟩:=wl z
  obtain ⟨f0,f1,f2,_⟩:=hf p.1 hb
  obtain ⟨o,e',d⟩:=ho p.1 hb
  rw [e] at e'; cases e'
  exact ⟨e,f0,f1,f2,d⟩
theorem Inv.unpinned {pins pl : List (Addr × Obj)} {σ : St} {H : Hp} {s : Shared} (I : Inv X (pins ++ pl) σ H s) : Inv X pins σ H s:=I.pins_of fun p hp=>I.pin p (mY _ (List.mem_append_left _ hp))
theorem xu {iter : Expr} {body : List Stmt} {wi : TI} {g : TG} {tb : TS} {pos : Pos} (hp : PassesOwn (model X.prog X.w) X.A X.env X.xe) (hc : X.calm = true) (hi : PI X tg iter wi) (hg : PG X tg g) (hb : PSs X body tb)
  (hs : ∀ x,foldedSetIterable iter X.env x = pure x:=by intro _; rfl) : PS X (.For tg iter body [] pos) (BM wi g tb):=by
 intro pins s σ H D I h
 refine wpAny_For (thn (hi pins s σ H _ I h) fun v s1 h1=>thn h1 fun itv s2 h2=>?_) hs
 obtain ⟨it,fp,tn,J,H2,e,I2,T,st2,f2,W,⟨m0,w0⟩,turn⟩:=h2
 subst e
 -- what stays true of the iterator's objects through the loop
 have stat : ∀ {H' : Hp},(∀ b ∈ fp,H' b = none)->∀ b ∈ fp,jE X pins H' b:=fun hn b hb=>⟨hn b hb,(f2 b hb).2⟩
 refine codeAny_forLoop_any (fun n s'=>∃ i σ' H',Inv X pins σ' H' s'/\tn i s'.heap/\(∀ b ∈ fp,H' b = none)/\W i n σ' H') ?_ m0 ⟨0,σ,H2,I2,st2,fun b hb=>(f2 b hb).1,w0⟩
 rintro n s3 ⟨i,σ3,H3,I3,st3,fr3,w3⟩
 rcases turn i n σ3 H3 w3 with ⟨stop,qn⟩ | ⟨go,N,hN,step⟩
 ·refine wpAny_passesOwn hp (thn (T.done X rfl rfl rfl hc i pins s3 σ3 H3 X.xe I3 (stat fr3) st3 stop) fun r s4 ⟨hr,I4⟩=>?_)
  subst hr
  exact wpAny_execs_nil ⟨σ3,H3,I4,qn⟩
 ·refine wpAny_passesOwn hp (thn (T.item X rfl rfl rfl hc i pins s3 σ3 H3 X.xe I3 (stat fr3) st3 go) fun r s4 ⟨u,hr,h4⟩=>?_)
  subst hr
  refine wpAny_passesOwn hp (thn h4 fun _ s5 ⟨x,H5,I5,r5,y5,st5,fr5⟩=>?_)
  have I5':=I5.pinned (stat fr5) (T.obj _ _ st5)
  refine wpAny_passesOwn hp (thn (hg _ s5 σ3 H5 x u _ I5' r5 (step x H5 y5)) fun _ s6 ⟨σ6,H6,I6,q6⟩=>?_)
  refine wpAny_passesOwn hp (thn (hb _ s6 σ6 H6 _ I6 q6) fun f s7 q7=>?_)
  have again : ∀ {σ7 : St} {H7 : Hp},Inv X (pins ++ jF fp s5.heap) σ7 H7 s7->N σ7 H7->∃ m,m < n/\∃ i σ' H',Inv X pins σ' H' s7/\tn i s7.heap/\(∀ b ∈ fp,H' b = none)/\W i m σ' H':=fun {σ7 H7} I7 n7=>by
   obtain ⟨m',hm,w7⟩:=hN σ7 H7 n7
   refine ⟨m',hm,i + 1,σ7,H7,I7.unpinned,T.keep _ _ _ st5 fun b hb o e=>(I7.pin (b,o) (mY _ (mY _ (fQ hb e)))).1,fun b hb=>?_,w7⟩
   obtain ⟨o,e,d⟩:=T.obj _ _ st5 b hb
   exact (I7.pin (b,o) (mY _ (mY _ (fQ hb e)))).2.1
  cases f with
  | next=>obtain ⟨σ7,H7,I7,n7⟩:=q7; exact again I7 n7
  | cont=>obtain ⟨σ7,H7,I7,n7⟩:=q7; exact again I7 n7
  | brk=>obtain ⟨σ7,H7,I7,q7⟩:=q7; exact ⟨σ7,H7,I7.unpinned,q7⟩
  | ret v=>obtain ⟨x7,σ7,H7,I7,r7,q7⟩:=q7; exact ⟨x7,σ7,H7,I7.unpinned,r7,q7⟩
end
abbrev R2:=V->V->Hp->VK->Prop
def OpR (X : Cx) (f : Value->Value->Sem Value) (r : R2) : Prop :=
 ∀ (pins : List (Addr × Obj)) (s : Shared) (σ : St) (H : Hp) (x y : V) (v u : Value) (Q : VK),Inv X pins σ H s->aN x v->aN y u->r x y H Q ->
  wpAny (model X.prog X.w) X.A (f v u) (EP X pins σ Q) X.xe s
def UnR (X : Cx) (f : Value->Sem Value) (r : V->Hp->VK->Prop) : Prop :=
 ∀ (pins : List (Addr × Obj)) (s : Shared) (σ : St) (H : Hp) (x : V) (v : Value) (Q : VK),Inv X pins σ H s->aN x v->r x H Q ->
  wpAny (model X.prog X.w) X.A (f v) (EP X pins σ Q) X.xe s
def bW (X : Cx) (f : Value) (r : List V->Hp->VK->Prop) : Prop :=
 ∀ (pins : List (Addr × Obj)) (s : Shared) (σ : St) (H : Hp) (xs : List V) (us : List Value) (Q : VK),Inv X pins σ H s->aK xs us->r xs H Q ->
  wpAny (model X.prog X.w) X.A (call f us) (EP X pins σ Q) X.xe s
def tOp (r : R2) (ta tb : TE) : TE:=fun σ H Q=>ta σ H fun x H1=>tb σ H1 fun y H2=>r x y H2 Q
def tUn (r : V->Hp->VK->Prop) (ta : TE) : TE:=fun σ H Q=>ta σ H fun x H1=>r x H1 Q
def rI (C : Int->Int->Prop) (g : Int->Int->V) : R2:=fun x y H Q=>∃ i j,x = .int i/\y = .int j/\C i j/\Q (g i j) H
def rI0 (g : Int->Int->V) : R2:=fun x y H Q=>∃ i j,x = .int i/\y = .int j/\Q (g i j) H
def rU (g : Int->V) : V->Hp->VK->Prop:=fun x H Q=>∃ i,x = .int i/\Q (g i) H
section
variable {X : Cx} {a b c : Expr} {ta tb tc : TE} {pos : Pos}
theorem BN (ha : PE X a ta) (hb : PE X b tb) {pins : List (Addr × Obj)} {s : Shared} {σ : St} {H : Hp} {R : V->V->Hp->Prop} (I : Inv X pins σ H s)
  (h : ta σ H fun x H1=>tb σ H1 fun y H2=>R x y H2) {Q : Value->Shared->Prop} {f : Value->Value->Sem Value}
  (hf : ∀ v u s2 x y H2,Inv X pins σ H2 s2->aN x v->aN y u->R x y H2->wpAny (model X.prog X.w) X.A (f v u) Q X.xe s2) :
  wpAny (model X.prog X.w) X.A (eval a X.env) (fun v s₁=>wpAny (model X.prog X.w) X.A (eval b X.env) (fun u s₂=>wpAny (model X.prog X.w) X.A (f v u) Q X.xe s₂) X.xe s₁) X.xe s:=by
 refine thn (ha pins s σ H _ I h) fun v s1 ⟨x,H1,I1,r1,q1⟩=>?_
 refine thn (hb pins s1 σ H1 _ I1 q1) fun u s2 ⟨y,H2,I2,r2,q2⟩=>?_
 exact hf v u s2 x y H2 I2 r1 r2 q2
theorem AK {op : Operator} {r : R2} (ho : OpR X (binaryOp op) r) (ha : PE X a ta) (hb : PE X b tb) : PE X (.BinOp a op b pos) (tOp r ta tb):=by
 intro pins s σ H Q I h
 exact wpAny_BinOp (BN ha hb I h fun v u s2 x y H2 I2 rx ry q=>ho pins s2 σ H2 x y v u Q I2 rx ry q)
theorem Dy {op : UnaryOp} {r : V->Hp->VK->Prop} (ho : UnR X (unaryOp op) r) (ha : PE X a ta) : PE X (.UnaryOp op a pos) (tUn r ta):=by
 intro pins s σ H Q I h
 exact UnaryOp_ (thn (ha pins s σ H _ I h) fun v s1 ⟨x,H1,I1,r1,q1⟩=>ho pins s1 σ H1 x v Q I1 r1 q1)
theorem opI {f : Value->Value->Sem Value} {C : Int->Int->Prop} {g : Int->Int->Int}
  (rule : ∀ (i j : Int) (t u : Tok) (s : Shared) (Q : Value->Shared->Prop) (E : Value->Shared->Prop),C i j->Q (.int (g i j) s.toks) { s with toks:=s.toks + 1 }->wpAny (model X.prog X.w) X.A (f (.int i t) (.int j u)) Q E s) :
  OpR X f (rI C fun i j=>.int (g i j)):=by
 intro pins s σ H x y v u Q I rx ry h
 obtain ⟨i,j,rfl,rfl,hc,q⟩:=h
 obtain ⟨t,rfl⟩:=rx
 obtain ⟨t',rfl⟩:=ry
 exact rule i j t t' s _ _ hc ⟨.int (g i j),H,I.tok _,⟨_,rfl⟩,q⟩
theorem Ev {f : Value->Value->Sem Value} {g : Int->Int->Int}
  (rule : ∀ (i j : Int) (t u : Tok) (s : Shared) (Q : Value->Shared->Prop) (E : Value->Shared->Prop),Q (.int (g i j) s.toks) { s with toks:=s.toks + 1 }->wpAny (model X.prog X.w) X.A (f (.int i t) (.int j u)) Q E s) :
  OpR X f (rI0 fun i j=>.int (g i j)):=by
 intro pins s σ H x y v u Q I rx ry h
 obtain ⟨i,j,rfl,rfl,q⟩:=h
 obtain ⟨t,rfl⟩:=rx
 obtain ⟨t',rfl⟩:=ry
 exact rule i j t t' s _ _ ⟨.int (g i j),H,I.tok _,⟨_,rfl⟩,q⟩
theorem BO {f : Value->Value->Sem Value} {g : Int->Int->Bool}
  (rule : ∀ (i j : Int) (t u : Tok) (s : Shared) (Q : Value->Shared->Prop) (E : Value->Shared->Prop),Q (.bool (g i j)) s->wpAny (model X.prog X.w) X.A (f (.int i t) (.int j u)) Q E s) :
  OpR X f (rI0 fun i j=>.bl (g i j)):=by
 intro pins s σ H x y v u Q I rx ry h
 obtain ⟨i,j,rfl,rfl,q⟩:=h
 obtain ⟨t,rfl⟩:=rx
 obtain ⟨t',rfl⟩:=ry
 exact rule i j t t' s _ _ ⟨.bl (g i j),H,I,rfl,q⟩
def Dz (i j : Int) : Prop:=0 < j/\j < 1073741824
def zA (i j : Int) : Prop:=(-(2 ^ 64) < i/\i < 2 ^ 64) ∨ (-(2 ^ 64) < j/\j < 2 ^ 64)
theorem zA.ok {i j : Int} (h : zA i j) : IntMulOk i j:=by
 rcases h with ⟨h1,h2⟩ | ⟨h1,h2⟩
 ·exact .of_left (intBits_le_64 h1 h2)
 ·exact .of_right (intBits_le_64 h1 h2)
theorem BP : OpR X (binaryOp .Add) (rI0 fun i j=>.int (i + j)):=Ev fun _ _ _ _ _ _ _ q=>add_int q
theorem BQ : OpR X (binaryOp .Mult) (rI zA fun i j=>.int (i * j)):=opI fun _ _ _ _ _ _ _ hc q=>mul_int q hc.ok
theorem zB : OpR X (binaryOp .FloorDiv) (rI Dz fun i j=>.int (i / j)):=opI fun i j _ _ _ _ _ hc q=>by
 have h1 : (0 : Int) < j:=hc.1
 have h2 : j < 1073741824:=hc.2
 exact floordiv_int (by omega) (by rw [Int.fdiv_eq_ediv_of_nonneg i (by omega)]; exact q) (.inl (PyProof.noPylong_small (by omega)))
theorem BR : OpR X (binaryOp .Mod) (rI (fun _ j=>0 < j) fun i j=>.int (i % j)):=opI fun i j _ _ _ _ _ hc q=>by
 have h1 : (0 : Int) < j:=hc
 exact mod_int' (by omega) (by rw [Int.fmod_eq_emod_of_nonneg i (by omega)]; exact q)
theorem unI {f : Value->Sem Value} {g : Int->Int}
  (rule : ∀ (i : Int) (t : Tok) (s : Shared) (Q : Value->Shared->Prop) (E : Value->Shared->Prop),Q (.int (g i) s.toks) { s with toks:=s.toks + 1 }->wpAny (model X.prog X.w) X.A (f (.int i t)) Q E s) :
  UnR X f (rU fun i=>.int (g i)):=by
 intro pins s σ H x v Q I rx h
 obtain ⟨i,rfl,q⟩:=h
 obtain ⟨t,rfl⟩:=rx
 exact rule i t s _ _ ⟨.int (g i),H,I.tok _,⟨_,rfl⟩,q⟩
theorem BS : UnR X (unaryOp .USub) (rU fun i=>.int (-i)):=unI fun _ _ _ _ _ q=>neg_int q
theorem wm : OpR X (binaryOp .Add) (fun x y H Q=>∃ i k,x = .int i/\y = .bl k/\Q (.int (i + b2i k)) H):=by
 intro pins s σ H x y v u Q I rx ry h
 obtain ⟨i,k,rfl,rfl,q⟩:=h
 obtain ⟨t,rfl⟩:=rx
 cases ry
 exact add_int_bool ⟨.int (i + b2i k),H,I.tok _,⟨_,rfl⟩,q⟩
end
section
variable {X : Cx} {a b c : Expr} {ta tb tc : TE} {pos : Pos}
theorem D0 : OpR X (compareOp .Lt) (rI0 fun i j=>.bl (decide (i < j))):=BO fun _ _ _ _ _ _ _ q=>lt_int q
theorem D1 : OpR X (compareOp .LtE) (rI0 fun i j=>.bl (decide (i<=j))):=BO fun _ _ _ _ _ _ _ q=>le_int q
theorem D2 : OpR X (compareOp .Gt) (rI0 fun i j=>.bl (decide (j < i))):=BO fun _ _ _ _ _ _ _ q=>gt_int q
theorem OpR.or {f : Value->Value->Sem Value} {r r' : R2} (h : OpR X f r) (h' : OpR X f r') : OpR X f (fun x y H Q=>r x y H Q ∨ r' x y H Q):=by
 intro pins s σ H x y v u Q I rx ry q
 rcases q with q | q
 ·exact h pins s σ H x y v u Q I rx ry q
 ·exact h' pins s σ H x y v u Q I rx ry q
theorem Ew (b : Expr) {op : CmpOp} (h : op ≠ .In:=by decide) (h2 : op ≠ .NotIn:=by decide) : behindInMarks op b = false:=by
 have e1 : (op == CmpOp.In) = false:=by cases op <;> first | rfl | exact absurd rfl h
 have e2 : (op == CmpOp.NotIn) = false:=by cases op <;> first | rfl | exact absurd rfl h2
 cases b <;> simp [behindInMarks,e1,e2]
theorem zC {op : CmpOp} {r : R2} (ho : OpR X (compareOp op) r) (ha : PE X a ta) (hb : PE X b tb) (hm : behindInMarks op b = false) : PE X (.Compare a [op] [b] pos) (tOp r ta tb):=by
 intro pins s σ H Q I h
 exact wpAny_Compare1 (BN ha hb I h fun v u s2 x y H2 I2 rx ry q=>ho pins s2 σ H2 x y v u Q I2 rx ry q) hm
def D3 (t : TE) : TT:=fun σ H Q=>t σ H fun x H'=>∃ k,x = .bl k/\Q k H'
theorem zD {op : CmpOp} {r : R2} (ho : OpR X (compareOp op) r) (ha : PE X a ta) (hb : PE X b tb) (hm : behindInMarks op b = false) : PT X (.Compare a [op] [b] pos) (D3 (tOp r ta tb)):=by
 intro pins s σ H Q I h
 refine wpAny_isTrue_Compare1 (thn (ha pins s σ H _ I h) fun v s1 ⟨x,H1,I1,r1,q1⟩=>thn (hb pins s1 σ H1 _ I1 q1) fun u s2 ⟨y,H2,I2,r2,q2⟩ =>
  thn (ho pins s2 σ H2 x y v u _ I2 r1 r2 q2) fun c s3 ⟨z,H3,I3,r3,k,e,q3⟩=>?_) hm
 subst e
 cases r3
 exact wpAny_truthy_bool ⟨H3,I3,q3⟩
def xw (r r' : R2) (ta tb tc : TE) : TE:=fun σ H Q=>ta σ H fun x H1=>tb σ H1 fun y H2=>r x y H2 fun z H3=>∃ k,z = .bl k /\
 (if k = true then tc σ H3 fun w' H4=>r' y w' H4 Q else Q (.bl false) H3)
theorem xy {op op' : CmpOp} {r r' : R2} (ho : OpR X (compareOp op) r) (ho' : OpR X (compareOp op') r') (ha : PE X a ta) (hb : PE X b tb) (hc : PE X c tc)
  (hm : lastMarks [op,op'] [b,c] = false:=by with_unfolding_all rfl) : PE X (.Compare a [op,op'] [b,c] pos) (xw r r' ta tb tc):=by
 intro pins s σ H Q I h
 refine Compare_chain (thn (ha pins s σ H _ I h) fun v s1 ⟨x,H1,I1,r1,q1⟩=>chain_link (thn (hb pins s1 σ H1 _ I1 q1) fun u s2 ⟨y,H2,I2,r2,q2⟩ =>
  thn (ho pins s2 σ H2 x y v u _ I2 r1 r2 q2) fun d s3 ⟨z,H3,I3,r3,k,e,q3⟩=>?_)) hm
 subst e
 cases r3
 refine wpAny_truthy_bool ?_
 cases k with
 | false=>exact ite_ff ⟨.bl false,H3,I3,rfl,q3⟩
 | true=>exact ite_tt (chain_last (thn (hc pins s3 σ H3 _ I3 q3) fun w' s4 ⟨z',H4,I4,r4,q4⟩=>ho' pins s4 σ H4 y z' u w' Q I4 r2 r4 q4))
theorem l7 : (sizeLine : Nat) < 2 ^ 63:=by rw [sizeLine_eq]; decide
theorem tE : OpR X (binaryOp .Add) (fun x y H Q=>∃ i j,x = .str i/\y = .str j/\i.length + j.length<=sizeLine/\Q (.str (i ++ j)) H):=by
 intro pins s σ H x y v u Q I rx ry h
 obtain ⟨i,j,rfl,rfl,hz,q⟩:=h
 obtain ⟨t,rfl⟩:=rx
 obtain ⟨t',rfl⟩:=ry
 exact add_str (fun t' tk=>⟨.str (i ++ j),H,I.tok _,⟨_,rfl⟩,q⟩) hz
theorem gm {x : V} {us : List Value} (r : aK [x] us) : ∃ u,us = [u]/\aN x u:=by
 cases r with
 | cons r1 r2=>cases r2; exact ⟨_,rfl,r1⟩
end
structure ObjM (h : Heap) (x dx C : Addr) (mA : Str->Option Value) : Prop where
 obj : h.get? x = some (PySem.W.instObj C dx)
 ns : h.Ns1 dx mA
 ne : dx ≠ x
theorem wn {h : Heap} {dx : Addr} {mA : Str->Option Value} (n : h.Ns1 dx mA) : ∃ od,h.get? dx = some od/\∀ name,PySem.W.lookIn name od = some (mA name):=by
 obtain ⟨o,es,ep,ho,hd,hk,_,hm⟩:=n
 refine ⟨o,ho,fun name=>?_⟩
 have e:=hm name
 unfold nsFind findBy at e
 rw [← Array.find?_toList] at e
 unfold PySem.W.lookIn
 rw [hd]
 dsimp only
 split
 ·rename_i y q
  rw [q] at e
  exact congrArg some e
 ·rename_i q
  rw [q] at e
  have a : es.toList.any (·.refKey) = false:=by
   rw [List.any_eq_false]
   intro y hy
   obtain ⟨z,t,hkey⟩:=hk y (Array.mem_toList_iff.mp hy)
   simp [DictEntry.refKey,hkey]
  have a' : ¬ es.toList.any (·.refKey) = true:=by rw [a]; exact Bool.false_ne_true
  rw [if_neg a']
  exact congrArg some e
theorem ObjM.look {h : Heap} {x dx C : Addr} {mA : Str->Option Value} (I : ObjM h x dx C mA) : ∃ od,PySem.W.InstAt h x (PySem.W.instObj C dx) C (some od)/\∀ name,PySem.W.lookIn name od = some (mA name) :=
 let ⟨od,ho,hl⟩:=wn I.ns
 ⟨od,⟨I.obj,rfl,rfl,ho⟩,hl⟩
section
variable {prog : Program} {w : World} {A : Around} {E : Value->Shared->Prop} {s : Shared} {K : PySem.W.Frag} {x dx C f : Addr} {mA : Str->Option Value} {name : Str} {v : Value}
theorem xz {pl : Sem Bool} {Q : Value × List Value->Shared->Prop} (X : K.In s.heap) (I : ObjM s.heap x dx C mA) (hg : PySem.W.plainGet K C name = true)
  (hf : PySem.W.findIn K (.ref C) name = some (some (.ref f))) (ht : PySem.W.isFn K (.ref f) = true) (hv : mA name = none) (h : Q (.ref f,[.ref x]) s) :
  wpAny (model prog w) A (getMethod (.ref x) name pl) Q E s:=by
 obtain ⟨od,J,hl⟩:=I.look
 exact PySem.W.method_fn X J (PySem.W.plainGet_of hg).1 (PySem.W.plainGet_of hg).2 hf (beq_iff_eq.mp ht) (by show (PySem.W.lookIn name od).map (·.isSome) = some false; rw [hl,hv]; rfl) h
theorem D4 {R : Result->Shared->Prop} {vs : List Value} {kw : List (Str × Value)} (X : K.In s.heap) (hm : PySem.W.makesIn K C = true)
  (hi : PySem.W.findIn K (.ref C) "__init__" = some (some (.ref f))) (hf : PySem.W.typeIn K (.ref f) = some (.type "function"))
  (h : codeAny (model prog w) (A.under (.builtin "type.__call__" ⟨.ref C :: vs,kw⟩)) (.call (.ref f) ⟨.ref (s.heap.objs.size + 1) :: vs,kw⟩) (PySem.W.InitBack (s.heap.objs.size + 1) R)
   { s with heap:=(s.heap.push PySem.W.emptyDict).push (PySem.W.instObj C s.heap.objs.size) }) :
  codeAny (model prog w) A (.call (.ref C) ⟨vs,kw⟩) R s:=by
 obtain ⟨hh,g,d,t,os⟩:=s
 exact PySem.W.make_core (PySem.W.makes_of X hm) (PySem.W.looks_findIn X hi) (fun self=>PySem.W.bind_fn X self hf) (.inl rfl) h
end
theorem lb.none_of {o : Option Value} (r : lb none o) : o = none:=by
 cases o with
 | none=>rfl
 | some u=>exact (show False from r).elim
section
variable {P : Program} {w : World} {H H' : Hp} {h h' : Heap} {a C dx : Addr} {fs fs' : List (Str × V)}
theorem zE (hok : HOk P w H h) (e : H a = some (.ins C dx fs)) : ∃ mA,ObjM h a dx C mA/\(∀ f,lb (fs.lookup f) (mA f))/\PySem.Within mA (fs.map (·.1))/\fs.length<=1000/\H dx = some (.own a):=by
 obtain ⟨d,z,ne,ob,mA,n,r,q⟩:=(show b9 P w H h a (.ins C dx fs) from hok a _ e)
 exact ⟨mA,⟨ob,n,ne⟩,r,q,z,d⟩
end
structure Cls (K : PySem.W.Frag) (C : Addr) : Prop where
 pg : PySem.W.plainGet K C Str.empty = true
 hd : PySem.W.hasDictIn K C = true
 po : PySem.W.plainOver K C = true
 sa : PySem.W.findIn K (.ref C) "__setattr__" = some (some (.builtin "object.__setattr__"))
theorem Cls.get {K : PySem.W.Frag} {C : Addr} (c : Cls K C) (f : Str) : PySem.W.plainGet K C f = true:=c.pg
def BT (K : PySem.W.Frag) (C : Addr) (f : Str) : Prop:=PySem.W.findIn K (.ref C) f = some none
structure Meth (K : PySem.W.Frag) (C : Addr) (m : Str) (f : Addr) : Prop where
 at_ : PySem.W.findIn K (.ref C) m = some (some (.ref f))
 fn : PySem.W.isFn K (.ref f) = true
 kp : PySem.W.keepIn K (.ref f) = true
section
variable {X : Cx} {pins : List (Addr × Obj)} {σ : St} {H : Hp} {s : Shared} {a C dx : Addr} {fs : List (Str × V)} {f : Str} {v : V} {A : Around} {E : Value->Shared->Prop}
theorem tF {m : Str} {g : Addr} {pl : Sem Bool} {Q : Value × List Value->Shared->Prop} (I : Inv X pins σ H s) (e : H a = some (.ins C dx fs)) (c : Cls X.K C) (k : Meth X.K C m g) (l : fs.lookup m = none)
  (h : Q (.ref g,[.ref a]) s) : wpAny (model X.prog X.w) A (getMethod (.ref a) m pl) Q E s:=by
 obtain ⟨mA,O,r,_,_,_⟩:=zE I.hok e
 have hn : mA m = none:=lb.none_of (by rw [← l]; exact r m)
 exact xz I.kIn O (c.get m) k.at_ k.fn hn h
theorem Inv.made (I : Inv X pins σ H s) : Inv X pins σ (upd (upd H s.heap.objs.size (.own (s.heap.objs.size + 1))) (s.heap.objs.size + 1) (.ins C s.heap.objs.size []))
  { s with heap:=(s.heap.push PySem.W.emptyDict).push (PySem.W.instObj C s.heap.objs.size) }:=by
 have e1 : (s.heap.push PySem.W.emptyDict).get? s.heap.objs.size = some PySem.W.emptyDict:=Heap.get?_push_size s.heap rfl
 have e2 : ((s.heap.push PySem.W.emptyDict).push (PySem.W.instObj C s.heap.objs.size)).get? (s.heap.objs.size + 1) = some (PySem.W.instObj C s.heap.objs.size):=by
  have:=Heap.get?_push_size (s.heap.push PySem.W.emptyDict) (o:=PySem.W.instObj C s.heap.objs.size) rfl
  rwa [Heap.size_push] at this
 have e3 : (s.heap.push PySem.W.emptyDict).Ns s.heap.objs.size (fun _=>none):=⟨PySem.W.emptyDict,#[],_,e1,rfl,(fun e he=>absurd he (by simp)),fun _=>rfl⟩
 have I1:=I.laid (a:=s.heap.objs.size) (o:=.own (s.heap.objs.size + 1)) (h':=s.heap.push PySem.W.emptyDict) (t':=s.toks) (fun b u q=>Heap.get?_push_of_some _ q) (Nat.le_refl _) ⟨_,e1⟩
 refine I1.laid (a:=s.heap.objs.size + 1) (o:=.ins C s.heap.objs.size []) (t':=s.toks) (fun b u q=>Heap.get?_push_of_some _ q) (Nat.le_of_eq (Heap.size_push _ _)) ?_
 have ne : s.heap.objs.size ≠ s.heap.objs.size + 1:=Nat.ne_of_lt (Nat.lt_succ_self _)
 refine ⟨by rw [a9 ne,ax],Nat.zero_le _,ne,e2,fun _=>none,(Heap.Ns1.of_empty e3).at fun o q=>Heap.get?_push_of_some _ q,fun _=>True.intro,fun y hy=>absurd rfl hy⟩
end
def Fa (K : PySem.W.Frag) (ta : TE) (f : Str) : TE:=fun σ H Q=>ta σ H fun x H1=>∃ a C dx fs v,x = .ref a/\H1 a = some (.ins C dx fs)/\Cls K C/\BT K C f/\fs.lookup f = some v/\Q v H1
section
variable {X : Cx} {o e value : Expr} {f : Str} {pos pos' tpos : Pos} {ta tv : TE}
theorem AL {pl : Sem Bool} {m : Str} {apos : Pos} {args : List Expr} {pins : List (Addr × Obj)} {s : Shared} {σ : St} {H : Hp} {Q : Value->Shared->Prop} {te : TE} (he : PE X e te) (I : Inv X pins σ H s)
  (h : te σ H fun x H1=>∃ a C dx fs g,x = .ref a/\H1 a = some (.ins C dx fs)/\Cls X.K C/\Meth X.K C m g/\fs.lookup m = none /\
   ∀ s1,Inv X pins σ H1 s1->wpAny (model X.prog X.w) X.A (callWith pos (.ref g) [.ref a] (backTo pos (starEach args X.env)) (backToKw pos (keywordEach [] X.env))) Q X.xe s1)
  (ht : eval (.Call (.Attribute e m apos) args [] pos) X.env = (do
   let ov ← eval e X.env
   standAt apos.atName
   let (f,first) ← holding [ov] (getMethod ov m pl)
   callWith pos f first (backTo pos (starEach args X.env)) (backToKw pos (keywordEach [] X.env)))) :
  wpAny (model X.prog X.w) X.A (eval (.Call (.Attribute e m apos) args [] pos) X.env) Q X.xe s:=by
 refine PySem.W.methodCall_KW (pl:=pl) (thn (he pins s σ H _ I h) fun u s1 ⟨x,H1,I1,rx,a,C,dx,fs,g,ex,ea,c,k,l,q⟩=>?_) ht
 subst ex
 obtain rfl : u = Value.ref a:=rx
 exact tF I1 ea c k l (q s1 I1)
end
section
variable {X : Cx} {pins : List (Addr × Obj)} {σ : St} {H : Hp} {s : Shared} {A : Around} {E : Value->Shared->Prop} {Q : Value->Shared->Prop} {c : Value} {b : Bool}
inductive TyOf (K : PySem.W.Frag) (H : Hp) : V->Value->Prop where
 | non : TyOf K H .non (.type "NoneType")
 | bl (x : Bool) : TyOf K H (.bl x) (.type "bool")
 | int (i : Int) : TyOf K H (.int i) (.type "int")
 | str (x : Str) : TyOf K H (.str x) (.type "str")
 | flt (x : UInt64) : TyOf K H (.flt x) (.type "float")
 | lst {a : Addr} {xs : List V} (e : H a = some (.lst xs)) : TyOf K H (.ref a) (.type "list")
 | frz {a : Addr} {o : Obj} {xs : List V} (e : H a = some (.frz o (.lst xs))) : TyOf K H (.ref a) (.type "list")
 | tup {a : Addr} {xs : List V} (e : H a = some (.tup xs)) : TyOf K H (.ref a) (.type "tuple")
 | dK {a : Addr} {kvs : List (Key × V)} (e : H a = some (.dK kvs)) : TyOf K H (.ref a) (.type "dict")
 | dT {a : Addr} {kvs : List (List Key × V)} (e : H a = some (.dT kvs)) : TyOf K H (.ref a) (.type "dict")
 | ins {a C dx : Addr} {fs : List (Str × V)} (e : H a = some (.ins C dx fs)) (cl : Cls K C) (ha : PySem.W.findIn K (.ref C) "__class__" = some (some (.builtin "object.__class__")))
   (hn : PySem.W.specialIn K (.builtin "object.__class__") "__get__" = some (some (.builtin "getset_descriptor.__get__"))) (htk : PySem.W.takesIn K (.builtin "object.__class__") = some true)
   (hm : PySem.W.mroIn K C (.type "object") = some true) : TyOf K H (.ref a) (.ref C)
end
structure Room (k : Nat) (A : Around) : Prop where
 hd : A.handled = none
 dp : A.depth + 3 * k + 5 < recursionLimit
 un : A.units + 16 * k + 200 < cLine
theorem Room.mono {j k : Nat} {A : Around} (r : Room k A) (h : j<=k) : Room j A:=⟨r.hd,by have:=r.dp; omega,by have:=r.un; omega⟩
theorem Room.deeper {k : Nat} {A : Around} (r : Room (k + 1) A) (env : Env) : Room k (A.deeper env) :=
 ⟨r.hd,by have:=r.dp; show A.depth + 1 + 3 * k + 5 < _; omega,by have:=r.un; show A.units + 3 + 16 * k + 200 < _; omega⟩
theorem Room.in1 {k : Nat} {A : Around} (r : Room (k + 1) A) : Room k A.in1 :=
 ⟨r.hd,by have:=r.dp; show A.depth + 3 * k + 5 < _; omega,by have:=r.un; show A.units + 1 + 16 * k + 200 < _; omega⟩
theorem Room.depth {k : Nat} {A : Around} (r : Room k A) : A.depth < recursionLimit:=by have:=r.dp; omega
def D5 : TA:=fun _ H Q=>Q [] H
def AM (ta : TE) (tr : TA) : TA:=fun σ H Q=>ta σ H fun x H1=>tr σ H1 fun xs H2=>Q (x :: xs) H2
section
variable {X : Cx} {e : Expr} {es : List Expr} {te : TE} {t : TA} {pos : Pos}
theorem gn : PA X [] D5:=fun _ _ _ _ H Q I h=>Calls.spliced_nil ⟨[],H,I,.nil,h⟩
theorem eG (ha : PE X e te) (hr : PA X es t) (hs : starEach (e :: es) X.env = (false,eval e X.env) :: starEach es X.env:=by rfl) : PA X (e :: es) (AM te t):=by
 intro pos pins s σ H Q I h
 rw [hs]
 show wpAny _ _ (spliced ((false,eval e X.env) :: backTo pos (starEach es X.env))) _ _ s
 refine Calls.spliced_cons (thn (ha pins s σ H _ I h) fun u s1 ⟨x,H1,I1,r1,q1⟩=>?_)
 exact thn (hr pos pins s1 σ H1 _ I1 q1) fun us s2 ⟨xs,H2,I2,r2,q2⟩=>⟨x :: xs,H2,I2,.cons r1 r2,q2⟩
def D6 (t : TA) : TE:=fun σ H Q=>t σ H fun xs H1=>xs.length<=sizeLine/\∀ p,H1 p = none->Q (.ref p) (upd H1 p (.tup xs))
def Ex (t : TA) : TE:=fun σ H Q=>t σ H fun xs H1=>xs.length<=sizeLine/\∀ p,H1 p = none->Q (.ref p) (upd H1 p (.lst xs))
theorem tG {x1} (h : PA X es t) : PE X (.Tuple es x1 pos) (D6 t):=by
 intro pins s σ H Q I hq
 refine wpAny_Tuple_spliced (thn (h pos pins s σ H _ I hq) fun us s1 ⟨xs,H1,I1,r,z,q⟩=>⟨by rw [← r.length]; exact z, ?_⟩)
 have hf : H1 s1.heap.objs.size = none:=I1.hok.fresh (Nat.le_refl _)
 refine ⟨.ref s1.heap.objs.size,upd H1 s1.heap.objs.size (.tup xs),I1.laid (t':=s1.toks) (fun b u e=>Heap.get?_push_of_some _ e) (Nat.le_refl _) ?_,rfl,q _ hf⟩
 exact ⟨z,us,r,⟨_,Heap.get?_push_size _ rfl,rfl,_,rfl⟩⟩
theorem BU (h : PA X es t) : PE X (.List es pos) (Ex t):=by
 intro pins s σ H Q I hq
 refine wpAny_List_spliced (thn (h pos pins s σ H _ I hq) fun us s1 ⟨xs,H1,I1,r,z,q⟩=>⟨by rw [← r.length]; exact z, ?_⟩)
 have hf : H1 s1.heap.objs.size = none:=I1.hok.fresh (Nat.le_refl _)
 refine ⟨.ref s1.heap.objs.size,upd H1 s1.heap.objs.size (.lst xs),I1.laid (t':=s1.toks) (fun b u e=>Heap.get?_push_of_some _ e) (Nat.le_refl _) ?_,rfl,q _ hf⟩
 exact ⟨z,us,0,r,Heap.get?_push_size _ rfl⟩
end
abbrev Sp:=List V->Hp->VK->XK->Prop
abbrev CXT:=List Env->Hp->Shared->XK->Value->Shared->Prop
structure Env0 (P : Program) (w : World) (K : PySem.W.Frag) (mg : Str->Option Value) (base : Heap) (A : Around) (outer : List Env) (s : Shared) (H : Hp) : Prop where
 frames : A.frames = some outer
 mod : Mod K mg base
 bs : ∀ b o,base.get? b = some o->s.heap.get? b = some o/\H b = none
 bsz : base.objs.size<=s.heap.objs.size
 funs : s.heap.FunFrames base outer
 frf : ∀ b ∈ frs outer,H b = none
 hok : HOk P w H s.heap
 bare : AllBare s.gens
def CE (outer : List Env) (P : Program) (w : World) (H : Hp) (s : Shared) (Q : VK) (u : Value) (s' : Shared) : Prop :=
 ∃ v H',s'.os = s.os/\AllBare s'.gens/\Un (frs outer) [] H H' s.heap s'.heap/\HOk P w H' s'.heap/\aN v u/\Q v H'
def CR (CX : CXT) (outer : List Env) (P : Program) (w : World) (H : Hp) (s : Shared) (Q : VK) (E : XK) (r : Result) (s' : Shared) : Prop :=
 match r with
 | .ok (.ret u)=>CE outer P w H s Q u s'
 | .ok _=>False
 | .error e=>CX outer H s E e s'
structure FnOk (P : Program) (w : World) (K : PySem.W.Frag) (mg : Str->Option Value) (base : Heap) (CX : CXT) (k : Nat) (f : Addr) (fd : FuncData) (ps : List Str) (sp : Sp) : Prop where
 len : ∀ vs H Q E,sp vs H Q E->vs.length = ps.length
 run : ∀ (A : Around) (outer : List Env) (s : Shared) (H : Hp) (args : Args) (us : List Value) (vs : List V) (Q : VK) (E : XK),Room k A->Env0 P w K mg base A outer s H->BindsTo s fd args (ps.zip us)->aK vs us->sp vs H Q E ->
  codeAny (model P w) A (.call (.ref f) args) (CR CX outer P w H s Q E) s
section
variable {X : Cx} {pins : List (Addr × Obj)} {σ : St} {H : Hp} {s s' : Shared}
theorem Inv.env0 (I : Inv X pins σ H s) : Env0 X.prog X.w X.K X.mg X.base X.A X.stack s H :=
 ⟨I.ok.frames,I.ok.mod,I.bs,Nat.le_trans I.ok.bsz I.sz,I.stack,I.stkFree,I.hok,I.bare⟩
theorem Inv.after {Q : VK} {u : Value} (I : Inv X pins σ H s) (h : CE X.stack X.prog X.w H s Q u s') : EP X pins σ Q u s':=by
 obtain ⟨v,H',os,bare,un,hok,r,q⟩:=h
 obtain ⟨hh,g,d,t,os'⟩:=s'
 obtain rfl : os' = s.os:=os
 exact ⟨v,H',I.call (h':=hh) (g':=g) (d':=d) (t':=t) (ch:=[]) un hok bare (fun b z=>absurd z (by simp)),r,q⟩
end
def D7 (sp : Sp) (dvs : List V) (E : XK) (t : TA) : TE:=fun σ H Q=>t σ H fun vs H1=>sp (vs ++ dvs) H1 Q E
def EO (C : Addr) (m : Str) (sp : Sp) (dvs : List V) (E : XK) (ta : TE) (t : TA) : TE:=fun σ H Q=>ta σ H fun x H1=>∃ a dx fs,x = .ref a/\H1 a = some (.ins C dx fs)/\fs.lookup m = none /\
 t σ H1 fun vs H2=>sp (x :: (vs ++ dvs)) H2 Q E
def EQ (C : Addr) (sp : Sp) (dvs : List V) (E : XK) (t : TA) : TE:=fun σ H Q=>t σ H fun vs H1=>∀ x dx,H1 x = none->H1 dx = none->dx ≠ x ->
 sp (.ref x :: (vs ++ dvs)) (upd (upd H1 dx (.own x)) x (.ins C dx [])) (fun v H2=>v = .non/\Q (.ref x) H2) E
def nL (K : PySem.W.Frag) (fd : FuncData) (ps : List Str) (ds : List Value) : Prop :=
 ∀ (s : Shared) (us : List Value),K.In s.heap->(us ++ ds).length = ps.length->BindsTo s fd ⟨us,[]⟩ (ps.zip (us ++ ds))
theorem nL.all {K : PySem.W.Frag} {fd : FuncData} {ps : List Str} (h : ∀ us : List Value,us.length = ps.length->bindArgs fd ⟨us,[]⟩ = pure (ps.zip us)) : nL K fd ps []:=fun s us _ hl=>by
 rw [List.append_nil] at hl ⊢
 exact .of_eq (h us hl)
def tH (CX : CXT) (X : Cx) (E : XK) : Prop:=∀ (pins : List (Addr × Obj)) (σ : St) (H : Hp) (s : Shared) (e : Value) (s' : Shared),Inv X pins σ H s->CX X.stack H s E e s'->X.xe e s'
section
variable {X : Cx} {CX : CXT} {k : Nat} {f C : Addr} {fd : FuncData} {ps : List Str} {sp : Sp} {dvs : List V} {ds : List Value} {E : XK} {x m : Str} {p pos apos : Pos} {e o : Expr} {es : List Expr} {ta : TE} {t : TA}
theorem BV {pins : List (Addr × Obj)} {σ : St} {H : Hp} {s : Shared} {Q : VK} {us : List Value} {vs : List V} (F : FnOk X.prog X.w X.K X.mg X.base CX k f fd ps sp) (hr : Room k X.A) (hb : nL X.K fd ps ds) (hd : aK dvs ds) (hx : tH CX X E)
  (I : Inv X pins σ H s) (r : aK vs us) (h : sp (vs ++ dvs) H Q E) : wpAny (model X.prog X.w) X.A (call (.ref f) us) (EP X pins σ Q) X.xe s:=by
 have r2 : aK (vs ++ dvs) (us ++ ds):=r.append hd
 have hl : (us ++ ds).length = ps.length:=by rw [← r2.length]; exact F.len _ _ _ _ h
 refine wpAny_call (codeAny_mono (F.run X.A X.stack s H ⟨us,[]⟩ (us ++ ds) (vs ++ dvs) Q E hr I.env0 (hb s us I.kIn hl) r2 h) fun r s' hq=>?_)
 cases r with
 | error e=>exact hx pins σ H s e s' I hq
 | ok fl =>
  cases fl with
  | ret u=>exact I.after hq
  | next=>exact False.elim hq
  | brk=>exact False.elim hq
  | cont=>exact False.elim hq
theorem zF (F : FnOk X.prog X.w X.K X.mg X.base CX k f fd ps sp) (hr : Room k X.A) (hg : Gl X x) (hm : X.mg x = some (.ref f)) (hk : PySem.W.keepIn X.K (.ref f) = true) (hb : nL X.K fd ps ds) (hd : aK dvs ds) (hx : tH CX X E)
  (ha : PA X (e :: es) t) (hdb : (x == ("__debug__" : Str)) = false:=by decide) (he : starEach (e :: es) X.env = (false,eval e X.env) :: starEach es X.env:=by rfl) (hpl : (backTo pos (starEach es X.env)).any (·.1) = false:=by rfl) :
  PE X (.Call (.Name x p) (e :: es) [] pos) (D7 sp dvs E t):=by
 intro pins s σ H Q I h
 refine wpAny_Call_Name_kw (pr I hg hm ?_ hdb)
 refine PySem.W.callWith_K (h₀:=X.base) I.ok.mod.kin hk (thn (ha pos pins s σ H _ I h) fun us s1 ⟨vs,H1,I1,r,q⟩=>⟨I1.kIn, ?_⟩) he hpl
 exact BV F hr hb hd hx I1 r q
end
structure FnScope (N P : List Str) (sc : Scope) : Prop where
 kind : sc.kind = .function
 co : sc.isCoroutine = false
 gen : sc.isGenerator = false
 nd : N.Nodup
 pre : N.take P.length = P
 par : ∀ x ∈ P,sc.names.lookup x = some .local ∨ sc.names.lookup x = some .cell
 nofree : ∀ y ∈ sc.names,y.2 ≠ .free
theorem nM {kindOf : Str->Option NameKind} {x : Str} : ∀ {binds : List (Str × Value)} {m : Str->Option Value},(∀ v,(x,v) ∉ binds)->bindL kindOf binds m x = m x
 | [],_,_=>rfl
 | (n,v) :: r,m,h=>by
  unfold bindL
  rw [nM fun w hw=>h w (mZ _ hw)]
  split
  ·have : x ≠ n:=by rintro rfl; exact h v mX
   simp [this]
  ·rfl
theorem nN {kindOf : Str->Option NameKind} {x : Str} : ∀ {binds : List (Str × Value)} {m : Str->Option Value},(∀ v,(x,v) ∉ binds)->bindC kindOf binds m x = m x
 | [],_,_=>rfl
 | (n,v) :: r,m,h=>by
  unfold bindC
  rw [nN fun w hw=>h w (mZ _ hw)]
  split
  ·rfl
  ·have : x ≠ n:=by rintro rfl; exact h v mX
   simp [this]
theorem nO {kindOf : Str->Option NameKind} {x : Str} {v : Value} : ∀ {P : List Str} {vs : List Value} {i : Nat} {m : Str->Option Value},P.Nodup->P[i]? = some x->vs[i]? = some v->kindOf x = some .local ->
  bindL kindOf (P.zip vs) m x = some v
 | [],_,_,_,_,h,_,_=>by simp at h
 | _ :: _,[],_,_,_,_,h,_=>by simp at h
 | p :: P,w :: vs,0,m,nd,h1,h2,hk=>by
  simp at h1 h2; subst h1; subst h2
  show bindL kindOf ((p,w) :: P.zip vs) m p = _
  unfold bindL
  rw [nM fun v hv=>(List.nodup_cons.mp nd).1 (List.of_mem_zip hv).1,if_pos hk]
  simp
 | p :: P,w :: vs,i + 1,m,nd,h1,h2,hk=>by
  show bindL kindOf ((p,w) :: P.zip vs) m x = _
  unfold bindL
  exact nO (i:=i) (List.nodup_cons.mp nd).2 (by simpa using h1) (by simpa using h2) hk
theorem nQ {kindOf : Str->Option NameKind} {x : Str} {v : Value} : ∀ {P : List Str} {vs : List Value} {i : Nat} {m : Str->Option Value},P.Nodup->P[i]? = some x->vs[i]? = some v->kindOf x ≠ some .local ->
  bindC kindOf (P.zip vs) m x = some v
 | [],_,_,_,_,h,_,_=>by simp at h
 | _ :: _,[],_,_,_,_,h,_=>by simp at h
 | p :: P,w :: vs,0,m,nd,h1,h2,hk=>by
  simp at h1 h2; subst h1; subst h2
  show bindC kindOf ((p,w) :: P.zip vs) m p = _
  unfold bindC
  rw [nN fun v hv=>(List.nodup_cons.mp nd).1 (List.of_mem_zip hv).1,if_neg hk]
  simp
 | p :: P,w :: vs,i + 1,m,nd,h1,h2,hk=>by
  show bindC kindOf ((p,w) :: P.zip vs) m x = _
  unfold bindC
  exact nQ (i:=i) (List.nodup_cons.mp nd).2 (by simpa using h1) (by simpa using h2) hk
def gg (N : List Str) (vs : List V) : St:=vs.map some ++ List.replicate (N.length - vs.length) none
def l8 (CX : CXT) (P : Program) (w : World) (K : PySem.W.Frag) (mg : Str->Option Value) (base : Heap) (N : List Str) (qual : Str) (scope : Scope) (f : Addr) (cd : Value) (A : Around) (outer : List Env) (s : Shared) (H : Hp) (E : XK) : Cx where
 prog:=P
 w:=w
 K:=K
 mg:=mg
 base:=base
 A:=A.deeper (envOfC qual scope s.heap.objs.size f cd)
 N:=N
 s₀:=s
 H₀:=H
 env:=envOfC qual scope s.heap.objs.size f cd
 outer:=outer
 stack:=envOfC qual scope s.heap.objs.size f cd :: outer
 ex:=[]
 calm:=true
 fn:=fun _=>true
 pn:=[]
 xe:=fun e s'=>wpAny (model P w) (A.deeper (envOfC qual scope s.heap.objs.size f cd)) (leaving (envOfC qual scope s.heap.objs.size f cd) e) (fun _ s''=>CX outer H s E e s'') (fun e' s''=>CX outer H s E e' s'') s'
theorem qO {sc : Scope} {n : Nat} {x : Str} (h : sc.names.lookup x = some .cell) : ∃ c,(cellsFrom n sc.names []).lookup x = some c:=by
 have q:=PySem.W.cellsFrom_some sc.names n [] (.inl h)
 exact Option.isSome_iff_exists.mp q
theorem wo {CX : CXT} {P : Program} {w : World} {K : PySem.W.Frag} {mg : Str->Option Value} {base : Heap} {N ps : List Str} {qual : Str} {scope : Scope} {f : Addr} {cd : Value} {A : Around} {outer : List Env} {s s1 : Shared} {H : Hp} {E : XK} {us : List Value} {vs : List V}
  (S : FnScope N ps scope) (hd : A.handled = none) (e0 : Env0 P w K mg base A outer s H) (hl : vs.length = ps.length) (r : aK vs us)
  (x : InCallC s s.heap.objs.size (bindL (envOfC qual scope s.heap.objs.size f cd).kindOf (ps.zip us) fun _=>none) (cellsFrom (s.heap.objs.size + 1) scope.names []) (bindC (envOfC qual scope s.heap.objs.size f cd).kindOf (ps.zip us) fun _=>none) s1) :
  Inv (l8 CX P w K mg base N qual scope f cd A outer s H E) [] (gg N vs) H s1:=by
 have hpl : ps.length<=N.length:=by have:=congrArg List.length S.pre; rw [List.length_take] at this; omega
 obtain ⟨h1,tk,rfl,hk⟩:=x.done
 have noA : ∀ b : Addr,b ∉ (l8 CX P w K mg base N qual scope f cd A outer s H E).ex:=fun b z=>absurd (show b ∈ ([] : List Addr) from z) (by simp)
 refine ⟨⟨e0.mod,S.kind,rfl,rfl,Nat.le_refl _,fun y z c h1 h2=>?_,fun y hy=>?_,fun y c _ h=>?_,fun _=>hd,Around.frames_deeper e0.frames,.inr ⟨rfl,rfl⟩,fun b z=>absurd z (noA b),e0.bs,e0.bsz,fun b _ _=>noA b,fun b z=>absurd z (noA b),e0.funs,e0.frf⟩,
  rfl,e0.bare,Un.kept hk,⟨_,x.toInCall.ns,fun i y v h1 h2 h3=>?_⟩,fun y c h=>⟨_,x.cell y c h⟩,e0.hok.fresh (Nat.le_refl _),fun y c h=>?_,fun p hp=>absurd (show p ∈ ([] : List (Addr × Obj)) from hp) (by simp),e0.hok.kept hk, ?_⟩
 ·exact name_of_addr x.apart (PySem.mem_of_lookup h1) (PySem.mem_of_lookup h2)
 ·have hy : scope.names.lookup y = some .cell ∨ scope.names.lookup y = some .free:=hy
  rcases hy with hy | hy
  ·exact qO hy
  ·exact absurd rfl (S.nofree _ (PySem.mem_of_lookup hy))
 ·exact Nat.le_of_lt (x.above y c (PySem.mem_of_lookup h))
 ·have hi : i < vs.length:=by
   unfold gg at h2
   by_cases hi : i < vs.length
   ·exact hi
   ·rw [List.getElem?_append_right (by simpa using hi)] at h2
    rw [List.getElem?_replicate] at h2
    split at h2 <;> cases h2
  have ha : vs[i]? = some v:=by
   unfold gg at h2
   rw [List.getElem?_append_left (by simpa using hi),List.getElem?_map] at h2
   cases e : vs[i]? with
   | none=>rw [e] at h2; cases h2
   | some a=>rw [e] at h2; cases h2; rfl
  obtain ⟨u,hu,rv⟩:=r.get ha
  have hp : ps[i]? = some y:=by
   rw [← S.pre,List.getElem?_take_of_lt (by omega)]; exact h1
  have ndP : ps.Nodup:=by rw [← S.pre]; exact S.nd.sublist (List.take_sublist _ _)
  refine ⟨u,rv, ?_⟩
  rcases S.par y (List.mem_of_getElem? hp) with k | k
  ·exact .inl ⟨k,nO ndP hp hu k⟩
  ·obtain ⟨c,e⟩:=qO (n:=s.heap.objs.size + 1) k
   refine .inr ⟨.inl k,c,e, ?_⟩
   have q:=x.cell y c e
   rw [nQ ndP hp hu (by show scope.names.lookup y ≠ _; rw [k]; decide)] at q
   exact q
 ·exact e0.hok.fresh (Nat.le_of_lt (x.above y c (PySem.mem_of_lookup h)))
 ·unfold gg
  show _ = N.length
  rw [List.length_append,List.length_map,List.length_replicate]
  omega
theorem AN {CX : CXT} {P : Program} {w : World} {K : PySem.W.Frag} {mg : Str->Option Value} {base : Heap} {k : Nat} {f : Addr} {name qual : Str} {params : Arguments} {body : List Stmt} {scope : Scope} {dV kV doc pm cdv ct oc : Value} {an od : Option Addr}
  {osl : Array (Option Value)} {N ps : List Str} {sp : Sp} (lk : K.lookup f = some ⟨oc,od,.func (PySem.W.fnOf name qual params body scope dV kV doc pm an cdv ct),osl⟩) (hcd : PySem.W.codeIn K cdv qual = true) (S : FnScope N ps scope)
  (len : ∀ vs H Q E,sp vs H Q E->vs.length = ps.length)
  (hbody : ∀ (A : Around) (outer : List Env) (s : Shared) (H : Hp) (vs : List V) (Q : VK) (E : XK),Room k (A.deeper (envOfC qual scope s.heap.objs.size f cdv))->sp vs H Q E ->
   ∃ t,PSs (l8 CX P w K mg base N qual scope f cdv A outer s H E) body t/\t { nx:=fun _ H'=>Q .non H',rt:=Q } (gg N vs) H) :
  FnOk P w K mg base CX (k + 1) f (PySem.W.fnOf name qual params body scope dV kV doc pm an cdv ct) ps sp:=by
 refine ⟨len,fun A outer s H args us vs Q E hr e0 hb r hsp=>?_⟩
 have hl:=len _ _ _ _ hsp
 have KX : K.In s.heap:=e0.mod.kin.keeps fun b o e=>(e0.bs b o e).1
 have lim : s.heap.NoLimit:=e0.mod.nolimit.keeps fun b o e=>(e0.bs b o e).1
 have hkind : ∀ y ∈ ps.zip us,scope.names.lookup y.1 = some .local ∨ (scope.names.lookup y.1 = some .cell/\((cellsFrom (s.heap.objs.size + 1) scope.names []).lookup y.1).isSome = true):=fun ⟨n,v⟩ hy=>by
  rcases S.par n (List.of_mem_zip hy).1 with q | q
  ·exact .inl q
  ·exact .inr ⟨q,PySem.W.cellsFrom_some _ _ _ (.inl q)⟩
 refine codeAny_call_function hr.depth (KX _ _ lk) rfl S.co S.gen rfl (PySem.W.codeRec_of KX hcd) (hb _ _ _ _ ?_)
 refine wpAny_newFunctionEnv_cells S.kind hkind fun env he s1 x=>?_
 subst he
 refine ⟨lim.keeps x.toInCall.keep,codeAny_func ?_⟩
 obtain ⟨t,ht,hq⟩:=hbody A outer s H vs Q E (hr.deeper _) hsp
 have I : Inv (l8 CX P w K mg base N qual scope f cdv A outer s H E) [] (gg N vs) H s1:=wo S hr.hd e0 hl r x
 refine wpAny_mono (ht [] s1 (gg N vs) H _ I hq) (fun fl s' hs=>?_) fun e s' hs=>hs
 have fin : ∀ {σ' : St} {H' : Hp} {v : V} {u : Value},Inv (l8 CX P w K mg base N qual scope f cdv A outer s H E) [] σ' H' s'->aN v u->Q v H'->CE outer P w H s Q u s' :=
  fun {σ' H' v u} J rv q=>⟨v,H',J.os,J.bare,J.base,J.hok,rv,q⟩
 cases fl with
 | ret u =>
  obtain ⟨v,σ',H',J,rv,q⟩:=hs
  exact fin J rv q
 | next =>
  obtain ⟨σ',H',J,q⟩:=hs
  exact fin (v:=V.non) (u:=Value.none) J rfl q
 | brk =>
  obtain ⟨_,_,_,q⟩:=hs
  exact False.elim q
 | cont =>
  obtain ⟨_,_,_,q⟩:=hs
  exact False.elim q
section
variable {X : Cx} {x : Str} {p pos : Pos} {e : Expr} {es : List Expr} {t : TA} {id T : String} {r : List V->Hp->VK->Prop}
def tCB (r : List V->Hp->VK->Prop) (t : TA) : TE:=fun σ H Q=>t σ H fun vs H1=>r vs H1 Q
theorem qP (hc : bW X (.builtin id) r) (hg : Gl X x) (hm : X.mg x = none) (hv : bootBuiltins x = some (.builtin id)) (ha : PA X (e :: es) t) (hn : x ≠ "__name__":=by decide) (hdb : (x == ("__debug__" : Str)) = false:=by decide)
  (he : starEach (e :: es) X.env = (false,eval e X.env) :: starEach es X.env:=by rfl) (hpl : (backTo pos (starEach es X.env)).any (·.1) = false:=by rfl) : PE X (.Call (.Name x p) (e :: es) [] pos) (tCB r t):=by
 intro pins s σ H Q I h
 refine wpAny_Call_Name_kw (iB I hg hm hv ?_ hn hdb)
 exact PyProof.Rows.callWith_builtin1 (thn (ha pos pins s σ H _ I h) fun us s1 ⟨vs,H1,I1,r1,q1⟩=>hc pins s1 σ H1 vs us Q I1 r1 q1) he hpl
theorem nR (hc : bW X (.type T) r) (hg : Gl X x) (hm : X.mg x = none) (hv : bootBuiltins x = some (.type T)) (ha : PA X (e :: es) t) (hn : x ≠ "__name__":=by decide) (hdb : (x == ("__debug__" : Str)) = false:=by decide)
  (he : starEach (e :: es) X.env = (false,eval e X.env) :: starEach es X.env:=by rfl) (hpl : (backTo pos (starEach es X.env)).any (·.1) = false:=by rfl) : PE X (.Call (.Name x p) (e :: es) [] pos) (tCB r t):=by
 intro pins s σ H Q I h
 refine wpAny_Call_Name_kw (iB I hg hm hv ?_ hn hdb)
 exact PyProof.Rows.callWith_type1 (thn (ha pos pins s σ H _ I h) fun us s1 ⟨vs,H1,I1,r1,q1⟩=>hc pins s1 σ H1 vs us Q I1 r1 q1) he hpl
end
end L2
namespace HT
open PySem PyProof.Rows
section
open PySem.SeqAt
open PySem.AutoSeq1 (wpAny_loadPart')
open PySem.MeetsSeq PySem.MeetsSeq2 PySem.MeetsSeq3
end
section
variable {prog : Program} {w : World} {A : Around} {E : Value->Shared->Prop} {s : Shared}
theorem zG {t b : Addr} {vs ws : List Value} {Q : Value->Shared->Prop} (ht : IsTup s.heap t vs.toArray) (hb : IsTup s.heap b ws.toArray) (hv : vs ≠ [])
  (h1 : ws = []->Q (.ref t) s) (h2 : ws ≠ []->Q (.ref s.heap.objs.size) { s with heap:=s.heap.push { cls:=.type "tuple",data:=.seq (vs ++ ws).toArray } })
  (hsz : vs.length + ws.length<=sizeLine) : wpAny (model prog w) A (binaryOp .Add (.ref t) (.ref b)) Q E s:=by
 obtain ⟨⟨cls,dd,data,sl⟩,ho,hc,n,hd⟩:=id ht
 obtain ⟨⟨cls2,dd2,data2,sl2⟩,ho2,hc2,n2,hd2⟩:=id hb
 simp only at hc hd hc2 hd2
 subst hc hd hc2 hd2
 have e : vs.toArray ++ ws.toArray = (vs ++ ws).toArray:=by simp
 by_cases hw : ws = []
 ·exact concat_meets ⟨_,ho,rfl⟩ ⟨_,ho2,rfl⟩ noFill_tuple_add seq_tuple_add PySem.F.slot_tuple_add PySem.F.entry_tuple_add (PySem.F.args_tuple_add_2 _ _)
   (tuple_addW1 t b vs.toArray ws.toArray n n2 dd dd2 sl sl2 (by simpa using hv) (by simp [hw])) ⟨ho,ho2,h1 hw⟩
 ·refine concat_meets ⟨_,ho,rfl⟩ ⟨_,ho2,rfl⟩ noFill_tuple_add seq_tuple_add PySem.F.slot_tuple_add PySem.F.entry_tuple_add (PySem.F.args_tuple_add_2 _ _)
   (tuple_addW2 t b vs.toArray ws.toArray n n2 dd dd2 sl sl2 (by simpa using hv) (by simpa using hw) (by rw [List.size_toArray,List.size_toArray]; exact hsz)) ⟨ho,ho2, ?_⟩
  rw [e]
  exact h2 hw
def sIx (n d : Nat) : Option Int->Nat
 | none=>d
 | some v=>if v < 0 then (v + (n : Int)).toNat else min v.toNat n
theorem BW (n d : Nat) (hd : d<=n) (o : Option Int) : sIx n d o<=n:=by
 cases o with
 | none=>exact hd
 | some v =>
  show (if v < 0 then (v + (n : Int)).toNat else min v.toNat n)<=n
  by_cases hv : v < 0
  ·rw [if_pos hv]; omega
  ·rw [if_neg hv]; exact Nat.min_le_right _ _
theorem uS (v : Int) (n d : Nat) : (if v < 0 then max (v + (n : Int)) 0 else min v (n : Int)) = ((sIx n d (some v) : Nat) : Int):=by
 show (if v < 0 then max (v + (n : Int)) 0 else min v (n : Int)) = (((if v < 0 then (v + (n : Int)).toNat else min v.toNat n) : Nat) : Int)
 by_cases hv : v < 0
 ·simp only [if_pos hv]; omega
 ·simp only [if_neg hv]; omega
theorem tI (lo hi : Option Int) (n : Nat) : Builtin.Slice.sliceAdjust lo hi 1 (n : Int) = (((sIx n 0 lo : Nat) : Int),((sIx n n hi : Nat) : Int)):=by
 have h1 : ¬ ((1 : Int) < 0):=by omega
 unfold Builtin.Slice.sliceAdjust
 simp only [h1,if_false]
 refine Prod.ext ?_ ?_
 ·cases lo with
  | none=>rfl
  | some v=>exact uS v n 0
 ·cases hi with
  | none=>rfl
  | some v=>exact uS v n n
theorem tJ (i j : Nat) : Builtin.Slice.slicePlaces (i : Int) (j : Int) 1 = j - i:=by
 unfold Builtin.Slice.slicePlaces
 have h1 : (1 : Int) > 0:=by omega
 simp only [h1,if_true,Int.ediv_one]
 split <;> omega
theorem lA {v : Value} {o : Option Int} {Q : Option Int->Shared->Prop} (p : IsPart v o) (h : Q o s) : wpAny (model prog w) A (Builtin.Slice.slicePartIndex v) Q E s:=by
 cases p with
 | none=>exact slicePart_none h
 | int i t=>exact slicePart_int h
theorem fw {sl : Addr} {vl vu : Value} {lo hi : Option Int} {n : Nat} {Q : Int × Int × Nat->Shared->Prop} (hs : s.heap.IsSliceOf sl vl vu .none) (pl : IsPart vl lo) (pu : IsPart vu hi)
  (h : Q (((sIx n 0 lo : Nat) : Int),1,sIx n n hi - sIx n 0 lo) s) : wpAny (model prog w) A (Builtin.Slice.sliceApplied (.ref sl) (pure (n : Int))) Q E s:=by
 obtain ⟨os,hos,hcs,hds⟩:=id hs
 unfold Builtin.Slice.sliceApplied Builtin.Slice.sliceFields
 refine wX (wX (wpAny_field hos hds (x:=vl) rfl (wX (wpAny_field hos hds (x:=vu) rfl (wX (wpAny_field hos hds (x:=.none) rfl (wY ?_)))))))
 refine wX (slicePart_none ?_)
 show wpAny _ _ (if ((1 : Int) == 0) = true then _ else _) _ _ s
 rw [if_neg (by decide)]
 refine wX (lA pl (wX (lA pu (wX (wY ?_)))))
 show wpAny _ _ (match Builtin.Slice.sliceAdjust lo hi 1 (n : Int) with | (lo,hi)=>pure (lo,(1 : Int),Builtin.Slice.slicePlaces lo hi 1)) _ _ s
 rw [tI lo hi n]
 show wpAny _ _ (pure (((sIx n 0 lo : Nat) : Int),(1 : Int),Builtin.Slice.slicePlaces ((sIx n 0 lo : Nat) : Int) ((sIx n n hi : Nat) : Int) 1)) _ _ s
 rw [tJ]
 exact wY h
theorem x0 (xs : Array Value) (i k : Nat) : ((List.range k).filterMap fun (m : Nat)=>xs[((i : Int) + (m : Int) * 1).toNat]?).toArray = ((xs.toList.drop i).take k).toArray:=by
 have e : (fun (m : Nat)=>xs[((i : Int) + (m : Int) * 1).toNat]?) = fun m=>xs[i + m]?:=by
  funext m
  have : ((i : Int) + (m : Int) * 1).toNat = i + m:=by omega
  rw [this]
 rw [e]
 have:=pick_run xs i k
 rw [List.filterMap_map] at this
 have e2 : ((fun x=>xs[x]?) ∘ fun x=>i + x) = fun m=>xs[i + m]?:=rfl
 rw [e2] at this
 rw [this]
theorem ja {t sl : Addr} {items : Array Value} {vl vu : Value} {lo hi : Option Int} {Q : Value->Shared->Prop} (ht : IsTup s.heap t items) (hs : s.heap.IsSliceOf sl vl vu .none) (pl : IsPart vl lo) (pu : IsPart vu hi)
  (hw : ¬ (sIx items.size 0 lo = 0/\sIx items.size items.size hi = items.size))
  (h : Q (.ref s.heap.objs.size) { s with heap:=s.heap.push { cls:=.type "tuple",data:=.seq ((items.toList.drop (sIx items.size 0 lo)).take (sIx items.size items.size hi - sIx items.size 0 lo)).toArray } })
  (hsz : items.size<=sizeLine) : wpAny (model prog w) A (getItem (.ref t) (.ref sl)) Q E s:=by
 have htake : sizeOk (.seq ((items.toList.drop (sIx items.size 0 lo)).take (sIx items.size items.size hi - sIx items.size 0 lo)).toArray):=by
  show ((items.toList.drop (sIx items.size 0 lo)).take (sIx items.size items.size hi - sIx items.size 0 lo)).toArray.size<=sizeLine
  rw [List.size_toArray,List.length_take,List.length_drop,Array.length_toList]
  omega
 have hj : sIx items.size items.size hi<=items.size:=BW _ _ (Nat.le_refl _) hi
 obtain ⟨os,hos,hcs,hds⟩:=id hs
 have hTs : s.TypeIs (.ref sl) "slice":=⟨os,hos,hcs⟩
 unfold getItem
 try with_reducible refine wpAny_holding ?_
 first | refine wX (wY ?_) | skip
 refine wX (wpAny_sequenceKey ht.typeIs (by decide) ?_)
 refine wX (wpAny_callSpecial?_slot (name:=Str.ofString "__getitem__") ht.typeIs PyProof.Rows.slot_tuple_getitem
  (wpAny_call_entry PyProof.Rows.slot_tuple_getitem ht.typeIs entry_tuple_getitem ?_ (args_tuple_getitem _ _)))
 show wpAny _ _ (Builtin.Tuple.tupleItemsOf (.ref t) >>= _) _ _ s
 refine wX (tupleItemsOf_ ht ?_)
 refine wX (wpAny_typeOf hTs ?_)
 rw [if_pos (by decide)]
 refine wX (fw hs pl pu ?_)
 have hno : ¬ ((((sIx items.size 0 lo : Nat) : Int) == 0 && (1 : Int) == 1 && (sIx items.size items.size hi - sIx items.size 0 lo) == items.size) = true):=by
  intro q
  rw [Bool.and_eq_true,Bool.and_eq_true] at q
  have q1 : ((sIx items.size 0 lo : Nat) : Int) = 0:=eq_of_beq q.1.1
  have q2 : sIx items.size items.size hi - sIx items.size 0 lo = items.size:=eq_of_beq q.2
  exact hw ⟨by omega,by omega⟩
 show wpAny _ _ (if (((sIx items.size 0 lo : Nat) : Int) == 0 && (1 : Int) == 1 && (sIx items.size items.size hi - sIx items.size 0 lo) == items.size) = true then _ else _) _ _ s
 rw [if_neg hno,x0]
 first
  | exact wX (m:=Builtin.Tuple.tupleExact _) (wpAny_newObj_type (wY ⟨_,rfl,wY h⟩) htake)
  | exact wX (m:=Builtin.Tuple.tupleExact _) (wpAny_newObj_type (wX (wY (wY ⟨_,rfl,wY h⟩))) htake)
  | exact wX (wX (m:=Builtin.Tuple.tupleExact _) (wpAny_newObj_type (wY (wY ⟨_,rfl,wY h⟩)) htake))
  | exact wX (wX (m:=Builtin.Tuple.tupleExact _) (wpAny_newObj_type (wY ⟨_,rfl,wY h⟩) htake))
end
end HT
namespace L2
open PySem PySem.Spec PyProof.Rows
abbrev TO:=St->Hp->(Option Int->Hp->Prop)->Prop
def PO (X : Cx) (e : Option Expr) (t : TO) : Prop :=
 ∀ (pins : List (Addr × Obj)) (s : Shared) (σ : St) (H : Hp) (Q : Option Int->Hp->Prop),Inv X pins σ H s->t σ H Q ->
  wpAny (model X.prog X.w) X.A (evalPart e X.env) (fun u s'=>∃ o H',Inv X pins σ H' s'/\IsPart u o/\Q o H') X.xe s
def zH : TO:=fun _ H Q=>Q none H
def D8 (t : TE) : TO:=fun σ H Q=>t σ H fun x H1=>∃ i,x = .int i/\Q (some i) H1
section
variable {X : Cx} {e : Expr} {te : TE} {lo hi : Option Expr} {tl th : TO} {pos p2 : Pos}
theorem zI : PO X none zH:=by
 intro pins s σ H Q I h
 rw [evalPart_none]
 exact wY ⟨none,H,I,.none,h⟩
theorem zJ (h : PE X e te) : PO X (some e) (D8 te):=by
 intro pins s σ H Q I hw
 rw [evalPart_some]
 refine thn (h pins s σ H _ I hw) fun u s1 ⟨x,H1,I1,r1,q1⟩=>?_
 obtain ⟨i,rfl,q⟩:=q1
 obtain ⟨t,rfl⟩:=r1
 exact ⟨some i,H1,I1,.int i t,q⟩
def SlR (X : Cx) (r : V->Option Int->Option Int->Hp->VK->Prop) : Prop :=
 ∀ (pins : List (Addr × Obj)) (s : Shared) (σ : St) (H : Hp) (x : V) (v vl vu : Value) (lo hi : Option Int) (sl : Addr) (Q : VK),Inv X pins σ H s->aN x v->s.heap.IsSliceOf sl vl vu .none->IsPart vl lo->IsPart vu hi->r x lo hi H Q ->
  ∃ T id,typeLookup (.type T) "__getitem__" = pure (some (.builtin id))/\s.TypeIs v T/\wpAny (model X.prog X.w) X.A (getItem v (.ref sl)) (EP X pins σ Q) X.xe s
theorem SlR.or {r r' : V->Option Int->Option Int->Hp->VK->Prop} (h : SlR X r) (h' : SlR X r') : SlR X (fun x lo hi H Q=>r x lo hi H Q ∨ r' x lo hi H Q):=by
 intro pins s σ H x v vl vu lo hi sl Q I rx hs pl pu q
 rcases q with q | q
 ·exact h pins s σ H x v vl vu lo hi sl Q I rx hs pl pu q
 ·exact h' pins s σ H x v vl vu lo hi sl Q I rx hs pl pu q
def tSl (r : V->Option Int->Option Int->Hp->VK->Prop) (te : TE) (tl th : TO) : TE:=fun σ H Q=>te σ H fun x H1=>tl σ H1 fun l H2=>th σ H2 fun u H3=>r x l u H3 Q
theorem xA {r : V->Option Int->Option Int->Hp->VK->Prop} (hr : SlR X r) (he : PE X e te) (hl : PO X lo tl) (hu : PO X hi th) : PE X (.Subscript e (.Slice lo hi none p2) pos) (tSl r te tl th):=by
 intro pins s σ H Q I h
 refine Subscript_ (thn (he pins s σ H _ I h) fun v s1 ⟨x,H1,I1,r1,q1⟩=>?_)
 refine wpAny_Slice (thn (hl pins s1 σ H1 _ I1 q1) fun vl s2 ⟨l,H2,I2,pl,q2⟩=>thn (hu pins s2 σ H2 _ I2 q2) fun vu s3 ⟨u,H3,I3,pu,q3⟩=>?_)
 rw [evalPart_none]
 refine wY ?_
 have I4 : Inv X pins σ H3 { s3 with heap:=s3.heap.push { cls:=.type "slice",data:=.fields #[vl,vu,.none] } }:=I3.kept (t':=s3.toks) fun b ob q=>Heap.get?_push_of_some _ q
 obtain ⟨T,id,hT,ht,hg⟩:=hr pins { s3 with heap:=s3.heap.push { cls:=.type "slice",data:=.fields #[vl,vu,.none] } } σ H3 x v vl vu l u s3.heap.objs.size Q I4 r1 (Heap.IsSliceOf.new ..) pl pu q3
 show wpAny (model X.prog X.w) X.A (subscriptTail e (.Slice lo hi none p2) v (.ref s3.heap.objs.size)) (EP X pins σ Q) X.xe { s3 with heap:=s3.heap.push { cls:=.type "slice",data:=.fields #[vl,vu,.none] } }
 exact tail_any (ops:=[.ref s3.heap.objs.size,v]) ht hT hg (by with_unfolding_all rfl)
def nz (xs : List V) (lo hi : Option Int) : List V:=(xs.drop (HT.sIx xs.length 0 lo)).take (HT.sIx xs.length xs.length hi - HT.sIx xs.length 0 lo)
theorem kB (xs : List V) (lo hi : Option Int) : (nz xs lo hi).length<=xs.length:=by
 unfold nz
 rw [List.length_take,List.length_drop]
 omega
def Ey (K : PySem.W.Frag) : V->Option Int->Option Int->Hp->VK->Prop:=fun x lo hi H Q=>∃ a xs,x = .ref a/\SqT K H a xs /\
 ¬ (HT.sIx xs.length 0 lo = 0/\HT.sIx xs.length xs.length hi = xs.length)/\∀ p,H p = none->Q (.ref p) (upd H p (.tup (nz xs lo hi)))
theorem BX : SlR X (Ey X.K):=by
 intro pins s σ H x v vl vu lo hi sl Q I rx hs pl pu h
 obtain ⟨a,xs,rfl,hx,hw,q⟩:=h
 cases rx
 obtain ⟨its,r,ht,hz⟩:=I.tuple hx
 have hlen : its.toArray.size = xs.length:=by rw [List.size_toArray]; exact r.length.symm
 refine ⟨"tuple",_,PyProof.Rows.slot_tuple_getitem.lookup,ht.typeIs, ?_⟩
 refine HT.ja ht hs pl pu (by rw [hlen]; exact hw) ?_ (by rw [hlen]; exact hz)
 rw [hlen]
 refine ⟨.ref s.heap.objs.size,_,I.laid (t':=s.toks) (o:=.tup (nz xs lo hi)) (fun b ob q=>Heap.get?_push_of_some _ q) (Nat.le_refl _) ?_,rfl,q _ (I.hok.fresh (Nat.le_refl _))⟩
 exact ⟨Nat.le_trans (kB xs lo hi) hz,_,(r.drop (HT.sIx xs.length 0 lo)).take (HT.sIx xs.length xs.length hi - HT.sIx xs.length 0 lo),IsTup.new _ _⟩
def D9 (K : PySem.W.Frag) : R2:=fun x y H Q=>∃ a b xs ys,x = .ref a/\y = .ref b/\SqT K H a xs/\SqT K H b ys/\xs ≠ []/\xs.length + ys.length<=sizeLine /\
 (ys = []->Q (.ref a) H)/\(ys ≠ []->∀ p,H p = none->Q (.ref p) (upd H p (.tup (xs ++ ys))))
theorem aK.nil_iff {xs : List V} {us : List Value} (r : aK xs us) : us = [] ↔ xs = []:=by
 cases r with
 | nil=>simp
 | cons _ _=>simp
theorem zK : OpR X (binaryOp .Add) (D9 X.K):=by
 intro pins s σ H x y v u Q I rx ry h
 obtain ⟨a,b,xs,ys,rfl,rfl,ha,hb,hx,hz,q1,q2⟩:=h
 cases rx
 cases ry
 obtain ⟨its,r1,p1,_⟩:=I.tuple ha
 obtain ⟨its2,r2,p2,_⟩:=I.tuple hb
 refine HT.zG p1 p2 (fun z=>hx (r1.nil_iff.mp z)) (fun z=>⟨.ref a,H,I,rfl,q1 (r2.nil_iff.mp z)⟩) (fun z=>?_) (by rw [← r1.length,← r2.length]; exact hz)
 refine ⟨.ref s.heap.objs.size,_,I.laid (t':=s.toks) (o:=.tup (xs ++ ys)) (fun b ob q=>Heap.get?_push_of_some _ q) (Nat.le_refl _) ?_,rfl,q2 (fun w=>z (r2.nil_iff.mpr w)) _ (I.hok.fresh (Nat.le_refl _))⟩
 exact ⟨by rw [List.length_append]; exact hz,_,r1.append r2,IsTup.new _ _⟩
end
def ixN (n : Nat) (i : Int) : Option Nat:=if 0<=i then (if i < n then some i.toNat else none) else if -(n : Int)<=i then some (i + n).toNat else none
def atI {α : Type} (xs : List α) (i : Int) : Option α:=(ixN xs.length i).bind fun j=>xs[j]?
theorem zL {n : Nat} {i : Int} {j : Nat} (h : ixN n i = some j) : seqIndex? i n = some j/\j < n/\-(n : Int)<=i/\i < n:=by
 unfold ixN at h
 by_cases h0 : 0<=i
 ·rw [if_pos h0] at h
  by_cases h1 : i < n
  ·rw [if_pos h1] at h
   have e : i.toNat = j:=Option.some.inj h
   exact ⟨by rw [seqIndex_of h0 h1,e],by omega,by omega,h1⟩
  ·rw [if_neg h1] at h; cases h
 ·rw [if_neg h0] at h
  by_cases h1 : -(n : Int)<=i
  ·rw [if_pos h1] at h
   have e : (i + n).toNat = j:=Option.some.inj h
   exact ⟨by rw [seqIndex_neg (by omega) h1,e],by omega,h1,by omega⟩
  ·rw [if_neg h1] at h; cases h
theorem pw {α : Type} {xs : List α} {i : Int} {v : α} (h : atI xs i = some v) : ∃ j,seqIndex? i xs.length = some j/\xs[j]? = some v/\j < xs.length/\-(xs.length : Int)<=i/\i < xs.length:=by
 unfold atI at h
 cases e : ixN xs.length i with
 | none=>rw [e] at h; cases h
 | some j =>
  rw [e] at h
  obtain ⟨h1,h2,h3,h4⟩:=zL e
  exact ⟨j,h1,h,h2,h3,h4⟩
theorem zM {α : Type} {xs : List α} {j : Nat} {v : α} (h : xs[j]? = some v) : atI xs (j : Int) = some v:=by
 have hj : j < xs.length:=(List.getElem?_eq_some_iff.mp h).1
 have e : ixN xs.length (j : Int) = some j:=by
  unfold ixN
  rw [if_pos (by omega),if_pos (by omega)]; simp
 unfold atI; rw [e]; exact h
theorem qQ {α : Type} (xs : List α) (v : α) : atI (xs ++ [v]) (-1) = some v:=by
 have hl : (xs ++ [v]).length = xs.length + 1:=by simp
 have e : ixN (xs ++ [v]).length (-1) = some xs.length:=by
  unfold ixN
  rw [hl,if_neg (by decide),if_pos (by omega)]
  congr 1
  omega
 unfold atI
 rw [e]
 show (xs ++ [v])[xs.length]? = some v
 simp
def px (b : Expr) : Prop:=∀ o i,subscripted b false o i = operate [o,i] (getItem o i)
def IxR (X : Cx) (r : R2) : Prop :=
 ∀ (value slice : Expr) (pins : List (Addr × Obj)) (s : Shared) (σ : St) (H : Hp) (x y : V) (v u : Value) (Q : VK),Inv X pins σ H s->aN x v->aN y u->r x y H Q ->
  subscripted slice false v u = operate [v,u] (getItem v u)->wpAny (model X.prog X.w) X.A (subscriptTail value slice v u) (EP X pins σ Q) X.xe s
def MtR (X : Cx) (id : String) (r : V->List V->Hp->VK->Prop) : Prop :=
 ∀ (pins : List (Addr × Obj)) (s : Shared) (σ : St) (H : Hp) (x : V) (xs : List V) (v : Value) (us : List Value) (Q : VK),Inv X pins σ H s->aN x v->aK xs us->r x xs H Q ->
  wpAny (model X.prog X.w) X.A (call (.builtin id) (v :: us)) (EP X pins σ Q) X.xe s
section
variable {X : Cx} {a b : Expr} {ta tb : TE} {pos : Pos}
theorem IxR.or {r r' : R2} (h : IxR X r) (h' : IxR X r') : IxR X (fun x y H Q=>r x y H Q ∨ r' x y H Q):=by
 intro value slice pins s σ H x y v u Q I rx ry q hs
 rcases q with q | q
 ·exact h value slice pins s σ H x y v u Q I rx ry q hs
 ·exact h' value slice pins s σ H x y v u Q I rx ry q hs
theorem MtR.or {id : String} {r r' : V->List V->Hp->VK->Prop} (h : MtR X id r) (h' : MtR X id r') : MtR X id (fun x xs H Q=>r x xs H Q ∨ r' x xs H Q):=by
 intro pins s σ H x xs v us Q I rx rs q
 rcases q with q | q
 ·exact h pins s σ H x xs v us Q I rx rs q
 ·exact h' pins s σ H x xs v us Q I rx rs q
theorem AO {r : R2} (hr : IxR X r) (ha : PE X a ta) (hb : PE X b tb) (hs : px b) : PE X (.Subscript a b pos) (tOp r ta tb):=by
 intro pins s σ H Q I h
 exact Subscript_ (BN ha hb I h fun v u s2 x y H2 I2 rx ry q=>hr a b pins s2 σ H2 x y v u Q I2 rx ry q (hs _ _))
def Ez (K : PySem.W.Frag) : R2:=fun x y H Q=>∃ p xs i v,x = .ref p/\y = .int i/\SqL K H p xs/\atI xs i = some v/\Q v H
def E1 (K : PySem.W.Frag) : R2:=fun x y H Q=>∃ p xs i v,x = .ref p/\y = .int i/\SqT K H p xs/\atI xs i = some v/\Q v H
def E2 : R2:=fun x y H Q=>∃ z i c,x = .str z/\y = .int i/\z.length<=sizeLine/\atI z.cps.toList i = some c/\Q (.str ⟨#[c]⟩) H
theorem zN : IxR X (Ez X.K):=by
 intro value slice pins s σ H x y v u Q I rx ry h hs
 obtain ⟨p,xs,i,z,rfl,rfl,hq,he,q⟩:=h
 cases rx
 obtain ⟨t,rfl⟩:=ry
 obtain ⟨its,r,pl,hz⟩:=I.list hq
 obtain ⟨j,h1,h2,h3,h4,h5⟩:=pw he
 obtain ⟨w,ew,rw'⟩:=r.get h2
 have hl:=r.length
 have hn:=l7
 have fin : EP X pins σ Q w s:=⟨z,H,I,rw',q⟩
 by_cases h0 : 0<=i
 ·have hj : i.toNat = j:=by
   rw [seqIndex_of h0 h5] at h1
   exact Option.some.inj h1
  exact item_listR pl.isList h0 (by omega) (by rw [hj]; simpa using ew) fin hs
 ·have hj : (i + (its.toArray.size : Int)).toNat = j:=by
   rw [seqIndex_neg (by omega) h4] at h1
   rw [List.size_toArray,← hl]
   exact Option.some.inj h1
  exact subscriptTail_builtinR (x:=w) pl.isList.typeIs slot_list_getitem.lookup
   (wpAny_getItem_list_neg (Q:=fun r s'=>r = w/\EP X pins σ Q r s') pl.isList (by omega) (by rw [List.size_toArray] <;> omega) (by omega) (by rw [hj]; simpa using ew) ⟨rfl,fin⟩) hs
theorem xB : IxR X (E1 X.K):=by
 intro value slice pins s σ H x y v u Q I rx ry h hs
 obtain ⟨p,xs,i,z,rfl,rfl,hq,he,q⟩:=h
 cases rx
 obtain ⟨t,rfl⟩:=ry
 obtain ⟨its,r,pl,hz⟩:=I.tuple hq
 obtain ⟨j,h1,h2,h3,h4,h5⟩:=pw he
 obtain ⟨w,ew,rw'⟩:=r.get h2
 have hl:=r.length
 have hn:=l7
 have fin : EP X pins σ Q w s:=⟨z,H,I,rw',q⟩
 exact subscriptTail_builtinR (x:=w) pl.typeIs slot_tuple_getitem.lookup
  (getItem_tuple (j:=j) (Q:=fun r s'=>r = w/\EP X pins σ Q r s') pl (by omega) (by omega) (by rw [List.size_toArray,← hl]; exact h1) (by simpa using ew) ⟨rfl,fin⟩) hs
theorem tK : IxR X E2:=by
 intro value slice pins s σ H x y v u Q I rx ry h hs
 obtain ⟨z,i,c,rfl,rfl,hz,he,q⟩:=h
 obtain ⟨t,rfl⟩:=rx
 obtain ⟨t',rfl⟩:=ry
 obtain ⟨j,h1,h2,h3,h4,h5⟩:=pw he
 have hl : z.cps.toList.length = z.length:=by simp [Str.length]
 rw [hl] at h1 h4 h5
 have hn:=l7
 exact tail_any (typeIs_str s z t) slot_str_getitem.lookup (getItem_str (c:=c) (by
  have e1 : decide (i < -(2 ^ 63 : Int)) = false:=decide_eq_false (by omega)
  have e2 : decide (i ≥ 2 ^ 63) = false:=decide_eq_false (by omega)
  rw [e1,e2,Bool.or_false]) (by rw [h1]; simpa using h2) ⟨.str ⟨#[c]⟩,H,I.tok _,⟨_,rfl⟩,q⟩) hs
theorem Inv.lst {pins : List (Addr × Obj)} {σ : St} {H : Hp} {s : Shared} {p : Addr} {xs : List V} (I : Inv X pins σ H s) (h : H p = some (.lst xs)) :
  ∃ (its : List Value) (n : Nat),aK xs its/\s.heap.get? p = some { cls:=.type "list",data:=.seq its.toArray n }/\xs.length<=sizeLine:=by
 obtain ⟨z,its,n,r,e⟩:=I.hok p _ h
 exact ⟨its,n,r,e,z⟩
theorem pz (lo hi : Option Int) (n : Nat) : (sliceBounds lo hi none n).1 = ((HT.sIx n 0 lo : Nat) : Int)/\(sliceBounds lo hi none n).2.1 = ((HT.sIx n n hi : Nat) : Int)/\(sliceBounds lo hi none n).2.2 = 1:=by
 refine ⟨?_, ?_,rfl⟩
 ·cases lo with
  | none=>simp [sliceBounds,HT.sIx]
  | some i =>
   simp only [sliceBounds,HT.sIx,Option.getD_none,show (1 : Int) > 0 by decide,if_true]
   by_cases h : i < 0
   ·simp only [h,if_true] <;> omega
   ·simp only [h,if_false] <;> omega
 ·cases hi with
  | none=>simp [sliceBounds,HT.sIx]
  | some i =>
   simp only [sliceBounds,HT.sIx,Option.getD_none,show (1 : Int) > 0 by decide,if_true]
   by_cases h : i < 0
   ·simp only [h,if_true] <;> omega
   ·simp only [h,if_false] <;> omega
theorem n6 (its : List Value) (lo hi : Option Int) : slicePick its.toArray lo hi none = ((its.drop (HT.sIx its.length 0 lo)).take (HT.sIx its.length its.length hi - HT.sIx its.length 0 lo)).toArray:=by
 obtain ⟨h1,h2,h3⟩:=pz lo hi its.toArray.size
 unfold slicePick
 rw [h1,h2,h3]
 simp only [sliceRange_one,pick_run,List.size_toArray] <;> rfl
def E3 (K : PySem.W.Frag) : V->Option Int->Option Int->Hp->VK->Prop:=fun x lo hi H Q=>∃ a xs,x = .ref a/\SqL K H a xs/\∀ p,H p = none->Q (.ref p) (upd H p (.lst (nz xs lo hi)))
theorem zO : SlR X (E3 X.K):=by
 intro pins s σ H x v vl vu lo hi sl Q I rx hs pl pu h
 obtain ⟨a,xs,rfl,hx,q⟩:=h
 cases rx
 obtain ⟨its,r,ht,hz⟩:=I.list hx
 have hlen:=r.length
 refine ⟨"list",_,slot_list_getitem.lookup,ht.isList.typeIs, ?_⟩
 refine wpAny_getItem_list_slice ht.isList hs pl pu .none (by simp) ?_ (by rw [List.size_toArray] <;> omega)
 rw [n6,← hlen]
 refine ⟨.ref s.heap.objs.size,_,I.laid (t':=s.toks) (o:=.lst (nz xs lo hi)) (fun b ob q=>Heap.get?_push_of_some _ q) (Nat.le_refl _) ?_,rfl,q _ (I.hok.fresh (Nat.le_refl _))⟩
 exact ⟨Nat.le_trans (kB xs lo hi) hz,_,0,(r.drop (HT.sIx xs.length 0 lo)).take (HT.sIx xs.length xs.length hi - HT.sIx xs.length 0 lo),Heap.get?_push_size _ rfl⟩
def im : V->Bool
 | .non=>true
 | .bl _=>true
 | .int _=>true
 | .str _=>true
 | _=>false
def eqV : V->V->Bool
 | .non,.non=>true
 | .bl a,.bl b=>a == b
 | .bl a,.int b=>(if a then 1 else 0) == b
 | .int a,.bl b=>a == (if b then 1 else 0)
 | .int a,.int b=>a == b
 | .str a,.str b=>a == b
 | _,_=>false
theorem BY {A : Around} {s : Shared} {y x : V} {u v : Value} (ry : aN y u) (rx : aN x v) (fy : im y = true) (fx : im x = true) : SeqAt.EqAt A s u v (eqV y x):=by
 cases y with
 | non =>
  cases ry
  cases x with
  | non=>cases rx; exact SeqAt.EqAt.same _
  | bl b=>cases rx; exact SeqAt.EqAt.none_bool b
  | int b=>obtain ⟨t,rfl⟩:=rx; exact SeqAt.EqAt.none_int b t
  | str b=>obtain ⟨t,rfl⟩:=rx; exact SeqAt.EqAt.none_str b t
  | _=>exact absurd (show false = true from fx) Bool.false_ne_true
 | bl a =>
  cases ry
  cases x with
  | non=>cases rx; exact SeqAt.EqAt.bool_none a
  | bl b=>cases rx; exact SeqAt.EqAt.bool_bool a b
  | int b=>obtain ⟨t,rfl⟩:=rx; exact SeqAt.EqAt.bool_int a b t
  | str b=>obtain ⟨t,rfl⟩:=rx; exact SeqAt.EqAt.bool_str a b t
  | _=>exact absurd (show false = true from fx) Bool.false_ne_true
 | int a =>
  obtain ⟨t',rfl⟩:=ry
  cases x with
  | non=>cases rx; exact SeqAt.EqAt.int_none a t'
  | bl b=>cases rx; exact SeqAt.EqAt.int_bool a t' b
  | int b=>obtain ⟨t,rfl⟩:=rx; exact SeqAt.EqAt.int_int a t' b t
  | str b=>obtain ⟨t,rfl⟩:=rx; exact SeqAt.EqAt.int_str a t' b t
  | _=>exact absurd (show false = true from fx) Bool.false_ne_true
 | str a =>
  obtain ⟨t',rfl⟩:=ry
  cases x with
  | non=>cases rx; exact SeqAt.EqAt.str_none a t'
  | bl b=>cases rx; exact SeqAt.EqAt.str_bool a t' b
  | int b=>obtain ⟨t,rfl⟩:=rx; exact SeqAt.EqAt.str_int a t' b t
  | str b=>obtain ⟨t,rfl⟩:=rx; exact SeqAt.EqAt.str_str a t' b t
  | _=>exact absurd (show false = true from fx) Bool.false_ne_true
 | _=>exact absurd (show false = true from fy) Bool.false_ne_true
def eqU (x : V) (u : Value) : Bool:=match u with
 | .none=>eqV .non x
 | .bool b=>eqV (.bl b) x
 | .int i _=>eqV (.int i) x
 | .str z _=>eqV (.str z) x
 | _=>false
theorem xC {x y : V} {u : Value} (r : aN y u) (f : im y = true) : eqU x u = eqV y x:=by
 cases y with
 | non=>cases r; rfl
 | bl b=>cases r; rfl
 | int i=>obtain ⟨t,rfl⟩:=r; rfl
 | str z=>obtain ⟨t,rfl⟩:=r; rfl
 | _=>exact absurd (show false = true from f) Bool.false_ne_true
theorem jb {x : V} : ∀ {xs : List V} {us : List Value},aK xs us->xs.all im = true->us.any (eqU x) = xs.any fun y=>eqV y x
 | _,_,.nil,_=>rfl
 | y :: xs,u :: us,.cons r t,f=>by
  rw [List.all_cons,Bool.and_eq_true] at f
  rw [List.any_cons,List.any_cons,xC r f.1,jb t f.2]
theorem gp {A : Around} {s : Shared} {x : V} {v : Value} (rx : aN x v) (fx : im x = true) : ∀ {xs : List V} {us : List Value},aK xs us->xs.all im = true->∀ u ∈ us,SeqAt.EqAt A s u v (eqU x u)
 | _,_,.nil,_=>fun u hu=>by cases hu
 | y :: xs,u :: us,.cons r t,f=>fun u' hu=>by
  rw [List.all_cons,Bool.and_eq_true] at f
  rcases List.mem_cons.mp hu with rfl | hu
  ·rw [xC r f.1]; exact BY r rx f.1 fx
  ·exact gp rx fx t f.2 u' hu
def inV (x : V) (xs : List V) : Bool:=xs.any fun y=>eqV y x
def rIn (K : PySem.W.Frag) (neg : Bool) : R2:=fun x y H Q=>∃ p xs,y = .ref p/\(SqL K H p xs ∨ SqT K H p xs)/\im x = true/\xs.all im = true/\Q (.bl (if neg then !inV x xs else inV x xs)) H
theorem wq : OpR X (compareOp .In) (rIn X.K false):=by
 intro pins s σ H x y v u Q I rx ry h
 obtain ⟨p,xs,rfl,hq,fx,fs,q⟩:=h
 cases ry
 rcases hq with hq | hq
 ·obtain ⟨its,r,pl,hz⟩:=I.list hq
  refine SeqAt.in_listAt (eqU x) pl.isList (fun w hw=>gp rx fx r fs w (by simpa using hw)) ⟨.bl _,H,I,rfl, ?_⟩
  rw [show its.toArray.any (eqU x) = its.any (eqU x) by simp,jb r fs]
  exact q
 ·obtain ⟨its,r,pl,hz⟩:=I.tuple hq
  refine SeqAt.in_tupleAt (eqU x) pl (fun w hw=>gp rx fx r fs w (by simpa using hw)) ⟨.bl _,H,I,rfl, ?_⟩
  rw [show its.toArray.any (eqU x) = its.any (eqU x) by simp,jb r fs]
  exact q
theorem p0 : OpR X (compareOp .NotIn) (rIn X.K true):=by
 intro pins s σ H x y v u Q I rx ry h
 obtain ⟨p,xs,rfl,hq,fx,fs,q⟩:=h
 cases ry
 rcases hq with hq | hq
 ·obtain ⟨its,r,pl,hz⟩:=I.list hq
  refine SeqAt.notIn_listAt (eqU x) pl.isList (fun w hw=>gp rx fx r fs w (by simpa using hw)) ⟨.bl _,H,I,rfl, ?_⟩
  rw [show its.toArray.any (eqU x) = its.any (eqU x) by simp,jb r fs]
  exact q
 ·obtain ⟨its,r,pl,hz⟩:=I.tuple hq
  refine SeqAt.notIn_tupleAt (eqU x) pl (fun w hw=>gp rx fx r fs w (by simpa using hw)) ⟨.bl _,H,I,rfl, ?_⟩
  rw [show its.toArray.any (eqU x) = its.any (eqU x) by simp,jb r fs]
  exact q
theorem p4 : bW X (.builtin "len") (fun xs H Q=>∃ p ys,xs = [.ref p]/\(SqL X.K H p ys ∨ SqT X.K H p ys)/\Q (.int ys.length) H):=by
 intro pins s σ H xs us Q I r h
 obtain ⟨p,ys,rfl,hq,q⟩:=h
 obtain ⟨u,rfl,rx⟩:=gm r
 cases rx
 have hn:=l7
 rcases hq with hq | hq
 ·obtain ⟨its,r',pl,hz⟩:=I.list hq
  have hlen:=r'.length
  exact Calls.call_len_list pl.isList (by simp only [List.size_toArray] <;> omega) ⟨.int ys.length,H,I.tok _,⟨s.toks + 1,by rw [List.size_toArray,hlen]⟩,q⟩
 ·obtain ⟨its,r',pl,hz⟩:=I.tuple hq
  have hlen:=r'.length
  exact len_tuple pl (by simp only [List.size_toArray] <;> omega) ⟨.int ys.length,H,I.tok _,⟨s.toks + 1,by rw [List.size_toArray,hlen]⟩,q⟩
theorem p5 : bW X (.builtin "len") (fun xs H Q=>∃ z,xs = [.str z]/\z.length<=sizeLine/\Q (.int z.length) H):=by
 intro pins s σ H xs us Q I r h
 obtain ⟨z,rfl,hz,q⟩:=h
 obtain ⟨u,rfl,t,rfl⟩:=gm r
 have hn:=l7
 exact len_str (by omega) ⟨.int z.length,H,I.tok _,⟨_,rfl⟩,q⟩
theorem bW.or {f : Value} {r r' : List V->Hp->VK->Prop} (h : bW X f r) (h' : bW X f r') : bW X f (fun xs H Q=>r xs H Q ∨ r' xs H Q):=by
 intro pins s σ H xs us Q I rs q
 rcases q with q | q
 ·exact h pins s σ H xs us Q I rs q
 ·exact h' pins s σ H xs us Q I rs q
theorem p6 : bW X (.type "list") (fun xs H Q=>∃ p ys,xs = [.ref p]/\(SqL X.K H p ys ∨ SqT X.K H p ys)/\∀ l,H l = none->Q (.ref l) (upd H l (.lst ys))):=by
 intro pins s σ H xs us Q I r h
 obtain ⟨p,ys,rfl,hq,q⟩:=h
 obtain ⟨u,rfl,rx⟩:=gm r
 cases rx
 have fin : ∀ (its : List Value),aK ys its->ys.length<=sizeLine->∀ (h' : Heap) (c' : Nat),(∀ b o',s.heap.get? b = some o'->h'.get? b = some o') ->
   h'.get? s.heap.objs.size = some { cls:=.type "list",dict:=none,data:=.seq its.toArray c',slots:=#[] }->EP X pins σ Q (.ref s.heap.objs.size) { s with heap:=h' }:=fun its r' hz h' c' kp e =>
  ⟨.ref s.heap.objs.size,_,I.laid (t':=s.toks) kp (Nat.le_refl _) (show b9 X.prog X.w _ h' _ (.lst ys) from ⟨hz,its,c',r',e⟩),rfl,q _ (I.hok.fresh (Nat.le_refl _))⟩
 rcases hq with hq | hq
 ·obtain ⟨its,r',pl,hz⟩:=I.list hq
  have hlen:=r'.length
  obtain ⟨o,ho,hc,n,hd⟩:=pl.isList
  exact call_list_seq p (.inl rfl) ho hc hd (fun h' c' kp e=>fin its r' hz h' c' kp e) (by simp only [List.size_toArray] <;> omega)
 ·obtain ⟨its,r',pl,hz⟩:=I.tuple hq
  have hlen:=r'.length
  obtain ⟨o,ho,hc,n,hd⟩:=pl
  exact call_list_seq p (.inr rfl) ho hc hd (fun h' c' kp e=>fin its r' hz h' c' kp e) (by simp only [List.size_toArray] <;> omega)
theorem n8 : bW X (.type "tuple") (fun xs H Q=>∃ p ys,xs = [.ref p]/\((SqL X.K H p ys/\∀ l,H l = none->Q (.ref l) (upd H l (.tup ys))) ∨ (SqT X.K H p ys/\Q (.ref p) H))):=by
 intro pins s σ H xs us Q I r h
 obtain ⟨p,ys,rfl,h⟩:=h
 obtain ⟨u,rfl,rx⟩:=gm r
 cases rx
 rcases h with ⟨hq,q⟩ | ⟨hq,q⟩
 ·obtain ⟨its,r',pl,hz⟩:=I.list hq
  have hlen:=r'.length
  refine call_tuple_list pl.isList (fun h' kp=>?_) (by simp only [List.size_toArray] <;> omega)
  have I1 : Inv X pins σ H { s with heap:=h' }:=I.kept (t':=s.toks) kp
  have I2 : Inv X pins σ (upd H h'.objs.size (.tup ys)) { s with heap:=h'.push { cls:=.type "tuple",data:=.seq its.toArray } } :=
   I1.laid (t':=s.toks) (fun b o e=>Heap.get?_push_of_some _ e) (Nat.le_refl _) (show b9 X.prog X.w _ _ _ (.tup ys) from ⟨hz,its,r',IsTup.new _ _⟩)
  exact ⟨.ref h'.objs.size,_,I2,rfl,q _ (I1.hok.fresh (Nat.le_refl _))⟩
 ·obtain ⟨its,r',pl,hz⟩:=I.tuple hq
  exact call_tuple_same pl ⟨.ref p,H,I,rfl,q⟩
def tyV (K : PySem.W.Frag) (T : String) (x : V) (H : Hp) : Prop:=match x with
 | .str _=>T = "str"
 | .int _=>T = "int"
 | .ref p=>(T = "list"/\∃ xs,SqL K H p xs) ∨ (T = "tuple"/\∃ o,K.lookup p = some o/\o.cls = .type "tuple"/\o.dict = none) ∨
   (T = "dict"/\((∃ kvs,H p = some (.dK kvs)) ∨ ∃ kvs,H p = some (.dT kvs))) ∨ (T = "set"/\∃ S n,H p = some (.set S n))
 | _=>False
theorem BZ {pins : List (Addr × Obj)} {σ : St} {H : Hp} {s : Shared} {T : String} {x : V} {v : Value} (I : Inv X pins σ H s) (r : aN x v) (ty : tyV X.K T x H) :
  s.TypeIs v T/\∀ a,v = .ref a->∃ ob,s.heap.get? a = some ob/\ob.dict = none:=by
 cases x with
 | str z =>
  obtain ⟨t,rfl⟩:=r
  cases (show T = "str" from ty)
  exact ⟨typeIs_str s z t,fun _ e=>nomatch e⟩
 | int i =>
  obtain ⟨t,rfl⟩:=r
  cases (show T = "int" from ty)
  exact ⟨typeIs_int s i t,fun _ e=>nomatch e⟩
 | ref p =>
  cases r
  rcases ty with ⟨rfl,xs,hq⟩ | ⟨rfl,o,hk,hc,hd⟩ | ⟨rfl,hk⟩ | ⟨rfl,S,n,hk⟩
  ·obtain ⟨its,_,pl,_⟩:=I.list hq
   refine ⟨pl.isList.typeIs,fun a e=>?_⟩
   cases e
   obtain ⟨o,n,e,c,hd,_⟩:=pl
   exact ⟨o,e,hd⟩
  ·refine ⟨⟨o,I.kIn p o hk,hc⟩,fun a e=>?_⟩
   cases e
   exact ⟨o,I.kIn _ o hk,hd⟩
  ·have z : ∃ o,s.heap.get? p = some o/\o.ExactDict:=by
    rcases hk with ⟨kvs,hk⟩ | ⟨kvs,hk⟩
    ·obtain ⟨_,_,_,_,o,_,_,e,ex,_⟩:=I.hok p _ hk
     exact ⟨o,e,ex⟩
    ·obtain ⟨_,_,_,_,o,_,_,e,ex,_⟩:=I.hok p _ hk
     exact ⟨o,e,ex⟩
   obtain ⟨o,e,ex⟩:=z
   refine ⟨⟨o,e,ex.1⟩,fun a e2=>?_⟩
   cases e2
   exact ⟨o,e,ex.2.1⟩
  ·obtain ⟨o,_,_,_,e,ex,_⟩:=I.hok p _ hk
   refine ⟨⟨o,e,ex.1⟩,fun a e2=>?_⟩
   cases e2
   exact ⟨o,e,ex.2.1⟩
 | _=>exact False.elim ty
def tBM (K : PySem.W.Frag) (T : String) (r : V->List V->Hp->VK->Prop) (to : TE) (t : TA) : TE:=fun σ H Q=>to σ H fun x H1=>tyV K T x H1/\t σ H1 fun xs H2=>r x xs H2 Q
variable {o e : Expr} {es : List Expr} {to : TE} {t : TA} {name : Str} {apos cpos : Pos} {T id : String} {r : V->List V->Hp->VK->Prop}
theorem AQ (pa : PlainAttrs T) (slot : Slot T name id) (hty : typeOf (.builtin id) = pure (.type "method_descriptor")) (hm : MtR X id r) (ho : PE X o to) (ha : PA X (e :: es) t)
  (hbase : attributeBase o name X.env (eval o X.env) = eval o X.env:=by rfl)
  (hfew : ((backTo cpos (starEach (e :: es) X.env)).all (fun x=>!x.1) && (backToKw cpos (keywordEach [] X.env)).all (fun x=>x.1.isSome)
   && decide ((e :: es).length + ([] : List Keyword).length + (if ([] : List Keyword).isEmpty then 0 else 1) < 30)) = true:=by rfl)
  (hline : (apos.endLine == cpos.line) = true:=by rfl) (hs : starEach (e :: es) X.env = (false,eval e X.env) :: starEach es X.env:=by rfl) (hplain : (backTo cpos (starEach es X.env)).any (·.1) = false:=by rfl) :
  PE X (.Call (.Attribute o name apos) (e :: es) [] cpos) (tBM X.K T r to t):=by
 intro pins s σ H Q I h
 refine wpAny_Call_method_late hbase hfew hline rfl (thn (ho pins s σ H _ I h) fun v s1 ⟨x,H1,I1,r1,ty,q1⟩=>?_)
 obtain ⟨h1,h2⟩:=BZ I1 r1 ty
 refine ⟨T,id,pa,slot,hty,h1,h2, ?_⟩
 have hA:=ha cpos pins s1 σ H1 _ I1 q1
 rw [hs] at hA ⊢
 refine Calls.callWith_builtin (by show (false || (backTo cpos (starEach es X.env)).any (·.1)) = false; rw [hplain] <;> rfl) (Calls.evalArgs_plain ?_)
 exact thn hA fun us s2 ⟨vs,H2,I2,r2,q2⟩=>hm pins s2 σ H2 x vs v us Q I2 r1 r2 q2
/- xs.append(e),list.index on a module's tuple .. are MtR facts of 06m -/
end
def MtM (X : Cx) (id : String) (r : V->List V->Hp->VK->Prop) : Prop :=
 ∀ (pins : List (Addr × Obj)) (s : Shared) (σ : St) (H : Hp) (x : V) (xs : List V) (v : Value) (us : List Value) (Q : VK),Inv X pins σ H s->aN x v->aK xs us->r x xs H Q ->
  wpAny (model X.prog X.w) X.A (call (.builtin id) (v :: us)) (EP X pins σ Q) X.xe s
theorem aK.one : ∀ {x : V} {us : List Value},aK [x] us->∃ u,us = [u]/\aN x u
 | _,_,.cons r .nil=>⟨_,rfl,r⟩
theorem aK.two : ∀ {x y : V} {us : List Value},aK [x,y] us->∃ u v,us = [u,v]/\aN x u/\aN y v
 | _,_,_,.cons r (.cons q .nil)=>⟨_,_,rfl,r,q⟩
theorem aK.eraseIdx : ∀ {xs : List V} {us : List Value} (i : Nat),aK xs us->aK (xs.eraseIdx i) (us.eraseIdx i)
 | _,_,_,.nil=>.nil
 | _,_,0,.cons _ t=>t
 | _,_,i + 1,.cons r t=>.cons r (aK.eraseIdx i t)
theorem aK.rep {xs : List V} {us : List Value} (h : aK xs us) : ∀ k : Nat,aK (List.replicate k xs).flatten (List.replicate k us).flatten
 | 0=>.nil
 | k + 1=>by
  rw [List.replicate_succ,List.replicate_succ,List.flatten_cons,List.flatten_cons]
  exact aK.append h (aK.rep h k)
theorem nS (its : List Value) : ∀ (k : Nat) (acc : List Value),
  List.foldl (fun x1 x2=>x1 ++ x2) acc.toArray (List.replicate k its.toArray) = (acc ++ (List.replicate k its).flatten).toArray
 | 0,acc=>by simp
 | k + 1,acc=>by
  have e : acc.toArray ++ its.toArray = (acc ++ its).toArray:=by simp
  have e2 : (acc ++ its) ++ (List.replicate k its).flatten = acc ++ (List.replicate (k + 1) its).flatten:=by
   rw [List.replicate_succ,List.flatten_cons,List.append_assoc]
  rw [← e2,← nS its k (acc ++ its),← e,List.replicate_succ,List.foldl_cons]
section
variable {X : Cx} {pins : List (Addr × Obj)} {σ : St} {H : Hp} {s : Shared} {l b : Addr} {xs ys zs : List V}
theorem Inv.lset {its its' : List Value} {n : Nat} {f : Array Value->Array Value} {t' : Nat} (I : Inv X pins σ H s) (hH : H l = some (.lst xs))
  (e : s.heap.get? l = some { cls:=.type "list",data:=.seq its.toArray n }) (hf : f its.toArray = its'.toArray) (hv : aK ys its') (hz : ys.length<=sizeLine) :
  Inv X pins σ (upd H l (.lst ys)) { s with heap:=s.heap.update l (Obj.mapSeq f),toks:=t' }:=by
 have q:=PySem.IsL.update e f
 rw [hf] at q
 refine I.write (x:=l) (e:=l) (by rw [hH]; exact trivial) (.inl rfl) (fun b' u hb hu=>(Heap.get?_update_other s.heap (Obj.mapSeq f) (Ne.symm hb)).trans hu) ⟨_,q⟩ ?_
 exact ⟨hz,its',_,hv,q⟩
theorem Inv.lnew {its : List Value} {t' : Nat} (I : Inv X pins σ H s) (hv : aK ys its) (hz : ys.length<=sizeLine) :
  Inv X pins σ (upd H s.heap.objs.size (.lst ys)) { s with heap:=s.heap.push { cls:=.type "list",data:=.seq its.toArray },toks:=t' } :=
 I.laid (fun _ _ q=>Heap.get?_push_of_some _ q) (Nat.le_refl _) ⟨hz,its,0,hv,Heap.get?_push_size _ rfl⟩
theorem Inv.fresh (I : Inv X pins σ H s) : H s.heap.objs.size = none:=I.hok.fresh (Nat.le_refl _)
theorem Inv.lstM (I : Inv X pins σ H s) (hH : H l = some (.lst xs)) : xs.length<=sizeLine/\∃ (its : List Value) (n : Nat),aK xs its/\xs.length = its.length/\s.heap.get? l = some { cls:=.type "list",data:=.seq its.toArray n }:=by
 obtain ⟨z,its,n,r,e⟩:=I.hok l _ hH
 exact ⟨z,its,n,r,r.length,e⟩
theorem xD {n : Nat} (h : n<=sizeLine) : Builtin.List.listTooLong n = false:=by
 unfold Builtin.List.listTooLong
 exact decide_eq_false (by omega)
end
section
variable {X : Cx}
def uT : V->List V->Hp->VK->Prop:=fun x vs H Q=>∃ l xs y,x = .ref l/\vs = [y]/\H l = some (.lst xs)/\xs.length < sizeLine/\Q .non (upd H l (.lst (xs ++ [y])))
theorem nU : MtM X "list.append" uT:=by
 intro pins s σ H x vs v us Q I rx rv h
 obtain ⟨l,xs,y,rfl,rfl,hH,hz,q⟩:=h
 cases rx
 obtain ⟨u,rfl,ru⟩:=rv.one
 obtain ⟨z,its,n,r,hl,e⟩:=I.lstM hH
 refine call_meets F.slot_list_append ⟨_,e,rfl⟩ F.entry_list_append (F.args_list_append_2 _ _) (PySem.list_append l its.toArray n u (by rw [List.size_toArray]; omega)) ⟨e, ?_⟩
 refine ⟨.non,_,I.lset (its':=its ++ [u]) hH e (by simp) (r.append (.cons ru .nil)) ?_,rfl,q⟩
 rw [List.length_append,List.length_singleton]
 omega
def E4 : R2:=fun x y H Q=>∃ l k xs,x = .ref l/\y = .int k/\H l = some (.lst xs)/\-(2 ^ 63)<=k/\k < 2 ^ 63/\xs.length * k.toNat<=sizeLine /\
 ∀ p,H p = none->Q (.ref p) (upd H p (.lst (List.replicate k.toNat xs).flatten))
theorem zP {α : Type} (xs : List α) (k : Nat) : (List.replicate k xs).flatten.length = k * xs.length:=by
 induction k with
 | zero=>simp
 | succ k ih=>rw [List.replicate_succ,List.flatten_cons,List.length_append,ih,Nat.succ_mul,Nat.add_comm]
theorem Ca : OpR X (binaryOp .Mult) E4:=by
 intro pins s σ H x y v u Q I rx ry h
 obtain ⟨l,k,xs,rfl,rfl,hH,h1,h2,hz,q⟩:=h
 cases rx
 obtain ⟨t,rfl⟩:=ry
 obtain ⟨z,its,n,r,hl,e⟩:=I.lstM hH
 have hlen : its.toArray.size * k.toNat<=sizeLine:=by rw [List.size_toArray,← hl]; exact hz
 have hcap : ¬ its.toArray.size * k.toNat > (2 ^ 63 - 1) / 8:=by
  have : (sizeLine : Nat)<=(2 ^ 63 - 1) / 8:=by decide
  omega
 have hfit : ¬ (!Builtin.List.listFitsIndex k) = true:=by
  rw [fitsIndex_both h1 h2]
  exact Bool.false_ne_true
 have hlong : ¬ Builtin.List.listTooLong (its.toArray.size * k.toNat) = true:=by
  rw [xD hlen]
  exact Bool.false_ne_true
 have hnew : List.foldl (fun x1 x2=>x1 ++ x2) #[] (List.replicate (if its.toArray.isEmpty = true then 0 else k.toNat) its.toArray) = (List.replicate k.toNat its).flatten.toArray:=by
  have f0 : ∀ m : Nat,List.foldl (fun x1 x2=>x1 ++ x2) #[] (List.replicate m its.toArray) = (List.replicate m its).flatten.toArray:=fun m=>by
   have:=nS its m []
   rw [List.nil_append] at this
   exact this
  rw [f0]
  cases its with
  | nil=>simp
  | cons a r'=>rw [if_neg (by simp)]
 refine wpAny_binaryOp_repeat_ref (T:="list") (U:="int") (by decide) ⟨_,e,rfl⟩ (fun s'=>typeIs_int s' k t) noFill_list_mul F.fills_int_mul F.slot_int_rmul repeat_list F.slot_int_index.lookup
  (call_meets F.slot_int_rmul (typeIs_int s k t) F.entry_int_rmul (F.args_int_rmul_2 _ _) (int___rmul___int_list k t l its.toArray n)
   ⟨e,rfl,⟨_,e,rfl⟩,call_meets F.slot_list_mul ⟨_,e,rfl⟩ F.entry_list_mul (F.args_list_mul_2 _ _) (AutoListH.list___mul___list_int_3 l its.toArray n k t hfit hcap hlong) ⟨e, ?_⟩⟩)
 rw [hnew]
 exact ⟨.ref _,_,I.lnew (t':=s.toks) (r.rep k.toNat) (by rw [zP,Nat.mul_comm]; exact hz),rfl,q _ I.fresh⟩
end
end L2
namespace Att
open PySem PySem.W PySem.Calls PyProof.Rows
theorem lf {P : Params} {h : Heap} : ∀ (ns : List Int) (vs : List Value),WellAll P h vs (ns.map WData.int)->IntsAre vs ns:=by
 intro ns
 induction ns with
 | nil =>
  intro vs w
  rw [List.map_nil] at w
  cases w
  exact .nil
 | cons n ns ih =>
  intro vs w
  rw [List.map_cons] at w
  cases w with
  | cons a b =>
   cases a
   exact .cons _ _ (ih _ b)
theorem wt {l : OpenLaw} {n : Nat} (hn : l.most = some n) {P : Params} {h : Heap} {args : List WData} {vals : List Value}
  (hpre : l.row.toRowW.claim.pre args = true) (hwl : WellAll P h vals args) :
  ∃ a vs ns,vals = [Value.ref a]/\args = [WData.list (ns.map WData.int)]/\h.get? a = some { cls:=.type "list",data:=.seq vs.toArray }/\IntsAre vs ns/\ns.length<=n:=by
 have hsh : WShape.hasAll [] args [.list .int] = true:=(pre_splitW hpre).1
 have hc : l.pre.holds [] { args:=args } = true:=(pre_splitW hpre).2
 obtain ⟨d,r,rfl,h1,h2⟩:=hasAllW_cons hsh
 obtain rfl:=hasAllW_nil h2
 obtain ⟨xs,rfl,h3⟩:=hasW_list h1
 obtain ⟨ns,rfl⟩:=items_int h3
 have hlen : ns.length<=n:=by
  unfold OpenLaw.pre at hc
  have h4 : (WTm.not (.lt (.lit (.int (n : Int))) (.len (.arg 0)))).holds [] { args:=[.list (ns.map .int)] } = true:=by
   have h4:=(holds_andW hc).1
   rw [hn] at h4
   exact h4
  have h5:=condW_of h4 (w_not (w_lt w_lit (w_len_list (w_arg rfl))))
  rw [List.length_map] at h5
  refine Nat.le_of_not_lt fun q=>?_
  have q' : (n : Int) < ((ns.length : Nat) : Int):=by omega
  first
   | (rw [decide_eq_true q'] at h5; exact absurd h5 (by decide))
   | (simp at h5; omega)
 cases hwl with
 | cons w1 w2 =>
  cases w2
  cases w1 with
  | list ho hall=>exact ⟨_,_,ns,rfl,rfl,ho,lf ns _ hall,hlen⟩
theorem wu (l : OpenLaw) (args : List WData) : l.row.toRowW.claim.post args (.bool true) args = true :=
 postW_of (r:=l.row.toRowW) (X:=(true == true))
  (show WShape.has [] (.bool true) .bool = true by first | rfl | decide | simp [WShape.has,WShape.arms,WShape.armsAll])
  (show (WTm.eq .res (.lit (.bool true))).value [] { args:=args,res:=some (.bool true),after:=args } = some (.bool (true == true)) from w_eq_bool (w_res rfl) w_lit) rfl
theorem qR {l : OpenLaw} {n : Nat} {q : Program} {loose : List Str} {XP : (Str->Option Value)->Heap->Prop} {YP : World->Heap->Prop} {d : DefRec}
  (hn : l.most = some n) (hdf : d.params.defaults = [])
  (call : ∀ (w : World) (s₀ s₁ : Shared) (mg mb : Str->Option Value) (fa : Addr) (o : Obj) (pm cd doc : Value) (a : Addr) (vs : List Value) (ns : List Int),
   Ground q loose [] XP w s₀ mg mb s₁.heap->YP w s₁.heap ->
   s₁.heap.get? fa = some o->o.data = .func (docDef d.name d.params d.body d.scope pm cd doc)->s₁.heap.CodeRec cd d.name->mg d.name = some (.ref fa) ->
   s₁.heap.get? a = some { cls:=.type "list",data:=.seq vs.toArray }->IntsAre vs ns->ns.length<=n->s₁.gens = #[] ->
   codeAny (model l.prog w) callerA (.call (.ref fa) ⟨[.ref a],[]⟩) (fun r s'=>r = .ok (.ret (.bool true))/\OldK s₁.heap s'.heap/\s'.os = s₁.os/\AllBare s'.gens) s₁) :
  WalkO q loose XP YP l.row.toRowW d [] (fun f vs=>PySem.call f vs):=by
 intro w s₀ s₁ mg mb G Y fa o pm cd doc dV kV ho hd hcd hD hmg hg args vals as hpre hlay hrd hwl hlo
 obtain rfl : dV = .none:=Dflts.none hD hdf
 obtain rfl : kV = .none:=Dflts.noKw hD
 obtain ⟨a,vs,ns,rfl,rfl,hobj,hints,hlen⟩:=wt hn hpre hwl
 refine enter_call (codeAny_mono (call w s₀ s₁ mg mb fa o pm cd doc a vs ns G Y ho (fd_plain hd) hcd hmg hobj hints hlen hg) fun r s' hq=>?_)
 obtain ⟨rfl,h2,h3,h4⟩:=hq
 exact ⟨.inl ⟨.bool true,.bool true,[],rfl,fun _=>rfl,.bool true,wu l _,fun _=>⟨List.Pairwise.nil,fun _ hm=>(nomatch hm)⟩⟩,h2,h3,h4⟩
section
variable {prog : Program} {w : World} {A : Around} {E : Value->Shared->Prop} {s : Shared} {K : Frag}
theorem DA {R : Result->Shared->Prop} {C fI : Addr} {ay : List Value} {kw : List (Str × Value)}
  (X : K.In s.heap) (hm : makesIn K C = true) (hi : findIn K (.ref C) "__init__" = some (some (.ref fI))) (hf : isFn K (.ref fI) = true)
  (h : codeAny (model prog w) (A.under (.builtin "type.__call__" ⟨.ref C :: ay,kw⟩)) (.call (.ref fI) ⟨.ref (s.heap.objs.size + 1) :: ay,kw⟩) (InitBack (s.heap.objs.size + 1) R)
   { s with heap:=(s.heap.push emptyDict).push (instObj C s.heap.objs.size) }) : codeAny (model prog w) A (.call (.ref C) ⟨ay,kw⟩) R s:=by
 obtain ⟨hh,g,d,t,os⟩:=s
 exact make_core (makes_of X hm) (looks_findIn X hi) (fun self=>bind_fn X self (beq_iff_eq.mp hf)) (.inl rfl) h
theorem CQ {x C : Addr} {ox : Obj} {es : List DictEntry} {n : Nat} {name : Str} {expr : Bool} {v : Value} {Q : Value->Shared->Prop}
  (X : K.In s.heap) (I : PySem.W.InstAt s.heap x ox C (some (dictOf es n))) (hg : plainGet K C name = true) (hh : hasDictIn K C = true) (ha : findIn K (.ref C) name = some none)
  (hl : getL name es = some (some v)) (hv : handedIn v = true) (h : Q v { s with toks:=s.toks + 1 }) : wpAny (model prog w) A (getAttr (.ref x) name expr) Q E s :=
 get_value X I (plainGet_of hg).1 (findObj_own hh ha rfl hl) hv h
def E6 (h : Heap) (L d : Addr) : List (Addr × Obj):=(List.range h.objs.size).filterMap fun a=>if a = L ∨ a = d then none else (h.get? a).map fun o=>(a,o)
end
end Att
namespace L2
open PySem PySem.Spec PyProof.Rows
theorem fz : ∀ {vs : List Value} {ns : List Int},IntsAre vs ns->aK (ns.map V.int) vs
 | _,_,.nil=>.nil
 | _,_,.cons n t h=>.cons ⟨t,rfl⟩ (fz h)
def eI (s : Stmt) : Arguments:=match s with
 | .FunctionDef _ a _ _ _ _ _ _ _ _=>a
 | _=>{ posonlyargs:=[],args:=[],vararg:=none,kwonlyargs:=[],kw_defaults:=[],kwarg:=none,defaults:=[] }
def cq (s : Stmt) : List Stmt:=match s with
 | .FunctionDef _ _ b _ _ _ _ _ _ _=>b
 | _=>[]
def au (s : Stmt) : Scope:=match s with
 | .FunctionDef _ _ _ _ _ _ sc _ _ _=>sc
 | _=>{ kind:=.function,names:=[],isGenerator:=false,isCoroutine:=false }
abbrev CX0 : CXT:=fun _ _ _ _ _ _=>False
abbrev E0 : XK:=fun _ _ _=>False
theorem DB {X : Cx} : tH CX0 X E0:=fun _ _ _ _ _ _ _ h=>h.elim
structure Fun (K : PySem.W.Frag) (x qual : Str) (st : Stmt) (f : Addr) (fd : FuncData) : Prop where
 ex : ∃ (oc : Value) (od : Option Addr) (kV doc pm : Value) (an : Option Addr) (cdv ct : Value) (osl : Array (Option Value)),
  fd = PySem.W.fnOf x qual (eI st) (cq st) (au st) .none kV doc pm an cdv ct/\K.lookup f = some ⟨oc,od,.func fd,osl⟩/\PySem.W.codeIn K cdv qual = true
 kp : PySem.W.keepIn K (.ref f) = true
section
variable {P : Program} {w : World} {K : PySem.W.Frag} {mg : Str->Option Value} {base : Heap}
theorem Fun.ok {x qual : Str} {st : Stmt} {f : Addr} {fd : FuncData} {N ps : List Str} {k : Nat} {sp : Sp} (F : Fun K x qual st f fd) (S : FnScope N ps (au st)) (len : ∀ vs H Q E,sp vs H Q E->vs.length = ps.length)
  (hbody : ∀ (cdv : Value) (A : Around) (outer : List Env) (s : Shared) (H : Hp) (vs : List V) (Q : VK) (E : XK),Room k (A.deeper (envOfC qual (au st) s.heap.objs.size f cdv))->sp vs H Q E ->
   ∃ t,PSs (l8 CX0 P w K mg base N qual (au st) f cdv A outer s H E).nox (cq st) t/\t { nx:=fun _ H'=>Q .non H',rt:=Q } (gg N vs) H) : FnOk P w K mg base CX0 (k + 1) f fd ps sp:=by
 obtain ⟨oc,od,kV,doc,pm,an,cdv,ct,osl,rfl,lk,hcd⟩:=F.ex
 refine AN lk hcd S len fun A outer s H vs Q E hr hsp=>?_
 obtain ⟨t,h,q⟩:=hbody cdv A outer s H vs Q E hr hsp
 exact ⟨t,h.nox,q⟩
theorem Fun.binds {x qual : Str} {st : Stmt} {f : Addr} {fd : FuncData} {ps : List Str} (F : Fun K x qual st f fd)
  (h : ∀ (kV doc pm : Value) (an : Option Addr) (cdv ct : Value) (us : List Value),us.length = ps.length->bindArgs (PySem.W.fnOf x qual (eI st) (cq st) (au st) .none kV doc pm an cdv ct) ⟨us,[]⟩ = pure (ps.zip us)) : nL K fd ps []:=by
 obtain ⟨oc,od,kV,doc,pm,an,cdv,ct,osl,rfl,lk,hcd⟩:=F.ex
 exact .all (h kV doc pm an cdv ct)
theorem Cb {x qual : Str} {st : Stmt} {f : Addr} {oc : Value} {od an : Option Addr} {osl : Array (Option Value)} {kV doc pm cdv ct : Value} (l : K.lookup f = some ⟨oc,od,.func (PySem.W.fnOf x qual (eI st) (cq st) (au st) .none kV doc pm an cdv ct),osl⟩)
  (c : PySem.W.codeIn K cdv qual = true) (k : PySem.W.keepIn K (.ref f) = true) : Fun K x qual st f (PySem.W.fnOf x qual (eI st) (cq st) (au st) .none kV doc pm an cdv ct):=⟨⟨oc,od,kV,doc,pm,an,cdv,ct,osl,rfl,l,c⟩,k⟩
end
def aE (H H' : Hp) : Prop:=∀ b o,H b = some o->H' b = some o
theorem aE.refl (H : Hp) : aE H H:=fun _ _ h=>h
theorem aE.trans {H H1 H2 : Hp} (a : aE H H1) (b : aE H1 H2) : aE H H2:=fun c o h=>b c o (a c o h)
theorem aE.free {H H' : Hp} (e : aE H H') {l : Addr} (h : H' l = Option.none) : H l = Option.none:=by
 cases q : H l with
 | none=>rfl
 | some o =>
  rw [e l o q] at h
  cases h
theorem aE.seq {K : PySem.W.Frag} {H H' : Hp} {a : Addr} {xs : List V} (e : aE H H') (h : SqL K H a xs) : SqL K H' a xs:=by
 rcases h with (h | ⟨o,h⟩) | h
 ·exact .inl (.inl (e _ _ h))
 ·exact .inl (.inr ⟨o,e _ _ h⟩)
 ·exact .inr h
section
variable {κ : Type} [DecidableEq κ]
def ie (kvs : List (κ × V)) (k : κ) : Option V:=(kvs.find? fun kv=>decide (kv.1 = k)).map (·.2)
def ig (kvs : List (κ × V)) (k : κ) (v : V) : List (κ × V) :=
 if (kvs.any fun kv=>decide (kv.1 = k)) = true then kvs.map (fun kv=>if kv.1 = k then (kv.1,v) else kv) else kvs ++ [(k,v)]
theorem jc {p : κ × V} {r : List (κ × V)} {k : κ} (e : p.1 = k) : ie (p :: r) k = some p.2:=by simp [ie,List.find?_cons,e]
theorem jd {p : κ × V} {r : List (κ × V)} {k : κ} (e : ¬ p.1 = k) : ie (p :: r) k = ie r k:=by simp [ie,List.find?_cons,e]
theorem qS (k : κ) : ∀ kvs : List (κ × V),(kvs.any fun kv=>decide (kv.1 = k)) = (ie kvs k).isSome
 | []=>rfl
 | p :: r=>by
  rw [List.any_cons]
  by_cases e : p.1 = k
  ·simp only [jc e,decide_eq_true e,Bool.true_or,Option.isSome_some]
  ·rw [jd e,decide_eq_false e,Bool.false_or]; exact qS k r
theorem gq (kvs : List (κ × V)) (k : κ) (v : V) : (ig kvs k v).length<=kvs.length + 1:=by
 unfold ig
 split
 ·rw [List.length_map]; omega
 ·rw [List.length_append,List.length_cons,List.length_nil]; omega
theorem lb.isSome_eq {o : Option V} {u : Option Value} (r : lb o u) : o.isSome = u.isSome:=by
 cases o with
 | none=>cases u with
  | none=>rfl
  | some _=>exact (show False from r).elim
 | some _=>cases u with
  | none=>exact (show False from r).elim
  | some _=>rfl
theorem lb.getD {o : Option V} {u : Option Value} {d : V} {d' : Value} (r : lb o u) (rd : aN d d') : aN (o.getD d) (u.getD d'):=by
 cases o with
 | none=>cases u with
  | none=>exact rd
  | some _=>exact (show False from r).elim
 | some _=>cases u with
  | none=>exact (show False from r).elim
  | some _=>exact r
theorem KV.val {kvs : List (κ × V)} {vs : List (κ × Value)} (r : KV kvs vs) (k : κ) : lb (ie kvs k) (valueAt vs k):=by
 unfold KV at r
 induction r with
 | nil=>exact True.intro
 | @cons p q ps qs h t ih =>
  obtain ⟨h1,h2⟩:=h
  by_cases e : p.1 = k
  ·have e' : q.1 = k:=h1.symm.trans e
   have b : valueAt (q :: qs) k = some q.2:=by simp [valueAt,List.find?_cons,e']
   rw [jc e,b]; exact h2
  ·have e' : ¬ q.1 = k:=fun z=>e (h1.trans z)
   have b : valueAt (q :: qs) k = valueAt qs k:=by simp [valueAt,List.find?_cons,e']
   rw [jd e,b]; exact ih
theorem KV.any {kvs : List (κ × V)} {vs : List (κ × Value)} (r : KV kvs vs) (k : κ) : (kvs.any fun kv=>decide (kv.1 = k)) = vs.any fun kv=>decide (kv.1 = k):=by
 unfold KV at r
 induction r with
 | nil=>rfl
 | cons h t ih=>rw [List.any_cons,List.any_cons,ih,h.1]
theorem KV.repl {kvs : List (κ × V)} {vs : List (κ × Value)} (r : KV kvs vs) (k : κ) {y : V} {u : Value} (ry : aN y u) :
  KV (kvs.map fun kv=>if kv.1 = k then (kv.1,y) else kv) (vs.map fun kv=>if kv.1 = k then (kv.1,u) else kv):=by
 unfold KV at r ⊢
 induction r with
 | nil=>exact .nil
 | @cons p q ps qs h t ih =>
  rw [List.map_cons,List.map_cons]
  refine .cons ?_ ih
  obtain ⟨h1,h2⟩:=h
  by_cases e : p.1 = k
  ·rw [if_pos e,if_pos (h1.symm.trans e)]; exact ⟨h1,ry⟩
  ·rw [if_neg e,if_neg (fun z=>e (h1.trans z))]; exact ⟨h1,h2⟩
theorem KV.put {kvs : List (κ × V)} {vs : List (κ × Value)} (r : KV kvs vs) (k : κ) {y : V} {u : Value} (ry : aN y u) : KV (ig kvs k y) (stored vs k u):=by
 unfold ig stored
 rw [r.any k]
 by_cases e : (vs.any fun kv=>decide (kv.1 = k)) = true
 ·rw [if_pos e,if_pos e]; exact r.repl k ry
 ·rw [if_neg e,if_neg e]; exact Paired.snoc r ⟨rfl,ry⟩
theorem KV.length {kvs : List (κ × V)} {vs : List (κ × Value)} (r : KV kvs vs) : kvs.length = vs.length:=Paired.length r
end
theorem uU {P : Program} {w : World} {k : Key} {u : Value} (r : aN (kV k) u) : (bY P w).is k u = true:=by
 cases k with
 | inl i=>obtain ⟨t,e⟩:=(show ∃ t,u = Value.int i t from r); subst e; exact qH P w i t
 | inr x=>obtain ⟨t,e⟩:=(show ∃ t,u = Value.str x t from r); subst e; exact qI P w x t
theorem nV {P : Program} {w : World} : ∀ {ks : List Key} {us : List Value},aK (ks.map kV) us->ItemsAre (bY P w) ks us
 | [],_,r=>by rw [List.map_nil] at r; cases r; exact .nil
 | k :: ks,_,r=>by
  rw [List.map_cons] at r
  cases r with
  | cons h t=>exact .cons (uU h) (nV t)
abbrev KT (H : Hp) : List (List Key × V)->List (List Key × Addr × Value)->Prop:=Paired fun p q=>p.1 = q.1/\H q.2.1 = some (.tup (p.1.map kV))/\aN p.2 q.2.2
theorem KT.val {H : Hp} {kvs : List (List Key × V)} {xs : List (List Key × Addr × Value)} (r : KT H kvs xs) (k : List Key) : lb (ie kvs k) ((atKey xs k).map (·.2)):=by
 induction r with
 | nil=>exact True.intro
 | @cons p q ps qs h t ih =>
  obtain ⟨h1,_,h2⟩:=h
  by_cases e : p.1 = k
  ·have e' : q.1 = k:=h1.symm.trans e
   have b : atKey (q :: qs) k = some q.2:=by simp [atKey,List.find?_cons,e']
   rw [jc e,b]; exact h2
  ·have e' : ¬ q.1 = k:=fun z=>e (h1.trans z)
   have b : atKey (q :: qs) k = atKey qs k:=by simp [atKey,List.find?_cons,e']
   rw [jd e,b]; exact ih
theorem KT.repl {H : Hp} {kvs : List (List Key × V)} {xs : List (List Key × Addr × Value)} (r : KT H kvs xs) (k : List Key) {y : V} {u : Value} (ry : aN y u) :
  KT H (kvs.map fun kv=>if kv.1 = k then (kv.1,y) else kv) (xs.map (putAt k u)):=by
 induction r with
 | nil=>exact .nil
 | @cons p q ps qs h t ih =>
  rw [List.map_cons,List.map_cons]
  refine .cons ?_ ih
  obtain ⟨h1,h2,h3⟩:=h
  unfold putAt
  by_cases e : p.1 = k
  ·rw [if_pos e,if_pos (h1.symm.trans e)]; exact ⟨h1,h2,ry⟩
  ·rw [if_neg e,if_neg (fun z=>e (h1.trans z))]; exact ⟨h1,h2,h3⟩
theorem KT.put {H : Hp} {kvs : List (List Key × V)} {xs : List (List Key × Addr × Value)} (r : KT H kvs xs) (k : List Key) {b : Addr} {y : V} {u : Value} (hb : H b = some (.tup (k.map kV))) (ry : aN y u) :
  KT H (ig kvs k y) (storedH xs k b u):=by
 have e : (kvs.any fun kv=>decide (kv.1 = k)) = (atKey xs k).isSome:=by
  rw [qS,(r.val k).isSome_eq,Option.isSome_map]
 unfold ig storedH
 rw [e]
 by_cases q : (atKey xs k).isSome = true
 ·rw [if_pos q,if_pos q]; exact r.repl k ry
 ·rw [if_neg q,if_neg q]; exact Paired.snoc r ⟨rfl,hb,ry⟩
theorem KT.keeps {H H' : Hp} {kvs : List (List Key × V)} {xs : List (List Key × Addr × Value)} (r : KT H kvs xs) (ht : ∀ b ys,H b = some (.tup ys)->H' b = some (.tup ys)) : KT H' kvs xs :=
 Paired.mapP r fun _ _ z=>⟨z.1,ht _ _ z.2.1,z.2.2⟩
section
variable {P : Program} {w : World} {H : Hp} {h : Heap} {a : Addr}
theorem AR {u : HO} (ok : HOk P w H h) (e : Rd H a u) : b9 P w H h a u:=e.ok ok
theorem xE {kvs : List (Key × V)} (ok : HOk P w H h) (e : Rd H a (.dK kvs)) : kvs.length<=sizeLine/\(a == sysModules) = false/\∃ vs,KV kvs vs/\h.DictOf (bY P w) a vs :=
 show b9 P w H h a (.dK kvs) from AR ok e
theorem AS {kvs : List (Key × V)} (ok : HOk P w H h) (e : H a = some (.dK kvs)) : kvs.length<=sizeLine/\(a == sysModules) = false/\∃ vs,KV kvs vs/\h.DictOf (bY P w) a vs:=xE ok (.inl e)
theorem tL {ks : List Key} (ok : HOk P w H h) (e : H a = some (.tup (ks.map kV))) : (tupleKind (bY P w)).is h ks a:=by
 obtain ⟨_,its,r,o,h1,h2,n,h3⟩:=(show b9 P w H h a (.tup (ks.map kV)) from ok a _ e)
 exact ⟨o,its.toArray,n,h1,h2,h3,by simpa using nV r⟩
theorem xF {kvs : List (List Key × V)} (ok : HOk P w H h) (e : Rd H a (.dT kvs)) : kvs.length<=sizeLine/\(a == sysModules) = false /\
  ∃ xs,KT H kvs xs/\h.DictOfH (tupleKind (bY P w)) a xs:=by
 obtain ⟨z,y,xs,r,o,es,ep,h1,h2,h3,h4,h5⟩:=(show b9 P w H h a (.dT kvs) from AR ok e)
 refine ⟨z,y,xs,r,o,es,ep,h1,h2,h3,h4,fun x hx=>?_,h5⟩
 have all : ∀ {l : List (List Key × V)} {m : List (List Key × Addr × Value)},KT H l m->∀ x ∈ m,(tupleKind (bY P w)).is h x.1 x.2.1:=by
  intro l m q
  induction q with
  | nil=>intro x hx; exact nomatch hx
  | @cons p q ps qs hq t ih =>
   intro x hx
   rcases List.mem_cons.mp hx with e | hx
   ·subst e
    exact tL ok (by rw [← hq.1]; exact hq.2.1)
   ·exact ih x hx
 exact all r x hx
theorem DC {kvs : List (List Key × V)} (ok : HOk P w H h) (e : H a = some (.dT kvs)) : kvs.length<=sizeLine/\(a == sysModules) = false /\
  ∃ xs,KT H kvs xs/\h.DictOfH (tupleKind (bY P w)) a xs:=xF ok (.inl e)
end
def wv (H : Hp) (a : Addr) (y : V) (r : Option V) : Prop :=
 (∃ kvs k,Rd H a (.dK kvs)/\y = kV k/\r = ie kvs k) ∨ ∃ kvs k b,Rd H a (.dT kvs)/\y = .ref b/\H b = some (.tup (k.map kV))/\r = ie kvs k
def ww (H : Hp) (a : Addr) (y v : V) (H' : Hp) : Prop :=
 (∃ kvs k,H a = some (.dK kvs)/\y = kV k/\kvs.length < sizeLine/\H' = upd H a (.dK (ig kvs k v))) ∨
 ∃ kvs k b,H a = some (.dT kvs)/\y = .ref b/\H b = some (.tup (k.map kV))/\kvs.length < sizeLine/\H' = upd H a (.dT (ig kvs k v))
theorem wv.k {H : Hp} {a : Addr} {kvs : List (Key × V)} {k : Key} (e : H a = some (.dK kvs)) : wv H a (kV k) (ie kvs k):=.inl ⟨kvs,k,.inl e,rfl,rfl⟩
theorem wv.t {H : Hp} {a b : Addr} {kvs : List (List Key × V)} {k : List Key} (e : H a = some (.dT kvs)) (eb : H b = some (.tup (k.map kV))) : wv H a (.ref b) (ie kvs k):=.inr ⟨kvs,k,b,.inl e,rfl,eb,rfl⟩
theorem ww.k {H : Hp} {a : Addr} {kvs : List (Key × V)} {k : Key} {v : V} (e : H a = some (.dK kvs)) (hl : kvs.length < sizeLine) : ww H a (kV k) v (upd H a (.dK (ig kvs k v))):=.inl ⟨kvs,k,e,rfl,hl,rfl⟩
theorem ww.t {H : Hp} {a b : Addr} {kvs : List (List Key × V)} {k : List Key} {v : V} (e : H a = some (.dT kvs)) (eb : H b = some (.tup (k.map kV))) (hl : kvs.length < sizeLine) :
  ww H a (.ref b) v (upd H a (.dT (ig kvs k v))):=.inr ⟨kvs,k,b,e,rfl,eb,hl,rfl⟩
section
variable {X : Cx} {pins : List (Addr × Obj)} {σ : St} {H : Hp} {s : Shared} {a : Addr} {y v : V} {u r : Value} {o : Option V} {A : Around} {E : Value->Shared->Prop}
theorem Inv.big (I : Inv X pins σ H s) : sysModules < s.heap.objs.size:=by
 have h : mainGlobals < s.heap.objs.size:=(I.mod.glob.keeps I.bk).lt
 exact Nat.lt_trans (by decide) h
theorem p7 {h' : Heap} {t' : Nat} {ob : HO} (I : Inv X pins σ H s) (mu : Mut (H a)) (hs : Heap.SameBut a s.heap h') (he : ∃ q,h'.get? a = some q) (new : b9 X.prog X.w (upd H a ob) h' a ob) :
  Inv X pins σ (upd H a ob) { s with heap:=h',toks:=t' } :=
 I.write (x:=a) (e:=a) mu (.inl rfl) (fun b q hb z=>(hs.2 b hb).trans z) he new
theorem xG {P : Program} {w : World} {H' : Hp} {h' : Heap} {kvs : List (Key × V)} {vs : List (Key × Value)} (z : kvs.length<=sizeLine) (hd : (a == sysModules) = false) (rel : KV kvs vs) (dd : h'.DictOf (bY P w) a vs) :
  b9 P w H' h' a (.dK kvs):=⟨z,hd,vs,rel,dd⟩
theorem wx {H' : Hp} {Q : Unit->Shared->Prop} (hu : A.units + 1 < cLine) (I : Inv X pins σ H s) (g : ww H a y v H') (ry : aN y u) (rv : aN v r) (h : ∀ s',Inv X pins σ H' s'->Q () s') :
  wpAny (model X.prog X.w) A (setItem (.ref a) u r) Q E s:=by
 rcases g with ⟨kvs,k,e,ey,l,eH⟩ | ⟨kvs,k,b,e,ey,eb,l,eH⟩
 ·subst ey eH
  obtain ⟨z,hd,vs,rel,dd⟩:=AS I.hok e
  have hz : vs.length<=sizeLine:=by rw [← rel.length]; exact z
  have hl : (ig kvs k v).length<=sizeLine:=by have:=gq kvs k v; omega
  refine wpAny_setItem_pairs (hsz:=hz) (uU ry) dd fun h' dd' hs=>h _ ?_
  have he : ∃ q,h'.get? a = some q:=let ⟨q,_,_,hq,_⟩:=dd'; ⟨q,hq⟩
  exact p7 I (by rw [e]; exact True.intro) hs he (xG hl hd (rel.put k rv) dd')
 ·subst ey eH
  cases (show u = Value.ref b from ry)
  obtain ⟨z,hd,xs,rel,dd⟩:=DC I.hok e
  have hz : xs.length<=sizeLine:=by rw [← Paired.length rel]; exact z
  have hl : (ig kvs k v).length<=sizeLine:=by have:=gq kvs k v; omega
  refine wpAny_setItem_heap (hsz:=hz) (tupleKind_room_in1 hu) (tL I.hok eb) dd fun h' dd' hs=>h _ ?_
  obtain ⟨q,es,ep,hq,h2,h3,h4,_,h5⟩:=dd'
  refine p7 I (by rw [e]; exact True.intro) hs ⟨q,hq⟩ ⟨hl,hd,_,(rel.put k eb rv).keeps fun c ys ec=>?_,q,es,ep,hq,h2,h3,h4,h5⟩
  rw [a9 (Dh ec e (fun z=>nomatch z))]
  exact ec
end
def AT (td ty tv : TE) : TS:=fun D σ H=>tv σ H fun v H1=>td σ H1 fun x H2=>ty σ H2 fun y H3=>∃ a H4,x = .ref a/\ww H3 a y v H4/\D.nx σ H4
section
variable {X : Cx} {o i e value : Expr} {pos pos' tpos : Pos} {td ty tv : TE}
theorem zQ (hu : X.A.units + 1 < cLine) (ho : PE X o td) (hi : PE X i ty) (hv : PE X value tv) (hs : swapsWith value (some (.Subscript o i pos')) pos.line X.env = pure false) :
  PS X (.Assign [.Subscript o i pos'] value pos) (AT td ty tv):=by
 intro pins s σ H D I h
 refine wpAny_Assign_Subscript (thn (hv pins s σ H _ I h) fun r s1 ⟨v,H1,I1,rv,q1⟩=>thn (ho pins s1 σ H1 _ I1 q1) fun u s2 ⟨x,H2,I2,rx,q2⟩=>thn (hi pins s2 σ H2 _ I2 q2) fun iv s3 ⟨y,H3,I3,ry,a,H4,ex,g,q3⟩=>?_) hs
 subst ex
 obtain rfl : u = Value.ref a:=rx
 exact wx hu I3 g ry rv fun s4 I4=>⟨σ,H4,I4,q3⟩
end
theorem xH {P : Program} {w : World} {H : Hp} (h : Heap) (hb : sysModules < h.objs.size) : b9 P w H (h.push { cls:=.type "dict",data:=.dict #[] }) h.objs.size (.dK []) :=
 ⟨Nat.zero_le _,beq_eq_false_iff_ne.mpr (Ne.symm (Nat.ne_of_lt hb)),[],.nil,Heap.DictOf.new h⟩
theorem xI {P : Program} {w : World} {H : Hp} (h : Heap) (hb : sysModules < h.objs.size) : b9 P w H (h.push { cls:=.type "dict",data:=.dict #[] }) h.objs.size (.dT []) :=
 ⟨Nat.zero_le _,beq_eq_false_iff_ne.mpr (Ne.symm (Nat.ne_of_lt hb)),[],.nil,_,#[],0,Heap.get?_push_size _ rfl,⟨rfl,rfl,rfl⟩,rfl,rfl,List.nodup_nil⟩
def xJ : TE:=fun _ H Q=>∀ p,H p = none->Q (.ref p) (upd H p (.dT []))
section
variable {X : Cx} {pos : Pos}
theorem xK : PE X (.Dict [] [] pos) xJ:=fun pins s σ H Q I h =>
 wpAny_Dict_empty ⟨.ref s.heap.objs.size,_,I.laid (a:=s.heap.objs.size) (o:=.dT []) (t':=s.toks) (fun _ _ q=>Heap.get?_push_of_some _ q) (Nat.le_refl _) (xI s.heap I.big),rfl,h _ (I.hok.fresh (Nat.le_refl _))⟩
end
structure M1 (X : Cx) (o : Expr) (m : Str) (apos : Pos) (e : Expr) (cpos : Pos) : Prop where
 base : attributeBase o m X.env (eval o X.env) = eval o X.env
 few : ((backTo cpos (starEach [e] X.env)).all (fun x=>!x.1) && (backToKw cpos (keywordEach [] X.env)).all (fun x=>x.1.isSome)
  && decide (([e] : List Expr).length + ([] : List Keyword).length + (if ([] : List Keyword).isEmpty then 0 else 1) < 30)) = true
 line : (apos.endLine == cpos.line) = true
 trees : backTo cpos (starEach [e] X.env) = [(false,eval e X.env)]
def IsD (H : Hp) (a : Addr) : Prop:=(∃ kvs,Rd H a (.dK kvs)) ∨ ∃ kvs,Rd H a (.dT kvs)
theorem Cc {X : Cx} {pins : List (Addr × Obj)} {σ : St} {H : Hp} {s : Shared} {a : Addr} (I : Inv X pins σ H s) (d : IsD H a) :
  s.TypeIs (.ref a) "dict"/\(∀ b,Value.ref a = .ref b->∃ ob,s.heap.get? b = some ob/\ob.dict = none)/\(a == sysModules) = false:=by
 rcases d with ⟨kvs,e⟩ | ⟨kvs,e⟩
 ·obtain ⟨_,hd,vs,_,dd⟩:=xE I.hok e
  refine ⟨dd.typeIs,fun b q=>?_,hd⟩
  cases q
  obtain ⟨ob,_,_,h1,h2,_⟩:=dd
  exact ⟨ob,h1,h2.2.1⟩
 ·obtain ⟨_,hd,xs,_,dd⟩:=xF I.hok e
  refine ⟨dd.typeIs,fun b q=>?_,hd⟩
  cases q
  obtain ⟨ob,_,_,h1,h2,_⟩:=dd
  exact ⟨ob,h1,h2.2.1⟩
section
variable {X : Cx} {pins : List (Addr × Obj)} {σ : St} {H : Hp} {s : Shared} {a : Addr} {y d : V} {u r : Value} {o : Option V} {A : Around} {E : Value->Shared->Prop}
theorem Ce {Q : Value->Shared->Prop} (hu : A.units + 1 < cLine) (I : Inv X pins σ H s) (g : wv H a y o) (ry : aN y u) (h : ∀ w' s',Inv X pins σ H s'->aN (o.getD .non) w'->Q w' s') :
  wpAny (model X.prog X.w) A (call (.builtin "dict.get") [.ref a,u]) Q E s:=by
 rcases g with ⟨kvs,k,e,ey,l⟩ | ⟨kvs,k,b,e,ey,eb,l⟩
 ·subst ey
  obtain ⟨z,hd,vs,rel,dd⟩:=xE I.hok e
  refine call_meetsIn PySem.F.slot_dict_get dd.typeIs PySem.F.entry_dict_get (PySem.F.args_dict_get_2 _ _) (meets_dict_get (bY X.prog X.w) a (uU ry) hd) ⟨_,dd.mapOf,h _ _ (I.tok _) ?_⟩
  rw [l]
  exact (rel.val k).getD rfl
 ·subst ey
  cases (show u = Value.ref b from ry)
  obtain ⟨z,hd,xs,rel,dd⟩:=xF I.hok e
  refine call_meetsIn PySem.F.slot_dict_get dd.typeIs PySem.F.entry_dict_get (PySem.F.args_dict_get_2 _ _) (meetsH_dict_get (tupleKind (bY X.prog X.w)) a b hd) ⟨tupleKind_room_in1 hu,k,xs,tL I.hok eb,dd,h _ _ (I.tok _) ?_⟩
  rw [l]
  exact (rel.val k).getD rfl
end
def Cf (td ty : TE) : TE:=fun σ H Q=>td σ H fun x H1=>∃ a,x = .ref a/\IsD H1 a/\ty σ H1 fun y H2=>∃ o,wv H2 a y o/\Q (o.getD .non) H2
section
variable {X : Cx} {o e f : Expr} {apos cpos : Pos} {td ty tx : TE}
theorem qT (hu : X.A.units + 1 < cLine) (ho : PE X o td) (he : PE X e ty) (m : M1 X o "get" apos e cpos) : PE X (.Call (.Attribute o "get" apos) [e] [] cpos) (Cf td ty):=by
 intro pins s σ H Q I h
 refine wpAny_Call_method m.base m.few m.line PySem.F.plainAttrs_dict PySem.F.slot_dict_get PySem.F.type_dict_get (thn (ho pins s σ H _ I h) fun u s1 ⟨x,H1,I1,rx,a,ex,d,q1⟩=>?_)
 subst ex
 obtain rfl : u = Value.ref a:=rx
 obtain ⟨t1,t2,_⟩:=Cc I1 d
 refine ⟨t1,t2, ?_⟩
 rw [m.trees]
 refine Calls.callWith_builtin rfl (Calls.evalArgs_plain (Calls.spliced_cons (thn (he pins s1 σ H1 _ I1 q1) fun iv s2 ⟨y,H2,I2,ry,ov,g,q2⟩=>Calls.spliced_nil ?_)))
 exact Ce hu I2 g ry fun w' s3 I3 rw'=>⟨_,H2,I3,rw',q2⟩
end
end L2
namespace DL
open PySem L2
set_option linter.all false
abbrev St:=L2.St
inductive D where
 | non | bl (b : Bool) | int (i : Int) | str (x : Str) | ty (n : String) | tup (ds : List D) | lst (ds : List D)
  | dk (ks : List Key) (vs : List D) | dt (ks : List (List Key)) (vs : List D)
mutual
inductive Is (K : PySem.W.Frag) (H : Hp) : V->D->Prop where
 | non : Is K H .non .non
 | bl (b : Bool) : Is K H (.bl b) (.bl b)
 | int (i : Int) : Is K H (.int i) (.int i)
 | str (x : Str) : Is K H (.str x) (.str x)
 | ty (n : String) : Is K H (.ty n) (.ty n)
 | tup {a : Addr} {vs : List V} {ds : List D} (h : SqT K H a vs) (hs : IsL K H vs ds) : Is K H (.ref a) (.tup ds)
 | lst {a : Addr} {vs : List V} {ds : List D} (h : SqL K H a vs) (hs : IsL K H vs ds) : Is K H (.ref a) (.lst ds)
 | dk {a : Addr} {ks : List Key} {vs : List V} {ds : List D} (h : H a = some (.dK (ks.zip vs))) (hl : ks.length = vs.length) (hs : IsL K H vs ds) : Is K H (.ref a) (.dk ks ds)
 | dt {a : Addr} {ks : List (List Key)} {vs : List V} {ds : List D} (h : H a = some (.dT (ks.zip vs))) (hl : ks.length = vs.length) (hs : IsL K H vs ds) : Is K H (.ref a) (.dt ks ds)
inductive IsL (K : PySem.W.Frag) (H : Hp) : List V->List D->Prop where
 | nil : IsL K H [] []
 | cons {v : V} {d : D} {vs : List V} {ds : List D} (h : Is K H v d) (hs : IsL K H vs ds) : IsL K H (v :: vs) (d :: ds)
end
mutual
def bg : D->Bool
 | .lst _=>false
 | .dk _ _=>false
 | .dt _ _=>false
 | .tup ds=>aS ds
 | _=>true
def aS : List D->Bool
 | []=>true
 | d :: ds=>bg d && aS ds
end
@[simp] theorem CS : bg .non = true:=by simp only [bg]
@[simp] theorem DD (b : Bool) : bg (.bl b) = true:=by simp only [bg]
@[simp] theorem CT (i : Int) : bg (.int i) = true:=by simp only [bg]
@[simp] theorem CU (x : Str) : bg (.str x) = true:=by simp only [bg]
@[simp] theorem DE (x : String) : bg (.ty x) = true:=by simp only [bg]
@[simp] theorem CV (ds : List D) : bg (.tup ds) = aS ds:=by rw [bg]
@[simp] theorem CW (ds : List D) : bg (.lst ds) = false:=by rw [bg]
@[simp] theorem DF (ks : List Key) (ds : List D) : bg (.dk ks ds) = false:=by rw [bg]
@[simp] theorem DG (ks : List (List Key)) (ds : List D) : bg (.dt ks ds) = false:=by rw [bg]
@[simp] theorem Cg : aS [] = true:=by rw [aS]
@[simp] theorem AU (d : D) (ds : List D) : aS (d :: ds) = (bg d && aS ds):=by rw [aS]
section
variable {K : PySem.W.Frag} {H H' : Hp}
mutual
theorem Is.keep (hT : ∀ a vs,SqT K H a vs->SqT K H' a vs) (hL : ∀ a vs,SqL K H a vs->SqL K H' a vs) (hK : ∀ a kvs,H a = some (.dK kvs)->H' a = some (.dK kvs)) (hM : ∀ a kvs,H a = some (.dT kvs)->H' a = some (.dT kvs)) : ∀ {v : V} {d : D},Is K H v d->Is K H' v d
 | _,_,.non=>.non
 | _,_,.bl b=>.bl b
 | _,_,.int i=>.int i
 | _,_,.str x=>.str x
 | _,_,.ty x=>.ty x
 | _,_,.tup h hs=>.tup (hT _ _ h) (IsL.keep hT hL hK hM hs)
 | _,_,.lst h hs=>.lst (hL _ _ h) (IsL.keep hT hL hK hM hs)
 | _,_,.dk h hl hs=>.dk (hK _ _ h) hl (IsL.keep hT hL hK hM hs)
 | _,_,.dt h hl hs=>.dt (hM _ _ h) hl (IsL.keep hT hL hK hM hs)
theorem IsL.keep (hT : ∀ a vs,SqT K H a vs->SqT K H' a vs) (hL : ∀ a vs,SqL K H a vs->SqL K H' a vs) (hK : ∀ a kvs,H a = some (.dK kvs)->H' a = some (.dK kvs)) (hM : ∀ a kvs,H a = some (.dT kvs)->H' a = some (.dT kvs)) : ∀ {vs : List V} {ds : List D},IsL K H vs ds->IsL K H' vs ds
 | _,_,.nil=>.nil
 | _,_,.cons h hs=>.cons (Is.keep hT hL hK hM h) (IsL.keep hT hL hK hM hs)
end
mutual
theorem Is.keepT (hT : ∀ a vs,SqT K H a vs->SqT K H' a vs) : ∀ {v : V} {d : D},Is K H v d->bg d = true->Is K H' v d
 | _,_,.non,_=>.non
 | _,_,.bl b,_=>.bl b
 | _,_,.int i,_=>.int i
 | _,_,.str x,_=>.str x
 | _,_,.ty x,_=>.ty x
 | _,_,.tup h hs,n=>.tup (hT _ _ h) (IsL.keepT hT hs (by simpa using n))
 | _,_,.lst h hs,n=>by simp at n
 | _,_,.dk h hl hs,n=>by simp at n
 | _,_,.dt h hl hs,n=>by simp at n
theorem IsL.keepT (hT : ∀ a vs,SqT K H a vs->SqT K H' a vs) : ∀ {vs : List V} {ds : List D},IsL K H vs ds->aS ds = true->IsL K H' vs ds
 | _,_,.nil,_=>.nil
 | _,_,.cons h hs,n=>by
  simp at n
  exact .cons (Is.keepT hT h n.1) (IsL.keepT hT hs n.2)
end
theorem aX {a : Addr} {xs : List V} (e : aE H H') (h : SqT K H a xs) : SqT K H' a xs:=by
 rcases h with (h | ⟨o,h⟩) | h
 ·exact .inl (.inl (e _ _ h))
 ·exact .inl (.inr ⟨o,e _ _ h⟩)
 ·exact .inr h
theorem Is.mono {v : V} {d : D} (h : Is K H v d) (e : aE H H') : Is K H' v d:=h.keep (fun _ _=>aX e) (fun _ _=>e.seq) (fun _ _ q=>e _ _ q) fun _ _ q=>e _ _ q
theorem IsL.mono {v : List V} {d : List D} (h : IsL K H v d) (e : aE H H') : IsL K H' v d:=h.keep (fun _ _=>aX e) (fun _ _=>e.seq) (fun _ _ q=>e _ _ q) fun _ _ q=>e _ _ q
theorem IsL.length : ∀ {vs : List V} {ds : List D},IsL K H vs ds->vs.length = ds.length
 | _,_,.nil=>rfl
 | _,_,.cons _ t=>congrArg (· + 1) t.length
theorem IsL.get : ∀ {vs : List V} {ds : List D} {i : Nat} {d : D},IsL K H vs ds->ds[i]? = some d->∃ v,vs[i]? = some v/\Is K H v d
 | _,_,_,_,.nil,e=>by simp at e
 | _,_,0,_,.cons h _,e=>by simp at e; subst e; exact ⟨_,rfl,h⟩
 | _,_,i + 1,d,.cons _ t,e=>by
  obtain ⟨u,h1,h2⟩:=t.get (i:=i) (d:=d) (by simpa using e)
  exact ⟨u,by simpa using h1,h2⟩
theorem IsL.append : ∀ {vs ws : List V} {ds es : List D},IsL K H vs ds->IsL K H ws es->IsL K H (vs ++ ws) (ds ++ es)
 | _,_,_,_,.nil,s=>s
 | _,_,_,_,.cons r t,s=>.cons r (t.append s)
theorem IsL.take : ∀ {vs : List V} {ds : List D} (n : Nat),IsL K H vs ds->IsL K H (vs.take n) (ds.take n)
 | _,_,0,_=>by simpa using IsL.nil
 | _,_,_ + 1,.nil=>.nil
 | _,_,n + 1,.cons r t=>.cons r (t.take n)
theorem IsL.drop : ∀ {vs : List V} {ds : List D} (n : Nat),IsL K H vs ds->IsL K H (vs.drop n) (ds.drop n)
 | _,_,0,r=>r
 | _,_,_ + 1,.nil=>.nil
 | _,_,n + 1,.cons _ t=>t.drop n
theorem IsL.set {v : V} {d : D} (h : Is K H v d) : ∀ {vs : List V} {ds : List D} (i : Nat),IsL K H vs ds->IsL K H (vs.set i v) (ds.set i d)
 | _,_,_,.nil=>.nil
 | _,_,0,.cons _ t=>.cons h t
 | _,_,i + 1,.cons r t=>.cons r (IsL.set h i t)
theorem IsL.eraseIdx : ∀ {vs : List V} {ds : List D} (i : Nat),IsL K H vs ds->IsL K H (vs.eraseIdx i) (ds.eraseIdx i)
 | _,_,_,.nil=>.nil
 | _,_,0,.cons _ t=>t
 | _,_,i + 1,.cons r t=>.cons r (t.eraseIdx i)
theorem IsL.flat {vs : List V} {ns : List Int} (h : vs = ns.map V.int) : IsL K H vs (ns.map D.int):=by
 subst h
 induction ns with
 | nil=>exact .nil
 | cons n ns ih=>exact .cons (.int n) ih
end
structure Ext (B N H H' : Hp) : Prop where
 hh : aE H H'
 bn : aE B N
 nh : aE N H'
 new : ∀ a o,N a = some o->B a = some o ∨ H a = none
theorem Ext.refl {B H : Hp} (h : aE B H) : Ext B B H H:=⟨.refl _,.refl _,h,fun _ _ e=>.inl e⟩
theorem Ext.trans {B N H H1 N2 H2 : Hp} (x : Ext B N H H1) (y : Ext N N2 H1 H2) : Ext B N2 H H2 :=
 ⟨x.hh.trans y.hh,x.bn.trans y.bn,y.nh,fun a o e=>(y.new a o e).elim (fun q=>x.new a o q) fun q=>.inr (x.hh.free q)⟩
theorem Ext.laid {B H : Hp} {p : Addr} {o : HO} (h : aE B H) (hp : H p = none) : Ext B (upd B p o) H (upd H p o):=by
 have hB : B p = none:=h.free hp
 refine ⟨fun a u e=>?_,fun a u e=>?_,fun a u e=>?_,fun a u e=>?_⟩
 ·rw [a9 (fun q=>by subst q; rw [hp] at e; cases e)]; exact e
 ·rw [a9 (fun q=>by subst q; rw [hB] at e; cases e)]; exact e
 ·by_cases q : a = p
  ·subst q; rw [ax] at e ⊢; exact e
  ·rw [a9 q] at e ⊢; exact h _ _ e
 ·by_cases q : a = p
  ·subst q; exact .inr hp
  ·rw [a9 q] at e; exact .inl e
theorem Ext.grow {B H H' : Hp} (h : aE B H) (hh : aE H H') : Ext B B H H':=⟨hh,.refl _,h.trans hh,fun _ _ e=>.inl e⟩
abbrev Env:=List (Option (D × Bool))
abbrev FE:=Env->Option (D × Bool)
abbrev FA:=Env->Option (List D)
abbrev FT:=Env->Option Bool
def Fsh (K : PySem.W.Frag) (H N : Hp) (v : V) (d : D) : Prop:=∃ (a : Addr) (vs : List V) (ds : List D),v = .ref a/\d = .lst ds/\H a = none/\N a = some (.lst vs)/\IsL K N vs ds
theorem Fsh.back {K : PySem.W.Frag} {H H' N : Hp} {v : V} {d : D} (h : Fsh K H' N v d) (e : aE H H') : Fsh K H N v d:=let ⟨a,vs,ds,q,y,z,r⟩:=h; ⟨a,vs,ds,q,y,e.free z,r⟩
def je : List Str:=["in_order","has_seal","is_first_death","bases_by"]
def lB (x : Str) : Str:=x ++ ".<locals>." ++ "<lambda>"
def Tb (K : PySem.W.Frag) (B : Hp) : Prop:=∀ x ∈ je,∀ c P,PySem.W.tabIn K x = some (c,P)->B P = some (.tbl (lB x))
theorem Tb.mono {K : PySem.W.Frag} {B B' : Hp} (h : Tb K B) (e : aE B B') : Tb K B':=fun x hx c P q=>e _ _ (h x hx c P q)
structure RepE (K : PySem.W.Frag) (B : Hp) (σ : St) (ρ : Env) : Prop where
 tb : Tb K B
 at' : ∀ (i : Nat) (d : D) (b : Bool),ρ[i]? = some (some (d,b))->∃ v,σ[i]? = some (some v)/\Is K B v d
theorem RepE.mono {K : PySem.W.Frag} {B B' : Hp} {σ : St} {ρ : Env} (h : RepE K B σ ρ) (e : aE B B') : RepE K B' σ ρ:=⟨h.tb.mono e,fun i d b q=>let ⟨v,h1,h2⟩:=h.at' i d b q; ⟨v,h1,h2.mono e⟩⟩
def Fin (K : PySem.W.Frag) (B H : Hp) (d : D) (b : Bool) (Q : VK) : Prop:=∀ (v : V) (H' N : Hp),Ext B N H H'->Is K N v d->(b = true->Fsh K H N v d)->Q v H'
def tD (K : PySem.W.Frag) (f : FE) : TE:=fun σ H Q=>∃ (B : Hp) (ρ : Env) (d : D) (b : Bool),aE B H/\RepE K B σ ρ/\f ρ = some (d,b)/\Fin K B H d b Q
def tDT (K : PySem.W.Frag) (f : FT) : TT:=fun σ H Q=>∃ (B : Hp) (ρ : Env) (c : Bool),aE B H/\RepE K B σ ρ/\f ρ = some c/\∀ H',aE H H'->Q c H'
def tDA (K : PySem.W.Frag) (f : FA) : TA:=fun σ H Q=>∃ (B : Hp) (ρ : Env) (ds : List D),aE B H/\RepE K B σ ρ/\f ρ = some ds/\∀ (vs : List V) (H' N : Hp),Ext B N H H'->IsL K N vs ds->Q vs H'
def rD (K : PySem.W.Frag) (op : D->D->Option (D × Bool)) : R2:=fun x y H Q=>∃ (B : Hp) (dx dy d : D) (b : Bool),aE B H/\Is K B x dx/\Is K B y dy/\op dx dy = some (d,b)/\Fin K B H d b Q
def rDU (K : PySem.W.Frag) (op : D->Option (D × Bool)) : V->Hp->VK->Prop:=fun x H Q=>∃ (B : Hp) (dx d : D) (b : Bool),aE B H/\Is K B x dx/\op dx = some (d,b)/\Fin K B H d b Q
def rDA (K : PySem.W.Frag) (op : List D->Option (D × Bool)) : List V->Hp->VK->Prop:=fun xs H Q=>∃ (B : Hp) (ds : List D) (d : D) (b : Bool),aE B H/\IsL K B xs ds/\op ds = some (d,b)/\Fin K B H d b Q
theorem Fin.one {K : PySem.W.Frag} {B H : Hp} {d : D} {Q : VK} (h : Fin K B H d false Q) (s : aE B H) {v : V} (i : Is K B v d) : Q v H:=h v H B (.refl s) i (by simp)
theorem Fin.into {K : PySem.W.Frag} {B N H H1 : Hp} {d : D} {b : Bool} {Q : VK} (h : Fin K B H d b Q) (x : Ext B N H H1) : Fin K N H1 d b Q:=fun v H' N' y i fr=>h v H' N' (x.trans y) i fun e=>(fr e).back x.hh
@[simp] def fC (d : D) : FE:=fun _=>some (d,false)
@[simp] def af (i : Nat) : FE:=fun ρ=>match ρ[i]? with | some (some (d,_))=>some (d,false) | _=>none
@[simp] def f2 (op : D->D->Option (D × Bool)) (fa fb : FE) : FE:=fun ρ=>(fa ρ).bind fun x=>(fb ρ).bind fun y=>op x.1 y.1
@[simp] def f1 (op : D->Option (D × Bool)) (fa : FE) : FE:=fun ρ=>(fa ρ).bind fun x=>op x.1
@[simp] def ak : FA:=fun _=>some []
@[simp] def ae (fa : FE) (fr : FA) : FA:=fun ρ=>(fa ρ).bind fun x=>(fr ρ).bind fun xs=>some (x.1 :: xs)
@[simp] def fA (op : List D->Option (D × Bool)) (fa : FA) : FE:=fun ρ=>(fa ρ).bind op
theorem Ch {K : PySem.W.Frag} {i : Nat} {σ : St} {H : Hp} {Q : VK} (h : tD K (af i) σ H Q) : ∃ v,σ[i]? = some (some v)/\Q v H:=by
 obtain ⟨B,ρ,d,b,s,r,e,q⟩:=h
 unfold af at e
 split at e
 ·rename_i d' b' e'
  cases e
  obtain ⟨v,h1,h2⟩:=r.at' i _ _ e'
  exact ⟨v,h1,q.one s h2⟩
 ·cases e
theorem zR {K : PySem.W.Frag} {op : D->D->Option (D × Bool)} {fa fb : FE} {σ : St} {H : Hp} {Q : VK} (h : tD K (f2 op fa fb) σ H Q) : tD K fa σ H fun x H1=>tD K fb σ H1 fun y H2=>rD K op x y H2 Q:=by
 obtain ⟨B,ρ,d,b,s,r,e,q⟩:=h
 obtain ⟨x,ex,e⟩:=oX e
 obtain ⟨y,ey,e⟩:=oX e
 refine ⟨B,ρ,x.1,x.2,s,r,ex,fun v H1 N x1 i1 _=>⟨N,ρ,y.1,y.2,x1.nh,r.mono x1.bn,ey,fun v2 H2 N2 x2 i2 _=>⟨N2,x.1,y.1,d,b,x2.nh,i1.mono x2.bn,i2,e, ?_⟩⟩⟩
 exact q.into (x1.trans x2)
theorem E8 {K : PySem.W.Frag} {op : D->Option (D × Bool)} {fa : FE} {σ : St} {H : Hp} {Q : VK} (h : tD K (f1 op fa) σ H Q) : tD K fa σ H fun x H1=>rDU K op x H1 Q:=by
 obtain ⟨B,ρ,d,b,s,r,e,q⟩:=h
 obtain ⟨x,ex,e⟩:=oX e
 exact ⟨B,ρ,x.1,x.2,s,r,ex,fun v H1 N x1 i1 _=>⟨N,x.1,d,b,x1.nh,i1,e,q.into x1⟩⟩
theorem zS {K : PySem.W.Frag} {op : List D->Option (D × Bool)} {fa : FA} {σ : St} {H : Hp} {Q : VK} (h : tD K (fA op fa) σ H Q) : tDA K fa σ H fun xs H1=>rDA K op xs H1 Q:=by
 obtain ⟨B,ρ,d,b,s,r,e,q⟩:=h
 obtain ⟨x,ex,e⟩:=oX e
 exact ⟨B,ρ,x,s,r,ex,fun v H1 N x1 i1=>⟨N,x,d,b,x1.nh,i1,e,q.into x1⟩⟩
theorem zT {K : PySem.W.Frag} {σ : St} {H : Hp} {Q : List V->Hp->Prop} (h : tDA K ak σ H Q) : Q [] H:=by
 obtain ⟨B,ρ,ds,s,r,e,q⟩:=h
 cases e
 exact q [] H B (.refl s) .nil
theorem xL {K : PySem.W.Frag} {fa : FE} {fr : FA} {σ : St} {H : Hp} {Q : List V->Hp->Prop} (h : tDA K (ae fa fr) σ H Q) : tD K fa σ H fun x H1=>tDA K fr σ H1 fun xs H2=>Q (x :: xs) H2:=by
 obtain ⟨B,ρ,ds,s,r,e,q⟩:=h
 obtain ⟨x,ex,e⟩:=oX e
 obtain ⟨y,ey,e⟩:=oX e
 cases e
 exact ⟨B,ρ,x.1,x.2,s,r,ex,fun v H1 N x1 i1 _=>⟨N,ρ,y,x1.nh,r.mono x1.bn,ey,fun vs H2 N2 x2 i2=>q _ H2 N2 (x1.trans x2) (.cons (i1.mono x2.bn) i2)⟩⟩
@[simp] def tOf (f : FE) : FT:=fun ρ=>match f ρ with | some (.bl c,_)=>some c | _=>none
@[simp] def cx (f g : FT) : FT:=fun ρ=>match f ρ with | some true=>g ρ | some false=>some false | none=>none
@[simp] def gs (f g : FT) : FT:=fun ρ=>match f ρ with | some true=>some true | some false=>g ρ | none=>none
@[simp] def gt (f : FT) : FT:=fun ρ=>(f ρ).map (!·)
@[simp] def fIf (c : FT) (f g : FE) : FE:=fun ρ=>match c ρ with | some true=>f ρ | some false=>g ρ | none=>none
open Classical in
noncomputable def cut (H : Hp) (P : Addr->Prop) : Hp:=fun a=>if P a then none else H a
theorem bG {H : Hp} {P : Addr->Prop} {a : Addr} (h : ¬ P a) : cut H P a = H a:=by unfold cut; rw [if_neg h]
theorem tM {H : Hp} {P : Addr->Prop} {a : Addr} (h : P a) : cut H P a = none:=by unfold cut; rw [if_pos h]
theorem lC {H : Hp} {P : Addr->Prop} {a : Addr} {o : HO} (h : cut H P a = some o) : ¬ P a/\H a = some o:=by
 by_cases q : P a
 ·rw [tM q] at h; cases h
 ·rw [bG q] at h; exact ⟨q,h⟩
theorem bz {H : Hp} {P : Addr->Prop} : aE (cut H P) H:=fun _ _ e=>(lC e).2
theorem cU {H H' : Hp} {P P' : Addr->Prop} (e : ∀ a o,H a = some o->¬ P a->H' a = some o/\¬ P' a) : aE (cut H P) (cut H' P'):=fun a o q=>by
 obtain ⟨h1,h2⟩:=lC q
 obtain ⟨h3,h4⟩:=e a o h2 h1
 rw [bG h4]; exact h3
def join (N N' : Hp) : Hp:=fun a=>match N a with | some o=>some o | none=>N' a
theorem cL {N N' : Hp} : aE N (join N N'):=fun a o e=>by unfold join; rw [e]
theorem cB {N N' : Hp} {a : Addr} (e : N a = none) : join N N' a = N' a:=by unfold join; rw [e]
def own (σ : St) (ρ : Env) (a : Addr) : Prop:=∃ (i : Nat) (d : D),ρ[i]? = some (some (d,true))/\σ[i]? = some (some (V.ref a))
inductive Bx (K : PySem.W.Frag) (C : Hp) : HO->D->Prop where
 | lst {vs : List V} {ds : List D} (h : IsL K C vs ds) : Bx K C (.lst vs) (.lst ds)
 | dk {ks : List Key} {vs : List V} {ds : List D} (hl : ks.length = vs.length) (h : IsL K C vs ds) : Bx K C (.dK (ks.zip vs)) (.dk ks ds)
 | dt {ks : List (List Key)} {vs : List V} {ds : List D} (hl : ks.length = vs.length) (h : IsL K C vs ds) : Bx K C (.dT (ks.zip vs)) (.dt ks ds)
theorem Bx.mono {K : PySem.W.Frag} {C C' : Hp} {o : HO} {d : D} (h : Bx K C o d) (e : aE C C') : Bx K C' o d:=by
 cases h with
 | lst h=>exact .lst (h.mono e)
 | dk hl h=>exact .dk hl (h.mono e)
 | dt hl h=>exact .dt hl (h.mono e)
theorem Bx.is {K : PySem.W.Frag} {C : Hp} {o : HO} {d : D} {a : Addr} (h : Bx K C o d) (e : C a = some o) : Is K C (.ref a) d:=by
 cases h with
 | lst h=>exact .lst (SqL.of e) h
 | dk hl h=>exact .dk e hl h
 | dt hl h=>exact .dt e hl h
structure StN (K : PySem.W.Frag) (B0 H0 N H : Hp) (σ : St) (ρ : Env) : Prop where
 bh : aE B0 H0
 tb : Tb K B0
 ext : Ext B0 N H0 H
 len : ρ.length = σ.length
 sh : ∀ (i : Nat) (d : D),ρ[i]? = some (some (d,false))->∃ v,σ[i]? = some (some v)/\Is K (cut N (own σ ρ)) v d
 ow : ∀ (i : Nat) (d : D),ρ[i]? = some (some (d,true))->∃ (a : Addr) (o : HO),σ[i]? = some (some (V.ref a))/\N a = some o/\H0 a = none/\Bx K (cut N (own σ ρ)) o d
 inj : ∀ (i j : Nat) (a : Addr) (d e : D),ρ[i]? = some (some (d,true))->ρ[j]? = some (some (e,true))->σ[i]? = some (some (V.ref a))->σ[j]? = some (some (V.ref a))->i = j
def p8 (K : PySem.W.Frag) (B0 H0 H : Hp) (σ : St) (ρ : Env) : Prop:=∃ N,StN K B0 H0 N H σ ρ
section
variable {K : PySem.W.Frag} {B0 H0 N H H' : Hp} {σ : St} {ρ : Env}
theorem StN.owL (s : StN K B0 H0 N H σ ρ) (i : Nat) (d : D) {es : List D} (q : ρ[i]? = some (some (.lst es,true))) (hd : d = .lst es:=by rfl) : ∃ (a : Addr) (vs : List V) (ds : List D),d = .lst ds/\σ[i]? = some (some (V.ref a))/\N a = some (.lst vs)/\H0 a = none/\IsL K (cut N (own σ ρ)) vs ds:=by
 obtain ⟨a,o,h1,h2,h3,h4⟩:=s.ow i _ q
 cases h4 with
 | lst h4=>exact ⟨a,_,es,hd,h1,h2,h3,h4⟩
def boxed : HO->Prop
 | .lst _ | .dK _ | .dT _=>True
 | _=>False
theorem Bx.boxed {C : Hp} {o : HO} {d : D} (h : Bx K C o d) : boxed o:=by cases h <;> exact trivial
theorem StN.owned (s : StN K B0 H0 N H σ ρ) {a : Addr} (h : own σ ρ a) : ∃ o,(N a = some o/\boxed o)/\H0 a = none:=by
 obtain ⟨i,d,h1,h2⟩:=h
 obtain ⟨a',o,h3,h4,h5,h6⟩:=s.ow i d h1
 rw [h2] at h3; cases h3
 exact ⟨o,⟨h4,h6.boxed⟩,h5⟩
theorem StN.rep (s : StN K B0 H0 N H σ ρ) : RepE K N σ ρ:=⟨s.tb.mono s.ext.bn,fun i d b q=>by
 cases b with
 | false=>obtain ⟨v,h1,h2⟩:=s.sh i d q; exact ⟨v,h1,h2.mono bz⟩
 | true =>
  obtain ⟨a,o,h2,h3,_,h4⟩:=s.ow i d q
  exact ⟨_,h2,(h4.mono bz).is h3⟩⟩
def qU (ρ : Env) : Env:=ρ.map fun x=>match x with | some (d,false)=>some (d,false) | _=>none
theorem xM {i : Nat} {d : D} {b : Bool} (h : (qU ρ)[i]? = some (some (d,b))) : b = false/\ρ[i]? = some (some (d,false)):=by
 unfold qU at h
 rw [List.getElem?_map] at h
 cases e : ρ[i]? with
 | none=>rw [e] at h; cases h
 | some x =>
  rw [e] at h
  match x,h with
  | some (d',false),h=>cases h; exact ⟨rfl,rfl⟩
  | some (d',true),h=>cases h
  | none,h=>cases h
theorem StN.tbC (s : StN K B0 H0 N H σ ρ) : Tb K (cut N (own σ ρ)):=fun x hx c P q=>by
 have z:=s.tb.mono s.ext.bn x hx c P q
 rw [bG]
 ·exact z
 ·intro y
  obtain ⟨o,⟨y,yb⟩,_⟩:=s.owned y
  rw [z] at y; cases y; exact yb
theorem StN.repH (s : StN K B0 H0 N H σ ρ) : RepE K (cut N (own σ ρ)) σ (qU ρ):=⟨s.tbC,fun i d b q=>by
 obtain ⟨rfl,q2⟩:=xM q
 exact s.sh i d q2⟩
theorem StN.grow (s : StN K B0 H0 N H σ ρ) {N' : Hp} (x : Ext N N' H H') : StN K B0 H0 N' H' σ ρ:=by
 have c : aE (cut N (own σ ρ)) (cut N' (own σ ρ)):=cU fun a o e q=>⟨x.bn a o e,q⟩
 refine ⟨s.bh,s.tb,s.ext.trans x,s.len,fun i d q=>?_,fun i d q=>?_,s.inj⟩
 ·obtain ⟨v,h1,h2⟩:=s.sh i d q; exact ⟨v,h1,h2.mono c⟩
 ·obtain ⟨a,o,h2,h3,h4,h5⟩:=s.ow i d q
  exact ⟨a,o,h2,x.bn _ _ h3,h4,h5.mono c⟩
theorem StN.growH (s : StN K B0 H0 N H σ ρ) {N' : Hp} (x : Ext (cut N (own σ ρ)) N' H H') : StN K B0 H0 (join N N') H' σ ρ/\aE N' (cut (join N N') (own σ ρ)):=by
 have x' : Ext N (join N N') H H':=by
  refine ⟨x.hh,cL,fun a o e=>?_,fun a o e=>?_⟩
  ·cases q : N a with
   | some u =>
    have : join N N' a = some u:=cL _ _ q
    rw [this] at e; cases e
    exact x.hh _ _ (s.ext.nh _ _ q)
   | none=>rw [cB q] at e; exact x.nh _ _ e
  ·cases q : N a with
   | some u =>
    have : join N N' a = some u:=cL _ _ q
    rw [this] at e; cases e
    exact .inl rfl
   | none =>
    rw [cB q] at e
    rcases x.new a o e with z | z
    ·have:=bz _ _ z; rw [q] at this; cases this
    ·exact .inr z
 refine ⟨s.grow x',fun a o e=>?_⟩
 rcases x.new a o e with z | z
 ·obtain ⟨z1,z2⟩:=lC z
  rw [bG z1]; exact cL _ _ z2
 ·have hN : N a = none:=s.ext.nh.free z
  have : ¬ own σ ρ a:=fun q=>by obtain ⟨vs,⟨q,_⟩,_⟩:=s.owned q; rw [hN] at q; cases q
  rw [bG this,cB hN]; exact e
def unown (ρ : Env) : Env:=ρ.map fun x=>x.map fun y=>(y.1,false)
theorem gR {i : Nat} {d : D} {b : Bool} (h : (unown ρ)[i]? = some (some (d,b))) : b = false/\∃ c,ρ[i]? = some (some (d,c)):=by
 unfold unown at h
 rw [List.getElem?_map] at h
 cases e : ρ[i]? with
 | none=>rw [e] at h; cases h
 | some x =>
  rw [e] at h
  match x,h with
  | some (d',c),h=>cases h; exact ⟨rfl,c,rfl⟩
  | none,h=>cases h
theorem jG {a : Addr} : ¬ own σ (unown ρ) a:=fun ⟨i,d,h,_⟩=>by
 obtain ⟨z,_⟩:=gR h; cases z
theorem StN.unown (s : StN K B0 H0 N H σ ρ) : StN K B0 H0 N H σ (unown ρ):=by
 refine ⟨s.bh,s.tb,s.ext,by unfold DL.unown; rw [List.length_map]; exact s.len,fun i d q=>?_,fun i d q=>?_,fun i j a d e q=>?_⟩
 ·obtain ⟨_,c,q⟩:=gR q
  obtain ⟨v,h1,h2⟩:=s.rep.at' i d c q
  exact ⟨v,h1,h2.mono fun a o e=>by rw [bG jG]; exact e⟩
 ·obtain ⟨z,_⟩:=gR q; cases z
 ·obtain ⟨z,_⟩:=gR q; cases z
theorem bq {α : Type} {l : List α} {i j : Nat} {x y : α} (h : (l.set i x)[j]? = some y) : (i = j/\x = y) ∨ (i ≠ j/\l[j]? = some y):=by
 by_cases e : i = j
 ·subst e
  rw [List.getElem?_set] at h
  split at h
  ·split at h
   ·exact .inl ⟨rfl,Option.some.inj h⟩
   ·cases h
  ·contradiction
 ·rw [List.getElem?_set_ne e] at h; exact .inr ⟨e,h⟩
theorem nW {α β : Type} {l : List α} {m : List β} {i : Nat} {x y : α} (h : (l.set i x)[i]? = some y) (e : l.length = m.length) : i < m.length:=by
 obtain ⟨h,_⟩:=List.getElem?_eq_some_iff.mp h
 rw [List.length_set] at h; omega
theorem p9 {i : Nat} {v : V} {x : Option (D × Bool)} {a : Addr} (h : own (σ.set i (some v)) (ρ.set i x) a) : (v = .ref a/\∃ d,x = some (d,true)) ∨ ∃ j,j ≠ i/\∃ d,ρ[j]? = some (some (d,true))/\σ[j]? = some (some (V.ref a)):=by
 obtain ⟨j,d,h1,h2⟩:=h
 rcases bq h1 with ⟨e,q⟩ | ⟨e,q⟩
 ·rcases bq h2 with ⟨e2,q2⟩ | ⟨e2,q2⟩
  ·cases q2; exact .inl ⟨rfl,d,q⟩
  ·exact absurd e e2
 ·rcases bq h2 with ⟨e2,q2⟩ | ⟨e2,q2⟩
  ·exact absurd e2 e
  ·exact .inr ⟨j,fun z=>e z.symm,d,q,q2⟩
theorem StN.bind (s : StN K B0 H0 N H σ ρ) {i : Nat} {v : V} {d : D} (h : Is K (cut N (own σ ρ)) v d) : StN K B0 H0 N H (σ.set i (some v)) (ρ.set i (some (d,false))):=by
 have o : ∀ a,own (σ.set i (some v)) (ρ.set i (some (d,false))) a->own σ ρ a:=fun a q=>by
  rcases p9 q with ⟨_,d',p⟩ | ⟨j,_,d',q1,q2⟩
  ·cases p
  ·exact ⟨j,d',q1,q2⟩
 have c : aE (cut N (own σ ρ)) (cut N (own (σ.set i (some v)) (ρ.set i (some (d,false))))):=cU fun a u e q=>⟨e,fun z=>q (o a z)⟩
 refine ⟨s.bh,s.tb,s.ext,by simp [s.len],fun j e q=>?_,fun j e q=>?_,fun j k a e f q q' h1 h2=>?_⟩
 ·rcases bq q with ⟨rfl,p⟩ | ⟨ne,p⟩
  ·cases p
   have hi:=nW q s.len
   exact ⟨v,by simp [hi],h.mono c⟩
  ·obtain ⟨w,h1,h2⟩:=s.sh j e p
   exact ⟨w,by rw [List.getElem?_set_ne ne]; exact h1,h2.mono c⟩
 ·rcases bq q with ⟨rfl,p⟩ | ⟨ne,p⟩
  ·cases p
  ·obtain ⟨a,o,h1,h2,h3,h4⟩:=s.ow j e p
   exact ⟨a,o,by rw [List.getElem?_set_ne ne]; exact h1,h2,h3,h4.mono c⟩
 ·rcases bq q with ⟨rfl,p⟩ | ⟨ne,p⟩
  ·cases p
  ·rcases bq q' with ⟨rfl,p'⟩ | ⟨ne',p'⟩
   ·cases p'
   ·rw [List.getElem?_set_ne ne] at h1
    rw [List.getElem?_set_ne ne'] at h2
    exact s.inj j k a e f p p' h1 h2
theorem StN.bindOwn (s : StN K B0 H0 N H σ ρ) {i : Nat} {a : Addr} {ob : HO} {dd : D} (hN : N a = some ob) (h0 : H0 a = none) (hno : ∀ (j : Nat) (d : D),ρ[j]? = some (some (d,true))->σ[j]? ≠ some (some (V.ref a)))
  (hsh : ∀ (j : Nat) (d : D),j ≠ i->ρ[j]? = some (some (d,false))->∃ v,σ[j]? = some (some v)/\Is K (cut N (fun b=>own σ ρ b ∨ b = a)) v d) (how : ∀ (j : Nat) (d : D),j ≠ i->ρ[j]? = some (some (d,true))->∃ (a' : Addr) (o : HO),σ[j]? = some (some (V.ref a'))/\N a' = some o/\Bx K (cut N (fun b=>own σ ρ b ∨ b = a)) o d)
  (hds : Bx K (cut N (fun b=>own σ ρ b ∨ b = a)) ob dd) : StN K B0 H0 N H (σ.set i (some (.ref a))) (ρ.set i (some (dd,true))):=by
 have o : ∀ b,own (σ.set i (some (V.ref a))) (ρ.set i (some (dd,true))) b->own σ ρ b ∨ b = a:=fun b q=>by
  rcases p9 q with ⟨p,_⟩ | ⟨j,_,d',q1,q2⟩
  ·cases p; exact .inr rfl
  ·exact .inl ⟨j,d',q1,q2⟩
 have c : aE (cut N (fun b=>own σ ρ b ∨ b = a)) (cut N (own (σ.set i (some (V.ref a))) (ρ.set i (some (dd,true))))):=cU fun b u e q=>⟨e,fun z=>q (o b z)⟩
 refine ⟨s.bh,s.tb,s.ext,by simp [s.len],fun j e q=>?_,fun j e q=>?_,fun j k b e f q q' h1 h2=>?_⟩
 ·rcases bq q with ⟨rfl,p⟩ | ⟨ne,p⟩
  ·cases p
  ·obtain ⟨w,h1,h2⟩:=hsh j e (Ne.symm ne) p
   exact ⟨w,by rw [List.getElem?_set_ne ne]; exact h1,h2.mono c⟩
 ·rcases bq q with ⟨rfl,p⟩ | ⟨ne,p⟩
  ·cases p
   have hi:=nW q s.len
   exact ⟨a,ob,by simp [hi],hN,h0,hds.mono c⟩
  ·obtain ⟨a',o',h1,h2,h4⟩:=how j e (Ne.symm ne) p
   have h3 : H0 a' = none:=by
    obtain ⟨a2,_,k1,_,k3,_⟩:=s.ow j e p
    rw [h1] at k1; cases k1; exact k3
   exact ⟨a',o',by rw [List.getElem?_set_ne ne]; exact h1,h2,h3,h4.mono c⟩
 ·rcases bq q with ⟨rfl,p⟩ | ⟨ne,p⟩
  ·rcases bq q' with ⟨rfl,p'⟩ | ⟨ne',p'⟩
   ·rfl
   ·rw [List.getElem?_set_ne ne'] at h2
    have h1' : V.ref a = V.ref b:=by
     rcases bq h1 with ⟨_,z⟩ | ⟨z,_⟩
     ·exact Option.some.inj z
     ·exact absurd rfl z
    cases h1'
    exact absurd h2 (hno k f p')
  ·rcases bq q' with ⟨rfl,p'⟩ | ⟨ne',p'⟩
   ·rw [List.getElem?_set_ne ne] at h1
    have h2' : V.ref a = V.ref b:=by
     rcases bq h2 with ⟨_,z⟩ | ⟨z,_⟩
     ·exact Option.some.inj z
     ·exact absurd rfl z
    cases h2'
    exact absurd h1 (hno j e p)
   ·rw [List.getElem?_set_ne ne] at h1
    rw [List.getElem?_set_ne ne'] at h2
    exact s.inj j k b e f p p' h1 h2
end
inductive Res where
 | nx (ρ : Env) | rt (d : D) (b : Bool) | bk (ρ : Env) | ct (ρ : Env)
abbrev FS:=Env->Option Res
def DH (K : PySem.W.Frag) (B0 H0 : Hp) (E : Ends) : Res->Prop
 | .nx ρ=>∀ σ H,p8 K B0 H0 H σ ρ->E.nx σ H
 | .rt d b=>∀ v H N,Ext B0 N H0 H->Is K N v d->(b = true->Fsh K H0 N v d)->E.rt v H
 | .bk ρ=>∀ σ H,p8 K B0 H0 H σ ρ->E.bk σ H
 | .ct ρ=>∀ σ H,p8 K B0 H0 H σ ρ->E.ct σ H
def tDS (K : PySem.W.Frag) (g : FS) : TS:=fun E σ H=>∃ (B0 H0 : Hp) (ρ : Env) (r : Res),p8 K B0 H0 H σ ρ/\g ρ = some r/\DH K B0 H0 E r
section
variable {K : PySem.W.Frag} {B0 H0 N H H' : Hp} {σ : St} {ρ : Env} {E : Ends}
theorem StN.writeB (s : StN K B0 H0 N H σ ρ) {i : Nat} {d dd : D} {a : Addr} {ob : HO} (hi : ρ[i]? = some (some (d,true))) (hσ : σ[i]? = some (some (V.ref a))) (h : Bx K (cut N (own σ ρ)) ob dd) :
  StN K B0 H0 (upd N a ob) (upd H a ob) σ (ρ.set i (some (dd,true))):=by
 have oa : own σ ρ a:=⟨i,d,hi,hσ⟩
 obtain ⟨ws,hw,h0⟩:=s.owned oa
 have b0 : B0 a = none:=s.bh.free h0
 have o : ∀ b,own σ (ρ.set i (some (dd,true))) b ↔ own σ ρ b:=fun b=>by
  constructor
  ·rintro ⟨j,e,q1,q2⟩
   rcases bq q1 with ⟨rfl,p⟩ | ⟨_,p⟩
   ·exact ⟨i,d,hi,q2⟩
   ·exact ⟨j,e,p,q2⟩
  ·rintro ⟨j,e,q1,q2⟩
   by_cases z : i = j
   ·subst z
    exact ⟨i,dd,by rw [List.getElem?_set_self (List.getElem?_eq_some_iff.mp hi).1],q2⟩
   ·exact ⟨j,e,by rw [List.getElem?_set_ne z]; exact q1,q2⟩
 have c : aE (cut N (own σ ρ)) (cut (upd N a ob) (own σ (ρ.set i (some (dd,true))))):=cU fun b u e q=>by
  have ne : b ≠ a:=fun z=>q (z ▸ oa)
  exact ⟨by rw [a9 ne]; exact e,fun z=>q ((o b).mp z)⟩
 refine ⟨s.bh,s.tb,⟨fun b u e=>?_,fun b u e=>?_,fun b u e=>?_,fun b u e=>?_⟩,by rw [List.length_set]; exact s.len,fun j e q=>?_,fun j e q=>?_,fun j k b e f q q' h1 h2=>?_⟩
 ·rw [a9 (fun z=>by subst z; rw [h0] at e; cases e)]; exact s.ext.hh _ _ e
 ·rw [a9 (fun z=>by subst z; rw [b0] at e; cases e)]; exact s.ext.bn _ _ e
 ·by_cases z : b = a
  ·subst z; rw [ax] at e ⊢; exact e
  ·rw [a9 z] at e ⊢; exact s.ext.nh _ _ e
 ·by_cases z : b = a
  ·subst z; exact .inr h0
  ·rw [a9 z] at e; exact s.ext.new _ _ e
 ·rcases bq q with ⟨rfl,p⟩ | ⟨ne,p⟩
  ·cases p
  ·obtain ⟨v,h1,h2⟩:=s.sh j e p
   exact ⟨v,h1,h2.mono c⟩
 ·rcases bq q with ⟨rfl,p⟩ | ⟨ne,p⟩
  ·cases p
   exact ⟨a,ob,hσ,ax,h0,h.mono c⟩
  ·obtain ⟨a',o',h1,h2,h3,h4⟩:=s.ow j e p
   have na : a' ≠ a:=fun z=>by subst z; exact ne (s.inj i j _ d e hi p hσ h1)
   exact ⟨a',o',h1,by rw [a9 na]; exact h2,h3,h4.mono c⟩
 ·have get : ∀ {j : Nat} {e : D},(ρ.set i (some (dd,true)))[j]? = some (some (e,true))->∃ e',ρ[j]? = some (some (e',true)):=fun {j e} q=>by
   rcases bq q with ⟨rfl,p⟩ | ⟨ne,p⟩
   ·exact ⟨d,hi⟩
   ·exact ⟨e,p⟩
  obtain ⟨e',q1⟩:=get q
  obtain ⟨f',q2⟩:=get q'
  exact s.inj j k b e' f' q1 q2 h1 h2
theorem StN.write (s : StN K B0 H0 N H σ ρ) {i : Nat} {d : D} {a : Addr} {vs : List V} {ds : List D} (hi : ρ[i]? = some (some (d,true))) (hσ : σ[i]? = some (some (V.ref a))) (h : IsL K (cut N (own σ ρ)) vs ds) :
  StN K B0 H0 (upd N a (.lst vs)) (upd H a (.lst vs)) σ (ρ.set i (some (.lst ds,true))):=s.writeB hi hσ (.lst h)
theorem StN.tups (s : StN K B0 H0 N H σ ρ) : ∀ a vs,SqT K N a vs->SqT K (cut N (own σ ρ)) a vs:=fun a vs h=>by
 have key : ∀ u,N a = some u->¬ boxed u->cut N (own σ ρ) a = some u:=fun u e hu=>by
  rw [bG fun z=>?_]; exact e
  obtain ⟨ws,⟨q,qb⟩,_⟩:=s.owned z
  rw [e] at q; cases q; exact hu qb
 rcases h with (h | ⟨o,h⟩) | h
 ·exact .inl (.inl (key _ h (fun q=>q)))
 ·exact .inl (.inr ⟨o,key _ h (fun q=>q)⟩)
 ·exact .inr h
theorem StN.flat (s : StN K B0 H0 N H σ ρ) {v : V} {d : D} (h : Is K N v d) (n : bg d = true) : Is K (cut N (own σ ρ)) v d:=h.keepT s.tups n
theorem StN.flats (s : StN K B0 H0 N H σ ρ) {v : List V} {d : List D} (h : IsL K N v d) (n : aS d = true) : IsL K (cut N (own σ ρ)) v d:=h.keepT s.tups n
theorem StN.rebase (s : StN K B0 H0 N H σ ρ) : StN K (cut N (own σ ρ)) (cut H (own σ ρ)) N H σ ρ :=
 ⟨cU fun a o e q=>⟨s.ext.nh _ _ e,q⟩,s.tbC,⟨bz,bz,s.ext.nh,fun a o e=>by
  by_cases q : own σ ρ a
  ·exact .inr (tM q)
  ·exact .inl (by rw [bG q]; exact e)⟩,s.len,s.sh,fun i d q=>by
   obtain ⟨a,o,h1,h2,_,h4⟩:=s.ow i d q
   exact ⟨a,o,h1,h2,tM ⟨i,d,q,h1⟩,h4⟩,s.inj⟩
theorem StN.unbase (s : StN K B0 H0 N H σ ρ) {N' H' : Hp} {σ' : St} {ρ' : Env} (t : StN K (cut N (own σ ρ)) (cut H (own σ ρ)) N' H' σ' ρ') : StN K B0 H0 N' H' σ' ρ':=by
 have h0 : aE H0 (cut H (own σ ρ)):=fun a o e=>by
  rw [bG fun z=>?_]; exact s.ext.hh _ _ e
  obtain ⟨_,_,q⟩:=s.owned z
  rw [q] at e; cases e
 have b0 : aE B0 (cut N (own σ ρ)):=fun a o e=>by
  rw [bG fun z=>?_]; exact s.ext.bn _ _ e
  obtain ⟨_,_,q⟩:=s.owned z
  rw [s.bh _ _ e] at q; cases q
 refine ⟨s.bh,s.tb,⟨h0.trans t.ext.hh,b0.trans t.ext.bn,t.ext.nh,fun a o e=>?_⟩,t.len,t.sh,fun i d q=>?_,t.inj⟩
 ·rcases t.ext.new a o e with z | z
  ·exact s.ext.new a o (bz _ _ z)
  ·exact .inr (h0.free z)
 ·obtain ⟨a,o,h1,h2,h3,h4⟩:=t.ow i d q
  exact ⟨a,o,h1,h2,h0.free h3,h4⟩
theorem StN.based (t : StN K B0 H0 N H σ ρ) : aE B0 (cut N (own σ ρ)):=fun a o e=>by
 rw [bG fun z=>?_]; exact t.ext.bn _ _ e
 obtain ⟨_,_,q⟩:=t.owned z
 rw [t.bh _ _ e] at q; cases q
@[simp] def aJ (g h : FS) : FS:=fun ρ=>match g ρ with | some (.nx ρ')=>h ρ' | r=>r
@[simp] def cy : FS:=fun ρ=>some (.nx ρ)
@[simp] def gIf (c : FT) (g h : FS) : FS:=fun ρ=>match c ρ with | some true=>g ρ | some false=>h ρ | none=>none
@[simp] def b7 (f : FE) : FS:=fun ρ=>(f ρ).map fun x=>.rt x.1 x.2
@[simp] def ER : FS:=fun _=>some (.rt .non false)
@[simp] def ES (f : FE) : FS:=fun ρ=>(f ρ).map fun _=>.nx ρ
@[simp] def AV : D->Bool
 | .dk _ _=>true
 | .dt _ _=>true
 | _=>false
@[simp] def io (i : Nat) : FS:=fun ρ=>match ρ[i]? with | some (some (d,b))=>some (.rt d (b && !AV d)) | _=>none
@[simp] def AW : D->Bool
 | .lst ds=>aS ds
 | _=>false
@[simp] def setE (ρ : Env) (i : Nat) (d : D) (b : Bool) : Env :=
 if bg d = true then ρ.set i (some (d,false)) else if b = true/\AW d = true then ρ.set i (some (d,true)) else (unown ρ).set i (some (d,false))
@[simp] def ba (i : Nat) (f : FE) : FS:=fun ρ=>(f ρ).map fun x=>.nx (setE ρ i x.1 x.2)
@[simp] def ET (i : Nat) (f : FE) : FS:=fun ρ=>(f (qU ρ)).map fun x=>.nx (ρ.set i (some (x.1,false)))
@[simp] def lD (i : Nat) (f : FE) : FS:=fun ρ=>match ρ[i]? with
 | some (some (.lst ds,true))=>(f ρ).bind fun x=>if bg x.1 = true/\ds.length < sizeLine then some (.nx (ρ.set i (some (.lst (ds ++ [x.1]),true)))) else none
 | _=>none
theorem zU {g h : FS} (q : tDS K (aJ g h) E σ H) : Dp (tDS K g) (tDS K h) E σ H:=by
 obtain ⟨B0,H0,ρ,r,s,e,p⟩:=q
 unfold aJ at e
 cases eg : g ρ with
 | none=>rw [eg] at e; cases e
 | some r1 =>
  rw [eg] at e
  cases r1 with
  | nx ρ'=>exact ⟨B0,H0,ρ,.nx ρ',s,eg,fun σ' H' s'=>⟨B0,H0,ρ',r,s',e,p⟩⟩
  | rt d b=>cases e; exact ⟨B0,H0,ρ,_,s,eg,p⟩
  | bk ρ'=>cases e; exact ⟨B0,H0,ρ,_,s,eg,p⟩
  | ct ρ'=>cases e; exact ⟨B0,H0,ρ,_,s,eg,p⟩
theorem xN (q : tDS K cy E σ H) : AI E σ H:=by
 obtain ⟨B0,H0,ρ,r,s,e,p⟩:=q
 cases e
 exact p σ H s
theorem p8.grown {H' : Hp} (s : StN K B0 H0 N H σ ρ) (h : aE H H') : p8 K B0 H0 H' σ ρ:=⟨N,s.grow (.grow s.ext.nh h)⟩
theorem Ci {c : FT} {g h : FS} (q : tDS K (gIf c g h) E σ H) : Ds (tDT K c) (tDS K g) (tDS K h) E σ H:=by
 obtain ⟨B0,H0,ρ,r,⟨N,s⟩,e,p⟩:=q
 unfold gIf at e
 cases ec : c ρ with
 | none=>rw [ec] at e; cases e
 | some b =>
  rw [ec] at e
  refine ⟨N,ρ,b,s.ext.nh,s.rep,ec,fun H1 h1=>?_⟩
  cases b with
  | true=>rw [if_pos rfl]; exact ⟨B0,H0,ρ,r,.grown s h1,e,p⟩
  | false=>rw [if_neg (by decide)]; exact ⟨B0,H0,ρ,r,.grown s h1,e,p⟩
theorem zV {f : FE} (q : tDS K (b7 f) E σ H) : BJ (tD K f) E σ H:=by
 obtain ⟨B0,H0,ρ,r,⟨N,s⟩,e,p⟩:=q
 obtain ⟨x,ex,e⟩:=oY e
 subst e
 exact ⟨N,ρ,x.1,x.2,s.ext.nh,s.rep,ex,fun v H1 N1 x1 i1 f1=>p v H1 N1 (s.ext.trans x1) i1 fun b=>(f1 b).back s.ext.hh⟩
theorem xO {i : Nat} (q : tDS K (io i) E σ H) : BJ (B9 i) E σ H:=by
 obtain ⟨B0,H0,ρ,r,⟨N,s⟩,e,p⟩:=q
 unfold io at e
 split at e
 ·rename_i d b ei
  cases e
  cases b with
  | false =>
   obtain ⟨v,h1,h2⟩:=s.sh i d ei
   exact ⟨v,h1,p v H N s.ext (h2.mono bz) (by simp)⟩
  | true =>
   obtain ⟨a,o,h1,h2,h3,h4⟩:=s.ow i d ei
   cases h4 with
   | lst h4=>exact ⟨_,h1,p _ H N s.ext (.lst (SqL.of h2) (h4.mono bz)) fun _=>⟨a,_,_,rfl,rfl,h3,h2,h4.mono bz⟩⟩
   | dk hl h4=>exact ⟨_,h1,p _ H N s.ext (.dk h2 hl (h4.mono bz)) (by simp)⟩
   | dt hl h4=>exact ⟨_,h1,p _ H N s.ext (.dt h2 hl (h4.mono bz)) (by simp)⟩
 ·cases e
theorem StN.setE (s : StN K B0 H0 N H σ ρ) {i : Nat} {v : V} {d : D} {b : Bool} {N1 H1 : Hp} (x : Ext N N1 H H1) (h : Is K N1 v d) (f : b = true->Fsh K H N1 v d) : StN K B0 H0 N1 H1 (σ.set i (some v)) (setE ρ i d b):=by
 have s1:=s.grow x
 unfold DL.setE
 by_cases hn : bg d = true
 ·rw [if_pos hn]
  exact s1.bind (s1.flat h hn)
 ·rw [if_neg hn]
  by_cases hb : b = true/\AW d = true
  ·rw [if_pos hb]
   obtain ⟨a,vs,ds,rfl,rfl,ha,hN,hs⟩:=f hb.1
   have hNa : N a = none:=s.ext.nh.free ha
   have hoa : ¬ own σ ρ a:=fun z=>by obtain ⟨ws,⟨q,_⟩,_⟩:=s.owned z; rw [hNa] at q; cases q
   have c : aE (cut N (own σ ρ)) (cut N1 (fun b=>own σ ρ b ∨ b = a)):=cU fun b u e q=>⟨x.bn _ _ e,fun z=>z.elim q fun z=>by subst z; rw [hNa] at e; cases e⟩
   refine s1.bindOwn hN (s.ext.hh.free ha) (fun j e q z=>hoa ⟨j,e,q,z⟩) (fun j e _ q=>?_) (fun j e _ q=>?_) (.lst (hs.keepT (fun t ts st=>?_) hb.2))
   ·obtain ⟨w,h1,h2⟩:=s.sh j e q; exact ⟨w,h1,h2.mono c⟩
   ·obtain ⟨a',o',h1,h2,_,h4⟩:=s.ow j e q
    exact ⟨a',o',h1,x.bn _ _ h2,h4.mono c⟩
   ·have key : ∀ u,N1 t = some u->¬ boxed u->cut N1 (fun b=>own σ ρ b ∨ b = a) t = some u:=fun u e hu=>by
     rw [bG fun z=>?_]; exact e
     rcases z with z | z
     ·obtain ⟨ws,⟨q,qb⟩,_⟩:=s1.owned z
      rw [e] at q; cases q; exact hu qb
     ·subst z; rw [e] at hN; cases hN; exact hu trivial
    rcases st with (st | ⟨o,st⟩) | st
    ·exact .inl (.inl (key _ st (fun q=>q)))
    ·exact .inl (.inr ⟨o,key _ st (fun q=>q)⟩)
    ·exact .inr st
  ·rw [if_neg hb]
   exact s1.unown.bind (h.mono fun a o e=>by rw [bG jG]; exact e)
theorem uV {i : Nat} {f : FE} (q : tDS K (ba i f) E σ H) : wf (tD K f) (k9 i) E σ H:=by
 obtain ⟨B0,H0,ρ,r,⟨N,s⟩,e,p⟩:=q
 obtain ⟨x,ex,e⟩:=oY e
 subst e
 exact ⟨N,ρ,x.1,x.2,s.ext.nh,s.rep,ex,fun v H1 N1 x1 i1 f1=>p _ H1 ⟨N1,s.setE x1 i1 f1⟩⟩
theorem zW {i : Nat} {f : FE} (q : tDS K (lD i f) E σ H) : ∃ (a : Addr) (us : List V),σ[i]? = some (some (V.ref a))/\H a = some (.lst us)/\AM (tD K f) D5 σ H fun xs H2=>uT (.ref a) xs H2 fun _ H3=>E.nx σ H3:=by
 obtain ⟨B0,H0,ρ,r,⟨N,s⟩,e,p⟩:=q
 unfold lD at e
 split at e
 ·rename_i ds ei
  obtain ⟨x,ex,e⟩:=oX e
  split at e
  ·rename_i hx
   cases e
   obtain ⟨a,vs,ds',z,h1,h2,h3,h4⟩:=s.owL i _ ei
   cases z
   refine ⟨a,vs,h1,s.ext.nh _ _ h2,N,ρ,x.1,x.2,s.ext.nh,s.rep,ex,fun v H1 N1 x1 i1 f1=>⟨a,vs,v,rfl,rfl,x1.hh _ _ (s.ext.nh _ _ h2),by rw [h4.length]; exact hx.2, ?_⟩⟩
   have s1:=s.grow x1
   obtain ⟨a',vs',ds',z,k1,k2,_,k4⟩:=s1.owL i _ ei
   cases z
   rw [h1] at k1; cases k1
   rw [x1.bn _ _ h2] at k2; cases k2
   exact p σ _ ⟨_,s1.write ei h1 (k4.append (.cons (s1.flat i1 hx.1) .nil))⟩
  ·cases e
 ·cases e
end
def eX (c : FT) (g : FS) : Nat->Env->Option Res
 | 0,_=>none
 | n + 1,ρ=>match c ρ with
  | some true=>match g ρ with
   | some (.nx ρ')=>eX c g n ρ'
   | some (.ct ρ')=>eX c g n ρ'
   | some (.bk ρ')=>some (.nx ρ')
   | r=>r
  | some false=>some (.nx ρ)
  | none=>none
theorem wy {K : PySem.W.Frag} {c : FT} {g : FS} {n : Nat} {E : Ends} {σ : St} {H : Hp} (q : tDS K (eX c g n) E σ H) : xp (tDT K c) (tDS K g) E σ H:=by
 obtain ⟨B0,H0,ρ,r,s,e,p⟩:=q
 refine ⟨fun m σ H=>∃ ρ,p8 K B0 H0 H σ ρ/\eX c g m ρ = some r,⟨n,ρ,s,e⟩, ?_⟩
 rintro m σ H ⟨ρ,⟨N,s⟩,e⟩
 cases m with
 | zero=>cases e
 | succ m =>
  unfold eX at e
  cases ec : c ρ with
  | none=>rw [ec] at e; cases e
  | some b =>
   rw [ec] at e
   refine ⟨N,ρ,b,s.ext.nh,s.rep,ec,fun H1 h1=>?_⟩
   cases b with
   | false=>rw [if_neg (by decide)]; cases e; exact p σ H1 (.grown s h1)
   | true =>
    rw [if_pos rfl]
    refine ⟨fun σ H=>∃ ρ,p8 K B0 H0 H σ ρ/\eX c g m ρ = some r,fun σ' H' w=>⟨m,Nat.lt_succ_self m,w⟩, ?_⟩
    cases eg : g ρ with
    | none=>rw [eg] at e; cases e
    | some r1 =>
     rw [eg] at e
     refine ⟨B0,H0,ρ,r1,.grown s h1,eg, ?_⟩
     cases r1 with
     | nx ρ'=>exact fun σ' H' s'=>⟨ρ',s',e⟩
     | ct ρ'=>exact fun σ' H' s'=>⟨ρ',s',e⟩
     | bk ρ'=>cases e; exact fun σ' H' s'=>p σ' H' s'
     | rt d b=>cases e; exact p
def pA (K : PySem.W.Frag) (J : It) (B : Hp) (ds : List D) : Prop:=∀ (i : Nat) (H : Hp),aE B H ->
 (∀ d,ds[i]? = some d->J.go i H/\∀ x H',J.yld i H x H'->∃ N,Ext B N H H'/\Is K N x d)/\(ds.length<=i->J.stop i H)
def tDI (K : PySem.W.Frag) (f : FA) : TI:=fun σ H R=>∃ (B : Hp) (ρ : Env) (ds : List D),aE B H/\RepE K B σ ρ/\f ρ = some ds/\∀ (J : It) (H' N : Hp),Ext B N H H'->pA K J N ds->R J H'
abbrev FG:=D->Env->Option Env
def tDG (K : PySem.W.Frag) (tg : FG) (g : TG) : Prop:=∀ (B0 H0 N H : Hp) (σ : St) (ρ ρ' : Env) (v : V) (d : D) (Q : St->Hp->Prop),StN K B0 H0 N H σ ρ->Is K (cut N (own σ ρ)) v d->tg d ρ = some ρ' ->
 (∀ σ' H',p8 K B0 H0 H' σ' ρ'->Q σ' H')->g v σ H Q
@[simp] def tgN (i : Nat) : FG:=fun d ρ=>some (ρ.set i (some (d,false)))
theorem dR {K : PySem.W.Frag} {i : Nat} : tDG K (tgN i) (k9 i):=by
 intro B0 H0 N H σ ρ ρ' v d Q s h e k
 cases e
 exact k _ H ⟨N,s.bind h⟩
def eY (tg : FG) (g : FS) : List D->Env->Option Res
 | [],ρ=>some (.nx ρ)
 | d :: ds,ρ=>(tg d ρ).bind fun ρ1=>match g ρ1 with
  | some (.nx ρ')=>eY tg g ds ρ'
  | some (.ct ρ')=>eY tg g ds ρ'
  | some (.bk ρ')=>some (.nx ρ')
  | r=>r
@[simp] theorem xP (tg : FG) (g : FS) (ρ : Env) : eY tg g [] ρ = some (.nx ρ):=by rw [eY]
@[simp] theorem wz (tg : FG) (g : FS) (d : D) (ds : List D) (ρ : Env) : eY tg g (d :: ds) ρ = (tg d ρ).bind fun ρ1=>match g ρ1 with
  | some (.nx ρ')=>eY tg g ds ρ'
  | some (.ct ρ')=>eY tg g ds ρ'
  | some (.bk ρ')=>some (.nx ρ')
  | r=>r:=by rw [eY]
@[simp] def pB (f : FA) (tg : FG) (g : FS) : FS:=fun ρ=>(f (qU ρ)).bind fun ds=>eY tg g ds ρ
theorem qV {K : PySem.W.Frag} {tg : FG} {t : TG} {g : FS} {E : Ends} {σ : St} {H1 B0 H0 N N1 : Hp} {ρ : Env} {r : Res} {J : It} {ds : List D} (ht : tDG K tg t) (s1 : StN K B0 H0 N H1 σ ρ) (c : aE N1 (cut N (own σ ρ))) (J1 : pA K J N1 ds) (e : eY tg g ds ρ = some r) (p : DH K B0 H0 E r) :
  ∃ W : Nat->Nat->St->Hp->Prop,(∃ m,W 0 m σ H1)/\∀ i m σ H,W i m σ H->(J.stop i H/\E.nx σ H) ∨ (J.go i H/\∃ N : St->Hp->Prop,(∀ σ' H',N σ' H'->∃ m',m' < m/\W (i + 1) m' σ' H')/\∀ x H',J.yld i H x H'->t x σ H' fun σ2 H2=>tDS K g { E with nx:=N,ct:=N,bk:=E.nx } σ2 H2):=by
 refine ⟨fun i m σ H=>∃ (N : Hp) (ρ : Env),StN K B0 H0 N H σ ρ/\aE N1 (cut N (own σ ρ))/\m = ds.length - i/\i<=ds.length/\eY tg g (ds.drop i) ρ = some r,⟨ds.length,_,ρ,s1,c,rfl,Nat.zero_le _,e⟩, ?_⟩
 clear e s1 c
 rintro i m σ H ⟨N,ρ,s,c,rfl,hi,e⟩
 have hs : aE N1 H:=c.trans (bz.trans s.ext.nh)
 obtain ⟨j1,j2⟩:=J1 i H hs
 by_cases hlt : i < ds.length
 ·obtain ⟨go,yl⟩:=j1 ds[i] (by simp [hlt])
  rw [List.drop_eq_getElem_cons hlt] at e
  obtain ⟨ρ1,e1,e⟩:=oX e
  refine .inr ⟨go,fun σ' H'=>∃ (N : Hp) (ρ : Env),StN K B0 H0 N H' σ' ρ/\aE N1 (cut N (own σ' ρ))/\eY tg g (ds.drop (i + 1)) ρ = some r,fun σ' H' ⟨N',ρ',s',c',e'⟩=>⟨_,by omega,N',ρ',s',c',rfl,hlt,e'⟩,fun x H' y=>?_⟩
  obtain ⟨N2,x2,i2⟩:=yl x H' y
  have x3 : Ext (cut N (own σ ρ)) (join (cut N (own σ ρ)) N2) H H':=by
   refine ⟨x2.hh,cL,fun a o e=>?_,fun a o e=>?_⟩
   ·cases q : cut N (own σ ρ) a with
    | some u=>rw [cL _ _ q] at e; cases e; exact x2.hh _ _ (s.ext.nh _ _ (bz _ _ q))
    | none=>rw [cB q] at e; exact x2.nh _ _ e
   ·cases q : cut N (own σ ρ) a with
    | some u=>rw [cL _ _ q] at e; cases e; exact .inl rfl
    | none =>
     rw [cB q] at e
     rcases x2.new a o e with z | z
     ·rw [c _ _ z] at q; cases q
     ·exact .inr z
  obtain ⟨s2,c2⟩:=s.growH x3
  have c3 : aE N2 (join (cut N (own σ ρ)) N2):=fun a o e=>by
   rcases x2.new a o e with z | z
   ·exact cL _ _ (c _ _ z)
   ·rw [cB ((bz.trans s.ext.nh).free z)]; exact e
  have i3:=i2.mono (c3.trans c2)
  have c4 : aE N1 (cut (join N (join (cut N (own σ ρ)) N2)) (own σ ρ)):=(x2.bn.trans c3).trans c2
  refine ht _ _ _ _ _ _ _ _ _ _ s2.rebase i3 e1 fun σ2 H2 ⟨N4,s4⟩=>?_
  cases eg : g ρ1 with
  | none=>rw [eg] at e; cases e
  | some r1 =>
   rw [eg] at e
   refine ⟨_,_,ρ1,r1,⟨N4,s4⟩,eg, ?_⟩
   have back : ∀ {σ' : St} {H' : Hp} {ρ' : Env} {N' : Hp},StN K _ _ N' H' σ' ρ'->StN K B0 H0 N' H' σ' ρ'/\aE N1 (cut N' (own σ' ρ')):=fun t=>⟨s2.unbase t,c4.trans t.based⟩
   cases r1 with
   | nx ρ'=>exact fun σ' H' ⟨N',t⟩=>⟨N',ρ',(back t).1,(back t).2,e⟩
   | ct ρ'=>exact fun σ' H' ⟨N',t⟩=>⟨N',ρ',(back t).1,(back t).2,e⟩
   | bk ρ'=>cases e; exact fun σ' H' ⟨N',t⟩=>p σ' H' ⟨N',(back t).1⟩
   | rt d b =>
    cases e
    intro v H' N' x' i' f'
    have y:=s2.rebase.ext
    have h0 : aE H0 (cut H' (fun _=>False)):=fun a o e=>by rw [bG (fun z=>z)]; exact x'.hh _ _ (by
     rw [bG fun z=>?_]; exact s2.ext.hh _ _ e
     obtain ⟨_,_,q⟩:=s2.owned z
     rw [q] at e; cases e)
    have h0' : aE H0 (cut H' (fun _=>False)):=h0
    have hH : aE H0 (cut H' (fun _=>False)):=h0
    have hc : ∀ a,cut H' (fun _=>False) a = H' a:=fun a=>bG (fun z=>z)
    have hb : aE H0 (cut _ (own σ ρ)):=fun a o e=>by
     rw [bG fun z=>?_]; exact s2.ext.hh _ _ e
     obtain ⟨_,_,q⟩:=s2.owned z
     rw [q] at e; cases e
    have bb : aE B0 (cut _ (own σ ρ)):=fun a o e=>by
     rw [bG fun z=>?_]; exact s2.ext.bn _ _ e
     obtain ⟨_,_,q⟩:=s2.owned z
     rw [s2.bh _ _ e] at q; cases q
    refine p v H' N' ⟨hb.trans x'.hh,bb.trans x'.bn,x'.nh,fun a o e=>?_⟩ i' fun z=>(f' z).back hb
    rcases x'.new a o e with z | z
    ·exact s2.ext.new a o (bz _ _ z)
    ·exact .inr (hb.free z)
 ·have ei : i = ds.length:=by omega
  subst ei
  rw [List.drop_eq_nil_of_le (Nat.le_refl _)] at e
  cases e
  exact .inl ⟨j2 (Nat.le_refl _),p σ H ⟨N,s⟩⟩
theorem zX {K : PySem.W.Frag} {f : FA} {tg : FG} {t : TG} {g : FS} {E : Ends} {σ : St} {H : Hp} (ht : tDG K tg t) (q : tDS K (pB f tg g) E σ H) : BM (tDI K f) t (tDS K g) E σ H:=by
 obtain ⟨B0,H0,ρ,r,⟨N,s⟩,e,p⟩:=q
 obtain ⟨ds,ef,e⟩:=oX e
 refine ⟨cut N (own σ ρ),qU ρ,ds,bz.trans s.ext.nh,s.repH,ef,fun J H1 N1 x1 J1=>?_⟩
 obtain ⟨s1,c⟩:=s.growH x1
 exact qV ht s1 c J1 e p
def tDR (K : PySem.W.Frag) (f : FA) : TI:=fun σ H R=>∃ (B : Hp) (ρ : Env) (ds : List D),aE B H/\RepE K B σ ρ/\f ρ = some ds/\∀ (J : It) (H' N : Hp),Ext B N H H'->(∀ B',pA K J B' ds)->R J H'
@[simp] def nX (f : FA) (tg : FG) (g : FS) : FS:=fun ρ=>(f ρ).bind fun ds=>eY tg g ds ρ
theorem xQ {K : PySem.W.Frag} {f : FA} {tg : FG} {t : TG} {g : FS} {E : Ends} {σ : St} {H : Hp} (ht : tDG K tg t) (q : tDS K (nX f tg g) E σ H) : BM (tDR K f) t (tDS K g) E σ H:=by
 obtain ⟨B0,H0,ρ,r,⟨N,s⟩,e,p⟩:=q
 obtain ⟨ds,ef,e⟩:=oX e
 refine ⟨N,ρ,ds,s.ext.nh,s.rep,ef,fun J H1 N1 x1 J1=>?_⟩
 exact qV ht (s.grow x1) (aE.refl _) (J1 _) e p
end DL
namespace DL
open PySem PySem.Spec PyProof.Rows L2
abbrev JE (X : Cx) (e : Expr) (f : FE) : Prop:=PE X e (tD X.K f)
abbrev JT (X : Cx) (e : Expr) (f : FT) : Prop:=PT X e (tDT X.K f)
abbrev JW (X : Cx) (e : Expr) (f : FT) : Prop:=PW X e (tDT X.K f)
abbrev JA (X : Cx) (es : List Expr) (f : FA) : Prop:=PA X es (tDA X.K f)
abbrev JS (X : Cx) (st : Stmt) (g : FS) : Prop:=PS X st (tDS X.K g)
abbrev JSs (X : Cx) (st : List Stmt) (g : FS) : Prop:=PSs X st (tDS X.K g)
abbrev JI (X : Cx) (tg iter : Expr) (f : FA) : Prop:=PI X tg iter (tDI X.K f)
theorem pC {prog : Program} {w : World} {A : Around} {R : Result->Shared->Prop} {s : Shared} {elt target iter : Expr} {ifs : List Expr} {scope : Scope} {pos : Pos} {it acc : Value} {env : PySem.Env} (I : Nat->Shared->Prop)
  (turn : ∀ n s,I n s->wpAny (model prog w) A (pyNext it) (fun r s₁=>match r with
   | none=>R (.ok .next) s₁
   | some v=>wpAny (model prog w) A (letOwnedTupleGo target it v) (fun _ s₁=>wpAny (model prog w) A (assign target env v) (fun _ s₂ =>
     wpAny (model prog w) A (forIn ifs true fun c r=>if r = true then do let ok ← isTrue c env (eval c env); pure (ForInStep.yield ok) else pure (ForInStep.yield r)) (fun ok s₃ =>
      if ok = true then wpAny (model prog w) A (eval elt env) (fun x s₄ =>
       wpAny (model prog w) A (call (.builtin "list.append") [acc,x]) (fun _ s₅=>∃ m,m < n/\I m s₅) (fun _ _=>False) s₄) (fun _ _=>False) s₃
      else ∃ m,m < n/\I m s₃) (fun _ _=>False) s₂) (fun _ _=>False) s₁) (fun _ _=>False) s₁) (fun _ _=>False) s)
  (n : Nat) (h : I n s) : codeAny (model prog w) A (.compLoop (.ListComp elt [⟨target,iter,ifs,0⟩] scope pos) 0 it acc env) R s:=by
 refine codeAny_loop rfl I (fun n s hI=>?_) n h
 show wpAny _ A ((compTurn (.ListComp elt [⟨target,iter,ifs,0⟩] scope pos) 0 it acc env).onRaise (fun x=>do noteFrame x env; theTreesLotGoes x)) _ _ s
 refine wpAny_noted (wpAny_mono (E:=fun _ _=>False) ?_ (fun _ _ q=>q) fun _ _ z=>z.elim)
 rw [compTurn_list]
 refine wX (wpAny_standAt (wX (wpAny_mono (turn n s hI) (fun r s₁ h₁=>?_) fun _ _ h'=>h')))
 cases r with
 | none=>exact wY h₁
 | some v =>
  refine wX (wpAny_mono h₁ (fun _ s₁ h₁=>?_) fun _ _ h'=>h')
  refine wX (wpAny_mono h₁ (fun _ s₂ h₂=>wX (wpAny_mono h₂ (fun ok s₃ h₃=>?_) fun _ _ h'=>h')) fun _ _ h'=>h')
  cases ok with
  | false=>exact wY ⟨rfl,h₃⟩
  | true=>exact wX (wX (wpAny_mono h₃ (fun x s₄ h₄=>wX (wpAny_mono h₄ (fun _ s₅ h₅=>wY (wY ⟨rfl,h₅⟩)) fun _ _ h'=>h')) fun _ _ h'=>h'))
theorem Ext.upd {B N H H' : Hp} {a : Addr} {o : HO} (x : Ext B N H H') (h : H a = none) (hN : N a = none) : Ext B N H (upd H' a o) :=
 ⟨fun b u e=>by rw [a9 (fun z=>by subst z; rw [h] at e; cases e)]; exact x.hh _ _ e,x.bn,fun b u e=>by rw [a9 (fun z=>by subst z; rw [hN] at e; cases e)]; exact x.nh _ _ e,x.new⟩
abbrev gl (X : Cx) (N' : List Str) (scope : Scope) (cl : List (Str × Addr)) (C : Addr) (s₃ : Shared) (H₃ : Hp) (fp : List Addr) : Cx :=
 { X with N:=N',s₀:=s₃,H₀:=H₃,env:=compEnvC scope cl C X.env,outer:=X.stack,stack:=X.stack,ex:=fp,fn:=fun _=>false,pn:=[],xe:=fun _ _=>False }
inductive Caps (X : Cx) (N' : List Str) (scope : Scope) (cl : List (Str × Addr)) : Nat->List Nat->Prop where
 | nil {j : Nat} (h : N'.length = j) : Caps X N' scope cl j []
 | cons {j i : Nat} {r : List Nat} {x : Str} (h1 : N'[j]? = some x) (h2 : X.N[i]? = some x) (h3 : X.env.kindOf x = some .cell ∨ X.env.kindOf x = some .free)
   (h4 : (relabel scope X.env).names.lookup x = some .cell ∨ (relabel scope X.env).names.lookup x = some .free) (h5 : cl.lookup x = X.env.cells.lookup x) (t : Caps X N' scope cl (j + 1) r) : Caps X N' scope cl j (i :: r)
theorem Caps.len {X : Cx} {N' : List Str} {scope : Scope} {cl : List (Str × Addr)} : ∀ {j : Nat} {cap : List Nat},Caps X N' scope cl j cap->N'.length = j + cap.length
 | _,_,.nil h=>by rw [h]; rfl
 | j,i :: r,.cons _ _ _ _ _ t=>by rw [t.len,List.length_cons]; omega
theorem Caps.get {X : Cx} {N' : List Str} {scope : Scope} {cl : List (Str × Addr)} : ∀ {j : Nat} {cap : List Nat} {k i : Nat},Caps X N' scope cl j cap->cap[k]? = some i->∃ x,N'[j + k]? = some x/\X.N[i]? = some x/\(X.env.kindOf x = some .cell ∨ X.env.kindOf x = some .free) /\
  ((relabel scope X.env).names.lookup x = some .cell ∨ (relabel scope X.env).names.lookup x = some .free)/\cl.lookup x = X.env.cells.lookup x
 | _,_,_,_,.nil _,e=>by simp at e
 | j,_,0,_,.cons h1 h2 h3 h4 h5 _,e=>by simp at e; subst e; exact ⟨_,h1,h2,h3,h4,h5⟩
 | j,_,k + 1,i,.cons _ _ _ _ _ t,e=>by
  obtain ⟨x,q,r⟩:=t.get (k:=k) (i:=i) (by simpa using e)
  exact ⟨x,by rw [show j + (k + 1) = j + 1 + k by omega]; exact q,r⟩
structure CompSc (X : Cx) (scope : Scope) (cl : List (Str × Addr)) : Prop where
 clos : closureFor scope X.env = pure cl
 nocell : ∀ y ∈ scope.names,y.2 ≠ .cell
 kind : scope.kind = .function
 names : ∀ y ∈ scope.names,y.2 = .local->scope.names.lookup y.1 = some .local
 sub : ∀ x c,cl.lookup x = some c->X.env.cells.lookup x = some c
 has : ∀ x,((relabel scope X.env).names.lookup x = some .cell ∨ (relabel scope X.env).names.lookup x = some .free)->∃ c,cl.lookup x = some c
def eE : List (Str × NameKind)->List (Str × Addr)->List (Str × Addr)->List (Str × Addr)
 | [],_,cs=>cs
 | (n,k) :: r,cells,cs=>eE r cells (if k == .free then (match cells.lookup n with | some c=>(n,c) :: cs | none=>cs) else cs)
theorem nY {env : PySem.Env} : ∀ (names : List (Str × NameKind)) (cs : List (Str × Addr)),(∀ y ∈ names,y.2 = .free->(env.cells.lookup y.1).isSome = true) ->
    (do let mut cs:=cs
        for (name,kind) in names do
          if kind == .free then cs:=(name,← cellOf env name) :: cs
        return cs : Sem (List (Str × Addr))) = pure (eE names env.cells cs):=by
  intro names
  induction names with
  | nil=>intro cs _; rfl
  | cons y r ih =>
    intro cs h
    obtain ⟨n,k⟩:=y
    have ih':=fun cs=>ih cs fun y hy=>h y (mZ _ hy)
    by_cases hk : k = .free
    . subst hk
      have hc:=h (n,.free) mX rfl
      cases q : env.cells.lookup n with
      | none=>rw [q] at hc; cases hc
      | some c =>
        have e1 : eE ((n,.free) :: r) env.cells cs = eE r env.cells ((n,c) :: cs):=by
          rw [eE,q]; rfl
        rw [e1,← ih' ((n,c) :: cs)]
        have e2 : cellOf env n = pure c:=by unfold cellOf; rw [q]
        simp only [List.forIn_cons,beq_self_eq_true,if_true,e2]
        rfl
    . have hb : (k == NameKind.free) = false:=by simpa using hk
      have e1 : eE ((n,k) :: r) env.cells cs = eE r env.cells cs:=by rw [eE,hb]; rfl
      rw [e1,← ih' cs]
      simp only [List.forIn_cons,hb,Bool.false_eq_true,if_false]
      rfl
theorem jf {cells : List (Str × Addr)} {x : Str} {c : Addr} : ∀ (names : List (Str × NameKind)) (cs : List (Str × Addr)),(∀ y d,cs.lookup y = some d->cells.lookup y = some d)->(eE names cells cs).lookup x = some c->cells.lookup x = some c
 | [],cs,h,e=>h x c e
 | (n,k) :: r,cs,h,e=>by
  rw [eE] at e
  refine jf r _ (fun y d q=>?_) e
  split at q
  ·split at q
   ·rename_i c' ec
    rw [List.lookup_cons] at q
    split at q
    ·rename_i hy
     cases q
     rw [eq_of_beq hy]; exact ec
    ·exact h y d q
   ·exact h y d q
  ·exact h y d q
theorem nZ {cells : List (Str × Addr)} {x : Str} : ∀ (names : List (Str × NameKind)) (cs : List (Str × Addr)),(cs.lookup x).isSome = true->((eE names cells cs).lookup x).isSome = true
 | [],cs,h=>h
 | (n,k) :: r,cs,h=>by
  rw [eE]
  refine nZ r _ ?_
  split
  ·split
   ·rw [List.lookup_cons]
    split
    ·rfl
    ·exact h
   ·exact h
  ·exact h
theorem jg {cells : List (Str × Addr)} {x : Str} : ∀ (names : List (Str × NameKind)) (cs : List (Str × Addr)),(x,NameKind.free) ∈ names->(cells.lookup x).isSome = true->((eE names cells cs).lookup x).isSome = true
 | (n,k) :: r,cs,hm,hc=>by
  rw [eE]
  rcases List.mem_cons.mp hm with e | e
  ·cases e
   refine nZ r _ ?_
   cases q : cells.lookup x with
   | none=>rw [q] at hc; cases hc
   | some c=>simp
  ·exact jg r _ e hc
theorem dm {α : Type} {x : Str} {k : α} : ∀ {l : List (Str × α)},l.lookup x = some k->(x,k) ∈ l
 | (n,j) :: r,h=>by
  rw [List.lookup_cons] at h
  split at h
  ·rename_i e
   cases h
   rw [eq_of_beq e]; exact mX
  ·exact mZ _ (dm h)
theorem cM {X : Cx} {scope : Scope} (h1 : ∀ y ∈ scope.names,y.2 ≠ .cell) (h2 : scope.kind = .function) (h3 : ∀ y ∈ scope.names,y.2 = .local->scope.names.lookup y.1 = some .local) (h4' : (scope.names.all fun y=>!(y.2 == NameKind.free) || (X.env.cells.lookup y.1).isSome) = true) :
  CompSc X scope (eE scope.names X.env.cells []):=by
 have h4 : ∀ y ∈ scope.names,y.2 = .free->(X.env.cells.lookup y.1).isSome = true:=fun y hy e=>by
  have:=List.all_eq_true.mp h4' y hy
  rw [e] at this
  simpa using this
 have frees : ∀ x,((relabel scope X.env).names.lookup x = some .cell ∨ (relabel scope X.env).names.lookup x = some .free)->(x,NameKind.free) ∈ scope.names:=fun x h=>by
  have : ∃ k,(x,k) ∈ (relabel scope X.env).names/\(k = .cell ∨ k = .free):=by
   rcases h with h | h
   ·exact ⟨_,dm h,.inl rfl⟩
   ·exact ⟨_,dm h,.inr rfl⟩
  obtain ⟨k,hm,hk⟩:=this
  obtain ⟨⟨n,j⟩,hj,e⟩:=List.mem_map.mp hm
  dsimp only at e
  split at e
  ·rename_i hc
   rw [Bool.and_eq_true,Bool.and_eq_true] at hc
   cases e
   rw [← eq_of_beq hc.1.1]; exact hj
  ·cases e
   rcases hk with rfl | rfl
   ·exact absurd rfl (h1 _ hj)
   ·exact hj
 exact ⟨nY scope.names [] h4,h1,h2,h3,fun x c e=>jf scope.names [] (fun y d q=>by cases q) e,fun x h=>by
  have:=jg (x:=x) scope.names [] (frees x h) (h4 _ (frees x h) rfl)
  exact Option.isSome_iff_exists.mp this⟩
theorem bv {scope : Scope} {cells : List (Str × Addr)} {x : Str} (h : (x,NameKind.free) ∈ scope.names) (hc : (cells.lookup x).isSome = true) : (eE scope.names cells []).lookup x = cells.lookup x:=by
 obtain ⟨c,e⟩:=Option.isSome_iff_exists.mp (jg (x:=x) scope.names [] h hc)
 rw [e,jf scope.names [] (fun y d q=>by cases q) e]
def nA (nT : Nat) (cap : List Nat) (σ : St) : St:=List.replicate nT none ++ cap.map fun i=>(σ[i]?).join
def bw (nT : Nat) (cap : List Nat) (ρ : Env) : Env:=List.replicate nT none ++ cap.map fun i=>match ρ[i]? with | some (some (d,_))=>some (d,false) | _=>none
theorem pD {α : Type} {nT : Nat} {cap : List Nat} {f : Nat->Option α} {j : Nat} {v : α} (h : (List.replicate nT none ++ cap.map f)[j]? = some (some v)) : ∃ k i,j = nT + k/\cap[k]? = some i/\f i = some v:=by
 by_cases hj : j < nT
 ·rw [List.getElem?_append_left (by simpa using hj),List.getElem?_replicate,if_pos hj] at h
  cases h
 ·rw [List.getElem?_append_right (by simpa using Nat.not_lt.mp hj),List.length_replicate,List.getElem?_map] at h
  obtain ⟨i,h1,h2⟩:=oY h
  exact ⟨j - nT,i,by omega,h1,h2⟩
theorem zY {α : Type} {nT : Nat} {cap : List Nat} {f : Nat->Option α} {k i : Nat} {v : α} (h1 : cap[k]? = some i) (h2 : f i = some v) : (List.replicate nT none ++ cap.map f)[nT + k]? = some (some v):=by
 rw [List.getElem?_append_right (by simp),List.length_replicate,List.getElem?_map,Nat.add_sub_cancel_left,h1]
 simp [h2]
theorem RepE.caps {K : PySem.W.Frag} {B : Hp} {σ : St} {ρ : Env} {nT : Nat} {cap : List Nat} (h : RepE K B σ ρ) : RepE K B (nA nT cap σ) (bw nT cap ρ):=⟨h.tb,fun j d b q=>by
 obtain ⟨k,i,rfl,h1,h2⟩:=pD q
 split at h2
 ·rename_i d' b' e
  cases h2
  obtain ⟨v,g1,g2⟩:=h.at' i _ _ e
  exact ⟨v,zY h1 (by rw [g1]; rfl),g2⟩
 ·cases h2⟩
def dS (tg : FG) (c : FT) (fe : FE) (ρ : Env) : List D->Option (List D)
 | []=>some []
 | d :: r=>(tg d ρ).bind fun ρ1=>(c ρ1).bind fun b=>if b = true then (fe ρ1).bind fun x=>(dS tg c fe ρ r).map (x.1 :: ·) else dS tg c fe ρ r
@[simp] theorem CY (tg : FG) (c : FT) (fe : FE) (ρ : Env) : dS tg c fe ρ [] = some []:=by rw [dS]
@[simp] theorem tN (tg : FG) (c : FT) (fe : FE) (ρ : Env) (d : D) (r : List D) : dS tg c fe ρ (d :: r) = (tg d ρ).bind fun ρ1=>(c ρ1).bind fun b=>if b = true then (fe ρ1).bind fun x=>(dS tg c fe ρ r).map (x.1 :: ·) else dS tg c fe ρ r:=by rw [dS]
@[simp] def bK (fi : FA) (nT : Nat) (cap : List Nat) (tg : FG) (c : FT) (fe : FE) : FE:=fun ρ=>(fi ρ).bind fun items=>if items.length<=sizeLine then (dS tg c fe (bw nT cap ρ) items).map fun ds=>(.lst ds,true) else none
def TGE (K : PySem.W.Frag) (n : Nat) (tg : FG) (g : TG) : Prop:=∀ (B H : Hp) (σ : St) (ρ ρ1 : Env) (v : V) (d : D) (Q : St->Hp->Prop),(∀ i,i < n->ρ[i]? = some none)->RepE K B σ ρ->aE B H->Is K B v d->tg d ρ = some ρ1 ->
 ρ.length = σ.length->(∀ σ1,RepE K B σ1 ρ1->(∀ B',RepE K B' σ ρ->RepE K B' σ1 ρ)->ρ.length = σ1.length->Q σ1 H)->g v σ H Q
theorem bN {K : PySem.W.Frag} {n i : Nat} (hi : i < n) : TGE K n (tgN i) (k9 i):=by
 intro B H σ ρ ρ1 v d Q cl rep s h e hl k
 cases e
 have hiσ : i < σ.length:=by
  have:=(List.getElem?_eq_some_iff.mp (cl i hi)).1
  omega
 refine k _ ⟨rep.tb,fun j e b q=>?_⟩ ?_ (by simpa using hl)
 ·rcases bq q with ⟨rfl,p⟩ | ⟨ne,p⟩
  ·cases p
   exact ⟨v,by simp [hiσ],h⟩
  ·obtain ⟨w,h1,h2⟩:=rep.at' j e b p
   exact ⟨w,by rw [List.getElem?_set_ne ne]; exact h1,h2⟩
 ·intro B' rep'
  refine ⟨rep'.tb,fun j e b q=>?_⟩
  obtain ⟨w,h1,h2⟩:=rep'.at' j e b q
  have ne : i ≠ j:=fun z=>by subst z; rw [cl i hi] at q; cases q
  exact ⟨w,by rw [List.getElem?_set_ne ne]; exact h1,h2⟩
def JC (X : Cx) (ifs : List Expr) (c : FT) : Prop:=∀ (pins : List (Addr × Obj)) (s : Shared) (σ : St) (H : Hp) (Q : Bool->Hp->Prop),Inv X pins σ H s->tDT X.K c σ H Q ->
 wpAny (model X.prog X.w) X.A (forIn ifs true fun c r=>if r = true then do let ok ← isTrue c X.env (eval c X.env); pure (ForInStep.yield ok) else pure (ForInStep.yield r)) (TP X pins σ Q) X.xe s
@[simp] def iq : FT:=fun _=>some true
theorem lE {X : Cx} : JC X [] iq:=by
 intro pins s σ H Q I h
 obtain ⟨B,ρ,c,sB,rep,e,q⟩:=h
 cases e
 exact wpAny_tests_nil ⟨H,I,q H (.refl H)⟩
theorem eZ {X : Cx} {e : Expr} {f : FT} (h : JT X e f) : JC X [e] f:=fun pins s σ H Q I q=>wpAny_tests_one (h pins s σ H Q I q)
theorem lF {X : Cx} (hcalm : X.calm = true) {tg iter elt : Expr} {ifs : List Expr} {scope : Scope} {pos : Pos} {cl : List (Str × Addr)} {N' : List Str} {nT : Nat} {cap : List Nat} {tgF : FG} {g : TG} {fc : FT} {fe : FE}
  (S : CompSc X scope cl) (cp : Caps X N' scope cl nT cap)
  (hg : ∀ C s H fp,PG (gl X N' scope cl C s H fp) tg g) (htg : TGE X.K nT tgF g) (hc : ∀ C s H fp,JC (gl X N' scope cl C s H fp) ifs fc) (he : ∀ C s H fp,JE (gl X N' scope cl C s H fp) elt fe)
  {pins : List (Addr × Obj)} {σ : St} {H2 : Hp} {s2 : Shared} {it : Addr} {fp : List Addr} {tn : Nat->Heap->Prop} {J : It} {N1 : Hp} {ρ : Env} {items ds : List D} {E : Value->Shared->Prop}
  (I2 : Inv X pins σ H2 s2) (T : Turn X.prog X.w X.K tg J fp it tn) (st2 : tn 0 s2.heap) (f2 : ∀ b ∈ fp,jE X pins H2 b)
  (rep : RepE X.K N1 σ ρ) (sN : aE N1 H2) (J1 : pA X.K J N1 items) (hsz : items.length<=sizeLine) (ec : dS tgF fc fe (bw nT cap ρ) items = some ds) {RR : Value->Addr->Result->Shared->Prop}
  (hRR : ∀ (Dd C : Addr) (s' : Shared) (H' N : Hp) (vs : List V) (m : Str->Option Value),H2 Dd = none->Inv X pins σ H' s'->s'.heap.Ns C m->jE X pins H' C->Ext N1 N H2 H'->N Dd = some (.lst vs)->IsL X.K N vs ds->RR (.ref Dd) C (.ok .next) s') :
  wpAny (model X.prog X.w) X.A (newList []) (fun acc s₃=>wpAny (model X.prog X.w) X.A (newFunctionEnv scope X.env.globals cl [] X.env.qual none .none (some X.env)) (fun cenv s₄ =>
   codeAny (model X.prog X.w) X.A (.compStart (.ListComp elt [⟨tg,iter,ifs,0⟩] scope pos) 0 (.ref it) acc { cenv with scope:=relabel scope X.env }) (RR acc cenv.locals) s₄) E s₃) E s2:=by
 refine wpAny_newObj_type (wpAny_newFunctionEnv S.nocell (by intro y hy; simp at hy) (fun h₁ hns₁ hsb₁=>?_) S.kind)
 dsimp only at hns₁ hsb₁ ⊢
 have hD : H2 s2.heap.objs.size = none:=I2.fresh
 have I3 : Inv X pins σ (upd H2 s2.heap.objs.size (.lst [])) { s2 with heap:=s2.heap.push { cls:=.type "list",dict:=none,data:=.seq ([] : List Value).toArray } }:=I2.lnew (t':=s2.toks) (ys:=[]) (its:=[]) .nil (Nat.zero_le _)
 generalize hH3 : s2.heap.push { cls:=.type "list",dict:=none,data:=.seq ([] : List Value).toArray } = g3 at hns₁ hsb₁ I3 ⊢
 have hC : g3.objs.size = s2.heap.objs.size + 1:=by rw [← hH3,Heap.size_push]
 have old2 : ∀ b o,s2.heap.get? b = some o->g3.get? b = some o:=fun b o e=>hH3 ▸ Heap.get?_push_of_some _ e
 have old3 : ∀ b o,g3.get? b = some o->h₁.get? b = some o:=fun b o e=>hsb₁.extBut b o (Nat.ne_of_lt (Heap.lt_size e)) (Heap.get?_push_of_some _ e)
 have neC : ∀ b o,g3.get? b = some o->b ≠ g3.objs.size:=fun b o e=>Nat.ne_of_lt (Heap.lt_size e)
 have fpo : ∀ b ∈ fp,∃ o,s2.heap.get? b = some o:=fun b hb=>let ⟨o,e,_⟩:=T.obj 0 s2.heap st2 b hb; ⟨o,e⟩
 have fpD : ∀ b ∈ fp,b ≠ s2.heap.objs.size:=fun b hb=>let ⟨o,e⟩:=fpo b hb; Nat.ne_of_lt (Heap.lt_size e)
 have fpC : ∀ b ∈ fp,b ≠ g3.objs.size:=fun b hb=>let ⟨o,e⟩:=fpo b hb; neC b o (old2 b o e)
 have cellC : ∀ x c,X.env.cells.lookup x = some c->c ≠ g3.objs.size:=fun x c e=>by
  obtain ⟨v,z⟩:=I3.cell x c e
  exact Nat.ne_of_lt z.lt
 have hHC : (upd H2 s2.heap.objs.size (HO.lst [])) g3.objs.size = none:=I3.hok.fresh (Nat.le_refl _)
 have stk : ∀ b ∈ frs X.stack,∃ o,s2.heap.get? b = some o:=fun b hb=>by
  obtain ⟨_,o,ho,_⟩:=(I2.stack).mem hb
  exact ⟨o,ho⟩
 -- the block's context
 have ok : (gl X N' scope cl g3.objs.size { s2 with heap:=g3 } (upd H2 s2.heap.objs.size (.lst [])) fp).Ok:=by
  refine ⟨I2.ok.mod, ?_,I2.ok.glob,I2.ok.blt,Nat.le_refl _,fun x y c e1 e2=>I2.ok.inj x y c (S.sub x c e1) (S.sub y c e2),fun x h=>S.has x h,fun x c h=>absurd h Bool.false_ne_true,I2.ok.hd,I2.ok.frames,.inl rfl,fun b hb=>⟨fpC b hb,fun x c e=>(f2 b hb).2.2.2.2.1 x c (S.sub x c e)⟩,fun b o e=>?_, ?_,fun b o e hb=>?_,fun b hb hz=>?_,I3.stack,fun b hb=>I3.stkFree b hb⟩
  ·show (relabel scope X.env).kind = .function
   exact S.kind
  ·exact I3.bs b o e
  ·exact Nat.le_trans I3.ok.bsz I3.sz
  ·have h1:=(f2 b hb).2.2.2.1
   rcases h1 with z | z
   ·exact I2.ok.noex b o e z
   ·exact absurd (Nat.lt_of_lt_of_le (Heap.lt_size e) (Nat.le_trans I2.ok.bsz z)) (Nat.lt_irrefl _)
  ·rcases List.mem_cons.mp (I2.stkSub b hz) with z | z
   ·exact (f2 b hb).2.1 z
   ·exact (f2 b hb).2.2.1 z
 have I4 : Inv (gl X N' scope cl g3.objs.size { s2 with heap:=g3 } (upd H2 s2.heap.objs.size (.lst [])) fp) [] (nA nT cap σ) (upd H2 s2.heap.objs.size (.lst [])) { s2 with heap:=h₁,toks:=s2.toks + ([] : List (Str × Value)).length }:=by
  refine ⟨ok,rfl,I2.bare,Un.kept old3,⟨_,hns₁,fun j x v e1 e2 e3=>?_⟩,fun x c e=>?_,hHC,fun x c e=>I3.freeC x c (S.sub x c e),fun p hp=>by simp at hp,I3.hok.kept old3, ?_⟩
  ·obtain ⟨k,i,rfl,h1,h2⟩:=pD e2
   obtain ⟨y,g1,g2,g3',g4,g5⟩:=cp.get h1
   have e1' : N'[nT + k]? = some x:=e1
   rw [g1] at e1'; cases e1'
   have h2' : σ[i]? = some (some v):=by
    cases q : σ[i]? with
    | none=>rw [q] at h2; cases h2
    | some z=>rw [q] at h2; have : z = some v:=h2; rw [this]
   obtain ⟨m,_,hl⟩:=I3.loc
   obtain ⟨u,r,l⟩:=hl i _ v g2 h2' (g3'.elim (fun z=>.inr (.inl z)) fun z=>.inr (.inr z))
   refine ⟨u,r, ?_⟩
   rcases l with ⟨l,_⟩ | ⟨_,c,lc,ic⟩
   ·rcases g3' with z | z <;> (rw [z] at l; cases l)
   ·refine .inr ⟨g4,c,by show cl.lookup _ = some c; rw [g5]; exact lc, ?_⟩
    obtain ⟨o,ho,hd⟩:=ic
    exact ⟨o,old3 _ _ ho,hd⟩
  ·obtain ⟨v,o,ho,hd⟩:=I3.cell x c (S.sub x c e)
   exact ⟨v,o,old3 _ _ ho,hd⟩
  ·show (nA nT cap σ).length = N'.length
   unfold nA
   rw [cp.len]; simp
 have fpX : ∀ {H' : Hp},(∀ b ∈ fp,H' b = none)->∀ b ∈ fp,jE (gl X N' scope cl g3.objs.size { s2 with heap:=g3 } (upd H2 s2.heap.objs.size (.lst [])) fp) [] H' b:=fun hn b hb =>
  ⟨hn b hb,fpC b hb,ok.exfs b hb,.inl hb,fun x c e=>(f2 b hb).2.2.2.2.1 x c (S.sub x c e),fun p hp=>by simp at hp⟩
 have clean : ∀ i,i < nT->(bw nT cap ρ)[i]? = some none:=fun i hi=>by
  unfold bw
  rw [List.getElem?_append_left (by simpa using hi),List.getElem?_replicate,if_pos hi]
 have hND : N1 s2.heap.objs.size = none:=sN.free hD
 have loop : ∀ s₃ : Shared,s₃ = { s2 with heap:=h₁,toks:=s2.toks + ([] : List (Str × Value)).length } ->
   codeAny (model X.prog X.w) X.A (.compLoop (.ListComp elt [⟨tg,iter,ifs,0⟩] scope pos) 0 (.ref it) (.ref s2.heap.objs.size) (compEnvC scope cl g3.objs.size X.env)) (RR (.ref s2.heap.objs.size) g3.objs.size) s₃:=by
  rintro s₃ rfl
  refine pC (fun n s'=>∃ (i : Nat) (N : Hp) (vs : List V) (es : List D) (σ' : St) (H' : Hp),Inv (gl X N' scope cl g3.objs.size { s2 with heap:=g3 } (upd H2 s2.heap.objs.size (.lst [])) fp) [] σ' H' s'/\tn i s'.heap/\(∀ b ∈ fp,H' b = none) /\
   n = items.length - i/\i<=items.length/\RepE X.K N1 σ' (bw nT cap ρ)/\(bw nT cap ρ).length = σ'.length/\Ext N1 N H2 H'/\N s2.heap.objs.size = none/\H' s2.heap.objs.size = some (.lst vs)/\vs.length<=i/\IsL X.K N vs es /\
   ∃ r,dS tgF fc fe (bw nT cap ρ) (items.drop i) = some r/\es ++ r = ds) ?_ items.length ?_
  ·rintro n s' ⟨i,N,vs,es,σ',H',I',ti,hn,rfl,hi,rp,hlen,x,hN0,hH0,hvl,hvs,r,er,eds⟩
   have sH : aE N1 H':=x.bn.trans x.nh
   by_cases hlt : i < items.length
   ·obtain ⟨j1,_⟩:=J1 i H' sH
    obtain ⟨go,yl⟩:=j1 items[i] (by simp [hlt])
    rw [List.drop_eq_getElem_cons hlt] at er
    unfold dS at er
    obtain ⟨ρ1,e1,er⟩:=oX er
    obtain ⟨b,e2,er⟩:=oX er
    refine thn (T.item (gl X N' scope cl g3.objs.size { s2 with heap:=g3 } (upd H2 s2.heap.objs.size (.lst [])) fp) rfl rfl rfl hcalm i [] s' σ' H' (fun _ _=>False) I' (fpX hn) ti go) fun q s4 hq=>?_
    obtain ⟨u,rfl,hq⟩:=hq
    refine thn hq fun _ s5 hq=>?_
    obtain ⟨xv,H5,I5,rx,y5,t5,fr5⟩:=hq
    obtain ⟨N5,x5,i5⟩:=yl xv H5 y5
    -- all that may be named at this turn
    have x6 : Ext N (join N N5) H' H5:=by
     refine ⟨x5.hh,cL,fun a o e=>?_,fun a o e=>?_⟩
     ·cases z : N a with
      | some u'=>rw [cL _ _ z] at e; cases e; exact x5.hh _ _ (x.nh _ _ z)
      | none=>rw [cB z] at e; exact x5.nh _ _ e
     ·cases z : N a with
      | some u'=>rw [cL _ _ z] at e; cases e; exact .inl rfl
      | none =>
       rw [cB z] at e
       rcases x5.new a o e with z' | z'
       ·rw [x.bn _ _ z'] at z; cases z
       ·exact .inr z'
    have c5 : aE N5 (join N N5):=fun a o e=>by
     rcases x5.new a o e with z | z
     ·exact cL _ _ (x.bn _ _ z)
     ·rw [cB (x.nh.free z)]; exact e
    have hN5 : (join N N5) s2.heap.objs.size = none:=by
     cases z : join N N5 s2.heap.objs.size with
     | none=>rfl
     | some o =>
      rcases x6.new _ _ z with z' | z'
      ·rw [hN0] at z'; cases z'
      ·rw [hH0] at z'; cases z'
    have fin : ∀ (s9 : Shared) (σ9 : St) (H9 N9 : Hp) (vs9 : List V) (es9 : List D),Inv (gl X N' scope cl g3.objs.size { s2 with heap:=g3 } (upd H2 s2.heap.objs.size (.lst [])) fp) (jF fp s5.heap) σ9 H9 s9 ->
      RepE X.K N1 σ9 (bw nT cap ρ)->(bw nT cap ρ).length = σ9.length->Ext N1 N9 H2 H9->N9 s2.heap.objs.size = none->H9 s2.heap.objs.size = some (.lst vs9)->vs9.length<=i + 1->IsL X.K N9 vs9 es9 ->
      (∃ r,dS tgF fc fe (bw nT cap ρ) (items.drop (i + 1)) = some r/\es9 ++ r = ds)->∃ m,m < items.length - i/\∃ (i : Nat) (N : Hp) (vs : List V) (es : List D) (σ' : St) (H' : Hp),Inv (gl X N' scope cl g3.objs.size { s2 with heap:=g3 } (upd H2 s2.heap.objs.size (.lst [])) fp) [] σ' H' s9/\tn i s9.heap/\(∀ b ∈ fp,H' b = none) /\
       m = items.length - i/\i<=items.length/\RepE X.K N1 σ' (bw nT cap ρ)/\(bw nT cap ρ).length = σ'.length/\Ext N1 N H2 H'/\N s2.heap.objs.size = none/\H' s2.heap.objs.size = some (.lst vs)/\vs.length<=i/\IsL X.K N vs es /\
       ∃ r,dS tgF fc fe (bw nT cap ρ) (items.drop i) = some r/\es ++ r = ds:=fun s9 σ9 H9 N9 vs9 es9 I9 rp9 l9 x9 n9 h9 v9 i9 er9=>by
     refine ⟨items.length - (i + 1),by omega,i + 1,N9,vs9,es9,σ9,H9,I9.pins_of fun p hp=>by simp at hp,T.keep _ _ _ t5 fun b hb o e=>(I9.pin (b,o) (mY _ (fQ hb e))).1,fun b hb=>?_,rfl,hlt,rp9,l9,x9,n9,h9,v9,i9,er9⟩
     obtain ⟨o,e,d⟩:=T.obj _ _ t5 b hb
     exact (I9.pin (b,o) (mY _ (fQ hb e))).2.1
    have I5' : Inv (gl X N' scope cl g3.objs.size { s2 with heap:=g3 } (upd H2 s2.heap.objs.size (.lst [])) fp) (jF fp s5.heap) σ' H5 s5:=by
     have:=I5.pinned (fpX fr5) (T.obj _ _ t5)
     rwa [List.nil_append] at this
    have sN5 : aE (join N N5) H5:=x6.nh
    refine thn (hg _ _ _ _ _ s5 σ' H5 xv u (fun σ6 H6=>H6 = H5/\RepE X.K (join N N5) σ6 ρ1/\RepE X.K N1 σ6 (bw nT cap ρ)/\(bw nT cap ρ).length = σ6.length) I5' rx ?_) fun _ s6 ⟨σ6,H6,I6,eH,rp6,rq6,l6⟩=>?_
    ·refine htg (join N N5) H5 σ' (bw nT cap ρ) ρ1 xv items[i] _ clean (rp.mono (x.bn.trans cL)) sN5 (i5.mono c5) e1 hlen fun σ1 r1 r2 l1=>⟨rfl,r1,r2 N1 rp,l1⟩
    ·subst eH
     have hH5 : H6 s2.heap.objs.size = some (.lst vs):=x5.hh _ _ hH0
     refine thn (hc _ _ _ _ _ s6 σ6 H6 (fun c H7=>c = b/\aE H6 H7) I6 ⟨join N N5,ρ1,b,sN5,rp6,e2,fun H7 h7=>⟨rfl,h7⟩⟩) fun ok s7 ⟨H7,I7,eb,h7⟩=>?_
     subst eb
     have x7 : Ext N1 (join N N5) H2 H7:=(x.trans x6).trans (.grow sN5 h7)
     cases ok with
     | false =>
      rw [if_neg (by decide)] at er ⊢
      exact fin s7 σ6 H7 (join N N5) vs es I7 rq6 l6 x7 hN5 (h7 _ _ hH5) (Nat.le_succ_of_le hvl) (hvs.mono cL) ⟨r,er,eds⟩
     | true =>
      rw [if_pos rfl] at er ⊢
      obtain ⟨y,e3,er⟩:=oX er
      obtain ⟨r',e4,er⟩:=oY er
      subst er
      refine thn (he _ _ _ _ _ s7 σ6 H7 (fun v H8=>∃ N8,Ext (join N N5) N8 H7 H8/\Is X.K N8 v y.1) I7 ⟨join N N5,ρ1,y.1,y.2,sN5.trans h7,rp6,e3,fun v H8 N8 x8 i8 _=>⟨N8,x8,i8⟩⟩) fun w8 s8 ⟨v8,H8,I8,r8,N8,x8,i8⟩=>?_
      have hH8 : H8 s2.heap.objs.size = some (.lst vs):=x8.hh _ _ (h7 _ _ hH5)
      refine thn (nU _ s8 σ6 H8 (.ref s2.heap.objs.size) [v8] (.ref s2.heap.objs.size) [w8] (fun _ H9=>H9 = upd H8 s2.heap.objs.size (.lst (vs ++ [v8]))) I8 rfl (.cons r8 .nil) ⟨_,vs,v8,rfl,rfl,hH8,by omega,rfl⟩) fun _ s9 ⟨_,H9,I9,_,e9⟩=>?_
      subst e9
      have hN8 : N8 s2.heap.objs.size = none:=by
       cases z : N8 s2.heap.objs.size with
       | none=>rfl
       | some o =>
        rcases x8.new _ _ z with z' | z'
        ·rw [hN5] at z'; cases z'
        ·rw [h7 _ _ hH5] at z'; cases z'
      refine fin s9 σ6 _ N8 (vs ++ [v8]) (es ++ [y.1]) I9 rq6 l6 ((x7.trans x8).upd hD hN8) hN8 ax (by rw [List.length_append,List.length_singleton]; omega) ((hvs.mono (cL.trans x8.bn)).append (.cons i8 .nil)) ⟨r',e4,by rw [List.append_assoc]; exact eds⟩
   ·have ei : i = items.length:=by omega
    subst ei
    rw [List.drop_eq_nil_of_le (Nat.le_refl _)] at er
    cases er
    rw [List.append_nil] at eds
    subst eds
    refine thn (T.done (gl X N' scope cl g3.objs.size { s2 with heap:=g3 } (upd H2 s2.heap.objs.size (.lst [])) fp) rfl rfl rfl hcalm items.length [] s' σ' H' (fun _ _=>False) I' (fpX hn) ti ((J1 _ H' sH).2 (Nat.le_refl _))) fun q s4 ⟨hq,I9⟩=>?_
    subst hq
    obtain ⟨m,hm,_⟩:=I9.loc
    have u1 : Un (frs X.stack) fp H2 (upd H2 s2.heap.objs.size (.lst [])) s2.heap g3:=Un.laid old2 (Nat.le_refl _) hD
    have x9 : Ext N1 (upd N s2.heap.objs.size (.lst vs)) H2 H':=by
     refine ⟨x.hh,x.bn.trans fun a o e=>by rw [a9 (fun z=>by subst z; rw [hN0] at e; cases e)]; exact e,fun a o e=>?_,fun a o e=>?_⟩
     ·by_cases z : a = s2.heap.objs.size
      ·subst z; rw [ax] at e; cases e; exact hH0
      ·rw [a9 z] at e; exact x.nh _ _ e
     ·by_cases z : a = s2.heap.objs.size
      ·subst z; exact .inr hD
      ·rw [a9 z] at e; exact x.new _ _ e
    refine hRR s2.heap.objs.size g3.objs.size s4 H' (upd N s2.heap.objs.size (.lst vs)) vs m hD (I2.call' (ch:=fp) I9.os (u1.trans I9.base) I9.hok I9.bare fun b hb=>⟨(f2 b hb).2.2.2.1,(f2 b hb).2.1,(f2 b hb).2.2.2.2.1,(f2 b hb).2.2.2.2.2⟩) hm (I2.fpOk (by rw [hC]; exact Nat.le_succ _) I9.free) x9 ax
     (hvs.mono fun a o e=>by rw [a9 (fun z=>by subst z; rw [hN0] at e; cases e)]; exact e)
  ·refine ⟨0,N1,[],[],nA nT cap σ,_,I4,T.keep _ _ _ st2 fun b hb o e=>old3 _ _ (old2 _ _ e),fun b hb=>?_,rfl,Nat.zero_le _,rep.caps, ?_,(Ext.refl sN).upd hD hND,hND,ax,Nat.zero_le _,.nil,ds,by simpa using ec,rfl⟩
   ·rw [a9 (fpD b hb)]; exact (f2 b hb).1
   ·unfold bw nA; simp
 exact codeAny_compStart_list (loop _ rfl) (T.self _ 0 _ _ _ (T.keep _ _ _ st2 fun b hb o e=>old3 _ _ (old2 _ _ e)) (loop _ rfl))
theorem eJ {X : Cx} (hcalm : X.calm = true) {tg iter elt : Expr} {ifs : List Expr} {scope : Scope} {pos : Pos} {cl : List (Str × Addr)} {N' : List Str} {nT : Nat} {cap : List Nat} {fi : FA} {tgF : FG} {g : TG} {fc : FT} {fe : FE}
  (S : CompSc X scope cl) (cp : Caps X N' scope cl nT cap) (hi : JI X tg iter fi)
  (hg : ∀ C s H fp,PG (gl X N' scope cl C s H fp) tg g) (htg : TGE X.K nT tgF g) (hc : ∀ C s H fp,JC (gl X N' scope cl C s H fp) ifs fc) (he : ∀ C s H fp,JE (gl X N' scope cl C s H fp) elt fe)
  (hs : ∀ x,foldedSetIterable iter X.env x = pure x:=by intro _; rfl) :
  JE X (.ListComp elt [⟨tg,iter,ifs,0⟩] scope pos) (bK fi nT cap tgF fc fe):=by
 intro pins s σ H Q I h
 obtain ⟨B,ρ,d,b,sB,rep,e,q⟩:=h
 obtain ⟨items,ei,e⟩:=oX e
 have hsz : items.length<=sizeLine:=Decidable.byContradiction fun z=>by rw [if_neg z] at e; cases e
 rw [if_pos hsz] at e
 obtain ⟨ds,ec,e⟩:=oY e
 cases e
 rw [eval_ListComp]
 refine wpAny_comprehension_free (use:=none) rfl hs S.clos S.kind S.names (thn (hi pins s σ H (fun J H2=>∃ N1,Ext B N1 H H2/\pA X.K J N1 items) I ⟨B,ρ,items,sB,rep,ei,fun J H2 N1 x1 j1=>⟨N1,x1,j1⟩⟩) fun v s1 h1=>thn h1 fun itv s2 h2=>?_)
 obtain ⟨it,fp,tn,J,H2,e,I2,T,st2,f2,N1,x1,j1⟩:=h2
 subst e
 refine lF hcalm S cp hg htg hc he I2 T st2 f2 (rep.mono x1.bn) x1.nh j1 hsz ec (RR:=fun acc C=>compPost (model X.prog X.w) X.A X.xe none (EP X pins σ Q) acc C) ?_
 intro Dd C s' H' N vs m hD I' hm fC x hN hl
 refine ⟨m,hm,fun h' hs'=>⟨.ref Dd,H', ?_,rfl,q _ H' N (x1.trans x) (.lst (SqL.of hN) hl) fun _=>⟨Dd,vs,ds,rfl,rfl,x1.hh.free hD,hN,hl⟩⟩⟩
 obtain ⟨c0,c1,c2,c3,c4,c5⟩:=fC
 exact I'.turned (t':=s'.toks) (fun b o hb e=>(hs'.2 b hb).trans e) c0 c1 c3 c4 c5
theorem fR {X : Cx} (hcalm : X.calm = true) {tg iter elt : Expr} {ifs : List Expr} {scope : Scope} {pos spos py : Pos} {cl : List (Str × Addr)} {N' : List Str} {nT : Nat} {cap : List Nat} {fi : FA} {tgF : FG} {g : TG} {fc : FT} {fe : FE} {y : Str} {i : Nat}
  (hN : X.N.Nodup) (hi' : X.N[i]? = some y) (hy : X.env.kindOf y = some .local)
  (hsw : swapsWith (.ListComp elt [⟨tg,iter,ifs,0⟩] scope pos) (some (.Name y py)) spos.line X.env = pure true)
  (S : CompSc X scope cl) (cp : Caps X N' scope cl nT cap) (hi : JI X tg iter fi)
  (hg : ∀ C s H fp,PG (gl X N' scope cl C s H fp) tg g) (htg : TGE X.K nT tgF g) (hc : ∀ C s H fp,JC (gl X N' scope cl C s H fp) ifs fc) (he : ∀ C s H fp,JE (gl X N' scope cl C s H fp) elt fe)
  (hs : ∀ x,foldedSetIterable iter X.env x = pure x:=by intro _; rfl) :
  JS X (.Assign [.Name y py] (.ListComp elt [⟨tg,iter,ifs,0⟩] scope pos) spos) (ba i (bK fi nT cap tgF fc fe)):=by
 intro pins s σ H E I h
 have h2 : wf (tD X.K (bK fi nT cap tgF fc fe)) (k9 i) E σ H:=uV h
 obtain ⟨B,ρ,d,b,sB,rep,e,q⟩:=h2
 obtain ⟨items,ei,e⟩:=oX e
 have hsz : items.length<=sizeLine:=Decidable.byContradiction fun z=>by rw [if_neg z] at e; cases e
 rw [if_pos hsz] at e
 obtain ⟨ds,ec,e⟩:=oY e
 cases e
 rw [exec_Assign_Name_used _ _ _ _ hsw]
 refine wX (wpAny_standAt (wX ?_))
 show wpAny _ _ (do let _ ← comprehension (.ListComp elt [⟨tg,iter,ifs,0⟩] scope pos) scope X.env _ (newList []) false (eval iter X.env) (some (assign (.Name y py) X.env))) _ _ s
 refine wX (wpAny_mono (wpAny_comprehension_free (use:=some (assign (.Name y py) X.env)) (Q:=fun _ s'=>SP X pins E .next s') rfl hs S.clos S.kind S.names
  (thn (hi pins s σ H (fun J H2=>∃ N1,Ext B N1 H H2/\pA X.K J N1 items) I ⟨B,ρ,items,sB,rep,ei,fun J H2 N1 x1 j1=>⟨N1,x1,j1⟩⟩) fun v s1 h1=>thn h1 fun itv s2 h2=>?_)) (fun _ s' hq=>wY (wY hq)) fun _ _ e=>e)
 obtain ⟨it,fp,tn,J,H2,e,I2,T,st2,f2,N1,x1,j1⟩:=h2
 subst e
 refine lF hcalm S cp hg htg hc he I2 T st2 f2 (rep.mono x1.bn) x1.nh j1 hsz ec (RR:=fun acc C=>compPost (model X.prog X.w) X.A X.xe (some (assign (.Name y py) X.env)) (fun _ s'=>SP X pins E .next s') acc C) ?_
 intro Dd C s' H' N vs m hD I' hm fC x hN' hl
 show wpAny _ _ (assign (.Name y py) X.env (.ref Dd)) _ _ s'
 obtain ⟨c0,c1,c2,c3,c4,c5⟩:=fC
 refine wpAny_assign_Name (nK I' hN hi' (.inl hy) (r:=show aN (.ref Dd) (.ref Dd) from rfl) (fun s9 I9 ⟨a,sb,ha⟩=>?_) (.inr hy))
 have nC : C ≠ a:=by
  rcases ha with z | z
  ·rw [z]; exact c1
  ·exact fun w=>c4 y a z w.symm
 refine ⟨m,hm.sameBut sb nC,fun h' hs'=>⟨_,H', ?_,q _ H' N (x1.trans x) (.lst (SqL.of hN') hl) fun _=>⟨Dd,vs,ds,rfl,rfl,x1.hh.free hD,hN',hl⟩⟩⟩
 exact I9.turned (t':=s9.toks) (fun b o hb e=>(hs'.2 b hb).trans e) c0 c1 c3 c4 c5
section
variable {X : Cx} {a b c e : Expr} {pos : Pos}
theorem PE.to {t t' : TE} (h : PE X e t) (k : ∀ σ H Q,t' σ H Q->t σ H Q) : PE X e t':=fun pins s σ H Q I q=>h pins s σ H Q I (k σ H Q q)
theorem PT.to {t t' : TT} (h : PT X e t) (k : ∀ σ H Q,t' σ H Q->t σ H Q) : PT X e t':=fun pins s σ H Q I q=>h pins s σ H Q I (k σ H Q q)
theorem PW.to {t t' : TT} (h : PW X e t) (k : ∀ σ H Q,t' σ H Q->t σ H Q) : PW X e t':=fun wh pins s σ H Q I q=>h wh pins s σ H Q I (k σ H Q q)
theorem PA.to {es : List Expr} {t t' : TA} (h : PA X es t) (k : ∀ σ H Q,t' σ H Q->t σ H Q) : PA X es t':=fun pos pins s σ H Q I q=>h pos pins s σ H Q I (k σ H Q q)
theorem PS.to {st : Stmt} {t t' : TS} (h : PS X st t) (k : ∀ E σ H,t' E σ H->t E σ H) : PS X st t':=fun pins s σ H E I q=>h pins s σ H E I (k E σ H q)
theorem PSs.to {st : List Stmt} {t t' : TS} (h : PSs X st t) (k : ∀ E σ H,t' E σ H->t E σ H) : PSs X st t':=fun pins s σ H E I q=>h pins s σ H E I (k E σ H q)
theorem PI.to {tg it : Expr} {t t' : TI} (h : PI X tg it t) (k : ∀ σ H Q,t' σ H Q->t σ H Q) : PI X tg it t':=fun pins s σ H Q I q=>h pins s σ H Q I (k σ H Q q)
theorem xR {K : PySem.W.Frag} {d : D} {v : V} (i : ∀ B,Is K B v d) {σ : St} {H : Hp} {Q : VK} (h : tD K (fC d) σ H Q) : tC v σ H Q:=by
 obtain ⟨B,ρ,d',b,s,r,e,q⟩:=h
 cases e
 exact q.one s (i B)
theorem ac (i : Nat) {x : Str} (hN : X.N[i]? = some x:=by rfl) (hv : Vis X.env.scope x:=by first | exact Or.inl rfl | exact Or.inr (Or.inl rfl) | exact Or.inr (Or.inr rfl)) (hd : (x == ("__debug__" : Str)) = false:=by decide)
  (hcd : (x == ("__classdict__" : Str)) = false:=by decide) : JE X (.Name x pos) (af i):=PE.to (pq hN hv hd hcd) fun _ _ _ h=>Ch h
theorem ao {i : Int} {j : Nat} : JE X (.Constant (.int i) j pos) (fC (.int i)):=PE.to BA fun _ _ _ h=>xR (fun _=>.int i) h
theorem kD {i : Bool} {j : Nat} : JE X (.Constant (.bool i) j pos) (fC (.bl i)):=PE.to Di fun _ _ _ h=>xR (fun _=>.bl i) h
theorem dU {j : Nat} : JE X (.Constant .none j pos) (fC .non):=PE.to BB fun _ _ _ h=>xR (fun _=>.non) h
theorem az {x : Str} {j : Nat} : JE X (.Constant (.str x) j pos) (fC (.str x)):=PE.to BC fun _ _ _ h=>xR (fun _=>.str x) h
theorem zZ {x : Str} {v : V} {d : D} {u : Value} (hg : Gl X x) (hm : X.mg x = some u) (r : aN v u) (i : ∀ B,Is X.K B v d) (hd : (x == ("__debug__" : Str)) = false:=by decide) : JE X (.Name x pos) (fC d):=PE.to (uR hg hm r hd) fun _ _ _ h=>xR i h
theorem aV {op : Operator} {f : D->D->Option (D × Bool)} {fa fb : FE} (ho : OpR X (binaryOp op) (rD X.K f)) (ha : JE X a fa) (hb : JE X b fb) : JE X (.BinOp a op b pos) (f2 f fa fb):=PE.to (AK ho ha hb) fun _ _ _ h=>zR h
theorem AX {op : UnaryOp} {f : D->Option (D × Bool)} {fa : FE} (ho : UnR X (unaryOp op) (rDU X.K f)) (ha : JE X a fa) : JE X (.UnaryOp op a pos) (f1 f fa):=PE.to (Dy ho ha) fun _ _ _ h=>E8 h
theorem cm {op : CmpOp} {f : D->D->Option (D × Bool)} {fa fb : FE} (ho : OpR X (compareOp op) (rD X.K f)) (ha : JE X a fa) (hb : JE X b fb) (hm : behindInMarks op b = false:=by first | exact l5 _ (by decide) (by decide) | rfl) : JE X (.Compare a [op] [b] pos) (f2 f fa fb):=PE.to (zC ho ha hb hm) fun _ _ _ h=>zR h
theorem xS {K : PySem.W.Frag} {f : FE} {σ : St} {H : Hp} {Q : Bool->Hp->Prop} (h : tDT K (tOf f) σ H Q) : tD K f σ H fun x H'=>∃ k,x = .bl k/\Q k H':=by
 obtain ⟨B,ρ,c,s,r,e,q⟩:=h
 unfold tOf at e
 split at e
 ·rename_i c' b' ef
  cases e
  refine ⟨B,ρ,.bl c,b',s,r,ef,fun v H' N x i _=>?_⟩
  cases i
  exact ⟨c,rfl,q H' x.hh⟩
 ·cases e
theorem aO {op : CmpOp} {f : D->D->Option (D × Bool)} {fa fb : FE} (ho : OpR X (compareOp op) (rD X.K f)) (ha : JE X a fa) (hb : JE X b fb) (hm : behindInMarks op b = false:=by first | exact l5 _ (by decide) (by decide) | rfl) : JT X (.Compare a [op] [b] pos) (tOf (f2 f fa fb)) :=
 PT.to (zD ho ha hb hm) fun _ _ _ h=>zR (xS h)
theorem gu {f : FE} (h : JE X e f) (he : ∀ whole,isTrue e X.env whole = (do let v ← whole; standAt e.pos; holding [v] (truthy v)):=by intro _; rfl) : JT X e (tOf f):=PT.to (BD h he) fun _ _ _ q=>xS q
@[simp] def jH (f g : D->D->Option (D × Bool)) (fa fb fc : FE) : FE:=fun ρ=>(fa ρ).bind fun x=>(fb ρ).bind fun y=>match f x.1 y.1 with
 | some (.bl true,_)=>(fc ρ).bind fun z=>g y.1 z.1
 | some (.bl false,_)=>some (.bl false,false)
 | _=>none
theorem xT {K : PySem.W.Frag} {f g : D->D->Option (D × Bool)} {fa fb fc : FE} {σ : St} {H : Hp} {Q : VK} (h : tD K (jH f g fa fb fc) σ H Q) : xw (rD K f) (rD K g) (tD K fa) (tD K fb) (tD K fc) σ H Q:=by
 obtain ⟨B,ρ,d,b,s,r,e,q⟩:=h
 obtain ⟨x,ex,e⟩:=oX e
 obtain ⟨y,ey,e⟩:=oX e
 refine ⟨B,ρ,x.1,x.2,s,r,ex,fun v H1 N1 x1 i1 _=>⟨N1,ρ,y.1,y.2,x1.nh,r.mono x1.bn,ey,fun v2 H2 N2 x2 i2 _=>?_⟩⟩
 split at e
 ·rename_i b' ef
  obtain ⟨z,ez,e⟩:=oX e
  refine ⟨N2,x.1,y.1,.bl true,b',x2.nh,i1.mono x2.bn,i2,ef,fun v3 H3 N3 x3 i3 _=>?_⟩
  cases i3
  refine ⟨true,rfl, ?_⟩
  rw [if_pos rfl]
  refine ⟨N3,ρ,z.1,z.2,x3.nh,r.mono (x1.bn.trans (x2.bn.trans x3.bn)),ez,fun v4 H4 N4 x4 i4 _=>⟨N4,y.1,z.1,d,b,x4.nh,i2.mono (x3.bn.trans x4.bn),i4,e, ?_⟩⟩
  exact q.into ((x1.trans x2).trans (x3.trans x4))
 ·rename_i b' ef
  cases e
  refine ⟨N2,x.1,y.1,.bl false,b',x2.nh,i1.mono x2.bn,i2,ef,fun v3 H3 N3 x3 i3 _=>?_⟩
  cases i3
  refine ⟨false,rfl, ?_⟩
  rw [if_neg (by decide)]
  exact (q.into ((x1.trans x2).trans x3)).one x3.nh (.bl false)
 ·cases e
theorem xU {op op' : CmpOp} {f g : D->D->Option (D × Bool)} {fa fb fc : FE} (ho : OpR X (compareOp op) (rD X.K f)) (ho' : OpR X (compareOp op') (rD X.K g)) (ha : JE X a fa) (hb : JE X b fb) (hc : JE X c fc)
  (hm : lastMarks [op,op'] [b,c] = false:=by with_unfolding_all rfl) : JE X (.Compare a [op,op'] [b,c] pos) (jH f g fa fb fc):=PE.to (xy ho ho' ha hb hc hm) fun _ _ _ h=>xT h
theorem Aa {K : PySem.W.Frag} {f g : FT} {σ : St} {H : Hp} {Q : Bool->Hp->Prop} (h : tDT K (cx f g) σ H Q) : Dk (tDT K f) (tDT K g) σ H Q:=by
 obtain ⟨B,ρ,c,s,r,e,q⟩:=h
 unfold cx at e
 cases ef : f ρ with
 | none=>rw [ef] at e; cases e
 | some k =>
  rw [ef] at e
  refine ⟨B,ρ,k,s,r,ef,fun H1 h1=>?_⟩
  cases k with
  | true=>rw [if_pos rfl]; exact ⟨B,ρ,c,s.trans h1,r,e,fun H2 h2=>q H2 (h1.trans h2)⟩
  | false=>rw [if_neg (by decide)]; cases e; exact q H1 h1
theorem Cj {K : PySem.W.Frag} {f g : FT} {σ : St} {H : Hp} {Q : Bool->Hp->Prop} (h : tDT K (gs f g) σ H Q) : tOr (tDT K f) (tDT K g) σ H Q:=by
 obtain ⟨B,ρ,c,s,r,e,q⟩:=h
 unfold gs at e
 cases ef : f ρ with
 | none=>rw [ef] at e; cases e
 | some k =>
  rw [ef] at e
  refine ⟨B,ρ,k,s,r,ef,fun H1 h1=>?_⟩
  cases k with
  | false=>rw [if_neg (by decide)]; exact ⟨B,ρ,c,s.trans h1,r,e,fun H2 h2=>q H2 (h1.trans h2)⟩
  | true=>rw [if_pos rfl]; cases e; exact q H1 h1
theorem Ab {K : PySem.W.Frag} {f : FT} {σ : St} {H : Hp} {Q : Bool->Hp->Prop} (h : tDT K (gt f) σ H Q) : Dl (tDT K f) σ H Q:=by
 obtain ⟨B,ρ,c,s,r,e,q⟩:=h
 obtain ⟨k,ek,e⟩:=oY e
 subst e
 exact ⟨B,ρ,k,s,r,ek,fun H1 h1=>q H1 h1⟩
variable {ay : List Expr}
theorem fS {f : FT} (ha : JT X a f) : JW X (.BoolOp .And [a] pos) f:=z5 ha
theorem jI {f : FT} (ha : JT X a f) : JW X (.BoolOp .Or [a] pos) f:=BE ha
theorem iC {f g : FT} (ha : JT X a f) (hb : JW X (.BoolOp .And (b :: ay) pos) g) : JW X (.BoolOp .And (a :: b :: ay) pos) (cx f g):=PW.to (BF ha hb) fun _ _ _ h=>Aa h
theorem lG {f g : FT} (ha : JT X a f) (hb : JW X (.BoolOp .Or (b :: ay) pos) g) : JW X (.BoolOp .Or (a :: b :: ay) pos) (gs f g):=PW.to (Dm ha hb) fun _ _ _ h=>Cj h
theorem jJ {f : FT} (h : JW X e f) : JT X e f:=h.pt
theorem pE {f : FT} (ha : JT X a f) : JT X (.UnaryOp .Not a pos) (gt f):=PT.to (BG ha) fun _ _ _ h=>Ab h
@[simp] def jK (f g : FE) : FE:=fun ρ=>match f ρ with | some (.bl true,_)=>g ρ | some (.bl false,_)=>some (.bl false,false) | _=>none
@[simp] def fOr (f g : FE) : FE:=fun ρ=>match f ρ with | some (.bl true,_)=>some (.bl true,false) | some (.bl false,_)=>g ρ | _=>none
@[simp] def Fb (f : FE) : FE:=fun ρ=>match f ρ with | some (.bl c,_)=>some (.bl (!c),false) | _=>none
theorem gv {f g : FE} (ha : JE X a f) (hb : JE X (.BoolOp .And (b :: ay) pos) g) : JE X (.BoolOp .And (a :: b :: ay) pos) (jK f g):=PE.to (BI ha hb) fun σ H Q h=>by
 obtain ⟨B,ρ,d,k,s,r,e,q⟩:=h
 unfold jK at e
 split at e
 ·rename_i b' ef
  refine ⟨B,ρ,_,_,s,r,ef,fun v H1 N1 x1 i1 _=>?_⟩
  cases i1
  refine ⟨true,rfl, ?_⟩
  rw [if_pos rfl]
  exact ⟨N1,ρ,d,k,x1.nh,r.mono x1.bn,e,q.into x1⟩
 ·rename_i b' ef
  cases e
  refine ⟨B,ρ,_,_,s,r,ef,fun v H1 N1 x1 i1 _=>?_⟩
  cases i1
  refine ⟨false,rfl, ?_⟩
  rw [if_neg (by decide)]
  exact (q.into x1).one x1.nh (.bl false)
 ·cases e
theorem xV {f g : FE} (ha : JE X a f) (hb : JE X (.BoolOp .Or (b :: ay) pos) g) : JE X (.BoolOp .Or (a :: b :: ay) pos) (fOr f g):=PE.to (Do ha hb) fun σ H Q h=>by
 obtain ⟨B,ρ,d,k,s,r,e,q⟩:=h
 unfold fOr at e
 split at e
 ·rename_i b' ef
  cases e
  refine ⟨B,ρ,_,_,s,r,ef,fun v H1 N1 x1 i1 _=>?_⟩
  cases i1
  refine ⟨true,rfl, ?_⟩
  rw [if_pos rfl]
  exact (q.into x1).one x1.nh (.bl true)
 ·rename_i b' ef
  refine ⟨B,ρ,_,_,s,r,ef,fun v H1 N1 x1 i1 _=>?_⟩
  cases i1
  refine ⟨false,rfl, ?_⟩
  rw [if_neg (by decide)]
  exact ⟨N1,ρ,d,k,x1.nh,r.mono x1.bn,e,q.into x1⟩
 ·cases e
theorem gw {op : BoolOp} {f : FE} (h : JE X a f) : JE X (.BoolOp op [a] pos) f:=BH h
variable {es : List Expr}
theorem ag : JA X [] ak:=PA.to gn fun _ _ _ h=>zT h
theorem ab {f : FE} {g : FA} (ha : JE X e f) (hr : JA X es g) (hs : starEach (e :: es) X.env = (false,eval e X.env) :: starEach es X.env:=by rfl) : JA X (e :: es) (ae f g):=PA.to (eG ha hr hs) fun _ _ _ h=>xL h
@[simp] def aZ : List D->Option (D × Bool):=fun ds=>if ds.length<=sizeLine then some (.tup ds,false) else none
@[simp] def cE : List D->Option (D × Bool):=fun ds=>if ds.length<=sizeLine then some (.lst ds,true) else none
theorem aY {x1} {f : FA} (h : JA X es f) : JE X (.Tuple es x1 pos) (fA aZ f):=PE.to (tG h) fun σ H Q q=>by
 obtain ⟨B,ρ,ds,s,r,e,k⟩:=zS q
 refine ⟨B,ρ,ds,s,r,e,fun vs H1 N1 x1 i1=>?_⟩
 obtain ⟨B2,ds2,d,b,s2,i2,e2,k2⟩:=k vs H1 N1 x1 i1
 unfold aZ at e2
 split at e2
 ·rename_i hz
  cases e2
  refine ⟨by rw [i2.length]; exact hz,fun p hp=>k2 _ _ (upd B2 p (.tup vs)) (.laid s2 hp) (.tup (SqT.of ax) (i2.mono (Ext.laid s2 hp).bn)) (by simp)⟩
 ·cases e2
theorem cz {f : FA} (h : JA X es f) : JE X (.List es pos) (fA cE f):=PE.to (BU h) fun σ H Q q=>by
 obtain ⟨B,ρ,ds,s,r,e,k⟩:=zS q
 refine ⟨B,ρ,ds,s,r,e,fun vs H1 N1 x1 i1=>?_⟩
 obtain ⟨B2,ds2,d,b,s2,i2,e2,k2⟩:=k vs H1 N1 x1 i1
 unfold cE at e2
 split at e2
 ·rename_i hz
  cases e2
  refine ⟨by rw [i2.length]; exact hz,fun p hp=>k2 _ _ (upd B2 p (.lst vs)) (.laid s2 hp) (.lst (SqL.of ax) (i2.mono (Ext.laid s2 hp).bn)) fun _=>⟨p,vs,ds2,rfl,rfl,hp,ax,i2.mono (Ext.laid s2 hp).bn⟩⟩
 ·cases e2
end
section
variable {X : Cx}
theorem fT {f : Value->Value->Sem Value} {r r' : R2} (h : OpR X f r) (k : ∀ x y H Q,r' x y H Q->r x y H Q) : OpR X f r':=fun pins s σ H x y v u Q I rx ry q=>h pins s σ H x y v u Q I rx ry (k x y H Q q)
def orD (f g : D->D->Option (D × Bool)) : D->D->Option (D × Bool):=fun x y=>match f x y with | some r=>some r | none=>g x y
theorem lH {s : Value->Value->Sem Value} {f g : D->D->Option (D × Bool)} (h : OpR X s (rD X.K f)) (h' : OpR X s (rD X.K g)) : OpR X s (rD X.K (orD f g)):=by
 intro pins st σ H x y v u Q I rx ry q
 obtain ⟨B,dx,dy,d,b,sB,ix,iy,e,q⟩:=q
 unfold orD at e
 split at e
 ·rename_i r ef
  cases e
  exact h pins st σ H x y v u Q I rx ry ⟨B,dx,dy,_,_,sB,ix,iy,ef,q⟩
 ·exact h' pins st σ H x y v u Q I rx ry ⟨B,dx,dy,_,_,sB,ix,iy,e,q⟩
@[simp] def iop (C : Int->Int->Bool) (g : Int->Int->D) : D->D->Option (D × Bool)
 | .int i,.int j=>if C i j = true then some (g i j,false) else none
 | _,_=>none
theorem pF {s : Value->Value->Sem Value} {C : Int->Int->Prop} {C' : Int->Int->Bool} {g : Int->Int->V} {g' : Int->Int->D} (h : OpR X s (rI C g)) (hC : ∀ i j,C' i j = true->C i j) (hg : ∀ i j B,Is X.K B (g i j) (g' i j)) : OpR X s (rD X.K (iop C' g')):=by
 refine fT h fun x y H Q q=>?_
 obtain ⟨B,dx,dy,d,b,sB,ix,iy,e,q⟩:=q
 cases ix <;> cases iy <;> try (simp [iop] at e; done)
 rename_i i j
 simp only [iop] at e
 split at e
 ·rename_i hc
  cases e
  exact ⟨i,j,rfl,rfl,hC i j hc,q.one sB (hg i j B)⟩
 ·cases e
theorem jh {s : Value->Value->Sem Value} {g : Int->Int->V} {g' : Int->Int->D} (h : OpR X s (rI0 g)) (hg : ∀ i j B,Is X.K B (g i j) (g' i j)) : OpR X s (rD X.K (iop (fun _ _=>true) g')):=by
 refine fT h fun x y H Q q=>?_
 obtain ⟨B,dx,dy,d,b,sB,ix,iy,e,q⟩:=q
 cases ix <;> cases iy <;> try (simp [iop] at e; done)
 rename_i i j
 simp only [iop,if_true] at e
 cases e
 exact ⟨i,j,rfl,rfl,q.one sB (hg i j B)⟩
abbrev Ck : D->D->Option (D × Bool):=iop (fun _ _=>true) fun i j=>.int (i + j)
abbrev DI : D->D->Option (D × Bool):=iop (fun i j=>decide ((-18446744073709551616 < i/\i < 18446744073709551616) ∨ (-18446744073709551616 < j/\j < 18446744073709551616))) fun i j=>.int (i * j)
abbrev lI : D->D->Option (D × Bool):=iop (fun _ j=>decide (0 < j/\j < 1073741824)) fun i j=>.int (i / j)
abbrev f6 : D->D->Option (D × Bool):=iop (fun _ j=>decide (0 < j)) fun i j=>.int (i % j)
abbrev iLt : D->D->Option (D × Bool):=iop (fun _ _=>true) fun i j=>.bl (decide (i < j))
abbrev iLe : D->D->Option (D × Bool):=iop (fun _ _=>true) fun i j=>.bl (decide (i<=j))
abbrev iGt : D->D->Option (D × Bool):=iop (fun _ _=>true) fun i j=>.bl (decide (j < i))
theorem DJ : OpR X (binaryOp .Add) (rD X.K Ck):=jh BP fun _ _ _=>.int _
theorem DK : OpR X (binaryOp .Mult) (rD X.K DI):=pF BQ (fun i j h=>by have h:=of_decide_eq_true h; unfold zA; omega) fun _ _ _=>.int _
theorem gy : OpR X (binaryOp .FloorDiv) (rD X.K lI):=pF zB (fun i j h=>by have h:=of_decide_eq_true h; unfold Dz; omega) fun _ _ _=>.int _
theorem dG : OpR X (binaryOp .Mod) (rD X.K f6):=pF BR (fun _ _ h=>of_decide_eq_true h) fun _ _ _=>.int _
theorem E9 : OpR X (compareOp .Lt) (rD X.K iLt):=jh D0 fun _ _ _=>.bl _
theorem EA : OpR X (compareOp .LtE) (rD X.K iLe):=jh D1 fun _ _ _=>.bl _
theorem DM : OpR X (compareOp .Gt) (rD X.K iGt):=jh D2 fun _ _ _=>.bl _
@[simp] def sop (C : Str->Str->Bool) (g : Str->Str->D) : D->D->Option (D × Bool)
 | .str i,.str j=>if C i j = true then some (g i j,false) else none
 | _,_=>none
abbrev xW : D->D->Option (D × Bool):=sop (fun i j=>decide (i.length + j.length<=sizeLine)) fun i j=>.str (i ++ j)
abbrev sLe : D->D->Option (D × Bool):=sop (fun _ _=>true) fun i j=>.bl (!decide (j.cps.toList < i.cps.toList))
theorem Cm : OpR X (binaryOp .Add) (rD X.K xW):=by
 refine fT tE fun x y H Q q=>?_
 obtain ⟨B,dx,dy,d,b,sB,ix,iy,e,q⟩:=q
 cases ix <;> cases iy <;> try (simp [xW,sop] at e; done)
 rename_i i j
 simp only [xW,sop] at e
 split at e
 ·rename_i hc
  cases e
  exact ⟨i,j,rfl,rfl,of_decide_eq_true hc,q.one sB (.str _)⟩
 ·cases e
theorem DN : OpR X (compareOp .LtE) (rD X.K sLe):=by
 intro pins s σ H x y v u Q I rx ry q
 obtain ⟨B,dx,dy,d,b,sB,ix,iy,e,q⟩:=q
 cases ix <;> cases iy <;> try (simp [sLe,sop] at e; done)
 rename_i i j
 simp only [sLe,sop,if_true] at e
 cases e
 obtain ⟨t,rfl⟩:=rx
 obtain ⟨t',rfl⟩:=ry
 exact PySem.P.le_str ⟨.bl _,H,I,rfl,q.one sB (.bl _)⟩
end
section
variable {X : Cx} {a b c e : Expr} {pos : Pos} {st : Stmt} {ay : List Stmt}
theorem bO : JSs X [] cy:=PSs.to z6 fun _ _ _ h=>xN h
theorem aq {g h : FS} (h1 : JS X st g) (h2 : JSs X ay h) : JSs X (st :: ay) (aJ g h):=PSs.to (xl h1 h2) fun _ _ _ q=>zU q
theorem aw {g : FS} (h1 : JS X st g) : JSs X [st] g:=z7 h1
theorem cr {c : Expr} {a b : List Stmt} {fc : FT} {g h : FS} (hc : JT X c fc) (ha : JSs X a g) (hb : JSs X b h) : JS X (.If c a b pos) (gIf fc g h):=PS.to (Dt hc ha hb) fun _ _ _ q=>Ci q
theorem aH {f : FE} (he : JE X e f) : JS X (.Return (some e) pos) (b7 f):=PS.to (xm he) fun _ _ _ q=>zV q
theorem ji (i : Nat) {x : Str} {p : Pos} (hN : X.N[i]? = some x:=by rfl) (hv : Vis X.env.scope x:=by first | exact Or.inl rfl | exact Or.inr (Or.inl rfl) | exact Or.inr (Or.inr rfl)) (hd : (x == ("__debug__" : Str)) = false:=by decide)
  (hcd : (x == ("__classdict__" : Str)) = false:=by decide) : JS X (.Return (some (.Name x p)) pos) (io i):=PS.to (xm (pq hN hv hd hcd)) fun _ _ _ q=>xO q
theorem aF {i : Nat} {x : Str} {p : Pos} {f : FE} (hN : X.N.Nodup) (he : JE X e f) (hi : X.N[i]? = some x:=by rfl) (hx : Loc X.env.scope x:=by first | exact Or.inl rfl | exact Or.inr rfl) (hs : swapsWith e (some (.Name x p)) pos.line X.env = pure false:=by rfl)
  (hf : X.fn x = true ∨ X.env.scope.names.lookup x = some .local:=by first | exact .inl rfl | exact .inr rfl) : JS X (.Assign [.Name x p] e pos) (ba i f):=PS.to (xo hN hi hx he hs hf) fun _ _ _ q=>uV q
theorem xX {c : Expr} {body : List Stmt} {fc : FT} {g : FS} (n : Nat) (hp : PassesOwn (model X.prog X.w) X.A X.env X.xe) (hc : JT X c fc) (hb : JSs X body g) : JS X (.While c body [] pos) (eX fc g n):=PS.to (xq hp hc hb) fun _ _ _ q=>wy q
theorem lJ {tg iter : Expr} {body : List Stmt} {fi : FA} {tgF : FG} {t : TG} {g : FS} (hp : PassesOwn (model X.prog X.w) X.A X.env X.xe) (hc : X.calm = true) (hi : JI X tg iter fi) (hg : PG X tg t) (ht : tDG X.K tgF t) (hb : JSs X body g)
  (hs : ∀ x,foldedSetIterable iter X.env x = pure x:=by intro _; rfl) : JS X (.For tg iter body [] pos) (pB fi tgF g):=PS.to (xu hp hc hi hg hb hs) fun _ _ _ q=>zX ht q
theorem uW {tg iter : Expr} {body : List Stmt} {fi : FA} {tgF : FG} {t : TG} {g : FS} (hp : PassesOwn (model X.prog X.w) X.A X.env X.xe) (hc : X.calm = true) (hi : PI X tg iter (tDR X.K fi)) (hg : PG X tg t) (ht : tDG X.K tgF t) (hb : JSs X body g)
  (hs : ∀ x,foldedSetIterable iter X.env x = pure x:=by intro _; rfl) : JS X (.For tg iter body [] pos) (nX fi tgF g):=PS.to (xu hp hc hi hg hb hs) fun _ _ _ q=>xQ ht q
theorem iD {i : Nat} {x : Str} {p apos cpos : Pos} {f : FE} (he : JE X e f) (hN : X.N[i]? = some x:=by rfl) (hv : Vis X.env.scope x:=by first | exact Or.inl rfl | exact Or.inr (Or.inl rfl) | exact Or.inr (Or.inr rfl)) (hd : (x == ("__debug__" : Str)) = false:=by decide)
  (hcd : (x == ("__classdict__" : Str)) = false:=by decide)
  (hbase : attributeBase (.Name x p) "append" X.env (eval (.Name x p) X.env) = eval (.Name x p) X.env:=by rfl)
  (hfew : ((backTo cpos (starEach [e] X.env)).all (fun x=>!x.1) && (backToKw cpos (keywordEach [] X.env)).all (fun x=>x.1.isSome)
   && decide ([e].length + ([] : List Keyword).length + (if ([] : List Keyword).isEmpty then 0 else 1) < 30)) = true:=by rfl)
  (hline : (apos.endLine == cpos.line) = true:=by rfl) (hs : starEach [e] X.env = [(false,eval e X.env)]:=by rfl) (hsw : swapsWith (.Call (.Attribute (.Name x p) "append" apos) [e] [] cpos) none pos.line X.env = pure false:=by rfl) :
  JS X (.Expr (.Call (.Attribute (.Name x p) "append" apos) [e] [] cpos) pos) (lD i f):=by
 refine PS.to (z8 (AQ PySem.F.plainAttrs_list PySem.F.slot_list_append PySem.F.type_list_append nU (pq hN hv hd hcd) (eG he gn hs) hbase hfew hline hs rfl) hsw) fun E σ H q=>?_
 obtain ⟨a,us,h1,h2,k⟩:=zW q
 exact ⟨_,h1,.inl ⟨rfl,us,SqL.of h2⟩,k⟩
end
@[simp] def aT (g : FS) (n k : Nat) : List D->Option (D × Bool):=fun ds=>if ds.length = n then
 match g (ds.map (fun d=>some (d,false)) ++ List.replicate k none) with
 | some (.rt d b)=>some (d,b)
 | some (.nx _)=>some (.non,false)
 | _=>none
 else none
def spD (K : PySem.W.Frag) (f : List D->Option (D × Bool)) : Sp:=fun vs H Q _=>∃ (B : Hp) (ds : List D) (d : D) (b : Bool),(aE B H/\Tb K B)/\IsL K B vs ds/\f ds = some (d,b)/\Fin K B H d b Q
theorem qW {K : PySem.W.Frag} {B H : Hp} {vs : List V} {ds : List D} {N : List Str} (sB : aE B H) (tb : Tb K B) (i : IsL K B vs ds) : StN K B H B H (L2.gg N vs) (ds.map (fun d=>some (d,false)) ++ List.replicate (N.length - vs.length) none):=by
 have nf : ∀ (j : Nat) (d : D) (b : Bool),(ds.map (fun d=>some (d,false)) ++ List.replicate (N.length - vs.length) none : Env)[j]? = some (some (d,b))->b = false/\ds[j]? = some d:=fun j d b e=>by
  by_cases hj : j < ds.length
  ·rw [List.getElem?_append_left (by simpa using hj),List.getElem?_map] at e
   obtain ⟨d',h1,h2⟩:=oY e
   cases h2
   exact ⟨rfl,h1⟩
  ·rw [List.getElem?_append_right (by simpa using Nat.not_lt.mp hj),List.getElem?_replicate] at e
   split at e <;> cases e
 have no : ∀ a,¬ own (L2.gg N vs) (ds.map (fun d=>some (d,false)) ++ List.replicate (N.length - vs.length) none) a:=fun a ⟨j,d,h,_⟩=>by
  obtain ⟨z,_⟩:=nf j d true h; cases z
 refine ⟨sB,tb,.refl sB, ?_,fun j d e=>?_,fun j d e=>?_,fun j k a d e h=>?_⟩
 ·unfold L2.gg; rw [List.length_append,List.length_append,List.length_map,List.length_map,List.length_replicate,List.length_replicate,i.length]
 ·obtain ⟨_,e1⟩:=nf j d false e
  obtain ⟨v,h1,h2⟩:=i.get e1
  refine ⟨v, ?_,h2.mono fun a o e=>by rw [bG (no a)]; exact e⟩
  unfold L2.gg
  have hj : j < vs.length:=(List.getElem?_eq_some_iff.mp h1).1
  rw [List.getElem?_append_left (by simpa using hj),List.getElem?_map,h1] <;> rfl
 ·obtain ⟨z,_⟩:=nf j d true e; cases z
 ·obtain ⟨z,_⟩:=nf j d true h; cases z
section
variable {P : Program} {w : World} {K : PySem.W.Frag} {mg : Str->Option Value} {base : Heap}
theorem DO {x qual : Str} {st : Stmt} {f : Addr} {fd : FuncData} {N ps : List Str} {k : Nat} {g : FS} (F : Fun K x qual st f fd) (S : FnScope N ps (au st))
  (hb : ∀ (cdv : Value) (A : Around) (outer : List PySem.Env) (s : Shared) (H : Hp) (E : XK),Room k (A.deeper (envOfC qual (au st) s.heap.objs.size f cdv))->JSs (l8 CX0 P w K mg base N qual (au st) f cdv A outer s H E).nox (cq st) g) :
  FnOk P w K mg base CX0 (k + 1) f fd ps (spD K (aT g ps.length (N.length - ps.length))):=by
 have len : ∀ vs H Q E,spD K (aT g ps.length (N.length - ps.length)) vs H Q E->vs.length = ps.length:=fun vs H Q E h=>by
  obtain ⟨B,ds,d,b,sB,i,e,q⟩:=h
  unfold aT at e
  split at e
  ·rename_i hl; rw [i.length]; exact hl
  ·cases e
 refine F.ok S len fun cdv A outer s H vs Q E hr h=>⟨_,hb cdv A outer s H E hr, ?_⟩
 have hlen:=len vs H Q E h
 obtain ⟨B,ds,d,b,sB,i,e,q⟩:=h
 unfold aT at e
 rw [if_pos (by rw [← i.length]; exact hlen)] at e
 have s0:=qW (N:=N) sB.1 sB.2 i
 rw [hlen] at s0
 split at e
 ·rename_i d' b' eg
  cases e
  exact ⟨B,H,_,_,⟨B,s0⟩,eg,fun v H' N' x' i' f'=>q v H' N' x' i' f'⟩
 ·rename_i ρ' eg
  cases e
  exact ⟨B,H,_,_,⟨B,s0⟩,eg,fun σ' H' ⟨N',s'⟩=>q .non H' N' s'.ext .non (by simp)⟩
 ·cases e
structure Fn (P : Program) (w : World) (K : PySem.W.Frag) (mg : Str->Option Value) (base : Heap) (k : Nat) (x : Str) (f : List D->Option (D × Bool)) : Prop where
 ex : ∃ (ad : Addr) (fd : FuncData) (ps : List Str),FnOk P w K mg base CX0 k ad fd ps (spD K f)/\mg x = some (.ref ad)/\PySem.W.keepIn K (.ref ad) = true/\nL K fd ps []
end
theorem aj {X : Cx} {k : Nat} {x : Str} {f : List D->Option (D × Bool)} {fa : FA} {e : Expr} {es : List Expr} {p pos : Pos} (F : Fn X.prog X.w X.K X.mg X.base k x f) (hr : Room k X.A) (ha : JA X (e :: es) fa) (hg : Gl X x:=by rfl)
  (hdb : (x == ("__debug__" : Str)) = false:=by decide) (he : starEach (e :: es) X.env = (false,eval e X.env) :: starEach es X.env:=by rfl) (hpl : (backTo pos (starEach es X.env)).any (·.1) = false:=by rfl) :
  JE X (.Call (.Name x p) (e :: es) [] pos) (fA f fa):=by
 obtain ⟨ad,fd,ps,F1,hm,hk,hb⟩:=F.ex
 refine PE.to (zF F1 hr hg hm hk hb .nil DB ha hdb he hpl) fun σ H Q q=>?_
 obtain ⟨B,ρ,d,b,s,r,e,q⟩:=q
 obtain ⟨ds,ex,e⟩:=oX e
 exact ⟨B,ρ,ds,s,r,ex,fun vs H1 N1 x1 i1=>by
  show spD X.K f (vs ++ []) H1 Q _
  rw [List.append_nil]
  exact ⟨N1,ds,d,b,⟨x1.nh,r.tb.mono x1.bn⟩,i1,e,q.into x1⟩⟩
mutual
def eqD : D->D->Bool
 | .non,.non=>true
 | .bl a,.bl b=>a == b
 | .bl a,.int b=>decide ((if a then 1 else 0) = b)
 | .int a,.bl b=>decide (a = (if b then 1 else 0))
 | .int a,.int b=>decide (a = b)
 | .str a,.str b=>decide (a = b)
 | .tup xs,.tup ys=>cV xs ys
 | .lst xs,.lst ys=>cV xs ys
 | _,_=>false
def cV : List D->List D->Bool
 | [],[]=>true
 | x :: xs,y :: ys=>eqD x y && cV xs ys
 | _,_=>false
end
@[simp] theorem qX : eqD .non .non = true:=by simp only [eqD]
@[simp] theorem tO (b : Bool) : eqD .non (.bl b) = false:=by simp only [eqD]
@[simp] theorem qY (b : Int) : eqD .non (.int b) = false:=by simp only [eqD]
@[simp] theorem qZ (b : Str) : eqD .non (.str b) = false:=by simp only [eqD]
@[simp] theorem AY (b : List D) : eqD .non (.tup b) = false:=by simp only [eqD]
@[simp] theorem AZ (b : List D) : eqD .non (.lst b) = false:=by simp only [eqD]
@[simp] theorem tP (a : Bool) : eqD (.bl a) .non = false:=by simp only [eqD]
@[simp] theorem w9 (a : Bool) (b : Bool) : eqD (.bl a) (.bl b) = (a == b):=by simp only [eqD]
@[simp] theorem tQ (a : Bool) (b : Int) : eqD (.bl a) (.int b) = decide ((if a then 1 else 0) = b):=by simp only [eqD]
@[simp] theorem tR (a : Bool) (b : Str) : eqD (.bl a) (.str b) = false:=by simp only [eqD]
@[simp] theorem Cn (a : Bool) (b : List D) : eqD (.bl a) (.tup b) = false:=by simp only [eqD]
@[simp] theorem Co (a : Bool) (b : List D) : eqD (.bl a) (.lst b) = false:=by simp only [eqD]
@[simp] theorem re (a : Int) : eqD (.int a) .non = false:=by simp only [eqD]
@[simp] theorem tS (a : Int) (b : Bool) : eqD (.int a) (.bl b) = decide (a = (if b then 1 else 0)):=by simp only [eqD]
@[simp] theorem rf (a : Int) (b : Int) : eqD (.int a) (.int b) = decide (a = b):=by simp only [eqD]
@[simp] theorem rg (a : Int) (b : Str) : eqD (.int a) (.str b) = false:=by simp only [eqD]
@[simp] theorem Ba (a : Int) (b : List D) : eqD (.int a) (.tup b) = false:=by simp only [eqD]
@[simp] theorem Bb (a : Int) (b : List D) : eqD (.int a) (.lst b) = false:=by simp only [eqD]
@[simp] theorem rh (a : Str) : eqD (.str a) .non = false:=by simp only [eqD]
@[simp] theorem tT (a : Str) (b : Bool) : eqD (.str a) (.bl b) = false:=by simp only [eqD]
@[simp] theorem ri (a : Str) (b : Int) : eqD (.str a) (.int b) = false:=by simp only [eqD]
@[simp] theorem kE (a : Str) (b : Str) : eqD (.str a) (.str b) = decide (a = b):=by simp only [eqD]
@[simp] theorem Bc (a : Str) (b : List D) : eqD (.str a) (.tup b) = false:=by simp only [eqD]
@[simp] theorem Bd (a : Str) (b : List D) : eqD (.str a) (.lst b) = false:=by simp only [eqD]
@[simp] theorem Be (a : List D) : eqD (.tup a) .non = false:=by simp only [eqD]
@[simp] theorem Cp (a : List D) (b : Bool) : eqD (.tup a) (.bl b) = false:=by simp only [eqD]
@[simp] theorem Bf (a : List D) (b : Int) : eqD (.tup a) (.int b) = false:=by simp only [eqD]
@[simp] theorem Bg (a : List D) (b : Str) : eqD (.tup a) (.str b) = false:=by simp only [eqD]
@[simp] theorem Bh (a : List D) (b : List D) : eqD (.tup a) (.tup b) = cV a b:=by simp only [eqD]
@[simp] theorem Bi (a : List D) (b : List D) : eqD (.tup a) (.lst b) = false:=by simp only [eqD]
@[simp] theorem Bj (a : List D) : eqD (.lst a) .non = false:=by simp only [eqD]
@[simp] theorem Cq (a : List D) (b : Bool) : eqD (.lst a) (.bl b) = false:=by simp only [eqD]
@[simp] theorem Bk (a : List D) (b : Int) : eqD (.lst a) (.int b) = false:=by simp only [eqD]
@[simp] theorem Bl (a : List D) (b : Str) : eqD (.lst a) (.str b) = false:=by simp only [eqD]
@[simp] theorem Bm (a : List D) (b : List D) : eqD (.lst a) (.tup b) = false:=by simp only [eqD]
@[simp] theorem Bn (a : List D) (b : List D) : eqD (.lst a) (.lst b) = cV a b:=by simp only [eqD]
@[simp] theorem DP : cV [] [] = true:=by rw [cV]
@[simp] theorem CZ (x y : D) (xs ys : List D) : cV (x :: xs) (y :: ys) = (eqD x y && cV xs ys):=by rw [cV]
@[simp] theorem Ei (y : D) (ys : List D) : cV [] (y :: ys) = false:=by simp only [cV]
@[simp] theorem Ej (x : D) (xs : List D) : cV (x :: xs) [] = false:=by simp only [cV]
def ah : Nat->D->Bool
 | _,.non=>true
 | _,.bl _=>true
 | _,.int _=>true
 | _,.str _=>true
 | _,.ty _=>false
 | _,.dk _ _=>false
 | _,.dt _ _=>false
 | 0,.tup _=>false
 | 0,.lst _=>false
 | n + 1,.tup ds=>ds.all (ah n)
 | n + 1,.lst ds=>ds.all (ah n)
@[simp] theorem Cr (n : Nat) : ah n .non = true:=by cases n <;> simp only [ah]
@[simp] theorem Da (n : Nat) (a : Bool) : ah n (.bl a) = true:=by cases n <;> simp only [ah]
@[simp] theorem Cs (n : Nat) (a : Int) : ah n (.int a) = true:=by cases n <;> simp only [ah]
@[simp] theorem Ct (n : Nat) (a : Str) : ah n (.str a) = true:=by cases n <;> simp only [ah]
@[simp] theorem Db (n : Nat) (ks : List Key) (vs : List D) : ah n (.dk ks vs) = false:=by cases n <;> simp only [ah]
@[simp] theorem Dc (n : Nat) (ks : List (List Key)) (vs : List D) : ah n (.dt ks vs) = false:=by cases n <;> simp only [ah]
@[simp] theorem Cu (n : Nat) (ds : List D) : ah (n + 1) (.tup ds) = ds.all (ah n):=by simp only [ah]
@[simp] theorem Cv (n : Nat) (ds : List D) : ah (n + 1) (.lst ds) = ds.all (ah n):=by simp only [ah]
theorem rj : ∀ {xs ys : List D},cV xs ys = true->xs.length = ys.length
 | [],[],_=>rfl
 | x :: xs,y :: ys,h=>by
  simp only [cV,Bool.and_eq_true] at h
  rw [List.length_cons,List.length_cons,rj h.2]
 | [],_ :: _,h=>by simp [cV] at h
 | _ :: _,[],h=>by simp [cV] at h
theorem uX {xs ys : List D} (h : xs.length ≠ ys.length) : cV xs ys = false:=by
 cases e : cV xs ys with
 | false=>rfl
 | true=>exact absurd (rj e) h
theorem iE (f : Nat->Bool) : ∀ {xs ys : List D},xs.length = ys.length->(∀ (j : Nat) x y,xs[j]? = some x->ys[j]? = some y->f j = eqD x y)->(List.range xs.length).all f = cV xs ys
 | [],[],_,_=>by simp [cV]
 | x :: xs,y :: ys,hl,h=>by
  have e:=iE (fun j=>f (j + 1)) (xs:=xs) (ys:=ys) (by simpa using hl) fun j a b h1 h2=>h (j + 1) a b (by simpa using h1) (by simpa using h2)
  rw [List.length_cons,List.range_succ_eq_map,List.all_cons,List.all_map,cV,← h 0 x y rfl rfl,← e]
  rfl
 | [],_ :: _,hl,_=>by simp at hl
 | _ :: _,[],hl,_=>by simp at hl
section
variable {X : Cx} {pins : List (Addr × Obj)} {σ : St} {H : Hp} {s : Shared}
theorem uY (I : Inv X pins σ H s) {a : Addr} {vs ws : List V} (h1 : SqT X.K H a vs) (h2 : SqL X.K H a ws) : False:=by
 obtain ⟨its,_,⟨o,e,c,_⟩,_⟩:=I.tuple h1
 obtain ⟨its',_,⟨o',n',e',c',_⟩,_⟩:=I.list h2
 rw [e] at e'; cases e'
 rw [c] at c'
 injection c' with z
 exact absurd z (by decide)
theorem uZ (I : Inv X pins σ H s) {a : Addr} {o : Obj} {its : Array Value} {n : Nat} (e : s.heap.get? a = some o) (d : o.data = .seq its n) : (∀ kvs,H a ≠ some (.dK kvs))/\∀ kvs,H a ≠ some (.dT kvs):=by
 refine ⟨fun kvs h=>?_,fun kvs h=>?_⟩
 ·obtain ⟨_,_,_,_,o',es,ep,e',_,d',_⟩:=(show b9 X.prog X.w H s.heap a (.dK kvs) from I.hok a _ h)
  rw [e] at e'; cases e'; rw [d] at d'; cases d'
 ·obtain ⟨_,_,_,_,o',es,ep,e',_,d',_⟩:=(show b9 X.prog X.w H s.heap a (.dT kvs) from I.hok a _ h)
  rw [e] at e'; cases e'; rw [d] at d'; cases d'
theorem rm (I : Inv X pins σ H s) {a : Addr} {vs : List V} (h1 : SqT X.K H a vs) : (∀ kvs,H a ≠ some (.dK kvs))/\∀ kvs,H a ≠ some (.dT kvs):=by
 obtain ⟨its,_,⟨o,e,c,n,d⟩,_⟩:=I.tuple h1
 exact uZ I e d
theorem ro (I : Inv X pins σ H s) {a : Addr} {vs : List V} (h1 : SqL X.K H a vs) : (∀ kvs,H a ≠ some (.dK kvs))/\∀ kvs,H a ≠ some (.dT kvs):=by
 obtain ⟨its,_,p,_⟩:=I.list h1
 obtain ⟨o,e,c,n,d⟩:=p.isList
 exact uZ I e d
theorem vc (I : Inv X pins σ H s) : ∀ (n : Nat) {v : V} {d d' : D},Is X.K H v d->Is X.K H v d'->ah n d = true->eqD d d' = true:=by
 have lists : ∀ {p : D->Bool} (ih : ∀ {v : V} {d d' : D},Is X.K H v d->Is X.K H v d'->p d = true->eqD d d' = true) {vs : List V} {ds ds' : List D},IsL X.K H vs ds->IsL X.K H vs ds'->ds.all p = true->cV ds ds' = true:=by
  intro p ih vs
  induction vs with
  | nil=>intro ds ds' h h' _; cases h; cases h'; simp [cV]
  | cons v vs ihv =>
   intro ds ds' h h' hp
   cases h with
   | cons h1 h2 =>
    cases h' with
    | cons h3 h4 =>
     rw [List.all_cons,Bool.and_eq_true] at hp
     rw [cV,ih h1 h3 hp.1,ihv h2 h4 hp.2]; rfl
 intro n
 induction n with
 | zero =>
  intro v d d' h h' hp
  cases h <;> cases h' <;> first | (simp [ah] at hp; done) | simp [eqD]
 | succ n ih =>
  intro v d d' h h' hp
  cases h with
  | tup h1 h2 =>
   cases h' with
   | tup h3 h4 =>
    rw [I.tuple_inj h3 h1] at h4
    rw [eqD]; exact lists ih h2 h4 (by simpa [ah] using hp)
   | lst h3 h4=>exact (uY I h1 h3).elim
   | dk h3 _ _=>exact ((rm I h1).1 _ h3).elim
   | dt h3 _ _=>exact ((rm I h1).2 _ h3).elim
  | lst h1 h2 =>
   cases h' with
   | lst h3 h4 =>
    rw [I.list_inj h3 h1] at h4
    rw [eqD]; exact lists ih h2 h4 (by simpa [ah] using hp)
   | tup h3 h4=>exact (uY I h3 h1).elim
   | dk h3 _ _=>exact ((ro I h1).1 _ h3).elim
   | dt h3 _ _=>exact ((ro I h1).2 _ h3).elim
  | ty=>simp [ah] at hp
  | dk=>simp [ah] at hp
  | dt=>simp [ah] at hp
  | _=>cases h' <;> simp [eqD]
theorem Bo {α : Type} {p : α->Bool} {l : List α} {j : Nat} {x : α} (h : l.all p = true) (e : l[j]? = some x) : p x = true:=List.all_eq_true.mp h x (List.mem_of_getElem? e)
theorem rq {A : Around} {p : D->Bool} (ih : ∀ {v1 v2 : V} {d1 d2 : D} {u1 u2 : Value},p d1 = true->p d2 = true->Is X.K H v1 d1->Is X.K H v2 d2->aN v1 u1->aN v2 u2->SeqAt.EqAt A s u1 u2 (eqD d1 d2))
  {vs ws : List V} {ds es : List D} {its jts : List Value} (i1 : IsL X.K H vs ds) (i2 : IsL X.K H ws es) (r1 : aK vs its) (r2 : aK ws jts) (p1 : ds.all p = true) (p2 : es.all p = true) :
  ∀ j (h1 : j < its.toArray.size) (h2 : j < jts.toArray.size),SeqAt.EqAt A s its.toArray[j] jts.toArray[j] (eqD (ds.getD j .non) (es.getD j .non)):=by
 intro j h1 h2
 rw [List.size_toArray] at h1 h2
 have l1:=r1.length; have l2:=r2.length; have l3:=i1.length; have l4:=i2.length
 have hv : j < vs.length:=by omega
 have hw : j < ws.length:=by omega
 have hd : j < ds.length:=by omega
 have he : j < es.length:=by omega
 obtain ⟨u,e1,q1⟩:=r1.get (i:=j) (x:=vs[j]) (by simp [hv])
 obtain ⟨u',e2,q2⟩:=r2.get (i:=j) (x:=ws[j]) (by simp [hw])
 obtain ⟨v,e3,q3⟩:=i1.get (i:=j) (d:=ds[j]) (by simp [hd])
 obtain ⟨w,e4,q4⟩:=i2.get (i:=j) (d:=es[j]) (by simp [he])
 have a1 : its.toArray[j] = u:=by have z:=(List.getElem?_eq_some_iff.mp e1).2; simpa using z
 have a2 : jts.toArray[j] = u':=by have z:=(List.getElem?_eq_some_iff.mp e2).2; simpa using z
 have a3 : vs[j] = v:=by simpa [hv] using e3
 have a4 : ws[j] = w:=by simpa [hw] using e4
 have a5 : ds.getD j .non = ds[j]:=by simp [List.getD,hd]
 have a6 : es.getD j .non = es[j]:=by simp [List.getD,he]
 rw [a1,a2,a5,a6]
 exact ih (Bo p1 (j:=j) (by simp [hd])) (Bo p2 (j:=j) (by simp [he])) (a3 ▸ q3) (a4 ▸ q4) q1 q2
theorem ve {xs ys : List D} (j : Nat) (x y : D) (h1 : xs[j]? = some x) (h2 : ys[j]? = some y) : eqD (xs.getD j .non) (ys.getD j .non) = eqD x y:=by
 simp [List.getD,h1,h2]
abbrev Tri (A : Around) (s : Shared) (u1 u2 : Value) (b : Bool) : Prop:=SeqAt.RcAt A s u1 u2 b/\SeqAt.EqAt A s u1 u2 b/\SeqAt.RcNeAt A s u1 u2 (!b)
theorem bt {A : Around} {v1 v2 : V} {d1 d2 : D} {u1 u2 : Value} (p1 : ah 0 d1 = true) (p2 : ah 0 d2 = true) (i1 : Is X.K H v1 d1) (i2 : Is X.K H v2 d2) (r1 : aN v1 u1) (r2 : aN v2 u2) : Tri A s u1 u2 (eqD d1 d2):=by
 cases i1 with
 | non =>
  cases r1
  cases i2 with
  | non =>
   cases r2
   rw [qX]
   exact ⟨SeqAt.RcAt.none_none,SeqAt.EqAt.same _,SeqAt.RcNeAt.none_none⟩
  | bl b =>
   cases r2
   rw [tO]
   exact ⟨SeqAt.RcAt.none_bool _,SeqAt.EqAt.none_bool _,SeqAt.RcNeAt.none_bool _⟩
  | int b =>
   obtain ⟨t',rfl⟩:=r2
   rw [qY]
   exact ⟨SeqAt.RcAt.none_int _ _,SeqAt.EqAt.none_int _ _,SeqAt.RcNeAt.none_int _ _⟩
  | str b =>
   obtain ⟨t',rfl⟩:=r2
   rw [qZ]
   exact ⟨SeqAt.RcAt.none_str _ _,SeqAt.EqAt.none_str _ _,SeqAt.RcNeAt.none_str _ _⟩
  | ty=>simp [ah] at p2
  | dk=>simp [ah] at p2
  | dt=>simp [ah] at p2
  | tup=>simp [ah] at p2
  | lst=>simp [ah] at p2
 | bl a =>
  cases r1
  cases i2 with
  | non =>
   cases r2
   rw [tP]
   exact ⟨SeqAt.RcAt.bool_none _,SeqAt.EqAt.bool_none _,SeqAt.RcNeAt.bool_none _⟩
  | bl b =>
   cases r2
   rw [w9]
   exact ⟨SeqAt.RcAt.bool_bool _ _,SeqAt.EqAt.bool_bool _ _,SeqAt.RcNeAt.bool_bool _ _⟩
  | int b =>
   obtain ⟨t',rfl⟩:=r2
   rw [tQ,← Bool.beq_eq_decide_eq]
   exact ⟨SeqAt.RcAt.bool_int _ _ _,SeqAt.EqAt.bool_int _ _ _,SeqAt.RcNeAt.bool_int _ _ _⟩
  | str b =>
   obtain ⟨t',rfl⟩:=r2
   rw [tR]
   exact ⟨SeqAt.RcAt.bool_str _ _ _,SeqAt.EqAt.bool_str _ _ _,SeqAt.RcNeAt.bool_str _ _ _⟩
  | ty=>simp [ah] at p2
  | dk=>simp [ah] at p2
  | dt=>simp [ah] at p2
  | tup=>simp [ah] at p2
  | lst=>simp [ah] at p2
 | int a =>
  obtain ⟨t,rfl⟩:=r1
  cases i2 with
  | non =>
   cases r2
   rw [re]
   exact ⟨SeqAt.RcAt.int_none _ _,SeqAt.EqAt.int_none _ _,SeqAt.RcNeAt.int_none _ _⟩
  | bl b =>
   cases r2
   rw [tS,← Bool.beq_eq_decide_eq]
   exact ⟨SeqAt.RcAt.int_bool _ _ _,SeqAt.EqAt.int_bool _ _ _,SeqAt.RcNeAt.int_bool _ _ _⟩
  | int b =>
   obtain ⟨t',rfl⟩:=r2
   rw [rf,← Bool.beq_eq_decide_eq]
   exact ⟨SeqAt.RcAt.int_int _ _ _ _,SeqAt.EqAt.int_int _ _ _ _,SeqAt.RcNeAt.int_int _ _ _ _⟩
  | str b =>
   obtain ⟨t',rfl⟩:=r2
   rw [rg]
   exact ⟨SeqAt.RcAt.int_str _ _ _ _,SeqAt.EqAt.int_str _ _ _ _,SeqAt.RcNeAt.int_str _ _ _ _⟩
  | ty=>simp [ah] at p2
  | dk=>simp [ah] at p2
  | dt=>simp [ah] at p2
  | tup=>simp [ah] at p2
  | lst=>simp [ah] at p2
 | str a =>
  obtain ⟨t,rfl⟩:=r1
  cases i2 with
  | non =>
   cases r2
   rw [rh]
   exact ⟨SeqAt.RcAt.str_none _ _,SeqAt.EqAt.str_none _ _,SeqAt.RcNeAt.str_none _ _⟩
  | bl b =>
   cases r2
   rw [tT]
   exact ⟨SeqAt.RcAt.str_bool _ _ _,SeqAt.EqAt.str_bool _ _ _,SeqAt.RcNeAt.str_bool _ _ _⟩
  | int b =>
   obtain ⟨t',rfl⟩:=r2
   rw [ri]
   exact ⟨SeqAt.RcAt.str_int _ _ _ _,SeqAt.EqAt.str_int _ _ _ _,SeqAt.RcNeAt.str_int _ _ _ _⟩
  | str b =>
   obtain ⟨t',rfl⟩:=r2
   rw [kE,← Bool.beq_eq_decide_eq]
   exact ⟨SeqAt.RcAt.str_str _ _ _ _,SeqAt.EqAt.str_str _ _ _ _,SeqAt.RcNeAt.str_str _ _ _ _⟩
  | ty=>simp [ah] at p2
  | dk=>simp [ah] at p2
  | dt=>simp [ah] at p2
  | tup=>simp [ah] at p2
  | lst=>simp [ah] at p2
 | ty=>simp [ah] at p1
 | dk=>simp [ah] at p1
 | dt=>simp [ah] at p1
 | tup=>simp [ah] at p1
 | lst=>simp [ah] at p1
theorem Bp (I : Inv X pins σ H s) : ∀ (n : Nat) {A : Around} {v1 v2 : V} {d1 d2 : D} {u1 u2 : Value},A.units + n < cLine->ah n d1 = true->ah n d2 = true->Is X.K H v1 d1->Is X.K H v2 d2->aN v1 u1->aN v2 u2->Tri A s u1 u2 (eqD d1 d2):=by
 intro n
 induction n with
 | zero=>exact fun _ p1 p2 i1 i2 r1 r2=>bt p1 p2 i1 i2 r1 r2
 | succ n ih =>
  intro A v1 v2 d1 d2 u1 u2 hu p1 p2 i1 i2 r1 r2
  have hu0 : A.units < cLine:=by omega
  have ih' : ∀ {v1 v2 : V} {d1 d2 : D} {u1 u2 : Value},ah n d1 = true->ah n d2 = true->Is X.K H v1 d1->Is X.K H v2 d2->aN v1 u1->aN v2 u2->SeqAt.EqAt A.in1 s u1 u2 (eqD d1 d2):=fun p1 p2 i1 i2 r1 r2=>(ih (A:=A.in1) (by show A.units + 1 + n < cLine; omega) p1 p2 i1 i2 r1 r2).2.1
  cases i1 with
  | tup h1 k1 =>
   cases r1
   obtain ⟨its,rv1,t1,z1⟩:=I.tuple h1
   have t1' : s.heap.IsTuple _ its.toArray:=t1
   have q1:=p1
   simp only [ah] at q1
   cases i2 with
   | tup h2 k2 =>
    cases r2
    obtain ⟨jts,rv2,t2,z2⟩:=I.tuple h2
    have t2' : s.heap.IsTuple _ jts.toArray:=t2
    have q2:=p2
    simp only [ah] at q2
    rename_i a1 vs ds a2 ws es
    have he:=rq (A:=A.in1) (p:=ah n) ih' k1 k2 rv1 rv2 q1 q2
    have eqv : ((List.range (min its.toArray.size jts.toArray.size)).all (fun j=>eqD (ds.getD j .non) (es.getD j .non)) && its.toArray.size == jts.toArray.size) = eqD (.tup ds) (.tup es):=by
     rw [eqD,List.size_toArray,List.size_toArray,← rv1.length,← rv2.length,k1.length,k2.length]
     by_cases hl : ds.length = es.length
     ·rw [← hl,Nat.min_self,beq_self_eq_true,Bool.and_true]
      exact iE _ hl fun j x y e1 e2=>ve j x y e1 e2
     ·rw [uX hl,beq_eq_false_iff_ne.mpr hl,Bool.and_false]
    have rc:=SeqAt.RcAt.tuples t1' t2' hu0 he
    have rn:=SeqAt.RcNeAt.tuples t1' t2' hu0 he
    rw [eqv] at rc rn
    refine ⟨rc, ?_,rn⟩
    by_cases ha : a1 = a2
    ·subst ha
     rw [vc I (n + 1) (.tup h1 k1) (.tup h2 k2) p1]
     exact SeqAt.EqAt.same _
    ·exact SeqAt.EqAt.of_refs ha rc
   | lst h2 k2 =>
    cases r2
    obtain ⟨jts,rv2,t2,z2⟩:=I.list h2
    rw [show eqD (.tup _) (.lst _) = false by simp only [eqD]]
    exact ⟨SeqAt.RcAt.tuple_list t1' t2.isList hu0,SeqAt.EqAt.tuple_list t1' t2.isList hu0,SeqAt.RcNeAt.tuple_list t1' t2.isList hu0⟩
   | ty=>simp [ah] at p2
   | dk=>simp [ah] at p2
   | dt=>simp [ah] at p2
   | non=>cases r2; simp only [eqD]; exact ⟨SeqAt.RcAt.tuple_none t1' hu0,SeqAt.EqAt.tuple_none t1' hu0,SeqAt.RcNeAt.tuple_none t1' hu0⟩
   | bl=>cases r2; simp only [eqD]; exact ⟨SeqAt.RcAt.tuple_bool _ t1' hu0,SeqAt.EqAt.tuple_bool _ t1' hu0,SeqAt.RcNeAt.tuple_bool _ t1' hu0⟩
   | int=>obtain ⟨t,rfl⟩:=r2; simp only [eqD]; exact ⟨SeqAt.RcAt.tuple_int _ _ t1' hu0,SeqAt.EqAt.tuple_int _ _ t1' hu0,SeqAt.RcNeAt.tuple_int _ _ t1' hu0⟩
   | str=>obtain ⟨t,rfl⟩:=r2; simp only [eqD]; exact ⟨SeqAt.RcAt.tuple_str _ _ t1' hu0,SeqAt.EqAt.tuple_str _ _ t1' hu0,SeqAt.RcNeAt.tuple_str _ _ t1' hu0⟩
  | lst h1 k1 =>
   cases r1
   obtain ⟨its,rv1,t1,z1⟩:=I.list h1
   have t1' : s.heap.IsList _ its.toArray:=t1.isList
   have q1:=p1
   simp only [ah] at q1
   cases i2 with
   | lst h2 k2 =>
    cases r2
    obtain ⟨jts,rv2,t2,z2⟩:=I.list h2
    have t2' : s.heap.IsList _ jts.toArray:=t2.isList
    have q2:=p2
    simp only [ah] at q2
    rename_i a1 vs ds a2 ws es
    have he:=rq (A:=A.in1) (p:=ah n) ih' k1 k2 rv1 rv2 q1 q2
    have both : SeqAt.RcAt A s (.ref a1) (.ref a2) (eqD (.lst ds) (.lst es))/\SeqAt.RcNeAt A s (.ref a1) (.ref a2) (!eqD (.lst ds) (.lst es)):=by
     by_cases hl : ds.length = es.length
     ·have hs : its.toArray.size = jts.toArray.size:=by rw [List.size_toArray,List.size_toArray,← rv1.length,← rv2.length,k1.length,k2.length]; exact hl
      have eqv : (List.range its.toArray.size).all (fun j=>eqD (ds.getD j .non) (es.getD j .non)) = eqD (.lst ds) (.lst es):=by
       rw [eqD,List.size_toArray,← rv1.length,k1.length]
       exact iE _ hl fun j x y e1 e2=>ve j x y e1 e2
      have rc:=SeqAt.RcAt.lists t1' t2' hs hu0 he
      have rn:=SeqAt.RcNeAt.lists t1' t2' hs hu0 he
      rw [eqv] at rc rn
      exact ⟨rc,rn⟩
     ·have hs : (its.toArray.size != jts.toArray.size) = true:=by rw [List.size_toArray,List.size_toArray,← rv1.length,← rv2.length,k1.length,k2.length]; exact bne_iff_ne.mpr hl
      rw [eqD,uX hl]
      exact ⟨SeqAt.RcAt.lists_lengths t1' t2' hs hu0,SeqAt.RcNeAt.lists_lengths t1' t2' hs hu0⟩
    refine ⟨both.1, ?_,both.2⟩
    by_cases ha : a1 = a2
    ·subst ha
     rw [vc I (n + 1) (.lst h1 k1) (.lst h2 k2) p1]
     exact SeqAt.EqAt.same _
    ·exact SeqAt.EqAt.of_refs ha both.1
   | tup h2 k2 =>
    cases r2
    obtain ⟨jts,rv2,t2,z2⟩:=I.tuple h2
    have t2' : s.heap.IsTuple _ jts.toArray:=t2
    rw [show eqD (.lst _) (.tup _) = false by simp only [eqD]]
    exact ⟨SeqAt.RcAt.list_tuple t1' t2' hu0,SeqAt.EqAt.list_tuple t1' t2' hu0,SeqAt.RcNeAt.list_tuple t1' t2' hu0⟩
   | ty=>simp [ah] at p2
   | dk=>simp [ah] at p2
   | dt=>simp [ah] at p2
   | non=>cases r2; simp only [eqD]; exact ⟨SeqAt.RcAt.list_none t1' hu0,SeqAt.EqAt.list_none t1' hu0,SeqAt.RcNeAt.list_none t1' hu0⟩
   | bl=>cases r2; simp only [eqD]; exact ⟨SeqAt.RcAt.list_bool _ t1' hu0,SeqAt.EqAt.list_bool _ t1' hu0,SeqAt.RcNeAt.list_bool _ t1' hu0⟩
   | int=>obtain ⟨t,rfl⟩:=r2; simp only [eqD]; exact ⟨SeqAt.RcAt.list_int _ _ t1' hu0,SeqAt.EqAt.list_int _ _ t1' hu0,SeqAt.RcNeAt.list_int _ _ t1' hu0⟩
   | str=>obtain ⟨t,rfl⟩:=r2; simp only [eqD]; exact ⟨SeqAt.RcAt.list_str _ _ t1' hu0,SeqAt.EqAt.list_str _ _ t1' hu0,SeqAt.RcNeAt.list_str _ _ t1' hu0⟩
  | ty=>simp [ah] at p1
  | dk=>simp [ah] at p1
  | dt=>simp [ah] at p1
  | non =>
   cases i2 with
   | tup h2 k2=>cases r1; cases r2; obtain ⟨jts,rv2,t2,z2⟩:=I.tuple h2; have t2' : s.heap.IsTuple _ jts.toArray:=t2; simp only [eqD]; exact ⟨SeqAt.RcAt.none_tuple t2' hu0,SeqAt.EqAt.none_tuple t2' hu0,SeqAt.RcNeAt.none_tuple t2' hu0⟩
   | lst h2 k2=>cases r1; cases r2; obtain ⟨jts,rv2,t2,z2⟩:=I.list h2; simp only [eqD]; exact ⟨SeqAt.RcAt.none_list t2.isList hu0,SeqAt.EqAt.none_list t2.isList hu0,SeqAt.RcNeAt.none_list t2.isList hu0⟩
   | ty=>simp [ah] at p2
   | dk=>simp [ah] at p2
   | dt=>simp [ah] at p2
   | non=>exact bt (X:=X) (H:=H) (by simp [ah]) (by simp [ah]) .non .non r1 r2
   | bl x=>exact bt (X:=X) (H:=H) (by simp [ah]) (by simp [ah]) .non (.bl x) r1 r2
   | int x=>exact bt (X:=X) (H:=H) (by simp [ah]) (by simp [ah]) .non (.int x) r1 r2
   | str x=>exact bt (X:=X) (H:=H) (by simp [ah]) (by simp [ah]) .non (.str x) r1 r2
  | bl y =>
   cases i2 with
   | tup h2 k2=>cases r1; cases r2; obtain ⟨jts,rv2,t2,z2⟩:=I.tuple h2; have t2' : s.heap.IsTuple _ jts.toArray:=t2; simp only [eqD]; exact ⟨SeqAt.RcAt.bool_tuple _ t2' hu0,SeqAt.EqAt.bool_tuple _ t2' hu0,SeqAt.RcNeAt.bool_tuple _ t2' hu0⟩
   | lst h2 k2=>cases r1; cases r2; obtain ⟨jts,rv2,t2,z2⟩:=I.list h2; simp only [eqD]; exact ⟨SeqAt.RcAt.bool_list _ t2.isList hu0,SeqAt.EqAt.bool_list _ t2.isList hu0,SeqAt.RcNeAt.bool_list _ t2.isList hu0⟩
   | ty=>simp [ah] at p2
   | dk=>simp [ah] at p2
   | dt=>simp [ah] at p2
   | non=>exact bt (X:=X) (H:=H) (by simp [ah]) (by simp [ah]) (.bl y) .non r1 r2
   | bl x=>exact bt (X:=X) (H:=H) (by simp [ah]) (by simp [ah]) (.bl y) (.bl x) r1 r2
   | int x=>exact bt (X:=X) (H:=H) (by simp [ah]) (by simp [ah]) (.bl y) (.int x) r1 r2
   | str x=>exact bt (X:=X) (H:=H) (by simp [ah]) (by simp [ah]) (.bl y) (.str x) r1 r2
  | int y =>
   cases i2 with
   | tup h2 k2=>obtain ⟨t,rfl⟩:=r1; cases r2; obtain ⟨jts,rv2,t2,z2⟩:=I.tuple h2; have t2' : s.heap.IsTuple _ jts.toArray:=t2; simp only [eqD]; exact ⟨SeqAt.RcAt.int_tuple _ _ t2' hu0,SeqAt.EqAt.int_tuple _ _ t2' hu0,SeqAt.RcNeAt.int_tuple _ _ t2' hu0⟩
   | lst h2 k2=>obtain ⟨t,rfl⟩:=r1; cases r2; obtain ⟨jts,rv2,t2,z2⟩:=I.list h2; simp only [eqD]; exact ⟨SeqAt.RcAt.int_list _ _ t2.isList hu0,SeqAt.EqAt.int_list _ _ t2.isList hu0,SeqAt.RcNeAt.int_list _ _ t2.isList hu0⟩
   | ty=>simp [ah] at p2
   | dk=>simp [ah] at p2
   | dt=>simp [ah] at p2
   | non=>exact bt (X:=X) (H:=H) (by simp [ah]) (by simp [ah]) (.int y) .non r1 r2
   | bl x=>exact bt (X:=X) (H:=H) (by simp [ah]) (by simp [ah]) (.int y) (.bl x) r1 r2
   | int x=>exact bt (X:=X) (H:=H) (by simp [ah]) (by simp [ah]) (.int y) (.int x) r1 r2
   | str x=>exact bt (X:=X) (H:=H) (by simp [ah]) (by simp [ah]) (.int y) (.str x) r1 r2
  | str y =>
   cases i2 with
   | tup h2 k2=>obtain ⟨t,rfl⟩:=r1; cases r2; obtain ⟨jts,rv2,t2,z2⟩:=I.tuple h2; have t2' : s.heap.IsTuple _ jts.toArray:=t2; simp only [eqD]; exact ⟨SeqAt.RcAt.str_tuple _ _ t2' hu0,SeqAt.EqAt.str_tuple _ _ t2' hu0,SeqAt.RcNeAt.str_tuple _ _ t2' hu0⟩
   | lst h2 k2=>obtain ⟨t,rfl⟩:=r1; cases r2; obtain ⟨jts,rv2,t2,z2⟩:=I.list h2; simp only [eqD]; exact ⟨SeqAt.RcAt.str_list _ _ t2.isList hu0,SeqAt.EqAt.str_list _ _ t2.isList hu0,SeqAt.RcNeAt.str_list _ _ t2.isList hu0⟩
   | ty=>simp [ah] at p2
   | dk=>simp [ah] at p2
   | dt=>simp [ah] at p2
   | non=>exact bt (X:=X) (H:=H) (by simp [ah]) (by simp [ah]) (.str y) .non r1 r2
   | bl x=>exact bt (X:=X) (H:=H) (by simp [ah]) (by simp [ah]) (.str y) (.bl x) r1 r2
   | int x=>exact bt (X:=X) (H:=H) (by simp [ah]) (by simp [ah]) (.str y) (.int x) r1 r2
   | str x=>exact bt (X:=X) (H:=H) (by simp [ah]) (by simp [ah]) (.str y) (.str x) r1 r2
@[simp] def dEq : D->D->Option (D × Bool):=fun x y=>if ah 40 x = true/\ah 40 y = true then some (.bl (eqD x y),false) else none
@[simp] def dNe : D->D->Option (D × Bool):=fun x y=>if ah 40 x = true/\ah 40 y = true then some (.bl (!eqD x y),false) else none
theorem cW (hu : X.A.units + 40 < cLine) : OpR X (compareOp .Eq) (rD X.K dEq):=by
 intro pins s σ H x y v u Q I rx ry q
 obtain ⟨B,dx,dy,d,b,sB,ix,iy,e,q⟩:=q
 unfold dEq at e
 split at e
 ·rename_i hp
  cases e
  exact (Bp I 40 hu hp.1 hp.2 (ix.mono sB) (iy.mono sB) rx ry).1 _ _ _ _ ⟨.bl _,H,I,rfl,q.one sB (.bl _)⟩
 ·cases e
theorem tU (hu : X.A.units + 40 < cLine) : OpR X (compareOp .NotEq) (rD X.K dNe):=by
 intro pins s σ H x y v u Q I rx ry q
 obtain ⟨B,dx,dy,d,b,sB,ix,iy,e,q⟩:=q
 unfold dNe at e
 split at e
 ·rename_i hp
  cases e
  exact (Bp I 40 hu hp.1 hp.2 (ix.mono sB) (iy.mono sB) rx ry).2.2 _ _ _ _ ⟨.bl _,H,I,rfl,q.one sB (.bl _)⟩
 ·cases e
end
section
variable {X : Cx} {a b e : Expr} {pos : Pos}
theorem vg {K : PySem.W.Frag} {H : Hp} {vs : List V} {ds : List D} {i : Int} {d : D} (h : IsL K H vs ds) (e : atI ds i = some d) : ∃ v,atI vs i = some v/\Is K H v d:=by
 unfold atI at e ⊢
 rw [h.length]
 cases q : ixN ds.length i with
 | none=>rw [q] at e; cases e
 | some j=>rw [q] at e; exact h.get e
@[simp] def ixD : D->D->Option (D × Bool)
 | .lst ds,.int i=>(atI ds i).map fun d=>(d,false)
 | .tup ds,.int i=>(atI ds i).map fun d=>(d,false)
 | .str z,.int i=>if z.length<=sizeLine then (atI z.cps.toList i).map fun c=>(.str ⟨#[c]⟩,false) else none
 | _,_=>none
theorem EB : IxR X (rD X.K ixD):=by
 intro value slice pins s σ H x y v u Q I rx ry q hs
 obtain ⟨B,dx,dy,d,b,sB,ix,iy,e,q⟩:=q
 cases ix <;> cases iy <;> try (simp [ixD] at e; done)
 ·simp only [ixD] at e
  split at e
  ·rename_i hz
   obtain ⟨c,e1,e2⟩:=oY e
   cases e2
   exact tK value slice pins s σ H _ _ v u Q I rx ry ⟨_,_,c,rfl,rfl,hz,e1,q.one sB (.str _)⟩ hs
  ·cases e
 ·rename_i h hl i
  simp only [ixD] at e
  obtain ⟨c,e1,e2⟩:=oY e
  cases e2
  obtain ⟨w,h1,h2⟩:=vg hl e1
  exact xB value slice pins s σ H _ _ v u Q I rx ry ⟨_,_,_,w,rfl,rfl,aX sB h,h1,q.one sB h2⟩ hs
 ·rename_i h hl i
  simp only [ixD] at e
  obtain ⟨c,e1,e2⟩:=oY e
  cases e2
  obtain ⟨w,h1,h2⟩:=vg hl e1
  exact zN value slice pins s σ H _ _ v u Q I rx ry ⟨_,_,_,w,rfl,rfl,sB.seq h,h1,q.one sB h2⟩ hs
theorem a7 {fa fb : FE} (ha : JE X a fa) (hb : JE X b fb) (hs : px b:=by intro _ _; rfl) : JE X (.Subscript a b pos) (f2 ixD fa fb):=PE.to (AO EB ha hb hs) fun _ _ _ h=>zR h
abbrev FO:=Env->Option (Option Int)
def tDO (K : PySem.W.Frag) (f : FO) : TO:=fun σ H Q=>∃ (B : Hp) (ρ : Env) (o : Option Int),aE B H/\RepE K B σ ρ/\f ρ = some o/\∀ H',aE H H'->Q o H'
abbrev JO (X : Cx) (e : Option Expr) (f : FO) : Prop:=PO X e (tDO X.K f)
@[simp] def ir : FO:=fun _=>some none
@[simp] def dW (f : FE) : FO:=fun ρ=>match f ρ with | some (.int i,_)=>some (some i) | _=>none
theorem gS : JO X none ir:=fun pins s σ H Q I h=>zI pins s σ H Q I (by
 obtain ⟨B,ρ,o,sB,r,e,q⟩:=h
 cases e
 exact q H (.refl H))
theorem eK {f : FE} (h : JE X e f) : JO X (some e) (dW f):=fun pins s σ H Q I q=>zJ h pins s σ H Q I (by
 obtain ⟨B,ρ,o,sB,r,e,q⟩:=q
 unfold dW at e
 split at e
 ·rename_i i b' ef
  cases e
  refine ⟨B,ρ,_,_,sB,r,ef,fun v H1 N1 x1 i1 _=>?_⟩
  cases i1
  exact ⟨i,rfl,q H1 x1.hh⟩
 ·cases e)
def ij (ds : List D) (lo hi : Option Int) : List D:=(ds.drop (HT.sIx ds.length 0 lo)).take (HT.sIx ds.length ds.length hi - HT.sIx ds.length 0 lo)
theorem pG {K : PySem.W.Frag} {H : Hp} {vs : List V} {ds : List D} {lo hi : Option Int} (h : IsL K H vs ds) : IsL K H (nz vs lo hi) (ij ds lo hi):=by
 unfold nz ij
 rw [h.length]
 exact (h.drop _).take _
@[simp] def Fc (fa : FE) (fl fh : FO) : FE:=fun ρ=>(fa ρ).bind fun x=>(fl ρ).bind fun l=>(fh ρ).bind fun h=>match x.1 with
 | .lst ds=>some (.lst (ij ds l h),true)
 | .tup ds=>if HT.sIx ds.length 0 l = 0/\HT.sIx ds.length ds.length h = ds.length then none else some (.tup (ij ds l h),false)
 | _=>none
theorem bW.to {f : Value} {r r' : List V->Hp->VK->Prop} (h : bW X f r) (k : ∀ xs H Q,r' xs H Q->r xs H Q) : bW X f r':=fun pins s σ H xs us Q I rs q=>h pins s σ H xs us Q I rs (k xs H Q q)
variable {es : List Expr} {x : Str} {p : Pos} {id T : String}
theorem bF {f : List D->Option (D × Bool)} {fa : FA} (hc : bW X (.builtin id) (rDA X.K f)) (hm : X.mg x = none) (hv : bootBuiltins x = some (.builtin id)) (ha : JA X (e :: es) fa) (hg : Gl X x:=by rfl) (hn : x ≠ "__name__":=by decide) (hdb : (x == ("__debug__" : Str)) = false:=by decide)
  (he : starEach (e :: es) X.env = (false,eval e X.env) :: starEach es X.env:=by rfl) (hpl : (backTo pos (starEach es X.env)).any (·.1) = false:=by rfl) : JE X (.Call (.Name x p) (e :: es) [] pos) (fA f fa):=PE.to (qP hc hg hm hv ha hn hdb he hpl) fun _ _ _ h=>zS h
theorem gT {f : List D->Option (D × Bool)} {fa : FA} (hc : bW X (.type T) (rDA X.K f)) (hm : X.mg x = none) (hv : bootBuiltins x = some (.type T)) (ha : JA X (e :: es) fa) (hg : Gl X x:=by rfl) (hn : x ≠ "__name__":=by decide) (hdb : (x == ("__debug__" : Str)) = false:=by decide)
  (he : starEach (e :: es) X.env = (false,eval e X.env) :: starEach es X.env:=by rfl) (hpl : (backTo pos (starEach es X.env)).any (·.1) = false:=by rfl) : JE X (.Call (.Name x p) (e :: es) [] pos) (fA f fa):=PE.to (nR hc hg hm hv ha hn hdb he hpl) fun _ _ _ h=>zS h
@[simp] def dC : List D->Option (D × Bool)
 | [.lst ds]=>some (.int ds.length,false)
 | [.tup ds]=>some (.int ds.length,false)
 | [.str z]=>if z.length<=sizeLine then some (.int z.length,false) else none
 | _=>none
theorem f7 : bW X (.builtin "len") (rDA X.K dC):=by
 refine bW.to (bW.or p4 p5) fun xs H Q q=>?_
 obtain ⟨B,ds,d,b,sB,i,e,q⟩:=q
 cases i with
 | nil=>simp [dC] at e
 | cons i1 i2 =>
  cases i2 with
  | cons _ _=>cases i1 <;> simp [dC] at e
  | nil =>
   cases i1 <;> try (simp [dC] at e; done)
   ·simp only [dC] at e
    split at e
    ·rename_i hz
     cases e
     exact .inr ⟨_,rfl,hz,q.one sB (.int _)⟩
    ·cases e
   ·rename_i h hl
    simp only [dC] at e
    cases e
    refine .inl ⟨_,_,rfl,.inr (aX sB h), ?_⟩
    rw [hl.length]; exact q.one sB (.int _)
   ·rename_i h hl
    simp only [dC] at e
    cases e
    refine .inl ⟨_,_,rfl,.inl (sB.seq h), ?_⟩
    rw [hl.length]; exact q.one sB (.int _)
end
theorem bZ {A : Around} {k : Nat} (hr : Room k A) : A.units + 40 < cLine:=by have:=hr.un; omega
section
variable {X : Cx} {a b e : Expr} {pos : Pos} {x : Str} {p : Pos}
theorem xY {d : D} (h : ∃ u v,X.mg x = some u/\aN v u/\∀ B,Is X.K B v d) (hg : Gl X x:=by rfl) (hd : (x == ("__debug__" : Str)) = false:=by decide) : JE X (.Name x pos) (fC d):=by
 obtain ⟨u,v,hm,r,i⟩:=h
 exact zZ hg hm r i hd
@[simp] def vh : D->D->Option (D × Bool)
 | .int i,.int j=>some (.int (i + j),false)
 | .str i,.str j=>if i.length + j.length<=sizeLine then some (.str (i ++ j),false) else none
 | _,_=>none
theorem Ac : OpR X (binaryOp .Add) (rD X.K vh):=by
 refine fT (r:=rD X.K (orD Ck xW)) (lH DJ Cm) fun x y H Q q=>?_
 obtain ⟨B,dx,dy,d,b,sB,ix,iy,e,q⟩:=q
 refine ⟨B,dx,dy,d,b,sB,ix,iy, ?_,q⟩
 cases dx <;> cases dy <;> simp [vh] at e <;> simp [orD,Ck,xW,iop,sop,e]
@[simp] def Cw : D->D->Option (D × Bool):=DI
theorem xZ : OpR X (binaryOp .Mult) (rD X.K Cw):=DK
@[simp] def dLt : D->D->Option (D × Bool):=iLt
theorem lK : OpR X (compareOp .Lt) (rD X.K dLt):=E9
@[simp] def dLe : D->D->Option (D × Bool)
 | .int i,.int j=>some (.bl (decide (i<=j)),false)
 | .str i,.str j=>some (.bl (!decide (j.cps.toList < i.cps.toList)),false)
 | _,_=>none
theorem oe : OpR X (compareOp .LtE) (rD X.K dLe):=by
 refine fT (r:=rD X.K (orD iLe sLe)) (lH EA DN) fun x y H Q q=>?_
 obtain ⟨B,dx,dy,d,b,sB,ix,iy,e,q⟩:=q
 refine ⟨B,dx,dy,d,b,sB,ix,iy, ?_,q⟩
 cases dx <;> cases dy <;> simp [dLe] at e <;> simp [orD,iLe,sLe,iop,sop,e]
@[simp] def rz : D->Option (D × Bool)
 | .int i=>some (.int (-i),false)
 | _=>none
theorem Bq : UnR X (unaryOp .USub) (rDU X.K rz):=by
 intro pins s σ H x v Q I rx q
 obtain ⟨B,dx,d,b,sB,ix,e,q⟩:=q
 cases ix <;> try (simp [rz] at e; done)
 simp only [rz] at e
 cases e
 exact BS pins s σ H _ v Q I rx ⟨_,rfl,q.one sB (.int _)⟩
@[simp] def wA : D->D->Option Bool
 | .non,.non=>some true
 | _,.non=>some false
 | .bl a,.bl b=>some (a == b)
 | _,.bl _=>some false
 | _,_=>none
@[simp] def dIs : D->D->Option (D × Bool):=fun x y=>(wA x y).map fun b=>(.bl b,false)
@[simp] def jL : D->D->Option (D × Bool):=fun x y=>(wA x y).map fun b=>(.bl (!b),false)
theorem vi {K : PySem.W.Frag} {B : Hp} {x y : V} {v u : Value} {dx dy : D} {k : Bool} (ix : Is K B x dx) (iy : Is K B y dy) (rx : aN x v) (ry : aN y u) (e : wA dx dy = some k) : plainIs v u = true/\(v == u) = k:=by
 cases iy <;> (first | (cases dx <;> simp [wA] at e; done) | skip)
 all_goals (cases ix)
 all_goals (first | (obtain ⟨t,rfl⟩:=rx) | cases rx)
 all_goals (cases ry)
 all_goals (simp only [wA,Option.some.injEq] at e; subst e)
 all_goals (first | exact ⟨rfl,rfl⟩ | skip)
 all_goals (rename_i c d; cases c <;> cases d <;> exact ⟨rfl,rfl⟩)
theorem Ad : OpR X (compareOp .Is) (rD X.K dIs):=by
 intro pins s σ H x y v u Q I rx ry q
 obtain ⟨B,dx,dy,d,b,sB,ix,iy,e,q⟩:=q
 obtain ⟨k,ek,e⟩:=oY e
 cases e
 obtain ⟨h1,h2⟩:=vi ix iy rx ry ek
 refine wpAny_is_plain h1 ⟨.bl k,H,I,by rw [h2]; rfl,q.one sB (.bl _)⟩
theorem vj : OpR X (compareOp .IsNot) (rD X.K jL):=by
 intro pins s σ H x y v u Q I rx ry q
 obtain ⟨B,dx,dy,d,b,sB,ix,iy,e,q⟩:=q
 obtain ⟨k,ek,e⟩:=oY e
 cases e
 obtain ⟨h1,h2⟩:=vi ix iy rx ry ek
 refine wpAny_isNot_plain h1 ⟨.bl (!k),H,I,by rw [h2]; rfl,q.one sB (.bl _)⟩
@[simp] def dH : D->Bool
 | .non=>true | .bl _=>true | .int _=>true | .str _=>true
 | _=>false
def inD (x : D) (ds : List D) : Bool:=ds.any fun y=>eqD y x
@[simp] def eM : D->Option (List D)
 | .lst ds=>some ds
 | .tup ds=>some ds
 | _=>none
@[simp] def dIn : D->D->Option (D × Bool):=fun x y=>(eM y).bind fun ds=>if dH x = true/\ds.all dH = true then some (.bl (inD x ds),false) else none
@[simp] def dX : D->D->Option (D × Bool):=fun x y=>(eM y).bind fun ds=>if dH x = true/\ds.all dH = true then some (.bl (!inD x ds),false) else none
theorem lL {K : PySem.W.Frag} {B : Hp} {v : V} {d : D} (i : Is K B v d) (h : dH d = true) : im v = true:=by
 cases i <;> first | rfl | (simp [dH] at h)
theorem EC {K : PySem.W.Frag} {B : Hp} {v w : V} {d e : D} (i : Is K B v d) (j : Is K B w e) (h : dH d = true) (h' : dH e = true) : eqV v w = eqD d e:=by
 cases i <;> (first | (simp [dH] at h; done) | skip)
 all_goals (cases j <;> (first | (simp [dH] at h'; done) | skip))
 all_goals (simp only [eqV,eqD,Bool.beq_eq_decide_eq])
theorem r6 {K : PySem.W.Frag} {B : Hp} : ∀ {vs : List V} {ds : List D},IsL K B vs ds->ds.all dH = true->vs.all im = true
 | _,_,.nil,_=>rfl
 | _,_,.cons i t,h=>by
  rw [List.all_cons,Bool.and_eq_true] at h
  rw [List.all_cons,lL i h.1,r6 t h.2]; rfl
theorem ya {K : PySem.W.Frag} {B : Hp} {v : V} {d : D} (j : Is K B v d) (hd : dH d = true) : ∀ {vs : List V} {ds : List D},IsL K B vs ds->ds.all dH = true->inV v vs = inD d ds
 | _,_,.nil,_=>rfl
 | _,_,.cons i t,h=>by
  rw [List.all_cons,Bool.and_eq_true] at h
  have e:=ya j hd t h.2
  unfold inV inD at *
  rw [List.any_cons,List.any_cons,e,EC i j h.1 hd]
theorem DQ : OpR X (compareOp .In) (rD X.K dIn):=by
 refine fT wq fun x y H Q q=>?_
 obtain ⟨B,dx,dy,d,b,sB,ix,iy,e,q⟩:=q
 obtain ⟨ds,es,e⟩:=oX e
 split at e
 ·rename_i hf
  cases e
  cases iy <;> simp only [eM] at es <;> try (cases es; done)
  ·rename_i h hl
   cases es
   exact ⟨_,_,rfl,.inr (aX sB h),lL ix hf.1,r6 hl hf.2,by rw [if_neg (by decide),ya ix hf.1 hl hf.2]; exact q.one sB (.bl _)⟩
  ·rename_i h hl
   cases es
   exact ⟨_,_,rfl,.inl (sB.seq h),lL ix hf.1,r6 hl hf.2,by rw [if_neg (by decide),ya ix hf.1 hl hf.2]; exact q.one sB (.bl _)⟩
 ·cases e
theorem lM : OpR X (compareOp .NotIn) (rD X.K dX):=by
 refine fT p0 fun x y H Q q=>?_
 obtain ⟨B,dx,dy,d,b,sB,ix,iy,e,q⟩:=q
 obtain ⟨ds,es,e⟩:=oX e
 split at e
 ·rename_i hf
  cases e
  cases iy <;> simp only [eM] at es <;> try (cases es; done)
  ·rename_i h hl
   cases es
   exact ⟨_,_,rfl,.inr (aX sB h),lL ix hf.1,r6 hl hf.2,by rw [if_pos rfl,ya ix hf.1 hl hf.2]; exact q.one sB (.bl _)⟩
  ·rename_i h hl
   cases es
   exact ⟨_,_,rfl,.inl (sB.seq h),lL ix hf.1,r6 hl hf.2,by rw [if_pos rfl,ya ix hf.1 hl hf.2]; exact q.one sB (.bl _)⟩
 ·cases e
theorem f8 : bootBuiltins "len" = some (.builtin "len"):=PySem.boot_len
theorem Cy : bootBuiltins "list" = some (.type "list"):=by decide +kernel
theorem vk : bootBuiltins "tuple" = some (.type "tuple"):=by decide +kernel
@[simp] def Fd : List D->Option (D × Bool)
 | [.int i,.int j]=>some (.int (if j > i then j else i),false)
 | _=>none
@[simp] def Fe : List D->Option (D × Bool)
 | [.int i,.int j]=>some (.int (if j < i then j else i),false)
 | _=>none
@[simp] def Cz : D->String
 | .non=>"NoneType" | .bl _=>"bool" | .int _=>"int" | .str _=>"str" | .ty _=>"type" | .tup _=>"tuple" | .lst _=>"list" | .dk _ _=>"dict" | .dt _ _=>"dict"
@[simp] def DR : D->Bool
 | .ty _=>true
 | _=>false
@[simp] def Ae (t n : String) : Option (D × Bool) :=
 if n = "int" then some (.bl (t == "int" || t == "bool"),false) else if n = "bool" then some (.bl (t == "bool"),false) else if n = "str" then some (.bl (t == "str"),false)
 else if n = "list" then some (.bl (t == "list"),false) else if n = "tuple" then some (.bl (t == "tuple"),false) else none
@[simp] def Br : List D->Option (D × Bool)
 | [d,.ty n]=>if DR d = true then none else Ae (Cz d) n
 | _=>none
@[simp] def EU : D->Option (D × Bool)
 | .int i=>some (.int (Builtin.Int.intBits i),false)
 | _=>none
@[simp] def yc (f : FE) : FA:=fun ρ=>(f ρ).bind fun x=>eM x.1
theorem vn {tg : Expr} {f : FE} (h : JE X e f) : JI X tg e (yc f):=by
 intro pins s σ H R I q
 obtain ⟨B,ρ,ds,sB,r,e',q⟩:=q
 obtain ⟨x,ex,es⟩:=oX e'
 obtain ⟨xd,xb⟩:=x
 cases xd <;> simp only [eM] at es <;> try (cases es; done)
 ·cases es
  refine BL h pins s σ H R I ⟨B,ρ,_,_,sB,r,ex,fun v H1 N1 x1 i1 _=>?_⟩
  cases i1 with
  | @tup a vs _ ht hl =>
   refine ⟨a,rfl,⟨vs,aX x1.nh ht⟩,q _ H1 N1 x1 fun i H2 s2=>⟨fun d ed=>?_,fun hlen=>⟨vs,aX s2 ht,by rw [hl.length]; exact hlen⟩⟩⟩
   obtain ⟨v,ev,iv⟩:=hl.get ed
   refine ⟨⟨vs,v,aX s2 ht,ev⟩,fun y H3 hy=>?_⟩
   obtain ⟨rfl,hy⟩:=hy
   have:=hy vs (aX s2 ht)
   rw [ev] at this; cases this
   exact ⟨N1,.refl s2,iv⟩
 ·cases es
  refine z9 h pins s σ H R I ⟨B,ρ,_,_,sB,r,ex,fun v H1 N1 x1 i1 _=>?_⟩
  cases i1 with
  | @lst a vs _ ht hl =>
   refine ⟨a,rfl,⟨vs,x1.nh.seq ht⟩,q _ H1 N1 x1 fun i H2 s2=>⟨fun d ed=>?_,fun hlen=>⟨vs,s2.seq ht,by rw [hl.length]; exact hlen⟩⟩⟩
   obtain ⟨v,ev,iv⟩:=hl.get ed
   refine ⟨⟨vs,v,s2.seq ht,ev⟩,fun y H3 hy=>?_⟩
   obtain ⟨rfl,hy⟩:=hy
   have:=hy vs (s2.seq ht)
   rw [ev] at this; cases this
   exact ⟨N1,.refl s2,iv⟩
def fg (lo : Int) (n : Nat) : List D:=(List.range n).map fun (k : Nat)=>.int (lo + (k : Int))
theorem ye {K : PySem.W.Frag} {B : Hp} (lo : Int) (n : Nat) : pA K (Itr lo n) B (fg lo n):=by
 intro i H s
 unfold fg
 refine ⟨fun d ed=>?_,fun hl=>by rw [List.length_map,List.length_range] at hl; exact hl⟩
 rw [List.getElem?_map] at ed
 obtain ⟨k,ek,ed⟩:=oY ed
 have hk:=List.getElem?_eq_some_iff.mp ek
 obtain ⟨hlt,hk⟩:=hk
 rw [List.length_range] at hlt
 rw [List.getElem_range] at hk
 subst hk
 subst ed
 refine ⟨hlt,fun x H' hy=>?_⟩
 obtain ⟨rfl,rfl⟩:=hy
 exact ⟨B,.refl s,.int _⟩
@[simp] def jM (f : FE) : FA:=fun ρ=>match f ρ with
 | some (.int j,_)=>if -1000<=j/\j<=1000 then some (fg 0 j.toNat) else none
 | _=>none
theorem r9 {tg : Expr} {f : FE} (hm : X.mg "range" = none) (h : JE X a f) (hg : Gl X "range":=by rfl) (hs : starEach [a] X.env = [(false,eval a X.env)]:=by rfl) : PI X tg (.Call (.Name "range" p) [a] [] pos) (tDR X.K (jM f)):=by
 refine PI.to (wj hg hm (ab h ag hs) hs) fun σ H R q=>?_
 obtain ⟨B,ρ,ds,sB,r,e',q⟩:=q
 unfold jM at e'
 split at e'
 ·rename_i j b' ef
  split at e'
  ·rename_i hj
   cases e'
   refine ⟨B,ρ,[.int j],sB,r,by simp [ae,ak,ef],fun vs H1 N1 x1 i1=>?_⟩
   cases i1 with
   | cons i1 i2 =>
    cases i1; cases i2
    exact ⟨j,rfl,by omega,by omega,q _ H1 N1 x1 fun _=>ye 0 j.toNat⟩
  ·cases e'
 ·cases e'
end
def Def (K : PySem.W.Frag) (x : Str) (st : Stmt) : Prop:=∃ (f : Addr) (fd : FuncData),Fun K x x st f fd/\PySem.W.nsIn K mainGlobals x = some (some (.ref f))
theorem def_mk {K : PySem.W.Frag} {x : Str} {st : Stmt} {f : Addr} {oc : Value} {od an : Option Addr} {osl : Array (Option Value)} {kV doc pm cdv ct : Value} (a : PySem.W.nsIn K mainGlobals x = some (some (.ref f)))
  (l : K.lookup f = some ⟨oc,od,.func (PySem.W.fnOf x x (eI st) (cq st) (au st) .none kV doc pm an cdv ct),osl⟩) (c : PySem.W.codeIn K cdv x = true) (k : PySem.W.keepIn K (.ref f) = true) : Def K x st:=⟨f,_,Cb l c k,a⟩
section
variable {P : Program} {w : World} {K : PySem.W.Frag} {mg : Str->Option Value} {base : Heap}
theorem Def.fn {x : Str} {st : Stmt} {N ps : List Str} {k : Nat} {g : FS} {h : Heap} (F : Def K x st) (X : K.In h) (G : h.Ns mainGlobals mg) (S : FnScope N ps (au st))
  (hbd : ∀ (kV doc pm : Value) (an : Option Addr) (cdv ct : Value) (us : List Value),us.length = ps.length->bindArgs (PySem.W.fnOf x x (eI st) (cq st) (au st) .none kV doc pm an cdv ct) ⟨us,[]⟩ = pure (ps.zip us))
  (hb : ∀ (f : Addr) (cdv : Value) (A : Around) (outer : List PySem.Env) (s : Shared) (H : Hp) (E : XK),Room k (A.deeper (envOfC x (au st) s.heap.objs.size f cdv))->JSs (l8 CX0 P w K mg base N x (au st) f cdv A outer s H E).nox (cq st) g) :
  Fn P w K mg base (k + 1) x (aT g ps.length (N.length - ps.length)):=by
 obtain ⟨f,fd,F1,a⟩:=F
 exact ⟨f,fd,ps,DO F1 S (hb f),PySem.W.mg_of X G a,F1.kp,F1.binds hbd⟩
end
def DS (H : Hp) : Prop:=∀ b,H b = none ∨ (∃ o xs,H b = some (.frz o (.lst xs))) ∨ ∃ q,H b = some (.tbl q)
def lN (tabs : List (Addr × Str)) (G : Hp) : Hp:=fun b=>match tabs.lookup b with | some q=>some (.tbl q) | none=>G b
theorem d6 {tabs : List (Addr × Str)} {G : Hp} {b : Addr} {q : Str} (e : tabs.lookup b = some q) : lN tabs G b = some (.tbl q):=by unfold lN; rw [e]
theorem f9 {tabs : List (Addr × Str)} {G : Hp} {b : Addr} (e : tabs.lookup b = none) : lN tabs G b = G b:=by unfold lN; rw [e]
theorem wB {P : Program} {w : World} {K : PySem.W.Frag} {mg mb : Str->Option Value} {k : Nat} {fa a : Addr} {fd : FuncData} {x : Str} {sp : Sp} {s₁ : Shared} {vs : List Value} {ns : List Int} (tabs : List (Addr × Str))
  (ht : ∀ b q,tabs.lookup b = some q->s₁.heap.get? b = some (PySem.W.tabObj #[])/\isCodeTable s₁.heap b) (hnt : PySem.W.noTabs K = true)
  (KX : K.In s₁.heap) (hns : s₁.heap.Ns mainGlobals mg) (hb : s₁.heap.Ns builtinsNs mb) (hbb : ∀ x : Str,x ≠ "__name__"->mb x = bootBuiltins x) (hlim : s₁.heap.NoLimit)
  (hbm : ∃ bm ob,mg "__builtins__" = some (.ref bm)/\bm ≠ builtinsNs/\s₁.heap.get? bm = some ob/\ob.cls = .type "module"/\ob.dict = some builtinsNs/\ob.data = .plain) (hg : s₁.gens = #[])
  (ha : s₁.heap.get? a = some { cls:=.type "list",data:=.seq vs.toArray }) (hi : IntsAre vs ns) (hl : ns.length<=sizeLine) (hr : Room k callerA)
  (F : ∀ base : Heap,K.In base->base.Ns mainGlobals mg->FnOk P w K mg base CX0 k fa fd [x] sp) (hbind : ∀ (s : Shared) (u : Value),BindsTo s fd ⟨[u],[]⟩ [(x,u)])
  (hsp : ∀ H : Hp,(∀ b q,tabs.lookup b = some q->H b = some (.tbl q))->SqL K H a (ns.map V.int)->sp [.ref a] H (fun v _=>v = .bl true) fun _ _ _=>False) :
  codeAny (model P w) callerA (.call (.ref fa) ⟨[.ref a],[]⟩) (fun r s'=>r = .ok (.ret (.bool true))/\OldK s₁.heap s'.heap/\s'.os = s₁.os/\AllBare s'.gens) s₁:=by
 have rv:=L2.fz hi
 have lenV:=hi.length
 have core : ∀ H : Hp,DS H->(∀ b q,tabs.lookup b = some q->H b = some (.tbl q))->SqL K H a (ns.map V.int)->HOk P w H s₁.heap->(∀ b q,H b = some (.tbl q)->s₁.heap.get? b = some (PySem.W.tabObj #[])/\isCodeTable s₁.heap b) ->
   (∀ b o u,H b = some (.frz o u)->b = a)->(∀ b o u,H b = some (.frz o u)->K.lookup b = none) ->
   codeAny (model P w) callerA (.call (.ref fa) ⟨[.ref a],[]⟩) (fun r s'=>r = .ok (.ret (.bool true))/\OldK s₁.heap s'.heap/\s'.os = s₁.os/\AllBare s'.gens) s₁:=by
  intro H hO hT hS hok hA hB hK
  have noA : ∀ {b : Addr} {o : Obj},s₁.heap.get? b = some o->(o.cls ≠ .none)->(o.cls ≠ .type "list")->H b = none:=fun {b o} e d d'=>by
   rcases hO b with q | ⟨ob,xs,q⟩ | ⟨u,q⟩
   ·exact q
   ·have e' : b = a:=hB b _ _ q
    subst e'
    rw [ha] at e; cases e
    exact absurd rfl d'
   ·rw [(hA b u q).1] at e; cases e
    exact absurd rfl d
  have noD : ∀ {b : Addr} {o : Obj} {es : Array DictEntry} {ep : Nat},s₁.heap.get? b = some o->o.data = .dict es ep->H b = none:=fun {b o es ep} e d=>by
   rcases hO b with q | ⟨ob,xs,q⟩ | ⟨u,q⟩
   ·exact q
   ·have e' : b = a:=hB b _ _ q
    subst e'
    rw [ha] at e; cases e
    cases d
   ·rw [(hA b u q).1] at e; cases e
    cases d
  have nsK : ∀ {b : Addr} {m : Str->Option Value},s₁.heap.Ns b m->(qJ s₁.heap H).Ns b m:=fun {b m} ⟨o,es,ep,e,d,r⟩=>⟨o,es,ep,lz e (noD e d),d,r⟩
  have hKb : K.In (qJ s₁.heap H):=fun b o e=>lz (KX b o e) (by
   rcases hO b with q | ⟨ob,xs,q⟩ | ⟨u,q⟩
   ·exact q
   ·rw [hK b _ _ q] at e; cases e
   ·have z:=(hA b u q).1
    rw [KX b o e] at z
    cases z
    have:=List.all_eq_true.mp hnt _ (PySem.W.mem_of_lookupK e)
    simp at this)
  have hM : Mod K mg (qJ s₁.heap H):=⟨hKb,nsK hns,⟨mb,nsK hb,hbb⟩,let ⟨mc,h1,h2⟩:=hlim; ⟨mc,nsK h1,h2⟩,by
   obtain ⟨bm,ob,b1,b2,b3,b4,b5⟩:=hbm
   exact ⟨bm,ob,b1,b2,lz b3 (noA b3 (by rw [b4]; exact fun z=>nomatch z) (by rw [b4]; intro z; injection z with z; exact absurd z (by decide))),b4,b5⟩⟩
  have e0 : Env0 P w K mg (qJ s₁.heap H) callerA [] s₁ H:=⟨rfl,hM,fun b o e=>zy e,Nat.le_of_eq (we _ _),trivial,fun b hb=>absurd (show b ∈ ([] : List Addr) from hb) (by simp),hok,.of_eq hg⟩
  refine codeAny_mono ((F _ hKb (nsK hns)).run callerA [] s₁ H ⟨[.ref a],[]⟩ [.ref a] [.ref a] _ _ hr e0 (hbind s₁ (.ref a)) (.cons rfl .nil) (hsp H hT hS)) fun r s' h=>?_
  cases r with
  | error e=>exact False.elim h
  | ok fl =>
   cases fl with
   | next=>exact False.elim h
   | brk=>exact False.elim h
   | cont=>exact False.elim h
   | ret u =>
    obtain ⟨v,H',os,bare,un,hok',r',q⟩:=h
    have q' : v = .bl true:=q
    subst q'
    obtain rfl : u = Value.bool true:=r'
    have kp : ∀ b o,H b = none->s₁.heap.get? b = some o->s'.heap.get? b = some o:=fun b o n e=>un.keep b o e n (by intro z; exact absurd (show b ∈ ([] : List Addr) from z) (by simp)) (by simp)
    refine ⟨rfl,⟨fun b o e=>?_,fun b o e=>un.there b o e (by simp)⟩,os,bare⟩
    rcases hO b with z | ⟨ob,xs,z⟩ | ⟨u,z⟩
    ·exact .inl (kp b o z e)
    ·have z2:=un.frzs b ob _ z
     obtain ⟨e1,_⟩:=hok b _ z
     obtain ⟨e2,_⟩:=hok' b _ z2
     rw [e] at e1; cases e1
     exact .inl e2
    ·obtain ⟨e1,e2⟩:=hA b u z
     rw [e] at e1; cases e1
     obtain ⟨ps,e3,_⟩:=hok' b _ (un.tbls b u z)
     exact .inr (.inl ⟨e2,rfl,#[],ps,rfl,by simpa using e3⟩)
 have tabNot : ∀ q,tabs.lookup a ≠ some q:=fun q z=>by
  have:=(ht a q z).1
  rw [ha] at this; cases this
 have ta : tabs.lookup a = none:=by
  cases z : tabs.lookup a with
  | none=>rfl
  | some q=>exact absurd z (tabNot q)
 have tabOk : ∀ (G : Hp) b q,tabs.lookup b = some q->b9 P w (lN tabs G) s₁.heap b (.tbl q):=fun G b q z=>⟨#[],(ht b q z).1,trivial,fun pos cv c=>by cases c⟩
 cases hk : K.lookup a with
 | some o =>
  have e:=KX a o hk
  rw [ha] at e
  cases e
  refine core (lN tabs fun _=>none) (fun b=>?_) (fun b q z=>d6 z) (.inr ⟨_,vs.toArray,_,hk,rfl,rfl,rfl,by rw [List.size_toArray,lenV]; exact hl,by simpa using rv⟩) (fun b u z=>?_) (fun b q z=>?_) (fun b o u z=>?_) fun b o u z=>?_
  all_goals cases zt : tabs.lookup b with
   | none=>first | exact .inl (f9 zt) | (rw [f9 zt] at z; cases z)
   | some q'=>first | exact .inr (.inr ⟨q',d6 zt⟩) | (rw [d6 zt] at z; cases z; done) | (rw [d6 zt] at z; cases z; first | exact tabOk _ b _ zt | exact ht b _ zt)
 | none =>
  refine core (lN tabs fun b=>if b = a then some (.frz { cls:=.type "list",data:=.seq vs.toArray } (.lst (ns.map V.int))) else none) (fun b=>?_) (fun b q z=>d6 z) (.inl (.inr ⟨{ cls:=.type "list",data:=.seq vs.toArray },by rw [f9 ta,if_pos rfl]⟩)) (fun b u z=>?_) (fun b q z=>?_) (fun b o u z=>?_) fun b o u z=>?_
  all_goals cases zt : tabs.lookup b with
   | some q'=>first | exact .inr (.inr ⟨q',d6 zt⟩) | (rw [d6 zt] at z; cases z; done) | (rw [d6 zt] at z; cases z; first | exact tabOk _ b _ zt | exact ht b _ zt)
   | none =>
    first
    | rw [f9 zt] at z
    | rw [f9 zt]
    by_cases hb : b = a
    ·first
     | rw [if_pos hb] at z
     | rw [if_pos hb]
     first
     | exact .inr (.inl ⟨_,_,rfl⟩)
     | (cases z; subst hb; exact ⟨ha,by rw [List.length_map]; exact hl,vs,_,rv,ha⟩)
     | exact hb
     | (rw [hb]; exact hk)
     | cases z
    ·first
     | (rw [if_neg hb] at z; cases z)
     | exact .inl (if_neg hb)
def pH (L : List (Str × Option (Addr × Addr))) : List (Addr × Str):=L.filterMap fun p=>p.2.map fun q=>(q.2,lB p.1)
structure TabsFit (K : PySem.W.Frag) (L : List (Str × Option (Addr × Addr))) : Prop where
 names : L = je.map fun x=>(x,PySem.W.tabIn K x)
 apart : ((pH L).map (·.1)).Nodup
 none : PySem.W.noTabs K = true
theorem iu {α β : Type} [BEq α] [LawfulBEq α] : ∀ {l : List (α × β)} {a : α} {b : β},(l.map (·.1)).Nodup->(a,b) ∈ l->l.lookup a = some b
 | (c,d) :: l,a,b,nd,h=>by
  rw [List.lookup_cons]
  rcases List.mem_cons.mp h with e | h
  ·cases e; simp
  ·have ne : a ≠ c:=fun z=>(List.nodup_cons.mp nd).1 (by rw [← z]; exact List.mem_map.mpr ⟨(a,b),h,rfl⟩)
   rw [show (a == c) = false by simpa using ne]
   exact iu (List.nodup_cons.mp nd).2 h
theorem gz {α β : Type} [BEq α] [LawfulBEq α] : ∀ {l : List (α × β)} {a : α} {b : β},l.lookup a = some b->(a,b) ∈ l
 | (c,d) :: l,a,b,h=>by
  rw [List.lookup_cons] at h
  cases e : a == c with
  | true=>rw [e] at h; cases h; rw [eq_of_beq e]; exact mX
  | false=>rw [e] at h; exact mZ _ (gz h)
theorem TabsFit.tb {K : PySem.W.Frag} {L : List (Str × Option (Addr × Addr))} (F : TabsFit K L) {H : Hp} (h : ∀ b q,(pH L).lookup b = some q->H b = some (.tbl q)) : Tb K H:=fun x hx c P e=>by
 refine h P (lB x) (iu F.apart ?_)
 rw [F.names]
 exact List.mem_filterMap.mpr ⟨(x,PySem.W.tabIn K x),List.mem_map.mpr ⟨x,hx,rfl⟩,by rw [e]; rfl⟩
theorem tab_no {K : PySem.W.Frag} {x : Str} (e : PySem.W.nsIn K mainGlobals x = some none) : PySem.W.tabIn K x = none:=by unfold PySem.W.tabIn; rw [e]
theorem tab_yes {K : PySem.W.Frag} {x : Str} {f c P : Addr} {oc oc' : Value} {od od' : Option Addr} {osl osl' : Array (Option Value)} {fd : FuncData} {vs : Array Value} (e1 : PySem.W.nsIn K mainGlobals x = some (some (.ref f))) (e2 : K.lookup f = some ⟨oc,od,.func fd,osl⟩) (e3 : fd.code = .ref c)
  (e4 : K.lookup c = some ⟨oc',od',.fields vs,osl'⟩) (e5 : vs[11]? = some (.ref P)) : PySem.W.tabIn K x = some (c,P):=by unfold PySem.W.tabIn; simp only [e1,e2,e3,e4,e5]
theorem tabs_fit {K : PySem.W.Frag} {t0 t1 t2 t3 : Option (Addr × Addr)} (h0 : PySem.W.tabIn K "in_order" = t0) (h1 : PySem.W.tabIn K "has_seal" = t1) (h2 : PySem.W.tabIn K "is_first_death" = t2) (h3 : PySem.W.tabIn K "bases_by" = t3)
  (ap : ((pH [("in_order",t0),("has_seal",t1),("is_first_death",t2),("bases_by",t3)]).map (·.1)).Nodup) (nt : PySem.W.noTabs K = true) : TabsFit K [("in_order",t0),("has_seal",t1),("is_first_death",t2),("bases_by",t3)] :=
 ⟨by subst h0; subst h1; subst h2; subst h3; rfl,ap,nt⟩
theorem walkD {l : PySem.W.OpenLaw} {q : Program} {loose : List Str} {XP : (Str->Option Value)->Heap->Prop} {YP : World->Heap->Prop} {d : DefRec} {K : Params->PySem.W.Frag} {k : Nat} {x : Str} {f : List D->Option (D × Bool)} {L : List (Str × Option (Addr × Addr))} (hn : l.most = some 63) (hdf : d.params.defaults = []) (hr : Room k callerA)
  (hY : ∀ (w : World) (h : Heap),YP w h->(K w.params).In h) (hT : ∀ w : World,TabsFit (K w.params) L) (hD : (L.all fun p=>p.2.isNone || ((recsOf q).find? fun e=>e.name == p.1).isSome) = true)
  (F : ∀ (w : World) (mg : Str->Option Value) (fa : Addr) (h : Heap),(K w.params).In h->h.Ns mainGlobals mg->mg d.name = some (.ref fa) ->
   ∃ fd : FuncData,(∀ (s : Shared) (u : Value),BindsTo s fd ⟨[u],[]⟩ [(x,u)])/\∀ base : Heap,(K w.params).In base->base.Ns mainGlobals mg->FnOk l.prog w (K w.params) mg base CX0 k fa fd [x] (spD (K w.params) f))
  (ht : ∀ ns : List Int,ns.length<=63->∃ b,f [.lst (ns.map .int)] = some (.bl true,b)) : PySem.W.WalkO q loose XP YP l.row.toRowW d [] (fun f vs=>PySem.call f vs):=by
 refine Att.qR hn hdf fun w s₀ s₁ mg mb fa o pm cd doc a vs ns G Y ho hd hcd hmg hobj hints hlen hg=>?_
 have KX:=hY w _ Y
 obtain ⟨fd,hb,hF⟩:=F w mg fa _ KX G.T.g hmg
 refine wB (pH L) (fun b u e=>?_) (hT w).none KX G.T.g G.T.b G.T.builtins G.T.nolimit G.T.bmain hg hobj hints (Nat.le_trans hlen (by decide)) hr hF hb fun H hH hS=>?_
 ·obtain ⟨p,hp,e2⟩:=List.mem_filterMap.mp (gz e)
  obtain ⟨⟨c,P⟩,e3,e4⟩:=oY e2
  cases e4
  have hp':=List.all_eq_true.mp hD p hp
  rw [e3] at hp'
  rw [Option.isNone_some,Bool.false_or] at hp'
  obtain ⟨r,hr'⟩:=Option.isSome_iff_exists.mp hp'
  have ht' : PySem.W.tabIn (K w.params) p.1 = some (c,P):=by
   rw [(hT w).names] at hp
   obtain ⟨y,_,rfl⟩:=List.mem_map.mp hp
   exact e3
  obtain ⟨h1,h2⟩:=PySem.W.tab_of G.T KX hr' ht'
  exact ⟨h2,(h1.tab h2).isCodeTable⟩
 ·obtain ⟨b,e⟩:=ht ns hlen
  exact ⟨H,_,_,b,⟨.refl H,(hT w).tb hH⟩,.cons (.lst hS (.flat rfl)) .nil,e,fun v H' N x' i' _=>by cases i'; rfl⟩
theorem Def.law {P : Program} {w : World} {K : PySem.W.Frag} {mg : Str->Option Value} {x y : Str} {st : Stmt} {N : List Str} {k : Nat} {g : FS} {h : Heap} {fa : Addr} (F : Def K x st) (X : K.In h) (G : h.Ns mainGlobals mg) (hfa : mg x = some (.ref fa)) (S : FnScope N [y] (au st))
  (hbd : ∀ (kV doc pm : Value) (an : Option Addr) (cdv ct : Value) (u : Value),bindArgs (PySem.W.fnOf x x (eI st) (cq st) (au st) .none kV doc pm an cdv ct) ⟨[u],[]⟩ = pure [(y,u)])
  (hb : ∀ (base : Heap),K.In base->base.Ns mainGlobals mg->∀ (f : Addr) (cdv : Value) (A : Around) (outer : List PySem.Env) (s : Shared) (H : Hp) (E : XK),Room k (A.deeper (envOfC x (au st) s.heap.objs.size f cdv))->JSs (l8 CX0 P w K mg base N x (au st) f cdv A outer s H E).nox (cq st) g) :
  ∃ fd : FuncData,(∀ (s : Shared) (u : Value),BindsTo s fd ⟨[u],[]⟩ [(y,u)])/\∀ base : Heap,K.In base->base.Ns mainGlobals mg->FnOk P w K mg base CX0 (k + 1) fa fd [y] (spD K (aT g 1 (N.length - 1))):=by
 obtain ⟨f,fd,F1,a⟩:=F
 have e:=hfa.symm.trans (PySem.W.mg_of X G a)
 cases e
 refine ⟨fd,fun s u=>?_,fun base kb nb=>DO F1 S (hb base kb nb _)⟩
 obtain ⟨oc,od,kV,doc,pm,an,cdv,ct,osl,rfl,lk,hcd⟩:=F1.ex
 exact .of_eq (hbd kV doc pm an cdv ct u)
section
variable {X : Cx} {a b e : Expr} {pos : Pos} {x : Str} {p : Pos}
@[simp] def yf : D->D->Option (D × Bool)
 | .lst xs,.lst ys=>if xs.length + ys.length<=sizeLine then some (.lst (xs ++ ys),true) else none
 | _,_=>none
theorem C0 : OpR X (binaryOp .Add) (rD X.K yf):=by
 intro pins s σ H x y v u Q I rx ry q
 obtain ⟨B,dx,dy,d,bb,sB,ix,iy,ee,q⟩:=q
 cases ix <;> cases iy <;> try (simp [yf] at ee; done)
 rename_i l vs ds h hl l' ws es h' hl'
 simp only [yf] at ee
 split at ee
 ·rename_i hz
  cases ee
  cases rx
  cases ry
  obtain ⟨its,r1,p1,z1⟩:=I.list (sB.seq h)
  obtain ⟨jts,r2,p2,z2⟩:=I.list (sB.seq h')
  obtain ⟨⟨c1,d1,t1,s1⟩,o1,e1,n1,k1⟩:=p1.isList
  obtain ⟨⟨c2,d2,t2,s2⟩,o2,e2,n2,k2⟩:=p2.isList
  dsimp only at e1 k1 e2 k2
  subst e1; subst k1; subst e2; subst k2
  have hsz : its.toArray.size + jts.toArray.size<=sizeLine:=by
   rw [List.size_toArray,List.size_toArray,← r1.length,← r2.length,hl.length,hl'.length]; exact hz
  have ea : its.toArray ++ jts.toArray = (its ++ jts).toArray:=by simp
  refine concat_meets ⟨_,o1,rfl⟩ ⟨_,o2,rfl⟩ noFill_list_add seq_list_add PySem.F.slot_list_add PySem.F.entry_list_add (PySem.F.args_list_add_2 _ _) (list_addW l l' its.toArray jts.toArray n1 n2 d1 d2 s1 s2 hsz) ⟨o1,o2, ?_⟩
  rw [ea]
  have xt:=Ext.laid (o:=.lst (vs ++ ws)) sB I.fresh
  have il:=(hl.append hl').mono xt.bn
  exact ⟨.ref s.heap.objs.size,_,I.lnew (t':=s.toks) (r1.append r2) (by rw [List.length_append,hl.length,hl'.length]; exact hz),rfl,q _ _ _ xt (.lst (SqL.of ax) il) fun _=>⟨_,_,_,rfl,rfl,I.fresh,ax,il⟩⟩
 ·cases ee
@[simp] def yg : D->D->Option (D × Bool)
 | .tup xs,.tup ys=>if xs.length + ys.length<=sizeLine/\xs.isEmpty = false then some (.tup (xs ++ ys),false) else none
 | _,_=>none
theorem C1 : OpR X (binaryOp .Add) (rD X.K yg):=by
 refine fT zK fun x y H Q q=>?_
 obtain ⟨B,dx,dy,d,bb,sB,ix,iy,ee,q⟩:=q
 cases ix <;> cases iy <;> try (simp [yg] at ee; done)
 rename_i l vs ds h hl l' ws es h' hl'
 simp only [yg] at ee
 split at ee
 ·rename_i hz
  cases ee
  have l1:=hl.length
  have l2:=hl'.length
  refine ⟨l,l',vs,ws,rfl,rfl,aX sB h,aX sB h',fun z=>?_,by omega,fun z=>?_,fun _ pp hp=>?_⟩
  ·subst z
   cases hl
   simp at hz
  ·subst z
   cases hl'
   rw [List.append_nil] at q
   exact q.one sB (.tup h hl)
  ·have xt:=Ext.laid (o:=.tup (vs ++ ws)) sB hp
   exact q _ _ _ xt (.tup (SqT.of ax) ((hl.append hl').mono xt.bn)) (by simp)
 ·cases ee
@[simp] def wC : D->D->Option (D × Bool)
 | .bl i,.int j=>some (.int ((if i = true then 1 else 0) + j),false)
 | .int i,.bl j=>some (.int (i + b2i j),false)
 | _,_=>none
theorem C2 : OpR X (binaryOp .Add) (rD X.K wC):=by
 intro pins s σ H x y v u Q I rx ry q
 obtain ⟨B,dx,dy,d,bb,sB,ix,iy,ee,q⟩:=q
 cases ix <;> cases iy <;> try (simp [wC] at ee; done)
 ·simp only [wC] at ee
  cases ee
  cases rx
  obtain ⟨t,rfl⟩:=ry
  exact IntBool.add_bool_int ⟨.int _,H,I.tok _,⟨_,rfl⟩,q.one sB (.int _)⟩
 ·simp only [wC] at ee
  cases ee
  exact wm pins s σ H _ _ v u Q I rx ry ⟨_,_,rfl,rfl,q.one sB (.int _)⟩
@[simp] def cS : D->D->Option (D × Bool)
 | .int i,.int j=>some (.int (i + j),false)
 | .str i,.str j=>if i.length + j.length<=sizeLine then some (.str (i ++ j),false) else none
 | .lst xs,.lst ys=>if xs.length + ys.length<=sizeLine then some (.lst (xs ++ ys),true) else none
 | .tup xs,.tup ys=>if xs.length + ys.length<=sizeLine/\xs.isEmpty = false then some (.tup (xs ++ ys),false) else none
 | .bl i,.int j=>some (.int ((if i = true then 1 else 0) + j),false)
 | .int i,.bl j=>some (.int (i + b2i j),false)
 | _,_=>none
theorem bP : OpR X (binaryOp .Add) (rD X.K cS):=by
 refine fT (r:=rD X.K (orD vh (orD yf (orD yg wC)))) (lH Ac (lH C0 (lH C1 C2))) fun x y H Q q=>?_
 obtain ⟨B,dx,dy,d,bb,sB,ix,iy,ee,q⟩:=q
 refine ⟨B,dx,dy,d,bb,sB,ix,iy, ?_,q⟩
 cases dx <;> cases dy <;> simp [cS] at ee <;> simp [orD,vh,yf,yg,wC,ee]
@[simp] def blD : D->Option Bool
 | .bl b=>some b
 | _=>none
def tV : List D->Option (List Bool)
 | []=>some []
 | d :: ds=>(blD d).bind fun b=>(tV ds).map (b :: ·)
@[simp] theorem DT : tV [] = some []:=rfl
@[simp] theorem De (d : D) (ds : List D) : tV (d :: ds) = (blD d).bind fun b=>(tV ds).map (b :: ·):=rfl
@[simp] def Ff : List D->Option (D × Bool)
 | [.lst ds]=>(tV ds).map fun bs=>(.bl (bs.all id),false)
 | _=>none
@[simp] def Fg : List D->Option (D × Bool)
 | [.lst ds]=>(tV ds).map fun bs=>(.bl (bs.any id),false)
 | _=>none
end
def Its (z : Str) : It:=⟨fun i _=>i < z.cps.size,fun i H v H'=>H' = H/\∃ c,z.cps[i]? = some c/\v = .str ⟨#[c]⟩,fun i _=>z.cps.size<=i⟩
theorem rA {P : Program} {w : World} {K : PySem.W.Frag} {tg : Expr} (z : Str) (t : Tok) (it : Addr) : Turn P w K tg (Its z) [it] it (fun i h=>h.IsStrIter it "str_ascii_iterator" z t i) where
 mem:=List.mem_singleton.mpr rfl
 obj:=fun i h st b hb=>by
  have eb:=List.mem_singleton.mp hb
  subst eb
  obtain ⟨o,e1,_,d1⟩:=st
  exact ⟨o,e1,fun v zz=>by rw [d1] at zz; cases zz⟩
 keep:=fun i h h' st k=>let ⟨o,e1,r⟩:=st; ⟨o,k it (List.mem_singleton.mpr rfl) o e1,r⟩
 item:=by
  intro X hP hw hK hc i pins s σ H E I hf st hg
  subst hP hw hK
  have hg' : i < z.cps.size:=hg
  obtain ⟨f0,f1,f2,f3,f4,f5⟩:=hf it (List.mem_singleton.mpr rfl)
  refine wpAny_pyNext_ascii_item st (c:=z.cps[i]) (by simp [hg']) fun h' st' sb=>?_
  obtain ⟨o,e1,c1,d1⟩:=id st'
  exact ⟨_,rfl,qN (s:={ s with heap:=h',toks:=s.toks + 1 }) e1 c1 d1 (by decide) ⟨.str ⟨#[z.cps[i]]⟩,H,I.turned (fun b o hb e2=>(sb.2 b hb).trans e2) f0 f1 f3 f4 f5,⟨_,rfl⟩,⟨rfl,_,by simp [hg'],rfl⟩,st',fun b hb=>(hf b hb).1⟩⟩
 done:=by
  intro X hP hw hK hc i pins s σ H E I hf st hg
  subst hP hw hK
  have hg' : z.cps.size<=i:=hg
  obtain ⟨f0,f1,f2,f3,f4,f5⟩:=hf it (List.mem_singleton.mpr rfl)
  exact wpAny_pyNext_ascii_end (I.ok.hd hc) st (by simp; omega) fun h' eb=>⟨rfl,I.turned (t':=s.toks) (fun b o hb e2=>eb b o hb e2) f0 f1 f3 f4 f5⟩
 self:=fun _ _ _ _ _ st h=>wpAny_pyIter_striter_ascii st h
theorem rB {P : Program} {w : World} {K : PySem.W.Frag} {tg : Expr} (z : Str) (t : Tok) (it : Addr) : Turn P w K tg (Its z) [it] it (fun i h=>h.IsStrIter it "str_iterator" z t i) where
 mem:=List.mem_singleton.mpr rfl
 obj:=fun i h st b hb=>by
  have eb:=List.mem_singleton.mp hb
  subst eb
  obtain ⟨o,e1,_,d1⟩:=st
  exact ⟨o,e1,fun v zz=>by rw [d1] at zz; cases zz⟩
 keep:=fun i h h' st k=>let ⟨o,e1,r⟩:=st; ⟨o,k it (List.mem_singleton.mpr rfl) o e1,r⟩
 item:=by
  intro X hP hw hK hc i pins s σ H E I hf st hg
  subst hP hw hK
  have hg' : i < z.cps.size:=hg
  obtain ⟨f0,f1,f2,f3,f4,f5⟩:=hf it (List.mem_singleton.mpr rfl)
  refine wpAny_pyNext_wide_item st (c:=z.cps[i]) (by simp [hg']) fun h' st' sb=>?_
  obtain ⟨o,e1,c1,d1⟩:=id st'
  exact ⟨_,rfl,qN (s:={ s with heap:=h',toks:=s.toks + 1 }) e1 c1 d1 (by decide) ⟨.str ⟨#[z.cps[i]]⟩,H,I.turned (fun b o hb e2=>(sb.2 b hb).trans e2) f0 f1 f3 f4 f5,⟨_,rfl⟩,⟨rfl,_,by simp [hg'],rfl⟩,st',fun b hb=>(hf b hb).1⟩⟩
 done:=by
  intro X hP hw hK hc i pins s σ H E I hf st hg
  subst hP hw hK
  have hg' : z.cps.size<=i:=hg
  obtain ⟨f0,f1,f2,f3,f4,f5⟩:=hf it (List.mem_singleton.mpr rfl)
  exact wpAny_pyNext_wide_end (I.ok.hd hc) st (by simp; omega) fun h' eb=>⟨rfl,I.turned (t':=s.toks) (fun b o hb e2=>eb b o hb e2) f0 f1 f3 f4 f5⟩
 self:=fun _ _ _ _ _ st h=>wpAny_pyIter_striter_wide st h
section
variable {X : Cx} {a b e : Expr} {pos : Pos} {x : Str} {p : Pos} {tg : Expr}
theorem yh {l : Expr} {tl : TE} (hl : PE X l tl) : PI X tg l (fun σ H R=>tl σ H fun x H1=>∃ z,x = .str z/\R (Its z) H1):=by
 intro pins s σ H R I h
 refine thn (hl pins s σ H _ I h) fun v s1 ⟨x,H1,I1,r1,q1⟩=>?_
 obtain ⟨z,rfl,q⟩:=q1
 obtain ⟨t,rfl⟩:=r1
 have fp : ∀ b ∈ [s1.heap.objs.size],jE X pins H1 b:=fun b hb=>by
  rw [List.mem_singleton.mp hb]
  exact I1.fpOk (Nat.le_refl _) (I1.hok.fresh (Nat.le_refl _))
 cases ha : z.cps.all (· < 128) with
 | true=>exact wpAny_pyIter_ascii ha ⟨_,[s1.heap.objs.size],_,_,H1,rfl,I1.kept (t':=s1.toks) fun b o e=>Heap.get?_push_of_some _ e,rA z t _,⟨_,Heap.get?_push_size _ rfl,rfl,rfl⟩,fp,q⟩
 | false=>exact wpAny_pyIter_wide ha ⟨_,[s1.heap.objs.size],_,_,H1,rfl,I1.kept (t':=s1.toks) fun b o e=>Heap.get?_push_of_some _ e,rB z t _,⟨_,Heap.get?_push_size _ rfl,rfl,rfl⟩,fp,q⟩
def vp (z : Str) : List D:=z.cps.toList.map fun c=>.str ⟨#[c]⟩
theorem yi {K : PySem.W.Frag} {B : Hp} (z : Str) : pA K (Its z) B (vp z):=by
 intro i H s
 refine ⟨fun d ed=>?_,fun hl=>by unfold vp at hl; show z.cps.size<=i; simpa using hl⟩
 unfold vp at ed
 rw [List.getElem?_map] at ed
 obtain ⟨c,ec,rfl⟩:=oY ed
 have ec' : z.cps[i]? = some c:=by simpa using ec
 refine ⟨(Array.getElem?_eq_some_iff.mp ec').1,fun v H' hy=>?_⟩
 obtain ⟨rfl,c',e1,rfl⟩:=hy
 rw [ec'] at e1; cases e1
 exact ⟨B,.refl s,.str _⟩
@[simp] def C3 : D->Option (List D)
 | .lst ds=>some ds
 | .tup ds=>some ds
 | .str z=>some (vp z)
 | _=>none
@[simp] def bL (f : FE) : FA:=fun ρ=>(f ρ).bind fun x=>C3 x.1
theorem ca {f : FE} (h : JE X e f) : JI X tg e (bL f):=by
 intro pins s σ H R I q
 obtain ⟨B,ρ,ds,sB,r,e',q⟩:=q
 obtain ⟨xx,ex,es⟩:=oX e'
 obtain ⟨xd,xb⟩:=xx
 cases xd with
 | lst l=>exact vn h pins s σ H R I ⟨B,ρ,ds,sB,r,by unfold yc; rw [ex]; exact es,q⟩
 | tup l=>exact vn h pins s σ H R I ⟨B,ρ,ds,sB,r,by unfold yc; rw [ex]; exact es,q⟩
 | str z =>
  cases es
  refine yh h pins s σ H R I ⟨B,ρ,_,_,sB,r,ex,fun v H1 N1 x1 i1 _=>?_⟩
  cases i1
  exact ⟨z,rfl,q _ H1 N1 x1 (yi z)⟩
 | _=>cases es
theorem Af : SlR X (fun x lo hi H Q=>∃ z,x = .str z/\z.length<=sizeLine/\Q (.str (Txt.slice z lo hi)) H):=by
 intro pins s σ H x v vl vu lo hi sl Q I rx hs pl pu h
 obtain ⟨z,rfl,hz,q⟩:=h
 obtain ⟨t,rfl⟩:=rx
 have fin : ∀ lo hi,Q (.str (Txt.slice z lo hi)) H->(Txt.slice z lo hi).length<=sizeLine/\∀ t' k,EP X pins σ Q (.str (Txt.slice z lo hi) t') { s with toks:=k }:=fun lo hi q =>
  ⟨Nat.le_trans (Txt.slice_le z _ _) hz,fun t' k=>⟨.str _,H,I.tok k,⟨t',rfl⟩,q⟩⟩
 refine ⟨"str",_,PySem.F.slot_str_getitem.lookup,typeIs_str _ _ _, ?_⟩
 cases pl with
 | none =>
  cases pu with
  | none=>exact wpAny_getItem_str_slice (l:=none) (u:=none) (st:=none) hs rfl (post_val_or_str (fin _ _ q))
  | int j tj=>exact wpAny_getItem_str_slice (l:=none) (u:=some (j,tj)) (st:=none) hs rfl (post_val_or_str (fin _ _ q))
 | int i ti =>
  cases pu with
  | none=>exact wpAny_getItem_str_slice (l:=some (i,ti)) (u:=none) (st:=none) hs rfl (post_val_or_str (fin _ _ q))
  | int j tj=>exact wpAny_getItem_str_slice (l:=some (i,ti)) (u:=some (j,tj)) (st:=none) hs rfl (post_val_or_str (fin _ _ q))
theorem wD {A : Around} {E : Value->Shared->Prop} {s : Shared} {prog : Program} {w : World} {t sl : Addr} {items : Array Value} {vl vu : Value} {lo hi : Option Int} {Q : Value->Shared->Prop} (ht : IsTup s.heap t items) (hs : s.heap.IsSliceOf sl vl vu .none) (pl : IsPart vl lo) (pu : IsPart vu hi)
  (h0 : HT.sIx items.size 0 lo = 0) (h1 : HT.sIx items.size items.size hi = items.size) (h : Q (.ref t) s) : wpAny (model prog w) A (getItem (.ref t) (.ref sl)) Q E s:=by
 obtain ⟨os,hos,hcs,hds⟩:=id hs
 have hT : s.TypeIs (.ref sl) "slice":=⟨os,hos,hcs⟩
 unfold getItem
 try with_reducible refine wpAny_holding ?_
 first | refine wX (wY ?_) | skip
 refine wX (wpAny_sequenceKey ht.typeIs (by decide) ?_)
 refine wX (wpAny_callSpecial?_slot (name:=Str.ofString "__getitem__") ht.typeIs PyProof.Rows.slot_tuple_getitem (wpAny_call_entry PyProof.Rows.slot_tuple_getitem ht.typeIs entry_tuple_getitem ?_ (args_tuple_getitem _ _)))
 show wpAny _ _ (Builtin.Tuple.tupleItemsOf (.ref t) >>= _) _ _ s
 refine wX (tupleItemsOf_ ht ?_)
 refine wX (wpAny_typeOf hT ?_)
 rw [if_pos (by decide)]
 refine wX (HT.fw hs pl pu ?_)
 have yes : (((HT.sIx items.size 0 lo : Nat) : Int) == 0 && (1 : Int) == 1 && (HT.sIx items.size items.size hi - HT.sIx items.size 0 lo) == items.size) = true:=by
  rw [h0,h1]; simp
 show wpAny _ _ (if (((HT.sIx items.size 0 lo : Nat) : Int) == 0 && (1 : Int) == 1 && (HT.sIx items.size items.size hi - HT.sIx items.size 0 lo) == items.size) = true then _ else _) _ _ s
 rw [if_pos yes]
 refine wX ?_
 unfold Builtin.Tuple.tupleIsExact
 refine wX (wpAny_typeOf ht.typeIs (wY ?_))
 show wpAny _ _ (if ((Value.type "tuple") == Value.type "tuple") = true then _ else _) _ _ s
 rw [if_pos (by decide)]
 refine wX (wpAny_rule ?_)
 exact wY ⟨_,rfl,wY h⟩
theorem Ag : SlR X (fun x lo hi H Q=>∃ a xs,x = .ref a/\SqT X.K H a xs/\HT.sIx xs.length 0 lo = 0/\HT.sIx xs.length xs.length hi = xs.length/\Q (.ref a) H):=by
 intro pins s σ H x v vl vu lo hi sl Q I rx hs pl pu h
 obtain ⟨a,xs,rfl,hx,h0,h1,q⟩:=h
 cases rx
 obtain ⟨its,r,ht,hz⟩:=I.tuple hx
 have hlen : its.toArray.size = xs.length:=by rw [List.size_toArray]; exact r.length.symm
 refine ⟨"tuple",_,PyProof.Rows.slot_tuple_getitem.lookup,ht.typeIs, ?_⟩
 exact wD ht hs pl pu (by rw [hlen]; exact h0) (by rw [hlen]; exact h1) ⟨.ref a,H,I,rfl,q⟩
@[simp] def fSl (fa : FE) (fl fh : FO) : FE:=fun ρ=>(fa ρ).bind fun x=>(fl ρ).bind fun l=>(fh ρ).bind fun h=>match x.1 with
 | .lst ds=>some (.lst (ij ds l h),true)
 | .tup ds=>some (.tup (ij ds l h),false)
 | .str z=>if z.length<=sizeLine then some (.str (Txt.slice z l h),false) else none
 | _=>none
theorem tW {ds : List D} {lo hi : Option Int} (h0 : HT.sIx ds.length 0 lo = 0) (h1 : HT.sIx ds.length ds.length hi = ds.length) : ij ds lo hi = ds:=by
 unfold ij; rw [h0,h1]; simp
theorem dY {lo hi : Option Expr} {p2 : Pos} {fa : FE} {fl fh : FO} (ha : JE X e fa) (hl : JO X lo fl) (hh : JO X hi fh) : JE X (.Subscript e (.Slice lo hi none p2) pos) (fSl fa fl fh):=by
 refine PE.to (xA (SlR.or (SlR.or zO BX) (SlR.or Af Ag)) ha hl hh) fun σ H Q q=>?_
 obtain ⟨B,ρ,d,b,sB,r,e,q⟩:=q
 obtain ⟨x,ex,e⟩:=oX e
 obtain ⟨l,el,e⟩:=oX e
 obtain ⟨h,eh,e⟩:=oX e
 refine ⟨B,ρ,x.1,x.2,sB,r,ex,fun v H1 N1 x1 i1 _=>⟨N1,ρ,l,x1.nh,r.mono x1.bn,el,fun H2 h2=>⟨N1,ρ,h,x1.nh.trans h2,r.mono x1.bn,eh,fun H3 h3=>?_⟩⟩⟩
 have s3 : aE N1 H3:=x1.nh.trans (h2.trans h3)
 have q3:=q.into (x1.trans (.grow x1.nh (h2.trans h3)))
 obtain ⟨xd,xb⟩:=x
 dsimp only at e i1
 cases i1 with
 | @tup a' vs ds hs hv =>
  cases e
  by_cases hw : HT.sIx ds.length 0 l = 0/\HT.sIx ds.length ds.length h = ds.length
  ·rw [tW hw.1 hw.2] at q3
   exact .inr (.inr ⟨a',vs,rfl,aX s3 hs,by rw [hv.length]; exact hw.1,by rw [hv.length]; exact hw.2,q3.one s3 (.tup hs hv)⟩)
  ·refine .inl (.inr ⟨a',vs,rfl,aX s3 hs,by rw [hv.length]; exact hw,fun p hp=>?_⟩)
   have x4:=Ext.laid (o:=.tup (nz vs l h)) s3 hp
   exact q3 _ _ _ x4 (.tup (SqT.of ax) ((pG hv).mono x4.bn)) (by simp)
 | @lst a' vs ds hs hv =>
  cases e
  refine .inl (.inl ⟨a',vs,rfl,s3.seq hs,fun p hp=>?_⟩)
  have x4:=Ext.laid (o:=.lst (nz vs l h)) s3 hp
  exact q3 _ _ _ x4 (.lst (SqL.of ax) ((pG hv).mono x4.bn)) fun _=>⟨p,_,_,rfl,rfl,hp,ax,(pG hv).mono x4.bn⟩
 | str z =>
  dsimp only at e
  split at e
  ·rename_i hz
   cases e
   exact .inr (.inl ⟨z,rfl,hz,q3.one s3 (.str _)⟩)
  ·cases e
 | _=>cases e
def pJ : Value->D->Bool
 | .none,.non=>true
 | .bool a,.bl b=>a == b
 | .int i _,.int j=>decide (i = j)
 | .str i _,.str j=>decide (i = j)
 | _,_=>false
def fU : List Value->List D->Bool
 | [],[]=>true
 | u :: us,d :: ds=>pJ u d && fU us ds
 | _,_=>false
theorem gU {K : PySem.W.Frag} {B : Hp} : ∀ {u : Value} {d : D},pJ u d = true->∃ v,aN v u/\Is K B v d
 | .none,.non,_=>⟨.non,rfl,.non⟩
 | .bool a,.bl b,h=>by
  have : a = b:=eq_of_beq h
  subst this; exact ⟨.bl a,rfl,.bl a⟩
 | .int i t,.int j,h=>by
  have : i = j:=of_decide_eq_true h
  subst this; exact ⟨.int i,⟨t,rfl⟩,.int i⟩
 | .str i t,.str j,h=>by
  have : i = j:=of_decide_eq_true h
  subst this; exact ⟨.str i,⟨t,rfl⟩,.str i⟩
theorem fV {K : PySem.W.Frag} : ∀ {us : List Value} {ds : List D},fU us ds = true->∃ vs,L2.aK vs us/\∀ B,IsL K B vs ds
 | [],[],_=>⟨[],.nil,fun _=>.nil⟩
 | u :: us,d :: ds,h=>by
  rw [fU,Bool.and_eq_true] at h
  obtain ⟨vs,r,i⟩:=fV (K:=K) h.2
  obtain ⟨v,r1,_⟩:=gU (K:=K) (B:=fun _=>none) h.1
  refine ⟨v :: vs,.cons r1 r,fun B=>?_⟩
  obtain ⟨v',r1',i'⟩:=gU (K:=K) (B:=B) h.1
  have : v' = v:=by have z1:=r1.abs; rw [r1'.abs] at z1; exact Option.some.inj z1
  subst this
  exact .cons i' (i B)
theorem const_tup {K : PySem.W.Frag} {y : Str} {a : Addr} {od : Option Addr} {its : Array Value} {n : Nat} {osl : Array (Option Value)} {ds : List D} (e : PySem.W.nsIn K mainGlobals y = some (some (.ref a)))
  (l : K.lookup a = some ⟨.type "tuple",od,.seq its n,osl⟩) (h : (decide (its.size<=1000) && fU its.toList ds) = true) : ∃ u v,PySem.W.nsIn K mainGlobals y = some (some u)/\aN v u/\∀ B,Is K B v (.tup ds):=by
 rw [Bool.and_eq_true] at h
 obtain ⟨vs,r,i⟩:=fV (K:=K) h.2
 exact ⟨_,.ref a,e,rfl,fun B=>.tup (.inr ⟨_,its,n,l,rfl,rfl,Nat.le_of_lt (Nat.lt_of_le_of_lt (of_decide_eq_true h.1) (by decide)),r⟩) (i B)⟩
end
section
variable {X : Cx} {a b o e : Expr} {pos : Pos} {x : Str} {p : Pos} {tg : Expr}
@[simp] def C4 : D->Option Str
 | .str z=>some z
 | _=>none
def d7 : List D->Option (List Str)
 | []=>some []
 | d :: ds=>(C4 d).bind fun z=>(d7 ds).map (z :: ·)
@[simp] theorem Df : d7 [] = some []:=rfl
@[simp] theorem tX (d : D) (ds : List D) : d7 (d :: ds) = (C4 d).bind fun z=>(d7 ds).map (z :: ·):=rfl
@[simp] theorem Dg (zs : List Str) : d7 (zs.map D.str) = some zs:=by
 induction zs with
 | nil=>rfl
 | cons z zs ih=>simp [ih]
theorem jj {K : PySem.W.Frag} {B : Hp} : ∀ {vs : List V} {ds : List D} {zs : List Str} {its : List Value},L2.aK vs its->IsL K B vs ds->d7 ds = some zs->StrsAre its zs
 | _,_,_,_,.nil,.nil,e=>by cases e; exact .nil
 | _,_,_,_,.cons r rr,.cons i ii,e=>by
  rw [tX] at e
  obtain ⟨z,e1,e⟩:=oX e
  obtain ⟨zs,e2,e⟩:=oY e
  subst e
  cases i <;> simp only [C4] at e1 <;> try (cases e1; done)
  cases e1
  obtain ⟨t,rfl⟩:=r
  exact .cons _ t (jj rr ii e2)
@[simp] def EV : D->D->Option (D × Bool)
 | .str sep,.lst ds=>(d7 ds).bind fun zs=>if (zs.map (·.length)).sum + zs.length * sep.length<=16777216 then some (.str (Txt.join sep zs),false) else none
 | .str sep,.tup ds=>(d7 ds).bind fun zs=>if (zs.map (·.length)).sum + zs.length * sep.length<=16777216 then some (.str (Txt.join sep zs),false) else none
 | _,_=>none
def d8 : List Nat->List D->Env->Option Env
 | [],[],ρ=>some ρ
 | i :: is,d :: ds,ρ=>d8 is ds (ρ.set i (some (d,false)))
 | _,_,_=>none
@[simp] theorem oh (ρ : Env) : d8 [] [] ρ = some ρ:=by rw [d8]
@[simp] theorem iF (i : Nat) (is : List Nat) (d : D) (ds : List D) (ρ : Env) : d8 (i :: is) (d :: ds) ρ = d8 is ds (ρ.set i (some (d,false))):=by rw [d8]
@[simp] theorem DU (d : D) (ds : List D) (ρ : Env) : d8 [] (d :: ds) ρ = none:=by simp only [d8]
@[simp] theorem DV (i : Nat) (is : List Nat) (ρ : Env) : d8 (i :: is) [] ρ = none:=by simp only [d8]
@[simp] def tgT (is : List Nat) : FG:=fun d ρ=>match d with | .tup ds=>d8 is ds ρ | _=>none
def jN : List Nat->TGs
 | []=>Du
 | i :: is=>AJ (k9 i) (jN is)
theorem yj {N : Hp} {σ : St} {ρ : Env} {i : Nat} {v : V} {d : D} : aE (cut N (own σ ρ)) (cut N (own (σ.set i (some v)) (ρ.set i (some (d,false))))):=cU fun a u e q=>⟨e,fun z=>q (by
 rcases p9 z with ⟨_,d',p⟩ | ⟨j,_,d',q1,q2⟩
 ·cases p
 ·exact ⟨j,d',q1,q2⟩)⟩
theorem fB {K : PySem.W.Frag} : ∀ {is : List Nat} {vs : List V} {ds : List D} {B0 H0 N H : Hp} {σ : St} {ρ ρ' : Env} {Q : St->Hp->Prop},StN K B0 H0 N H σ ρ->IsL K (cut N (own σ ρ)) vs ds->d8 is ds ρ = some ρ'->(∀ σ',StN K B0 H0 N H σ' ρ'->Q σ' H)->jN is vs σ H Q
 | [],_,_,_,_,_,_,_,_,_,_,s,.nil,e,k=>by
  rw [oh] at e; cases e
  exact ⟨rfl,k _ s⟩
 | [],_,_,_,_,_,_,_,_,_,_,_,.cons _ _,e,_=>by simp at e
 | _ :: _,_,_,_,_,_,_,_,_,_,_,_,.nil,e,_=>by simp at e
 | i :: is,_,_,_,_,_,_,_,_,_,_,s,.cons h hs,e,k=>by
  rw [iF] at e
  exact ⟨_,_,rfl,fB (s.bind h) (hs.mono yj) e k⟩
theorem jO : ∀ {is : List Nat} {ds : List D} {ρ ρ' : Env},d8 is ds ρ = some ρ'->ds.length = is.length
 | [],[],_,_,_=>rfl
 | _ :: _,_ :: _,_,_,e=>by rw [iF] at e; simp [jO e]
 | [],_ :: _,_,_,e=>by simp at e
 | _ :: _,[],_,_,e=>by simp at e
theorem oi {K : PySem.W.Frag} {n : Nat} {B H : Hp} {ρ0 : Env} {Q : St->Hp->Prop} (cl : ∀ i,i < n->ρ0[i]? = some none) : ∀ {is : List Nat} {vs : List V} {ds : List D} {σ : St} {ρ ρ1 : Env},(∀ i ∈ is,i < n)->RepE K B σ ρ->IsL K B vs ds->d8 is ds ρ = some ρ1->ρ.length = σ.length->ρ.length = ρ0.length ->
  (∀ σ1,RepE K B σ1 ρ1->(∀ B',RepE K B' σ ρ0->RepE K B' σ1 ρ0)->ρ0.length = σ1.length->Q σ1 H)->jN is vs σ H Q
 | [],_,_,_,_,_,_,rp,.nil,e,l1,l2,k=>by
  rw [oh] at e; cases e
  exact ⟨rfl,k _ rp (fun _ z=>z) (by omega)⟩
 | [],_,_,_,_,_,_,_,.cons _ _,e,_,_,_=>by simp at e
 | _ :: _,_,_,_,_,_,_,_,.nil,e,_,_,_=>by simp at e
 | i :: is,_,_,σ,ρ,_,hn,rp,.cons (v:=v) h hs,e,l1,l2,k=>by
  rw [iF] at e
  have hi:=hn i mX
  have hiσ : i < σ.length:=by
   have:=(List.getElem?_eq_some_iff.mp (cl i hi)).1
   omega
  refine ⟨_,_,rfl,oi cl (fun j hj=>hn j (mZ _ hj)) ⟨rp.tb,fun j d b q=>?_⟩ hs e (by simpa using l1) (by simpa using l2) fun σ1 r1 r2 l=>k σ1 r1 (fun B' z=>r2 B' ⟨z.tb,fun j d b q=>?_⟩) l⟩
  ·rcases bq q with ⟨rfl,pp⟩ | ⟨ne,pp⟩
   ·cases pp
    exact ⟨v,by simp [hiσ],h⟩
   ·obtain ⟨w,h1,h2⟩:=rp.at' j d b pp
    exact ⟨w,by rw [List.getElem?_set_ne ne]; exact h1,h2⟩
  ·obtain ⟨w,h1,h2⟩:=z.at' j d b q
   have ne : i ≠ j:=fun z=>by subst z; rw [cl i hi] at q; cases q
   exact ⟨w,by rw [List.getElem?_set_ne ne]; exact h1,h2⟩
theorem Bs {K : PySem.W.Frag} {n : Nat} {is : List Nat} (hn : ∀ i ∈ is,i < n) : TGE K n (tgT is) (Dv K is.length (jN is)):=by
 intro B H σ ρ ρ1 v d Q cl rep s h e hl k
 cases h with
 | @tup a vs ds ht hv =>
  have e' : d8 is ds ρ = some ρ1:=e
  exact ⟨a,vs,rfl,aX s ht,by rw [hv.length]; exact jO e',oi cl hn rep hv e' hl rfl k⟩
 | _=>cases e
end
section
variable {prog : Program} {w : World} {A : Around} {E : Value->Shared->Prop} {s : Shared}
theorem tY {it l : Addr} {i : Nat} {items : Array Value} {v : Value} {Q : Value->Shared->Prop} (st : s.heap.IsTupleIter it l i) (ht : s.heap.IsTuple l items) (hv : items[i]? = some v)
  (k : ∀ h',h'.IsTupleIter it l (i + 1)->Heap.SameBut it s.heap h'->Q v { s with heap:=h' }) : wpAny (model prog w) A (Builtin.SmallTypes.nextOf (.ref it)) Q E s:=by
 obtain ⟨o1,g1,c1,d1⟩:=id st
 obtain ⟨o2,g2,_,n2,d2⟩:=ht
 unfold Builtin.SmallTypes.nextOf
 refine wX (wpAny_callSpecial?_slot (name:=Str.ofString "__next__") st.typeIs PySem.F.slot_tuple_iterator_next (wpAny_call_entry PySem.F.slot_tuple_iterator_next st.typeIs PySem.F.entry_tuple_iterator_next ?_ (PySem.F.args_tuple_iterator_next_1 _)))
 show wpAny _ _ (field (.ref it) 0 >>= _) _ _ _
 refine wX (wpAny_field g1 d1 (x:=.ref l) rfl ?_)
 show wpAny _ _ (if (Value.ref l == Value.none) = true then _ else _) _ _ _
 rw [if_neg (fun z=>Bool.false_ne_true z : ¬ ((Value.ref l == Value.none) = true))]
 show wpAny _ _ (field (.ref it) 1 >>= _) _ _ _
 refine wX (wpAny_field g1 d1 (x:=.int i 0) rfl ?_)
 show wpAny _ _ (seqItems? (.ref l) >>= _) _ _ _
 refine wX (wpAny_seqItems g2 d2 ?_)
 simp only [hv,Int.toNat_natCast]
 refine wX (wpAny_setField g1 d1 (by simp) (wY ⟨v,rfl,wY (k _ ?_ (Heap.SameBut.update ..))⟩))
 exact ⟨_,Heap.get?_update_self _ g1 (Obj.isFreed_of_fields (Obj.data_mapFields d1 _)),(Obj.cls_mapFields ..).trans c1,by rw [Obj.data_mapFields d1]; simp [rawInt]⟩
theorem wE {it l : Addr} {i : Nat} {items : Array Value} {Q : Value->Shared->Prop} (hA : A.handled = none) (st : s.heap.IsTupleIter it l i) (ht : s.heap.IsTuple l items) (hv : items[i]? = none)
  (k : ∀ h' x,Heap.ExtBut it s.heap h'->(∃ o,h'.get? x = some o/\o.cls = .type "StopIteration")->E (.ref x) { s with heap:=h' }) : wpAny (model prog w) A (Builtin.SmallTypes.nextOf (.ref it)) Q E s:=by
 obtain ⟨o1,g1,c1,d1⟩:=id st
 obtain ⟨o2,g2,_,n2,d2⟩:=ht
 unfold Builtin.SmallTypes.nextOf
 refine wX (wpAny_callSpecial?_slot (name:=Str.ofString "__next__") st.typeIs PySem.F.slot_tuple_iterator_next (wpAny_call_entry PySem.F.slot_tuple_iterator_next st.typeIs PySem.F.entry_tuple_iterator_next ?_ (PySem.F.args_tuple_iterator_next_1 _)))
 show wpAny _ _ (field (.ref it) 0 >>= _) _ _ _
 refine wX (wpAny_field g1 d1 (x:=.ref l) rfl ?_)
 show wpAny _ _ (if (Value.ref l == Value.none) = true then _ else _) _ _ _
 rw [if_neg (fun z=>Bool.false_ne_true z : ¬ ((Value.ref l == Value.none) = true))]
 show wpAny _ _ (field (.ref it) 1 >>= _) _ _ _
 refine wX (wpAny_field g1 d1 (x:=.int i 0) rfl ?_)
 show wpAny _ _ (seqItems? (.ref l) >>= _) _ _ _
 refine wX (wpAny_seqItems g2 d2 ?_)
 simp only [hv,Int.toNat_natCast]
 refine wX (wpAny_rule (wX (wpAny_setField g1 d1 (by simp) ?_)))
 show wpAny _ _ (newExc (.type "StopIteration") [] >>= _) _ _ _
 refine wX ?_
 simp only [newTuple,newExc]
 refine wX (wpAny_newObj_type ?_ (by size_fits))
 refine wX (m:=firstArgMember _ _) (wpAny_of_eq (a:=Value.none) (by first | (simp only [firstArgMember]; rfl) | rfl) ?_)
 refine wpAny_newObj_type ?_ (by size_fits)
 simp only [raiseNew]
 refine wX (wpAny_handled ?_)
 first | rw [hA] | rw [show A.in1.handled = none from hA]
 exact wX (wY (wpAny_throw (k _ _ (((Heap.SameBut.update ..).extBut.push _).push _) ⟨_,Heap.get?_push_size _ rfl,rfl⟩)))
end
def KIt : Bool->Heap->Addr->Addr->Nat->Prop
 | true,h,it,a,i=>h.IsListIter it a i
 | false,h,it,a,i=>h.IsTupleIter it a i
def KSq : Bool->Heap->Addr->Array Value->Prop
 | true,h,a,items=>h.IsList a items
 | false,h,a,items=>h.IsTuple a items
def SqK (k : Bool) (K : PySem.W.Frag) (H : Hp) (a : Addr) (xs : List V) : Prop:=match k with | true=>SqL K H a xs | false=>SqT K H a xs
theorem KIt.ob {k : Bool} {h : Heap} {it a : Addr} {i : Nat} (st : KIt k h it a i) : ∃ o,h.get? it = some o/\∀ v,o.data ≠ .cell v:=by
 cases k <;> (obtain ⟨o,g,_,d⟩:=st; exact ⟨o,g,fun v z=>by rw [d] at z; cases z⟩)
theorem KIt.upon {k : Bool} {h h' : Heap} {it a : Addr} {i : Nat} (st : KIt k h it a i) (g : ∀ o,h.get? it = some o->h'.get? it = some o) : KIt k h' it a i:=by
 cases k <;> (obtain ⟨o,e,r⟩:=st; exact ⟨o,g o e,r⟩)
theorem KSq.upon {k : Bool} {h h' : Heap} {a : Addr} {items : Array Value} (st : KSq k h a items) (g : ∀ o,h.get? a = some o->h'.get? a = some o) : KSq k h' a items:=by
 cases k <;> (obtain ⟨o,e,r⟩:=st; exact ⟨o,g o e,r⟩)
theorem KSq.lt {k : Bool} {h : Heap} {a : Addr} {items : Array Value} (st : KSq k h a items) : a < h.objs.size:=by
 cases k <;> (obtain ⟨o,e,r⟩:=st; exact Heap.lt_size e)
theorem SqK.same {k : Bool} {K : PySem.W.Frag} {H H' : Hp} {a : Addr} {xs : List V} (h : SqK k K H a xs) (e : aE H H') : SqK k K H' a xs:=by
 cases k
 ·exact aX e h
 ·exact e.seq h
theorem SqK.vals {X : Cx} {pins : List (Addr × Obj)} {σ : St} {H : Hp} {s : Shared} {k : Bool} {a : Addr} {xs : List V} (I : Inv X pins σ H s) (h : SqK k X.K H a xs) : ∃ its : List Value,aK xs its/\KSq k s.heap a its.toArray/\xs.length<=sizeLine:=by
 cases k
 ·exact I.tuple h
 ·obtain ⟨its,r,p,z⟩:=I.list h
  exact ⟨its,r,p.isList,z⟩
theorem SqK.inj {X : Cx} {pins : List (Addr × Obj)} {σ : St} {H : Hp} {s : Shared} {k : Bool} {a : Addr} {xs ys : List V} (I : Inv X pins σ H s) (h : SqK k X.K H a xs) (h' : SqK k X.K H a ys) : xs = ys:=by
 cases k
 ·exact I.tuple_inj h h'
 ·exact I.list_inj h h'
section
variable {prog : Program} {w : World} {A : Around} {E : Value->Shared->Prop} {s : Shared}
theorem wF {k : Bool} {it l : Addr} {i : Nat} {items : Array Value} {v : Value} {Q : Value->Shared->Prop} (st : KIt k s.heap it l i) (ht : KSq k s.heap l items) (hv : items[i]? = some v)
  (q : ∀ h',KIt k h' it l (i + 1)->Heap.SameBut it s.heap h'->Q v { s with heap:=h' }) : wpAny (model prog w) A (Builtin.SmallTypes.nextOf (.ref it)) Q E s:=by
 cases k
 ·exact tY st ht hv q
 ·exact wpAny_nextOf_list_item st ht hv q
theorem rC {k : Bool} {it l : Addr} {i : Nat} {items : Array Value} {Q : Value->Shared->Prop} (hA : A.handled = none) (st : KIt k s.heap it l i) (ht : KSq k s.heap l items) (hv : items[i]? = none)
  (q : ∀ h' x,Heap.ExtBut it s.heap h'->(∃ o,h'.get? x = some o/\o.cls = .type "StopIteration")->E (.ref x) { s with heap:=h' }) : wpAny (model prog w) A (Builtin.SmallTypes.nextOf (.ref it)) Q E s:=by
 cases k
 ·exact wE hA st ht hv q
 ·exact wpAny_nextOf_list_end hA st ht hv q
end
def itO (k : Bool) (l : Addr) : Obj:={ cls:=.type (if k = true then "list_iterator" else "tuple_iterator"),data:=.fields #[.ref l,.int 0 0] }
theorem pK {prog : Program} {w : World} {A : Around} {E : Value->Shared->Prop} {s : Shared} {k : Bool} {l : Addr} {items : Array Value} {Q : Value->Shared->Prop} (ht : KSq k s.heap l items)
  (q : Q (.ref s.heap.objs.size) { s with heap:=s.heap.push (itO k l) }) : wpAny (model prog w) A (pyIter (.ref l)) Q E s:=by
 cases k
 ·exact wpAny_pyIter_tuple ht q
 ·exact wpAny_pyIter_list ht q
theorem KSq.push {k : Bool} {h : Heap} {a : Addr} {items : Array Value} (st : KSq k h a items) (o : Obj) : KSq k (h.push o) a items:=st.upon fun _ e=>Heap.get?_push_of_some _ e
theorem pL {X : Cx} {pins : List (Addr × Obj)} {σ : St} {H : Hp} {s : Shared} {h' : Heap} {t' : Nat} {ch : List Addr} (I : Inv X pins σ H s) (f : ∀ b ∈ ch,jE X pins H b) (k : ∀ b o,b ∉ ch->s.heap.get? b = some o->h'.get? b = some o) : Inv X pins σ H { s with heap:=h',toks:=t' }:=by
 have nit : ∀ b u,H b = some u->b ∉ ch:=fun b u e z=>by rw [(f b z).1] at e; cases e
 refine I.step (g':=s.gens) (d':=s.drawn) (ch:=ch) (fun b hb=>?_) (fun b o _ _ hc e _=>k b o hc e) (fun b o _ _ hc e _=>⟨o.slots,k b o hc e⟩) (fun _ _ _ _ n=>n)
  (fun b o hc e=>⟨o,k b o hc e⟩) (fun _ _ e=>e) (fun _ _ _ e=>e) (fun _ _ e=>e) (fun m hm=>?_) (fun b u e=>?_) I.bare
 ·obtain ⟨_,f1,_,f3,f4,f5⟩:=f b hb
  exact ⟨f3,f1,f4,f5⟩
 ·obtain ⟨o,es,ep,ho,r⟩:=hm
  exact ⟨o,es,ep,k _ o (fun z=>(f _ z).2.1 rfl) ho,r⟩
 ·refine (I.hok b u e).stay (fun c v hc q=>k c v ?_ q) (fun _ q=>q) (fun _ _ q=>q) fun _ _ _ q=>q
  rcases hc with z | z
  ·rw [z]; exact nit b u e
  ·exact nit c _ z
theorem DW {X : Cx} {pins : List (Addr × Obj)} {σ : St} {H : Hp} {s : Shared} {h' : Heap} {t' : Nat} {ch : List Addr} {a : Addr} {ob : HO} (I : Inv X pins σ H s) (f : ∀ b ∈ ch,jE X pins H b) (k : ∀ b o,b ∉ ch->s.heap.get? b = some o->h'.get? b = some o) (ha : s.heap.objs.size<=a)
  (new : b9 X.prog X.w (upd H a ob) h' a ob) : Inv X pins σ (upd H a ob) { s with heap:=h',toks:=t' }:=by
 have hn : H a = none:=I.hok.fresh ha
 have nit : ∀ b u,H b = some u->b ∉ ch:=fun b u e z=>by rw [(f b z).1] at e; cases e
 have na : ∀ b o,s.heap.get? b = some o->b ≠ a:=fun b o e=>Nat.ne_of_lt (Nat.lt_of_lt_of_le (Heap.lt_size e) ha)
 refine I.step (g':=s.gens) (d':=s.drawn) (ch:=ch) (fun b hb=>?_) (fun b o _ _ hc e _=>k b o hc e) (fun b o _ _ hc e _=>⟨o.slots,k b o hc e⟩) (fun b o _ e n=>by rw [a9 (na b o e)]; exact n)
  (fun b o hc e=>⟨o,k b o hc e⟩) (fun b xs e=>by rw [a9 (aG e hn)]; exact e) (fun b o u e=>by rw [a9 (aG e hn)]; exact e) (fun b ps e=>by rw [a9 (aG e hn)]; exact e) (fun m hm=>?_) (fun b u e=>?_) I.bare
 ·obtain ⟨_,f1,_,f3,f4,f5⟩:=f b hb
  exact ⟨f3,f1,f4,f5⟩
 ·obtain ⟨o,es,ep,ho,r⟩:=hm
  exact ⟨o,es,ep,k _ o (fun z=>(f _ z).2.1 rfl) ho,r⟩
 ·by_cases hb : b = a
  ·subst hb; rw [ax] at e; cases e; exact new
  ·rw [a9 hb] at e
   refine (I.hok b u e).stay (fun c v hc q=>k c v ?_ q) (fun c q=>?_) (fun c xs q=>?_) fun c o xs q=>?_
   ·rcases hc with z | z
    ·rw [z]; exact nit b u e
    ·exact nit c _ z
   ·rw [a9 (aG q hn)]; exact q
   ·rw [a9 (aG q hn)]; exact q
   ·rw [a9 (aG q hn)]; exact q
section
variable {X : Cx} {a b e : Expr} {pos : Pos} {p : Pos}
def ED (xs ys : List D) : List D:=List.zipWith (fun x y=>.tup [x,y]) xs ys
@[simp] def EE (fa fb : FE) : FA:=fun ρ=>(fa ρ).bind fun x=>(fb ρ).bind fun y=>(eM x.1).bind fun xs=>(eM y.1).map fun ys=>ED xs ys
theorem Bt {K : PySem.W.Frag} {B : Hp} {v : V} {d : D} {ds : List D} (h : Is K B v d) (e : eM d = some ds) : ∃ k a vs,v = .ref a/\SqK k K B a vs/\IsL K B vs ds:=by
 cases h with
 | tup ht hl=>cases e; exact ⟨false,_,_,rfl,ht,hl⟩
 | lst ht hl=>cases e; exact ⟨true,_,_,rfl,ht,hl⟩
 | _=>cases e
end
def unown1 (ρ : Env) (i : Nat) : Env:=match ρ[i]? with
 | some (some (d,true))=>ρ.set i (some (d,false))
 | _=>ρ
theorem StN.unown1 {K : PySem.W.Frag} {B0 H0 N H : Hp} {σ : St} {ρ : Env} (s : StN K B0 H0 N H σ ρ) (i : Nat) : StN K B0 H0 N H σ (unown1 ρ i):=by
 unfold DL.unown1
 split
 ·rename_i d hd
  obtain ⟨a,ob,h1,h2,h3,h4⟩:=s.ow i d hd
  have get : ∀ {j : Nat} {e : D} {b : Bool},(ρ.set i (some (d,false)))[j]? = some (some (e,b))->(i = j/\e = d/\b = false) ∨ (i ≠ j/\ρ[j]? = some (some (e,b))):=fun q=>by
   rcases bq q with ⟨z,p⟩ | ⟨z,p⟩
   ·cases p; exact .inl ⟨z,rfl,rfl⟩
   ·exact .inr ⟨z,p⟩
  have o : ∀ c,own σ (ρ.set i (some (d,false))) c->own σ ρ c/\c ≠ a:=fun c ⟨j,e,q1,q2⟩=>by
   rcases get q1 with ⟨_,_,z⟩ | ⟨ne,q⟩
   ·cases z
   ·exact ⟨⟨j,e,q,q2⟩,fun z=>by subst z; exact ne (s.inj i j _ _ _ hd q h1 q2)⟩
  have c : aE (cut N (own σ ρ)) (cut N (own σ (ρ.set i (some (d,false))))):=cU fun b u e q=>⟨e,fun z=>q (o b z).1⟩
  have na : ¬ own σ (ρ.set i (some (d,false))) a:=fun z=>(o a z).2 rfl
  refine ⟨s.bh,s.tb,s.ext,by rw [List.length_set]; exact s.len,fun j e q=>?_,fun j e q=>?_,fun j k b e f q q' z1 z2=>?_⟩
  ·rcases get q with ⟨rfl,rfl,_⟩ | ⟨_,q⟩
   ·exact ⟨_,h1,(h4.mono c).is (by rw [bG na]; exact h2)⟩
   ·obtain ⟨v,k1,k2⟩:=s.sh j e q
    exact ⟨v,k1,k2.mono c⟩
  ·rcases get q with ⟨_,_,z⟩ | ⟨_,q⟩
   ·cases z
   ·obtain ⟨a',o',k1,k2,k3,k4⟩:=s.ow j e q
    exact ⟨a',o',k1,k2,k3,k4.mono c⟩
  ·rcases get q with ⟨_,_,z⟩ | ⟨_,q⟩
   ·cases z
   ·rcases get q' with ⟨_,_,z⟩ | ⟨_,q'⟩
    ·cases z
    ·exact s.inj j k b e f q q' z1 z2
 ·exact s
@[simp] def gUn (is : List Nat) (g : FS) : FS:=fun ρ=>g (is.foldl unown1 ρ)
theorem StN.unowns {K : PySem.W.Frag} {B0 H0 N H : Hp} {σ : St} : ∀ (is : List Nat) {ρ : Env},StN K B0 H0 N H σ ρ->StN K B0 H0 N H σ (is.foldl DL.unown1 ρ)
 | [],_,s=>s
 | i :: is,_,s=>StN.unowns is (s.unown1 i)
theorem C5 {K : PySem.W.Frag} {is : List Nat} {g : FS} {E : Ends} {σ : St} {H : Hp} (q : tDS K (gUn is g) E σ H) : tDS K g E σ H:=by
 obtain ⟨B0,H0,ρ,r,⟨N,s⟩,e,p⟩:=q
 exact ⟨B0,H0,_,r,⟨N,s.unowns is⟩,e,p⟩
theorem DX {X : Cx} {st : Stmt} {g : FS} (is : List Nat) (h : JS X st g) : JS X st (gUn is g):=PS.to h fun _ _ _ q=>C5 q
@[simp] def Bu : FS:=fun ρ=>some (.ct ρ)
@[simp] def EF : FS:=fun ρ=>some (.bk ρ)
@[simp] def EG : FS:=fun _=>none
section
variable {X : Cx} {pos : Pos}
theorem Ah : JS X (.Continue pos) Bu:=PS.to qM fun E σ H q=>by
 obtain ⟨B0,H0,ρ,r,s,e,p⟩:=q
 cases e
 exact p σ H s
end
inductive CRows (K : PySem.W.Frag) (P : Params) : List DictEntry->List (Str × D)->Prop where
 | nil : CRows K P [] []
 | tup {x : Str} {t : Tok} {h : Int} {a : Addr} {its : Array Value} {n : Nat} {osl : Array (Option Value)} {ds : List D} {r : List DictEntry} {kvs : List (Str × D)} (hh : h = PyData.keyHash P x)
   (l : K.lookup a = some ⟨.type "tuple",none,.seq its n,osl⟩) (f : (decide (its.size<=1000) && fU its.toList ds) = true) (tl : CRows K P r kvs) : CRows K P (⟨h,.str x t,.ref a⟩ :: r) ((x,.tup ds) :: kvs)
 | flat {x : Str} {t : Tok} {h : Int} {u : Value} {d : D} {r : List DictEntry} {kvs : List (Str × D)} (hh : h = PyData.keyHash P x) (f : pJ u d = true) (tl : CRows K P r kvs) : CRows K P (⟨h,.str x t,u⟩ :: r) ((x,d) :: kvs)
theorem CRows.lit {K : PySem.W.Frag} {P : Params} : ∀ {es : List DictEntry} {kvs : List (Str × D)},CRows K P es kvs->PySem.W.KeysLit P es
 | _,_,.nil=>trivial
 | _,_,.tup hh _ _ tl=>⟨⟨_,_,rfl,hh⟩,tl.lit⟩
 | _,_,.flat hh _ tl=>⟨⟨_,_,rfl,hh⟩,tl.lit⟩
theorem CRows.find {K : PySem.W.Frag} {P : Params} (y : Str) : ∀ {es : List DictEntry} {kvs : List (Str × D)},CRows K P es kvs->match kvs.lookup y with
  | none=>es.find? (fun e=>Value.isStrOf y e.key) = none
  | some d=>∃ e v,es.find? (fun e=>Value.isStrOf y e.key) = some e/\aN v e.val/\∀ B,Is K B v d
 | _,_,.nil=>rfl
 | _,_,.tup (x:=x) (t:=t) (a:=a) (ds:=ds) hh l f tl=>by
  by_cases e : y = x
  ·subst e
   rw [List.lookup_cons_self]
   rw [Bool.and_eq_true] at f
   obtain ⟨vs,r,i⟩:=fV (K:=K) f.2
   exact ⟨_,.ref a,List.find?_cons_of_pos (by simp [Value.isStrOf]),rfl,fun B=>.tup (.inr ⟨_,_,_,l,rfl,rfl,Nat.le_of_lt (Nat.lt_of_le_of_lt (of_decide_eq_true f.1) (by decide)),r⟩) (i B)⟩
  ·have ih:=tl.find y
   rw [List.lookup_cons,beq_eq_false_iff_ne.mpr e]
   have nf : Value.isStrOf y (Value.str x t) = false:=by
    rw [Bool.eq_false_iff]
    intro z
    obtain ⟨t',q⟩:=Value.isStrOf_shape z
    injection q with q1
    exact e q1.symm
   simp only [List.find?_cons,nf]
   exact ih
 | _,_,.flat (x:=x) (t:=t) (u:=u) (d:=d) hh f tl=>by
  by_cases e : y = x
  ·subst e
   rw [List.lookup_cons_self]
   obtain ⟨v,r1,_⟩:=gU (K:=K) (B:=fun _=>none) f
   refine ⟨_,v,List.find?_cons_of_pos (by simp [Value.isStrOf]),r1,fun B=>?_⟩
   obtain ⟨v',r1',i'⟩:=gU (K:=K) (B:=B) f
   have : v' = v:=by have z1:=r1.abs; rw [r1'.abs] at z1; exact Option.some.inj z1
   subst this
   exact i'
  ·have ih:=tl.find y
   rw [List.lookup_cons,beq_eq_false_iff_ne.mpr e]
   have nf : Value.isStrOf y (Value.str x t) = false:=by
    rw [Bool.eq_false_iff]
    intro z
    obtain ⟨t',q⟩:=Value.isStrOf_shape z
    injection q with q1
    exact e q1.symm
   simp only [List.find?_cons,nf]
   exact ih
def oj (K : PySem.W.Frag) (P : Params) (a : Addr) (kvs : List (Str × D)) : Prop:=∃ es n,K.lookup a = some ⟨.type "dict",none,.dict es n,#[]⟩/\CRows K P es.toList kvs/\(a == sysModules) = false
theorem const_dict {K : PySem.W.Frag} {P : Params} {y : Str} {a : Addr} {es : Array DictEntry} {n : Nat} {kvs : List (Str × D)} (e : PySem.W.nsIn K mainGlobals y = some (some (.ref a))) (l : K.lookup a = some ⟨.type "dict",none,.dict es n,#[]⟩) (r : CRows K P es.toList kvs) (s : (a == sysModules) = false) :
  ∃ a,PySem.W.nsIn K mainGlobals y = some (some (.ref a))/\oj K P a kvs:=⟨a,e,es,n,l,r,s⟩
section
variable {X : Cx} {a b e : Expr} {pos : Pos} {x : Str} {p : Pos}
theorem oj.map {pins : List (Addr × Obj)} {σ : St} {H : Hp} {s : Shared} {d : Addr} {kvs : List (Str × D)} (I : Inv X pins σ H s) (h : oj X.K X.w.params d kvs) : ∃ f : Str->Option Value,s.heap.MapOf (strKind X.prog X.w) d f/\(d == sysModules) = false /\
  ∀ y,match kvs.lookup y with | none=>f y = none | some dd=>∃ u v,f y = some u/\aN v u/\∀ B,Is X.K B v dd:=by
 obtain ⟨es,n,l,r,sm⟩:=h
 refine ⟨_,PySem.W.mapOf_K I.kIn l r.lit,sm,fun y=>?_⟩
 have:=r.find y
 have ff : findBy Value.isStrOf es y = (es.toList.find? fun e=>Value.isStrOf y e.key).map (·.val):=by
  unfold findBy
  obtain ⟨es⟩:=es
  rw [List.find?_toArray]
 cases hl : kvs.lookup y with
 | none=>rw [hl] at this; dsimp only at this ⊢; rw [ff,this]; rfl
 | some dd =>
  rw [hl] at this
  obtain ⟨en,v,e1,e2,e3⟩:=this
  exact ⟨en.val,v,by rw [ff,e1]; rfl,e2,e3⟩
@[simp] def Fh (kvs : List (Str × D)) : D->Option (D × Bool)
 | .str y=>(kvs.lookup y).map fun d=>(d,false)
 | _=>none
@[simp] def cIn (kvs : List (Str × D)) : D->Option (D × Bool)
 | .str y=>some (.bl (kvs.lookup y).isSome,false)
 | _=>none
@[simp] def EH (kvs : List (Str × D)) : D->Option (D × Bool)
 | .str y=>some (.bl (!(kvs.lookup y).isSome),false)
 | _=>none
@[simp] def fW : List D->Option (D × Bool)
 | [.lst ds]=>some (.lst ds,true)
 | [.tup ds]=>some (.lst ds,true)
 | _=>none
@[simp] def cX : List D->Option (D × Bool)
 | [.lst ds]=>some (.tup ds,false)
 | [.tup ds]=>some (.tup ds,false)
 | _=>none
theorem C6 : bW X (.type "list") (rDA X.K fW):=by
 refine bW.to p6 fun xs H Q q=>?_
 obtain ⟨B,ds,d,bb,sB,i,ee,q⟩:=q
 cases i with
 | nil=>simp [fW] at ee
 | cons i1 i2 =>
  cases i2 with
  | cons _ _=>cases i1 <;> simp [fW] at ee
  | nil =>
   cases i1 <;> try (simp [fW] at ee; done)
   ·rename_i l0 vs es h hl
    simp only [fW] at ee
    cases ee
    refine ⟨_,_,rfl,.inr (aX sB h),fun l hp=>?_⟩
    have xt:=Ext.laid (o:=.lst vs) sB hp
    exact q _ _ _ xt (.lst (SqL.of ax) (hl.mono xt.bn)) fun _=>⟨_,_,_,rfl,rfl,hp,ax,hl.mono xt.bn⟩
   ·rename_i l0 vs es h hl
    simp only [fW] at ee
    cases ee
    refine ⟨_,_,rfl,.inl (sB.seq h),fun l hp=>?_⟩
    have xt:=Ext.laid (o:=.lst vs) sB hp
    exact q _ _ _ xt (.lst (SqL.of ax) (hl.mono xt.bn)) fun _=>⟨_,_,_,rfl,rfl,hp,ax,hl.mono xt.bn⟩
theorem vq : bW X (.type "tuple") (rDA X.K cX):=by
 refine bW.to n8 fun xs H Q q=>?_
 obtain ⟨B,ds,d,bb,sB,i,ee,q⟩:=q
 cases i with
 | nil=>simp [cX] at ee
 | cons i1 i2 =>
  cases i2 with
  | cons _ _=>cases i1 <;> simp [cX] at ee
  | nil =>
   cases i1 <;> try (simp [cX] at ee; done)
   ·rename_i l0 vs es h hl
    simp only [cX] at ee
    cases ee
    exact ⟨_,_,rfl,.inr ⟨aX sB h,q.one sB (.tup h hl)⟩⟩
   ·rename_i l0 vs es h hl
    simp only [cX] at ee
    cases ee
    refine ⟨_,_,rfl,.inl ⟨sB.seq h,fun l hp=>?_⟩⟩
    have xt:=Ext.laid (o:=.tup vs) sB hp
    exact q _ _ _ xt (.tup (SqT.of ax) (hl.mono xt.bn)) (by simp)
end
section
variable {X : Cx} {a b e : Expr} {pos : Pos} {x : Str} {p : Pos}
def yk (K : PySem.W.Frag) (n : Nat) (t : TGs) : TG:=fun v σ H Q=>∃ k a xs,v = .ref a/\SqK k K H a xs/\xs.length = n/\t xs σ H Q
theorem C7 {es : List Expr} {kt : Nat} {t : TGs} {n : Nat} (hc : X.calm = true) (h : PGs X es t) (hn : (assignEach es X.env).length = n:=by rfl) (hst : (assignEach es X.env).findIdx? (·.1) = none:=by rfl) : PG X (.Tuple es kt pos) (yk X.K n t):=by
 intro pins s σ H v u Q I r hw
 obtain ⟨k,l,xs,rfl,hq,hl,hw⟩:=hw
 cases r
 cases k with
 | false =>
  obtain ⟨its,rv,ht,hz⟩:=I.tuple hq
  refine assign_Tuple_tuple (I.ok.hd hc) ht (by simp [hn,← hl,rv.length]) hst fun h' hx=>?_
  have I1 : Inv X pins σ H { s with heap:=h' }:=I.kept (t':=s.toks) fun b o e=>hx b o (Nat.ne_of_lt (Heap.lt_size e)) e
  exact h pins _ σ H xs _ Q I1 (by simpa using rv) hw
 | true =>
  obtain ⟨its,rv,ht,hz⟩:=I.list hq
  rw [assign_Tuple]
  refine wX (wpAny_standAt ?_)
  unfold unpack
  have hsz : (assignEach es X.env).length = its.toArray.size:=by simp [hn,← hl,rv.length]
  rw [hsz,hst]
  refine wX (wpAny_holding (PySem.W.kun_itemsOf (I.ok.hd hc) ht.isList fun h' hx=>?_))
  have I1 : Inv X pins σ H { s with heap:=h' }:=I.kept (t':=s.toks) fun b o e=>hx b o (Nat.ne_of_lt (Heap.lt_size e)) e
  exact h pins _ σ H xs _ Q I1 (by simpa using rv) hw
@[simp] def vt (is : List Nat) (f : FE) : FS:=fun ρ=>(f ρ).bind fun x=>(eM x.1).bind fun ds=>(d8 is ds (if aS ds = true then ρ else unown ρ)).map .nx
theorem ym {K : PySem.W.Frag} {is : List Nat} {f : FE} {E : Ends} {σ : St} {H : Hp} (q : tDS K (vt is f) E σ H) : wf (tD K f) (yk K is.length (jN is)) E σ H:=by
 obtain ⟨B0,H0,ρ,r,⟨N,s⟩,e,p⟩:=q
 obtain ⟨x,ex,e⟩:=oX e
 obtain ⟨ds,es,e⟩:=oX e
 obtain ⟨ρ',eρ,e⟩:=oY e
 subst e
 refine ⟨N,ρ,x.1,x.2,s.ext.nh,s.rep,ex,fun v H1 N1 x1 i1 _=>?_⟩
 obtain ⟨k,a,vs,rfl,sq,il⟩:=Bt i1 es
 have s1:=s.grow x1
 refine ⟨k,a,vs,rfl,sq.same x1.nh,by rw [il.length]; exact jO eρ, ?_⟩
 by_cases hn : aS ds = true
 ·rw [if_pos hn] at eρ
  exact fB s1 (s1.flats il hn) eρ fun σ' s'=>p σ' H1 ⟨N1,s'⟩
 ·rw [if_neg hn] at eρ
  exact fB s1.unown (il.mono fun a o e=>by rw [bG jG]; exact e) eρ fun σ' s'=>p σ' H1 ⟨N1,s'⟩
theorem Ai {es : List Expr} {kt : Nat} {is : List Nat} {f : FE} {p2 : Pos} (he : JE X e f) (hg : PG X (.Tuple es kt p2) (yk X.K is.length (jN is))) (hs : swapsWithSole [.Tuple es kt p2] e pos.line X.env = pure false:=by rfl) (hw : swappedStores [.Tuple es kt p2] e X.env = pure none:=by rfl)
  (h1 : (assignEach [.Tuple es kt p2] X.env).map (·.2) = [assign (.Tuple es kt p2) X.env]:=by rfl) : JS X (.Assign [.Tuple es kt p2] e pos) (vt is f):=PS.to (BK he hg hs hw h1) fun _ _ _ q=>ym q
@[simp] def Fi (i : Nat) (fk fv : FE) : FS:=fun ρ=>match ρ[i]? with
 | some (some (.lst ds,true))=>(fv ρ).bind fun v=>(fk ρ).bind fun k=>match k.1 with
  | .int j=>(ixN ds.length j).bind fun n=>if bg v.1 = true then some (.nx (ρ.set i (some (.lst (ds.set n v.1),true)))) else none
  | _=>none
 | _=>none
@[simp] def Fj (i : Nat) (g : List D->Option (List D)) : FS:=fun ρ=>match ρ[i]? with
 | some (some (.lst ds,true))=>(g ds).map fun es=>.nx (ρ.set i (some (.lst es,true)))
 | _=>none
@[simp] def Fk (i : Nat) (f : FE) : FS:=fun ρ=>match ρ[i]? with
 | some (some (.lst ds,true))=>(f ρ).bind fun x=>match x.1 with
  | .lst es=>if x.2 = true/\aS es = true/\ds.length + es.length<=sizeLine then some (.nx (ρ.set i (some (.lst (ds ++ es),true)))) else none
  | _=>none
 | _=>none
@[simp] def Fl : List D->Option (D × Bool)
 | [.int i]=>some (.int i,false)
 | [.bl b]=>some (.int (if b then 1 else 0),false)
 | _=>none
end
open AutoSeq1 (wpAny_loadPart')
set_option maxRecDepth 100000
def sqT (k : Bool) : String:=if k = true then "list" else "tuple"
theorem rE (k : Bool) (l : Addr) (items : Array Value) (n : Nat) (dct : Option Addr) (sl : Array (Option Value)) :
  Meets (Builtin.«enumerate.__new__» ⟨[.type "enumerate",.ref l],[]⟩) (fun _ R s=>s.heap.get? l = some { cls:=.type (sqT k),dict:=dct,data:=.seq items n,slots:=sl } /\
   R (.ok (.ret (.ref (s.heap.push (itO k l)).objs.size))) { s with heap:=(s.heap.push (itO k l)).push { cls:=.type "enumerate",data:=.fields #[.none,.bool false,.ref s.heap.objs.size,rawInt 0,.none,.none] } }) :=
 .of_wp fun prog w A R s hs=>by
  obtain ⟨hp,g,d,tk,os⟩:=s; obtain ⟨hl,hs⟩:=hs
  have hsub:=sub_enumerate
  have hL : KSq k (Shared.heap ⟨hp,g,d,tk,os⟩) l items:=by cases k <;> exact ⟨_,hl,rfl,n,rfl⟩
  wp_walk using wpAny_loadPart' hl
  refine wpAny_stack_any fun st=>wY ?_
  split
  ·rename_i c _ _ _ _ _
   cases (c == Value.type "enumerate")
   ·wp_walk using wpAny_loadPart' hl,pK hL
    exact ⟨_,rfl,hs⟩
   ·wp_walk using wpAny_loadPart' hl,pK hL
    exact ⟨_,rfl,hs⟩
  ·wp_walk using wpAny_loadPart' hl,pK hL
   exact ⟨_,rfl,hs⟩
section
variable {prog : Program} {w : World} {A : Around} {E : Value->Shared->Prop} {s : Shared}
theorem yn {k : Bool} {l : Addr} {items : Array Value} {Q : Value->Shared->Prop} (hL : KSq k s.heap l items)
  (q : ∀ h',IsEnum h' (s.heap.objs.size + 1) s.heap.objs.size 0 .none->KIt k h' s.heap.objs.size l 0->(∀ b o,s.heap.get? b = some o->h'.get? b = some o)->Q (.ref (s.heap.objs.size + 1)) { s with heap:=h' }) :
  wpAny (model prog w) A (call (.type "enumerate") [.ref l]) Q E s:=by
 have hh : ∃ (dct : Option Addr) (sl : Array (Option Value)) (n : Nat),s.heap.get? l = some { cls:=.type (sqT k),dict:=dct,data:=.seq items n,slots:=sl }:=by
  cases k <;> (obtain ⟨⟨c,dct,dt,sl⟩,hl,hc,n,hd⟩:=hL; dsimp only at hc hd; subst hc; subst hd; exact ⟨dct,sl,n,hl⟩)
 obtain ⟨dct,sl,n,hl⟩:=hh
 refine callType_new PySem.F.called_enumerate (by decide) (PySem.F.typeCall_enumerate_1 _) (PySem.F.newCall_enumerate_1 _) (fun obj=>PySem.F.args_object_init_2 obj _) PySem.F.entry_enumerate_new (rE k l items n dct sl) ⟨hl, ?_⟩
 have n1 : (s.heap.push (itO k l)).objs.size = s.heap.objs.size + 1:=Heap.size_push ..
 have g2 : ((s.heap.push (itO k l)).push { cls:=.type "enumerate",data:=.fields #[.none,.bool false,.ref s.heap.objs.size,rawInt 0,.none,.none] }).get? (s.heap.push (itO k l)).objs.size = some _:=Heap.get?_push_size _ rfl
 have g1 : ((s.heap.push (itO k l)).push { cls:=.type "enumerate",data:=.fields #[.none,.bool false,.ref s.heap.objs.size,rawInt 0,.none,.none] }).get? s.heap.objs.size = some _:=Heap.get?_push_of_some _ (Heap.get?_push_size _ (by cases k <;> rfl))
 rw [n1] at g2
 show _/\_
 rw [n1]
 refine ⟨⟨_,g2,rfl⟩,q _ g2 ?_ fun b o e=>Heap.get?_push_of_some _ (Heap.get?_push_of_some _ e)⟩
 cases k <;> exact ⟨_,g1,rfl,rfl⟩
theorem C8 (hA : A.handled = none) {k : Bool} (it l : Addr) (hne : l ≠ it) (items : Array Value) : Draws prog w A it [it,l] items.size (fun i v=>items[i]? = some v) (fun i h=>KIt k h it l i/\KSq k h l items) where
 live:=fun i h st=>let ⟨o,e,_⟩:=st.1.ob; ⟨o,e⟩
 frame:=fun i h h' st kk=>⟨st.1.upon fun o e=>kk it (by simp) o e,st.2.upon fun o e=>kk l (by simp) o e⟩
 item:=fun i s Q E hi st q=>wF st.1 st.2 (v:=items[i]) (by simp [hi]) fun h' st' sb=>q _ h' s.toks (by simp [hi]) ⟨st',st.2.upon fun o e=>sb.extBut _ _ hne e⟩ sb
 done:=fun s Q E st q=>rC hA st.1 st.2 (by simp) q
theorem C9 (hA : A.handled = none) {k : Bool} (it l : Addr) (items : Array Value) (n : Nat) (hn : items[n]? = none) : Draws prog w A it [it,l] n (fun _ _=>True) (fun i h=>(KIt k h it l i/\KSq k h l items)/\i = n) where
 live:=fun i h st=>let ⟨o,e,_⟩:=st.1.1.ob; ⟨o,e⟩
 frame:=fun i h h' st kk=>⟨⟨st.1.1.upon fun o e=>kk it (by simp) o e,st.1.2.upon fun o e=>kk l (by simp) o e⟩,st.2⟩
 item:=fun i s Q E hi st q=>absurd st.2 (Nat.ne_of_lt hi)
 done:=fun s Q E st q=>rC hA st.1.1 st.1.2 hn q
end
def Ite (K : PySem.W.Frag) (k : Bool) (a : Addr) : It :=
  ⟨fun i H=>∃ xs x,SqK k K H a xs/\xs[i]? = some x,
   fun i H v H'=>∃ T x,v = .ref T/\H T = none/\H' = upd H T (.tup [.int i,x])/\∀ xs,SqK k K H a xs->xs[i]? = some x,
   fun i H=>∃ xs,SqK k K H a xs/\xs.length<=i⟩
theorem wG {P : Program} {w : World} {K : PySem.W.Frag} {es : List Expr} {kt : Nat} {pt : Pos} {k : Bool} {a e it : Addr} (hei : e ≠ it) (hae : a ≠ e) (hai : a ≠ it) :
  Turn P w K (.Tuple es kt pt) (Ite K k a) [e,it] e (fun i h=>(∃ old,IsEnum h e it i old)/\KIt k h it a i) where
 mem:=by simp
 obj:=fun i h st b hb=>by
  obtain ⟨⟨old,he⟩,t1⟩:=st
  simp at hb
  rcases hb with rfl | rfl
  ·exact ⟨_,he,fun v z=>by cases z⟩
  ·exact t1.ob
 keep:=fun i h h' st kk=>by
  obtain ⟨⟨old,he⟩,t1⟩:=st
  exact ⟨⟨old,kk e (by simp) _ he⟩,t1.upon fun o q=>kk it (by simp) o q⟩
 item:=by
  intro X hP hw hK hc i pins s σ H E I hf st hg
  subst hP hw hK
  obtain ⟨⟨old,he⟩,t1⟩:=st
  obtain ⟨xs,x,q1,hx⟩:=hg
  obtain ⟨its,r1,p1,z1⟩:=q1.vals I
  obtain ⟨u,hu,ru⟩:=r1.get hx
  have fresh : H s.heap.objs.size = none:=I.hok.fresh (Nat.le_refl _)
  have ilt : i < its.toArray.size:=by rw [List.size_toArray]; exact (List.getElem?_eq_some_iff.mp hu).1
  have hel : e ≠ s.heap.objs.size:=Nat.ne_of_lt (Heap.lt_size he)
  have hil : it ≠ s.heap.objs.size:=by obtain ⟨o,q,_⟩:=t1.ob; exact Nat.ne_of_lt (Heap.lt_size q)
  refine wpAny_pyNext_enum_itemD (C8 (A:=X.A.in1) (I.ok.hd hc) it a hai its.toArray) he ⟨t1,p1⟩ ilt hei (by simp [hei,hae.symm]) fun v h' tk hv ho st' hT hsz hk=>?_
  have ev : v = u:=by
   have hv' : its[i]? = some v:=by simpa using hv
   rw [hu] at hv'; exact (Option.some.inj hv').symm
  subst ev
  refine ⟨_,rfl,wpAny_letOwnedTupleGo_enum (s:={ s with heap:=h',toks:=tk + 1 }) ho fun h2 he2 s2=>?_⟩
  have s2' : Heap.SameBut e h' h2:=s2
  have kk : ∀ b o,b ∉ [e,it]->s.heap.get? b = some o->h2.get? b = some o:=fun b o hb q=>s2'.extBut _ _ (fun z=>hb (by simp [z])) (hk b o (fun z=>hb (by simp [z])) (fun z=>hb (by simp [z])) q)
  have new : b9 X.prog X.w (upd H s.heap.objs.size (.tup [.int i,x])) h2 s.heap.objs.size (.tup [.int i,x]):=⟨by show 2<=sizeLine; decide,[.int i tk,v],.cons ⟨tk,rfl⟩ (.cons ru .nil),⟨_,s2'.extBut _ _ hel.symm hT,rfl,_,rfl⟩⟩
  refine ⟨.ref s.heap.objs.size,upd H s.heap.objs.size (.tup [.int i,x]),DW (s:=s) (t':=tk + 1) I hf kk (Nat.le_refl _) new,rfl,⟨_,x,rfl,fresh,rfl,fun zs hq=>by rw [SqK.inj I hq q1]; exact hx⟩, ?_,fun b hb=>?_⟩
  ·exact ⟨⟨_,by have:=he2; rw [show ((i : Int) + 1) = ((i + 1 : Nat) : Int) by omega] at this; exact this⟩,st'.1.upon fun o q=>s2'.extBut _ _ hei.symm q⟩
  ·have hne : b ≠ s.heap.objs.size:=by
    simp at hb
    rcases hb with rfl | rfl
    ·exact hel
    ·exact hil
   rw [a9 hne]; exact (hf b hb).1
 done:=by
  intro X hP hw hK hc i pins s σ H E I hf st hg
  subst hP hw hK
  obtain ⟨⟨old,he⟩,t1⟩:=st
  obtain ⟨xs,q1,hl⟩:=hg
  obtain ⟨its,r1,p1,z1⟩:=q1.vals I
  have n1:=r1.length
  refine wpAny_pyNext_enum_endD (C9 (A:=X.A.in1) (I.ok.hd hc) it a its.toArray i (by simp; omega)) he ⟨⟨t1,p1⟩,rfl⟩ fun h' hk=>⟨rfl, ?_⟩
  exact pL (t':=s.toks) I hf fun b o hb q=>hk b o (fun z=>hb (by simp [z])) q
 self:=fun _ _ _ _ _ st h=>let ⟨⟨_,he⟩,_⟩:=st; wpAny_pyIter_enum he h
section
variable {X : Cx} {a b e : Expr} {pos : Pos} {p : Pos}
theorem rF : bootBuiltins "enumerate" = some (.type "enumerate"):=by decide +kernel
def om (ds : List D) : List D:=ds.mapIdx fun i d=>.tup [.int i,d]
@[simp] def yo (fa : FE) : FA:=fun ρ=>(fa ρ).bind fun x=>(eM x.1).map om
theorem Aj {K : PySem.W.Frag} {N : Hp} {k : Bool} {l : Addr} {vs : List V} {ds : List D} (h1 : SqK k K N l vs) (i1 : IsL K N vs ds) : pA K (Ite K k l) N (om ds):=by
 intro i H' sm
 have n1:=i1.length
 refine ⟨fun d ed=>?_,fun hl=>⟨vs,h1.same sm, ?_⟩⟩
 ·unfold om at ed
  rw [List.getElem?_mapIdx] at ed
  obtain ⟨x,e1,rfl⟩:=oY ed
  obtain ⟨v,ev,iv⟩:=i1.get e1
  refine ⟨⟨vs,v,h1.same sm,ev⟩,fun r H2 hy=>?_⟩
  obtain ⟨T,v',rfl,hT,rfl,f1⟩:=hy
  have e3:=f1 vs (h1.same sm)
  rw [ev] at e3; cases e3
  have xt:=Ext.laid (o:=.tup [.int i,v]) sm hT
  exact ⟨_,xt,.tup (SqT.of ax) (.cons (.int _) (.cons (iv.mono xt.bn) .nil))⟩
 ·unfold om at hl
  rw [List.length_mapIdx] at hl
  omega
theorem Ak {es : List Expr} {kt : Nat} {pt : Pos} {fa : FE} (hm : X.mg "enumerate" = none) (ha : JE X a fa) (hg : Gl X "enumerate":=by rfl) (hs : starEach [a] X.env = [(false,eval a X.env)]:=by rfl) :
  JI X (.Tuple es kt pt) (.Call (.Name "enumerate" p) [a] [] pos) (yo fa):=by
 intro pins s σ H R I q
 refine Call_ (iB I hg hm rF (PyProof.Rows.callWith_type1 (thn (ab ha ag hs pos pins s σ H (fun vs H1=>∃ (k : Bool) (l : Addr) (us : List V),vs = [.ref l]/\SqK k X.K H1 l us/\R (Ite X.K k l) H1) I ?_) fun us s1 ⟨vs,H1,I1,r1,q1⟩=>?_) hs rfl))
 ·obtain ⟨B,ρ,ds,sB,r,ee,q⟩:=q
  obtain ⟨x1,ex,ee⟩:=oX ee
  obtain ⟨xs,exs,ee⟩:=oY ee
  subst ee
  refine ⟨B,ρ,[x1.1],sB,r,by simp [ae,ak,ex],fun vs H1 N1 xt i1=>?_⟩
  cases i1 with
  | cons j1 j2 =>
   cases j2
   obtain ⟨k1,l1,us,rfl,s1,m1⟩:=Bt j1 exs
   exact ⟨k1,l1,us,rfl,s1.same xt.nh,q _ H1 N1 xt (Aj s1 m1)⟩
 ·obtain ⟨k,l,ws,rfl,h1,q⟩:=q1
  obtain ⟨u1,rfl,ru1⟩:=r1.one
  cases ru1
  obtain ⟨its,v1,p1,z1⟩:=h1.vals I1
  have lt1:=p1.lt
  refine yn p1 fun h' c1 c2 ck=>?_
  refine wpAny_pyIter_enum c1 ⟨s1.heap.objs.size + 1,[s1.heap.objs.size + 1,s1.heap.objs.size],_,_,H1,rfl,I1.kept (t':=s1.toks) ck,
   wG (Nat.succ_ne_self _) (Nat.ne_of_lt (Nat.lt_succ_of_lt lt1)) (Nat.ne_of_lt lt1),⟨⟨_,c1⟩,c2⟩,fun b hb=>?_,q⟩
  have hle : s1.heap.objs.size<=b:=by
   simp at hb
   rcases hb with rfl | rfl
   ·exact Nat.le_succ _
   ·exact Nat.le_refl _
  exact I1.fpOk hle (I1.hok.fresh hle)
end
end DL
namespace DL
open PySem PySem.Spec PyProof.Rows
theorem wH (t : SetTable) (es : Array (Int × Value)) (n : Nat) : (relayAll t es n).2.1.led = t.led:=by
 unfold relayAll
 split
 ·rename_i t' order h
  unfold SetTable.relaid SetTable.laid at h
  obtain ⟨ow,_,h⟩:=oX h
  cases h
  dsimp only
  split <;> rfl
 ·rfl
theorem rG (t : SetTable) (es : Array (Int × Value)) (n : Nat) (hp : t.plain = false) : (relayAll t es n).2.1.plain = false:=by
 unfold relayAll
 split
 ·rename_i t' order h
  unfold SetTable.relaid SetTable.laid at h
  obtain ⟨ow,_,h⟩:=oX h
  cases h
  dsimp only
  split
  ·exact hp
  ·rfl
 ·rfl
theorem Al (t : SetTable) (es : Array (Int × Value)) (h : Int) (x : Value) : (layNew t es h x).2.1.led = t.led:=by
 unfold layNew
 split
 ·dsimp only [SetTable.put,SetTable.orStandIn]
  repeat' (first | rfl | split)
 ·rfl
structure TabT (w : World) (es : Array (Int × Value)) (t : SetTable) : Prop where
 fits : t.fits es.size = true
 led : t.led = !w.params.followText "set-order"
 plain : es.size ≠ 0->t.plain = false
def fj (prog : Program) (w : World) (h : Heap) (a : Addr) (ts : List Str) : Prop :=
 ∃ o es ep t,h.get? a = some o/\o.ExactSet/\o.data = .set es ep t/\ElemsOf (PySem.strKind prog w) es.toList/\(es.toList.map (fun e=>strOf e.2)).Perm ts/\ts.Nodup/\ts.length < scanBound/\TabT w es t
def fD (ts : List Str) (x : Str) : List Str:=if x ∈ ts then ts else ts ++ [x]
theorem yp (ts : List Str) (x : Str) : (fD ts x).length<=ts.length + 1:=by unfold fD; split <;> simp
theorem rH {k : Str} {v : Value} (h : Value.isStrOf k v = true) : strOf v = k:=by obtain ⟨t,rfl⟩:=Value.isStrOf_shape h; rfl
section
variable {prog : Program} {w : World} {A : Around} {E : Value->Shared->Prop} {s : Shared}
theorem oq {es : Array (Int × Value)} {ts : List Str} (hel : ElemsOf (PySem.strKind prog w) es.toList) (hp : (es.toList.map (fun e=>strOf e.2)).Perm ts) (k : Str) : k ∈ ts ↔ ∃ e ∈ es.toList,(PySem.strKind prog w).is k e.2 = true:=by
 rw [← hp.mem_iff,List.mem_map]
 constructor
 ·rintro ⟨e,he,rfl⟩
  obtain ⟨⟨k',hk,_⟩,_⟩:=hel e he
  have hk' : Value.isStrOf k' e.2 = true:=hk
  refine ⟨e,he, ?_⟩
  show Value.isStrOf (strOf e.2) e.2 = true
  rw [rH hk']; exact hk'
 ·rintro ⟨e,he,hk⟩
  exact ⟨e,he,rH hk⟩
theorem ot {h : Heap} {a : Addr} {o : Obj} {es : Array (Int × Value)} {ep : Nat} {t : SetTable} (ho : h.get? a = some o) (hd : o.data = .set es ep t) (es' : Array (Int × Value)) (t' : SetTable) :
  (h.update a (Obj.putSet es' t')).get? a = some { o with data:=.set es' (ep + 1) t' }:=by
 have:=Heap.get?_update_self (Obj.putSet es' t') ho (by rw [putSet_of es' t' hd]; rfl)
 rw [putSet_of es' t' hd] at this; exact this
theorem rJ {g : Bool->Sem Unit} (hg : ∀ (b : Bool) (s₁ : Shared) (Q' : Unit->Shared->Prop),Q' () s₁->wpAny (model prog w) A (g b) Q' E s₁)
  {a : Addr} {o : Obj} {es : Array (Int × Value)} {ep : Nat} {t : SetTable} (ho : s.heap.get? a = some o) (hex : o.ExactSet) (hd : o.data = .set es ep t)
  {es1 : Array (Int × Value)} {t2 : SetTable} {ts : List Str} (hel1 : ElemsOf (PySem.strKind prog w) es1.toList) (hp1 : (es1.toList.map (fun e=>strOf e.2)).Perm ts) (nd : ts.Nodup)
  (hb1 : ts.length < scanBound) (hf2 : t2.fits es1.size = true) (hl2 : t2.led = !w.params.followText "set-order") (hpl : t2.plain = false) {wasDummy : Bool} {R : Option Bool->Shared->Prop}
  (h : ∀ h',Heap.SameBut a s.heap h'->fj prog w h' a ts->R (some true) { s with heap:=h' }) :
  wpAny (model prog w) A (do
    storeSet a es1 t2
    if (!wasDummy && t2.tooFull) = true then do
      g (relayAll t2 es1 (SetTable.grown es1.size)).2.2
      storeSet a (relayAll t2 es1 (SetTable.grown es1.size)).1 (relayAll t2 es1 (SetTable.grown es1.size)).2.1
      pure (some true)
     else pure (some true)) R E s:=by
 have sz1 : es1.size = ts.length:=by rw [← hp1.length_eq,List.length_map,Array.length_toList]
 refine wX (wpAny_storeSet_of ho hd ?_ (fits_of_scanBound (by rw [sz1]; exact hb1)))
 have ho1:=ot ho hd es1 t2
 have hsb1:=Heap.SameBut.update s.heap a (Obj.putSet es1 t2)
 split
 ·have hp:=relayAll_perm t2 es1 (SetTable.grown es1.size)
  have hfr:=relayAll_fits t2 es1 (SetTable.grown es1.size)
  have hle:=wH t2 es1 (SetTable.grown es1.size)
  have hpa:=rG t2 es1 (SetTable.grown es1.size) hpl
  generalize hRl : relayAll t2 es1 (SetTable.grown es1.size) = Rl at hp hfr hle hpa ⊢
  obtain ⟨es2,t3,gave2⟩:=Rl
  dsimp only at hp hfr hle hpa ⊢
  have hel2 : ElemsOf (PySem.strKind prog w) es2.toList:=hel1.perm hp
  have hsz : es2.size = es1.size:=by rw [← Array.length_toList,hp.length_eq,Array.length_toList]
  refine wX (hg _ _ _ ?_)
  refine wX (wpAny_storeSet_of ho1 rfl ?_ (fits_of_scanBound (by rw [hsz,sz1]; exact hb1)))
  have ho2:=ot ho1 rfl es2 t3
  exact wY (h _ (hsb1.trans (Heap.SameBut.update _ a _)) ⟨_,es2,_,t3,ho2,hex,rfl,hel2,(hp.map _).trans hp1,nd,hb1,hfr,hle.trans hl2,fun _=>hpa⟩)
 ·exact wY (h _ hsb1 ⟨_,es1,_,t2,ho1,hex,rfl,hel1,hp1,nd,hb1,hf2,hl2,fun _=>hpl⟩)
theorem tZ {a : Addr} {ts : List Str} {k : Str} {tk : Tok} {Q : Bool->Shared->Prop} (hS : fj prog w s.heap a ts) (hroom : ts.length + 1 < scanBound)
  (h : ∀ b h',Heap.SameBut a s.heap h'->fj prog w h' a (fD ts k)->Q b { s with heap:=h' }) :
  wpAny (model prog w) A (setAddHashed a (.str k tk) ((PySem.strKind prog w).hash k)) Q E s:=by
 have hS0:=hS
 obtain ⟨o,es,ep,t,ho,hex,hd,hel,hperm0,nd,hb,hf,hled,hpl⟩:=hS
 have hkey : (PySem.strKind prog w).is k (.str k tk) = true:=strKind_is prog w k tk
 have sz : es.size = ts.length:=by rw [← hperm0.length_eq,List.length_map,Array.length_toList]
 unfold setAddHashed setAddHashedIn
 refine wpAny_holding (wX (wpAny_setState_of ho hd hf ?_))
 dsimp only
 rw [byScan_of (x:=.str k tk) rfl (by rw [sz]; exact hb) hel]
 simp only [↓reduceIte]
 unfold setAddByScan
 refine wX ?_
 refine wX (wpAny_rule ?_)
 refine wX (wpAny_setScan_of hkey ho hd hf hel ?_)
 cases hr : List.findIdx? (fun e=>(PySem.strKind prog w).is k e.2) es.toList with
 | some j =>
  dsimp only
  obtain ⟨hj,hpj,_⟩:=List.findIdx?_eq_some_iff_getElem.mp hr
  have hm : k ∈ ts:=(oq hel hperm0 k).mpr ⟨es.toList[j],List.getElem_mem hj,hpj⟩
  refine wY (wY ?_)
  have e : fD ts k = ts:=by unfold fD; rw [if_pos hm]
  exact h false s.heap (Heap.SameBut.refl a s.heap) (by rw [e]; exact hS0)
 | none =>
  dsimp only
  have hm : k ∉ ts:=fun z=>by
   obtain ⟨e,he,hp⟩:=(oq hel hperm0 k).mp z
   have:=List.findIdx?_eq_none_iff.mp hr e he
   rw [hp] at this; exact Bool.noConfusion this
  have ea : fD ts k = ts ++ [k]:=by unfold fD; rw [if_neg hm]
  have hgw : ∀ (b : Bool) {s₁ : Shared} {Q' : Unit->Shared->Prop},Q' () s₁->wpAny (model prog w) A (match b with | true=>rule "set.scan.the-table-gave-way" | false=>pure ()) Q' E s₁ :=
   fun b s₁ Q' hq=>by cases b <;> first | exact wY hq | exact wpAny_rule hq
  have hperm:=layNew_perm t es ((PySem.strKind prog w).hash k) (.str k tk)
  have hfits:=layNew_fits t es ((PySem.strKind prog w).hash k) (.str k tk)
  have hl1:=Al t es ((PySem.strKind prog w).hash k) (.str k tk)
  generalize hL : layNew t es ((PySem.strKind prog w).hash k) (.str k tk) = L at hperm hfits hl1 ⊢
  obtain ⟨es1,t1,wasDummy,gave⟩:=L
  dsimp only at hperm hfits hl1 ⊢
  rw [Array.toList_push] at hperm
  have hel1 : ElemsOf (PySem.strKind prog w) es1.toList:=(hel.push hkey rfl).perm hperm
  have hp1 : (es1.toList.map (fun e=>strOf e.2)).Perm (ts ++ [k]):=(hperm.map _).trans (by rw [List.map_append]; exact hperm0.append_right _)
  have nd1 : (ts ++ [k]).Nodup:=by
   rw [List.nodup_append]
   refine ⟨nd,by simp,fun x hx y hy=>?_⟩
   rw [List.mem_singleton] at hy
   subst hy
   exact fun z=>hm (z ▸ hx)
  have hb1 : (ts ++ [k]).length < scanBound:=by rw [List.length_append]; exact hroom
  refine wX (hgw _ ?_)
  have hend : ∀ h',Heap.SameBut a s.heap h'->fj prog w h' a (ts ++ [k])->Q true { s with heap:=h' }:=fun h' hsb hS'=>h true h' hsb (by rw [ea]; exact hS')
  split
  ·refine wX ?_
   rw [hashByValue_scannable 8 (x:=.str k tk) rfl]
   refine wY ?_
   refine rJ ?_ ho hex hd hel1 hp1 nd1 hb1 ?_ ?_ ?_ ?_
   ·intro b s₁ Q' hq; cases b <;> first | exact wY hq | exact wpAny_rule hq
   ·exact SetTable.fits_plain_off hfits
   ·exact hl1.trans hled
   ·rfl
   ·intro h' hsb hS'; dsimp only; exact wY (hend h' hsb hS')
  ·rename_i hnp
   refine wX (wY ?_)
   simp only [↓reduceIte]
   refine rJ ?_ ho hex hd hel1 hp1 nd1 hb1 hfits (hl1.trans hled) (by simpa using hnp) ?_
   ·intro b s₁ Q' hq; cases b <;> first | exact wY hq | exact wpAny_rule hq
   ·intro h' hsb hS'; dsimp only; exact wY (hend h' hsb hS')
end
def eF (ss : List Str) : List Str:=ss.foldl fD []
theorem ua {ts : List Str} (h : ts.Nodup) (x : Str) : (fD ts x).Nodup:=by
 unfold fD; split
 ·exact h
 ·rename_i hm
  rw [List.nodup_append]
  refine ⟨h,by simp,fun y hy z hz=>?_⟩
  rw [List.mem_singleton] at hz
  subst hz
  exact fun e=>hm (e ▸ hy)
theorem g0 {ts : List Str} {x y : Str} : y ∈ fD ts x ↔ y ∈ ts ∨ y = x:=by
 unfold fD; split
 ·rename_i hm; exact ⟨.inl,fun z=>z.elim id fun e=>e ▸ hm⟩
 ·simp
theorem pM (ss : List Str) : ∀ ts : List Str,(ss.foldl fD ts).length<=ts.length + ss.length:=by
 induction ss with
 | nil=>intro ts; simp
 | cons x r ih=>intro ts; rw [List.foldl_cons]; have:=ih (fD ts x); have:=yp ts x; simp only [List.length_cons]; omega
theorem lO (ss : List Str) : (eF ss).length<=ss.length:=by have:=pM ss []; simpa [eF] using this
theorem wI (ss : List Str) (x : Str) : eF (ss ++ [x]) = fD (eF ss) x:=by unfold eF; rw [List.foldl_append]; rfl
theorem StrsAre.at : ∀ {vs : List Value} {ss : List Str},StrsAre vs ss->∀ (i : Nat) (v : Value),vs[i]? = some v->∃ x t,v = .str x t/\ss[i]? = some x
 | _,_,.nil,i,v,h=>by simp at h
 | _,_,.cons x t hr,0,v,h=>by simp at h; exact ⟨x,t,h.symm,rfl⟩
 | _,_,.cons x t hr,i + 1,v,h=>by
  simp only [List.getElem?_cons_succ] at h
  exact StrsAre.at hr i v h
theorem fj.at {prog : Program} {w : World} {h h' : Heap} {a : Addr} {ts : List Str} (x : fj prog w h a ts) (k : ∀ o,h.get? a = some o->h'.get? a = some o) : fj prog w h' a ts:=by
 obtain ⟨o,es,ep,t,ho,r⟩:=x
 exact ⟨o,es,ep,t,k o ho,r⟩
section
variable {prog : Program} {w : World} {A : Around} {R : Result->Shared->Prop} {I : Addr} {fp wr : List Addr} {G : Array GenState->Array GenState->Prop} {n : Nat} {P : Nat->Value->Prop} {St : Nat->Shared->Prop}
theorem pN (W : WalksS prog w A.in1 I fp wr G n P St) (S : Addr) (hSf : S ∉ fp) (ss : List Str) (hn : ss.length = n)
  (hval : ∀ i v,P i v->∃ x t,v = .str x t/\ss[i]? = some x) (hb : n + 1 < scanBound) :
  ∀ (k i : Nat) (s : Shared),n - i = k->i<=n->St i s->fj prog w s.heap S (eF (ss.take i)) ->
   (∀ s',Moved (S :: wr) G s s'->fj prog w s'.heap S (eF ss)->R (.ok (.ret .none)) s') ->
   codeAny (model prog w) A (.builtin "set.update.loop" ⟨[.ref S,.ref I],[]⟩) R s:=by
 have hSw : S ∉ wr:=fun h=>hSf (W.sub _ h)
 have hsub : ∀ b ∈ wr,b ∈ S :: wr:=fun b hb=>mZ _ hb
 intro k
 induction k with
 | zero =>
  intro i s hk hi hst hS hR
  have hin : i = n:=by omega
  subst hin
  refine codeAny_builtin PyProof.Rows.F.entry_set_update_loop ?_
  rw [Around.under_plainId PyProof.Rows.F.plain_set_update_loop _]
  show wpAny _ A.in1 (pyNext (.ref I) >>= _) _ _ s
  refine wX (W.done s _ _ hst fun s' hm=>?_)
  show wpAny _ A.in1 (ret Value.none) _ _ s'
  refine wY (hR s' (hm.mono hsub) ?_)
  rw [List.take_of_length_le (by omega)] at hS
  exact hS.at fun o e=>hm.heap S _ hSw e
 | succ k ih =>
  intro i s hk hi hst hS hR
  have hlt : i < n:=by omega
  refine codeAny_builtin PyProof.Rows.F.entry_set_update_loop ?_
  rw [Around.under_plainId PyProof.Rows.F.plain_set_update_loop _]
  show wpAny _ A.in1 (pyNext (.ref I) >>= _) _ _ s
  refine wX (W.item i s _ _ hlt hst fun v s' hP hst' hm=>?_)
  obtain ⟨x,t,rfl,hx⟩:=hval i v hP
  have hS' : fj prog w s'.heap S (eF (ss.take i)):=hS.at fun o e=>hm.heap S _ hSw e
  show wpAny _ A.in1 (holding [Value.str x t] (setAdd S (.str x t)) >>= _) _ _ s'
  refine wX (wpAny_holding ?_)
  unfold setAdd
  refine wpAny_holding ?_
  refine wX ((PySem.strKind prog w).pyHash (k:=x) (strKind_is prog w x t) ?_)
  have hl : (eF (ss.take i)).length + 1 < scanBound:=by have:=lO (ss.take i); rw [List.length_take] at this; omega
  refine tZ (s:={ s' with toks:=s'.toks + 1 }) hS' hl fun b h' hsb hS2=>?_
  have hS3 : fj prog w h' S (eF (ss.take (i + 1))):=by
   rw [List.take_add_one,hx,Option.toList_some,wI]; exact hS2
  refine wY ⟨plainId_quiet PyProof.Rows.F.plain_set_update_loop _,ih (i + 1) _ (by omega) hlt (W.frame _ s' _ _ hst' (Nat.le_succ _) fun b hb o e=>?_) hS3 fun s'' hm'' hS''=>?_⟩
  ·rw [hsb.2 b (fun h : b = S=>hSf (by rw [← h]; exact hb))]; exact e
  ·refine hR s'' (Moved.trans W.gtrans ((hm.mono hsub).then_heap (Nat.le_succ _) fun b o hb e=>?_) hm'') hS''
   rw [hsb.2 b (fun h : b = S=>hb (by rw [h]; exact mX))]; exact e
end
section
variable {prog : Program} {w : World} {A : Around} {E : Value->Shared->Prop} {s : Shared}
abbrev cJ (w : World) : Obj:={ cls:=.type "set",dict:=none,data:=.set #[] 0 (.fresh 0 0 (!w.params.followText "set-order")) }
theorem rK (a : Value) {Q₁ : Value->Shared->Prop}
  (h : Q₁ (.ref s.heap.objs.size) { s with heap:=s.heap.push (cJ w) }) :
  codeAny (model prog w) A (.call (.builtin "set.__new__") ⟨[.type "set",a],[]⟩) (wants Q₁ E) s:=by
 refine codeAny_of_tree ?_
 show wpAny _ A.in1 (do checkBuiltinCall "set.__new__" ⟨[.type "set",a],[]⟩; again (.builtin "set.__new__" ⟨[.type "set",a],[]⟩)) _ _ s
 refine wX (wpAny_of_eq (PySem.F.newCall_set_1 a) (wY ⟨plainId_quiet PySem.F.plain_set_new _,codeAny_builtin PySem.F.entry_set_new ?_⟩))
 rw [Around.under_plainId PySem.F.plain_set_new _]
 unfold Builtin.«set.__new__» Builtin.Frozenset.newClass
 have hsub:=sub_set_self
 obtain ⟨hp,g,d,tk,os⟩:=s
 dsimp only
 wp_walk
 refine wpAny_askSetting (wY ?_)
 dsimp only
 simp only [newObj]
 refine wX (wpAny_alloc (wY ?_))
 exact wY h
set_option maxHeartbeats 3200000 in
theorem lP {l : Addr} {items : Array Value} {ss : List Str} {Q : Value->Shared->Prop}
  (hh : A.handled = none) (hl : s.heap.IsList l items) (hi : StrsAre items.toList ss) (hb : items.size + 1 < scanBound)
  (h : ∀ (h' : Heap) (tk : Nat),fj prog w h' s.heap.objs.size (eF ss) ->
   (∀ b o,b < s.heap.objs.size->s.heap.get? b = some o->h'.get? b = some o)->Q (.ref s.heap.objs.size) { s with heap:=h',toks:=tk }) :
  wpAny (model prog w) A (call (.type "set") [.ref l]) Q E s:=by
 obtain ⟨c,tl,hmro⟩:=PySem.F.called_set.mro
 have hmade:=PySem.F.called_set.made
 have hsub:=PySem.F.called_set.sub
 refine wpAny_call (codeAny_of_tree ?_)
 show wpAny _ _ (callAny (.type "set") _) _ _ _
 refine wY ⟨Code.quiet_builtin _ (by decide +kernel),codeAny_builtin PySem.F.entry_type_call ?_⟩
 rw [Around.under_plain (weight_type_call_type "set" [.ref l] []) rfl]
 have h1:=PySem.F.called_set.notType
 have h2:=PySem.F.called_set.canCreate
 have hct:=PySem.F.typeCall_set_1 (.ref l)
 have hlen : ss.length = items.size:=by have:=hi.strs; rw [← this,List.length_map,Array.length_toList]
 repeat (any_goals (first | assumption | wp_step))
 refine codeAny_mono (rK (.ref l) (E:=E) (Q₁:=fun obj s₁=>obj = .ref s.heap.objs.size/\s₁ = { s with heap:=s.heap.push (cJ w) }) ⟨rfl,rfl⟩) fun r s₁ hr=>?_
 cases r with
 | error e=>exact hr
 | ok fl =>
  cases fl with
  | ret obj =>
   obtain ⟨rfl,rfl⟩:=hr
   have hS : (s.heap.push (cJ w)).get? s.heap.objs.size = some (cJ w):=Heap.get?_push_size _ rfl
   have hT : Shared.TypeIs { s with heap:=s.heap.push (cJ w) } (.ref s.heap.objs.size) "set":=⟨_,hS,rfl⟩
   have hli:=PySem.F.called_set.init.lookup
   have hbi:=PySem.F.called_set.init.bind (.ref s.heap.objs.size)
   repeat (any_goals (first | assumption | wp_step))
   refine codeAny_mono (codeAny_call_builtin (R:=wants (fun r s₂=>r = .none/\∃ h' tk,s₂ = { s with heap:=h',toks:=tk } /\
     fj prog w h' s.heap.objs.size (eF ss) /\
     (∀ b o,b < s.heap.objs.size->s.heap.get? b = some o->h'.get? b = some o)) E) PySem.F.called_set.init.plain PySem.F.entry_set_init (check_set_init_1 hT ?_)) fun r₂ s₂ hr₂=>?_
   ·obtain ⟨ol,hol,hcl,nl,hdl⟩:=hl
    obtain ⟨ocls,odict,odata,oslots⟩:=ol
    simp only at hcl hdl
    subst hcl; subst hdl
    have hol' : (s.heap.push (cJ w)).get? l = some { cls:=.type "list",dict:=odict,data:=.seq items nl,slots:=oslots }:=Heap.get?_push_of_some _ hol
    have hsls:=PySem.F.sub_list_set
    have hslf:=PySem.F.sub_list_frozenset
    have hne : (Value.type "list" == Value.type "dict") = false:=by decide
    have hl1 : (s.heap.push (cJ w)).IsList l items:=⟨_,hol',rfl,nl,rfl⟩
    unfold Builtin.«set.__init__» noKeywords Builtin.Frozenset.updateFrom
    generalize hPI : pyIter = PI
    wp_walk
    subst hPI
    refine wpAny_pyIter_list hl1 ?_
    refine wX (wpAny_runValue ?_)
    have hlS : l < s.heap.objs.size:=Heap.lt_size hol
    have hh3 : A.in1.in1.in1.handled = none:=by simp [hh]
    have hneI : l ≠ (s.heap.push (cJ w)).objs.size:=by
     rw [Heap.size_push]; exact Nat.ne_of_lt (Nat.lt_succ_of_lt hlS)
    have hSf : s.heap.objs.size ∉ [(s.heap.push (cJ w)).objs.size,l]:=by
     rw [Heap.size_push]; simp only [List.mem_cons,List.mem_singleton,List.not_mem_nil,or_false,not_or]
     exact ⟨Nat.ne_of_lt (Nat.lt_succ_self _),Nat.ne_of_gt hlS⟩
    have hval : ∀ (i : Nat) (v : Value),items[i]? = some v->∃ x t,v = .str x t/\ss[i]? = some x:=fun i v hv =>
     StrsAre.at hi i v (by rw [Array.getElem?_toList]; exact hv)
    refine pN ((Walks.list hh3 _ l hneI items).toS) s.heap.objs.size
     hSf ss hlen hval hb (items.size - 0) 0 _ (by omega) (Nat.zero_le _)
     ⟨⟨_,Heap.get?_push_size _ rfl,rfl,rfl⟩,(hl1.push _)⟩ ?hS0 ?hR
    case hS0 =>
     have hget : ((s.heap.push (cJ w)).push { cls:=.type "list_iterator",data:=.fields #[.ref l,.int 0 0] }).get? s.heap.objs.size
       = some (cJ w):=Heap.get?_push_of_some _ hS
     exact ⟨_,#[],0,_,hget,⟨rfl,rfl,rfl⟩,rfl,fun e he=>by simp at he,List.Perm.refl _,List.nodup_nil,(by show (0 : Nat) < scanBound; decide),rfl,rfl,fun z=>absurd rfl z⟩
    case hR =>
     intro s' hm hS'
     obtain ⟨h',g',d',tk',os'⟩:=s'
     have eg : g' = s.gens:=hm.gens
     have ed : d' = s.drawn:=hm.drawn
     have eo : os' = s.os:=hm.os
     subst eg; subst ed; subst eo
     show wpAny _ _ _ _ _ _
     refine wY ?_
     show wpAny _ _ (ret Value.none) _ _ _
     refine wY ⟨rfl,h',tk',rfl,hS',fun b o hb e=>?_⟩
     have hb1 : b ≠ s.heap.objs.size:=Nat.ne_of_lt hb
     have hb2 : b ≠ (s.heap.push (cJ w)).objs.size:=by
      rw [Heap.size_push]; exact Nat.ne_of_lt (Nat.lt_succ_of_lt hb)
     exact hm.heap b o (by simp only [List.mem_cons,List.mem_singleton,List.not_mem_nil,or_false,not_or]; exact ⟨hb1,hb2⟩) (Heap.get?_push_of_some _ (Heap.get?_push_of_some _ e))
   ·cases r₂ with
    | error e=>exact hr₂
    | ok fl₂ =>
     cases fl₂ with
     | ret r =>
      obtain ⟨rfl,h',tk,rfl,hS',hk'⟩:=hr₂
      repeat (any_goals (first | assumption | wp_step))
      exact h _ _ hS' hk'
     | _=>exact hr₂.elim
  | _=>exact hr.elim
end
open Sem (wp)
section
variable {M : Model} {A : Around} {E : Value->Shared->Prop} {s : Shared}
theorem Am {src : Source} {n : Nat} {Q : Nat->Shared->Prop} (hn : n ≠ 0) (h : ∀ k d,k < n->Q k { s with drawn:=d }) : wpAny M A (choose src n) Q E s:=by
 intro Γ p hG
 unfold choose
 rw [Sem.wp_choose]
 refine ⟨hn, ?_⟩
 have:=h _ (s.drawn.bump src) (Nat.mod_lt (M.w.draws src (s.drawn.get src)) (Nat.pos_of_ne_zero hn))
 simpa using this
end
theorem jk {α : Type} : ∀ (l : List α) (i : Nat),i < l.length->(l.eraseIdx i).length = l.length - 1:=fun l i h=>by rw [List.length_eraseIdx,if_pos h]
theorem iG {α : Type} : ∀ (l : List α) (i : Nat) (x : α),l[i]? = some x->(x :: l.eraseIdx i).Perm l
 | [],i,x,h=>by simp at h
 | a :: l,0,x,h=>by simp at h; subst h; exact List.Perm.refl _
 | a :: l,i + 1,x,h=>by
  rw [List.eraseIdx_cons_succ]
  simp only [List.getElem?_cons_succ] at h
  exact (List.Perm.swap a x _).trans ((iG l i x h).cons a)
theorem vv {M : Model} {A : Around} {E : Value->Shared->Prop} {α : Type} : ∀ (n : Nat) (xs : List α) (s : Shared) (Q : List α->Shared->Prop),xs.length = n->(∀ ys d,ys.Perm xs->Q ys { s with drawn:=d })->wpAny M A (drawOrder n xs) Q E s
 | 0,xs,s,Q,hl,h=>by
  have : xs = []:=List.eq_nil_of_length_eq_zero hl
  subst this
  exact wY (h [] s.drawn (List.Perm.refl _))
 | n + 1,[],s,Q,hl,h=>by simp at hl
 | n + 1,x :: r,s,Q,hl,h=>by
  show wpAny M A (choose .order (x :: r).length >>= fun i=>match (x :: r)[i]? with
   | some x'=>(do return x' :: (← drawOrder n ((x :: r).eraseIdx i)))
   | none=>unsupported "internal:drawOrder") Q E s
  refine wX (Am (by simp) fun k d hk=>?_)
  obtain ⟨y,hy⟩ : ∃ y,(x :: r)[k]? = some y:=⟨_,List.getElem?_eq_getElem hk⟩
  rw [hy]
  refine wX (vv n _ _ _ (by rw [jk _ _ hk,hl]; rfl) fun ys d' hp=>wY (h _ _ ((hp.cons y).trans (iG _ _ _ hy))))
theorem vw {α : Type} (next : Nat->Nat) : ∀ (fuel k : Nat) (left : List α) (out : Array α),left.length = fuel->(pickOrder.go next fuel k left out).toList.Perm (out.toList ++ left)
 | 0,k,left,out,hl=>by
  have : left = []:=List.eq_nil_of_length_eq_zero hl
  subst this
  unfold pickOrder.go
  simp
 | fuel + 1,k,left,out,hl=>by
  unfold pickOrder.go
  have hk : next k % left.length < left.length:=Nat.mod_lt _ (by omega)
  obtain ⟨y,hy⟩ : ∃ y,left[next k % left.length]? = some y:=⟨_,List.getElem?_eq_getElem hk⟩
  rw [hy]
  dsimp only
  refine (vw next fuel (k + 1) _ _ (by rw [jk _ _ hk]; omega)).trans ?_
  rw [Array.toList_push,List.append_assoc]
  exact (iG _ _ _ hy).append_left _
theorem wJ {α : Type} (next : Nat->Nat) (xs : Array α) : (pickOrder next xs).toList.Perm xs.toList:=by
 have:=vw next xs.size 0 xs.toList #[] (by simp)
 simpa [pickOrder] using this
theorem aU : Slot "set_iterator" "__next__" "set_iterator.__next__" :=
 .of (owner:="set_iterator") (n:="__next__") (by rw [typeLookup_type,builtinLookup_eq_fast]; kernel_rfl) (by decide +kernel) (by decide +kernel) (by decide +kernel)
  (by first | exact .inl (by decide +kernel) | exact .inr (by decide +kernel)) (by rw [isSubtype_type]; kernel_rfl)
theorem cY : entryFor table "set_iterator.__next__" = some Builtin.«set_iterator.__next__»:=entryFor_of_tree (by kernel_rfl)
theorem d4 (a : Value) : argsOk "set_iterator.__next__" ⟨[a],[]⟩:=by unfold argsOk; kernel_rfl
theorem iw : Slot "set_iterator" "__iter__" "set_iterator.__iter__" :=
 .of (owner:="set_iterator") (n:="__iter__") (by rw [typeLookup_type,builtinLookup_eq_fast]; kernel_rfl) (by decide +kernel) (by decide +kernel) (by decide +kernel)
  (by first | exact .inl (by decide +kernel) | exact .inr (by decide +kernel)) (by rw [isSubtype_type]; kernel_rfl)
theorem lQ : entryFor table "set_iterator.__iter__" = some Builtin.«dict_keyiterator.__iter__» :=
 entryFor_alias (id':="dict_keyiterator.__iter__") (by kernel_rfl) rfl (by decide +kernel) (by kernel_rfl)
theorem nB (a : Value) : argsOk "set_iterator.__iter__" ⟨[a],[]⟩:=by unfold argsOk; kernel_rfl
theorem lg : entryFor table "set.__iter__" = some Builtin.«frozenset.__iter__» :=
 entryFor_alias (id':="frozenset.__iter__") (by kernel_rfl) rfl (by decide +kernel) (by kernel_rfl)
abbrev iH (fst : Value) (i : Nat) (S : Addr) (n ep : Nat) : Obj:={ cls:=.type "set_iterator",data:=.fields #[fst,.int i 0,.ref S,.int n 0,.int ep 0] }
section
variable {prog : Program} {w : World} {A : Around} {E : Value->Shared->Prop} {s : Shared} {it S : Addr} {i ep : Nat} {o : Obj} {es : Array (Int × Value)} {t : SetTable}
theorem c6 {fst : Value} {n : Nat} (ho : s.heap.get? it = some (iH fst i S n ep)) : s.TypeIs (.ref it) "set_iterator":=⟨_,ho,rfl⟩
theorem pO {k k' : Nat} {x : Value} {Q : Option Value->Shared->Prop} (ho : s.heap.get? it = some (iH (.int k 0) i S es.size ep))
  (hS : s.heap.get? S = some o) (hd : o.data = .set es ep t) (hf : t.fits es.size = true)
  (hN : ∀ (A' : Around) (E' : Value->Shared->Prop) (Q' : Option (Value × Nat)->Shared->Prop),Q' (some (x,k')) s->wpAny (model prog w) A' (setNext S k i ep) Q' E' s)
  (hQ : ∀ h',h'.get? it = some (iH (.int k' 0) (i + 1) S es.size ep)->Heap.SameBut it s.heap h'->Q (some x) { s with heap:=h' }) :
  wpAny (model prog w) A (pyNext (.ref it)) Q E s:=by
 unfold pyNext
 refine wX (wpAny_attempt (wpAny_callSpecial?_slot (name:=Str.ofString "__next__") (c6 ho) aU
  (wpAny_call_entry aU (c6 ho) cY ?_ (d4 _))))
 show wpAny _ _ (fieldsOf (.ref it) >>= _) _ _ s
 refine wX (wpAny_fieldsOf ho rfl ?_)
 show wpAny _ _ (setEntries S >>= _) _ _ s
 refine wX (wpAny_setEntries_of hS hd hf ?_)
 rw [if_neg (by simp)]
 show wpAny _ _ (setNext S _ _ _ >>= _) _ _ s
 simp only [Int.toNat_natCast]
 refine wX (hN _ _ _ ?_)
 dsimp only
 refine wX (wpAny_setField_rec ho (by simp) fun h1 e1 b1=>?_)
 refine wX (wpAny_setField_rec e1 (by simp) fun h2 e2 b2=>?_)
 exact wY ⟨x,rfl,wY (hQ h2 (by simpa [rawInt,iH] using e2) (b1.trans b2))⟩
theorem pP {k : Nat} {Q : Option Value->Shared->Prop} (hh : A.handled = none) (ho : s.heap.get? it = some (iH (.int k 0) i S es.size ep))
  (hS : s.heap.get? S = some o) (hd : o.data = .set es ep t) (hf : t.fits es.size = true)
  (hN : ∀ (A' : Around) (E' : Value->Shared->Prop) (Q' : Option (Value × Nat)->Shared->Prop),Q' none s->wpAny (model prog w) A' (setNext S k i ep) Q' E' s)
  (hQ : ∀ h',Heap.ExtBut it s.heap h'->Q none { s with heap:=h' }) :
  wpAny (model prog w) A (pyNext (.ref it)) Q E s:=by
 unfold pyNext
 refine wX (wpAny_attempt (wpAny_callSpecial?_slot (name:=Str.ofString "__next__") (c6 ho) aU
  (wpAny_call_entry aU (c6 ho) cY ?_ (d4 _))))
 show wpAny _ _ (fieldsOf (.ref it) >>= _) _ _ s
 refine wX (wpAny_fieldsOf ho rfl ?_)
 show wpAny _ _ (setEntries S >>= _) _ _ s
 refine wX (wpAny_setEntries_of hS hd hf ?_)
 rw [if_neg (by simp)]
 show wpAny _ _ (setNext S _ _ _ >>= _) _ _ s
 simp only [Int.toNat_natCast]
 refine wX (hN _ _ _ ?_)
 dsimp only
 refine wX (wpAny_setField_rec ho (by simp) fun h1 e1 b1=>?_)
 refine wX ?_
 simp only [newExc,newTuple]
 refine wX (wpAny_newObj_type ?_ (by size_fits))
 refine wX (m:=firstArgMember _ _) (wpAny_of_eq (a:=Value.none) (by first | rfl | (simp only [firstArgMember]; rfl)) ?_)
 refine wpAny_newObj_type ?_ (by size_fits)
 simp only [raiseNew]
 refine wX (wpAny_handled ?_)
 rw [show A.in1.handled = none from hh]
 refine wX (wY (wpAny_throw ?_))
 refine wX (wpAny_isInstance (T:="StopIteration") (b:=true) ⟨_,Heap.get?_push_size _ rfl,rfl⟩ isSubtype_stop ?_)
 exact wY (hQ _ ((b1.extBut.push _).push _))
theorem nD {T : Addr} {pl : List Nat} {p : Nat} {x : Int × Value} {nt : Nat} {Q : Option Value->Shared->Prop} (ho : s.heap.get? it = some (iH (.ref T) i S es.size ep))
  (hT : s.heap.get? T = some (seqObj "tuple" (pl.map fun (p : Nat)=>Value.int p 0).toArray nt))
  (hS : s.heap.get? S = some o) (hd : o.data = .set es ep t) (hf : t.fits es.size = true) (hp : pl[i]? = some p) (hx : es[p]? = some x)
  (hQ : ∀ h',h'.get? it = some (iH (.ref T) (i + 1) S es.size ep)->Heap.SameBut it s.heap h'->Q (some x.2) { s with heap:=h' }) :
  wpAny (model prog w) A (pyNext (.ref it)) Q E s:=by
 unfold pyNext
 refine wX (wpAny_attempt (wpAny_callSpecial?_slot (name:=Str.ofString "__next__") (c6 ho) aU
  (wpAny_call_entry aU (c6 ho) cY ?_ (d4 _))))
 show wpAny _ _ (fieldsOf (.ref it) >>= _) _ _ s
 refine wX (wpAny_fieldsOf ho rfl ?_)
 show wpAny _ _ (setEntries S >>= _) _ _ s
 refine wX (wpAny_setEntries_of hS hd hf ?_)
 rw [if_neg (by simp)]
 show wpAny _ _ (seqItems? (.ref T) >>= _) _ _ s
 refine wX (wpAny_seqItems hT rfl ?_)
 have e1 : (pl.map fun (p : Nat)=>Value.int p 0).toArray[(i : Int).toNat]? = some (.int p 0):=by simp [hp]
 dsimp only
 rw [e1]
 dsimp only
 have e2 : wpAny (model prog w) A.in1 (setNextDrawn S (p : Int).toNat (ep : Int).toNat) (fun y s'=>y = x.2/\s' = s) (fun _ _=>False) s:=by
  unfold setNextDrawn
  refine wX (wpAny_setState_of hS hd hf ?_)
  dsimp only
  rw [if_neg (by simp)]
  simp only [Int.toNat_natCast,hx]
  exact wY ⟨rfl,rfl⟩
 refine wX (wpAny_mono e2 (fun y s' hy=>?_) fun _ _ z=>z.elim)
 obtain ⟨rfl,rfl⟩:=hy
 refine wX (wpAny_setField_rec ho (by simp) fun h1 e1 b1=>?_)
 exact wY ⟨_,rfl,wY (hQ h1 (by simpa [rawInt,iH] using e1) b1)⟩
theorem nE {T : Addr} {pl : List Nat} {nt : Nat} {Q : Option Value->Shared->Prop} (hh : A.handled = none) (ho : s.heap.get? it = some (iH (.ref T) i S es.size ep))
  (hT : s.heap.get? T = some (seqObj "tuple" (pl.map fun (p : Nat)=>Value.int p 0).toArray nt))
  (hS : s.heap.get? S = some o) (hd : o.data = .set es ep t) (hf : t.fits es.size = true) (hp : pl[i]? = none)
  (hQ : ∀ h',Heap.ExtBut it s.heap h'->Q none { s with heap:=h' }) :
  wpAny (model prog w) A (pyNext (.ref it)) Q E s:=by
 unfold pyNext
 refine wX (wpAny_attempt (wpAny_callSpecial?_slot (name:=Str.ofString "__next__") (c6 ho) aU
  (wpAny_call_entry aU (c6 ho) cY ?_ (d4 _))))
 show wpAny _ _ (fieldsOf (.ref it) >>= _) _ _ s
 refine wX (wpAny_fieldsOf ho rfl ?_)
 show wpAny _ _ (setEntries S >>= _) _ _ s
 refine wX (wpAny_setEntries_of hS hd hf ?_)
 rw [if_neg (by simp)]
 show wpAny _ _ (seqItems? (.ref T) >>= _) _ _ s
 refine wX (wpAny_seqItems hT rfl ?_)
 have e1 : (pl.map fun (p : Nat)=>Value.int p 0).toArray[(i : Int).toNat]? = none:=by simpa using hp
 dsimp only
 rw [e1]
 dsimp only
 refine wX (wpAny_setField_rec ho (by simp) fun h0 e0 b0=>?_)
 refine wX (wpAny_setField_rec e0 (by simp) fun h1 e1 b1=>?_)
 refine wX ?_
 simp only [newExc,newTuple]
 refine wX (wpAny_newObj_type ?_ (by size_fits))
 refine wX (m:=firstArgMember _ _) (wpAny_of_eq (a:=Value.none) (by first | rfl | (simp only [firstArgMember]; rfl)) ?_)
 refine wpAny_newObj_type ?_ (by size_fits)
 simp only [raiseNew]
 refine wX (wpAny_handled ?_)
 rw [show A.in1.handled = none from hh]
 refine wX (wY (wpAny_throw ?_))
 refine wX (wpAny_isInstance (T:="StopIteration") (b:=true) ⟨_,Heap.get?_push_size _ rfl,rfl⟩ isSubtype_stop ?_)
 exact wY (hQ _ (((b0.trans b1).extBut.push _).push _))
theorem rL {fst : Value} {n : Nat} {Q : Value->Shared->Prop} (ho : s.heap.get? it = some (iH fst i S n ep)) (h : Q (.ref it) s) : wpAny (model prog w) A (pyIter (.ref it)) Q E s:=by
 refine wpAny_pyIter_slot (c6 ho) iw (wpAny_call_entry iw (c6 ho) lQ ?_ (nB _))
 show wpAny _ _ (ret (.ref it)) _ _ s
 exact wY ⟨_,rfl,"set_iterator",_,c6 ho,aU.lookup,h⟩
end
section
variable {prog : Program} {w : World} {A : Around} {E : Value->Shared->Prop} {s : Shared} {it S : Addr} {i k ep : Nat} {o : Obj} {es : Array (Int × Value)} {t : SetTable}
theorem ou {Q : Option (Value × Nat)->Shared->Prop} (hS : s.heap.get? S = some o) (hd : o.data = .set es ep t) (hf : t.fits es.size = true) (hb : w.params.followText "set-order" = true)
  (h : Q (((pickOrder (w.params.setOrder S ep) es)[i]?).map fun e=>(e.2,k)) s) : wpAny (model prog w) A (setNext S k i ep) Q E s:=by
 unfold setNext
 refine wX (wpAny_setState_of hS hd hf ?_)
 dsimp only
 unfold setsByText
 refine wX (wX (wpAny_askSetting (wY ?_)))
 show wpAny _ _ (if w.params.followText "set-order" = true then _ else _) _ _ _
 rw [if_pos hb,if_neg (by simp)]
 unfold setWalk setsByText
 refine wX (wX (wpAny_setState_of hS hd hf ?_))
 dsimp only
 refine wX (wX (wpAny_askSetting (wY ?_)))
 show wpAny _ _ (if w.params.followText "set-order" = true then _ else _) _ _ _
 rw [if_pos hb]
 refine wX (wpAny_askSetting (wY ?_))
 exact wY h
theorem lR {Q : Option (Value × Nat)->Shared->Prop} (hS : s.heap.get? S = some o) (hd : o.data = .set es ep t) (hf : t.fits es.size = true) (hb : w.params.followText "set-order" = false) (hl : t.led = true) (hz : es.size<=1)
  (h : Q (match es[SetTable.below t.place k]?,t.place[SetTable.below t.place k]? with
   | some (_,x),some j=>some (x,j + 1)
   | _,_=>none) s) : wpAny (model prog w) A (setNext S k i ep) Q E s:=by
 unfold setNext
 refine wX (wpAny_setState_of hS hd hf ?_)
 dsimp only
 unfold setsByText
 refine wX (wX (wpAny_askSetting (wY ?_)))
 show wpAny _ _ (if w.params.followText "set-order" = true then _ else _) _ _ _
 rw [if_neg (by rw [hb]; simp)]
 show wpAny _ _ (if (!t.plain && decide (es.size > 1)) = true then _ else _) _ _ _
 rw [if_neg (by rw [decide_eq_false (by omega)]; simp)]
 show wpAny _ _ ((if (!t.led && !es.isEmpty) = true then unsupported "set:maker-not-led" else pure ()) >>= _) _ _ _
 rw [hl,if_neg (by simp)]
 refine wX (wY ?_)
 exact wY h
theorem oy (hh : A.handled = none) (hd : o.data = .set es ep t) (hf : t.fits es.size = true) (hne : S ≠ it) (vs : List Value) (hv : vs.length = es.size) (sl : Nat->Nat)
  (hN : ∀ i x,vs[i]? = some x->∀ (A' : Around) (E' : Value->Shared->Prop) (s : Shared) (Q' : Option (Value × Nat)->Shared->Prop),s.heap.get? S = some o->Q' (some (x,sl (i + 1))) s->wpAny (model prog w) A' (setNext S (sl i) i ep) Q' E' s)
  (hE : ∀ (A' : Around) (E' : Value->Shared->Prop) (s : Shared) (Q' : Option (Value × Nat)->Shared->Prop),s.heap.get? S = some o->Q' none s->wpAny (model prog w) A' (setNext S (sl es.size) es.size ep) Q' E' s) :
  Walks prog w A it [it,S] [it] es.size (fun i v=>vs[i]? = some v) (fun i h=>h.get? it = some (iH (.int (sl i) 0) i S es.size ep)/\h.get? S = some o) where
 sub:=fun b hb=>by simp at hb; simp [hb]
 frame:=fun _ _ _ st hk=>⟨hk it (by simp) _ st.1,hk S (by simp) _ st.2⟩
 item:=fun i s Q E hi st hQ=>by
  obtain ⟨x,hx⟩ : ∃ x,vs[i]? = some x:=⟨_,List.getElem?_eq_getElem (by omega)⟩
  refine pO st.1 st.2 hd hf (fun A' E' Q' q=>hN i x hx A' E' s Q' st.2 q) fun h' h1 h2=>?_
  exact hQ x h' s.toks hx ⟨h1,h2.extBut S _ hne st.2⟩ fun b u hb e=>h2.extBut b u (fun z=>hb (by simp [z])) e
 done:=fun s Q E st hQ=>pP hh st.1 st.2 hd hf (fun A' E' Q' q=>hE A' E' s Q' st.2 q) fun h' h1=>hQ h' s.toks fun b u hb e=>h1 b u (fun z=>hb (by simp [z])) e
 self:=fun _ _ _ _ st hQ=>rL st.1 hQ
theorem uc {T : Addr} {pl : List Nat} {nt : Nat} (hh : A.handled = none) (hd : o.data = .set es ep t) (hf : t.fits es.size = true) (hne : S ≠ it) (hnT : T ≠ it) (hp : pl.Perm (List.range es.size)) :
  Walks prog w A it [it,S,T] [it] es.size (fun i v=>(pl.map fun p=>(es.getD p (0,.none)).2)[i]? = some v)
   (fun i h=>h.get? it = some (iH (.ref T) i S es.size ep)/\h.get? S = some o/\h.get? T = some (seqObj "tuple" (pl.map fun (p : Nat)=>Value.int p 0).toArray nt)) where
 sub:=fun b hb=>by simp at hb; simp [hb]
 frame:=fun _ _ _ st hk=>⟨hk it (by simp) _ st.1,hk S (by simp) _ st.2.1,hk T (by simp) _ st.2.2⟩
 item:=fun i s Q E hi st hQ=>by
  have hlen : pl.length = es.size:=by rw [hp.length_eq,List.length_range]
  obtain ⟨p,hx⟩ : ∃ p,pl[i]? = some p:=⟨_,List.getElem?_eq_getElem (by omega)⟩
  have hpm : p < es.size:=List.mem_range.mp (hp.mem_iff.mp (List.mem_of_getElem? hx))
  have he : es[p]? = some (es.getD p (0,.none)):=by rw [Array.getD_eq_getD_getElem?,Array.getElem?_eq_getElem hpm]; rfl
  refine nD st.1 st.2.2 st.2.1 hd hf hx he fun h' h1 h2=>?_
  exact hQ _ h' s.toks (by simp [hx]) ⟨h1,h2.extBut S _ hne st.2.1,h2.extBut T _ hnT st.2.2⟩ fun b u hb e=>h2.extBut b u (fun z=>hb (by simp [z])) e
 done:=fun s Q E st hQ=>by
  have hlen : pl.length = es.size:=by rw [hp.length_eq,List.length_range]
  exact nE hh st.1 st.2.2 st.2.1 hd hf (List.getElem?_eq_none (by omega)) fun h' h1=>hQ h' s.toks fun b u hb e=>h1 b u (fun z=>hb (by simp [z])) e
 self:=fun _ _ _ _ st hQ=>rL st.1 hQ
end
theorem ud {α : Type} (es : Array α) (d : α) : (List.range es.size).map (fun p=>es.getD p d) = es.toList:=by
 apply List.ext_getElem?
 intro i
 by_cases h : i < es.size
 ·simp [h,Array.getD_eq_getD_getElem?]
 ·simp [h]
section
variable {prog : Program} {w : World} {A : Around} {E : Value->Shared->Prop} {s : Shared}
theorem oz {xs : Array Nat} {j k : Nat} (h : xs = #[j]) : SetTable.below xs k = if j < k then 1 else 0:=by
 subst h
 by_cases h : j < k
 ·simp [SetTable.below,SetTable.below.go,h]
 ·simp [SetTable.below,SetTable.below.go,h]
theorem yq {S : Addr} {ts : List Str} {Q : Value->Shared->Prop} (hS : fj prog w s.heap S ts)
  (hQ : ∀ (h' : Heap) (d : Drawn) (it : Addr) (vs : List Value) (fp : List Addr) (St : Nat->Heap->Prop),(∀ A',A'.handled = none->Walks prog w A' it fp [it] ts.length (fun i v=>vs[i]? = some v) St)->St 0 h' ->
   (∀ b u,s.heap.get? b = some u->h'.get? b = some u)->s.heap.objs.size<=it->(∀ b ∈ fp,b = S ∨ s.heap.objs.size<=b)->vs.length = ts.length->(vs.map strOf).Perm ts->(∀ v ∈ vs,∃ x t,v = .str x t) ->
   Q (.ref it) { s with heap:=h',drawn:=d }) : wpAny (model prog w) A (pyIter (.ref S)) Q E s:=by
 obtain ⟨o,es,ep,t,ho,hex,hd,hel,hp,nd,hb,hf,hled,hpl⟩:=hS
 have sz : es.size = ts.length:=by rw [← hp.length_eq,List.length_map,Array.length_toList]
 have hSlt : S < s.heap.objs.size:=Heap.lt_size ho
 have hTy : s.TypeIs (.ref S) "set":=⟨_,ho,hex.1⟩
 have hstrs : ∀ e ∈ es.toList,∃ x t,e.2 = .str x t:=fun e he=>by
  obtain ⟨⟨k,hk,_⟩,_⟩:=hel e he
  obtain ⟨t,q⟩:=Value.isStrOf_shape (show Value.isStrOf k e.2 = true from hk)
  exact ⟨k,t,q⟩
 refine wpAny_pyIter_slot hTy PySem.F.slot_set_iter (wpAny_call_entry PySem.F.slot_set_iter hTy lg ?_ (PySem.F.args_set_iter_1 _))
 show wpAny _ _ (Builtin.Frozenset.sizeOf S >>= _) _ _ s
 unfold Builtin.Frozenset.sizeOf
 refine wX (wX (wpAny_setEntries_of ho hd hf (wY ?_)))
 unfold setDrawn setsByText
 refine wX (wX (wpAny_setState_of ho hd hf ?_))
 dsimp only
 refine wX (wX (wpAny_askSetting (wY (wY ?_))))
 show wpAny _ _ (if (!w.params.followText "set-order" && (!t.plain && decide (es.size > 1))) = true then _ else _) _ _ _
 have hmap : (es.toList.map (·.2)).map strOf = es.toList.map (fun e=>strOf e.2):=by rw [List.map_map]; rfl
 by_cases hbt : w.params.followText "set-order" = true
 ·rw [if_neg (by rw [hbt]; simp)]
  refine wX (wY ?_)
  refine wX (wpAny_setEpoch_of ho hd hf ?_)
  have pp:=wJ (w.params.setOrder S ep) es
  have hlen : ((pickOrder (w.params.setOrder S ep) es).toList.map (·.2)).length = es.size:=by rw [List.length_map,pp.length_eq,Array.length_toList]
  refine wX (wpAny_newObj_type (wY ⟨_,rfl,"set_iterator",_,⟨_,Heap.get?_push_size _ rfl,rfl⟩,aU.lookup, ?_⟩))
  refine hQ _ s.drawn s.heap.objs.size ((pickOrder (w.params.setOrder S ep) es).toList.map (·.2)) [s.heap.objs.size,S] (fun i h=>h.get? s.heap.objs.size = some (iH (.int ((fun _=>0 : Nat->Nat) i : Nat) 0) i S es.size ep)/\h.get? S = some o) (fun A' hA=>?_) ?_ (fun b u e=>Heap.get?_push_of_some _ e) (Nat.le_refl _) (fun b hb=>?_) (hlen.trans sz) ?_ ?_
  ·rw [← sz]
   exact oy hA hd hf (Nat.ne_of_lt hSlt) _ hlen (fun _=>0) (fun i x hx A' E' s Q' h1 h2=>ou h1 hd hf hbt (by
    rw [List.getElem?_map,Array.getElem?_toList] at hx
    obtain ⟨e,he,rfl⟩:=oY hx
    rw [he]; exact h2)) (fun A' E' s Q' h1 h2=>ou h1 hd hf hbt (by
    rw [Array.getElem?_eq_none (by rw [← Array.length_toList,pp.length_eq,Array.length_toList]; exact Nat.le_refl _)]; exact h2))
  ·exact ⟨Heap.get?_push_size _ rfl,Heap.get?_push_of_some _ ho⟩
  ·simp only [List.mem_cons,List.not_mem_nil,or_false] at hb
   rcases hb with rfl | rfl
   ·exact .inr (Nat.le_refl _)
   ·exact .inl rfl
  ·refine List.Perm.trans ?_ hp
   rw [← hmap]
   exact (pp.map _).map _
  ·intro v hv
   obtain ⟨e,he,rfl⟩:=List.mem_map.mp hv
   exact hstrs e (pp.mem_iff.mp he)
 ·rw [Bool.not_eq_true] at hbt
  have hl : t.led = true:=by rw [hled,hbt]; rfl
  by_cases h1 : es.size<=1
  ·rw [if_neg (by rw [decide_eq_false (by omega)]; simp)]
   refine wX (wY ?_)
   refine wX (wpAny_setEpoch_of ho hd hf ?_)
   refine wX (wpAny_newObj_type (wY ⟨_,rfl,"set_iterator",_,⟨_,Heap.get?_push_size _ rfl,rfl⟩,aU.lookup, ?_⟩))
   have hpz : t.place.size = es.size:=by
    simp only [SetTable.fits,Bool.and_eq_true,beq_iff_eq,decide_eq_true_eq] at hf
    exact hf.1
   refine hQ _ s.drawn s.heap.objs.size (es.toList.map (·.2)) [s.heap.objs.size,S] (fun i h=>h.get? s.heap.objs.size = some (iH (.int ((fun i=>if i = 0 then 0 else t.place.getD 0 0 + 1 : Nat->Nat) i : Nat) 0) i S es.size ep)/\h.get? S = some o) (fun A' hA=>?_) ?_ (fun b u e=>Heap.get?_push_of_some _ e) (Nat.le_refl _) (fun b hb=>?_) (by rw [List.length_map,Array.length_toList,sz]) (by rw [hmap]; exact hp) ?_
   ·rw [← sz]
    refine oy hA hd hf (Nat.ne_of_lt hSlt) _ (by simp) (fun i=>if i = 0 then 0 else t.place.getD 0 0 + 1) (fun i x hx A' E' s Q' q1 q2=>lR q1 hd hf hbt hl h1 ?_) (fun A' E' s Q' q1 q2=>lR q1 hd hf hbt hl h1 ?_)
    ·have hi : i < es.size:=by have:=(List.getElem?_eq_some_iff.mp hx).1; simpa using this
     have hi0 : i = 0:=by omega
     subst hi0
     obtain ⟨j,hj⟩ : ∃ j,t.place = #[j]:=Array.size_eq_one_iff.mp (by omega)
     rw [if_pos rfl,oz hj,if_neg (by omega)]
     rw [List.getElem?_map,Array.getElem?_toList] at hx
     obtain ⟨e,he,rfl⟩:=oY hx
     rw [he]
     simp only [hj] at q2 ⊢
     simpa using q2
    ·by_cases h0 : es.size = 0
     ·have hp0 : t.place = #[]:=Array.eq_empty_of_size_eq_zero (by omega)
      have he0 : es = #[]:=Array.eq_empty_of_size_eq_zero h0
      rw [hp0,he0]
      simpa using q2
     ·obtain ⟨j,hj⟩ : ∃ j,t.place = #[j]:=Array.size_eq_one_iff.mp (by omega)
      rw [if_neg h0,oz hj]
      have : t.place.getD 0 0 = j:=by rw [hj]; rfl
      rw [this,if_pos (by omega),Array.getElem?_eq_none (by omega)]
      exact q2
   ·exact ⟨Heap.get?_push_size _ rfl,Heap.get?_push_of_some _ ho⟩
   ·simp only [List.mem_cons,List.not_mem_nil,or_false] at hb
    rcases hb with rfl | rfl
    ·exact .inr (Nat.le_refl _)
    ·exact .inl rfl
   ·intro v hv
    obtain ⟨e,he,rfl⟩:=List.mem_map.mp hv
    exact hstrs e he
  ·have hp0 : t.plain = false:=hpl (by omega)
   rw [if_pos (by rw [hbt,hp0,decide_eq_true (by omega)]; rfl)]
   refine wX (vv es.size (List.range es.size) _ _ (by simp) fun pl d pp=>?_)
   refine wX (wpAny_newTuple ?_ (by rw [List.length_map,pp.length_eq,List.length_range,sz]; exact fits_of_scanBound hb))
   refine wX (wpAny_setEpoch_of (Heap.get?_push_of_some _ ho) hd hf ?_)
   refine wX (wpAny_newObj_type (wY ⟨_,rfl,"set_iterator",_,⟨_,Heap.get?_push_size _ rfl,rfl⟩,aU.lookup, ?_⟩))
   have hsz : (s.heap.push (seqObj "tuple" (pl.map fun (p : Nat)=>Value.int p 0).toArray 0)).objs.size = s.heap.objs.size + 1:=size_push' _ _
   have hperm : ((pl.map fun p=>(es.getD p (0,.none)).2)).Perm (es.toList.map (·.2)):=by
    have:=(pp.map fun p=>es.getD p (0,Value.none)).map (·.2)
    rw [ud] at this
    rw [List.map_map] at this
    exact this
   refine hQ _ d _ (pl.map fun p=>(es.getD p (0,.none)).2) [(s.heap.push (seqObj "tuple" (pl.map fun (p : Nat)=>Value.int p 0).toArray 0)).objs.size,S,s.heap.objs.size] (fun i h=>h.get? (s.heap.push (seqObj "tuple" (pl.map fun (p : Nat)=>Value.int p 0).toArray 0)).objs.size = some (iH (.ref s.heap.objs.size) i S es.size ep)/\h.get? S = some o/\h.get? s.heap.objs.size = some (seqObj "tuple" (pl.map fun (p : Nat)=>Value.int p 0).toArray 0)) (fun A' hA=>?_) ?_ (fun b u e=>Heap.get?_push_of_some _ (Heap.get?_push_of_some _ e)) ?_ (fun b hb=>?_) ?_ ?_ ?_
   ·rw [← sz]
    exact uc (nt:=0) hA hd hf (by show S ≠ (s.heap.push _).objs.size; rw [size_push']; exact Nat.ne_of_lt (Nat.lt_succ_of_lt hSlt)) (by show s.heap.objs.size ≠ (s.heap.push _).objs.size; rw [size_push']; exact Nat.ne_of_lt (Nat.lt_succ_self _)) pp
   ·exact ⟨Heap.get?_push_size _ rfl,Heap.get?_push_of_some _ (Heap.get?_push_of_some _ ho),Heap.get?_push_of_some _ (Heap.get?_push_size _ rfl)⟩
   ·show s.heap.objs.size<=(s.heap.push _).objs.size
    rw [size_push']; omega
   ·simp only [List.mem_cons,List.not_mem_nil,or_false] at hb
    rcases hb with rfl | rfl | rfl
    ·refine .inr ?_
     show s.heap.objs.size<=(s.heap.push _).objs.size
     rw [size_push']; omega
    ·exact .inl rfl
    ·exact .inr (Nat.le_refl _)
   ·rw [hperm.length_eq,List.length_map,Array.length_toList,sz]
   ·exact ((hperm.map strOf).trans (by rw [hmap])).trans hp
   ·intro v hv
    obtain ⟨e,he,rfl⟩:=List.mem_map.mp (hperm.mem_iff.mp hv)
    exact hstrs e he
end
theorem wK {vs : List Value} {acc : Array Value} (h : ItemsOf (fun i v=>vs[i]? = some v) acc vs.length) : acc.toList = vs:=by
 apply List.ext_getElem?
 intro i
 by_cases hi : i < acc.size
 ·have e : acc[i]? = some acc[i]:=Array.getElem?_eq_getElem hi
  rw [Array.getElem?_toList,e,h.2 i _ e]
 ·rw [List.getElem?_eq_none (by rw [Array.length_toList]; omega),List.getElem?_eq_none (by rw [← h.1]; omega)]
section
variable {prog : Program} {w : World} {A : Around} {E : Value->Shared->Prop} {s : Shared}
theorem rM {S : Addr} {ts : List Str} {Q : List Value->Shared->Prop} (hh : A.handled = none) (hS : fj prog w s.heap S ts)
  (hQ : ∀ s' vs,(∀ b u,s.heap.get? b = some u->s'.heap.get? b = some u)->s'.gens = s.gens->s'.os = s.os->vs.length = ts.length->(vs.map strOf).Perm ts->(∀ v ∈ vs,∃ x t,v = .str x t)->Q vs s') :
  wpAny (model prog w) A (collect (.ref S)) Q E s:=by
 have hty : ∀ (s1 : Shared),fj prog w s1.heap S ts->s1.TypeIs (.ref S) "set":=fun s1 h=>by
  obtain ⟨o,_,_,_,ho,hex,_⟩:=h
  exact ⟨o,ho,hex.1⟩
 have hlt : S < s.heap.objs.size:=by obtain ⟨o,_,_,_,ho,_⟩:=hS; exact Heap.lt_size ho
 have hscan : ts.length < scanBound:=by obtain ⟨_,_,_,_,_,_,_,_,_,_,h,_⟩:=hS; exact h
 unfold collect
 refine wX (wpAny_runValue (codeAny_builtin PySem.F.entry_proto_collect ?_))
 rw [Around.under_plainId PySem.F.plain_proto_collect _]
 show wpAny _ A.in1 (newList [] >>= fun l=>again (.builtin "list.__iadd__" ⟨[l,.ref S],[]⟩)) _ _ s
 refine wX (wpAny_newObj_type ?_)
 refine wY ⟨plainId_quiet PySem.F.plain_list_iadd _,codeAny_builtin PySem.F.entry_list_iadd ?_⟩
 rw [Around.under_plainId PySem.F.plain_list_iadd _]
 show wpAny _ A.in1 (Builtin.List.listExtendWith (.ref s.heap.objs.size) (.ref S) (.ref s.heap.objs.size)) _ _ _
 unfold Builtin.List.listExtendWith
 have hS1 : fj prog w (s.heap.push { cls:=.type "list",data:=.seq ([] : List Value).toArray }) S ts:=hS.at fun o e=>Heap.get?_push_of_some _ e
 refine wX (wpAny_typeOf (hty _ hS1) ?_)
 have hSI : s.heap.objs.size ≠ S:=Nat.ne_of_gt hlt
 have h1 : Builtin.List.listSameRef (.ref s.heap.objs.size) (.ref S) = false:=by simp [Builtin.List.listSameRef,hSI]
 have h2 : (Value.type "set" == Value.type "list") = false:=by decide
 have h3 : (Value.type "set" == Value.type "tuple") = false:=by decide
 simp only [h1,h2,h3,Bool.or_false,Bool.false_eq_true,if_false]
 refine wX (yq (s:={ s with heap:=s.heap.push { cls:=.type "list",data:=.seq ([] : List Value).toArray } }) hS1 fun h' d it vs fp St W hst hk hit hfp hvl hperm hstr=>?_)
 have hS2 : fj prog w h' S ts:=hS1.at fun o e=>hk _ _ e
 refine wX (wpAny_holding ?_)
 unfold Builtin.List.listLengthHint
 refine wX (wpAny_specialOf (hty _ hS2) PySem.F.slot_set_len.lookup ?_)
 wp_delta
 refine wX (wpAny_isInstance (hty _ hS2) sub_set_self ?_)
 show wpAny _ A.in1 (typeOf (Value.ref S) >>= _) _ _ _
 refine wX (wpAny_typeOf (hty _ hS2) ?_)
 refine wY ?_
 rw [if_pos (by decide)]
 refine wX (wpAny_rule ?_)
 refine wX ?_
 have hsz0 : (s.heap.push { cls:=.type "list",data:=.seq ([] : List Value).toArray }).objs.size = s.heap.objs.size + 1:=size_push' _ _
 have hL1 : h'.get? s.heap.objs.size = some { cls:=.type "list",data:=.seq ([] : List Value).toArray }:=hk _ _ (Heap.get?_push_size _ rfl)
 show wpAny _ A.in1 (updateSeq s.heap.objs.size (·.push .none) >>= fun _=>updateSeq s.heap.objs.size (·.pop)) _ _ _
 refine wX (wpAny_updateSeq hL1 rfl ?_)
 have hL2:=Heap.get?_update_self (Obj.mapSeq (·.push Value.none)) hL1 rfl
 refine wpAny_updateSeq hL2 rfl ?_
 have hL3:=Heap.get?_update_self (Obj.mapSeq (·.pop)) hL2 rfl
 have hSf : s.heap.objs.size ∉ fp:=fun hm=>by
  rcases hfp _ hm with z | z
  ·exact hSI z
  ·rw [hsz0] at z; exact absurd z (Nat.not_succ_le_self _)
 have oth : ∀ b u,b ≠ s.heap.objs.size->h'.get? b = some u ->
   ((h'.update s.heap.objs.size (Obj.mapSeq (·.push Value.none))).update s.heap.objs.size (Obj.mapSeq (·.pop))).get? b = some u :=
  fun b u hb e=>(Heap.get?_update_other _ _ (Ne.symm hb)).trans ((Heap.get?_update_other _ _ (Ne.symm hb)).trans e)
 have W0:=W A.in1 hh
 refine wY ⟨plainId_quiet PySem.F.plain_extend_loop _,codeAny_extend_loopS W0.toS (fits_of_scanBound hscan) _ hSf _ ts.length 0 _ _ _ rfl (Nat.zero_le _)
  (W0.frame 0 _ _ hst fun b hb u e=>oth b u (fun z=>hSf (z ▸ hb)) e) hL3 (ItemsOf.nil _) fun s' acc' c' hm hL' hacc=>?_⟩
 show wpAny _ A (load s.heap.objs.size >>= _) _ _ s'
 refine wX (wpAny_load hL' ?_)
 rw [← hvl] at hacc
 refine wY ?_
 show Q acc'.toList s'
 rw [wK hacc]
 refine hQ s' vs (fun b u e=>hm.heap b u (fun hb=>?_) (oth b u (Nat.ne_of_lt (Heap.lt_size e)) (hk _ _ (Heap.get?_push_of_some _ e)))) hm.gens hm.os hvl hperm hstr
 have hl:=Heap.lt_size e
 simp only [List.mem_cons,List.not_mem_nil,or_false] at hb
 rcases hb with rfl | rfl
 ·exact absurd hl (Nat.lt_irrefl _)
 ·rw [hsz0] at hit; exact absurd (Nat.lt_of_lt_of_le hl (Nat.le_of_succ_le hit)) (Nat.lt_irrefl _)
theorem ue {S : Addr} {ts : List Str} {Q : Value->Shared->Prop} (hh : A.handled = none) (hS : fj prog w s.heap S ts) (h64 : ts.length < 64)
  (hQ : ∀ (s1 : Shared) (h' : Heap) (a : Addr) (out : Array Value) (n : Nat) (ss' : List Str),(∀ b u,s.heap.get? b = some u->s1.heap.get? b = some u)->s1.os = s.os->s1.gens = s.gens->(∀ b u,s1.heap.get? b = some u->h'.get? b = some u)->s1.heap.objs.size<=a->h'.get? a = some (seqObj "list" out n) ->
   StrsAre out.toList ss'->ss'.Perm ts->sortedS ss' = true->Q (.ref a) { s1 with heap:=h' }) :
  wpAny (model prog w) A (call (.builtin "sorted") [.ref S]) Q E s:=by
 refine Calls.call_function_entry kind_sorted plain_sorted entry_sorted (args_sorted1 _) ?_
 unfold Builtin.«sorted»
 refine wX (m:=checkCount "sorted" 1 1 _) (wY ?_)
 refine wX (rM (A:=A.in1) (by exact hh) hS fun s1 vs hk hg hos hvl hperm hstr=>?_)
 have hst : StrsAre vs (vs.map strOf):=strsAre_map vs hstr
 refine wX (wpAny_newList ?_ (by rw [hvl,sizeLine_eq]; omega))
 have hoL : (s1.heap.push (seqObj "list" vs.toArray 0)).get? s1.heap.objs.size = some (seqObj "list" vs.toArray 0):=Heap.get?_push_size _ rfl
 show wpAny _ _ _ _ _ { s1 with heap:=s1.heap.push (seqObj "list" vs.toArray 0) }
 refine wX (wpAny_holding (wpAny_call_entry slot_list_sort ⟨_,hoL,rfl⟩ entry_list_sort (list_sort_treeK strKind_oneLt hoL hst.keysOf (fun v₁ v₂ ay e=>keyKind_strs (by rw [← e]; exact hst)) (by rw [hvl]; exact h64) fun st' a1 a2=>⟨_,rfl, ?_⟩) (args_list_sort _)))
 obtain ⟨ss',b1,b2,b3⟩:=sorted_out_str hst a1 a2
 obtain ⟨e,he⟩:=sortedHeap_at (out:=(arrOf st').map (·.2)) hoL
 refine wY ⟨_,rfl,hQ s1 _ _ _ e ss' hk hos hg (fun b u q=>?_) (Nat.le_refl _) he b1 (b2.trans hperm) b3⟩
 have hl:=Heap.lt_size q
 rw [sortedHeap_old (Nat.ne_of_lt hl) (by rw [size_push']; exact Nat.lt_succ_of_lt hl)]
 exact Heap.get?_push_of_some _ q
end
end DL
namespace DL
open PySem PySem.Spec PyProof.Rows L2
def leT (a b : Str) : Prop:=¬ b.cps.toList < a.cps.toList
theorem vx {a b : Str} : ltCps b.cps.toList a.cps.toList = false ↔ leT a b:=by rw [ltCps_eq,decide_eq_false_iff_not]; rfl
theorem o0 {a b c : Str} (h : leT a b) (k : leT b c) : leT a c:=by
 unfold leT at *
 exact List.not_lt.mpr (List.le_trans (List.not_lt.mp h) (List.not_lt.mp k))
theorem yr {a b : Str} (h : leT a b) (k : leT b a) : a = b:=by
 have e : a.cps.toList = b.cps.toList:=List.le_antisymm (List.not_lt.mp h) (List.not_lt.mp k)
 obtain ⟨a⟩:=a; obtain ⟨b⟩:=b
 have : a = b:=Array.toList_inj.mp e
 rw [this]
def ug (x : Str) : List Str->List Str
 | []=>[x]
 | y :: r=>if ltCps y.cps.toList x.cps.toList then y :: ug x r else x :: y :: r
def g7 (l : List Str) : List Str:=l.foldr ug []
theorem jP (x : Str) : ∀ l,(ug x l).Perm (x :: l)
 | []=>List.Perm.refl _
 | y :: r=>by
  unfold ug
  split
  ·exact ((jP x r).cons y).trans (List.Perm.swap x y r)
  ·exact List.Perm.refl _
theorem cb : ∀ l,(g7 l).Perm l
 | []=>List.Perm.refl _
 | x :: l=>(jP x (g7 l)).trans ((cb l).cons x)
theorem o3 (x : Str) : ∀ l,l.Pairwise leT->(ug x l).Pairwise leT
 | [],_=>by simp [ug]
 | y :: r,h=>by
  obtain ⟨h1,h2⟩:=List.pairwise_cons.mp h
  unfold ug
  split
  ·rename_i hl
   refine List.pairwise_cons.mpr ⟨fun z hz=>?_,o3 x r h2⟩
   rcases List.mem_cons.mp ((jP x r).mem_iff.mp hz) with rfl | hz
   ·rw [ltCps_eq,decide_eq_true_eq] at hl
    exact fun k=>List.lt_irrefl _ (List.lt_trans hl k)
   ·exact h1 z hz
  ·rename_i hl
   rw [Bool.not_eq_true] at hl
   have hxy : leT x y:=vx.mp hl
   refine List.pairwise_cons.mpr ⟨fun z hz=>?_,h⟩
   rcases List.mem_cons.mp hz with rfl | hz
   ·exact hxy
   ·exact o0 hxy (h1 z hz)
theorem lS : ∀ l,(g7 l).Pairwise leT
 | []=>List.Pairwise.nil
 | x :: l=>o3 x _ (lS l)
theorem kF : ∀ (l : List Str) (p : Str),risingS p l = true->(p :: l).Pairwise leT
 | [],p,_=>List.pairwise_singleton _ _
 | x :: r,p,h=>by
  have h' : (!ltCps x.cps.toList p.cps.toList && risingS x r) = true:=h
  rw [Bool.and_eq_true] at h'
  have hpx : leT p x:=vx.mp (by simpa using h'.1)
  have ih:=kF r x h'.2
  refine List.pairwise_cons.mpr ⟨fun z hz=>?_,ih⟩
  rcases List.mem_cons.mp hz with rfl | hz
  ·exact hpx
  ·exact o0 hpx ((List.pairwise_cons.mp ih).1 z hz)
theorem rN : ∀ (l : List Str),sortedS l = true->l.Pairwise leT
 | [],_=>List.Pairwise.nil
 | x :: r,h=>kF r x h
theorem rO (a : Str) : leT a a:=List.lt_irrefl _
theorem lT : ∀ (l1 l2 : List Str),l1.Perm l2->l1.Pairwise leT->l2.Pairwise leT->l1 = l2
 | [],l2,p,_,_=>(List.nil_perm.mp p).symm
 | x :: r1,[],p,_,_=>absurd p.length_eq (by simp)
 | x :: r1,y :: r2,p,h1,h2=>by
  have hxy : leT x y:=by
   rcases List.mem_cons.mp (p.mem_iff.mpr (mX ..)) with z | z
   ·rw [z]; exact rO _
   ·exact (List.pairwise_cons.mp h1).1 y z
  have hyx : leT y x:=by
   rcases List.mem_cons.mp (p.mem_iff.mp (mX ..)) with z | z
   ·rw [z]; exact rO _
   ·exact (List.pairwise_cons.mp h2).1 x z
  have e:=yr hxy hyx
  subst e
  rw [lT r1 r2 (List.Perm.cons_inv p) (List.pairwise_cons.mp h1).2 (List.pairwise_cons.mp h2).2]
theorem o4 {l l' : List Str} (p : l'.Perm l) (h : sortedS l' = true) : l' = g7 l:=lT _ _ (p.trans (cb l).symm) (rN _ h) (lS l)
section
variable {X : Cx}
def yt (X : Cx) (S : Addr) (ts : List Str) : HO:=.ext fun h=>fj X.prog X.w h S ts
theorem wL {pins : List (Addr × Obj)} {σ : St} {H : Hp} {s s1 : Shared} (I : Inv X pins σ H s) (k : ∀ b u,s.heap.get? b = some u->s1.heap.get? b = some u) (ho : s1.os = s.os) (hg : s1.gens = s.gens) : Inv X pins σ H s1:=by
 have I1:=I.step (g':=s.gens) (d':=s1.drawn) (t':=s1.toks) (h':=s1.heap) (H':=H) (ch:=[]) (fun _ z=>nomatch z) (fun b o _ _ _ e _=>k b o e) (fun b o _ _ _ e _=>⟨o.slots,k b o e⟩) (fun _ _ _ _ n=>n)
  (fun b o _ e=>⟨o,k b o e⟩) (fun _ _ e=>e) (fun _ _ _ e=>e) (fun _ _ e=>e) (fun m hm=>?_) (I.hok.kept k) I.bare
 ·obtain ⟨h1,g1,d1,t1,o1⟩:=s1
  cases ho; cases hg
  exact I1
 ·obtain ⟨o,es,ep,ho,r⟩:=hm
  exact ⟨o,es,ep,k _ o ho,r⟩
theorem rP (hc : X.calm = true) : bW X (.type "set") (fun xs H Q=>∃ p ys ss,xs = [.ref p]/\SqL X.K H p ys/\(∀ its,aK ys its->StrsAre its ss)/\ss.length < 4000/\∀ S,H S = none->Q (.ref S) (upd H S (yt X S (eF ss)))):=by
 intro pins s σ H xs us Q I r h
 obtain ⟨p,ys,ss,rfl,hq,hs,h64,q⟩:=h
 obtain ⟨u,rfl,rx⟩:=gm r
 cases rx
 obtain ⟨its,r',pl,hz⟩:=I.list hq
 have hst:=hs its r'
 have hlen : its.length = ss.length:=by rw [← hst.strs,List.length_map]
 refine lP (I.ok.hd hc) pl.isList (by simpa using hst) (by simp only [List.size_toArray]; unfold scanBound; omega) fun h' tk hS hk=>?_
 refine ⟨.ref s.heap.objs.size,_,I.laid (t':=tk) (fun b u e=>hk b u (Heap.lt_size e) e) (Nat.le_refl _) ?_,rfl,q _ (I.hok.fresh (Nat.le_refl _))⟩
 refine ⟨hS, ?_,fun h1 h2 z k=>z.at k⟩
 obtain ⟨o,_,_,_,ho,_⟩:=hS
 exact ⟨o,ho⟩
theorem lh (hc : X.calm = true) : bW X (.builtin "sorted") (fun xs H Q=>∃ S ts,xs = [.ref S]/\H S = some (yt X S ts)/\ts.length < 64/\∀ l,H l = none->Q (.ref l) (upd H l (.lst ((g7 ts).map .str)))):=by
 intro pins s σ H xs us Q I r h
 obtain ⟨S,ts,rfl,hS,h64,q⟩:=h
 obtain ⟨u,rfl,rx⟩:=gm r
 cases rx
 have hT : fj X.prog X.w s.heap S ts:=(I.hok S _ hS).1
 refine ue (I.ok.hd hc) hT h64 fun s1 h' a out n ss' k1 ho hg k2 hp he hst hperm hso=>?_
 have e:=o4 hperm hso
 subst e
 have I1:=wL I k1 ho hg
 have hv : ∀ {its : List Value} {zs : List Str},StrsAre its zs->aK (zs.map V.str) its:=fun z=>by
  induction z with
  | nil=>exact .nil
  | cons x t _ ih=>exact .cons ⟨t,rfl⟩ ih
 refine ⟨.ref a,_,I1.laid (t':=s1.toks) k2 hp (show b9 X.prog X.w _ h' _ (.lst _) from ⟨?_,out.toList,n,hv hst,he⟩),rfl,q _ (I1.hok.fresh hp)⟩
 rw [List.length_map,(cb ts).length_eq,sizeLine_eq]; omega
end
@[simp] def cG : D->Option (D × Bool)
 | .lst ds=>(d7 ds).bind fun ss=>if ss.length < 64 then some (.lst ((g7 (eF ss)).map .str),true) else none
 | _=>none
@[simp] def Ek : D->Option (D × Bool)
 | .lst ds=>(d7 ds).bind fun ss=>if ss.length < 4000 then some (.int ((eF ss).length : Nat),false) else none
 | _=>none
theorem rQ : bootBuiltins "sorted" = some (.builtin "sorted"):=by decide +kernel
theorem DY : bootBuiltins "set" = some (.type "set"):=by decide +kernel
theorem jl {K : PySem.W.Frag} {N : Hp} : ∀ (zs : List Str),IsL K N (zs.map V.str) (zs.map D.str)
 | []=>.nil
 | z :: zs=>.cons (.str z) (jl zs)
section
variable {X : Cx} {e : Expr} {pos pos2 p p2 : Pos}
theorem iI {f : FE} (hc : X.calm = true) (m1 : X.mg "sorted" = none) (m2 : X.mg "set" = none) (he : JE X e f) (g1 : Gl X "sorted":=by rfl) (g2 : Gl X "set":=by rfl)
  (h1 : starEach [e] X.env = (false,eval e X.env) :: starEach [] X.env:=by rfl) : JE X (.Call (.Name "sorted" p) [.Call (.Name "set" p2) [e] [] pos2] [] pos) (f1 cG f):=by
 refine PE.to (qP (lh hc) g1 m1 rQ (eG (nR (rP hc) g2 m2 DY (eG he gn h1) (he:=h1)) gn)) fun σ H Q q=>?_
 obtain ⟨B,ρ,d',bb,sB,r,ee,q⟩:=q
 obtain ⟨x1,ex,ee⟩:=oX ee
 refine ⟨B,ρ,x1.1,x1.2,sB,r,ex,fun v H1 N1 xt i1 fr=>?_⟩
 obtain ⟨xd,xb⟩:=x1
 cases i1 <;> try (simp [cG] at ee; done)
 rename_i l0 vs ds h hl
 simp only [cG] at ee
 obtain ⟨ss,ez,ee⟩:=oX ee
 split at ee
 ·rename_i h64
  cases ee
  refine ⟨_,_,ss,rfl,xt.nh.seq h,fun its r'=>jj r' hl ez,by omega,fun S hS=>⟨S,_,rfl,ax,Nat.lt_of_le_of_lt (lO ss) h64,fun l hl'=>?_⟩⟩
  have x2:=Ext.laid (o:=yt X S (eF ss)) xt.nh hS
  have x3:=Ext.laid (o:=.lst ((g7 (eF ss)).map V.str)) x2.nh hl'
  have hl0 : H l = none:=((xt.trans x2).hh).free hl'
  exact q _ _ _ ((xt.trans x2).trans x3) (.lst (SqL.of ax) (jl _)) fun _=>⟨_,_,_,rfl,rfl,hl0,ax,jl _⟩
 ·cases ee
end
end DL
namespace DL
open PySem PySem.Spec PySem.W PyProof.Rows
inductive Run (n : Nat) (lt : Nat->Nat->Bool) {α : Type} : KasT α->α->Prop where
 | ret (a : α) : Run n lt (.ret a) a
 | ask {i j : Nat} {k : Bool->KasT α} {a : α} (hi : i < n) (hj : j < n) (h : Run n lt (k (lt i j)) a) : Run n lt (.ask i j k) a
theorem Run.bind {n : Nat} {lt : Nat->Nat->Bool} {α β : Type} {t : KasT α} {f : α->KasT β} {a : α} {b : β} (h : Run n lt t a) (k : Run n lt (f a) b) : Run n lt (t.bind f) b:=by
 induction h with
 | ret a=>exact k
 | ask hi hj _ ih=>exact .ask hi hj (ih k)
theorem Run.wp {n : Nat} {lt : Nat->Nat->Bool} {α : Type} {cmp : Nat->Nat->(Bool->Shared->Prop)->Shared->Prop} {Q : α->Shared->Prop} {t : KasT α} {a : α} (J : Shared->Prop)
  (hc : ∀ i j C s,i < n->j < n->J s->(∀ s',J s'->C (lt i j) s')->cmp i j C s) (h : Run n lt t a) : ∀ {s : Shared},J s->(∀ s',J s'->Q a s')->t.kasWp cmp Q s:=by
 induction h with
 | ret a=>intro s hJ hQ; exact hQ s hJ
 | ask hi hj _ ih=>intro s hJ hQ; exact hc _ _ _ _ hi hj hJ fun s' hJ'=>ih hJ' hQ
section
variable {n : Nat} {rk : Nat->Int}
abbrev ltR (rk : Nat->Int) (i j : Nat) : Bool:=decide (rk i < rk j)
def bx (rk : Nat->Int) (p : Array Nat) (k : Nat) : Int:=rk (p.getD k 0)
structure Arr (n : Nat) (p : Array Nat) : Prop where
 size : p.size = n
 perm : p.toList.Perm (List.range n)
theorem Arr.lt {p : Array Nat} (h : Arr n p) {k : Nat} (hk : k < n) : p.getD k 0 < n:=by
 have hk' : k < p.size:=by rw [h.size]; exact hk
 have : p.getD k 0 = p[k]:=by rw [Array.getD_eq_getD_getElem?,Array.getElem?_eq_getElem hk']; rfl
 rw [this]
 exact List.mem_range.mp (h.perm.mem_iff.mp (by simp))
theorem Arr.rev {p : Array Nat} (h : Arr n p) (i j : Nat) : Arr n (kas_rev p i j) :=
 ⟨(mirror_size _ _ _ _).trans h.size,(Array.perm_iff_toList_perm.mp (mirror_perm p i j _)).trans h.perm⟩
theorem Arr.bub {p : Array Nat} (h : Arr n p) (k d : Nat) : Arr n (bubble p k d) :=
 ⟨(bubble_size _ _ _).trans h.size,(Array.perm_iff_toList_perm.mp (bubble_perm p k d)).trans h.perm⟩
theorem pQ {p : Array Nat} {i j : Nat} (hj : j<=p.size) (k : Nat) : bx rk (kas_rev p i j) k = if i<=k/\k < j then bx rk p (i + j - 1 - k) else bx rk p k:=by
 unfold bx kas_rev
 rw [Array.getD_eq_getD_getElem?,getElem?_mirror_all hj]
 split <;> rw [Array.getD_eq_getD_getElem?]
theorem yu {p : Array Nat} {src d : Nat} (hs : src < p.size) (hd : d<=src) (k : Nat) : bx rk (bubble p src d) k = if k = src - d then bx rk p src else if src - d < k/\k<=src then bx rk p (k - 1) else bx rk p k:=by
 unfold bx
 simp only [Array.getD_eq_getD_getElem?]
 rw [getElem?_bubble hs d hd]
 repeat' split
 all_goals rfl
def Up (rk : Nat->Int) (p : Array Nat) (m : Nat) : Prop:=∀ i j,i<=j->j < m->bx rk p i<=bx rk p j
def pR (rk : Nat->Int) (p : Array Nat) (m : Nat) : Prop:=∀ i j,i<=j->j < m->bx rk p j<=bx rk p i
theorem CA (p : Array Nat) : Up rk p 1:=fun i j h1 h2=>by
 have : i = j:=by omega
 subst this; exact Int.le_refl _
theorem pT {p : Array Nat} (h : Arr n p) {r : Nat} (hr : r<=n) : ∀ (f m : Nat),r - m = f->1<=m->m<=r->Up rk p m->∃ m',Run n (ltR rk) (kas_asc p f m) m'/\m<=m'/\m'<=r/\Up rk p m'/\(m' < r->bx rk p m' < bx rk p (m' - 1))
 | 0,m,hf,h1,hm,hu=>⟨m,.ret m,Nat.le_refl _,hm,hu,fun z=>by omega⟩
 | f + 1,m,hf,h1,hm,hu=>by
  have a1:=h.lt (k:=m) (by omega)
  have a2:=h.lt (k:=m - 1) (by omega)
  by_cases hc : bx rk p m < bx rk p (m - 1)
  ·refine ⟨m,.ask a1 a2 ?_,Nat.le_refl _,hm,hu,fun _=>hc⟩
   have : ltR rk (p.getD m 0) (p.getD (m - 1) 0) = true:=decide_eq_true hc
   rw [this,if_pos rfl]; exact .ret m
  ·have hu' : Up rk p (m + 1):=fun i j hij hj=>by
    by_cases e : j = m
    ·subst e
     by_cases e2 : i = j
     ·subst e2; exact Int.le_refl _
     ·have:=hu i (j - 1) (by omega) (by omega); omega
    ·exact hu i j hij (by omega)
   obtain ⟨m',q1,q2,q3,q4,q5⟩:=pT h hr f (m + 1) (by omega) (by omega) (by omega) hu'
   refine ⟨m',.ask a1 a2 ?_,by omega,q3,q4,q5⟩
   have : ltR rk (p.getD m 0) (p.getD (m - 1) 0) = false:=decide_eq_false hc
   rw [this,if_neg Bool.false_ne_true]; exact q1
def An (rk : Nat->Int) (p : Array Nat) (m q : Nat) : Prop:=q + 1<=m/\∀ k,m - (q + 1)<=k->k < m->bx rk p k = bx rk p (m - 1)
theorem rR {p : Array Nat} {m q : Nat} (hs : m<=p.size) (hf : An rk p m q) (k : Nat) : bx rk (kas_rev p (m - (q + 1)) m) k = bx rk p k:=by
 rw [pQ hs]
 split
 ·rename_i hk
  have h0:=hf.1
  rw [hf.2 k hk.1 hk.2,hf.2 _ (by omega) (by omega)]
 ·rfl
theorem vy {p p' : Array Nat} {m : Nat} (e : ∀ k,bx rk p' k = bx rk p k) (h : pR rk p m) : pR rk p' m:=fun i j h1 h2=>by rw [e,e]; exact h i j h1 h2
theorem lU (p : Array Nat) {m : Nat} (h : 1<=m) : An rk p m 0:=⟨h,fun k h1 h2=>by
 have : k = m - 1:=by omega
 rw [this]⟩
theorem jm {r : Nat} (hr : r<=n) : ∀ (f : Nat) (p : Array Nat) (m q : Nat),Arr n p->r - m = f->1<=m->m<=r->pR rk p m->An rk p m q->∃ p' m' q',Run n (ltR rk) (kas_desc f p m q) (p',m',q')/\Arr n p'/\m<=m'/\m'<=r/\pR rk p' m'/\An rk p' m' q'
 | 0,p,m,q,h,hf,h1,hm,hd,hq=>⟨p,m,q,.ret _,h,Nat.le_refl _,hm,hd,hq⟩
 | f + 1,p,m,q,h,hf,h1,hm,hd,hq=>by
  have a1:=h.lt (k:=m) (by omega)
  have a2:=h.lt (k:=m - 1) (by omega)
  have step : ∀ p' : Array Nat,(∀ k,bx rk p' k = bx rk p k)->bx rk p m<=bx rk p (m - 1)->pR rk p' (m + 1):=fun p' e hle i j hij hj=>by
   rw [e,e]
   by_cases z : j = m
   ·subst z
    by_cases z2 : i = j
    ·subst z2; exact Int.le_refl _
    ·have:=hd i (j - 1) (by omega) (by omega); omega
   ·exact hd i j hij (by omega)
  by_cases hc : bx rk p m < bx rk p (m - 1)
  ·have hcl : ltR rk (p.getD m 0) (p.getD (m - 1) 0) = true:=decide_eq_true hc
   by_cases hq0 : q > 0
   ·have e:=rR (p:=p) (by rw [h.size]; omega) hq
    obtain ⟨p',m',q',g1,g2,g3,g4,g5,g6⟩:=jm hr f (kas_rev p (m - (q + 1)) m) (m + 1) 0 (h.rev _ _) (by omega) (by omega) (by omega) (step _ e (by omega)) (lU _ (by omega))
    refine ⟨p',m',q',.ask a1 a2 ?_,g2,by omega,g4,g5,g6⟩
    rw [hcl,if_pos rfl,if_pos hq0]; exact g1
   ·obtain ⟨p',m',q',g1,g2,g3,g4,g5,g6⟩:=jm hr f p (m + 1) 0 h (by omega) (by omega) (by omega) (step _ (fun _=>rfl) (by omega)) (lU _ (by omega))
    refine ⟨p',m',q',.ask a1 a2 ?_,g2,by omega,g4,g5,g6⟩
    rw [hcl,if_pos rfl,if_neg hq0]; exact g1
  ·have hcl : ltR rk (p.getD m 0) (p.getD (m - 1) 0) = false:=decide_eq_false hc
   by_cases hc2 : bx rk p (m - 1) < bx rk p m
   ·have hcl2 : ltR rk (p.getD (m - 1) 0) (p.getD m 0) = true:=decide_eq_true hc2
    refine ⟨p,m,q,.ask a1 a2 ?_,h,Nat.le_refl _,hm,hd,hq⟩
    rw [hcl,if_neg Bool.false_ne_true]
    refine .ask a2 a1 ?_
    rw [hcl2,if_pos rfl]; exact .ret _
   ·have hcl2 : ltR rk (p.getD (m - 1) 0) (p.getD m 0) = false:=decide_eq_false hc2
    have he : bx rk p m = bx rk p (m - 1):=by omega
    obtain ⟨p',m',q',g1,g2,g3,g4,g5,g6⟩:=jm hr f p (m + 1) (q + 1) h (by omega) (by omega) (by omega) (step _ (fun _=>rfl) (by omega)) ⟨by have:=hq.1; omega,fun k k1 k2=>by
     rw [Nat.add_sub_cancel]
     by_cases z : k = m
     ·rw [z]
     ·rw [hq.2 k (by omega) (by omega),he]⟩
    refine ⟨p',m',q',.ask a1 a2 ?_,g2,by omega,g4,g5,g6⟩
    rw [hcl,if_neg Bool.false_ne_true]
    refine .ask a2 a1 ?_
    rw [hcl2,if_neg Bool.false_ne_true]; exact g1
theorem rS {r : Nat} (hr : r<=n) {p : Array Nat} (h : Arr n p) {m : Nat} (h1 : 1<=m) (hm : m<=r) (hd : pR rk p m) : ∃ m' p',Run n (ltR rk) (kas_tail3 m r p) (m',p')/\Arr n p'/\1<=m'/\m'<=r/\Up rk p' m':=by
 have hu : Up rk (kas_rev p 0 m) m:=fun i j hij hj=>by
  rw [pQ (by rw [h.size]; omega),pQ (by rw [h.size]; omega),if_pos (by omega),if_pos (by omega)]
  exact hd _ _ (by omega) (by omega)
 obtain ⟨m',q1,q2,q3,q4,_⟩:=pT (h.rev 0 m) hr (r - m) m rfl h1 hm hu
 exact ⟨m',_,q1.bind (.ret _),h.rev 0 m,by omega,q3,q4⟩
theorem rT {r : Nat} (hr : r<=n) {p : Array Nat} (h : Arr n p) {m : Nat} (hm : m + 1<=r) (hd : pR rk p (m + 1)) : ∃ m' p',Run n (ltR rk) (kas_descPart m r p) (m',p')/\Arr n p'/\1<=m'/\m'<=r/\Up rk p' m':=by
 obtain ⟨p1,m1,q1,g1,g2,g3,g4,g5,g6⟩:=jm hr (r - (m + 1)) p (m + 1) 0 h rfl (by omega) hm hd (lU _ (by omega))
 by_cases hq : q1 > 0
 ·obtain ⟨m',p',k1,k2,k3,k4,k5⟩:=rS hr (g2.rev (m1 - (q1 + 1)) m1) (m:=m1) (by omega) g4 (vy (rR (by rw [g2.size]; omega) g6) g5)
  exact ⟨m',p',g1.bind (by dsimp only; rw [if_pos hq]; exact k1),k2,k3,k4,k5⟩
 ·obtain ⟨m',p',k1,k2,k3,k4,k5⟩:=rS hr g2 (m:=m1) (by omega) g4 g5
  exact ⟨m',p',g1.bind (by dsimp only; rw [if_neg hq]; exact k1),k2,k3,k4,k5⟩
theorem wM {p : Array Nat} (h : Arr n p) (hn : 1<=n) : ∃ m' p',Run n (ltR rk) (kas_count n p) (m',p')/\Arr n p'/\1<=m'/\m'<=n/\Up rk p' m':=by
 obtain ⟨m,q1,q2,q3,q4,q5⟩:=pT h (Nat.le_refl n) (n - 1) 1 rfl (Nat.le_refl 1) hn (CA (rk:=rk) p)
 by_cases e : m = n
 ·exact ⟨m,p,q1.bind (by rw [if_pos (by simp [e])]; exact .ret _),h,q2,q3,q4⟩
 ·have hlt:=q5 (by omega)
  have e1 : ¬ (m == n) = true:=by simp [e]
  by_cases hm1 : m > 1
  ·by_cases hc : bx rk p 0 < bx rk p (m - 1)
   ·refine ⟨m,p,q1.bind ?_,h,q2,q3,q4⟩
    rw [if_neg e1,if_pos hm1]
    refine .ask (h.lt (by omega)) (h.lt (by omega)) ?_
    have : ltR rk (p.getD 0 0) (p.getD (m - 1) 0) = true:=decide_eq_true hc
    rw [this,if_pos rfl]; exact .ret _
   ·have hall : ∀ k,k < m->bx rk p k = bx rk p 0:=fun k hk=>by
     have z1:=q4 0 k (by omega) hk
     have z2:=q4 k (m - 1) (by omega) (by omega)
     omega
    have er : ∀ k,bx rk (kas_rev p 0 m) k = bx rk p k:=fun k=>by
     rw [pQ (by rw [h.size]; omega)]
     split
     ·rename_i z; rw [hall _ (by omega),hall k z.2]
     ·rfl
    have hd : pR rk p (m + 1):=fun i j hij hj=>by
     by_cases z : j = m
     ·subst z
      by_cases z2 : i = j
      ·subst z2; exact Int.le_refl _
      ·rw [hall i (by omega)]; rw [hall (j - 1) (by omega)] at hlt; omega
     ·rw [hall i (by omega),hall j (by omega)]; exact Int.le_refl _
    obtain ⟨m',p',k1,k2,k3,k4,k5⟩:=rT (Nat.le_refl n) (h.rev 0 m) (m:=m) (by omega) (vy er hd)
    refine ⟨m',p',q1.bind ?_,k2,k3,k4,k5⟩
    rw [if_neg e1,if_pos hm1]
    refine .ask (h.lt (by omega)) (h.lt (by omega)) ?_
    have : ltR rk (p.getD 0 0) (p.getD (m - 1) 0) = false:=decide_eq_false hc
    rw [this,if_neg Bool.false_ne_true]; exact k1
  ·have em : m = 1:=by omega
   subst em
   have hd : pR rk p 2:=fun i j hij hj=>by
    by_cases z2 : i = j
    ·subst z2; exact Int.le_refl _
    ·have : i = 0:=by omega
     have : j = 1:=by omega
     subst_vars
     have:=hlt
     simp at this
     omega
   obtain ⟨m',p',k1,k2,k3,k4,k5⟩:=rT (Nat.le_refl n) h (m:=1) (by omega) hd
   refine ⟨m',p',q1.bind ?_,k2,k3,k4,k5⟩
   rw [if_neg e1,if_neg hm1]; exact k1
theorem jQ {p : Array Nat} (h : Arr n p) {k : Nat} (hk : k < n) (hu : Up rk p k) : ∀ (f l r : Nat),r - l<=f->l<=r->r<=k->(∀ i,i < l->bx rk p i<=bx rk p k)->(∀ i,r<=i->i < k->bx rk p k < bx rk p i) ->
  ∃ l',Run n (ltR rk) (kas_place p k f l r) l'/\l'<=k/\(∀ i,i < l'->bx rk p i<=bx rk p k)/\(∀ i,l'<=i->i < k->bx rk p k < bx rk p i)
 | 0,l,r,hf,hl,hr,h1,h2=>⟨l,.ret l,by omega,h1,fun i a b=>h2 i (by omega) b⟩
 | f + 1,l,r,hf,hl,hr,h1,h2=>by
  by_cases hge : l ≥ r
  ·refine ⟨l, ?_,by omega,h1,fun i a b=>h2 i (by omega) b⟩
   unfold kas_place; rw [if_pos hge]; exact .ret l
  ·by_cases hc : bx rk p k < bx rk p ((l + r) / 2)
   ·obtain ⟨l',q1,q2,q3,q4⟩:=jQ h hk hu f l ((l + r) / 2) (by omega) (by omega) (by omega) h1 fun i a b=>by
     have:=hu ((l + r) / 2) i a b; omega
    refine ⟨l', ?_,q2,q3,q4⟩
    unfold kas_place; rw [if_neg hge]
    refine .ask (h.lt (by omega)) (h.lt (by omega)) ?_
    have : ltR rk (p.getD k 0) (p.getD ((l + r) / 2) 0) = true:=decide_eq_true hc
    rw [this,if_pos rfl]; exact q1
   ·obtain ⟨l',q1,q2,q3,q4⟩:=jQ h hk hu f ((l + r) / 2 + 1) r (by omega) (by omega) hr (fun i a=>by
     have:=hu i ((l + r) / 2) (by omega) (by omega); omega) h2
    refine ⟨l', ?_,q2,q3,q4⟩
    unfold kas_place; rw [if_neg hge]
    refine .ask (h.lt (by omega)) (h.lt (by omega)) ?_
    have : ltR rk (p.getD k 0) (p.getD ((l + r) / 2) 0) = false:=decide_eq_false hc
    rw [this,if_neg Bool.false_ne_true]; exact q1
theorem vz : ∀ (f : Nat) (p : Array Nat) (k : Nat),Arr n p->n - k = f->k<=n->Up rk p k->∃ p',Run n (ltR rk) (kas_bin f p k) p'/\Arr n p'/\Up rk p' n
 | 0,p,k,h,hf,hk,hu=>⟨p,.ret p,h,(show k = n by omega) ▸ hu⟩
 | f + 1,p,k,h,hf,hk,hu=>by
  have hk' : k < n:=by omega
  obtain ⟨l,q1,q2,q3,q4⟩:=jQ h hk' hu k 0 k (by omega) (by omega) (Nat.le_refl _) (fun i z=>by omega) (fun i a b=>by omega)
  have hsz : k < p.size:=by rw [h.size]; exact hk'
  have hu' : Up rk (bubble p k (k - l)) (k + 1):=fun i j hij hj=>by
   rw [yu hsz (by omega),yu hsz (by omega)]
   have e : k - (k - l) = l:=by omega
   rw [e]
   by_cases i1 : i = l
   ·rw [if_pos i1]
    by_cases j1 : j = l
    ·rw [if_pos j1]; exact Int.le_refl _
    ·rw [if_neg j1,if_pos (by omega)]; have:=q4 (j - 1) (by omega) (by omega); omega
   ·rw [if_neg i1]
    by_cases i2 : l < i/\i<=k
    ·rw [if_pos i2,if_neg (by omega),if_pos (by omega)]; exact hu _ _ (by omega) (by omega)
    ·rw [if_neg i2]
     by_cases j1 : j = l
     ·rw [if_pos j1]; exact q3 i (by omega)
     ·rw [if_neg j1]
      by_cases j2 : l < j/\j<=k
      ·rw [if_pos j2]; exact hu _ _ (by omega) (by omega)
      ·rw [if_neg j2]; exact hu _ _ hij (by omega)
  obtain ⟨p',k1,k2,k3⟩:=vz f (bubble p k (k - l)) (k + 1) (h.bub _ _) (by omega) (by omega) hu'
  exact ⟨p',q1.bind k1,k2,k3⟩
theorem rV (hn : 1<=n) : ∃ p,Run n (ltR rk) (kas_sort n) p/\Arr n p/\Up rk p n:=by
 have h0 : Arr n (List.toArray (List.range n)):=⟨by simp,by simp⟩
 obtain ⟨m,p,q1,q2,q3,q4,q5⟩:=wM (rk:=rk) h0 hn
 by_cases e : m < n
 ·have hmx : max m 1 = m:=by omega
  obtain ⟨p',k1,k2,k3⟩:=vz (n - max m 1) p (max m 1) q2 rfl (by omega) (by rw [hmx]; exact q5)
  exact ⟨p',q1.bind (by dsimp only; rw [if_pos e]; exact k1),k2,k3⟩
 ·have : m = n:=by omega
  subst this
  exact ⟨p,q1.bind (by dsimp only; rw [if_neg e]; exact .ret _),q2,q5⟩
end
theorem fE {a b c : List Int} (h : a < b) (k : b < c) : a < c:=List.lt_trans h k
theorem wN {a b c : List Int} (h : ¬ b < a) (k : ¬ c < b) : ¬ c < a:=List.not_lt.mpr (List.le_trans (List.not_lt.mp h) (List.not_lt.mp k))
theorem yv {a b : List Int} (h : ¬ b < a) (k : ¬ a < b) : a = b:=List.le_antisymm (List.not_lt.mp h) (List.not_lt.mp k)
section
variable {α : Type} (f : α->List Int)
def leF (a b : α) : Prop:=¬ f b < f a
def uh (x : α) : List α->List α
 | []=>[x]
 | y :: r=>if f y < f x then y :: uh x r else x :: y :: r
def d9 (l : List α) : List α:=l.foldr (uh f) []
theorem jR (x : α) : ∀ l,(uh f x l).Perm (x :: l)
 | []=>List.Perm.refl _
 | y :: r=>by
  unfold uh
  split
  ·exact ((jR x r).cons y).trans (List.Perm.swap x y r)
  ·exact List.Perm.refl _
theorem bc : ∀ l,(d9 f l).Perm l
 | []=>List.Perm.refl _
 | x :: l=>(jR f x (d9 f l)).trans ((bc l).cons x)
theorem o5 (x : α) : ∀ l,l.Pairwise (leF f)->(uh f x l).Pairwise (leF f)
 | [],_=>by simp [uh]
 | y :: r,h=>by
  obtain ⟨h1,h2⟩:=List.pairwise_cons.mp h
  unfold uh
  split
  ·rename_i hl
   refine List.pairwise_cons.mpr ⟨fun z hz=>?_,o5 x r h2⟩
   rcases List.mem_cons.mp ((jR f x r).mem_iff.mp hz) with rfl | hz
   ·exact fun k=>List.lt_irrefl _ (fE hl k)
   ·exact h1 z hz
  ·rename_i hl
   refine List.pairwise_cons.mpr ⟨fun z hz=>?_,h⟩
   rcases List.mem_cons.mp hz with rfl | hz
   ·exact hl
   ·exact wN hl (h1 z hz)
theorem dn : ∀ l,(d9 f l).Pairwise (leF f)
 | []=>List.Pairwise.nil
 | x :: l=>o5 f x _ (dn l)
theorem o6 : ∀ (l1 l2 : List α),(∀ x ∈ l1,∀ y ∈ l1,f x = f y->x = y)->l1.Perm l2->l1.Pairwise (leF f)->l2.Pairwise (leF f)->l1 = l2
 | [],l2,_,p,_,_=>(List.nil_perm.mp p).symm
 | x :: r1,[],_,p,_,_=>absurd p.length_eq (by simp)
 | x :: r1,y :: r2,hi,p,h1,h2=>by
  have hy : y ∈ x :: r1:=p.mem_iff.mpr (mX ..)
  have hxy : leF f x y:=by
   rcases List.mem_cons.mp hy with z | z
   ·rw [z]; exact List.lt_irrefl _
   ·exact (List.pairwise_cons.mp h1).1 y z
  have hyx : leF f y x:=by
   rcases List.mem_cons.mp (p.mem_iff.mp (mX ..)) with z | z
   ·rw [z]; exact List.lt_irrefl _
   ·exact (List.pairwise_cons.mp h2).1 x z
  have e : x = y:=hi x (mX ..) y hy (yv hxy hyx)
  subst e
  rw [o6 r1 r2 (fun a ha b hb=>hi a (mZ _ ha) b (mZ _ hb)) (List.Perm.cons_inv p) (List.pairwise_cons.mp h1).2 (List.pairwise_cons.mp h2).2]
theorem dZ {l l' : List α} (hi : ∀ x ∈ l,∀ y ∈ l,f x = f y->x = y) (p : l'.Perm l) (h : l'.Pairwise (leF f)) : l' = d9 f l :=
 o6 f _ _ (fun x hx y hy=>hi x (p.mem_iff.mp hx) y (p.mem_iff.mp hy)) (p.trans (bc f l).symm) h (dn f l)
end
theorem iJ {α : Type} {p q : α->Bool} (h : ∀ x,p x = true->q x = true) : ∀ l : List α,(l.filter p).length<=(l.filter q).length
 | []=>Nat.le_refl _
 | x :: l=>by
  have ih:=iJ h l
  rw [List.filter_cons,List.filter_cons]
  by_cases z : p x = true
  ·rw [if_pos z,if_pos (h x z)]; simp only [List.length_cons]; omega
  ·rw [if_neg z]
   split
   ·simp only [List.length_cons]; omega
   ·exact ih
def jn (cs : List (List Int)) (c : List Int) : Int:=((cs.filter fun x=>decide (x < c)).length : Nat)
theorem Ao {cs : List (List Int)} {a b : List Int} (h : ¬ b < a) : jn cs a<=jn cs b:=by
 unfold jn
 refine Int.ofNat_le.mpr (iJ (fun x hx=>?_) cs)
 rw [decide_eq_true_eq] at hx ⊢
 rcases List.le_iff_lt_or_eq.mp (List.not_lt.mp h) with z | z
 ·exact fE hx z
 ·rw [← z]; exact hx
theorem pU {cs : List (List Int)} {a b : List Int} (ha : a ∈ cs) (h : a < b) : jn cs a < jn cs b:=by
 unfold jn
 apply Int.ofNat_lt.mpr
 induction cs with
 | nil=>simp at ha
 | cons c cs ih =>
  have key : ∀ l : List (List Int),(l.filter fun x=>decide (x < a)).length<=(l.filter fun x=>decide (x < b)).length:=fun l =>
   iJ (fun x hx=>by rw [decide_eq_true_eq] at hx ⊢; exact fE hx h) l
  rw [List.filter_cons,List.filter_cons]
  rcases List.mem_cons.mp ha with rfl | ha
  ·rw [if_neg (by simp [List.lt_irrefl]),if_pos (by simpa using h)]
   have:=key cs
   simp only [List.length_cons]; omega
  ·have:=ih ha
   by_cases z : c < a
   ·rw [if_pos (by simpa using z),if_pos (by simpa using fE z h)]
    simp only [List.length_cons]; omega
   ·rw [if_neg (by simpa using z)]
    split
    ·simp only [List.length_cons]; omega
    ·exact this
theorem yw {cs : List (List Int)} {a b : List Int} (ha : a ∈ cs) : decide (jn cs a < jn cs b) = decide (a < b):=by
 by_cases h : a < b
 ·rw [decide_eq_true h,decide_eq_true (pU ha h)]
 ·rw [decide_eq_false h,decide_eq_false]
  have:=Ao (cs:=cs) h
  omega
inductive At where
 | i (n : Int)
 | s (z : Str)
def enc : At->List Int
 | .i n=>[n]
 | .s z=>z.cps.toList.map (fun (c : Nat)=>(c : Int) + 1) ++ [0]
def bu (xs : List At) : List Int:=xs.flatMap enc
def aQ : List At->List At->Option Bool
 | [],ys=>some (!ys.isEmpty)
 | _ :: _,[]=>some false
 | .i a :: xs,.i b :: ys=>if a = b then aQ xs ys else some (decide (a < b))
 | .s a :: xs,.s b :: ys=>if a = b then aQ xs ys else some (decide (a.cps.toList < b.cps.toList))
 | _ :: _,_ :: _=>none
theorem pV : ∀ (a b : List Nat) (r r' : List Int),(a.map (fun (c : Nat)=>(c : Int) + 1) ++ 0 :: r) < (b.map (fun (c : Nat)=>(c : Int) + 1) ++ 0 :: r') ↔ a < b ∨ (a = b/\r < r')
 | [],[],r,r'=>by simp [List.cons_lt_cons_iff]
 | [],y :: b,r,r'=>by simp [List.cons_lt_cons_iff]
 | x :: a,[],r,r'=>by simp [List.cons_lt_cons_iff]; omega
 | x :: a,y :: b,r,r'=>by
  rw [List.map_cons,List.map_cons,List.cons_append,List.cons_append,List.cons_lt_cons_iff,pV a b r r',List.cons_lt_cons_iff]
  constructor
  ·rintro (h | ⟨h,k | ⟨k1,k2⟩⟩)
   ·exact .inl (.inl (by omega))
   ·exact .inl (.inr ⟨by omega,k⟩)
   ·exact .inr ⟨by rw [k1,show x = y by omega],k2⟩
  ·rintro ((h | ⟨h,k⟩) | ⟨h,k⟩)
   ·exact .inl (by omega)
   ·exact .inr ⟨by omega,.inl k⟩
   ·injection h with h1 h2
    exact .inr ⟨by omega,.inr ⟨h2,k⟩⟩
theorem fF (x : At) (xs : List At) : bu (x :: xs) = enc x ++ bu xs:=by unfold bu; rw [List.flatMap_cons]
theorem CB (x : At) : enc x ≠ []:=by cases x <;> simp [enc]
theorem v0 {a b : Str} : a.cps.toList = b.cps.toList ↔ a = b:=by
 constructor
 ·intro h
  obtain ⟨a⟩:=a; obtain ⟨b⟩:=b
  have : a = b:=Array.toList_inj.mp h
  rw [this]
 ·rintro rfl; rfl
theorem jo : ∀ (xs ys : List At) (b : Bool),aQ xs ys = some b->b = decide (bu xs < bu ys)
 | [],[],b,h=>by simp [aQ] at h; subst h; simp [bu]
 | [],y :: ys,b,h=>by
  simp [aQ] at h; subst h
  rw [fF]
  cases e : enc y with
  | nil=>exact absurd e (CB y)
  | cons c cs=>simp [bu]
 | x :: xs,[],b,h=>by simp [aQ] at h; subst h; simp [bu]
 | .i a :: xs,.i c :: ys,b,h=>by
  rw [aQ] at h
  rw [fF,fF]
  show b = decide (a :: bu xs < c :: bu ys)
  split at h
  ·rename_i e
   subst e
   rw [jo xs ys b h]
   exact decide_eq_decide.mpr (by rw [List.cons_lt_cons_iff]; simp)
  ·rename_i e
   cases h
   exact decide_eq_decide.mpr (by rw [List.cons_lt_cons_iff]; simp [e])
 | .s a :: xs,.s c :: ys,b,h=>by
  rw [aQ] at h
  rw [fF,fF]
  have e0 : ∀ (z : Str) (r : List Int),enc (.s z) ++ r = z.cps.toList.map (fun (c : Nat)=>(c : Int) + 1) ++ 0 :: r:=fun z r=>by simp [enc]
  rw [e0,e0]
  split at h
  ·rename_i e
   subst e
   rw [jo xs ys b h]
   exact decide_eq_decide.mpr (by rw [pV]; exact ⟨fun z=>.inr ⟨rfl,z⟩,fun z=>z.elim (fun q=>absurd q (List.lt_irrefl _)) (·.2)⟩)
  ·rename_i e
   cases h
   exact decide_eq_decide.mpr (by rw [pV,v0]; exact ⟨.inl,fun z=>z.elim id fun q=>absurd q.1 e⟩)
 | .i _ :: _,.s _ :: _,b,h=>by simp [aQ] at h
 | .s _ :: _,.i _ :: _,b,h=>by simp [aQ] at h
theorem ui : ∀ (xs ys : List At),aQ xs ys = some false->aQ ys xs = some false->xs = ys
 | [],[],_,_=>rfl
 | [],y :: ys,h,_=>by simp [aQ] at h
 | x :: xs,[],_,h=>by simp [aQ] at h
 | .i a :: xs,.i c :: ys,h,k=>by
  rw [aQ] at h k
  by_cases e : a = c
  ·subst e
   rw [if_pos rfl] at h k
   rw [ui xs ys h k]
  ·rw [if_neg e] at h
   rw [if_neg (Ne.symm e)] at k
   simp at h k
   omega
 | .s a :: xs,.s c :: ys,h,k=>by
  rw [aQ] at h k
  by_cases e : a = c
  ·subst e
   rw [if_pos rfl] at h k
   rw [ui xs ys h k]
  ·rw [if_neg e] at h
   rw [if_neg (Ne.symm e)] at k
   simp only [Option.some.injEq,decide_eq_false_iff_not] at h k
   exact absurd (v0.mp (List.le_antisymm (List.not_lt.mp k) (List.not_lt.mp h))) e
 | .i _ :: _,.s _ :: _,h,_=>by simp [aQ] at h
 | .s _ :: _,.i _ :: _,h,_=>by simp [aQ] at h
def cu (ks : List (List At)) : Bool:=ks.all fun x=>ks.all fun y=>(aQ x y).isSome
theorem dP {ks : List (List At)} (h : cu ks = true) {x y : List At} (hx : x ∈ ks) (hy : y ∈ ks) : aQ x y = some (decide (bu x < bu y)):=by
 have:=List.all_eq_true.mp (List.all_eq_true.mp h x hx) y hy
 obtain ⟨b,e⟩:=Option.isSome_iff_exists.mp this
 rw [e,jo _ _ _ e]
theorem gV {ks : List (List At)} (h : cu ks = true) {x y : List At} (hx : x ∈ ks) (hy : y ∈ ks) (e : bu x = bu y) : x = y:=by
 refine ui _ _ ?_ ?_
 ·rw [dP h hx hy,e,decide_eq_false (List.lt_irrefl _)]
 ·rw [dP h hy hx,e,decide_eq_false (List.lt_irrefl _)]
def atV : At->Value->Prop
 | .i n,v=>∃ t,v = .int n t
 | .s z,v=>∃ t,v = .str z t
def dD (h : Heap) (xs : List At) (v : Value) : Prop:=∃ a o its n,v = .ref a/\h.get? a = some o/\o.cls = .type "tuple"/\o.data = .seq its n/\Paired atV xs its.toList
theorem dD.keep {h h' : Heap} {xs : List At} {v : Value} (x : dD h xs v) (k : ∀ a o,o.cls = .type "tuple"->h.get? a = some o->h'.get? a = some o) : dD h' xs v:=by
 obtain ⟨a,o,its,n,e,ho,hc,r⟩:=x
 exact ⟨a,o,its,n,e,k a o hc ho,hc,r⟩
def bQ (ks : List (List At)) : Bool:=ks.all (fun x=>match x with | .i _ :: _=>true | _=>false) || ks.all (fun x=>match x with | .s _ :: _=>true | _=>false)
section
variable {prog : Program} {w : World} {A : Around} {E : Value->Shared->Prop} {s : Shared}
theorem lV {Q : Bool->Shared->Prop} {b : Bool} {fin : Bool} : ∀ (xs ys : List At) (its jts : List Value) (i : Nat),Paired atV xs its->Paired atV ys jts->aQ xs ys = some b->fin = decide (xs.length < ys.length)->Q b s->KatLex prog w A true fin Q (its.zip jts) i s
 | [],ys,_,jts,i,.nil,r2,h,hf,q=>by
  rw [List.zip_nil_left]
  refine kat_nil ?_
  cases ys with
  | nil=>simp [aQ] at h; subst h; rw [hf]; exact q
  | cons y ys=>simp [aQ] at h; subst h; rw [hf]; simpa using q
 | x :: xs,[],_,_,i,_,.nil,h,hf,q=>by
  rw [List.zip_nil_right]
  refine kat_nil ?_
  simp [aQ] at h; subst h; rw [hf]; simpa using q
 | .i a :: xs,.i c :: ys,_,_,i,.cons r1 r1',.cons r2 r2',h,hf,q=>by
  obtain ⟨t,rfl⟩:=r1
  obtain ⟨u,rfl⟩:=r2
  rw [List.zip_cons_cons]
  refine kat_cons (wpAny_eqBool_int ?_)
  rw [aQ] at h
  by_cases e : a = c
  ·rw [if_pos e] at h
   rw [show (a == c) = true by simp [e]]
   exact kat_yes (lV xs ys _ _ (i + 1) r1' r2' h (by rw [hf]; simp) q)
  ·rw [if_neg e] at h
   cases h
   rw [show (a == c) = false by simp [e]]
   refine kat_no ?_
   cases hb : (true && i == 0) with
   | true=>exact oneLt_int q
   | false=>exact kat_one _ _ (PyProof.Rows.lt_int q)
 | .s a :: xs,.s c :: ys,_,_,i,.cons r1 r1',.cons r2 r2',h,hf,q=>by
  obtain ⟨t,rfl⟩:=r1
  obtain ⟨u,rfl⟩:=r2
  rw [List.zip_cons_cons]
  refine kat_cons (wpAny_eqBool_str ?_)
  rw [aQ] at h
  by_cases e : a = c
  ·rw [if_pos e] at h
   rw [decide_eq_true e]
   exact kat_yes (lV xs ys _ _ (i + 1) r1' r2' h (by rw [hf]; simp) q)
  ·rw [if_neg e] at h
   cases h
   rw [decide_eq_false e]
   refine kat_no ?_
   cases hb : (true && i == 0) with
   | true=>exact oneLt_str q
   | false=>exact kat_one _ _ (PySem.P.lt_str q)
 | .i _ :: _,.s _ :: _,_,_,_,_,_,h,_,_=>by simp [aQ] at h
 | .s _ :: _,.i _ :: _,_,_,_,_,_,h,_,_=>by simp [aQ] at h
theorem fX {α β : Type} {F : α->β->Prop} : ∀ {l₁ : List α} {l₂ : List β},Paired F l₁ l₂->l₁.length = l₂.length
 | _,_,.nil=>rfl
 | _,_,.cons _ t=>by simp [fX t]
theorem CC {Q : Bool->Shared->Prop} {xs ys : List At} {x y : Value} {b : Bool} (hx : dD s.heap xs x) (hy : dD s.heap ys y) (h : aQ xs ys = some b) (q : Q b s) : wpAny (model prog w) A (keyLt' (tuples' true) x y) Q E s:=by
 obtain ⟨a,o,its,n,rfl,ho,_,hd,r⟩:=hx
 obtain ⟨a',o',its',n',rfl,ho',_,hd',r'⟩:=hy
 refine kat_lt ho hd ho' hd' (lV xs ys _ _ 0 r r' h ?_ q)
 rw [← Array.length_toList,← Array.length_toList,fX r,fX r']
theorem kG {h : Heap} : ∀ {ks : List (List At)} {vs : List Value},Paired (dD h) ks vs->(∀ k ∈ ks,k ≠ [])->∃ fs,KatTups h vs fs/\fs.length = ks.length/\∀ v ∈ fs,∃ k r,(k :: r) ∈ ks/\atV k v
 | _,_,.nil,_=>⟨[],trivial,rfl,by simp⟩
 | k :: ks,_,.cons x t,hne=>by
  obtain ⟨fs,h1,h2,h3⟩:=kG t fun z hz=>hne z (mZ _ hz)
  obtain ⟨a,o,its,n,rfl,ho,hc,hd,r⟩:=x
  cases r' : its.toList with
  | nil =>
   rw [r'] at r
   cases r
   exact absurd rfl (hne [] (mX ..))
  | cons v vs =>
   rw [r'] at r
   obtain ⟨p,r1⟩ : ∃ p,its[0]? = some v:=⟨(),by rw [← Array.getElem?_toList,r']; rfl⟩
   cases r with
   | cons q qs =>
    rename_i k0 kr
    refine ⟨v :: fs,KatTups.cons ho hc hd r1 h1,by simp [h2],fun u hu=>?_⟩
    rcases List.mem_cons.mp hu with rfl | hu
    ·exact ⟨k0,kr,mX ..,q⟩
    ·obtain ⟨k1,r1,m1,m2⟩:=h3 u hu
     exact ⟨k1,r1,mZ _ m1,m2⟩
theorem rW {ks : List (List At)} {vs : List Value} {Q : SortKind->Shared->Prop} (hp : Paired (dD s.heap) ks vs) (hf : bQ ks = true) (hn : 0 < ks.length) (q : Q (tuples' true) s) : wpAny (model prog w) A (keyKind' vs.toArray) Q E s:=by
 have hne : ∀ k ∈ ks,k ≠ []:=fun k hk z=>by
  subst z
  unfold bQ at hf
  rw [Bool.or_eq_true] at hf
  rcases hf with hf | hf
  ·have:=List.all_eq_true.mp hf [] hk; simp at this
  ·have:=List.all_eq_true.mp hf [] hk; simp at this
 obtain ⟨fs,h1,h2,h3⟩:=kG hp hne
 unfold bQ at hf
 rw [Bool.or_eq_true] at hf
 rcases hf with hf | hf
 ·refine kat_kind (T:=.type "int") h1 (by omega) (fun v hv=>?_) (by decide) q
  obtain ⟨k,r,m,z⟩:=h3 v hv
  have:=List.all_eq_true.mp hf _ m
  cases k with
  | i n=>obtain ⟨t,rfl⟩:=z; exact .now
  | s z'=>simp at this
 ·refine kat_kind (T:=.type "str") h1 (by omega) (fun v hv=>?_) (by decide) q
  obtain ⟨k,r,m,z⟩:=h3 v hv
  have:=List.all_eq_true.mp hf _ m
  cases k with
  | s z'=>obtain ⟨t,rfl⟩:=z; exact .now
  | i n=>simp at this
end
section
variable {prog : Program} {w : World} {A : Around} {E : Value->Shared->Prop} {s : Shared}
theorem iK {α β : Type} {F : α->β->Prop} (d : α) (e : β) : ∀ {l₁ : List α} {l₂ : List β},Paired F l₁ l₂->∀ {i : Nat},i < l₁.length->F (l₁.getD i d) (l₂.getD i e)
 | _,_,.cons r t,0,_=>r
 | _,_,.cons r t,i + 1,h=>by
  simp only [List.getD_cons_succ]
  exact iK d e t (by simpa using h)
 | _,_,.nil,i,h=>by simp at h
def rkK (ks : List (List At)) (i : Nat) : Int:=jn (ks.map bu) (bu (ks.getD i []))
theorem vA {ks : List (List At)} {vs : List Value} (hc : cu ks = true) (hp : Paired (dD s.heap) ks vs) : ∀ (i j : Nat) (C : Bool->Shared->Prop) (s1 : Shared),i < ks.length->j < ks.length->s1 = s->(∀ s',s' = s->C (ltR (rkK ks) i j) s')->kas_ask prog w A (tuples' true) vs i j C s1:=by
 intro i j C s1 hi hj e hC
 subst e
 unfold kas_ask
 have mi : ks.getD i [] ∈ ks:=by rw [List.getD_eq_getElem?_getD,List.getElem?_eq_getElem hi]; exact List.getElem_mem hi
 have mj : ks.getD j [] ∈ ks:=by rw [List.getD_eq_getElem?_getD,List.getElem?_eq_getElem hj]; exact List.getElem_mem hj
 refine CC (iK [] Value.none hp hi) (iK [] Value.none hp hj) (dP hc mi mj) ?_
 have:=hC s1 rfl
 unfold ltR rkK at this
 rw [yw (List.mem_map.mpr ⟨_,mi,rfl⟩)] at this
 exact this
theorem wO {a : Addr} {vs : List Value} {ks : List (List At)} {n : Nat} {P : PySem.Fin->Shared->Prop} (ho : s.heap.get? a = some (seqObj "list" vs.toArray n)) (hk : Paired (dD s.heap) ks vs) (hc : cu ks = true) (hf : bQ ks = true) (h64 : vs.length < 64)
  (h : ∀ p : Array Nat,Arr vs.length p->Up (rkK ks) p vs.length->P (.done (.ret .none)) { s with heap:=sortedHeap s.heap a vs (List.toArray (p.toList.map fun i=>vs.getD i Value.none)) }) :
  wpAny (model prog w) A (Builtin.«list.sort» ⟨[.ref a],[]⟩) P E s:=by
 have ha:=Heap.lt_size ho
 have hlen : ks.length = vs.length:=fX hk
 obtain ⟨e1,ho1⟩ : ∃ e1,(s.heap.update a (Obj.mapSeq fun _=>#[])).get? a = some (seqObj "list" #[] e1):=⟨_,get?_update_seq ho (fun _=>#[])⟩
 let h6 : Heap:=((s.heap.update a (Obj.mapSeq fun _=>#[])).push (seqObj "tuple" vs.toArray 0)).push (seqObj "list" #[] 0)
 have old : ∀ b u,b ≠ a->s.heap.get? b = some u->h6.get? b = some u:=fun b u hb q =>
  Heap.get?_push_of_some _ (Heap.get?_push_of_some _ ((Heap.get?_update_ne _ _ _ _ hb).trans q))
 have ho6 : h6.get? a = some (seqObj "list" #[] e1):=Heap.get?_push_of_some _ (Heap.get?_push_of_some _ ho1)
 have hk6 : Paired (dD h6) ks vs:=L2.Paired.mapP hk fun k v x=>x.keep fun b u hcl q=>old b u (fun z=>by
  subst z; rw [ho] at q; cases q; injection hcl with z; exact absurd z (by decide)) q
 rw [list_sort_plain]
 refine wX (listItems_at ho rfl (wX (listUpdate_at ho rfl (wX (seqEpoch_at ho1 rfl (wX (wpAny_newTuple (wX (wpAny_newList (wpAny_holding ?_))) (by show vs.length<=sizeLine; rw [sizeLine_eq]; omega))))))))
 show wpAny (model prog w) A _ P E { s with heap:=h6 }
 dsimp only
 have ends : ∀ (st : SortSt) (p : Array Nat),arrOf st = p.map (kas_item (vs.toArray.zip vs.toArray))->failedOf st = none->Arr vs.length p->Up (rkK ks) p vs.length ->
   wpAny (model prog w) A (do
    let touched:=(← seqEpoch a) != e1
    Builtin.List.listUpdate (.ref a) fun _=>(arrOf st).map (·.2)
    if let some e:=failedOf st then rule "list.sort.comparison-raised"; throw e
    if touched then rule "list.sort.modified"; raiseError "ValueError" "list modified during sort"
    ret .none) P E { s with heap:=h6 }:=fun st p ea ef ap up=>by
  have eo : (arrOf st).map (·.2) = List.toArray (p.toList.map fun i=>vs.getD i Value.none):=kat_snds rfl ea
  refine wX (seqEpoch_at ho6 rfl ?_)
  refine wX (listUpdate_at ho6 rfl ?_ (hsz2:=by rw [eo]; simp only [List.size_toArray,List.length_map,Array.length_toList,ap.size,sizeLine_eq]; omega))
  rw [ef]
  simp only [bne_self_eq_false,Bool.false_eq_true,if_false]
  rw [eo]
  exact wY (h p ap up)
 by_cases h2 : vs.toArray.size < 2
 ·rw [if_pos h2,if_pos h2]
  refine wX (wY ?_)
  rw [StateT.run_pure]
  refine wX (wY ?_)
  have hsm : vs.length < 2:=by simpa using h2
  refine ends _ (List.toArray (List.range vs.length)) ?_ rfl ⟨by simp,by simp⟩ ?_
  ·show vs.toArray.zip vs.toArray = _
   have:=kas_range (vs.toArray.zip vs.toArray)
   rw [show (vs.toArray.zip vs.toArray).size = vs.length by simp] at this
   exact this.symm
  ·intro i j hij hj
   have : i = j:=by omega
   subst this; exact Int.le_refl _
 ·rw [if_neg h2,if_neg h2]
  have h2' : 2<=vs.length:=by simp at h2; omega
  refine wX (rW (s:={ s with heap:=h6 }) hk6 hf (by omega) ?_)
  obtain ⟨p,r1,r2,r3⟩:=rV (n:=vs.length) (rk:=rkK ks) (by omega)
  refine wX (wpAny_mono (kat_run (E:=E) (ks:=vs) (vs:=vs) (κ:=tuples' true) (s:={ s with heap:=h6 }) (Q:=fun st' s'=>s' = { s with heap:=h6 }/\arrOf st' = p.map (kas_item (vs.toArray.zip vs.toArray))/\failedOf st' = none)
   (G:=fun p' s'=>p' = p/\s' = { s with heap:=h6 }) rfl h2' h64 (fun p' st' s' _ e2 e3 e4=>by
    obtain ⟨rfl,rfl⟩:=e4
    exact ⟨rfl,e2,e3⟩) (Run.wp (fun s'=>s' = { s with heap:=h6 }) (fun i j C s1 hi hj e hC=>vA (s:={ s with heap:=h6 }) hc hk6 i j C s1 (by omega) (by omega) e hC) r1 rfl fun s' e=>⟨rfl,e⟩)) (fun r s' hr=>?_) fun _ _ z=>z)
  obtain ⟨⟨⟩,st'⟩:=r
  obtain ⟨rfl,e2,e3⟩:=hr
  exact ends st' p e2 e3 r2 r3
theorem rX {l : Addr} {vs : List Value} {ks : List (List At)} {Q : Value->Shared->Prop} (hl : s.heap.IsList l vs.toArray) (hk : Paired (dD s.heap) ks vs) (hc : cu ks = true) (hf : bQ ks = true) (h64 : vs.length < 64)
  (h : ∀ p : Array Nat,Arr vs.length p->Up (rkK ks) p vs.length->Q (.ref (s.heap.objs.size + 1)) { s with heap:=sortedAll s.heap vs (List.toArray (p.toList.map fun i=>vs.getD i Value.none)) }) :
  wpAny (model prog w) A (call (.builtin "sorted") [.ref l]) Q E s:=by
 let h1 : Heap:=(s.heap.push (seqObj "list" #[] 0)).update s.heap.objs.size (Obj.mapSeq (· ++ vs.toArray))
 have hsz : h1.objs.size = s.heap.objs.size + 1:=by show (Heap.update _ _ _).objs.size = _; rw [Heap.size_update,size_push']
 let h2 : Heap:=h1.push (seqObj "list" vs.toArray 0)
 have hoL : h2.get? (s.heap.objs.size + 1) = some (seqObj "list" vs.toArray 0):=by rw [← hsz]; exact Heap.get?_push_size _ rfl
 have hk2 : Paired (dD h2) ks vs:=L2.Paired.mapP hk fun k v x=>x.keep fun b u _ q =>
  Heap.get?_push_of_some _ ((Heap.get?_update_ne _ _ _ _ (Nat.ne_of_lt (Heap.lt_size q))).trans (Heap.get?_push_of_some _ q))
 refine Calls.call_function_entry kind_sorted plain_sorted entry_sorted (args_sorted1 _) ?_
 unfold Builtin.«sorted»
 refine wX (m:=checkCount "sorted" 1 1 _) (wY (wX (collect_list hl (wX (wpAny_newList ?_)))))
 show wpAny _ _ _ _ _ { s with heap:=h2 }
 rw [show ((s.heap.push (seqObj "list" #[] 0)).update s.heap.objs.size (Obj.mapSeq (· ++ vs.toArray))).objs.size = s.heap.objs.size + 1 from hsz]
 exact wX (wpAny_holding (wpAny_call_entry slot_list_sort ⟨_,hoL,rfl⟩ entry_list_sort (wO hoL hk2 hc hf h64 fun p ap up=>⟨_,rfl,wY ⟨_,rfl,h p ap up⟩⟩) (args_list_sort _)))
end
end DL
namespace DL
open PySem PySem.Spec PySem.W PyProof.Rows L2
def o7 : D->Option At
 | .int n=>some (.i n)
 | .str z=>some (.s z)
 | _=>none
def cF : List D->Option (List At)
 | []=>some []
 | d :: ds=>(o7 d).bind fun a=>(cF ds).map (a :: ·)
def g8 : D->Option (List At)
 | .tup es=>cF es
 | _=>none
def bR : List D->Option (List (List At))
 | []=>some []
 | d :: ds=>(g8 d).bind fun a=>(bR ds).map (a :: ·)
def wP (d : D) : List Int:=bu ((g8 d).getD [])
def lW : List D->Option (List Int)
 | []=>some []
 | .int n :: ds=>(lW ds).map (n :: ·)
 | _ :: _=>none
def yx (ns : List Int) : List Int:=d9 (fun n=>[n]) ns
def eN : List D->Option (D × Bool)
 | [.lst ds]=>match d7 ds with
  | some ss=>if ss.length < 64 then some (.lst ((g7 ss).map .str),true) else none
  | none=>match lW ds with
   | some ns=>if ns.length < 64 then some (.lst ((yx ns).map .int),true) else none
   | none=>match bR ds with
    | some ks=>if ks.length < 64/\cu ks = true/\bQ ks = true then some (.lst (d9 wP ds),true) else none
    | none=>none
 | _=>none
theorem wQ {d e : D} {a : At} (h : o7 d = some a) (k : o7 e = some a) : d = e:=by
 cases d <;> simp only [o7] at h <;> cases h <;> cases e <;> simp only [o7] at k <;> cases k <;> rfl
theorem lX : ∀ {ds es : List D} {as : List At},cF ds = some as->cF es = some as->ds = es
 | [],[],_,_,_=>rfl
 | [],e :: es,as,h,k=>by
  simp only [cF] at h k
  cases h
  obtain ⟨a,_,k⟩:=oX k
  obtain ⟨r,_,k⟩:=oY k
  cases k
 | d :: ds,[],as,h,k=>by
  simp only [cF] at h k
  cases k
  obtain ⟨a,_,h⟩:=oX h
  obtain ⟨r,_,h⟩:=oY h
  cases h
 | d :: ds,e :: es,as,h,k=>by
  simp only [cF] at h k
  obtain ⟨a,h1,h⟩:=oX h
  obtain ⟨r,h2,h⟩:=oY h
  obtain ⟨a',k1,k⟩:=oX k
  obtain ⟨r',k2,k⟩:=oY k
  subst h
  injection k with z1 z2
  subst z1; subst z2
  rw [wQ h1 k1,lX h2 k2]
theorem rY {d e : D} {k : List At} (h : g8 d = some k) (h' : g8 e = some k) : d = e:=by
 cases d <;> simp only [g8] at h <;> try (cases h; done)
 cases e <;> simp only [g8] at h' <;> try (cases h'; done)
 rw [lX h h']
theorem bD : ∀ {ds : List D} {ks : List (List At)},bR ds = some ks->ks.length = ds.length
 | [],_,h=>by simp only [bR] at h; cases h; rfl
 | d :: ds,_,h=>by
  simp only [bR] at h
  obtain ⟨a,h1,h⟩:=oX h
  obtain ⟨r,h2,h⟩:=oY h
  subst h
  simp [bD h2]
theorem cP : ∀ {ds : List D} {ks : List (List At)},bR ds = some ks->∀ {i : Nat},i < ds.length->g8 (ds.getD i .non) = some (ks.getD i [])
 | [],_,h,i,hi=>by simp at hi
 | d :: ds,_,h,0,hi=>by
  simp only [bR] at h
  obtain ⟨a,h1,h⟩:=oX h
  obtain ⟨r,h2,h⟩:=oY h
  subst h
  exact h1
 | d :: ds,_,h,i + 1,hi=>by
  simp only [bR] at h
  obtain ⟨a,h1,h⟩:=oX h
  obtain ⟨r,h2,h⟩:=oY h
  subst h
  simp only [List.getD_cons_succ]
  exact cP h2 (by simpa using hi)
theorem lY {α : Type} (l : List α) (d : α) : (List.range l.length).map (fun i=>l.getD i d) = l:=by
 apply List.ext_getElem?
 intro i
 by_cases h : i < l.length
 ·simp [h]
 ·simp [h]
theorem uj {ds : List D} {ks : List (List At)} {p : Array Nat} (hk : bR ds = some ks) (hc : cu ks = true) (ap : Arr ds.length p) (up : Up (rkK ks) p ds.length) : p.toList.map (fun i=>ds.getD i .non) = d9 wP ds:=by
 have mem : ∀ x ∈ ds,∃ k ∈ ks,g8 x = some k:=fun x hx=>by
  obtain ⟨i,hi,rfl⟩:=List.mem_iff_getElem.mp hx
  have:=cP hk hi
  rw [List.getD_eq_getElem?_getD,List.getElem?_eq_getElem hi] at this
  refine ⟨_, ?_,this⟩
  have hi' : i < ks.length:=by rw [bD hk]; exact hi
  rw [List.getD_eq_getElem?_getD,List.getElem?_eq_getElem hi']
  exact List.getElem_mem hi'
 apply dZ wP
 ·intro x hx y hy e
  obtain ⟨k,mk,ek⟩:=mem x hx
  obtain ⟨k',mk',ek'⟩:=mem y hy
  unfold wP at e
  rw [ek,ek'] at e
  have:=gV hc mk mk' e
  subst this
  exact rY ek ek'
 ·have:=ap.perm.map (fun i=>ds.getD i .non)
  rw [lY] at this
  exact this
 ·rw [List.pairwise_iff_getElem]
  intro i j hi hj hij
  have hsz:=ap.size
  have hi' : i < p.size:=by simpa using hi
  have hj' : j < p.size:=by simpa using hj
  have:=up i j (Nat.le_of_lt hij) (by omega)
  unfold bx rkK at this
  have gi : p.getD i 0 = p[i]:=by rw [Array.getD_eq_getD_getElem?,Array.getElem?_eq_getElem hi']; rfl
  have gj : p.getD j 0 = p[j]:=by rw [Array.getD_eq_getD_getElem?,Array.getElem?_eq_getElem hj']; rfl
  have li:=ap.lt (k:=i) (by omega)
  have lj:=ap.lt (k:=j) (by omega)
  have mj : ks.getD (p.getD j 0) [] ∈ ks:=by
   have h' : p.getD j 0 < ks.length:=by rw [bD hk]; exact lj
   rw [List.getD_eq_getElem?_getD,List.getElem?_eq_getElem h']; exact List.getElem_mem h'
  have nl : ¬ bu (ks.getD (p.getD j 0) []) < bu (ks.getD (p.getD i 0) []):=fun z=>by
   have:=pU (cs:=ks.map bu) (List.mem_map.mpr ⟨_,mj,rfl⟩) z
   omega
  simp only [List.getElem_map,Array.getElem_toList]
  unfold leF wP
  rw [← gi,← gj,cP hk li,cP hk lj]
  exact nl
section
variable {X : Cx}
theorem rZ {K : PySem.W.Frag} {B : Hp} : ∀ {vs : List V} {es : List D} {k : List At} {its : List Value},aK vs its->IsL K B vs es->cF es = some k->Paired atV k its
 | _,_,_,_,.nil,.nil,h=>by simp only [cF] at h; cases h; exact .nil
 | _,_,_,_,.cons r rr,.cons i ii,h=>by
  simp only [cF] at h
  obtain ⟨a,h1,h⟩:=oX h
  obtain ⟨t,h2,h⟩:=oY h
  subst h
  refine .cons ?_ (rZ rr ii h2)
  cases i <;> simp only [o7] at h1 <;> cases h1
  ·exact r
  ·exact r
theorem lu {pins : List (Addr × Obj)} {σ : St} {H : Hp} {s : Shared} (I : Inv X pins σ H s) : ∀ {ys : List V} {ds : List D} {ks : List (List At)} {its : List Value},aK ys its->IsL X.K H ys ds->bR ds = some ks->Paired (dD s.heap) ks its
 | _,_,_,_,.nil,.nil,h=>by simp only [bR] at h; cases h; exact .nil
 | _,_,_,_,.cons r rr,.cons i ii,h=>by
  simp only [bR] at h
  obtain ⟨a,h1,h⟩:=oX h
  obtain ⟨t,h2,h⟩:=oY h
  subst h
  refine .cons ?_ (lu I rr ii h2)
  cases i <;> simp only [g8] at h1 <;> try (cases h1; done)
  rename_i hq hl
  cases r
  obtain ⟨its',r',⟨o,ho,hc,n,hd⟩,_⟩:=I.tuple hq
  exact ⟨_,o,_,n,rfl,ho,hc,hd,by simpa using rZ r' hl h1⟩
theorem vB {K : PySem.W.Frag} {B : Hp} : ∀ {vs : List V} {ds : List D},IsL K B vs ds->∀ {i : Nat},i < ds.length->Is K B (vs.getD i .non) (ds.getD i .non)
 | _,_,.cons h _,0,_=>h
 | _,_,.cons _ t,i + 1,hi=>by
  simp only [List.getD_cons_succ]
  exact vB t (by simpa using hi)
 | _,_,.nil,i,hi=>by simp at hi
theorem sd : ∀ {vs : List V} {us : List Value},aK vs us->∀ {i : Nat},i < vs.length->aN (vs.getD i .non) (us.getD i Value.none)
 | _,_,.cons h _,0,_=>h
 | _,_,.cons _ t,i + 1,hi=>by
  simp only [List.getD_cons_succ]
  exact sd t (by simpa using hi)
 | _,_,.nil,i,hi=>by simp at hi
theorem lZ {K : PySem.W.Frag} {B : Hp} {vs : List V} {ds : List D} (h : IsL K B vs ds) : ∀ (l : List Nat),(∀ i ∈ l,i < ds.length)->IsL K B (l.map fun i=>vs.getD i .non) (l.map fun i=>ds.getD i .non)
 | [],_=>.nil
 | i :: l,hl=>.cons (vB h (hl i (mX ..))) (lZ h l fun j hj=>hl j (mZ _ hj))
theorem jS {vs : List V} {us : List Value} (h : aK vs us) : ∀ (l : List Nat),(∀ i ∈ l,i < vs.length)->aK (l.map fun i=>vs.getD i .non) (l.map fun i=>us.getD i Value.none)
 | [],_=>.nil
 | i :: l,hl=>.cons (sd h (hl i (mX ..))) (jS h l fun j hj=>hl j (mZ _ hj))
end
section
variable {X : Cx}
theorem vC {K : PySem.W.Frag} {B : Hp} : ∀ {vs : List V} {ds : List D} {ns : List Int} {its : List Value},aK vs its->IsL K B vs ds->lW ds = some ns->IntsAre its ns
 | _,_,_,_,.nil,.nil,h=>by simp only [lW] at h; cases h; exact .nil
 | _,_,_,_,.cons r rr,.cons i ii,h=>by
  cases i <;> simp only [lW] at h <;> try (cases h; done)
  obtain ⟨t,h2,h⟩:=oY h
  subst h
  obtain ⟨u,rfl⟩:=r
  exact .cons _ u (vC rr ii h2)
theorem o8 : ∀ {its : List Value} {zs : List Str},StrsAre its zs->aK (zs.map V.str) its
 | _,_,.nil=>.nil
 | _,_,.cons x t r=>.cons ⟨t,rfl⟩ (o8 r)
theorem fz : ∀ {its : List Value} {zs : List Int},IntsAre its zs->aK (zs.map V.int) its
 | _,_,.nil=>.nil
 | _,_,.cons x t r=>.cons ⟨t,rfl⟩ (fz r)
theorem se {K : PySem.W.Frag} {N : Hp} : ∀ (zs : List Int),IsL K N (zs.map V.int) (zs.map D.int)
 | []=>.nil
 | z :: zs=>.cons (.int z) (se zs)
theorem yy {l l' : List Int} (p : l'.Perm l) (h : l'.Pairwise (·<=·)) : l' = yx l:=by
 refine dZ _ (fun x _ y _ e=>by injection e) p (h.imp fun {a b} hab=>?_)
 unfold leF
 intro z
 rw [List.cons_lt_cons_iff] at z
 rcases z with z | ⟨_,z⟩
 ·omega
 ·exact List.lt_irrefl _ z
theorem iL {pins : List (Addr × Obj)} {σ : St} {H B : Hp} {s : Shared} {Q : VK} {its : List Value} {out : Array Value} {ys : List V} {ds : List D} (I : Inv X pins σ H s) (sB : aE B H) (q : Fin X.K B H (.lst ds) true Q) (hv : aK ys out.toList) (hl : IsL X.K B ys ds) (hz : ys.length<=sizeLine) :
  EP X pins σ Q (.ref (s.heap.objs.size + 1)) { s with heap:=sortedAll s.heap its out }:=by
 obtain ⟨e,he⟩:=sortedAll_at s.heap its out
 have hp : H (s.heap.objs.size + 1) = none:=I.hok.fresh (Nat.le_succ _)
 have xt:=Ext.laid (o:=.lst ys) sB hp
 exact ⟨.ref _,_,I.laid (t':=s.toks) (fun b o=>sortedAll_old) (Nat.le_succ _) (show b9 X.prog X.w _ _ _ (.lst ys) from ⟨hz,out.toList,e,hv,he⟩),rfl,
  q _ _ _ xt (.lst (SqL.of ax) (hl.mono xt.bn)) fun _=>⟨_,_,_,rfl,rfl,hp,ax,hl.mono xt.bn⟩⟩
theorem yz : bW X (.builtin "sorted") (rDA X.K eN):=by
 intro pins s σ H xs us Q I r h
 obtain ⟨B,dl,d,bb,sB,i,ee,q⟩:=h
 cases i with
 | nil=>simp [eN] at ee
 | cons i1 i2 =>
  cases i2 with
  | cons _ _=>cases i1 <;> simp [eN] at ee
  | nil =>
   cases i1 <;> try (simp [eN] at ee; done)
   rename_i l0 vs ds h hl
   obtain ⟨u,rfl,rx⟩:=gm r
   cases rx
   obtain ⟨its,r',pl,hz⟩:=I.list (sB.seq h)
   have hvl : vs.length = its.length:=r'.length
   have hdl : ds.length = vs.length:=hl.length.symm
   simp only [eN] at ee
   split at ee
   ·rename_i ss es
    split at ee
    ·rename_i h64
     cases ee
     have hst:=jj r' hl es
     have hsl : its.length = ss.length:=by rw [← hst.strs,List.length_map]
     refine sorted_strs pl.isList (by simpa using hst) (by omega) fun out ss' a1 a2 a3=>?_
     have e:=o4 a2 a3
     subst e
     exact iL I sB q (o8 a1) (jl _) (by rw [List.length_map,(cb ss).length_eq,sizeLine_eq]; omega)
    ·cases ee
   ·split at ee
    ·rename_i ns es
     split at ee
     ·rename_i h64
      cases ee
      have hst:=vC r' hl es
      have hsl : its.length = ns.length:=IntsAre.length hst
      refine sorted_ints pl.isList (by simpa using hst) (by omega) fun out ss' a1 a2 a3=>?_
      have e:=yy a2 a3
      subst e
      exact iL I sB q (fz a1) (se _) (by rw [List.length_map]; unfold yx; rw [(bc _ ns).length_eq,sizeLine_eq]; omega)
     ·cases ee
    ·split at ee
     ·rename_i ks es
      split at ee
      ·rename_i hh
       obtain ⟨h64,hc,hf⟩:=hh
       cases ee
       have hkl:=bD es
       have hst:=lu I r' (hl.mono sB) es
       refine rX pl.isList (by simpa using hst) hc hf (by omega) fun p ap up=>?_
       have hpl : its.length = ds.length:=by omega
       rw [hpl] at ap up
       have e:=uj es hc ap up
       have hin : ∀ i ∈ p.toList,i < ds.length:=fun i hi=>List.mem_range.mp (ap.perm.mem_iff.mp hi)
       have il:=lZ hl p.toList hin
       rw [e] at il
       refine iL I sB q (ys:=p.toList.map fun i=>vs.getD i .non) ?_ il ?_
       ·simpa using jS r' p.toList fun i hi=>by rw [← hdl]; exact hin i hi
       ·rw [List.length_map,Array.length_toList,ap.size,sizeLine_eq]; omega
      ·cases ee
     ·cases ee
end
end DL
namespace DL
open PySem PySem.Spec PyProof.Rows L2
section
variable {X : Cx} {pos : Pos}
@[simp] def Fm (i : Nat) (f : FE) : FS:=fun ρ=>match ρ[i]? with
 | some (some (.lst ds,true))=>(f ρ).bind fun x=>(lW ds).bind fun ns=>match x.1 with
  | .int n=>if ns.findIdx (· == n) < ns.length then some (.nx (ρ.set i (some (.lst ((ns.eraseIdx (ns.findIdx (· == n))).map .int),true)))) else none
  | _=>none
 | _=>none
end
section
variable {prog : Program} {w : World} {A : Around} {E : Value->Shared->Prop} {s : Shared}
theorem ul {a : Addr} {o : Obj} {its : Array Value} {n : Nat} {x : Value} {e : Value->Bool} {j : Nat} {P : PySem.Fin->Shared->Prop} (ho : s.heap.get? a = some o) (hd : o.data = .seq its n)
  (he : ∀ y ∈ its,MeetsSeq.EqGives y x (e y)) (hj : j < its.size) (hit : e its[j] = true) (hno : ∀ m (hm : m < its.size),m < j->e its[m] = false)
  (h : P (.done (.ret (.int j s.toks))) { s with toks:=s.toks + 1 }) : wpAny (model prog w) A (Builtin.«tuple.index» ⟨[.ref a,x],[]⟩) P E s:=by
 show wpAny _ _ (Builtin.Tuple.tupleItemsOf (.ref a) >>= _) _ _ s
 refine wX (wpAny_tupleItemsOf ho hd ?_)
 dsimp only
 refine wX (wY (wX (wY (wX ?_))))
 rw [Std.Legacy.Range.forIn_eq_forIn_range']
 refine wpAny_forIn_list _
  (fun ay r s'=>r.1 = none/\s' = s/\∃ i,i<=j/\ay = List.range' i (its.size - i))
  _ ?_ ?_ _ _ ⟨rfl,rfl,0,Nat.zero_le _, ?_⟩
 ·rintro k ay r s' ⟨hr,rfl,i,hi,hz⟩
  have hlt : i < its.size:=by omega
  obtain ⟨m,hm⟩ : ∃ m,its.size - i = m + 1:=⟨its.size - i - 1,by omega⟩
  rw [hm,List.range'_succ] at hz
  injection hz with z1 z2
  have z1:=z1.symm
  subst z1
  subst z2
  have hg : its[i]? = some its[i]:=by simp [hlt]
  simp only [hg]
  refine wX (he _ (Array.getElem_mem hlt) prog w _ _ _ _ ?_)
  by_cases hij : i = j
  ·subst hij
   rw [hit]
   simp only [if_true]
   refine wX ?_
   show wpAny _ _ (mkInt (i : Int) >>= fun v=>ret v) _ _ _
   exact wX (wpAny_mkInt (wY (wY (wY h))))
  ·rw [hno i hlt (by omega)]
   simp only [Bool.false_eq_true,if_false]
   exact wY ⟨rfl,rfl,i + 1,by omega,by rw [show its.size - (i + 1) = m by omega]⟩
 ·rintro ⟨r1,r2⟩ s' ⟨hr,rfl,i,hi,hz⟩
  exfalso
  have : (List.range' i (its.size - i)).length = 0:=by rw [← hz]; rfl
  rw [List.length_range'] at this
  omega
 ·simp
end
theorem CRows.findT {K : PySem.W.Frag} {P : Params} (y : Str) {ds : List D} : ∀ {es : List DictEntry} {kvs : List (Str × D)},CRows K P es kvs->kvs.lookup y = some (.tup ds) ->
  ∃ e a its n osl,es.find? (fun e=>Value.isStrOf y e.key) = some e/\e.val = .ref a/\K.lookup a = some ⟨.type "tuple",none,.seq its n,osl⟩/\fU its.toList ds = true
 | _,_,.nil,h=>by simp at h
 | _,_,.tup (x:=x) (t:=t) (a:=a) (ds:=ds') hh l f tl,h=>by
  by_cases e : y = x
  ·subst e
   rw [List.lookup_cons_self] at h
   cases h
   rw [Bool.and_eq_true] at f
   exact ⟨_,a,_,_,_,List.find?_cons_of_pos (by simp [Value.isStrOf]),rfl,l,f.2⟩
  ·rw [List.lookup_cons,beq_eq_false_iff_ne.mpr e] at h
   have nf : Value.isStrOf y (Value.str x t) = false:=by
    rw [Bool.eq_false_iff]
    intro z
    obtain ⟨t',q⟩:=Value.isStrOf_shape z
    injection q with q1
    exact e q1.symm
   simp only [List.find?_cons,nf]
   exact tl.findT y h
 | _,_,.flat (x:=x) (t:=t) (u:=u) (d:=d) hh f tl,h=>by
  by_cases e : y = x
  ·subst e
   rw [List.lookup_cons_self] at h
   cases h
   cases u <;> simp [pJ] at f
  ·rw [List.lookup_cons,beq_eq_false_iff_ne.mpr e] at h
   have nf : Value.isStrOf y (Value.str x t) = false:=by
    rw [Bool.eq_false_iff]
    intro z
    obtain ⟨t',q⟩:=Value.isStrOf_shape z
    injection q with q1
    exact e q1.symm
   simp only [List.find?_cons,nf]
   exact tl.findT y h
section
variable {X : Cx} {b e : Expr} {pos : Pos} {x : Str} {p : Pos}
def EI (K : PySem.W.Frag) : V->List V->Hp->VK->Prop:=fun x xs H Q=>∃ (a : Addr) (o : Obj) (its : Array Value) (n : Nat) (zs : List Str) (y : Str),x = .ref a/\xs = [.str y]/\K.lookup a = some o/\o.cls = .type "tuple"/\o.data = .seq its n/\StrsAre its.toList zs/\zs.findIdx (· == y) < zs.length/\Q (.int (zs.findIdx (· == y) : Nat)) H
def Bv (y : Str) : Value->Bool
 | .str z _=>z == y
 | _=>false
theorem vD : ∀ {its : List Value} {zs : List Str},StrsAre its zs->∀ (i : Nat) (hi : i < its.length),∃ (h : i < zs.length) (t : Tok),its[i] = .str zs[i] t
 | _,_,.cons z t h,0,_=>⟨by simp,t,rfl⟩
 | _,_,.cons z t h,i + 1,hi=>by
  obtain ⟨h',t',e⟩:=vD h i (by simpa using hi)
  exact ⟨by simpa using h',t',by simpa using e⟩
 | _,_,.nil,i,hi=>by simp at hi
theorem sf : ∀ {its : List Value} {zs : List Str},StrsAre its zs->its.length = zs.length
 | _,_,.nil=>rfl
 | _,_,.cons _ _ h=>by rw [List.length_cons,List.length_cons,sf h]
theorem y0 : MtR X "tuple.index" (EI X.K):=by
 intro pins s σ H x xs v us Q I rx rv h
 obtain ⟨a,o,its,n,zs,y,rfl,rfl,lk,hc,hd,hz,hk,q⟩:=h
 cases rx
 obtain ⟨u,rfl,⟨t,rfl⟩⟩:=rv.one
 have ho:=I.kIn a o lk
 have hl:=sf hz
 rw [Array.length_toList] at hl
 have at' : ∀ (i : Nat) (hi : i < its.size),∃ (h : i < zs.length) (t : Tok),its[i] = .str zs[i] t:=fun i hi=>by
  obtain ⟨h',t',e⟩:=vD hz i (by simpa using hi)
  exact ⟨h',t',by simpa using e⟩
 refine wpAny_call_entry PySem.F.slot_tuple_index ⟨o,ho,hc⟩ PySem.F.entry_tuple_index (ul (e:=Bv y) (j:=zs.findIdx (· == y)) ho hd (fun z hm=>?_) (by omega) ?_ (fun m hm hlt=>?_) ⟨_,rfl,.int (zs.findIdx (· == y) : Nat),H,I.tok _,⟨_,rfl⟩,q⟩) (PySem.F.args_tuple_index_2 _ _)
 ·obtain ⟨i,hi,rfl⟩:=Array.mem_iff_getElem.mp hm
  obtain ⟨_,t',e'⟩:=at' i hi
  rw [e']
  exact eqGives_str _ _ _ _
 ·obtain ⟨_,t',e'⟩:=at' (zs.findIdx (· == y)) (by omega)
  rw [e']
  exact List.findIdx_getElem (p:=(· == y)) (w:=hk)
 ·obtain ⟨_,t',e'⟩:=at' m hm
  rw [e']
  have:=List.not_of_lt_findIdx (p:=(· == y)) (xs:=zs) hlt
  simpa [Bv] using this
@[simp] def nF (kvs : List (Str × D)) : D->D->Option (D × Bool)
 | .str y,.str z=>match kvs.lookup y with
  | some (.tup ds)=>(d7 ds).bind fun zs=>if zs.findIdx (· == z) < zs.length then some (.int (zs.findIdx (· == z) : Nat),false) else none
  | _=>none
 | _,_=>none
theorem Ap {kvs : List (Str × D)} {f g : FE} {apos cpos : Pos} (h : ∃ d,X.mg x = some (.ref d)/\oj X.K X.w.params d kvs) (hb : JE X b f) (he : JE X e g) (hg : Gl X x:=by rfl) (hdb : (x == ("__debug__" : Str)) = false:=by decide) (hs : px b:=by intro _ _; rfl)
  (hbase : attributeBase (.Subscript (.Name x p) b pos) "index" X.env (eval (.Subscript (.Name x p) b pos) X.env) = eval (.Subscript (.Name x p) b pos) X.env:=by rfl)
  (hfew : ((backTo cpos (starEach [e] X.env)).all (fun x=>!x.1) && (backToKw cpos (keywordEach [] X.env)).all (fun x=>x.1.isSome)
   && decide ([e].length + ([] : List Keyword).length + (if ([] : List Keyword).isEmpty then 0 else 1) < 30)) = true:=by rfl)
  (hline : (apos.endLine == cpos.line) = true:=by rfl) (hst : starEach [e] X.env = [(false,eval e X.env)]:=by rfl) :
  JE X (.Call (.Attribute (.Subscript (.Name x p) b pos) "index" apos) [e] [] cpos) (f2 (nF kvs) f g):=by
 obtain ⟨d,hm,cd⟩:=h
 have ix : IxR X (fun x y H Q=>∃ z ds,x = .ref d/\y = .str z/\kvs.lookup z = some (.tup ds)/\∀ a its n osl,X.K.lookup a = some ⟨.type "tuple",none,.seq its n,osl⟩->fU its.toList ds = true->Q (.ref a) H):=by
  intro value slice pins s σ H x y v u Q I rx ry q hs
  obtain ⟨z,ds,rfl,rfl,el,q⟩:=q
  cases rx
  obtain ⟨t,rfl⟩:=ry
  obtain ⟨es,n,l,r,sm⟩:=cd
  have hM:=PySem.W.mapOf_K (prog:=X.prog) (w:=X.w) I.kIn l r.lit
  obtain ⟨en,a,its,n',osl,e1,e2,e3,e4⟩:=r.findT z el
  have ff : findBy Value.isStrOf es z = some (.ref a):=by
   unfold findBy
   obtain ⟨es⟩:=es
   rw [List.find?_toArray,e1,← e2]
   rfl
  exact tail_any hM.typeIs slot_dict_getitem.lookup (wpAny_getItem_of (strKind_is X.prog X.w z t) hM ff ⟨.ref a,H,I.tok _,rfl,q a _ _ _ e3 e4⟩) hs
 refine PE.to (AQ (T:="tuple") PySem.F.plainAttrs_tuple PySem.F.slot_tuple_index PySem.F.type_tuple_index y0 (AO ix (uR (v:=.ref d) hg hm rfl hdb) hb hs) (eG he gn hst) hbase hfew hline hst rfl) fun σ H Q q=>?_
 obtain ⟨B,ρ,d',bb,sB,r,ee,q⟩:=q
 obtain ⟨x1,ex,ee⟩:=oX ee
 obtain ⟨y1,ey,ee⟩:=oX ee
 obtain ⟨xd,xb⟩:=x1
 obtain ⟨yd,yb⟩:=y1
 cases xd with
 | str z =>
  cases yd with
  | str y =>
   refine ⟨B,ρ,_,xb,sB,r,ex,fun v H1 N1 xt i1 _=>?_⟩
   cases i1
   simp only [nF] at ee
   split at ee
   ·rename_i ds el
    obtain ⟨zs,ez,ee⟩:=oX ee
    split at ee
    ·rename_i hk
     cases ee
     refine ⟨z,ds,rfl,rfl,el,fun a its n osl l fl=>⟨.inr (.inl ⟨rfl,_,l,rfl,rfl⟩),N1,ρ,_,yb,xt.nh,r.mono xt.bn,ey,fun v2 H2 N2 xt2 i2 _=>?_⟩⟩
     cases i2
     obtain ⟨vs,rv,iv⟩:=fV (K:=X.K) fl
     exact ⟨a,_,its,n,zs,y,rfl,rfl,l,rfl,rfl,jj rv (iv N2) ez,hk,(q.into (xt.trans xt2)).one xt2.nh (.int _)⟩
    ·cases ee
   ·cases ee
  | _=>simp [nF] at ee
 | _=>simp [nF] at ee
end
open PySem.W (tabIn tabObj CodeHd kla_fn kla_obj kla_eval kla_makeFunction kla_makeFunctionHit kla_callFunE kla_codeExpr envX)
def DZ (K : PySem.W.Frag) (c P : Addr) : Prop:=∃ o vs file tf flags tg inF text tt,K.lookup c = some o/\o.cls = .type "code"/\o.data = .fields vs/\vs[11]? = some (.ref P)/\vs.getD 11 .none = .ref P/\vs.getD 18 .none = .str file tf /\
 vs.getD 7 .none = .int flags tg/\vs.getD 9 .none = .bool inF/\vs.getD 10 .none = .int text tt/\c ≠ P
def pW (K : PySem.W.Frag) (x : Str) : Prop:=∃ c P,tabIn K x = some (c,P)/\DZ K c P
def y4 (H : Hp) (f : Addr) (q : Str) (params : Arguments) (body : Expr) (scope : Scope) (cl : List (Str × Addr)) : Prop :=
 ∃ pm c ctv u oc u' vs t,H f = some (.frz (kla_obj "<lambda>" q params body scope cl pm c ctv) u)/\H c = some (.frz oc u')/\oc.data = .fields vs/\vs[1]? = some (.str q t)
theorem y4.mono {H H' : Hp} {f : Addr} {q : Str} {params : Arguments} {body : Expr} {scope : Scope} {cl : List (Str × Addr)} (h : y4 H f q params body scope cl) (e : aE H H') : y4 H' f q params body scope cl :=
 let ⟨pm,c,ctv,u,oc,u',vs,t,h1,h2,h3,h4⟩:=h; ⟨pm,c,ctv,u,oc,u',vs,t,e _ _ h1,e _ _ h2,h3,h4⟩
theorem lam_mk {K : PySem.W.Frag} {x : Str} {f c P : Addr} {oc : Value} {od od' : Option Addr} {osl osl' : Array (Option Value)} {fd : FuncData} {vs : Array Value} {file : Str} {tf tg tt : Tok} {flags text : Int} {inF : Bool} (e1 : PySem.W.nsIn K mainGlobals x = some (some (.ref f))) (e2 : K.lookup f = some ⟨oc,od,.func fd,osl⟩)
  (e3 : fd.code = .ref c) (e4 : K.lookup c = some ⟨.type "code",od',.fields vs,osl'⟩) (e5 : vs[11]? = some (.ref P)) (e6 : vs.getD 11 .none = .ref P) (e7 : vs.getD 18 .none = .str file tf) (e8 : vs.getD 7 .none = .int flags tg) (e9 : vs.getD 9 .none = .bool inF) (e10 : vs.getD 10 .none = .int text tt) (e11 : (c == P) = false) : pW K x :=
 ⟨c,P,tab_yes e1 e2 e3 e4 e5,_,vs,file,tf,flags,tg,inF,text,tt,e4,rfl,rfl,e5,e6,e7,e8,e9,e10,fun z=>by rw [z] at e11; simp at e11⟩
theorem um {pos : Pos} {a b : Int} {c cv : Value} (l : List Value) (h : TriplesOk l) (e : codeAmong pos (l ++ [rawInt a,rawInt b,c]) = some cv) : codeAmong pos l = some cv ∨ cv = c:=by
 fun_induction TriplesOk l with
 | case1 =>
  simp only [List.nil_append,rawInt,codeAmong] at e
  split at e
  ·cases e; exact .inr rfl
  ·cases e
 | case2 a' t b' u x ay ih =>
  simp only [List.cons_append,codeAmong] at e ⊢
  split at e
  ·rename_i hc; rw [if_pos hc]; exact .inl e
  ·rename_i hc; rw [if_neg hc]; exact ih h e
 | case3 l h1 h2=>exact h.elim
section
variable {X : Cx} {pins : List (Addr × Obj)} {σ : St} {H : Hp} {s : Shared}
theorem y6 {x : Str} {params : Arguments} {body : Expr} {scope : Scope} {pos : Pos} {cl : List (Str × Addr)} {Q : Value->Shared->Prop} {E : Value->Shared->Prop}
  (hx : x ∈ je) (L : pW X.K x) (hc : ∀ c P,tabIn X.K x = some (c,P)->X.env.code = .ref c) (hq : X.env.qual ++ "<lambda>" = lB x) (hdef : defaultsOf params X.env = ([],[])) (hcl : closureFor scope X.env = pure cl)
  (I : Inv X pins σ H s) (tb : Tb X.K H) (k : ∀ f H' s',Inv X pins σ H' s'->aE H H'->y4 H' f (lB x) params body scope cl->Q (.ref f) s') :
  wpAny (model X.prog X.w) X.A (eval (.Lambda params body scope pos) X.env) Q E s:=by
 refine kla_eval hdef ?_
 rw [hq]
 obtain ⟨c,P,ht,o,vs,file,tf,flags,tg,inF,text,tt,lk,ck⟩:=L
 have hcode:=hc c P ht
 have hP:=tb x hx c P ht
 obtain ⟨ps,e,tr,co⟩:=I.hok P _ hP
 have C : CodeHd s.heap c P:=⟨o,vs,file,tf,flags,tg,inF,text,tt,I.kIn c o lk,ck⟩
 have hg : s.heap.Ns mainGlobals X.mg:=I.mod.glob.keeps I.bk
 have nP : ∀ b,H b = none->b ≠ P:=fun b n z=>by rw [z,hP] at n; cases n
 have hgP : mainGlobals ≠ P:=by
  obtain ⟨og,_,_,eg,_⟩:=I.mod.glob
  exact nP _ (I.bs _ _ eg).2
 have hb : s.heap.BuiltinsAt X.mg P:=by
  obtain ⟨bm,ob,b1,b2,b3,b4,b5,b6⟩:=I.mod.bmain
  refine ⟨bm,ob,b1,b2,fun z=>?_,nP _ (I.bs _ _ b3).2,I.bk _ _ b3,b4,b5,b6⟩
  obtain ⟨og,es,ep,eg,dg,_⟩:=I.mod.glob
  rw [z,eg] at b3; cases b3
  rw [dg] at b6; cases b6
 cases hf : codeAmong pos ps.toList with
 | some cv =>
  obtain ⟨c',oc,u,ws,t,rfl,hH,hd,hv⟩:=co pos cv hf
  refine kla_makeFunctionHit (mg:=X.mg) hcl I.ok.glob hg hcode C e tr hf hb fun ctv h' tk hk hsz=>?_
  have hn : H h'.objs.size = none:=I.hok.fresh hsz
  have sm : aE H (upd H h'.objs.size (.frz (kla_obj "<lambda>" (lB x) params body scope cl ((X.mg "__name__").getD .none) c' ctv) (.own h'.objs.size))):=fun b u q=>by rw [a9 (aG q hn)]; exact q
  refine k _ _ _ (I.laid (t':=tk) (fun b u q=>Heap.get?_push_of_some _ (hk b u q)) hsz (show b9 X.prog X.w _ _ _ (.frz _ (.own h'.objs.size)) from ⟨Heap.get?_push_size _ rfl,_,Heap.get?_push_size _ rfl⟩)) sm ?_
  exact ⟨_,c',ctv,_,oc,u,ws,t,ax,sm _ _ hH,hd,hv⟩
 | none =>
  refine kla_makeFunction (mg:=X.mg) hcl I.ok.glob hg hcode C e tr hf hgP hb fun c' ctv h' tk hx' hge hlt hrec htb=>?_
  obtain ⟨c2,oc,ws,t,e2,hoc,hd,hv⟩:=hrec
  cases e2
  have hnc : H c' = none:=I.hok.fresh hge
  have hsz : s.heap.objs.size<=h'.objs.size:=Nat.le_trans hge (Nat.le_of_lt hlt)
  have hnf : H h'.objs.size = none:=I.hok.fresh hsz
  have ncf : c' ≠ h'.objs.size:=Nat.ne_of_lt hlt
  let fo : Obj:=kla_obj "<lambda>" (lB x) params body scope cl ((X.mg "__name__").getD .none) c' ctv
  let H1 : Hp:=upd (upd H c' (.frz oc (.own c'))) h'.objs.size (.frz fo (.own h'.objs.size))
  have sm : aE H H1:=fun b u q=>by
   show upd _ _ _ b = _
   rw [a9 (aG q hnf),a9 (aG q hnc)]; exact q
  have H1c : H1 c' = some (.frz oc (.own c')):=by show upd _ _ _ c' = _; rw [a9 ncf,ax]
  have keep : ∀ b u,b ≠ P->s.heap.get? b = some u->(h'.push fo).get? b = some u:=fun b u n q=>Heap.get?_push_of_some _ (hx' b u n q)
  have lt : ∀ b u,s.heap.get? b = some u->b ≠ c'/\b ≠ h'.objs.size:=fun b u q=>⟨Nat.ne_of_lt (Nat.lt_of_lt_of_le (Heap.lt_size q) hge),Nat.ne_of_lt (Nat.lt_of_lt_of_le (Heap.lt_size q) hsz)⟩
  have htb' : (h'.push fo).get? P = some (tabObj (ps ++ #[rawInt pos.line,rawInt pos.col,.ref c'])):=Heap.get?_push_of_some _ htb
  refine k _ H1 _ (I.un (t':=tk) (h':=h'.push fo) ⟨fun b u q n _ _=>keep b u (nP b n) q,fun b u q n _ _=>⟨u.slots,keep b u (nP b n) q⟩,fun b u q n _=>?_,fun b u q _=>?_,fun b xs q=>sm _ _ q,fun b ob u q=>sm _ _ q,fun b u q=>sm _ _ q⟩ fun b u q=>?_) sm ⟨_,c',ctv,_,oc,_,ws,t,ax,H1c,hd,hv⟩
  ·show upd _ _ _ b = _
   rw [a9 (lt b u q).2,a9 (lt b u q).1]; exact n
  ·by_cases z : b = P
   ·subst z; exact ⟨_,htb'⟩
   ·exact ⟨u,keep b u z q⟩
  ·by_cases z1 : b = h'.objs.size
   ·subst z1
    have q' : some (HO.frz fo (.own h'.objs.size)) = some u:=by rw [← q]; exact ax.symm
    cases q'
    exact ⟨Heap.get?_push_size _ rfl,_,Heap.get?_push_size _ rfl⟩
   ·by_cases z2 : b = c'
    ·subst z2
     rw [H1c] at q; cases q
     exact ⟨Heap.get?_push_of_some _ hoc,_,Heap.get?_push_of_some _ hoc⟩
    ·have q' : H b = some u:=by
      have : H1 b = H b:=by show upd _ _ _ b = _; rw [a9 z1,a9 z2]
      rw [← this]; exact q
     by_cases z3 : b = P
     ·subst z3
      rw [hP] at q'; cases q'
      refine ⟨_,htb', ?_,fun pos' cv' ea=>?_⟩
      ·rw [Array.toList_append]; exact TriplesOk_snoc _ _ _ _ tr
      ·rw [Array.toList_append] at ea
       rcases um _ tr ea with ea | rfl
       ·obtain ⟨c3,oc3,u3,vs3,t3,y1,y2,y3⟩:=co pos' cv' ea
        exact ⟨c3,oc3,u3,vs3,t3,y1,sm _ _ y2,y3⟩
       ·exact ⟨c',oc,_,ws,t,rfl,H1c,hd,hv⟩
     ·refine (I.hok b u q').stay (fun d v hd' r=>keep d v ?_ r) (fun d r=>sm _ _ r) (fun d xs r=>sm _ _ r) fun d ob v r=>sm _ _ r
      rcases hd' with rfl | r
      ·exact z3
      ·intro z; rw [z,hP] at r; cases r
end
section
variable {P : Program} {w : World} {K : PySem.W.Frag} {mg : Str->Option Value} {base : Heap}
theorem Def.fnL {x : Str} {st : Stmt} {N ps : List Str} {k : Nat} {g : FS} {h : Heap} (F : Def K x st) (X : K.In h) (G : h.Ns mainGlobals mg) (S : FnScope N ps (au st))
  (hbd : ∀ (kV doc pm : Value) (an : Option Addr) (cdv ct : Value) (us : List Value),us.length = ps.length->bindArgs (PySem.W.fnOf x x (eI st) (cq st) (au st) .none kV doc pm an cdv ct) ⟨us,[]⟩ = pure (ps.zip us))
  (hb : ∀ (f : Addr) (cdv : Value) (A : Around) (outer : List PySem.Env) (s : Shared) (H : Hp) (E : XK),(∀ c P,tabIn K x = some (c,P)->cdv = .ref c)->Room k (A.deeper (envOfC x (au st) s.heap.objs.size f cdv))->JSs (l8 CX0 P w K mg base N x (au st) f cdv A outer s H E).nox (cq st) g) :
  Fn P w K mg base (k + 1) x (aT g ps.length (N.length - ps.length)):=by
 obtain ⟨f,fd,F1,a⟩:=F
 have F2:=F1
 obtain ⟨oc,od,kV,doc,pm,an,cdv,ct,osl,rfl,lk,hcd⟩:=F2.ex
 have hc : ∀ c P,tabIn K x = some (c,P)->cdv = .ref c:=fun c P e=>by
  unfold tabIn at e
  simp only [a,lk] at e
  split at e
  ·rename_i c' _
   split at e
   ·split at e
    ·cases e; rfl
    ·cases e
   ·cases e
  ·cases e
 have len : ∀ vs H Q E,spD K (aT g ps.length (N.length - ps.length)) vs H Q E->vs.length = ps.length:=fun vs H Q E h=>by
  obtain ⟨B,ds,d,b,sB,i,e,q⟩:=h
  unfold aT at e
  split at e
  ·rename_i hl; rw [i.length]; exact hl
  ·cases e
 refine ⟨f,_,ps,AN lk hcd S len fun A outer s H vs Q E hr h=>⟨_,PSs.nox (hb f cdv A outer s H E hc hr), ?_⟩,PySem.W.mg_of X G a,F1.kp,F1.binds hbd⟩
 have hlen:=len vs H Q E h
 obtain ⟨B,ds,d,b,sB,i,e,q⟩:=h
 unfold aT at e
 rw [if_pos (by rw [← i.length]; exact hlen)] at e
 have s0:=qW (N:=N) sB.1 sB.2 i
 rw [hlen] at s0
 split at e
 ·rename_i d' b' eg
  cases e
  exact ⟨B,H,_,_,⟨B,s0⟩,eg,fun v H' N' x' i' f'=>q v H' N' x' i' f'⟩
 ·rename_i ρ' eg
  cases e
  exact ⟨B,H,_,_,⟨B,s0⟩,eg,fun σ' H' ⟨N',s'⟩=>q .non H' N' s'.ext .non (by simp)⟩
 ·cases e
end
inductive LCaps (X : Cx) (N' : List Str) (scope : Scope) (cl : List (Str × Addr)) : Nat->List Nat->Prop where
 | nil {j : Nat} (h : N'.length = j) : LCaps X N' scope cl j []
 | cons {j i : Nat} {r : List Nat} {x : Str} (h1 : N'[j]? = some x) (h2 : X.N[i]? = some x) (h3 : X.env.kindOf x = some .cell ∨ X.env.kindOf x = some .free)
   (h4 : scope.names.lookup x = some .free) (h5 : cl.lookup x = X.env.cells.lookup x) (t : LCaps X N' scope cl (j + 1) r) : LCaps X N' scope cl j (i :: r)
theorem LCaps.len {X : Cx} {N' : List Str} {scope : Scope} {cl : List (Str × Addr)} : ∀ {j : Nat} {cap : List Nat},LCaps X N' scope cl j cap->N'.length = j + cap.length
 | _,_,.nil h=>by rw [h]; rfl
 | j,i :: r,.cons _ _ _ _ _ t=>by rw [t.len,List.length_cons]; omega
theorem LCaps.get {X : Cx} {N' : List Str} {scope : Scope} {cl : List (Str × Addr)} : ∀ {j : Nat} {cap : List Nat} {k i : Nat},LCaps X N' scope cl j cap->cap[k]? = some i->∃ x,N'[j + k]? = some x/\X.N[i]? = some x/\(X.env.kindOf x = some .cell ∨ X.env.kindOf x = some .free) /\
  scope.names.lookup x = some .free/\cl.lookup x = X.env.cells.lookup x
 | _,_,_,_,.nil _,e=>by simp at e
 | j,_,0,_,.cons h1 h2 h3 h4 h5 _,e=>by simp at e; subst e; exact ⟨_,h1,h2,h3,h4,h5⟩
 | j,_,k + 1,i,.cons _ _ _ _ _ t,e=>by
  obtain ⟨x,q,r⟩:=t.get (k:=k) (i:=i) (by simpa using e)
  exact ⟨x,by rw [show j + (k + 1) = j + 1 + k by omega]; exact q,r⟩
abbrev sg (X : Cx) (N' : List Str) (scope : Scope) (cl : List (Str × Addr)) (q : Str) (A : Around) (f c : Addr) (s : Shared) (H : Hp) : Cx :=
 { X with A:=A.deeper (envX q scope s.heap.objs.size f (.ref c) cl),N:=N',s₀:=s,H₀:=H,env:=envX q scope s.heap.objs.size f (.ref c) cl,outer:=X.stack,stack:=envX q scope s.heap.objs.size f (.ref c) cl :: X.stack,ex:=[],fn:=fun _=>false,calm:=true,pn:=[],xe:=fun _ _=>False }
structure LamSc (X : Cx) (scope : Scope) (cl : List (Str × Addr)) (y : Str) : Prop where
 clos : closureFor scope X.env = pure cl
 nocell : ∀ z ∈ scope.names,z.2 ≠ .cell
 kind : scope.kind = .function
 co : scope.isCoroutine = false
 gen : scope.isGenerator = false
 par : scope.names.lookup y = some .local
 sub : ∀ x c,cl.lookup x = some c->X.env.cells.lookup x = some c
 has : ∀ x,scope.names.lookup x = some .free->∃ c,cl.lookup x = some c
theorem y7 {X : Cx} {scope : Scope} {y : Str} (h1 : ∀ z ∈ scope.names,z.2 ≠ .cell) (h2 : scope.kind = .function) (h3 : scope.isCoroutine = false) (h3' : scope.isGenerator = false) (hp : scope.names.lookup y = some .local)
  (h4' : (scope.names.all fun z=>!(z.2 == NameKind.free) || (X.env.cells.lookup z.1).isSome) = true) : LamSc X scope (eE scope.names X.env.cells []) y:=by
 have h4 : ∀ z ∈ scope.names,z.2 = .free->(X.env.cells.lookup z.1).isSome = true:=fun z hz e=>by
  have:=List.all_eq_true.mp h4' z hz
  rw [e] at this
  simpa using this
 exact ⟨nY scope.names [] h4,h1,h2,h3,h3',hp,fun x c e=>jf scope.names [] (fun y d q=>by cases q) e,fun x h=>by
  have:=jg (x:=x) scope.names [] (dm h) (h4 _ (dm h) rfl)
  exact Option.isSome_iff_exists.mp this⟩
section
variable {X : Cx} {pins : List (Addr × Obj)} {σ : St} {H : Hp} {s : Shared} {A : Around} {N' : List Str} {scope : Scope} {cl : List (Str × Addr)} {q y : Str} {cap : List Nat}
theorem Aq {f c : Addr} {v : V} {u : Value} {h₁ : Heap} {tk : Nat} (S : LamSc X scope cl y) (N0 : N'[0]? = some y) (cp : LCaps X N' scope cl 1 cap) (I : Inv X pins σ H s) (hA : A.frames = some X.stack) (hh : A.handled = none) (r : aN v u)
  (hns : h₁.Ns s.heap.objs.size (fun x=>[(y,u)].reverse.lookup x)) (hk : ∀ b o,s.heap.get? b = some o->h₁.get? b = some o) :
  Inv (sg X N' scope cl q A f c s H) [] (some v :: nA 0 cap σ) H { s with heap:=h₁,toks:=tk }:=by
 have noA : ∀ b : Addr,b ∉ (sg X N' scope cl q A f c s H).ex:=fun b z=>absurd (show b ∈ ([] : List Addr) from z) (by simp)
 refine ⟨⟨I.ok.mod,S.kind,rfl,rfl,Nat.le_refl _,fun x z d e1 e2=>I.ok.inj x z d (S.sub _ _ e1) (S.sub _ _ e2),fun x hx=>?_,(fun x d e=>by cases e),fun _=>hh,Around.frames_deeper hA,.inr ⟨rfl,rfl⟩,fun b z=>absurd z (noA b),I.bs,Nat.le_trans I.ok.bsz I.sz,fun b _ _=>noA b,fun b z=>absurd z (noA b),I.stack,I.stkFree⟩,
  rfl,I.bare,Un.kept hk,⟨_,hns,fun i x v' e1 e2 e3=>?_⟩,fun x d e=>?_,I.hok.fresh (Nat.le_refl _),fun x d e=>I.freeC x d (S.sub _ _ e),fun p hp=>absurd (show p ∈ ([] : List (Addr × Obj)) from hp) (by simp),I.hok.kept hk, ?_⟩
 ·have hx' : scope.names.lookup x = some .cell ∨ scope.names.lookup x = some .free:=hx
  rcases hx' with hx' | hx'
  ·exact absurd rfl (S.nocell _ (dm hx'))
  ·exact S.has x hx'
 ·cases i with
  | zero =>
   have e1' : N'[0]? = some x:=e1
   rw [N0] at e1'; cases e1'
   have e2' : some v = some v':=by simpa using e2
   cases e2'
   exact ⟨u,r,.inl ⟨S.par,by simp⟩⟩
  | succ k =>
   have e2' : (nA 0 cap σ)[k]? = some (some v'):=by simpa using e2
   obtain ⟨k',i',hk',g1,g2⟩:=pD e2'
   have : k = k':=by omega
   subst this
   obtain ⟨x',n1,n2,n3,n4,n5⟩:=cp.get g1
   have : x' = x:=by
    have e1' : N'[k + 1]? = some x:=e1
    rw [show 1 + k = k + 1 by omega] at n1
    rw [n1] at e1'; exact Option.some.inj e1'
   subst this
   have g2' : σ[i']? = some (some v'):=by
    cases z : σ[i']? with
    | none=>rw [z] at g2; cases g2
    | some w=>rw [z] at g2; cases w with
     | none=>cases g2
     | some w=>cases g2; rfl
   obtain ⟨m,_,hl⟩:=I.loc
   obtain ⟨u',ru,lk⟩:=hl i' x' v' n2 g2' (by
    rcases n3 with n3 | n3
    ·exact .inr (.inl n3)
    ·exact .inr (.inr n3))
   refine ⟨u',ru,.inr ⟨.inr n4, ?_⟩⟩
   rcases lk with ⟨l1,_⟩ | ⟨_,d,l2,l3⟩
   ·rcases n3 with n3 | n3 <;> (rw [l1] at n3; cases n3)
   ·obtain ⟨ob,ho,hd⟩:=l3
    exact ⟨d,by show cl.lookup x' = _; rw [n5]; exact l2,ob,hk _ _ ho,hd⟩
 ·obtain ⟨w,ob,ho,hd⟩:=I.cell x d (S.sub _ _ e)
  exact ⟨w,ob,hk _ _ ho,hd⟩
 ·have:=cp.len
  show (some v :: nA 0 cap σ).length = N'.length
  unfold nA
  rw [this]; simp; omega
theorem Ar {f : Addr} {params : Arguments} {body : Expr} {fb : FE} {B : Hp} {ρ : Env} {v : V} {u : Value} {d d' : D} {b' : Bool} {Q : VK} (S : LamSc X scope cl y) (N0 : N'[0]? = some y) (cp : LCaps X N' scope cl 1 cap) (I : Inv X pins σ H s)
  (hA : A.frames = some X.stack) (hh : A.handled = none) (hroom : A.depth < recursionLimit) (lv : y4 H f q params body scope cl)
  (hbind : ∀ pm c ctv u,bindArgs (kla_fn "<lambda>" q params body scope cl pm (.ref c) ctv) ⟨[u],[]⟩ = pure [(y,u)])
  (hb : ∀ (f c : Addr) (s : Shared) (H : Hp),JE (sg X N' scope cl q A f c s H) body fb)
  (rep : RepE X.K B σ ρ) (sB : aE B H) (r : aN v u) (i : Is X.K B v d) (e : fb (some (d,false) :: bw 0 cap ρ) = some (d',b')) (qf : Fin X.K B H d' b' Q) :
  wpAny (model X.prog X.w) A (call (.ref f) [u]) (EP X pins σ Q) (fun _ _=>False) s:=by
 obtain ⟨pm,c,ctv,uf,oc,u',ws,t,hf,hc,hd,hv⟩:=lv
 have ho:=(I.hok f _ hf).1
 have hoc:=(I.hok c _ hc).1
 refine wpAny_call (codeAny_mono (R:=fun r s'=>CR CX0 X.stack X.prog X.w H s Q (fun _ _ _=>False) r s') ?_ fun r s' hq=>?_)
 ·refine kla_callFunE hroom ho rfl S.co S.gen rfl ⟨c,oc,ws,t,rfl,hoc,hd,hv⟩ ?_
  rw [hbind]
  refine wY (wpAny_newFunctionEnv S.nocell (fun z hz=>by rw [List.mem_singleton.mp hz]; exact S.par) (fun h₁ hns hsb=>⟨I.nolimit.fresh _ hsb, ?_⟩) S.kind)
  have hk₁ : ∀ b o,s.heap.get? b = some o->h₁.get? b = some o:=fun b o e=>hsb.extBut b o (Nat.ne_of_lt (Heap.lt_size e)) (Heap.get?_push_of_some _ e)
  have J:=Aq (f:=f) (c:=c) (q:=q) (tk:=s.toks + 1) S N0 cp I hA hh r hns hk₁
  refine kla_codeExpr (wpAny_mono (hb f c s H [] _ _ H Q J ⟨B,_,d',b',sB,⟨rep.tb,fun j e0 b0 z=>?_⟩,e,qf⟩) (fun w s' hw=>?_) fun _ _ z=>z.elim)
  ·cases j with
   | zero=>
    have z' : some (d,false) = some (e0,b0):=by simpa using z
    cases z'
    exact ⟨v,rfl,i⟩
   | succ j =>
    obtain ⟨w,h1,h2⟩:=(rep.caps (nT:=0) (cap:=cap)).at' j e0 b0 (by simpa using z)
    exact ⟨w,by simpa using h1,h2⟩
  ·obtain ⟨v',H',J',rv,qv⟩:=hw
   exact ⟨v',H',J'.os,J'.bare,J'.base,J'.hok,rv,qv⟩
 ·cases r with
  | error e=>exact False.elim hq
  | ok fl =>
   cases fl with
   | ret w=>exact I.after hq
   | next=>exact False.elim hq
   | brk=>exact False.elim hq
   | cont=>exact False.elim hq
end
end DL
namespace DL
open PySem PySem.Spec PySem.W PyProof.Rows L2
section
variable {X : Cx} {pins : List (Addr × Obj)} {σ : St} {H : Hp} {s : Shared} {h' : Heap} {t' : Nat}
theorem gW {p : Addr} {o : Obj} (I : Inv X ((p,o) :: pins) σ H s) : ∀ x c,X.env.cells.lookup x = some c->c ≠ p:=fun x c e z=>by
 have pf:=I.pin (p,o) (mY _ mX)
 obtain ⟨v,ob,ho,hd⟩:=I.cell x c e
 rw [z,pf.1] at ho; cases ho
 exact pf.2.2.2.2 v hd
theorem eu {p : Addr × Obj} (I : Inv X (p :: pins) σ H s) : Inv X pins σ H s:=I.pins_of fun q hq=>I.pin q (mY _ (mZ _ hq))
theorem bS {p : Addr} {o o' : Obj} (I : Inv X ((p,o) :: pins) σ H s) (h0 : X.s₀.heap.objs.size<=p) (hp : ∀ q ∈ X.pn ++ pins,q.1 ≠ p) (k : ∀ b u,b ≠ p->s.heap.get? b = some u->h'.get? b = some u) (e' : h'.get? p = some o') (nc : ∀ v,o'.data ≠ .cell v) :
  Inv X ((p,o') :: pins) σ H { s with heap:=h',toks:=t' }:=by
 have pf:=I.pin (p,o) (mY _ mX)
 have J:=(eu I).turned (t':=t') k pf.2.1 pf.2.2.1 (.inr h0) (gW I) hp
 refine J.pins_of fun q hq=>?_
 rcases List.mem_cons.mp hq with rfl | hq
 ·exact ⟨e',pf.2.1,pf.2.2.1,pf.2.2.2.1,nc⟩
 ·exact J.pin q (mY _ hq)
theorem gX {p : Addr} {o : Obj} (I : Inv X pins σ H s) (k : ∀ b u,s.heap.get? b = some u->h'.get? b = some u) (hs : s.heap.objs.size<=p) (e' : h'.get? p = some o) (nc : ∀ v,o.data ≠ .cell v) : Inv X ((p,o) :: pins) σ H { s with heap:=h',toks:=t' }:=by
 have J:=I.kept (t':=t') k
 refine J.pins_of fun q hq=>?_
 rcases List.mem_cons.mp hq with rfl | hq
 ·exact ⟨e',I.hok.fresh hs,Nat.ne_of_gt (Nat.lt_of_lt_of_le I.lt hs),I.nofs hs,nc⟩
 ·exact J.pin q (mY _ hq)
theorem As {p : Addr} {o : Obj} {ob : HO} (I : Inv X ((p,o) :: pins) σ H s) (h0 : X.s₀.heap.objs.size<=p) (hp : ∀ q ∈ X.pn ++ pins,q.1 ≠ p) (k : ∀ b u,b ≠ p->s.heap.get? b = some u->h'.get? b = some u) (eo : ∃ u,h'.get? p = some u)
  (new : b9 X.prog X.w (upd H p ob) h' p ob) : Inv X pins σ (upd H p ob) { s with heap:=h',toks:=t' }:=by
 have pf:=I.pin (p,o) (mY _ mX)
 have hn:=pf.2.1
 have hn : H p = none:=hn
 have cs:=gW I
 refine (eu I).step (g':=s.gens) (d':=s.drawn) (ch:=[p]) (fun b hb=>?_) (fun b u _ _ hc e _=>k b u (fun z=>hc (by simp [z])) e) (fun b u _ _ hc e _=>⟨u.slots,k b u (fun z=>hc (by simp [z])) e⟩) (fun b u hc _ n=>by rw [a9 (fun z=>hc (by simp [z]))]; exact n)
  (fun b u hc e=>⟨u,k b u (fun z=>hc (by simp [z])) e⟩) (fun b xs e=>by rw [a9 (aG e hn)]; exact e) (fun b u w e=>by rw [a9 (aG e hn)]; exact e) (fun b q e=>by rw [a9 (aG e hn)]; exact e) (fun m hm=>?_) (fun b u e=>?_) I.bare
 ·have z : b = p:=by simpa using hb
  subst z
  exact ⟨.inr h0,pf.2.2.1,cs,hp⟩
 ·obtain ⟨ol,es,ep,ho,r⟩:=hm
  exact ⟨ol,es,ep,k _ ol (fun z=>pf.2.2.1 z.symm) ho,r⟩
 ·by_cases z : b = p
  ·subst z; rw [ax] at e; cases e; exact new
  ·rw [a9 z] at e
   refine (I.hok b u e).stay (fun c v hc q=>k c v ?_ q) (fun c q=>?_) (fun c xs q=>?_) fun c w xs q=>?_
   ·rcases hc with rfl | hc
    ·exact z
    ·exact aG hc hn
   ·rw [a9 (aG q hn)]; exact q
   ·rw [a9 (aG q hn)]; exact q
   ·rw [a9 (aG q hn)]; exact q
end
def vE (X : Cx) (A : Around) (σ : St) (qv : Value) (B H1 : Hp) (kf : D->Option D) : Prop :=
 ∀ (pins : List (Addr × Obj)) (s : Shared) (H N : Hp) (v : V) (u : Value) (d d' : D),Inv X pins σ H s->aE H1 H->aE B N->aE N H->Is X.K N v d->aN v u->kf d = some d' ->
  wpAny (model X.prog X.w) A (call qv [u]) (EP X pins σ fun v' H'=>∃ N',Ext N N' H H'/\Is X.K N' v' d') (fun _ _=>False) s
def JK (X : Cx) (A : Around) (e : Expr) (kf : Env->D->Option D) : Prop:=∀ (pins : List (Addr × Obj)) (s : Shared) (σ : St) (H B : Hp) (ρ : Env) (Q : Value->Shared->Prop) (E : Value->Shared->Prop),Inv X pins σ H s->aE B H->RepE X.K B σ ρ ->
 (∀ qa H1 s1,Inv X pins σ H1 s1->aE H H1->vE X A σ (.ref qa) B H1 (kf ρ)->Q (.ref qa) s1)->wpAny (model X.prog X.w) X.A (eval e X.env) Q E s
section
variable {X : Cx} {A : Around}
@[simp] def si (cap : List Nat) (fb : FE) : Env->D->Option D:=fun ρ d=>(fb (some (d,false) :: bw 0 cap ρ)).map (·.1)
theorem uo {x y : Str} {params : Arguments} {body : Expr} {scope : Scope} {pos : Pos} {N' : List Str} {cap : List Nat} {fb : FE} (hx : x ∈ je) (L : pW X.K x) (hc : ∀ c P,tabIn X.K x = some (c,P)->X.env.code = .ref c) (hq : X.env.qual ++ "<lambda>" = lB x)
  (hdef : defaultsOf params X.env = ([],[])) (S : LamSc X scope (eE scope.names X.env.cells []) y) (N0 : N'[0]? = some y) (cp : LCaps X N' scope (eE scope.names X.env.cells []) 1 cap) {k : Nat} (hA : A.frames = X.A.frames) (hr : Room (k + 1) A)
  (hbind : ∀ pm c ctv u,bindArgs (kla_fn "<lambda>" (lB x) params body scope (eE scope.names X.env.cells []) pm (.ref c) ctv) ⟨[u],[]⟩ = pure [(y,u)])
  (hb : ∀ (f c : Addr) (s : Shared) (H : Hp),Room k (sg X N' scope (eE scope.names X.env.cells []) (lB x) A f c s H).A->JE (sg X N' scope (eE scope.names X.env.cells []) (lB x) A f c s H) body fb) : JK X A (.Lambda params body scope pos) (si cap fb):=by
 intro pins s σ H B ρ Q E I sB rep kk
 refine y6 hx L hc hq hdef S.clos I (rep.tb.mono sB) fun f H1 s1 I1 sm lv=>kk f H1 s1 I1 sm ?_
 intro pins' s' H' N v u d d' I' m1 m2 m3 iv r e
 simp only [si] at e
 obtain ⟨⟨d2,b2⟩,e1,e2⟩:=oY e
 cases e2
 exact Ar S N0 cp I' (hA.trans I'.ok.frames) hr.hd hr.depth (lv.mono m1) hbind (fun f c s H=>hb f c s H (hr.deeper _)) (rep.mono m2) m3 r iv e1 fun v' H2 N2 x2 i2 _=>⟨N2,x2,i2⟩
@[simp] def nG (g : List D->Option (D × Bool)) : Env->D->Option D:=fun _ d=>(g [d]).map (·.1)
theorem vF {k : Nat} {x : Str} {g : List D->Option (D × Bool)} {p : Pos} (F : Fn X.prog X.w X.K X.mg X.base k x g) (hr : Room k A) (hA : A.frames = X.A.frames) (hg : Gl X x:=by rfl) (hdb : (x == ("__debug__" : Str)) = false:=by decide) : JK X A (.Name x p) (nG g):=by
 intro pins s σ H B ρ Q E I sB rep kk
 obtain ⟨ad,fd,ps,F1,hm,hk,hb⟩:=F.ex
 refine pr I hg hm ?_ hdb
 refine kk ad H s I (.refl H) ?_
 intro pins' s' H' N v u d d' I' m1 m2 m3 iv r e
 simp only [nG] at e
 obtain ⟨⟨d2,b2⟩,e1,e2⟩:=oY e
 cases e2
 have sp : spD X.K g [v] H' (fun v' H2=>∃ N',Ext N N' H' H2/\Is X.K N' v' d2) (fun _ _ _=>False):=⟨N,[d],d2,b2,⟨m3,rep.tb.mono m2⟩,.cons iv .nil,e1,fun v' H2 N2 x2 i2 _=>⟨N2,x2,i2⟩⟩
 have hl : [u].length = ps.length:=by have:=F1.len _ _ _ _ sp; simpa using this
 have e0:=I'.env0
 have bb:=hb s' [u] I'.kIn (by simpa using hl)
 rw [List.append_nil] at bb
 refine wpAny_call (codeAny_mono (F1.run A X.stack s' H' ⟨[u],[]⟩ [u] [v] _ (fun _ _ _=>False) hr ⟨hA.trans e0.frames,e0.mod,e0.bs,e0.bsz,e0.funs,e0.frf,e0.hok,e0.bare⟩ bb (.cons r .nil) sp) fun r s' hq=>?_)
 cases r with
 | error e=>exact False.elim hq
 | ok fl =>
  cases fl with
  | ret w=>exact I'.after hq
  | next=>exact False.elim hq
  | brk=>exact False.elim hq
  | cont=>exact False.elim hq
end
def fG (f : D->Option D) : List D->Option (List D)
 | []=>some []
 | d :: ds=>(f d).bind fun x=>(fG f ds).map (x :: ·)
theorem c7 {f : D->Option D} : ∀ {ds ks : List D},fG f ds = some ks->ks.length = ds.length
 | [],_,h=>by simp only [fG] at h; cases h; rfl
 | d :: ds,_,h=>by
  simp only [fG] at h
  obtain ⟨a,h1,h⟩:=oX h
  obtain ⟨r,h2,h⟩:=oY h
  subst h
  simp [c7 h2]
theorem fH {f : D->Option D} : ∀ {ds ks : List D},fG f ds = some ks->∀ {i : Nat} {d : D},ds[i]? = some d->∃ k,ks[i]? = some k/\f d = some k
 | [],_,h,i,d,e=>by simp at e
 | d :: ds,_,h,0,e,q=>by
  simp only [fG] at h
  obtain ⟨a,h1,h⟩:=oX h
  obtain ⟨r,h2,h⟩:=oY h
  subst h
  simp at q; subst q
  exact ⟨a,by simp,h1⟩
 | d :: ds,_,h,i + 1,e,q=>by
  simp only [fG] at h
  obtain ⟨a,h1,h⟩:=oX h
  obtain ⟨r,h2,h⟩:=oY h
  subst h
  obtain ⟨k,z1,z2⟩:=fH h2 (i:=i) (d:=e) (by simpa using q)
  exact ⟨k,by simpa using z1,z2⟩
section
variable {X : Cx} {pins : List (Addr × Obj)} {σ : St} {s : Shared}
theorem o9 {x : V} {u : Value} (r : aN x u) : ∀ {vs : List V} {us : List Value},aK vs us->aK (vs ++ [x]) (us ++ [u])
 | _,_,.nil=>.cons r .nil
 | _,_,.cons h t=>.cons h (o9 r t)
theorem bo {c : Value} {od : Option Addr} {its : Array Value} {n : Nat} {sl : Array (Option Value)} : ∀ v,(Obj.mk c od (.seq its n) sl).data ≠ .cell v:=fun v z=>by cases z
theorem uq {A : Around} {E : Value->Shared->Prop} {a : Addr} {n : Nat} {qv : Value} {its : List Value} {vs : List V} {ds kds : List D} {ks : List (List At)} {B H : Hp} {kf : D->Option D} {P : PySem.Fin->Shared->Prop}
  (I : Inv X ((a,seqObj "list" its.toArray n) :: pins) σ H s) (h0 : X.s₀.heap.objs.size<=a) (hp : ∀ q ∈ X.pn ++ pins,q.1 ≠ a) (kfn : vE X A σ qv B H kf) (rv : aK vs its) (iv : IsL X.K B vs ds) (sB : aE B H)
  (em : fG kf ds = some kds) (ek : bR kds = some ks) (hc : cu ks = true) (hf : bQ ks = true) (h64 : its.length < 64)
  (h : ∀ (p : Array Nat) (s' : Shared) (H' N : Hp),Arr its.length p->Up (rkK ks) p its.length->Inv X pins σ (upd H' a (.lst (p.toList.map fun i=>vs.getD i .non))) s'->Ext B N H H'->H' a = none->P (.done (.ret .none)) s') :
  wpAny (model X.prog X.w) A (ksk_tree a qv false) P E s:=by
 have pa:=I.pin (a,seqObj "list" its.toArray n) (mY _ mX)
 have hvl : vs.length = its.length:=rv.length
 have hdl : ds.length = vs.length:=iv.length.symm
 have hkd : kds.length = ds.length:=c7 em
 have hks : ks.length = kds.length:=bD ek
 have hz : its.length<=sizeLine:=by rw [sizeLine_eq]; omega
 have hna : H a = none:=pa.2.1
 obtain ⟨e1,ho1⟩ : ∃ e1,(s.heap.update a (Obj.mapSeq fun _=>(#[] : Array Value))).get? a = some (seqObj "list" #[] e1):=⟨_,get?_update_seq pa.1 fun _=>#[]⟩
 have u1:=Heap.SameBut.update s.heap a (Obj.mapSeq fun _=>(#[] : Array Value))
 have I1 : Inv X ((a,seqObj "list" #[] e1) :: pins) σ H { s with heap:=s.heap.update a (Obj.mapSeq fun _=>(#[] : Array Value)) }:=bS (t':=s.toks) I h0 hp (fun b u n q=>(u1.2 b n).trans q) ho1 bo
 let h2 : Heap:=(s.heap.update a (Obj.mapSeq fun _=>(#[] : Array Value))).push (seqObj "tuple" its.toArray 0)
 have I2 : Inv X ((a,seqObj "list" #[] e1) :: pins) σ H { s with heap:=h2 }:=I1.kept (t':=s.toks) fun b u q=>Heap.get?_push_of_some _ q
 let kS : Addr:=h2.objs.size
 have I3 : Inv X ((kS,seqObj "list" #[] 0) :: (a,seqObj "list" #[] e1) :: pins) σ H { s with heap:=h2.push (seqObj "list" #[] 0) }:=gX (s:={ s with heap:=h2 }) (t':=s.toks) I2 (fun b u q=>Heap.get?_push_of_some _ q) (Nat.le_refl _) (Heap.get?_push_size _ rfl) bo
 have k0 : X.s₀.heap.objs.size<=kS:=I2.sz
 have kp : ∀ q ∈ X.pn ++ ((a,seqObj "list" #[] e1) :: pins),q.1 ≠ kS:=fun q hq=>Nat.ne_of_lt (Heap.lt_size (I2.pin q hq).1)
 have kna : kS ≠ a:=fun z=>kp (a,seqObj "list" #[] e1) (mY _ mX) z.symm
 unfold ksk_tree
 refine wX (listItems_at pa.1 rfl ?_)
 refine wX (listUpdate_at pa.1 rfl ?_ (by simpa using hz) (Nat.zero_le _))
 refine wX (seqEpoch_at ho1 rfl ?_)
 refine wX (wpAny_newTuple ?_ (by show its.length<=sizeLine; exact hz))
 refine wX (wpAny_newList ?_ (Nat.zero_le _))
 refine wpAny_holding ?_
 show wpAny (model X.prog X.w) A (ksk_rest a qv false its.toArray e1 (.ref kS)) P E { s with heap:=h2.push (seqObj "list" #[] 0) }
 unfold ksk_rest
 refine wX (wpAny_rule ?_)
 rw [List.forIn_toArray]
 refine wX (ksk_fold (fun i s'=>∃ (H' N : Hp) (kA : Array Value) (e : Nat) (kvs : List V),Inv X ((kS,seqObj "list" kA e) :: (a,seqObj "list" #[] e1) :: pins) σ H' s'/\Ext B N H H'/\aK kvs kA.toList/\IsL X.K N kvs (kds.take i)) its 0 _
  ⟨H,B,#[],0,[],I3,.refl sB,.nil,by simpa using IsL.nil⟩ ?step ?done)
 case step =>
  rintro j u s' hu ⟨H',N,kA,e,kvs,J,x1,rk,ik⟩
  simp only [Nat.zero_add] at ik ⊢
  have hj : j < its.length:=(List.getElem?_eq_some_iff.mp hu).1
  obtain ⟨d,hd⟩ : ∃ d,ds[j]? = some d:=⟨_,List.getElem?_eq_getElem (by omega)⟩
  obtain ⟨v,hv,iv'⟩:=iv.get hd
  obtain ⟨kd,hkj,hkf⟩:=fH em hd
  obtain ⟨u',hu',ru⟩:=rv.get hv
  rw [hu] at hu'; cases hu'
  have kl : kA.size = j:=by
   have z1:=rk.length
   have z2:=ik.length
   rw [List.length_take] at z2
   rw [Array.length_toList] at z1
   exact z1.symm.trans (z2.trans (Nat.min_eq_left (by omega)))
  refine wX (wpAny_attempt (wpAny_mono (kfn _ s' H' N v u d kd J x1.hh x1.bn x1.nh (iv'.mono x1.bn) ru hkf) (fun w s'' hw=>?_) fun _ _ hF=>hF.elim))
  obtain ⟨v',H'',J',rv',N',x2,i2⟩:=hw
  have pk:=J'.pin (kS,seqObj "list" kA e) (mY _ mX)
  obtain ⟨c2,hc2⟩ : ∃ c2,(s''.heap.update kS (Obj.mapSeq (·.push w))).get? kS = some (seqObj "list" (kA.push w) c2):=⟨_,get?_update_seq pk.1 (·.push w)⟩
  have u2:=Heap.SameBut.update s''.heap kS (Obj.mapSeq (·.push w))
  refine wX (listUpdate_at pk.1 rfl ?_ (by rw [sizeLine_eq]; omega) (Nat.le_trans (Nat.le_of_eq (Array.size_push ..)) (by rw [sizeLine_eq]; omega)))
  refine wY ⟨rfl,H'',N',kA.push w,c2,kvs ++ [v'],bS (t':=s''.toks) J' k0 kp (fun b q n z=>(u2.2 b n).trans z) hc2 bo,x1.trans x2, ?_, ?_⟩
  ·rw [Array.toList_push]; exact o9 rv' rk
  ·rw [List.take_add_one,hkj]; exact (ik.mono x2.bn).append (.cons i2 .nil)
 case done =>
  rintro s' ⟨H',N,kA,e,kvs,J,x1,rk,ik⟩
  have ik' : IsL X.K N kvs kds:=by
   have z : kds.take (0 + its.length) = kds:=List.take_of_length_le (by omega)
   rw [z] at ik; exact ik
  have pk:=J.pin (kS,seqObj "list" kA e) (mY _ mX)
  have pa':=J.pin (a,seqObj "list" #[] e1) (mY _ (mZ _ mX))
  have hn' : H' a = none:=pa'.2.1
  have kz : kA.toList.length = its.length:=by rw [← rk.length,ik'.length]; omega
  have kz' : kA.size = its.length:=by rw [← Array.length_toList]; exact kz
  refine wX (listItems_at pk.1 rfl ?_)
  have hkp : Paired (dD s'.heap) ks kA.toList:=lu J rk (ik'.mono x1.nh) ek
  -- the end of the sort,for a permutation p
  have ends : ∀ (st : SortSt) (p : Array Nat),arrOf st = p.map (kas_item (kA.toList.toArray.zip its.toArray))->failedOf st = none->Arr its.length p->Up (rkK ks) p its.length ->
    wpAny (model X.prog X.w) A (ksk_tail a false e1 (.ref kS) st) P E s':=fun st p ea ef ap up=>by
   have eo : (arrOf st).map (·.2) = List.toArray (p.toList.map fun i=>its.getD i Value.none):=kat_snds kz ea
   have hin : ∀ i ∈ p.toList,i < vs.length:=fun i hi=>by
    have:=List.mem_range.mp (ap.perm.mem_iff.mp hi)
    omega
   obtain ⟨c3,hc3⟩ : ∃ c3,(s'.heap.update kS (Obj.mapSeq fun _=>(#[] : Array Value))).get? kS = some (seqObj "list" #[] c3):=⟨_,get?_update_seq pk.1 fun _=>#[]⟩
   have u3:=Heap.SameBut.update s'.heap kS (Obj.mapSeq fun _=>(#[] : Array Value))
   have J3:=eu (bS (t':=s'.toks) J k0 kp (fun b q n z=>(u3.2 b n).trans z) hc3 bo)
   have pa3:=J3.pin (a,seqObj "list" #[] e1) (mY _ mX)
   obtain ⟨c4,hc4⟩ : ∃ c4,((s'.heap.update kS (Obj.mapSeq fun _=>(#[] : Array Value))).update a (Obj.mapSeq fun _=>(arrOf st).map (·.2))).get? a = some (seqObj "list" ((arrOf st).map (·.2)) c4):=⟨_,get?_update_seq pa3.1 fun _=>(arrOf st).map (·.2)⟩
   have u4:=Heap.SameBut.update (s'.heap.update kS (Obj.mapSeq fun _=>(#[] : Array Value))) a (Obj.mapSeq fun _=>(arrOf st).map (·.2))
   have so : ((arrOf st).map (·.2)).size = its.length:=by rw [eo]; simp only [List.size_toArray,List.length_map,Array.length_toList,ap.size]
   unfold ksk_tail
   try dsimp only
   refine wX (listUpdate_at pk.1 rfl ?_ (by rw [kz',sizeLine_eq]; omega) (Nat.zero_le _))
   refine wX (wpAny_letGo ?_)
   refine wX (seqEpoch_at pa3.1 rfl ?_)
   refine wX (listUpdate_at pa3.1 rfl ?_ (Nat.zero_le _) (by simp only [Bool.false_eq_true,if_false]; rw [so,sizeLine_eq]; omega))
   rw [ef]
   simp only [bne_self_eq_false,Bool.false_eq_true,if_false]
   refine wY (h p _ H' N ap up (As (s:={ s' with heap:=s'.heap.update kS (Obj.mapSeq fun _=>(#[] : Array Value)) }) (t':=s'.toks) J3 h0 hp (fun b q n z=>(u4.2 b n).trans z) ⟨_,hc4⟩ ?_) x1 hn')
   refine ⟨by rw [List.length_map,Array.length_toList,ap.size]; exact hz,p.toList.map fun i=>its.getD i Value.none,c4,jS rv p.toList hin, ?_⟩
   rw [← eo]; exact hc4
  unfold ksk_end
  try dsimp only
  simp only [Bool.false_eq_true,if_false]
  have ekA : kA = kA.toList.toArray:=by simp
  by_cases h2' : its.toArray.size < 2
  ·rw [if_pos h2',if_pos h2']
   refine wX (wY ?_)
   rw [StateT.run_pure]
   refine wX (wY ?_)
   have hsm : its.length < 2:=by simpa using h2'
   refine ends _ (List.toArray (List.range its.length)) ?_ rfl ⟨by simp,by simp⟩ ?_
   ·show kA.zip its.toArray = _
    have:=kas_range (kA.toList.toArray.zip its.toArray)
    rw [show (kA.toList.toArray.zip its.toArray).size = its.length by simp [kz']] at this
    rw [this]
   ·intro i j hij hj
    have : i = j:=by omega
    subst this; exact Int.le_refl _
  ·rw [if_neg h2',if_neg h2']
   have h2'' : 2<=its.length:=by simp at h2'; omega
   rw [ekA]
   refine wX (rW hkp hf (by omega) ?_)
   obtain ⟨p,r1,r2,r3⟩:=rV (n:=its.length) (rk:=rkK ks) (by omega)
   refine wX (wpAny_mono (kat_run (E:=E) (ks:=kA.toList) (vs:=its) (κ:=tuples' true) (s:=s') (Q:=fun st' s2=>s2 = s'/\arrOf st' = p.map (kas_item (kA.toList.toArray.zip its.toArray))/\failedOf st' = none)
    (G:=fun p' s2=>p' = p/\s2 = s') kz h2'' h64 (fun p' st' s2 _ e2 e3 e4=>by
     obtain ⟨rfl,rfl⟩:=e4
     exact ⟨rfl,e2,e3⟩) (Run.wp (fun s2=>s2 = s') (fun i j C s2 hi hj e hC=>vA (s:=s') hc hkp i j C s2 (by omega) (by omega) e hC) r1 rfl fun s2 e=>⟨rfl,e⟩)) (fun r s2 hr=>?_) fun _ _ z=>z)
   obtain ⟨⟨⟩,st'⟩:=r
   obtain ⟨rfl,e2,e3⟩:=hr
   exact ends st' p e2 e3 r2 r3
end
theorem sj {α β : Type} {f : α->β} : ∀ {l : List α},(l.map f).Nodup->l.Nodup
 | [],_=>List.nodup_nil
 | a :: l,h=>by
  rw [List.map_cons,List.nodup_cons] at h
  exact List.nodup_cons.mpr ⟨fun z=>h.1 (List.mem_map.mpr ⟨a,z,rfl⟩),sj h.2⟩
def g9 (ks : List (List At)) (ds : List D) : List D:=(d9 (fun p : List At × D=>bu p.1) (ks.zip ds)).map (·.2)
theorem y8 {α β : Type} (d : α) (e : β) : ∀ {l₁ : List α} {l₂ : List β},l₁.length = l₂.length->(List.range l₂.length).map (fun i=>(l₁.getD i d,l₂.getD i e)) = l₁.zip l₂:=fun {l₁ l₂} h=>by
 apply List.ext_getElem?
 intro i
 by_cases hi : i < l₂.length
 ·have hi' : i < l₁.length:=by omega
  have:=(List.getElem?_zip_eq_some (z:=(l₁[i],l₂[i]))).mpr ⟨List.getElem?_eq_getElem hi',List.getElem?_eq_getElem hi⟩
  rw [this]
  simp [hi,hi']
 ·simp [hi,h]
theorem Au {α β : Type} {l₁ : List α} {l₂ : List β} (nd : l₁.Nodup) {a : α} {b c : β} (h1 : (a,b) ∈ l₁.zip l₂) (h2 : (a,c) ∈ l₁.zip l₂) : b = c:=by
 obtain ⟨i,hi⟩:=List.mem_iff_getElem?.mp h1
 obtain ⟨j,hj⟩:=List.mem_iff_getElem?.mp h2
 obtain ⟨i1,i2⟩:=List.getElem?_zip_eq_some.mp hi
 obtain ⟨j1,j2⟩:=List.getElem?_zip_eq_some.mp hj
 obtain ⟨li,ei⟩:=List.getElem?_eq_some_iff.mp i1
 obtain ⟨lj,ej⟩:=List.getElem?_eq_some_iff.mp j1
 have : i = j:=(List.getElem_inj nd).mp (ei.trans ej.symm)
 subst this
 rw [i2] at j2; exact Option.some.inj j2
theorem ur {ds : List D} {ks : List (List At)} {p : Array Nat} (hl : ks.length = ds.length) (hc : cu ks = true) (nd : ks.Nodup) (ap : Arr ds.length p) (up : Up (rkK ks) p ds.length) : p.toList.map (fun i=>ds.getD i .non) = g9 ks ds:=by
 unfold g9
 have e : p.toList.map (fun i=>(ks.getD i [],ds.getD i .non)) = d9 (fun p : List At × D=>bu p.1) (ks.zip ds):=by
  apply dZ
  ·intro x hx y hy e
   have mx:=(List.of_mem_zip hx).1
   have my:=(List.of_mem_zip hy).1
   have:=gV hc mx my e
   obtain ⟨k1,d1⟩:=x
   obtain ⟨k2,d2⟩:=y
   have z : k1 = k2:=this
   subst z
   rw [Au nd hx hy]
  ·have:=ap.perm.map (fun i=>(ks.getD i [],ds.getD i D.non))
   rw [y8 [] D.non hl] at this
   exact this
  ·rw [List.pairwise_iff_getElem]
   intro i j hi hj hij
   have hsz:=ap.size
   have hi' : i < p.size:=by simpa using hi
   have hj' : j < p.size:=by simpa using hj
   have:=up i j (Nat.le_of_lt hij) (by omega)
   unfold bx rkK at this
   have gi : p.getD i 0 = p[i]:=by rw [Array.getD_eq_getD_getElem?,Array.getElem?_eq_getElem hi']; rfl
   have gj : p.getD j 0 = p[j]:=by rw [Array.getD_eq_getD_getElem?,Array.getElem?_eq_getElem hj']; rfl
   have lj:=ap.lt (k:=j) (by omega)
   have mj : ks.getD (p.getD j 0) [] ∈ ks:=by
    have h' : p.getD j 0 < ks.length:=by omega
    rw [List.getD_eq_getElem?_getD,List.getElem?_eq_getElem h']; exact List.getElem_mem h'
   have nl : ¬ bu (ks.getD (p.getD j 0) []) < bu (ks.getD (p.getD i 0) []):=fun z=>by
    have:=pU (cs:=ks.map bu) (List.mem_map.mpr ⟨_,mj,rfl⟩) z
    omega
   simp only [List.getElem_map,Array.getElem_toList]
   unfold leF
   rw [← gi,← gj]
   exact nl
 rw [← e,List.map_map]
 rfl
@[simp] def jT (f : FE) (kf : Env->D->Option D) : FE:=fun ρ=>(f ρ).bind fun x=>match x.1 with
 | .lst ds=>(fG (kf ρ) ds).bind fun kds=>(bR kds).bind fun ks=>if ks.length < 64/\cu ks = true/\bQ ks = true/\(ks.map bu).Nodup then some (.lst (g9 ks ds),true) else none
 | _=>none
section
variable {X : Cx} {e ke : Expr} {p pos kp : Pos}
theorem sk {f : FE} {kf : Env->D->Option D} (hm : X.mg "sorted" = none) (he : JE X e f) (hk : JK X X.A.in1.in1 ke kf) (hg : Gl X "sorted":=by rfl)
  (hes : starEach [e] X.env = [(false,eval e X.env)]:=by rfl) (heb : backTo pos (starEach [e] X.env) = (false,eval e X.env) :: backTo pos (starEach [] X.env):=by rfl) (hpl : (backTo pos (starEach [e] X.env)).any (·.1) = false:=by rfl)
  (hall : (backToKw pos (keywordEach [⟨some "key",ke,kp⟩] X.env)).all (·.1.isSome) = true:=by rfl) (hkw : (backToKw pos (keywordEach [⟨some "key",ke,kp⟩] X.env)).any (·.1.isNone) = false:=by rfl)
  (hnm : (backToKw pos (keywordEach [⟨some "key",ke,kp⟩] X.env)).filterMap (·.1) = [("key" : Str)]:=by rfl) :
  JE X (.Call (.Name "sorted" p) [e] [⟨some "key",ke,kp⟩] pos) (jT f kf):=by
 intro pins s σ H Q I h
 obtain ⟨B,ρ,d,b,sB,rep,ee,q⟩:=h
 obtain ⟨⟨xd,xb⟩,ex,ee⟩:=oX ee
 cases xd <;> try (cases ee; done)
 rename_i ds
 obtain ⟨kds,em,ee⟩:=oX ee
 obtain ⟨ks,ek,ee⟩:=oX ee
 split at ee
 ·rename_i hh
  obtain ⟨h64,hc,hf,nd⟩:=hh
  cases ee
  refine wpAny_Call_Name_kw (iB I hg hm (u:=.builtin "sorted") rfl ?_)
  refine callWith_kw (thn ((eG he gn hes) pos pins s σ H (fun vs H1=>∃ v N,vs = [v]/\Ext B N H H1/\Is X.K N v (.lst ds)) I ⟨B,ρ,_,_,sB,rep,ex,fun v H1 N x1 i1 _=>⟨v,N,rfl,x1,i1⟩⟩) fun us s1 hA=>?_) heb hpl hall hkw
  obtain ⟨vs1,H1,I1,r1,v,N,rfl,x1,i1⟩:=hA
  obtain ⟨u,rfl,ru⟩:=gm r1
  refine kws_cons (hk pins s1 σ H1 N ρ _ _ I1 x1.nh (rep.mono x1.bn) fun qa H2 s2 I2 m2 kfn=>kws_nil ?_)
  rw [hnm]
  show wpAny _ _ (call (.builtin "sorted") [u] [(("key" : Str),.ref qa)]) _ _ _
  cases i1
  rename_i l vs hq il
  cases ru
  have sN : aE N H2:=x1.nh.trans m2
  obtain ⟨its,rv,pl,hz⟩:=I2.list (sN.seq hq)
  have hvl : vs.length = its.length:=rv.length
  have hdl : ds.length = vs.length:=il.length.symm
  have hkd : kds.length = ds.length:=c7 em
  have hks : ks.length = kds.length:=bD ek
  have h64' : its.length < 64:=by omega
  refine call_function_entry_kw kind_sorted plain_sorted entry_sorted (ksk_s1 _ _) ?_
  unfold Builtin.«sorted»
  refine wX (m:=checkCount "sorted" 1 1 _) (wY (wX (collect_list pl.isList (wX (wpAny_newList ?_ (by rw [sizeLine_eq]; omega))) (by rw [sizeLine_eq]; omega))))
  let h1 : Heap:=(s2.heap.push (seqObj "list" #[] 0)).update s2.heap.objs.size (Obj.mapSeq (· ++ its.toArray))
  have hsz : h1.objs.size = s2.heap.objs.size + 1:=by show (Heap.update _ _ _).objs.size = _; rw [Heap.size_update,size_push']
  have keep1 : ∀ b o,s2.heap.get? b = some o->h1.get? b = some o:=fun b o q=>(Heap.get?_update_ne _ _ _ _ (Nat.ne_of_lt (Heap.lt_size q))).trans (Heap.get?_push_of_some _ q)
  have I3 : Inv X ((h1.objs.size,seqObj "list" its.toArray 0) :: pins) σ H2 { s2 with heap:=h1.push (seqObj "list" its.toArray 0) } :=
   gX (t':=s2.toks) I2 (fun b u q=>Heap.get?_push_of_some _ (keep1 b u q)) (by rw [hsz]; exact Nat.le_succ _) (Heap.get?_push_size _ rfl) bo
  have p3:=I3.pin (h1.objs.size,seqObj "list" its.toArray 0) (mY _ mX)
  show wpAny (model X.prog X.w) X.A.in1 (holding [.ref h1.objs.size] (call (.builtin "list.sort") [.ref h1.objs.size] [(("key" : Str),.ref qa)]) >>= _) _ _ { s2 with heap:=h1.push (seqObj "list" its.toArray 0) }
  refine wX (wpAny_holding (wpAny_call_entry_kw slot_list_sort ⟨_,p3.1,rfl⟩ entry_list_sort ?_ (ksk_l1 _ _)))
  show wpAny (model X.prog X.w) X.A.in1.in1 (Builtin.«list.sort» ⟨[.ref h1.objs.size],[(Str.ofString "key",.ref qa)]⟩) _ _ _
  rw [ksk_t1]
  refine uq I3 (Nat.le_trans I2.sz (by rw [hsz]; exact Nat.le_succ _)) (fun q hq=>by rw [hsz]; exact Nat.ne_of_lt (Nat.lt_succ_of_lt (Heap.lt_size (I2.pin q hq).1))) kfn rv il sN em ek hc hf h64' fun pm s' H' N' ap up J x3 hn=>⟨_,rfl,wY ⟨_,rfl, ?_⟩⟩
  have hpl : its.length = ds.length:=by omega
  rw [hpl] at ap up
  have er:=ur (by omega) hc (sj nd) ap up
  have hin : ∀ i ∈ pm.toList,i < ds.length:=fun i hi=>List.mem_range.mp (ap.perm.mem_iff.mp hi)
  have ip:=lZ (il.mono x3.bn) pm.toList hin
  rw [er] at ip
  have x4 : Ext B N' H H':=(x1.trans (.grow x1.nh m2)).trans x3
  have hN : N' h1.objs.size = none:=x3.nh.free hn
  have x5:=x4.trans (Ext.laid (o:=.lst (pm.toList.map fun i=>vs.getD i .non)) x3.nh hn)
  exact ⟨.ref h1.objs.size,_,J,rfl,q _ _ _ x5 (.lst (SqL.of ax) (ip.mono (Ext.laid (o:=.lst (pm.toList.map fun i=>vs.getD i .non)) x3.nh hn).bn)) fun _=>⟨_,_,_,rfl,rfl,x4.hh.free hn,ax,ip.mono (Ext.laid (o:=.lst (pm.toList.map fun i=>vs.getD i .non)) x3.nh hn).bn⟩⟩
 ·cases ee
end
section
variable {prog : Program} {w : World} {A : Around} {E : Value->Shared->Prop} {s : Shared}
theorem dD.type {xs : List At} {v : Value} (h : dD s.heap xs v) : s.TypeIs v "tuple":=by
 obtain ⟨a,o,its,n,rfl,ho,hc,_⟩:=h
 exact ⟨o,ho,hc⟩
theorem y9 {xs ys : List At} {a b : Addr} {r : Bool} {P : PySem.Fin->Shared->Prop} (hx : dD s.heap xs (.ref a)) (hy : dD s.heap ys (.ref b)) (h : aQ xs ys = some r) (q : P (.done (.ret (.bool r))) s) : wpAny (model prog w) A (Builtin.«tuple.__lt__» ⟨[.ref a,.ref b],[]⟩) P E s:=by
 have hTb:=hy.type
 obtain ⟨a',oa,its,na,ea,hoa,_,hda,ra⟩:=hx
 obtain ⟨b',ob,jts,nb,eb,hob,_,hdb,rb⟩:=hy
 cases ea
 cases eb
 show wpAny _ _ (isInstance (.ref _) (.type "tuple") >>= _) _ _ s
 refine wX (wpAny_isInstance hTb isSubtype_tuple_tuple ?_)
 simp only [Bool.not_true,Bool.false_eq_true,if_false]
 refine wX (wpAny_tupleItemsOf hoa hda ?_)
 refine wX (wpAny_tupleItemsOf hob hdb ?_)
 refine wX ?_
 refine wpAny_forIn_list _
  (fun ay z s'=>z.1 = none/\s' = s/\∃ xs' ys' its' jts' n,ay = List.zip its' jts'/\Paired atV xs' its'/\Paired atV ys' jts'/\aQ xs' ys' = some r/\its'.length + n = its.size/\jts'.length + n = jts.size)
  _ ?_ ?_ _ _ ⟨rfl,rfl,xs,ys,its.toList,jts.toList,0,rfl,ra,rb,h,by simp,by simp⟩
 ·rintro ⟨u,v⟩ ay z s' ⟨hz,rfl,xs',ys',its',jts',n,e,p1,p2,hl,n1,n2⟩
  cases p1 with
  | nil=>simp at e
  | @cons x u' xs'' its'' r1 p1' =>
   cases p2 with
   | nil=>simp at e
   | @cons y v' ys'' jts'' r2 p2' =>
    simp only [List.zip_cons_cons,List.cons.injEq,Prod.mk.injEq] at e
    obtain ⟨⟨rfl,rfl⟩,rfl⟩:=e
    cases x with
    | i i =>
     cases y with
     | s j=>simp [aQ] at hl
     | i j =>
      obtain ⟨t,rfl⟩:=r1
      obtain ⟨t',rfl⟩:=r2
      rw [aQ] at hl
      refine wX (wpAny_eqBool_int ?_)
      by_cases hk : i = j
      ·rw [if_pos hk] at hl
       rw [show (i == j) = true by simp [hk]]
       simp only [Bool.not_true,Bool.false_eq_true,if_false]
       exact wY ⟨rfl,rfl,xs'',ys'',its'',jts'',n + 1,rfl,p1',p2',hl,by rw [← n1,List.length_cons]; omega,by rw [← n2,List.length_cons]; omega⟩
      ·rw [if_neg hk] at hl
       cases hl
       rw [show (i == j) = false by simp [hk]]
       simp only [Bool.not_false,if_true]
       refine wX (wpAny_rule (wX (m:=richCompare .Lt (.int i t) (.int j t')) (wpAny_mono (show wpAny _ _ (richCompare .Lt (.int i t) (.int j t')) (fun v s''=>v = .bool (decide (i < j))/\s'' = s') E s' from PyProof.Rows.lt_int ⟨rfl,rfl⟩) (fun v s'' hv=>?_) fun _ _ z=>z)))
       obtain ⟨rfl,rfl⟩:=hv
       exact wX (wY (wY (wY q)))
    | s i =>
     cases y with
     | i j=>simp [aQ] at hl
     | s j =>
      obtain ⟨t,rfl⟩:=r1
      obtain ⟨t',rfl⟩:=r2
      rw [aQ] at hl
      refine wX (wpAny_eqBool_str ?_)
      by_cases hk : i = j
      ·rw [if_pos hk] at hl
       rw [decide_eq_true hk]
       simp only [Bool.not_true,Bool.false_eq_true,if_false]
       exact wY ⟨rfl,rfl,xs'',ys'',its'',jts'',n + 1,rfl,p1',p2',hl,by rw [← n1,List.length_cons]; omega,by rw [← n2,List.length_cons]; omega⟩
      ·rw [if_neg hk] at hl
       cases hl
       rw [decide_eq_false hk]
       simp only [Bool.not_false,if_true]
       refine wX (wpAny_rule (wX (m:=richCompare .Lt (.str i t) (.str j t')) (wpAny_mono (show wpAny _ _ (richCompare .Lt (.str i t) (.str j t')) (fun v s''=>v = .bool (decide (i.cps.toList < j.cps.toList))/\s'' = s') E s' from PySem.P.lt_str ⟨rfl,rfl⟩) (fun v s'' hv=>?_) fun _ _ z=>z)))
       obtain ⟨rfl,rfl⟩:=hv
       exact wX (wY (wY (wY q)))
 ·rintro ⟨z1,z2⟩ s' ⟨hz,rfl,xs',ys',its',jts',n,e,p1,p2,hl,n1,n2⟩
  simp only at hz
  subst hz
  refine wY ?_
  have : decide (its.size < jts.size) = r:=by
   cases p1 with
   | nil =>
    cases p2 with
    | nil=>simp [aQ] at hl; subst hl; simp at n1 n2; simp; omega
    | cons _ _=>simp [aQ] at hl; subst hl; simp at n1 n2; simp; omega
   | cons _ _ =>
    cases p2 with
    | nil=>simp [aQ] at hl; subst hl; simp at n1 n2; simp; omega
    | cons _ _=>simp at e
  show P (.done (.ret (.bool (decide (its.size < jts.size))))) s'
  rw [this]; exact q
theorem yA {xs ys : List At} {a b : Addr} {r : Bool} {P : PySem.Fin->Shared->Prop} (hx : dD s.heap xs (.ref a)) (hy : dD s.heap ys (.ref b)) (h : aQ ys xs = some r) (q : P (.done (.ret (.bool r))) s) : wpAny (model prog w) A (Builtin.«tuple.__gt__» ⟨[.ref a,.ref b],[]⟩) P E s:=by
 have hTb:=hy.type
 obtain ⟨a',oa,its,na,ea,hoa,_,hda,ra⟩:=hx
 obtain ⟨b',ob,jts,nb,eb,hob,_,hdb,rb⟩:=hy
 cases ea
 cases eb
 show wpAny _ _ (isInstance (.ref _) (.type "tuple") >>= _) _ _ s
 refine wX (wpAny_isInstance hTb isSubtype_tuple_tuple ?_)
 simp only [Bool.not_true,Bool.false_eq_true,if_false]
 refine wX (wpAny_tupleItemsOf hoa hda ?_)
 refine wX (wpAny_tupleItemsOf hob hdb ?_)
 refine wX ?_
 refine wpAny_forIn_list _
  (fun ay z s'=>z.1 = none/\s' = s/\∃ xs' ys' its' jts' n,ay = List.zip its' jts'/\Paired atV xs' its'/\Paired atV ys' jts'/\aQ ys' xs' = some r/\its'.length + n = its.size/\jts'.length + n = jts.size)
  _ ?_ ?_ _ _ ⟨rfl,rfl,xs,ys,its.toList,jts.toList,0,rfl,ra,rb,h,by simp,by simp⟩
 ·rintro ⟨u,v⟩ ay z s' ⟨hz,rfl,xs',ys',its',jts',n,e,p1,p2,hl,n1,n2⟩
  cases p1 with
  | nil=>simp at e
  | @cons x u' xs'' its'' r1 p1' =>
   cases p2 with
   | nil=>simp at e
   | @cons y v' ys'' jts'' r2 p2' =>
    simp only [List.zip_cons_cons,List.cons.injEq,Prod.mk.injEq] at e
    obtain ⟨⟨rfl,rfl⟩,rfl⟩:=e
    cases x with
    | i i =>
     cases y with
     | s j=>simp [aQ] at hl
     | i j =>
      obtain ⟨t,rfl⟩:=r1
      obtain ⟨t',rfl⟩:=r2
      rw [aQ] at hl
      refine wX (wpAny_eqBool_int ?_)
      by_cases hk : j = i
      ·rw [if_pos hk] at hl
       rw [show (i == j) = true by simp [hk]]
       simp only [Bool.not_true,Bool.false_eq_true,if_false]
       exact wY ⟨rfl,rfl,xs'',ys'',its'',jts'',n + 1,rfl,p1',p2',hl,by rw [← n1,List.length_cons]; omega,by rw [← n2,List.length_cons]; omega⟩
      ·rw [if_neg hk] at hl
       cases hl
       rw [show (i == j) = false by simp; exact fun z=>hk z.symm]
       simp only [Bool.not_false,if_true]
       refine wX (wpAny_rule (wX (m:=richCompare .Gt (.int i t) (.int j t')) (wpAny_mono (show wpAny _ _ (richCompare .Gt (.int i t) (.int j t')) (fun v s''=>v = .bool (decide (j < i))/\s'' = s') E s' from PyProof.Rows.gt_int ⟨rfl,rfl⟩) (fun v s'' hv=>?_) fun _ _ z=>z)))
       obtain ⟨rfl,rfl⟩:=hv
       exact wX (wY (wY (wY q)))
    | s i =>
     cases y with
     | i j=>simp [aQ] at hl
     | s j =>
      obtain ⟨t,rfl⟩:=r1
      obtain ⟨t',rfl⟩:=r2
      rw [aQ] at hl
      refine wX (wpAny_eqBool_str ?_)
      by_cases hk : j = i
      ·rw [if_pos hk] at hl
       rw [decide_eq_true hk.symm]
       simp only [Bool.not_true,Bool.false_eq_true,if_false]
       exact wY ⟨rfl,rfl,xs'',ys'',its'',jts'',n + 1,rfl,p1',p2',hl,by rw [← n1,List.length_cons]; omega,by rw [← n2,List.length_cons]; omega⟩
      ·rw [if_neg hk] at hl
       cases hl
       rw [decide_eq_false fun z=>hk z.symm]
       simp only [Bool.not_false,if_true]
       refine wX (wpAny_rule (wX (m:=richCompare .Gt (.str i t) (.str j t')) (wpAny_mono (show wpAny _ _ (richCompare .Gt (.str i t) (.str j t')) (fun v s''=>v = .bool (decide (j.cps.toList < i.cps.toList))/\s'' = s') E s' from PySem.P.gt_str ⟨rfl,rfl⟩) (fun v s'' hv=>?_) fun _ _ z=>z)))
       obtain ⟨rfl,rfl⟩:=hv
       exact wX (wY (wY (wY q)))
 ·rintro ⟨z1,z2⟩ s' ⟨hz,rfl,xs',ys',its',jts',n,e,p1,p2,hl,n1,n2⟩
  simp only at hz
  subst hz
  refine wY ?_
  have : decide (jts.size < its.size) = r:=by
   cases p1 with
   | nil =>
    cases p2 with
    | nil=>simp [aQ] at hl; subst hl; simp at n1 n2; simp; omega
    | cons _ _=>simp [aQ] at hl; subst hl; simp at n1 n2; simp; omega
   | cons _ _ =>
    cases p2 with
    | nil=>simp [aQ] at hl; subst hl; simp at n1 n2; simp; omega
    | cons _ _=>simp at e
  show P (.done (.ret (.bool (decide (jts.size < its.size))))) s'
  rw [this]; exact q
theorem Ea {xs ys : List At} {x y : Value} {r : Bool} {Q : Value->Shared->Prop} (hx : dD s.heap xs x) (hy : dD s.heap ys y) (h : aQ xs ys = some r) (hu : A.units < cLine) (q : Q (.bool r) s) : wpAny (model prog w) A (richCompare .Lt x y) Q E s:=by
 have tx:=hx.type
 have ty:=hy.type
 obtain ⟨a,_,_,_,rfl,_⟩:=id hx
 obtain ⟨b,_,_,_,rfl,_⟩:=id hy
 exact wpAny_richCompare_same_room (op:=.Lt) tx ty PySem.F.slot_tuple_lt (wpAny_call_entry PySem.F.slot_tuple_lt tx PySem.F.entry_tuple_lt (y9 hx hy h ⟨_,rfl,(fun e=>nomatch e),q⟩) (PySem.F.args_tuple_lt_2 _ _)) hu
theorem Eb {xs ys : List At} {x y : Value} {r : Bool} {Q : Value->Shared->Prop} (hx : dD s.heap xs x) (hy : dD s.heap ys y) (h : aQ ys xs = some r) (hu : A.units < cLine) (q : Q (.bool r) s) : wpAny (model prog w) A (richCompare .Gt x y) Q E s:=by
 have tx:=hx.type
 have ty:=hy.type
 obtain ⟨a,_,_,_,rfl,_⟩:=id hx
 obtain ⟨b,_,_,_,rfl,_⟩:=id hy
 exact wpAny_richCompare_same_room (op:=.Gt) tx ty PySem.F.slot_tuple_gt (wpAny_call_entry PySem.F.slot_tuple_gt tx PySem.F.entry_tuple_gt (yA hx hy h ⟨_,rfl,(fun e=>nomatch e),q⟩) (PySem.F.args_tuple_gt_2 _ _)) hu
end
def iz : List At × D->List (List At × D)->D
 | b,[]=>b.2
 | b,x :: r=>if aQ b.1 x.1 = some true then iz x r else iz b r
theorem pX (a v : Value) : argsOk "max" ⟨[a],[(Str.ofString "key",v)]⟩:=by unfold argsOk; kernel_rfl
section
variable {X : Cx} {pins : List (Addr × Obj)} {σ : St}
theorem lw {pins : List (Addr × Obj)} {H : Hp} {s : Shared} {v : V} {u : Value} {d : D} {k : List At} (I : Inv X pins σ H s) (r : aN v u) (i : Is X.K H v d) (e : g8 d = some k) : dD s.heap k u:=by
 have:=lu I (ys:=[v]) (ds:=[d]) (ks:=[k]) (its:=[u]) (.cons r .nil) (.cons i .nil) (by simp only [bR,e]; rfl)
 cases this; assumption
theorem yB {qv : Value} {l S It : Addr} {vs : List V} {ds kds : List D} {ks : List (List At)} {B H1 : Hp} {kf : D->Option D} {d0 : D} {R : Result->Shared->Prop} (hh : X.A.handled = none) (hu : X.A.in1.units < cLine) (kfn : vE X X.A.in1 σ qv B H1 kf) (hqv : ∃ a,qv = .ref a) (hq : SqL X.K B l vs) (iv : IsL X.K B vs ds)
  (em : fG kf ds = some kds) (ek : bR kds = some ks) (hc : cu ks = true) (S0 : X.s₀.heap.objs.size<=S) (I0 : X.s₀.heap.objs.size<=It) (hSp : ∀ q ∈ X.pn ++ pins,q.1 ≠ S) (hIp : ∀ q ∈ X.pn ++ pins,q.1 ≠ It) (hSI : S ≠ It) (hSl : S ≠ l) (hIl : l ≠ It)
  (hR : ∀ (s' : Shared) (H' N : Hp) (v : V) (u : Value),Inv X pins σ H' s'->Ext B N H1 H'->aN v u->Is X.K N v d0->R (.ok (.ret u)) s') :
  ∀ (r j : Nat) (s : Shared) (H N : Hp) (ub kub : Value) (vb kvb : V) (db kdb : D) (kb : List At) (c : Nat) (oI : Obj),vs.length - j = r->j<=vs.length->Inv X ((S,seqObj "list" #[ub,kub] c) :: (It,oI) :: pins) σ H s->s.heap.IsListIter It l j->Ext B N H1 H ->
   aN vb ub->Is X.K N vb db->aN kvb kub->Is X.K N kvb kdb->g8 kdb = some kb->kb ∈ ks->iz (kb,db) ((ks.zip ds).drop j) = d0 ->
   codeAny (model X.prog X.w) X.A (.builtin "max.loop" ⟨[.ref It,qv,.ref S],[]⟩) R s:=by
 have hname : (toString "max" ++ toString ".loop" : String) = "max.loop":=by decide
 obtain ⟨qa,rfl⟩:=hqv
 intro r
 induction r with
 | zero =>
  intro j s H N ub kub vb kvb db kdb kb c oI hr hj I hit x1 r1 i1 r2 i2 ekb mk hd
  have pS:=I.pin (S,seqObj "list" #[ub,kub] c) (mY _ mX)
  have sB : aE B H:=x1.bn.trans x1.nh
  obtain ⟨its,rv,pl,_⟩:=I.list (sB.seq hq)
  have hl:=pl.isList
  have W:=Walks.list (prog:=X.prog) (w:=X.w) (A:=X.A.in1) hh It l hIl its.toArray
  have hsz : its.toArray.size = its.length:=List.size_toArray ..
  have hvl : vs.length = its.length:=rv.length
  have hdl : ds.length = its.length:=by rw [← iv.length]; exact rv.length
  have hkl : ks.length = ds.length:=by rw [bD ek,c7 em]
  have hd' : db = d0:=by
   rw [List.drop_of_length_le (by rw [List.length_zip]; omega)] at hd
   exact hd
  subst hd'
  refine codeAny_builtin PySem.F.entry_max_loop ?_
  rw [Around.under_plainId PySem.F.plain_max_loop _]
  show wpAny _ X.A.in1 (seqItems? (.ref S) >>= _) _ _ _
  refine wX (wpAny_seqItems pS.1 rfl ?_)
  show wpAny _ X.A.in1 (tryCatch (pyNext (.ref It)) _ >>= _) _ _ _
  refine wX (wpAny_tryCatch (W.done _ _ _ ⟨by rw [hsz,show its.length = j by omega]; exact hit,hl⟩ fun h' tk' hk'=>?_))
  have J1 : Inv X ((It,oI) :: (S,seqObj "list" #[ub,kub] c) :: pins) σ H s:=I.pins_of fun q hq=>I.pin q (by
   rcases List.mem_cons.mp hq with rfl | hq
   ·exact mY _ (mZ _ mX)
   ·rcases List.mem_cons.mp hq with rfl | hq
    ·exact mY _ mX
    ·exact mY _ (mZ _ (mZ _ hq)))
  have hIp' : ∀ q ∈ X.pn ++ ((S,seqObj "list" #[ub,kub] c) :: pins),q.1 ≠ It:=fun q hq=>by
   rcases List.mem_append.mp hq with hq | hq
   ·exact hIp q (List.mem_append_left _ hq)
   ·rcases List.mem_cons.mp hq with rfl | hq
    ·exact hSI
    ·exact hIp q (mY _ hq)
  have J2 : Inv X ((S,seqObj "list" #[ub,kub] c) :: pins) σ H { s with heap:=h',toks:=tk' } :=
   (eu J1).turned (t':=tk') (fun b o n e=>hk' b o (by simpa using n) e) (J1.pin (It,oI) (mY _ mX)).2.1 (J1.pin (It,oI) (mY _ mX)).2.2.1 (.inr I0) (gW J1) hIp'
  have pS2:=J2.pin (S,seqObj "list" #[ub,kub] c) (mY _ mX)
  obtain ⟨c2,hc2⟩ : ∃ c2,(h'.update S (Obj.mapSeq fun _=>(#[] : Array Value))).get? S = some (seqObj "list" #[] c2):=⟨_,get?_update_seq pS2.1 fun _=>#[]⟩
  have u2:=Heap.SameBut.update h' S (Obj.mapSeq fun _=>(#[] : Array Value))
  show wpAny _ X.A.in1 (updateSeq S (fun _=>#[]) >>= _) _ _ _
  refine wX ?_
  refine wpAny_updateSeq pS2.1 rfl (wX (wpAny_letGo (wY ?_)))
  exact hR _ H N vb ub (eu (bS (t':=tk') J2 S0 hSp (fun b o n e=>(u2.2 b n).trans e) hc2 bo)) x1 r1 i1
 | succ r ih =>
  intro j s H N ub kub vb kvb db kdb kb c oI hr hj I hit x1 r1 i1 r2 i2 ekb mk hd
  have hlt : j < vs.length:=by omega
  have pS:=I.pin (S,seqObj "list" #[ub,kub] c) (mY _ mX)
  have sB : aE B H:=x1.bn.trans x1.nh
  obtain ⟨its,rv,pl,_⟩:=I.list (sB.seq hq)
  have hl:=pl.isList
  have W:=Walks.list (prog:=X.prog) (w:=X.w) (A:=X.A.in1) hh It l hIl its.toArray
  have hsz : its.toArray.size = its.length:=List.size_toArray ..
  have hvl : vs.length = its.length:=rv.length
  have hdl : ds.length = its.length:=by rw [← iv.length]; exact rv.length
  have hkl : ks.length = ds.length:=by rw [bD ek,c7 em]
  refine codeAny_builtin PySem.F.entry_max_loop ?_
  rw [Around.under_plainId PySem.F.plain_max_loop _]
  show wpAny _ X.A.in1 (seqItems? (.ref S) >>= _) _ _ _
  refine wX (wpAny_seqItems pS.1 rfl ?_)
  show wpAny _ X.A.in1 (tryCatch (pyNext (.ref It)) _ >>= _) _ _ _
  refine wX (wpAny_tryCatch (W.item j _ _ _ (by rw [hsz]; omega) ⟨hit,hl⟩ fun u h' tk' hP hst' hk'=>?_))
  have hu' : its[j]? = some u:=by simpa using hP
  obtain ⟨d,hdj⟩ : ∃ d,ds[j]? = some d:=⟨_,List.getElem?_eq_getElem (by omega)⟩
  obtain ⟨v,hv,iv'⟩:=iv.get hdj
  obtain ⟨kd,hkj,hkf⟩:=fH em hdj
  obtain ⟨u2,hu2,ru⟩:=rv.get hv
  rw [hu'] at hu2; cases hu2
  obtain ⟨k,hk1⟩ : ∃ k,ks[j]? = some k:=⟨_,List.getElem?_eq_getElem (by omega)⟩
  have ekd : g8 kd = some k:=by
   have:=cP ek (i:=j) (by rw [c7 em]; omega)
   rw [List.getD_eq_getElem?_getD,hkj,List.getD_eq_getElem?_getD,hk1] at this
   exact this
  have hm : k ∈ ks:=List.mem_of_getElem? hk1
  obtain ⟨oI',hoI',hoc,hod⟩:=id hst'.1
  have J1 : Inv X ((It,oI) :: (S,seqObj "list" #[ub,kub] c) :: pins) σ H s:=I.pins_of fun q hq=>I.pin q (by
   rcases List.mem_cons.mp hq with rfl | hq
   ·exact mY _ (mZ _ mX)
   ·rcases List.mem_cons.mp hq with rfl | hq
    ·exact mY _ mX
    ·exact mY _ (mZ _ (mZ _ hq)))
  have hIp' : ∀ q ∈ X.pn ++ ((S,seqObj "list" #[ub,kub] c) :: pins),q.1 ≠ It:=fun q hq=>by
   rcases List.mem_append.mp hq with hq | hq
   ·exact hIp q (List.mem_append_left _ hq)
   ·rcases List.mem_cons.mp hq with rfl | hq
    ·exact hSI
    ·exact hIp q (mY _ hq)
  have hSp' : ∀ q ∈ X.pn ++ ((It,oI') :: pins),q.1 ≠ S:=fun q hq=>by
   rcases List.mem_append.mp hq with hq | hq
   ·exact hSp q (List.mem_append_left _ hq)
   ·rcases List.mem_cons.mp hq with rfl | hq
    ·exact hSI.symm
    ·exact hSp q (mY _ hq)
  have J2 : Inv X ((It,oI') :: (S,seqObj "list" #[ub,kub] c) :: pins) σ H { s with heap:=h',toks:=tk' } :=
   bS (t':=tk') J1 I0 hIp' (fun b o n e=>hk' b o (by simpa using n) e) hoI' (fun v z=>by rw [hod] at z; cases z)
  have J3 : Inv X ((S,seqObj "list" #[ub,kub] c) :: (It,oI') :: pins) σ H { s with heap:=h',toks:=tk' }:=J2.pins_of fun q hq=>J2.pin q (by
   rcases List.mem_cons.mp hq with rfl | hq
   ·exact mY _ (mZ _ mX)
   ·rcases List.mem_cons.mp hq with rfl | hq
    ·exact mY _ mX
    ·exact mY _ (mZ _ (mZ _ hq)))
  show wpAny _ X.A.in1 (tryCatch (holding [u] (call (.ref qa) [u])) _ >>= _) _ _ _
  refine wX (wpAny_tryCatch (wpAny_holding (wpAny_mono (kfn _ _ H N v u d kd J3 x1.hh x1.bn x1.nh (iv'.mono x1.bn) ru hkf) (fun ku s2 he=>?_) fun _ _ hF=>hF.elim)))
  obtain ⟨kv,H2,J4,rk,N2,x2,ik⟩:=he
  have pI4:=J4.pin (It,oI') (mY _ (mZ _ mX))
  have pS4:=J4.pin (S,seqObj "list" #[ub,kub] c) (mY _ mX)
  have hit2 : s2.heap.IsListIter It l (j + 1):=⟨oI',pI4.1,hoc,hod⟩
  have t1:=lw J4 rk (ik.mono x2.nh) ekd
  have t2:=lw J4 r2 (i2.mono (x2.bn.trans x2.nh)) ekb
  have hz : (ks.zip ds).drop j = (k,d) :: (ks.zip ds).drop (j + 1):=by
   have hj' : j < (ks.zip ds).length:=by rw [List.length_zip]; omega
   rw [List.drop_eq_getElem_cons hj']
   have : (ks.zip ds)[j]? = some (k,d):=List.getElem?_zip_eq_some.mpr ⟨hk1,hdj⟩
   rw [List.getElem?_eq_getElem hj'] at this
   rw [Option.some.inj this]
  rw [hz,iz] at hd
  have hlx:=dP hc mk hm
  show wpAny _ X.A.in1 (tryCatch (holding [u,ku] (richCompare .Gt ku kub >>= _)) _ >>= _) _ _ _
  refine wX (wpAny_tryCatch (wpAny_holding (wX (Eb t1 t2 hlx hu ?_))))
  refine wX (wpAny_holding (wpAny_truthy_bool ?_))
  refine wX (wpAny_letGo (wY ?_))
  by_cases hb : bu kb < bu k
  ·rw [if_pos (by rw [hlx]; simp [hb])] at hd
   obtain ⟨c2,hc2⟩ : ∃ c2,(s2.heap.update S (Obj.mapSeq fun _=>#[u,ku])).get? S = some (seqObj "list" #[u,ku] c2):=⟨_,get?_update_seq pS4.1 fun _=>#[u,ku]⟩
   have u2:=Heap.SameBut.update s2.heap S (Obj.mapSeq fun _=>#[u,ku])
   simp only [hb,decide_true,if_true]
   refine wX ?_
   refine wpAny_updateSeq pS4.1 rfl (wX (wpAny_letGo ?_))
   rw [hname]
   exact wY ⟨plainId_quiet PySem.F.plain_max_loop _,ih (j + 1) _ H2 N2 u ku v kv d kd k c2 oI' (by omega) hlt (bS (t':=s2.toks) J4 S0 hSp' (fun b o n e=>(u2.2 b n).trans e) hc2 bo) ⟨oI',(u2.2 It hSI.symm).trans pI4.1,hoc,hod⟩ (x1.trans x2) ru (iv'.mono (x1.bn.trans x2.bn)) rk ik ekd hm hd⟩
  ·rw [if_neg (by rw [hlx]; simp [hb])] at hd
   simp only [hb,decide_false,Bool.false_eq_true,if_false]
   refine wX (wpAny_letGo ?_)
   rw [hname]
   exact wY ⟨plainId_quiet PySem.F.plain_max_loop _,ih (j + 1) _ H2 N2 ub kub vb kvb db kdb kb c oI' (by omega) hlt J4 hit2 (x1.trans x2) r1 (i1.mono x2.bn) r2 (i2.mono x2.bn) ekb mk hd⟩
end
@[simp] def ma (f : FE) (kf : Env->D->Option D) : FE:=fun ρ=>(f ρ).bind fun x=>match x.1 with
 | .lst ds=>(fG (kf ρ) ds).bind fun kds=>(bR kds).bind fun ks=>if cu ks = true then match ks.zip ds with
  | []=>none
  | y :: r=>some (iz y r,false)
  else none
 | _=>none
section
variable {X : Cx} {e ke : Expr} {p pos kp : Pos}
theorem vG {f : FE} {kf : Env->D->Option D} {k : Nat} (hm : X.mg "max" = none) (he : JE X e f) (hk : JK X X.A.in1 ke kf) (hr : Room k X.A) (hg : Gl X "max":=by rfl)
  (hes : starEach [e] X.env = [(false,eval e X.env)]:=by rfl) (heb : backTo pos (starEach [e] X.env) = (false,eval e X.env) :: backTo pos (starEach [] X.env):=by rfl) (hpl : (backTo pos (starEach [e] X.env)).any (·.1) = false:=by rfl)
  (hall : (backToKw pos (keywordEach [⟨some "key",ke,kp⟩] X.env)).all (·.1.isSome) = true:=by rfl) (hkw : (backToKw pos (keywordEach [⟨some "key",ke,kp⟩] X.env)).any (·.1.isNone) = false:=by rfl)
  (hnm : (backToKw pos (keywordEach [⟨some "key",ke,kp⟩] X.env)).filterMap (·.1) = [("key" : Str)]:=by rfl) :
  JE X (.Call (.Name "max" p) [e] [⟨some "key",ke,kp⟩] pos) (ma f kf):=by
 have hname : (toString "max" ++ toString ".loop" : String) = "max.loop":=by decide
 intro pins s σ H Q I h
 obtain ⟨B,ρ,d,b,sB,rep,ee,q⟩:=h
 obtain ⟨⟨xd,xb⟩,ex,ee⟩:=oX ee
 cases xd <;> try (cases ee; done)
 rename_i ds
 obtain ⟨kds,em,ee⟩:=oX ee
 obtain ⟨ks,ek,ee⟩:=oX ee
 split at ee
 ·rename_i hc
  split at ee
  ·cases ee
  ·rename_i y ay ez
   cases ee
   refine wpAny_Call_Name_kw (iB I hg hm (u:=.builtin "max") rfl ?_)
   refine callWith_kw (thn ((eG he gn hes) pos pins s σ H (fun vs H1=>∃ v N,vs = [v]/\Ext B N H H1/\Is X.K N v (.lst ds)) I ⟨B,ρ,_,_,sB,rep,ex,fun v H1 N x1 i1 _=>⟨v,N,rfl,x1,i1⟩⟩) fun us s1 hA=>?_) heb hpl hall hkw
   obtain ⟨vs1,H1,I1,r1,v,N,rfl,x1,i1⟩:=hA
   obtain ⟨u,rfl,ru⟩:=gm r1
   refine kws_cons (hk pins s1 σ H1 N ρ _ _ I1 x1.nh (rep.mono x1.bn) fun qa H2 s2 I2 m2 kfn=>kws_nil ?_)
   rw [hnm]
   show wpAny _ _ (call (.builtin "max") [u] [(("key" : Str),.ref qa)]) _ _ _
   cases i1
   rename_i l vs hq il
   cases ru
   have sN : aE N H2:=x1.nh.trans m2
   obtain ⟨its,rv,pl,hz⟩:=I2.list (sN.seq hq)
   have hvl : vs.length = its.length:=rv.length
   have hdl : ds.length = vs.length:=il.length.symm
   have hkd : kds.length = ds.length:=c7 em
   have hks : ks.length = kds.length:=bD ek
   have hll : l < s2.heap.objs.size:=by
    obtain ⟨ol,hol,_⟩:=pl.isList
    exact Heap.lt_size hol
   -- the first item
   obtain ⟨k0,d0⟩:=y
   have hne : 0 < its.length:=by
    have:=congrArg List.length ez
    rw [List.length_zip,List.length_cons] at this
    omega
   have z0 : (ks.zip ds)[0]? = some (k0,d0):=by rw [ez]; rfl
   obtain ⟨hk0,hd0⟩:=List.getElem?_zip_eq_some.mp z0
   have hrest : (ks.zip ds).drop 1 = ay:=by rw [ez]; rfl
   refine kmk_tree PySem.F.kind_max PySem.F.plain_max PySem.F.entry_max (pX _ _) ?_
   show wpAny _ X.A.in1 (Builtin.Builtins.bindParams "max" ["key","default"] 0 ⟨[],[(Str.ofString "key",.ref qa)]⟩ >>= _) _ _ s2
   refine wX (wpAny_of_eq (show Builtin.Builtins.bindParams "max" ["key","default"] 0 ⟨[],[(Str.ofString "key",.ref qa)]⟩ = pure [some (.ref qa),none] from rfl) ?_)
   refine wX (wY ?_)
   refine wX (wpAny_pyIter_list pl.isList ?_)
   refine wX (wpAny_newList ?_ (Nat.zero_le _))
   rw [hname]
   let It : Addr:=s2.heap.objs.size
   let oI : Obj:={ cls:=.type "list_iterator",data:=.fields #[.ref l,.int 0 0] }
   let S : Addr:=(s2.heap.push oI).objs.size
   have hS : S = s2.heap.objs.size + 1:=size_push' ..
   have hSI : S ≠ It:=by rw [hS]; exact Nat.ne_of_gt (Nat.lt_succ_self _)
   have J1 : Inv X ((It,oI) :: pins) σ H2 { s2 with heap:=s2.heap.push oI }:=gX (t':=s2.toks) I2 (fun b u q=>Heap.get?_push_of_some _ q) (Nat.le_refl _) (Heap.get?_push_size _ rfl) (fun v z=>by cases z)
   have J2 : Inv X ((S,seqObj "list" #[] 0) :: (It,oI) :: pins) σ H2 { s2 with heap:=(s2.heap.push oI).push (seqObj "list" #[] 0) }:=gX (s:={ s2 with heap:=s2.heap.push oI }) (t':=s2.toks) J1 (fun b u q=>Heap.get?_push_of_some _ q) (Nat.le_refl _) (Heap.get?_push_size _ rfl) bo
   have I0 : X.s₀.heap.objs.size<=It:=I2.sz
   have S0 : X.s₀.heap.objs.size<=S:=by rw [hS]; exact Nat.le_succ_of_le I2.sz
   have hIp : ∀ q ∈ X.pn ++ pins,q.1 ≠ It:=fun q hq=>Nat.ne_of_lt (Heap.lt_size (I2.pin q hq).1)
   have hSp : ∀ q ∈ X.pn ++ pins,q.1 ≠ S:=fun q hq=>by rw [hS]; exact Nat.ne_of_lt (Nat.lt_succ_of_lt (Heap.lt_size (I2.pin q hq).1))
   have hIl : l ≠ It:=Nat.ne_of_lt hll
   have hSl : S ≠ l:=by rw [hS]; exact Nat.ne_of_gt (Nat.lt_succ_of_lt hll)
   have hh : X.A.handled = none:=hr.hd
   have hu : X.A.in1.units < cLine:=by have:=hr.un; show X.A.units + 1 < cLine; omega
   have pS:=J2.pin (S,seqObj "list" #[] 0) (mY _ mX)
   have pI:=J2.pin (It,oI) (mY _ (mZ _ mX))
   obtain ⟨its2,rv2,pl2,_⟩:=J2.list (sN.seq hq)
   have hv2 : vs.length = its2.length:=rv2.length
   have W:=Walks.list (prog:=X.prog) (w:=X.w) (A:=X.A.in1) hh It l hIl its2.toArray
   have hsz : its2.toArray.size = its2.length:=List.size_toArray ..
   refine wY ⟨plainId_quiet PySem.F.plain_max_loop _, ?_⟩
   refine codeAny_builtin PySem.F.entry_max_loop ?_
   rw [Around.under_plainId PySem.F.plain_max_loop _]
   show wpAny _ X.A.in1 (seqItems? (.ref S) >>= _) _ _ { s2 with heap:=(s2.heap.push oI).push (seqObj "list" #[] 0) }
   refine wX (wpAny_seqItems pS.1 rfl ?_)
   show wpAny _ X.A.in1 (tryCatch (pyNext (.ref It)) _ >>= _) _ _ _
   refine wX (wpAny_tryCatch (W.item 0 _ _ _ (by rw [hsz]; omega) ⟨⟨oI,pI.1,rfl,rfl⟩,pl2.isList⟩ fun u h' tk' hP hst' hk'=>?_))
   have hu' : its2[0]? = some u:=by simpa using hP
   obtain ⟨v,hv,iv'⟩:=il.get hd0
   obtain ⟨kd,hkj,hkf⟩:=fH em hd0
   obtain ⟨u2,hu2,ru⟩:=rv2.get hv
   rw [hu'] at hu2; cases hu2
   have ekd : g8 kd = some k0:=by
    have:=cP ek (i:=0) (by omega)
    rw [List.getD_eq_getElem?_getD,hkj,List.getD_eq_getElem?_getD,hk0] at this
    exact this
   obtain ⟨oI',hoI',hoc,hod⟩:=id hst'.1
   have swap : ∀ {o1 o2 : Obj} {H' : Hp} {s' : Shared} {a1 a2 : Addr},Inv X ((a1,o1) :: (a2,o2) :: pins) σ H' s'->Inv X ((a2,o2) :: (a1,o1) :: pins) σ H' s':=fun {o1 o2 H' s' a1 a2} J=>J.pins_of fun q hq=>J.pin q (by
    rcases List.mem_cons.mp hq with rfl | hq
    ·exact mY _ (mZ _ mX)
    ·rcases List.mem_cons.mp hq with rfl | hq
     ·exact mY _ mX
     ·exact mY _ (mZ _ (mZ _ hq)))
   have hIp' : ∀ q ∈ X.pn ++ ((S,seqObj "list" #[] 0) :: pins),q.1 ≠ It:=fun q hq=>by
    rcases List.mem_append.mp hq with hq | hq
    ·exact hIp q (List.mem_append_left _ hq)
    ·rcases List.mem_cons.mp hq with rfl | hq
     ·exact hSI
     ·exact hIp q (mY _ hq)
   have hSp' : ∀ q ∈ X.pn ++ ((It,oI') :: pins),q.1 ≠ S:=fun q hq=>by
    rcases List.mem_append.mp hq with hq | hq
    ·exact hSp q (List.mem_append_left _ hq)
    ·rcases List.mem_cons.mp hq with rfl | hq
     ·exact hSI.symm
     ·exact hSp q (mY _ hq)
   have J3:=swap (bS (t':=tk') (swap J2) I0 hIp' (fun b o n e=>hk' b o (by simpa using n) e) hoI' (fun v z=>by rw [hod] at z; cases z))
   show wpAny _ X.A.in1 (tryCatch (holding [u] (call (.ref qa) [u])) _ >>= _) _ _ _
   refine wX (wpAny_tryCatch (wpAny_holding (wpAny_mono (kfn _ _ H2 N v u d0 kd J3 (.refl _) (.refl _) sN iv' ru hkf) (fun ku s3 he=>?_) fun _ _ hF=>hF.elim)))
   obtain ⟨kv,H3,J4,rk,N3,x3,ik⟩:=he
   have pI4:=J4.pin (It,oI') (mY _ (mZ _ mX))
   have pS4:=J4.pin (S,seqObj "list" #[] 0) (mY _ mX)
   obtain ⟨c2,hc2⟩ : ∃ c2,(s3.heap.update S (Obj.mapSeq fun _=>#[u,ku])).get? S = some (seqObj "list" #[u,ku] c2):=⟨_,get?_update_seq pS4.1 fun _=>#[u,ku]⟩
   have u2:=Heap.SameBut.update s3.heap S (Obj.mapSeq fun _=>#[u,ku])
   show wpAny _ X.A.in1 (updateSeq S (fun _=>#[u,ku]) >>= _) _ _ _
   refine wX ?_
   refine wpAny_updateSeq pS4.1 rfl ?_
   rw [hname]
   have xx : Ext B N H H2:=x1.trans (.grow x1.nh m2)
   refine wY ⟨plainId_quiet PySem.F.plain_max_loop _,yB (S:=S) (It:=It) hh hu kfn ⟨qa,rfl⟩ hq il em ek hc S0 I0 hSp hIp hSI hSl hIl (fun s' H' N' v' u' J' x' r' i'=>⟨v',H',J',r',q _ _ _ (xx.trans x') i' (by simp)⟩) _ 1 _ H3 N3 u ku v kv d0 kd k0 c2 oI' rfl (by omega)
    (bS (t':=s3.toks) J4 S0 hSp' (fun b o n e=>(u2.2 b n).trans e) hc2 bo) ⟨oI',(u2.2 It hSI.symm).trans pI4.1,hoc,hod⟩ x3 ru (iv'.mono x3.bn) rk ik ekd (List.mem_of_getElem? hk0) (by rw [hrest])⟩
 ·cases ee
end
def gA : List At × D->List (List At × D)->D
 | b,[]=>b.2
 | b,x :: r=>if aQ x.1 b.1 = some true then gA x r else gA b r
theorem pY (a v : Value) : argsOk "min" ⟨[a],[(Str.ofString "key",v)]⟩:=by unfold argsOk; kernel_rfl
section
variable {X : Cx} {pins : List (Addr × Obj)} {σ : St}
theorem yC {qv : Value} {l S It : Addr} {vs : List V} {ds kds : List D} {ks : List (List At)} {B H1 : Hp} {kf : D->Option D} {d0 : D} {R : Result->Shared->Prop} (hh : X.A.handled = none) (hu : X.A.in1.units < cLine) (kfn : vE X X.A.in1 σ qv B H1 kf) (hqv : ∃ a,qv = .ref a) (hq : SqL X.K B l vs) (iv : IsL X.K B vs ds)
  (em : fG kf ds = some kds) (ek : bR kds = some ks) (hc : cu ks = true) (S0 : X.s₀.heap.objs.size<=S) (I0 : X.s₀.heap.objs.size<=It) (hSp : ∀ q ∈ X.pn ++ pins,q.1 ≠ S) (hIp : ∀ q ∈ X.pn ++ pins,q.1 ≠ It) (hSI : S ≠ It) (hSl : S ≠ l) (hIl : l ≠ It)
  (hR : ∀ (s' : Shared) (H' N : Hp) (v : V) (u : Value),Inv X pins σ H' s'->Ext B N H1 H'->aN v u->Is X.K N v d0->R (.ok (.ret u)) s') :
  ∀ (r j : Nat) (s : Shared) (H N : Hp) (ub kub : Value) (vb kvb : V) (db kdb : D) (kb : List At) (c : Nat) (oI : Obj),vs.length - j = r->j<=vs.length->Inv X ((S,seqObj "list" #[ub,kub] c) :: (It,oI) :: pins) σ H s->s.heap.IsListIter It l j->Ext B N H1 H ->
   aN vb ub->Is X.K N vb db->aN kvb kub->Is X.K N kvb kdb->g8 kdb = some kb->kb ∈ ks->gA (kb,db) ((ks.zip ds).drop j) = d0 ->
   codeAny (model X.prog X.w) X.A (.builtin "min.loop" ⟨[.ref It,qv,.ref S],[]⟩) R s:=by
 have hname : (toString "min" ++ toString ".loop" : String) = "min.loop":=by decide
 obtain ⟨qa,rfl⟩:=hqv
 intro r
 induction r with
 | zero =>
  intro j s H N ub kub vb kvb db kdb kb c oI hr hj I hit x1 r1 i1 r2 i2 ekb mk hd
  have pS:=I.pin (S,seqObj "list" #[ub,kub] c) (mY _ mX)
  have sB : aE B H:=x1.bn.trans x1.nh
  obtain ⟨its,rv,pl,_⟩:=I.list (sB.seq hq)
  have hl:=pl.isList
  have W:=Walks.list (prog:=X.prog) (w:=X.w) (A:=X.A.in1) hh It l hIl its.toArray
  have hsz : its.toArray.size = its.length:=List.size_toArray ..
  have hvl : vs.length = its.length:=rv.length
  have hdl : ds.length = its.length:=by rw [← iv.length]; exact rv.length
  have hkl : ks.length = ds.length:=by rw [bD ek,c7 em]
  have hd' : db = d0:=by
   rw [List.drop_of_length_le (by rw [List.length_zip]; omega)] at hd
   exact hd
  subst hd'
  refine codeAny_builtin PySem.F.entry_min_loop ?_
  rw [Around.under_plainId PySem.F.plain_min_loop _]
  show wpAny _ X.A.in1 (seqItems? (.ref S) >>= _) _ _ _
  refine wX (wpAny_seqItems pS.1 rfl ?_)
  show wpAny _ X.A.in1 (tryCatch (pyNext (.ref It)) _ >>= _) _ _ _
  refine wX (wpAny_tryCatch (W.done _ _ _ ⟨by rw [hsz,show its.length = j by omega]; exact hit,hl⟩ fun h' tk' hk'=>?_))
  have J1 : Inv X ((It,oI) :: (S,seqObj "list" #[ub,kub] c) :: pins) σ H s:=I.pins_of fun q hq=>I.pin q (by
   rcases List.mem_cons.mp hq with rfl | hq
   ·exact mY _ (mZ _ mX)
   ·rcases List.mem_cons.mp hq with rfl | hq
    ·exact mY _ mX
    ·exact mY _ (mZ _ (mZ _ hq)))
  have hIp' : ∀ q ∈ X.pn ++ ((S,seqObj "list" #[ub,kub] c) :: pins),q.1 ≠ It:=fun q hq=>by
   rcases List.mem_append.mp hq with hq | hq
   ·exact hIp q (List.mem_append_left _ hq)
   ·rcases List.mem_cons.mp hq with rfl | hq
    ·exact hSI
    ·exact hIp q (mY _ hq)
  have J2 : Inv X ((S,seqObj "list" #[ub,kub] c) :: pins) σ H { s with heap:=h',toks:=tk' } :=
   (eu J1).turned (t':=tk') (fun b o n e=>hk' b o (by simpa using n) e) (J1.pin (It,oI) (mY _ mX)).2.1 (J1.pin (It,oI) (mY _ mX)).2.2.1 (.inr I0) (gW J1) hIp'
  have pS2:=J2.pin (S,seqObj "list" #[ub,kub] c) (mY _ mX)
  obtain ⟨c2,hc2⟩ : ∃ c2,(h'.update S (Obj.mapSeq fun _=>(#[] : Array Value))).get? S = some (seqObj "list" #[] c2):=⟨_,get?_update_seq pS2.1 fun _=>#[]⟩
  have u2:=Heap.SameBut.update h' S (Obj.mapSeq fun _=>(#[] : Array Value))
  show wpAny _ X.A.in1 (updateSeq S (fun _=>#[]) >>= _) _ _ _
  refine wX ?_
  refine wpAny_updateSeq pS2.1 rfl (wX (wpAny_letGo (wY ?_)))
  exact hR _ H N vb ub (eu (bS (t':=tk') J2 S0 hSp (fun b o n e=>(u2.2 b n).trans e) hc2 bo)) x1 r1 i1
 | succ r ih =>
  intro j s H N ub kub vb kvb db kdb kb c oI hr hj I hit x1 r1 i1 r2 i2 ekb mk hd
  have hlt : j < vs.length:=by omega
  have pS:=I.pin (S,seqObj "list" #[ub,kub] c) (mY _ mX)
  have sB : aE B H:=x1.bn.trans x1.nh
  obtain ⟨its,rv,pl,_⟩:=I.list (sB.seq hq)
  have hl:=pl.isList
  have W:=Walks.list (prog:=X.prog) (w:=X.w) (A:=X.A.in1) hh It l hIl its.toArray
  have hsz : its.toArray.size = its.length:=List.size_toArray ..
  have hvl : vs.length = its.length:=rv.length
  have hdl : ds.length = its.length:=by rw [← iv.length]; exact rv.length
  have hkl : ks.length = ds.length:=by rw [bD ek,c7 em]
  refine codeAny_builtin PySem.F.entry_min_loop ?_
  rw [Around.under_plainId PySem.F.plain_min_loop _]
  show wpAny _ X.A.in1 (seqItems? (.ref S) >>= _) _ _ _
  refine wX (wpAny_seqItems pS.1 rfl ?_)
  show wpAny _ X.A.in1 (tryCatch (pyNext (.ref It)) _ >>= _) _ _ _
  refine wX (wpAny_tryCatch (W.item j _ _ _ (by rw [hsz]; omega) ⟨hit,hl⟩ fun u h' tk' hP hst' hk'=>?_))
  have hu' : its[j]? = some u:=by simpa using hP
  obtain ⟨d,hdj⟩ : ∃ d,ds[j]? = some d:=⟨_,List.getElem?_eq_getElem (by omega)⟩
  obtain ⟨v,hv,iv'⟩:=iv.get hdj
  obtain ⟨kd,hkj,hkf⟩:=fH em hdj
  obtain ⟨u2,hu2,ru⟩:=rv.get hv
  rw [hu'] at hu2; cases hu2
  obtain ⟨k,hk1⟩ : ∃ k,ks[j]? = some k:=⟨_,List.getElem?_eq_getElem (by omega)⟩
  have ekd : g8 kd = some k:=by
   have:=cP ek (i:=j) (by rw [c7 em]; omega)
   rw [List.getD_eq_getElem?_getD,hkj,List.getD_eq_getElem?_getD,hk1] at this
   exact this
  have hm : k ∈ ks:=List.mem_of_getElem? hk1
  obtain ⟨oI',hoI',hoc,hod⟩:=id hst'.1
  have J1 : Inv X ((It,oI) :: (S,seqObj "list" #[ub,kub] c) :: pins) σ H s:=I.pins_of fun q hq=>I.pin q (by
   rcases List.mem_cons.mp hq with rfl | hq
   ·exact mY _ (mZ _ mX)
   ·rcases List.mem_cons.mp hq with rfl | hq
    ·exact mY _ mX
    ·exact mY _ (mZ _ (mZ _ hq)))
  have hIp' : ∀ q ∈ X.pn ++ ((S,seqObj "list" #[ub,kub] c) :: pins),q.1 ≠ It:=fun q hq=>by
   rcases List.mem_append.mp hq with hq | hq
   ·exact hIp q (List.mem_append_left _ hq)
   ·rcases List.mem_cons.mp hq with rfl | hq
    ·exact hSI
    ·exact hIp q (mY _ hq)
  have hSp' : ∀ q ∈ X.pn ++ ((It,oI') :: pins),q.1 ≠ S:=fun q hq=>by
   rcases List.mem_append.mp hq with hq | hq
   ·exact hSp q (List.mem_append_left _ hq)
   ·rcases List.mem_cons.mp hq with rfl | hq
    ·exact hSI.symm
    ·exact hSp q (mY _ hq)
  have J2 : Inv X ((It,oI') :: (S,seqObj "list" #[ub,kub] c) :: pins) σ H { s with heap:=h',toks:=tk' } :=
   bS (t':=tk') J1 I0 hIp' (fun b o n e=>hk' b o (by simpa using n) e) hoI' (fun v z=>by rw [hod] at z; cases z)
  have J3 : Inv X ((S,seqObj "list" #[ub,kub] c) :: (It,oI') :: pins) σ H { s with heap:=h',toks:=tk' }:=J2.pins_of fun q hq=>J2.pin q (by
   rcases List.mem_cons.mp hq with rfl | hq
   ·exact mY _ (mZ _ mX)
   ·rcases List.mem_cons.mp hq with rfl | hq
    ·exact mY _ mX
    ·exact mY _ (mZ _ (mZ _ hq)))
  show wpAny _ X.A.in1 (tryCatch (holding [u] (call (.ref qa) [u])) _ >>= _) _ _ _
  refine wX (wpAny_tryCatch (wpAny_holding (wpAny_mono (kfn _ _ H N v u d kd J3 x1.hh x1.bn x1.nh (iv'.mono x1.bn) ru hkf) (fun ku s2 he=>?_) fun _ _ hF=>hF.elim)))
  obtain ⟨kv,H2,J4,rk,N2,x2,ik⟩:=he
  have pI4:=J4.pin (It,oI') (mY _ (mZ _ mX))
  have pS4:=J4.pin (S,seqObj "list" #[ub,kub] c) (mY _ mX)
  have hit2 : s2.heap.IsListIter It l (j + 1):=⟨oI',pI4.1,hoc,hod⟩
  have t1:=lw J4 rk (ik.mono x2.nh) ekd
  have t2:=lw J4 r2 (i2.mono (x2.bn.trans x2.nh)) ekb
  have hz : (ks.zip ds).drop j = (k,d) :: (ks.zip ds).drop (j + 1):=by
   have hj' : j < (ks.zip ds).length:=by rw [List.length_zip]; omega
   rw [List.drop_eq_getElem_cons hj']
   have : (ks.zip ds)[j]? = some (k,d):=List.getElem?_zip_eq_some.mpr ⟨hk1,hdj⟩
   rw [List.getElem?_eq_getElem hj'] at this
   rw [Option.some.inj this]
  rw [hz,gA] at hd
  have hlx:=dP hc hm mk
  show wpAny _ X.A.in1 (tryCatch (holding [u,ku] (richCompare .Lt ku kub >>= _)) _ >>= _) _ _ _
  refine wX (wpAny_tryCatch (wpAny_holding (wX (Ea t1 t2 hlx hu ?_))))
  refine wX (wpAny_holding (wpAny_truthy_bool ?_))
  refine wX (wpAny_letGo (wY ?_))
  by_cases hb : bu k < bu kb
  ·rw [if_pos (by rw [hlx]; simp [hb])] at hd
   obtain ⟨c2,hc2⟩ : ∃ c2,(s2.heap.update S (Obj.mapSeq fun _=>#[u,ku])).get? S = some (seqObj "list" #[u,ku] c2):=⟨_,get?_update_seq pS4.1 fun _=>#[u,ku]⟩
   have u2:=Heap.SameBut.update s2.heap S (Obj.mapSeq fun _=>#[u,ku])
   simp only [hb,decide_true,if_true]
   refine wX ?_
   refine wpAny_updateSeq pS4.1 rfl (wX (wpAny_letGo ?_))
   rw [hname]
   exact wY ⟨plainId_quiet PySem.F.plain_min_loop _,ih (j + 1) _ H2 N2 u ku v kv d kd k c2 oI' (by omega) hlt (bS (t':=s2.toks) J4 S0 hSp' (fun b o n e=>(u2.2 b n).trans e) hc2 bo) ⟨oI',(u2.2 It hSI.symm).trans pI4.1,hoc,hod⟩ (x1.trans x2) ru (iv'.mono (x1.bn.trans x2.bn)) rk ik ekd hm hd⟩
  ·rw [if_neg (by rw [hlx]; simp [hb])] at hd
   simp only [hb,decide_false,Bool.false_eq_true,if_false]
   refine wX (wpAny_letGo ?_)
   rw [hname]
   exact wY ⟨plainId_quiet PySem.F.plain_min_loop _,ih (j + 1) _ H2 N2 ub kub vb kvb db kdb kb c oI' (by omega) hlt J4 hit2 (x1.trans x2) r1 (i1.mono x2.bn) r2 (i2.mono x2.bn) ekb mk hd⟩
end
@[simp] def md (f : FE) (kf : Env->D->Option D) : FE:=fun ρ=>(f ρ).bind fun x=>match x.1 with
 | .lst ds=>(fG (kf ρ) ds).bind fun kds=>(bR kds).bind fun ks=>if cu ks = true then match ks.zip ds with
  | []=>none
  | y :: r=>some (gA y r,false)
  else none
 | _=>none
section
variable {X : Cx} {e ke : Expr} {p pos kp : Pos}
theorem pZ {f : FE} {kf : Env->D->Option D} {k : Nat} (hm : X.mg "min" = none) (he : JE X e f) (hk : JK X X.A.in1 ke kf) (hr : Room k X.A) (hg : Gl X "min":=by rfl)
  (hes : starEach [e] X.env = [(false,eval e X.env)]:=by rfl) (heb : backTo pos (starEach [e] X.env) = (false,eval e X.env) :: backTo pos (starEach [] X.env):=by rfl) (hpl : (backTo pos (starEach [e] X.env)).any (·.1) = false:=by rfl)
  (hall : (backToKw pos (keywordEach [⟨some "key",ke,kp⟩] X.env)).all (·.1.isSome) = true:=by rfl) (hkw : (backToKw pos (keywordEach [⟨some "key",ke,kp⟩] X.env)).any (·.1.isNone) = false:=by rfl)
  (hnm : (backToKw pos (keywordEach [⟨some "key",ke,kp⟩] X.env)).filterMap (·.1) = [("key" : Str)]:=by rfl) :
  JE X (.Call (.Name "min" p) [e] [⟨some "key",ke,kp⟩] pos) (md f kf):=by
 have hname : (toString "min" ++ toString ".loop" : String) = "min.loop":=by decide
 intro pins s σ H Q I h
 obtain ⟨B,ρ,d,b,sB,rep,ee,q⟩:=h
 obtain ⟨⟨xd,xb⟩,ex,ee⟩:=oX ee
 cases xd <;> try (cases ee; done)
 rename_i ds
 obtain ⟨kds,em,ee⟩:=oX ee
 obtain ⟨ks,ek,ee⟩:=oX ee
 split at ee
 ·rename_i hc
  split at ee
  ·cases ee
  ·rename_i y ay ez
   cases ee
   refine wpAny_Call_Name_kw (iB I hg hm (u:=.builtin "min") rfl ?_)
   refine callWith_kw (thn ((eG he gn hes) pos pins s σ H (fun vs H1=>∃ v N,vs = [v]/\Ext B N H H1/\Is X.K N v (.lst ds)) I ⟨B,ρ,_,_,sB,rep,ex,fun v H1 N x1 i1 _=>⟨v,N,rfl,x1,i1⟩⟩) fun us s1 hA=>?_) heb hpl hall hkw
   obtain ⟨vs1,H1,I1,r1,v,N,rfl,x1,i1⟩:=hA
   obtain ⟨u,rfl,ru⟩:=gm r1
   refine kws_cons (hk pins s1 σ H1 N ρ _ _ I1 x1.nh (rep.mono x1.bn) fun qa H2 s2 I2 m2 kfn=>kws_nil ?_)
   rw [hnm]
   show wpAny _ _ (call (.builtin "min") [u] [(("key" : Str),.ref qa)]) _ _ _
   cases i1
   rename_i l vs hq il
   cases ru
   have sN : aE N H2:=x1.nh.trans m2
   obtain ⟨its,rv,pl,hz⟩:=I2.list (sN.seq hq)
   have hvl : vs.length = its.length:=rv.length
   have hdl : ds.length = vs.length:=il.length.symm
   have hkd : kds.length = ds.length:=c7 em
   have hks : ks.length = kds.length:=bD ek
   have hll : l < s2.heap.objs.size:=by
    obtain ⟨ol,hol,_⟩:=pl.isList
    exact Heap.lt_size hol
   -- the first item
   obtain ⟨k0,d0⟩:=y
   have hne : 0 < its.length:=by
    have:=congrArg List.length ez
    rw [List.length_zip,List.length_cons] at this
    omega
   have z0 : (ks.zip ds)[0]? = some (k0,d0):=by rw [ez]; rfl
   obtain ⟨hk0,hd0⟩:=List.getElem?_zip_eq_some.mp z0
   have hrest : (ks.zip ds).drop 1 = ay:=by rw [ez]; rfl
   refine kmk_tree PySem.F.kind_min PySem.F.plain_min PySem.F.entry_min (pY _ _) ?_
   show wpAny _ X.A.in1 (Builtin.Builtins.bindParams "min" ["key","default"] 0 ⟨[],[(Str.ofString "key",.ref qa)]⟩ >>= _) _ _ s2
   refine wX (wpAny_of_eq (show Builtin.Builtins.bindParams "min" ["key","default"] 0 ⟨[],[(Str.ofString "key",.ref qa)]⟩ = pure [some (.ref qa),none] from rfl) ?_)
   refine wX (wY ?_)
   refine wX (wpAny_pyIter_list pl.isList ?_)
   refine wX (wpAny_newList ?_ (Nat.zero_le _))
   rw [hname]
   let It : Addr:=s2.heap.objs.size
   let oI : Obj:={ cls:=.type "list_iterator",data:=.fields #[.ref l,.int 0 0] }
   let S : Addr:=(s2.heap.push oI).objs.size
   have hS : S = s2.heap.objs.size + 1:=size_push' ..
   have hSI : S ≠ It:=by rw [hS]; exact Nat.ne_of_gt (Nat.lt_succ_self _)
   have J1 : Inv X ((It,oI) :: pins) σ H2 { s2 with heap:=s2.heap.push oI }:=gX (t':=s2.toks) I2 (fun b u q=>Heap.get?_push_of_some _ q) (Nat.le_refl _) (Heap.get?_push_size _ rfl) (fun v z=>by cases z)
   have J2 : Inv X ((S,seqObj "list" #[] 0) :: (It,oI) :: pins) σ H2 { s2 with heap:=(s2.heap.push oI).push (seqObj "list" #[] 0) }:=gX (s:={ s2 with heap:=s2.heap.push oI }) (t':=s2.toks) J1 (fun b u q=>Heap.get?_push_of_some _ q) (Nat.le_refl _) (Heap.get?_push_size _ rfl) bo
   have I0 : X.s₀.heap.objs.size<=It:=I2.sz
   have S0 : X.s₀.heap.objs.size<=S:=by rw [hS]; exact Nat.le_succ_of_le I2.sz
   have hIp : ∀ q ∈ X.pn ++ pins,q.1 ≠ It:=fun q hq=>Nat.ne_of_lt (Heap.lt_size (I2.pin q hq).1)
   have hSp : ∀ q ∈ X.pn ++ pins,q.1 ≠ S:=fun q hq=>by rw [hS]; exact Nat.ne_of_lt (Nat.lt_succ_of_lt (Heap.lt_size (I2.pin q hq).1))
   have hIl : l ≠ It:=Nat.ne_of_lt hll
   have hSl : S ≠ l:=by rw [hS]; exact Nat.ne_of_gt (Nat.lt_succ_of_lt hll)
   have hh : X.A.handled = none:=hr.hd
   have hu : X.A.in1.units < cLine:=by have:=hr.un; show X.A.units + 1 < cLine; omega
   have pS:=J2.pin (S,seqObj "list" #[] 0) (mY _ mX)
   have pI:=J2.pin (It,oI) (mY _ (mZ _ mX))
   obtain ⟨its2,rv2,pl2,_⟩:=J2.list (sN.seq hq)
   have hv2 : vs.length = its2.length:=rv2.length
   have W:=Walks.list (prog:=X.prog) (w:=X.w) (A:=X.A.in1) hh It l hIl its2.toArray
   have hsz : its2.toArray.size = its2.length:=List.size_toArray ..
   refine wY ⟨plainId_quiet PySem.F.plain_min_loop _, ?_⟩
   refine codeAny_builtin PySem.F.entry_min_loop ?_
   rw [Around.under_plainId PySem.F.plain_min_loop _]
   show wpAny _ X.A.in1 (seqItems? (.ref S) >>= _) _ _ { s2 with heap:=(s2.heap.push oI).push (seqObj "list" #[] 0) }
   refine wX (wpAny_seqItems pS.1 rfl ?_)
   show wpAny _ X.A.in1 (tryCatch (pyNext (.ref It)) _ >>= _) _ _ _
   refine wX (wpAny_tryCatch (W.item 0 _ _ _ (by rw [hsz]; omega) ⟨⟨oI,pI.1,rfl,rfl⟩,pl2.isList⟩ fun u h' tk' hP hst' hk'=>?_))
   have hu' : its2[0]? = some u:=by simpa using hP
   obtain ⟨v,hv,iv'⟩:=il.get hd0
   obtain ⟨kd,hkj,hkf⟩:=fH em hd0
   obtain ⟨u2,hu2,ru⟩:=rv2.get hv
   rw [hu'] at hu2; cases hu2
   have ekd : g8 kd = some k0:=by
    have:=cP ek (i:=0) (by omega)
    rw [List.getD_eq_getElem?_getD,hkj,List.getD_eq_getElem?_getD,hk0] at this
    exact this
   obtain ⟨oI',hoI',hoc,hod⟩:=id hst'.1
   have swap : ∀ {o1 o2 : Obj} {H' : Hp} {s' : Shared} {a1 a2 : Addr},Inv X ((a1,o1) :: (a2,o2) :: pins) σ H' s'->Inv X ((a2,o2) :: (a1,o1) :: pins) σ H' s':=fun {o1 o2 H' s' a1 a2} J=>J.pins_of fun q hq=>J.pin q (by
    rcases List.mem_cons.mp hq with rfl | hq
    ·exact mY _ (mZ _ mX)
    ·rcases List.mem_cons.mp hq with rfl | hq
     ·exact mY _ mX
     ·exact mY _ (mZ _ (mZ _ hq)))
   have hIp' : ∀ q ∈ X.pn ++ ((S,seqObj "list" #[] 0) :: pins),q.1 ≠ It:=fun q hq=>by
    rcases List.mem_append.mp hq with hq | hq
    ·exact hIp q (List.mem_append_left _ hq)
    ·rcases List.mem_cons.mp hq with rfl | hq
     ·exact hSI
     ·exact hIp q (mY _ hq)
   have hSp' : ∀ q ∈ X.pn ++ ((It,oI') :: pins),q.1 ≠ S:=fun q hq=>by
    rcases List.mem_append.mp hq with hq | hq
    ·exact hSp q (List.mem_append_left _ hq)
    ·rcases List.mem_cons.mp hq with rfl | hq
     ·exact hSI.symm
     ·exact hSp q (mY _ hq)
   have J3:=swap (bS (t':=tk') (swap J2) I0 hIp' (fun b o n e=>hk' b o (by simpa using n) e) hoI' (fun v z=>by rw [hod] at z; cases z))
   show wpAny _ X.A.in1 (tryCatch (holding [u] (call (.ref qa) [u])) _ >>= _) _ _ _
   refine wX (wpAny_tryCatch (wpAny_holding (wpAny_mono (kfn _ _ H2 N v u d0 kd J3 (.refl _) (.refl _) sN iv' ru hkf) (fun ku s3 he=>?_) fun _ _ hF=>hF.elim)))
   obtain ⟨kv,H3,J4,rk,N3,x3,ik⟩:=he
   have pI4:=J4.pin (It,oI') (mY _ (mZ _ mX))
   have pS4:=J4.pin (S,seqObj "list" #[] 0) (mY _ mX)
   obtain ⟨c2,hc2⟩ : ∃ c2,(s3.heap.update S (Obj.mapSeq fun _=>#[u,ku])).get? S = some (seqObj "list" #[u,ku] c2):=⟨_,get?_update_seq pS4.1 fun _=>#[u,ku]⟩
   have u2:=Heap.SameBut.update s3.heap S (Obj.mapSeq fun _=>#[u,ku])
   show wpAny _ X.A.in1 (updateSeq S (fun _=>#[u,ku]) >>= _) _ _ _
   refine wX ?_
   refine wpAny_updateSeq pS4.1 rfl ?_
   rw [hname]
   have xx : Ext B N H H2:=x1.trans (.grow x1.nh m2)
   refine wY ⟨plainId_quiet PySem.F.plain_min_loop _,yC (S:=S) (It:=It) hh hu kfn ⟨qa,rfl⟩ hq il em ek hc S0 I0 hSp hIp hSI hSl hIl (fun s' H' N' v' u' J' x' r' i'=>⟨v',H',J',r',q _ _ _ (xx.trans x') i' (by simp)⟩) _ 1 _ H3 N3 u ku v kv d0 kd k0 c2 oI' rfl (by omega)
    (bS (t':=s3.toks) J4 S0 hSp' (fun b o n e=>(u2.2 b n).trans e) hc2 bo) ⟨oI',(u2.2 It hSI.symm).trans pI4.1,hoc,hod⟩ x3 ru (iv'.mono x3.bn) rk ik ekd (List.mem_of_getElem? hk0) (by rw [hrest])⟩
 ·cases ee
end
section
variable {X : Cx}
@[simp] def tLt : D->D->Option (D × Bool)
 | .tup xs,.tup ys=>(cF xs).bind fun as=>(cF ys).bind fun bs=>(aQ as bs).map fun r=>(.bl r,false)
 | _,_=>none
@[simp] def tGt : D->D->Option (D × Bool)
 | .tup xs,.tup ys=>(cF xs).bind fun as=>(cF ys).bind fun bs=>(aQ bs as).map fun r=>(.bl r,false)
 | _,_=>none
end
section
variable {X : Cx} {a b : Expr} {p pos : Pos}
@[simp] def El (f g : FE) : FA:=fun ρ=>(f ρ).bind fun x=>(g ρ).bind fun y=>match x.1,y.1 with
 | .int i,.int j=>if -1000<=i/\i<=1000/\-1000<=j/\j<=1000 then some (fg i (j - i).toNat) else none
 | _,_=>none
end
@[simp] def EW : List D->Option (D × Bool)
 | [.tup xs,.tup ys]=>(cF xs).bind fun as=>(cF ys).bind fun bs=>(aQ as bs).map fun r=>(if r = true then .tup ys else .tup xs,false)
 | _=>none
end DL
namespace DL
open PySem PySem.Spec PyProof.Rows L2
section
variable {X : Cx}
@[simp] def EX : D->D->Option (D × Bool)
 | .tup xs,.tup ys=>if xs.length + ys.length<=sizeLine then some (.tup (xs ++ ys),false) else none
 | _,_=>none
end
section
variable {X : Cx}
@[simp] def Em : List D->Option (D × Bool)
 | [d,.tup [.ty n,.ty m]]=>if DR d = true then none else if n = "list"/\m = "tuple" then some (.bl (Cz d == "list" || Cz d == "tuple"),false) else none
 | _=>none
end
@[simp] def jp : D->Option Key
 | .int i=>some (.inl i)
 | .str x=>some (.inr x)
 | _=>none
theorem yD {K : PySem.W.Frag} {B : Hp} {v : V} {d : D} {k : Key} (i : Is K B v d) (e : jp d = some k) : v = kV k:=by
 cases i <;> simp only [jp] at e <;> cases e <;> rfl
def cH {κ : Type} [DecidableEq κ] : List κ->List D->κ->Option D
 | k' :: ks,d :: ds,k=>if k' = k then some d else cH ks ds k
 | _,_,_=>none
theorem ut {κ : Type} [DecidableEq κ] {K : PySem.W.Frag} {B : Hp} (k : κ) : ∀ {ks : List κ} {vs : List V} {ds : List D},ks.length = vs.length->IsL K B vs ds ->
  (∃ v d,ie (ks.zip vs) k = some v/\cH ks ds k = some d/\Is K B v d) ∨ (ie (ks.zip vs) k = none/\cH ks ds k = none)
 | [],vs,ds,_,_=>.inr ⟨by cases vs <;> rfl,by cases ds <;> rfl⟩
 | k' :: ks,[],_,h,_=>by simp at h
 | k' :: ks,v :: vs,_,h,.cons i is=>by
  rw [List.zip_cons_cons]
  unfold cH
  by_cases e : k' = k
  ·rw [if_pos e]
   exact .inl ⟨v,_,jc (p:=(k',v)) e,rfl,i⟩
  ·rw [if_neg e,jd (p:=(k',v)) e]
   exact ut k (by simpa using h) is
section
variable {X : Cx} {o e i : Expr} {pos : Pos}
@[simp] def uu : D->D->Option (D × Bool)
 | .dk ks vs,y=>(jp y).map fun k=>((cH ks vs k).getD .non,false)
 | _,_=>none
theorem sn {apos cpos : Pos} {fo fe : FE} (hu : X.A.units + 1 < cLine) (ho : JE X o fo) (he : JE X e fe) (m : M1 X o "get" apos e cpos) : JE X (.Call (.Attribute o "get" apos) [e] [] cpos) (f2 uu fo fe):=by
 refine PE.to (qT hu ho he m) fun σ H Q q=>?_
 obtain ⟨B,ρ,d,bb,sB,r,ee,q⟩:=q
 obtain ⟨x,ex,ee⟩:=oX ee
 obtain ⟨y,ey,ee⟩:=oX ee
 refine ⟨B,ρ,x.1,x.2,sB,r,ex,fun v H1 N1 x1 i1 ff=>?_⟩
 obtain ⟨xd,xb⟩:=x
 cases i1 with
 | @dk a ks vs ds h hl hs =>
  simp only [uu] at ee
  obtain ⟨k,hk,ee⟩:=oY ee
  cases ee
  refine ⟨a,rfl,.inl ⟨_,.inl (x1.nh _ _ h)⟩,N1,ρ,y.1,y.2,x1.nh,r.mono x1.bn,ey,fun v2 H2 N2 x2 i2 _=>?_⟩
  have hv:=yD i2 hk
  subst hv
  refine ⟨ie (ks.zip vs) k,.inl ⟨_,k,.inl (x2.nh _ _ (x2.bn _ _ h)),rfl,rfl⟩, ?_⟩
  have hs2:=hs.mono x2.bn
  rcases ut k hl hs2 with ⟨v,d',e1,e2,i3⟩ | ⟨e1,e2⟩
  ·rw [e1]
   rw [e2] at q
   exact (q.into (x1.trans x2)).one x2.nh i3
  ·rw [e1]
   rw [e2] at q
   exact (q.into (x1.trans x2)).one x2.nh .non
 | _=>simp [uu] at ee
@[simp] def ixK : D->D->Option (D × Bool)
 | .dk ks vs,y=>(jp y).bind fun k=>(cH ks vs k).map fun d=>(d,false)
 | _,_=>none
@[simp] def inK : D->D->Option (D × Bool)
 | y,.dk ks vs=>(jp y).map fun k=>(.bl (cH ks vs k).isSome,false)
 | _,_=>none
@[simp] def EJ : D->D->Option (D × Bool)
 | y,.dk ks vs=>(jp y).map fun k=>(.bl (!(cH ks vs k).isSome),false)
 | _,_=>none
end
def eA {κ : Type} [DecidableEq κ] (ks : List κ) (k : κ) : List κ:=if k ∈ ks then ks else ks ++ [k]
def dj {κ α : Type} [DecidableEq κ] (ks : List κ) (xs : List α) (k : κ) (x : α) : List α:=if k ∈ ks then List.zipWith (fun k' x'=>if k' = k then x else x') ks xs else xs ++ [x]
theorem vH {κ : Type} [DecidableEq κ] (k : κ) : ∀ {ks : List κ} {vs : List V},ks.length = vs.length->((ks.zip vs).any fun kv=>decide (kv.1 = k)) = decide (k ∈ ks)
 | [],_,_=>by simp
 | k' :: ks,[],h=>by simp at h
 | k' :: ks,v :: vs,h=>by
  have ih:=vH k (ks:=ks) (vs:=vs) (by simpa using h)
  rw [List.zip_cons_cons,List.any_cons,ih]
  by_cases e : k' = k
  ·simp [e]
  ·have e' : ¬ k = k':=fun z=>e z.symm
   simp [e,e']
theorem vI {κ : Type} [DecidableEq κ] (k : κ) (v : V) : ∀ (ks : List κ) (vs : List V),(ks.zip vs).map (fun kv=>if kv.1 = k then (kv.1,v) else kv) = ks.zip (List.zipWith (fun k' x'=>if k' = k then v else x') ks vs)
 | [],_=>by simp
 | _ :: _,[]=>by simp
 | k' :: ks,w :: vs=>by
  rw [List.zip_cons_cons,List.map_cons,vI k v ks vs,List.zipWith_cons_cons,List.zip_cons_cons]
  by_cases e : k' = k
  ·simp [e]
  ·simp [e]
theorem vJ {κ : Type} [DecidableEq κ] {ks : List κ} {vs : List V} (hl : ks.length = vs.length) (k : κ) (v : V) : ig (ks.zip vs) k v = (eA ks k).zip (dj ks vs k v):=by
 unfold ig eA dj
 rw [vH k hl]
 by_cases h : k ∈ ks
 ·rw [if_pos (decide_eq_true h),if_pos h,if_pos h,vI]
 ·rw [if_neg (by simpa using h),if_neg h,if_neg h,List.zip_append hl]
  rfl
theorem qc {κ α : Type} [DecidableEq κ] {ks : List κ} {xs : List α} (hl : ks.length = xs.length) (k : κ) (x : α) : (eA ks k).length = (dj ks xs k x).length:=by
 unfold eA dj
 split <;> simp [hl]
theorem IsL.zipWith {κ : Type} [DecidableEq κ] {K : PySem.W.Frag} {B : Hp} {k : κ} {v : V} {d : D} (i : Is K B v d) : ∀ {ks : List κ} {vs : List V} {ds : List D},IsL K B vs ds->IsL K B (List.zipWith (fun k' x'=>if k' = k then v else x') ks vs) (List.zipWith (fun k' x'=>if k' = k then d else x') ks ds)
 | [],_,_,_=>by simpa using IsL.nil
 | _ :: _,_,_,.nil=>by simpa using IsL.nil
 | k' :: ks,_,_,.cons h t=>by
  rw [List.zipWith_cons_cons,List.zipWith_cons_cons]
  refine .cons ?_ (IsL.zipWith i t)
  by_cases e : k' = k
  ·rw [if_pos e,if_pos e]; exact i
  ·rw [if_neg e,if_neg e]; exact h
theorem IsL.put {κ : Type} [DecidableEq κ] {K : PySem.W.Frag} {B : Hp} {k : κ} {v : V} {d : D} (i : Is K B v d) {ks : List κ} {vs : List V} {ds : List D} (h : IsL K B vs ds) : IsL K B (dj ks vs k v) (dj ks ds k d):=by
 unfold dj
 split
 ·exact h.zipWith i
 ·exact h.append (.cons i .nil)
section
variable {K : PySem.W.Frag} {E : Ends} {σ : St} {H : Hp}
def yE (i : Nat) : FS:=fun ρ=>some (.nx (ρ.set i (some (.dt [] [],true))))
theorem StN.newBox {B0 H0 N : Hp} {ρ : Env} (s : StN K B0 H0 N H σ ρ) {p : Addr} {ob : HO} {dd : D} (i : Nat) (hp : H p = none) (hb : ∀ C,Bx K C ob dd) : StN K B0 H0 (upd N p ob) (upd H p ob) (σ.set i (some (.ref p))) (ρ.set i (some (dd,true))):=by
 have x:=Ext.laid (o:=ob) s.ext.nh hp
 have s1:=s.grow x
 have hNp : N p = none:=s.ext.nh.free hp
 have hop : ¬ own σ ρ p:=fun z=>by obtain ⟨ws,⟨q,_⟩,_⟩:=s.owned z; rw [hNp] at q; cases q
 have c : aE (cut N (own σ ρ)) (cut (upd N p ob) (fun b=>own σ ρ b ∨ b = p)):=cU fun b u e q=>⟨x.bn _ _ e,fun z=>z.elim q fun z=>by subst z; rw [hNp] at e; cases e⟩
 refine s1.bindOwn ax (s.ext.hh.free hp) (fun j e q z=>hop ⟨j,e,q,z⟩) (fun j e _ q=>?_) (fun j e _ q=>?_) (hb _)
 ·obtain ⟨w,h1,h2⟩:=s.sh j e q; exact ⟨w,h1,h2.mono c⟩
 ·obtain ⟨a',o',h1,h2,_,h4⟩:=s.ow j e q
  exact ⟨a',o',h1,x.bn _ _ h2,h4.mono c⟩
theorem yF {i : Nat} (q : tDS K (yE i) E σ H) : wf xJ (k9 i) E σ H:=by
 obtain ⟨B0,H0,ρ,r,⟨N,s⟩,e,p⟩:=q
 cases e
 exact fun a ha=>p _ _ ⟨_,s.newBox i ha fun _=>.dt (ks:=[]) (vs:=[]) rfl .nil⟩
end
section
variable {X : Cx} {pos : Pos} {e k : Expr}
theorem Av {i : Nat} {x : Str} {p dp : Pos} (hN : X.N.Nodup) (hi : X.N[i]? = some x:=by rfl) (hx : Loc X.env.scope x:=by first | exact Or.inl rfl | exact Or.inr rfl) (hs : swapsWith (.Dict [] [] dp) (some (.Name x p)) pos.line X.env = pure false:=by rfl)
  (hf : X.fn x = true ∨ X.env.scope.names.lookup x = some .local:=by first | exact .inl rfl | exact .inr rfl) : JS X (.Assign [.Name x p] (.Dict [] [] dp) pos) (yE i):=PS.to (xo hN hi hx xK hs hf) fun _ _ _ q=>yF q
end
section
variable {prog : Program} {w : World} {A : Around} {E : Value->Shared->Prop} {s : Shared}
abbrev CD (h : Heap) (z TI TO T0 : Addr) (f : Bool) : Prop:=h.get? z = some { cls:=.type "zip",dict:=none,data:=.fields #[rawInt T0,.bool f,.bool false,.ref TI,.ref TO],slots:=#[] }
end
def ZSt (k1 k2 : Bool) (z TI TO i1 i2 l1 l2 S : Addr) (i : Nat) (h : Heap) : Prop :=
 IsPair h TI (.ref i1) (.ref i2)/\KIt k1 h i1 l1 i/\KIt k2 h i2 l2 i/\((IsZip h z TI TO .none/\∃ a b,IsPair h TO a b) ∨ ∃ T0 f oT oO,CD h z TI TO T0 f/\h.get? T0 = some oT/\T0 ∉ [z,TI,TO,i1,i2]/\T0 ≠ S/\h.get? TO = some oO)
section
variable {prog : Program} {w : World} {A : Around} {E : Value->Shared->Prop} {s : Shared} {k1 k2 : Bool} {z TI TO i1 i2 l1 l2 S : Addr} {j : Nat} {xs ys : Array Value}
theorem ZSt.ty {h : Heap} (st : ZSt k1 k2 z TI TO i1 i2 l1 l2 S j h) : ∃ o,h.get? z = some o/\o.cls = .type "zip":=by
 obtain ⟨_,_,_,a4⟩:=st
 rcases a4 with ⟨b1,_⟩ | ⟨T0,f,oT,oO,b1,_⟩
 ·exact ⟨_,b1,rfl⟩
 ·exact ⟨_,b1,rfl⟩
end
theorem mf {H : Hp} {a : Addr} {o : HO} (h : H a = none) : aE H (upd H a o):=fun b u e=>by rw [a9 (aG e h)]; exact e
@[simp] def fLZ (fa fb : FE) : FE:=fun ρ=>(EE fa fb ρ).map fun ds=>(.lst ds,true)
end DL
namespace DL
open PySem PySem.Spec PyProof.Rows
theorem qd : typeLookup (.type "list") "keys" = pure none:=by rw [typeLookup_type,builtinLookup_eq_fast]; kernel_rfl
theorem wR {prog : Program} {w : World} {A : Around} {E : Value->Shared->Prop} {s : Shared} {a : Addr} {xs : Array Value} {k : Nat} {sl : Array (Option Value)} {Q : Option Value->Shared->Prop}
  (hx : s.heap.get? a = some { cls:=.type "list",dict:=none,data:=.seq xs k,slots:=sl }) (hA : A.handled = none)
  (h : ∀ h' tk,(∀ b o,s.heap.get? b = some o->h'.get? b = some o)->Q none { s with heap:=h',toks:=tk }) :
  wpAny (model prog w) A (getAttr? (.ref a) "keys") Q E s:=by
 obtain ⟨hp,g,d,tk,os⟩:=s
 have hT : ∀ tk',(⟨hp,g,d,tk',os⟩ : Shared).TypeIs (.ref a) "list":=fun _=>⟨_,hx,rfl⟩
 have f1:=sub_AttributeError
 have f3:=PySem.F.slot_list_getattribute.lookup
 have f4:=PySem.F.slot_list_getattribute.bind (.ref a)
 have f5:=am_list_getattr_none
 unfold getAttr? getAttrBy? getAttrBy
 repeat (any_goals (first | assumption | exact hT _ | ((with_reducible show wpAny _ _ (call (Value.builtin "list.__getattribute__") _ _) _ _ _); refine call_meets PySem.F.slot_list_getattribute (hT _) am_entry_list_getattribute (PySem.F.args_list_getattribute_2 _ _) (meets_getattribute_miss_list a xs k sl "keys" _ qd (by decide) (by decide)) ⟨hx,hA,fun h' tk' e hx'=>?_⟩) | wp_step))
 obtain ⟨t',u',he⟩:=hx'.there
 show wpAny _ _ (getattributeRaised _ _ _ _ _ _ _) _ _ _
 unfold getattributeRaised
 repeat (any_goals (first | assumption | wp_step))
 exact h _ _ hx'.of.keeps
end DL
namespace DL
open PySem PySem.Spec PyProof.Rows L2
def fm : List D->Option (List (Key × D))
 | []=>some []
 | .tup [k,v] :: r=>(jp k).bind fun kk=>(fm r).map fun l=>(kk,v) :: l
 | _=>none
def qe (a : List Key × List D) (p : Key × D) : List Key × List D:=(eA a.1 p.1,dj a.1 a.2 p.1 p.2)
def bj (l : List (Key × D)) : List Key × List D:=l.foldl qe ([],[])
theorem mh (l : List (Key × D)) (p : Key × D) : bj (l ++ [p]) = qe (bj l) p:=by unfold bj; rw [List.foldl_append]; rfl
theorem mm : ∀ {ds : List D} {l : List (Key × D)},fm ds = some l->l.length = ds.length
 | [],l,h=>by simp [fm] at h; subst h; rfl
 | d :: r,l,h=>by
  unfold fm at h
  split at h
  ·rename_i h0; cases h0
  ·rename_i k v r' h0
   cases h0
   obtain ⟨kk,_,h⟩:=oX h
   obtain ⟨l',h1,rfl⟩:=oY h
   simp [mm h1]
  ·cases h
theorem mn : ∀ {ds : List D} {l : List (Key × D)} {i : Nat} {d : D},fm ds = some l->ds[i]? = some d->∃ k v kk,d = .tup [k,v]/\jp k = some kk/\l[i]? = some (kk,v)
 | [],l,i,d,_,h=>by simp at h
 | d0 :: r,l,i,d,h,hi=>by
  unfold fm at h
  split at h
  ·rename_i h0; cases h0
  ·rename_i k v r' h0
   cases h0
   obtain ⟨kk,h2,h⟩:=oX h
   obtain ⟨l',h1,rfl⟩:=oY h
   cases i with
   | zero=>simp at hi; subst hi; exact ⟨k,v,kk,rfl,h2,rfl⟩
   | succ i=>simp only [List.getElem?_cons_succ] at hi ⊢; exact mn h1 hi
  ·cases h
theorem yG (l : List (Key × D)) : ∀ a : List Key × List D,a.1.length = a.2.length->(l.foldl qe a).1.length = (l.foldl qe a).2.length/\(l.foldl qe a).1.length<=a.1.length + l.length:=by
 induction l with
 | nil=>intro a h; exact ⟨h,Nat.le_refl _⟩
 | cons p l ih =>
  intro a h
  have h1 : (qe a p).1.length<=a.1.length + 1:=by
   show (eA _ _).length<=_
   unfold eA
   split <;> simp
  have:=ih (qe a p) (qc h _ _)
  rw [List.foldl_cons,List.length_cons]
  exact ⟨this.1,by omega⟩
theorem wS (l : List (Key × D)) : (bj l).1.length = (bj l).2.length/\(bj l).1.length<=l.length:=by
 have:=yG l ([],[]) rfl
 exact ⟨this.1,Nat.le_trans this.2 (by simp)⟩
theorem oA : entryFor table "dict.update.loop" = some Builtin.«dict.update.loop»:=entryFor_of_tree (by kernel_rfl)
theorem gY : plainId "dict.update.loop" = true:=by decide +kernel
section
variable {X : Cx} {pins : List (Addr × Obj)} {σ : St} {B H0 : Hp} {A : Around} {R : Result->Shared->Prop} {it l d : Addr} {us : List V} {ds : List D} {kds : List (Key × D)}
theorem uw (hA : A.handled = none) (nl : l ≠ it) (nd : d ≠ it) (hl : SqL X.K B l us) (il : IsL X.K B us ds) (hp : fm ds = some kds)
  (hR : ∀ Hc N vs s',Inv X pins σ (upd Hc d (.dK ((bj kds).1.zip vs))) s'->Hc d = none->Ext B N H0 Hc->(bj kds).1.length = vs.length->IsL X.K N vs (bj kds).2->R (.ok (.ret .none)) s') :
  ∀ (k i : Nat) (tk : Nat) (s : Shared) (Hc N : Hp) (vs : List V),ds.length - i = k->i<=ds.length->Inv X pins σ (upd Hc d (.dK ((bj (kds.take i)).1.zip vs))) s->Hc d = none->Ext B N H0 Hc->jE X pins (upd Hc d (.dK ((bj (kds.take i)).1.zip vs))) it ->
   s.heap.IsListIter it l i->(bj (kds.take i)).1.length = vs.length->IsL X.K N vs (bj (kds.take i)).2 ->
   codeAny (model X.prog X.w) A (.builtin "dict.update.loop" ⟨[.ref d,.ref it,.int i tk,.none],[]⟩) R s:=by
 have n1:=il.length
 have n2:=mm hp
 intro k
 induction k with
 | zero =>
  intro i tk s Hc N vs hk hi I hc xt fp st hz hv
  have hin : i = ds.length:=by omega
  have sm : aE B (upd Hc d (.dK ((bj (kds.take i)).1.zip vs))):=(xt.bn.trans xt.nh).trans (mf hc)
  obtain ⟨its,r1,p1,z1⟩:=I.list (sm.seq hl)
  have e1:=r1.length
  refine codeAny_builtin oA ?_
  rw [Around.under_plainId gY _]
  show wpAny _ A.in1 (pyNext (.ref it) >>= _) _ _ s
  refine wX (wpAny_pyNext_list_end (A:=A.in1) hA st p1.isList (by simp; omega) fun h' hk'=>?_)
  show wpAny _ _ (Builtin.Dict.addKeywords d [] >>= _) _ _ _
  refine wX (wY (wY ?_))
  have I1:=pL (t':=s.toks) (h':=h') (ch:=[it]) I (fun b hb=>by rw [List.mem_singleton.mp hb]; exact fp) fun b o hb e=>hk' b o (fun q=>hb (by simp [q])) e
  rw [hin,← n2,List.take_length] at I1 hz hv
  exact hR Hc N vs _ I1 hc xt hz hv
 | succ k ih =>
  intro i tk s Hc N vs hk hi I hc xt fp st hz hv
  have hlt : i < ds.length:=by omega
  have sm : aE B (upd Hc d (.dK ((bj (kds.take i)).1.zip vs))):=(xt.bn.trans xt.nh).trans (mf hc)
  obtain ⟨its,r1,p1,z1⟩:=I.list (sm.seq hl)
  obtain ⟨kd,vd,kk,ed,ek,el⟩:=mn hp (List.getElem?_eq_getElem hlt)
  obtain ⟨x,hx,ix⟩:=il.get (List.getElem?_eq_getElem hlt)
  rw [ed] at ix
  cases ix with
  | @tup T xs _ hT hxs =>
   cases hxs with
   | cons ik r =>
    cases r with
    | cons iv r =>
     cases r
     rename_i xk xv
     have exk:=yD ik ek
     subst exk
     obtain ⟨u,hu,ru⟩:=r1.get hx
     cases (show u = Value.ref T from ru)
     refine codeAny_builtin oA ?_
     rw [Around.under_plainId gY _]
     show wpAny _ A.in1 (pyNext (.ref it) >>= _) _ _ s
     refine wX (wpAny_pyNext_list_item (A:=A.in1) st p1.isList (x:=.ref T) (by simpa using hu) fun h' st' hs=>?_)
     have I1:=pL (t':=s.toks) (h':=h') (ch:=[it]) I (fun b hb=>by rw [List.mem_singleton.mp hb]; exact fp) fun b o hb e=>hs.extBut b o (fun q=>hb (by simp [q])) e
     obtain ⟨ps,r2,p2,z2⟩:=I1.tuple (aX sm hT)
     obtain ⟨uk,uv,rfl,rk,rv⟩:=r2.two
     have hpr : Shared.TypeIs { s with heap:=h' } (.ref T) "tuple":=by obtain ⟨o,e,c,_⟩:=p2; exact ⟨o,e,c⟩
     dsimp only
     refine wX (wpAny_holding (wX (wpAny_tryCatch ?_)))
     unfold Builtin.Dict.pairItems
     refine wX (wpAny_typeOf hpr ?_)
     obtain ⟨oT,eT,cT,nT,dT⟩:=p2
     rw [if_pos (by decide)]
     refine wX (wpAny_seqItems eT dT (wY ?_))
     show wpAny _ _ (holding [uk,uv] (dictSet d uk uv)) _ _ _
     obtain ⟨zz,hsm,vs0,rel,dd⟩:=AS I1.hok (a:=d) ax
     have hz0 : vs0.length<=sizeLine:=by rw [← rel.length]; exact zz
     have nk : ((bj (kds.take i)).1.zip vs).length < sizeLine:=by
      have a1:=(wS (kds.take i)).2
      have a2:=z1
      rw [List.length_take] at a1
      rw [List.length_zip]
      omega
     refine wpAny_holding (wpAny_dictSet_pairs (hsz:=hz0) (uU rk) dd fun h2 dd2 hs2=>?_)
     have hl2 : (ig ((bj (kds.take i)).1.zip vs) kk xv).length<=sizeLine:=by have:=gq ((bj (kds.take i)).1.zip vs) kk xv; omega
     have he2 : ∃ q,h2.get? d = some q:=let ⟨q,_,_,hq,_⟩:=dd2; ⟨q,hq⟩
     have I2:=p7 (t':=s.toks + 1) I1 (a:=d) (ob:=.dK (ig ((bj (kds.take i)).1.zip vs) kk xv)) (by rw [ax]; exact True.intro) hs2 he2 (xG hl2 hsm (rel.put kk rv) dd2)
     rw [zx,vJ hz] at I2
     have et : kds.take (i + 1) = kds.take i ++ [(kk,vd)]:=by rw [List.take_add_one,el]; rfl
     have ed1 : (bj (kds.take (i + 1))).1 = eA (bj (kds.take i)).1 kk:=by rw [et,mh]; rfl
     have ed2 : (bj (kds.take (i + 1))).2 = dj (bj (kds.take i)).1 (bj (kds.take i)).2 kk vd:=by rw [et,mh]; rfl
     refine wY ⟨plainId_quiet gY _, ?_⟩
     refine ih (i + 1) 0 _ Hc N (dj (bj (kds.take i)).1 vs kk xv) (by omega) hlt (by rw [ed1]; exact I2) hc xt ?_ ?_ ?_ ?_
     ·obtain ⟨f0,f1⟩:=fp
      refine ⟨?_,f1⟩
      rw [a9 nd.symm] at f0 ⊢
      exact f0
     ·exact st'.at fun o e=>(hs2.2 it nd.symm).trans e
     ·rw [ed1]; exact qc hz _ _
     ·rw [ed2]
      exact hv.put (iv.mono xt.bn)
end
@[simp] def fY : List D->Option (D × Bool)
 | [.lst ds]=>(fm ds).map fun kds=>(.dk (bj kds).1 (bj kds).2,false)
 | _=>none
theorem CF : bootBuiltins "dict" = some (.type "dict"):=by decide +kernel
section
variable {X : Cx}
theorem CG (hcal : X.calm = true) : bW X (.type "dict") (rDA X.K fY):=by
 intro pins s σ H xs us Q I r h
 obtain ⟨B,dds,d0,bb,sB,i0,ee,q⟩:=h
 cases i0 with
 | nil=>simp [fY] at ee
 | cons i1 i2 =>
  cases i2 with
  | cons _ _=>cases i1 <;> simp [fY] at ee
  | nil =>
   cases i1 <;> try (simp [fY] at ee; done)
   rename_i l ws ds hl il
   simp only [fY] at ee
   obtain ⟨kds,hp,ee⟩:=oY ee
   cases ee
   obtain ⟨u,rfl,rx⟩:=gm r
   cases rx
   have hA : X.A.handled = none:=I.ok.hd hcal
   refine callType_codes (Q₁:=fun obj s₁=>obj = .ref s.heap.objs.size/\s₁ = { s with heap:=s.heap.push { cls:=.type "dict",data:=.dict #[] } }) PySem.F.kt_called_dict (PySem.F.kt_typeCall_dict_1 _) PySem.F.entry_dict_init (kt_code_dict_new _ ⟨rfl,rfl⟩) ?_
   rintro obj s₁ ⟨rfl,rfl⟩
   have I1 : Inv X pins σ (upd H s.heap.objs.size (.dK [])) { s with heap:=s.heap.push { cls:=.type "dict",data:=.dict #[] } }:=I.laid (t':=s.toks) (fun b o e=>Heap.get?_push_of_some _ e) (Nat.le_refl _) (xH s.heap I.big)
   have hc0 : H s.heap.objs.size = none:=I.fresh
   have hT : Shared.TypeIs { s with heap:=s.heap.push { cls:=.type "dict",data:=.dict #[] } } (.ref s.heap.objs.size) "dict":=⟨_,Heap.get?_push_size _ rfl,rfl⟩
   refine ⟨hT,PySem.F.args_dict_init_2 _ _, ?_⟩
   unfold Builtin.«dict.__init__»
   refine wX ?_
   unfold Builtin.Dict.selfAndRest
   refine wX (wpAny_notOrdered_dict hT ?_)
   show wpAny _ _ (pure (s.heap.objs.size,[Value.ref l])) _ _ _
   refine wY ?_
   show wpAny _ _ (Builtin.Dict.updateFrom "dict.__init__" s.heap.objs.size (.ref l) [] .none) _ _ _
   unfold Builtin.Dict.updateFrom
   have sm : aE B (upd H s.heap.objs.size (.dK [])):=sB.trans (mf hc0)
   obtain ⟨its,r1,p1,z1⟩:=I1.list (sm.seq hl)
   have pl:=p1.isList
   obtain ⟨ol,nl,eol,cl,ddl,dl⟩:=p1
   have hTl : Shared.TypeIs { s with heap:=s.heap.push { cls:=.type "dict",data:=.dict #[] } } (.ref l) "list":=⟨ol,eol,cl⟩
   refine wX (wpAny_typeOf hTl ?_)
   rw [if_pos (by decide)]
   obtain ⟨oc,od,oo,os⟩:=ol
   simp only at cl ddl dl
   subst cl ddl dl
   refine wX (wR eol (by exact hA) fun h' tk hk=>?_)
   dsimp only [Option.isNone_none]
   rw [if_pos rfl]
   have I2 : Inv X pins σ (upd H s.heap.objs.size (.dK [])) { s with heap:=h',toks:=tk }:=I1.kept (t':=tk) hk
   refine wX (wpAny_rule ?_)
   refine wX (wpAny_pyIter_list (items:=its.toArray) ⟨_,hk _ _ eol,rfl,nl,rfl⟩ ?_)
   have I3 : Inv X pins σ (upd H s.heap.objs.size (.dK [])) { s with heap:=h'.push { cls:=.type "list_iterator",data:=.fields #[.ref l,.int 0 0] },toks:=tk }:=I2.kept (t':=tk) fun b o e=>Heap.get?_push_of_some _ e
   have ld : s.heap.objs.size < h'.objs.size:=Heap.lt_size (hk _ _ (Heap.get?_push_size _ rfl))
   have ll : l < h'.objs.size:=Heap.lt_size (hk _ _ eol)
   refine wY ⟨plainId_quiet gY _,uw (A:=X.A.in1) (B:=B) (H0:=H) (l:=l) (d:=s.heap.objs.size) (it:=h'.objs.size) hA (Nat.ne_of_lt ll) (Nat.ne_of_lt ld) hl il hp (fun Hc N vs s' I' hc' xt hz hv=>?_) _ 0 0 _ H B [] rfl (Nat.zero_le _) I3 hc0 (Ext.refl sB) (I2.fpOk (Nat.le_refl _) (I2.hok.fresh (Nat.le_refl _))) ⟨_,Heap.get?_push_size _ rfl,rfl,rfl⟩ rfl .nil⟩
   refine ⟨rfl,.ref s.heap.objs.size,_,I',rfl, ?_⟩
   have x3:=xt.trans (Ext.laid (o:=.dK ((bj kds).1.zip vs)) xt.nh hc')
   exact q _ _ _ x3 (.dk ax hz (hv.mono (Ext.laid (o:=.dK ((bj kds).1.zip vs)) xt.nh hc').bn)) (by simp)
end
@[simp] def EY : FE:=fun _=>none
@[simp] def EZ : FA:=fun _=>none
theorem hu1 {n : Nat} (h : n + 40 < cLine) : n + 1 < cLine:=by omega
@[simp] def CH : D->D->Option (D × Bool)
 | .lst ds,.int k=>if 0<=k/\ds.length * k.toNat<=1000/\k<=1000 then some (.lst (List.replicate k.toNat ds).flatten,true) else none
 | _,_=>none
@[simp] def Ec (fa fb : FE) : FE:=fun ρ=>(fa ρ).bind fun x=>if x.2 = true then (fb ρ).bind fun y=>CH x.1 y.1 else none
theorem IsL.rep {K : PySem.W.Frag} {H : Hp} {vs : List V} {ds : List D} (h : IsL K H vs ds) : ∀ k : Nat,IsL K H (List.replicate k vs).flatten (List.replicate k ds).flatten
 | 0=>.nil
 | k + 1=>by rw [List.replicate_succ,List.replicate_succ,List.flatten_cons,List.flatten_cons]; exact h.append (IsL.rep h k)
section
variable {X : Cx} {a b : Expr} {pos : Pos}
theorem CI {fa fb : FE} (ha : JE X a fa) (hb : JE X b fb) : JE X (.BinOp a .Mult b pos) (Ec fa fb):=by
 refine PE.to (AK Ca ha hb) fun σ H Q q=>?_
 obtain ⟨B,ρ,d,bb,sB,r,ee,q⟩:=q
 obtain ⟨x,ex,ee⟩:=oX ee
 split at ee
 ·rename_i hx
  obtain ⟨⟨yd,yb⟩,ey,ee⟩:=oX ee
  refine ⟨B,ρ,x.1,x.2,sB,r,ex,fun v H1 N1 x1 i1 fr=>⟨N1,ρ,yd,yb,x1.nh,r.mono x1.bn,ey,fun u H2 N2 x2 i2 hfr=>?_⟩⟩
  obtain ⟨a0,vs,ds,rfl,e1,h0,h1,il⟩:=fr hx
  rw [e1] at ee
  clear hfr
  cases i2 <;> try (simp [CH] at ee; done)
  rename_i k
  simp only [CH] at ee
  split at ee
  ·rename_i hk
   cases ee
   have hl:=il.length
   refine ⟨a0,k,vs,rfl,rfl,x2.nh _ _ (x2.bn _ _ h1),by omega,by omega,by rw [hl]; exact Nat.le_trans hk.2.1 (by decide : (1000 : Nat)<=sizeLine),fun p hp=>?_⟩
   have x3:=Ext.laid (o:=.lst (List.replicate k.toNat vs).flatten) x2.nh hp
   have il3:=((il.mono x2.bn).mono x3.bn).rep k.toNat
   exact q _ _ _ ((x1.trans x2).trans x3) (.lst (SqL.of ax) il3) fun _=>⟨_,_,_,rfl,rfl,(x1.trans x2).hh.free hp,ax,il3⟩
  ·cases ee
 ·cases ee
end
def eO : List D->Option (List Key)
 | []=>some []
 | d :: ds=>(jp d).bind fun k=>(eO ds).map (k :: ·)
theorem ux {K : PySem.W.Frag} {B : Hp} : ∀ {vs : List V} {ds : List D} {ks : List Key},IsL K B vs ds->eO ds = some ks->vs = ks.map kV
 | _,_,ks,.nil,e=>by simp [eO] at e; subst e; rfl
 | _,_,ks,.cons i is,e=>by
  simp only [eO] at e
  obtain ⟨k,h1,e⟩:=oX e
  obtain ⟨r,h2,rfl⟩:=oY e
  rw [yD i h1,ux is h2]
  rfl
@[simp] def yH (fo : FE) (fa : FA) : FE:=fun ρ=>(fo ρ).bind fun x=>(fa ρ).bind fun ds=>match x.1 with
 | .dt kss vs=>if ds.length<=sizeLine then (eO ds).map fun k=>((cH kss vs k).getD .non,false) else none
 | _=>none
section
variable {X : Cx} {o : Expr} {es : List Expr} {pos : Pos}
theorem yI {apos cpos tpos : Pos} {x1 : Nat} {fo : FE} {fa : FA} (hu : X.A.units + 1 < cLine) (ho : JE X o fo) (ha : JA X es fa) (m : M1 X o "get" apos (.Tuple es x1 tpos) cpos) : JE X (.Call (.Attribute o "get" apos) [.Tuple es x1 tpos] [] cpos) (yH fo fa):=by
 refine PE.to (qT hu ho (tG ha) m) fun σ H Q q=>?_
 obtain ⟨B,ρ,d,bb,sB,r,ee,q⟩:=q
 obtain ⟨x,ex,ee⟩:=oX ee
 obtain ⟨ds,ey,ee⟩:=oX ee
 refine ⟨B,ρ,x.1,x.2,sB,r,ex,fun v H1 N1 x1 i1 ff=>?_⟩
 obtain ⟨xd,xb⟩:=x
 cases i1 with
 | @dt a ks vs dvs h hl hs =>
  simp only at ee
  split at ee
  ·rename_i hz
   obtain ⟨k,hk,ee⟩:=oY ee
   cases ee
   refine ⟨a,rfl,.inr ⟨_,.inl (x1.nh _ _ h)⟩,N1,ρ,ds,x1.nh,r.mono x1.bn,ey,fun us H2 N2 x2 i2=>?_⟩
   have hv:=ux i2 hk
   have hul : us.length<=sizeLine:=by rw [i2.length]; exact hz
   refine ⟨hul,fun p hp=>?_⟩
   have x3:=Ext.laid (o:=.tup us) x2.nh hp
   have ha2 : N2 a = some (.dT (ks.zip vs)):=x2.bn _ _ h
   refine ⟨ie (ks.zip vs) k,.inr ⟨_,k,p,.inl (x3.nh _ _ (x3.bn _ _ ha2)),rfl,by rw [ax,hv],rfl⟩, ?_⟩
   have hs2:=(hs.mono x2.bn).mono x3.bn
   rcases ut k hl hs2 with ⟨v,d',e1,e2,i3⟩ | ⟨e1,e2⟩
   ·rw [e1]
    rw [e2] at q
    exact (q.into ((x1.trans x2).trans x3)).one x3.nh i3
   ·rw [e1]
    rw [e2] at q
    exact (q.into ((x1.trans x2).trans x3)).one x3.nh .non
  ·cases ee
 | _=>simp at ee
end
section
variable {K : PySem.W.Frag} {E : Ends} {σ : St} {H : Hp}
def oB (i : Nat) (fk : FA) (fv : FE) : FS:=fun ρ=>match ρ[i]? with
 | some (some (.dt ks vs,true))=>(fv ρ).bind fun v=>(fk ρ).bind fun kd=>(eO kd).bind fun kk=>if bg v.1 = true/\ks.length < sizeLine/\kd.length<=sizeLine then some (.nx (ρ.set i (some (.dt (eA ks kk) (dj ks vs kk v.1),true)))) else none
 | _=>none
theorem yJ {i : Nat} {fk : FA} {fv : FE} (q : tDS K (oB i fk fv) E σ H) : AT (B9 i) (D6 (tDA K fk)) (tD K fv) E σ H:=by
 obtain ⟨B0,H0,ρ,r,⟨N,s⟩,e,p⟩:=q
 unfold oB at e
 split at e
 ·rename_i ks ds ei
  obtain ⟨v,ev,e⟩:=oX e
  obtain ⟨kd,ek,e⟩:=oX e
  obtain ⟨kk,hk,e⟩:=oX e
  split at e
  ·rename_i hx
   cases e
   refine ⟨N,ρ,v.1,v.2,s.ext.nh,s.rep,ev,fun v1 H1 N1 x1 i1 _=>?_⟩
   have s1:=s.grow x1
   obtain ⟨a,o,h1,h2,h3,h4⟩:=s1.ow i _ ei
   refine ⟨.ref a,h1,N1,ρ,kd,s1.ext.nh,s1.rep,ek,fun us H2 N2 x2 i2=>?_⟩
   have s2:=s1.grow x2
   have hv:=ux i2 hk
   refine ⟨by rw [i2.length]; exact hx.2.2,fun pp hp=>?_⟩
   have x3:=Ext.laid (o:=.tup us) s2.ext.nh hp
   have s3:=s2.grow x3
   obtain ⟨a',o',k1,k2,k3,k4⟩:=s3.ow i _ ei
   rw [h1] at k1
   cases k1
   cases k4 with
   | @dt ks vs ds hl h5 =>
    refine ⟨a,_,rfl,.inr ⟨_,kk,pp,s3.ext.nh _ _ k2,rfl,by rw [ax,hv], ?_,rfl⟩, ?_⟩
    ·rw [List.length_zip]; omega
    ·rw [vJ hl]
     exact p σ _ ⟨_,s3.writeB ei h1 (.dt (qc hl _ _) (h5.put (s3.flat ((i1.mono x2.bn).mono x3.bn) hx.1)))⟩
  ·cases e
 ·cases e
end
section
variable {X : Cx} {pos : Pos} {e : Expr} {es : List Expr}
theorem Aw {i : Nat} {y : Str} {py pt tpos : Pos} {x1 : Nat} {fk : FA} {fv : FE} (hu : X.A.units + 1 < cLine) (hv : JE X e fv) (hk : JA X es fk) (hN : X.N[i]? = some y:=by rfl) (hvis : Vis X.env.scope y:=by first | exact Or.inl rfl | exact Or.inr (Or.inl rfl) | exact Or.inr (Or.inr rfl)) (hd : (y == ("__debug__" : Str)) = false:=by decide)
  (hcd : (y == ("__classdict__" : Str)) = false:=by decide) (hs : swapsWith e (some (.Subscript (.Name y py) (.Tuple es x1 tpos) pt)) pos.line X.env = pure false:=by rfl) : JS X (.Assign [.Subscript (.Name y py) (.Tuple es x1 tpos) pt] e pos) (oB i fk fv) :=
 PS.to (zQ hu (pq hN hvis hd hcd) (tG hk) hv hs) fun _ _ _ q=>yJ q
end
end DL
namespace DL
open PySem L2
theorem fJ {tg : FG} {g : FS} (I : Nat->Env->Prop) (ds : List D) (ρ0 : Env) (h0 : I 0 ρ0)
  (step : ∀ i d ρ,ds[i]? = some d->I i ρ->∃ ρ1 ρ',tg d ρ = some ρ1/\(g ρ1 = some (.nx ρ') ∨ g ρ1 = some (.ct ρ'))/\I (i + 1) ρ') :
  ∃ ρ',eY tg g ds ρ0 = some (.nx ρ')/\I ds.length ρ':=by
 have key : ∀ (es : List D) (i : Nat) (ρ : Env),ds.drop i = es->i + es.length = ds.length->I i ρ->∃ ρ',eY tg g es ρ = some (.nx ρ')/\I ds.length ρ':=by
  intro es
  induction es with
  | nil=>intro i ρ e hl h; refine ⟨ρ,by rw [xP], ?_⟩; rw [← hl]; exact h
  | cons d es ih =>
   intro i ρ e hl h
   have hd : ds[i]? = some d:=by
    have : (ds.drop i)[0]? = some d:=by rw [e]; rfl
    rwa [List.getElem?_drop,Nat.add_zero] at this
   obtain ⟨ρ1,ρ',h1,h2,h3⟩:=step i d ρ hd h
   have he : ds.drop (i + 1) = es:=by rw [← List.drop_drop,e]; rfl
   obtain ⟨ρ2,k1,k2⟩:=ih (i + 1) ρ' he (by simp at hl; omega) h3
   refine ⟨ρ2, ?_,k2⟩
   rw [wz,h1]
   rcases h2 with h2 | h2 <;> simp only [Option.bind_some,h2] <;> exact k1
 exact key ds 0 ρ0 (by simp) (by simp) h0
theorem sr {tg : FG} {g : FS} (n : Nat) (I : Nat->Env->Prop) (ρ0 : Env) (h0 : I 0 ρ0)
  (step : ∀ (i : Nat) ρ,i < n->I i ρ->∃ ρ1 ρ',tg (.int (i : Int)) ρ = some ρ1/\(g ρ1 = some (.nx ρ') ∨ g ρ1 = some (.ct ρ'))/\I (i + 1) ρ') :
  ∃ ρ',eY tg g (fg 0 n) ρ0 = some (.nx ρ')/\I n ρ':=by
 have hl : (fg 0 n).length = n:=by simp [fg]
 obtain ⟨ρ',h1,h2⟩:=fJ (tg:=tg) (g:=g) I (fg 0 n) ρ0 h0 fun i d ρ hd h=>by
  unfold fg at hd
  rw [List.getElem?_map] at hd
  obtain ⟨k,hk,hd⟩:=oY hd
  obtain ⟨hlt,hk⟩:=List.getElem?_eq_some_iff.mp hk
  rw [List.length_range] at hlt
  rw [List.getElem_range] at hk
  subst hk
  rw [Int.zero_add] at hd
  subst hd
  exact step i ρ hlt h
 rw [hl] at h2
 exact ⟨ρ',h1,h2⟩
theorem gB {α : Type} {xs : List α} {j : Nat} (h : j < xs.length) : atI xs (j : Int) = some xs[j]:=zM (by simp [h])
theorem qg {α : Type} {xs : List α} {i : Int} (h0 : 0<=i) (h : i.toNat < xs.length) : atI xs i = some xs[i.toNat]:=by
 have:=gB h
 rwa [Int.toNat_of_nonneg h0] at this
@[simp] theorem Bw (xs : List Int) : aS (xs.map D.int) = true:=by
 induction xs with
 | nil=>simp
 | cons x xs ih=>simp [ih]
@[simp] theorem zw (n : Nat) (xs : List Int) : (xs.map D.int).all (ah n) = true:=by
 induction xs with
 | nil=>simp
 | cons x xs ih=>simpa using ih
@[simp] theorem Ax (xs : List Int) : (xs.map D.int).all dH = true:=by
 induction xs with
 | nil=>simp
 | cons x xs ih=>simpa using ih
mutual
def jq : D->D->Bool
 | .non,.non=>true
 | .bl a,.bl b=>a == b
 | .int a,.int b=>decide (a = b)
 | .str a,.str b=>decide (a = b)
 | .ty a,.ty b=>decide (a = b)
 | .tup xs,.tup ys=>mo xs ys
 | .lst xs,.lst ys=>mo xs ys
 | _,_=>false
def mo : List D->List D->Bool
 | [],[]=>true
 | x :: xs,y :: ys=>jq x y && mo xs ys
 | _,_=>false
end
mutual
theorem vK : ∀ {x y : D},jq x y = true->x = y
 | .non,.non,_=>rfl
 | .bl a,.bl b,h=>by simp [jq] at h; rw [h]
 | .int a,.int b,h=>by simp [jq] at h; rw [h]
 | .str a,.str b,h=>by simp [jq] at h; rw [h]
 | .ty a,.ty b,h=>by simp [jq] at h; rw [h]
 | .tup xs,.tup ys,h=>by rw [jq] at h; rw [mq h]
 | .lst xs,.lst ys,h=>by rw [jq] at h; rw [mq h]
theorem mq : ∀ {xs ys : List D},mo xs ys = true->xs = ys
 | [],[],_=>rfl
 | x :: xs,y :: ys,h=>by
  rw [mo,Bool.and_eq_true] at h
  rw [vK h.1,mq h.2]
end
def isR (r : Option (D × Bool)) (d : D) (b : Bool) : Bool:=match r with
 | some (e,c)=>jq e d && c == b
 | none=>false
theorem bd {r : Option (D × Bool)} {d : D} {b : Bool} (h : isR r d b = true) : r = some (d,b):=by
 unfold isR at h
 split at h
 ·rw [Bool.and_eq_true] at h
  rw [vK h.1,eq_of_beq h.2]
 ·cases h
section
variable {f : FE} {c : FT} {g g' h : FS} {ρ ρ' : Env} {i : Nat} {d : D} {b : Bool} {r : Option Res} {ds : List D}
theorem a8 {n k : Nat} (hl : ds.length = n) (e : g (ds.map (fun d=>some (d,false)) ++ List.replicate k none) = some (.rt d b)) : aT g n k ds = some (d,b):=by
 unfold aT; rw [if_pos hl,e]
theorem oC (n : bg d = true) : setE ρ i d b = ρ.set i (some (d,false)):=by unfold setE; rw [if_pos n]
theorem su (n : aS ds = true) : setE ρ i (.lst ds) true = ρ.set i (some (.lst ds,true)):=by
 unfold setE
 rw [if_neg (by simp),if_pos ⟨rfl,by simpa using n⟩]
theorem By (e : f ρ = some (d,b)) (k : h (setE ρ i d b) = r) : aJ (ba i f) h ρ = r:=by simp [e]; exact k
theorem aP (e : f ρ = some (d,b)) (n : bg d = true) (k : h (ρ.set i (some (d,false))) = r) : aJ (ba i f) h ρ = r:=By e (by rw [oC n]; exact k)
theorem bT (e : f ρ = some (.lst ds,true)) (n : aS ds = true) (k : h (ρ.set i (some (.lst ds,true))) = r) : aJ (ba i f) h ρ = r:=By e (by rw [su n]; exact k)
theorem dI (e : g ρ = some (.nx ρ')) (k : h ρ' = r) : aJ g h ρ = r:=by unfold aJ; rw [e]; exact k
theorem EK (e : g ρ = some (.rt d b)) : aJ g h ρ = some (.rt d b):=by unfold aJ; rw [e]
theorem EL (e : g ρ = some (.ct ρ')) : aJ g h ρ = some (.ct ρ'):=by unfold aJ; rw [e]
theorem qh (e : c ρ = some true) (k : g ρ = r) : gIf c g g' ρ = r:=by unfold gIf; rw [e]; exact k
theorem lm (e : c ρ = some false) (k : g' ρ = r) : gIf c g g' ρ = r:=by unfold gIf; rw [e]; exact k
theorem cZ (e : c ρ = some true) (k : g ρ = some (.rt d b)) : aJ (gIf c g g') h ρ = some (.rt d b):=EK (qh e k)
theorem bC (e : c ρ = some false) (k : h ρ = r) : aJ (gIf c g cy) h ρ = r:=dI (lm e rfl) k
theorem aI (e : f ρ = some (d,b)) : b7 f ρ = some (.rt d b):=by simp [e]
theorem jr (e : ρ[i]? = some (some (d,b))) (hb : AV d = false:=by rfl) : io i ρ = some (.rt d b):=by simp only [io,e,hb]; simp
theorem yK (e : f ρ = some (d,b)) (n : bg d = true) : ba i f ρ = some (.nx (ρ.set i (some (d,false)))):=by
 show (f ρ).map _ = _
 rw [e,Option.map_some,oC n]
theorem qi (e : f ρ = some (.lst ds,true)) (n : aS ds = true) : ba i f ρ = some (.nx (ρ.set i (some (.lst ds,true)))):=by
 show (f ρ).map _ = _
 rw [e,Option.map_some,su n]
theorem iM (e : ρ[i]? = some (some (.lst ds,true))) (ef : f ρ = some (d,b)) (n : bg d = true) (l : ds.length < sizeLine) : lD i f ρ = some (.nx (ρ.set i (some (.lst (ds ++ [d]),true)))):=by
 simp [e,ef,n,l]
theorem sv {fi : FA} {tg : FG} {ds : List D} (e : fi ρ = some ds) (k : eY tg g ds ρ = some (.nx ρ')) : nX fi tg g ρ = some (.nx ρ'):=by unfold nX; rw [e]; exact k
theorem js {fi : FA} {tg : FG} {ds : List D} (e : fi (qU ρ) = some ds) (k : eY tg g ds ρ = some (.nx ρ')) : pB fi tg g ρ = some (.nx ρ'):=by unfold pB; rw [e]; exact k
theorem oD {f : FE} {j : Nat} (e : f ρ = some (.int j,b)) (hj : j<=1000) : jM f ρ = some (fg 0 j):=by
 unfold jM; rw [e]; simp only []; rw [if_pos (by omega)]; simp
theorem aC {x : Bool} (e : f ρ = some (.bl x,b)) : tOf f ρ = some x:=by unfold tOf; rw [e]
theorem ai {F : List D->Option (D × Bool)} {fa : FA} {x : Option (D × Bool)} (e : fa ρ = some ds) (k : F ds = x) : fA F fa ρ = x:=by unfold fA; rw [e,Option.bind_some]; exact k
theorem yL {f1 g1 : D->D->Option (D × Bool)} {fa fb fc : FE} {x y z : D} {b1 b2 b3 b4 p q : Bool} (ea : fa ρ = some (x,b1)) (eb : fb ρ = some (y,b2)) (ec : fc ρ = some (z,b3)) (e1 : f1 x y = some (.bl p,b4)) (e2 : p = true->g1 y z = some (.bl q,false)) : jH f1 g1 fa fb fc ρ = some (.bl (p && q),false):=by
 unfold jH
 rw [ea,eb,ec]
 simp only [Option.bind_some,e1]
 cases p
 ·rfl
 ·exact e2 rfl
theorem fq {f1 f2 : FE} {p q b1 : Bool} (e1 : f1 ρ = some (.bl p,b1)) (e2 : p = true->f2 ρ = some (.bl q,false)) : jK f1 f2 ρ = some (.bl (p && q),false):=by
 unfold jK
 rw [e1]
 cases p
 ·rfl
 ·exact e2 rfl
theorem oE {f1 f2 : FE} {p q b1 : Bool} (e1 : f1 ρ = some (.bl p,b1)) (e2 : p = false->f2 ρ = some (.bl q,false)) : fOr f1 f2 ρ = some (.bl (p || q),false):=by
 unfold fOr
 rw [e1]
 cases p
 ·exact e2 rfl
 ·rfl
theorem av {fr : FA} {xs : List D} (e1 : f ρ = some (d,b)) (e2 : fr ρ = some xs) : ae f fr ρ = some (d :: xs):=by
 unfold ae; rw [e1,Option.bind_some,e2,Option.bind_some]
theorem aB {op : D->D->Option (D × Bool)} {fa fb : FE} {x y : D} {b1 b2 : Bool} {z : Option (D × Bool)} (e1 : fa ρ = some (x,b1)) (e2 : fb ρ = some (y,b2)) (e3 : op x y = z) : f2 op fa fb ρ = z:=by
 unfold f2; rw [e1,Option.bind_some,e2,Option.bind_some]; exact e3
theorem cK {c1 c2 : FT} {p q : Bool} (e1 : c1 ρ = some p) (e2 : p = true->c2 ρ = some q) : cx c1 c2 ρ = some (p && q):=by
 unfold cx
 rw [e1]
 cases p
 ·rfl
 ·exact e2 rfl
theorem gC {c1 c2 : FT} {p q : Bool} (e1 : c1 ρ = some p) (e2 : p = false->c2 ρ = some q) : gs c1 c2 ρ = some (p || q):=by
 unfold gs
 rw [e1]
 cases p
 ·exact e2 rfl
 ·rfl
theorem lx {c1 : FT} {p : Bool} (e1 : c1 ρ = some p) : gt c1 ρ = some (!p):=by
 unfold gt; rw [e1]; rfl
end
theorem lt1 (a c : Nat) : decide ([a] < [c]) = decide (a < c):=by
 congr 1
 rw [List.cons_lt_cons_iff]
 simp
@[simp] theorem En (a c : Nat) : dLe (.str ⟨#[a]⟩) (.str ⟨#[c]⟩) = some (.bl (decide (a<=c)),false):=by
 unfold dLe
 show some (D.bl (!decide ([c] < [a])),false) = _
 rw [lt1]
 congr 3
 by_cases h : c < a
 ·rw [decide_eq_true h,decide_eq_false (by omega)]; rfl
 ·rw [decide_eq_false h,decide_eq_true (by omega)]; rfl
theorem cc {n : Nat} (h : n<=100000) : n < sizeLine:=Nat.lt_of_le_of_lt h (by decide)
theorem b8 {n : Nat} (h : n<=100000) : n<=sizeLine:=Nat.le_of_lt (cc h)
theorem gD {α : Type} {fi : FA} {nT : Nat} {cap : List Nat} {tg : FG} {c : FT} {fe : FE} {ρ : DL.Env} (l : List α) (g : α->D) (p : α->Bool) (h : α->D) (e : fi ρ = some (l.map g)) (hl : l.length<=100000)
  (k : ∀ x ∈ l,∃ ρ1,tg (g x) (bw nT cap ρ) = some ρ1/\c ρ1 = some (p x)/\(p x = true->∃ b,fe ρ1 = some (h x,b))) : bK fi nT cap tg c fe ρ = some (.lst ((l.filter p).map h),true):=by
 have key : ∀ l' : List α,(∀ x ∈ l',x ∈ l)->dS tg c fe (bw nT cap ρ) (l'.map g) = some ((l'.filter p).map h):=by
  intro l'
  induction l' with
  | nil=>intro _; simp
  | cons x l' ih =>
   intro hm
   obtain ⟨ρ1,h1,h2,h3⟩:=k x (hm x mX)
   have ih:=ih fun y hy=>hm y (mZ _ hy)
   rw [List.map_cons,tN,h1,Option.bind_some,h2,Option.bind_some]
   cases hp : p x with
   | false=>simp [hp,ih]
   | true =>
    obtain ⟨b,h4⟩:=h3 hp
    simp [hp,ih,h4]
 unfold bK
 rw [e,Option.bind_some,if_pos (b8 (by simpa using hl)),key l fun _ h=>h,Option.map_some]
theorem sw {α : Type} {fi : FA} {nT : Nat} {cap : List Nat} {tg : FG} {fe : FE} {ρ : DL.Env} (l : List α) (g : α->D) (h : α->D) (e : fi ρ = some (l.map g)) (hl : l.length<=100000)
  (k : ∀ x ∈ l,∃ ρ1,tg (g x) (bw nT cap ρ) = some ρ1/\∃ b,fe ρ1 = some (h x,b)) : bK fi nT cap tg iq fe ρ = some (.lst (l.map h),true):=by
 have:=gD (c:=iq) (fe:=fe) l g (fun _=>true) h e hl fun x hx=>by
  obtain ⟨ρ1,h1,h2⟩:=k x hx
  exact ⟨ρ1,h1,rfl,fun _=>h2⟩
 rw [List.filter_eq_self.mpr fun _ _=>rfl] at this
 exact this
@[simp] theorem Ed {α : Type} (f : α->Bool) (l : List α) : tV (l.map fun x=>.bl (f x)) = some (l.map f):=by
 induction l with
 | nil=>rfl
 | cons x l ih=>simp [ih]
theorem tK {z : Str} {i : Int} (h0 : 0<=i) (h : i.toNat < z.cps.size) (hz : z.length<=100000) : ixD (.str z) (.int i) = some (.str ⟨#[z.cps.toList.getD i.toNat 0]⟩,false):=by
 have hh : i.toNat < z.cps.toList.length:=by simpa using h
 simp only [ixD]
 rw [if_pos (b8 hz),qg h0 hh]
 simp [List.getD,h]
theorem uy {ds : List D} {i : Int} (h0 : 0<=i) (h : i.toNat < ds.length) : ixD (.lst ds) (.int i) = some (ds.getD i.toNat .non,false):=by
 simp only [ixD]
 rw [qg h0 h]
 simp [List.getD,h]
theorem xB {ds : List D} {i : Int} (h0 : 0<=i) (h : i.toNat < ds.length) : ixD (.tup ds) (.int i) = some (ds.getD i.toNat .non,false):=by
 simp only [ixD]
 rw [qg h0 h]
 simp [List.getD,h]
theorem vL {xs : List Int} {i : Int} (h0 : 0<=i) (h : i.toNat < xs.length) : ixD (.lst (xs.map .int)) (.int i) = some (.int (xs.getD i.toNat 0),false):=by
 rw [uy h0 (by simpa using h)]
 simp [List.getD,h]
theorem mod_lt {x m : Int} (hm : 0 < m) : 0<=x % m/\x % m < m:=⟨Int.emod_nonneg _ (by omega),Int.emod_lt_of_pos _ hm⟩
theorem Ay {ds : List D} : dC [.lst ds] = some (.int ds.length,false):=rfl
theorem vM {i j : Int} : dEq (.int i) (.int j) = some (.bl (decide (i = j)),false):=by simp
theorem jt {n d : Nat} {v : Int} (h : 0<=v) : HT.sIx n d (some v) = min v.toNat n:=by
 show (if v < 0 then (v + (n : Int)).toNat else min v.toNat n) = _
 rw [if_neg (by omega)]
def yM {α : Type} (xs : List α) (lo hi : Option Int) : List α:=(xs.drop (HT.sIx xs.length 0 lo)).take (HT.sIx xs.length xs.length hi - HT.sIx xs.length 0 lo)
theorem yN {α : Type} (f : α->D) (xs : List α) (lo hi : Option Int) : ij (xs.map f) lo hi = (yM xs lo hi).map f:=by
 unfold ij yM
 rw [List.length_map,List.map_take,List.map_drop]
end DL
namespace Lw
open PySem DL
def eP : List (PySem.Str × D):=[(("root" : Str),(.tup [(.str "office"),(.str "matters"),(.str "further"),(.str "rule")])),(("named" : Str),(.tup [(.str "day"),(.str "office"),(.str "person")])),(("chosen" : Str),(.tup [(.str "day"),(.str "by"),(.str "office"),(.str "person"),(.str "since")])),(("heir" : Str),(.tup [(.str "day"),(.str "by"),(.str "office"),(.str "person")])),(("death" : Str),(.tup [(.str "day"),(.str "person")])),(("lost" : Str),(.tup [(.str "day"),(.str "person")])),(("found" : Str),(.tup [(.str "day"),(.str "person")])),(("leave" : Str),(.tup [(.str "day"),(.str "by"),(.str "person"),(.str "matters"),(.str "stretch"),(.str "further")])),(("paper" : Str),(.tup [(.str "day"),(.str "by"),(.str "matters"),(.str "stretch"),(.str "whom"),(.str "pieces")])),(("like" : Str),(.tup [(.str "day"),(.str "by"),(.str "matters"),(.str "stretch"),(.str "whom"),(.str "of"),(.str "changes")])),(("copy" : Str),(.tup [(.str "day"),(.str "by"),(.str "of")])),(("call" : Str),(.tup [(.str "day"),(.str "by"),(.str "of")]))]
def dq : D:=(.tup [(.str "chosen"),(.str "heir"),(.str "leave"),(.str "paper"),(.str "like"),(.str "copy"),(.str "call")])
def oF : FS :=
  (b7 (f2 ixD (f2 ixD (af 0) (fC (.int 1))) (fC (.int 0))))
def aD : List D->Option (D × Bool):=aT oF 1 0
def oG : FS :=
  (b7 (f2 ixD (f2 ixD (af 0) (fC (.int 1))) (f2 cS (fC (.int 1)) (f2 (nF eP) (fA aD (ae (af 0) ak)) (af 1)))))
def am : List D->Option (D × Bool):=aT oG 2 0
def sx : FS :=
  (aJ (gIf (tOf (f2 dEq (fA aD (ae (af 0) ak)) (fC (.str "root")))) (b7 (fC .non)) cy)
  (b7 (fA am (ae (af 0) (ae (fC (.str "day")) ak)))))
def aL : List D->Option (D × Bool):=aT sx 1 0
def vN : FS :=
  (b7 (bK (yo (af 0)) 2 [1] (tgT [0,1]) (tOf (f2 dLe (f2 ixD (af 1) (fC (.int 0))) (af 2))) (af 0)))
def ce : List D->Option (D × Bool):=aT vN 2 0
def yO : FS :=
  (b7 (fA aZ (ae (fA aL (ae (f2 ixD (af 0) (af 1)) ak)) (ae (af 1) ak))))
def cN : List D->Option (D × Bool):=aT yO 2 0
def mr : FS :=
  (aJ (ba 2 (bK (bL (fA ce (ae (af 0) (ae (af 1) ak)))) 1 [0] (tgN 0) (tOf (f2 jL (fA aL (ae (f2 ixD (af 1) (af 0)) ak)) (fC .non))) (af 0)))
  (b7 (jT (af 2) (si [0] (fA cN (ae (af 1) (ae (af 0) ak)))))))
def du : List D->Option (D × Bool):=aT mr 2 1
def kH : FS :=
  (b7 (fA aZ (ae (f2 ixD (af 0) (fC (.int 0))) (ae (f2 ixD (af 0) (fC (.int 2))) (ae (f2 ixD (af 0) (fC (.int 4))) ak)))))
def cQ : List D->Option (D × Bool):=aT kH 1 0
def vO : FS :=
  (aJ (ba 2 (bK (bL (fA ce (ae (af 0) (ae (af 1) ak)))) 1 [0] (tgN 0) iq (f2 ixD (af 1) (af 0))))
  (b7 (fA fY (ae (bK (bL (af 2)) 1 [] (tgN 0) (tOf (f2 dEq (fA aD (ae (af 0) ak)) (fC (.str "root")))) (fA aZ (ae (fA am (ae (af 0) (ae (fC (.str "office")) ak))) (ae (af 0) ak)))) ak))))
def eQ : List D->Option (D × Bool):=aT vO 2 1
def ms : FS :=
  (b7 (jK (jH dLe dLt (fC (.int 0)) (af 2) (fA dC (ae (af 0) ak))) (f2 dLe (f2 ixD (f2 ixD (af 0) (af 2)) (fC (.int 0))) (af 1))))
def eB : List D->Option (D × Bool):=aT ms 3 0
def vP : FS :=
  (b7 (jK (f2 dIn (fA aD (ae (af 0) ak)) (af 1)) (jK (f2 dEq (fA am (ae (af 0) (ae (fC (.str "person")) ak))) (af 2)) (f2 dLe (fA aL (ae (af 0) ak)) (af 3)))))
def ju : List D->Option (D × Bool):=aT vP 4 0
def oH : FS :=
  (b7 (bK (bL (fA ce (ae (af 0) (ae (af 1) ak)))) 1 [2,3,4,0] (tgN 0) (tOf (fA ju (ae (f2 ixD (af 4) (af 0)) (ae (af 1) (ae (af 2) (ae (af 3) ak)))))) (af 0)))
def cC : List D->Option (D × Bool):=aT oH 5 0
def vQ : FS :=
  (b7 (f2 dEq (fA dC (ae (fA cC (ae (af 0) (ae (af 1) (ae (fA aZ (ae (fC (.str "death")) ak)) (ae (af 2) (ae (af 3) ak)))))) ak)) (fC (.int 0))))
def fZ : List D->Option (D × Bool):=aT vQ 4 0
def mt : FS :=
  (aJ (ba 4 (fA cC (ae (af 0) (ae (af 1) (ae (fA aZ (ae (fC (.str "lost")) (ae (fC (.str "found")) ak))) (ae (af 2) (ae (af 3) ak)))))))
  (aJ (gIf (tOf (f2 dEq (fA dC (ae (af 4) ak)) (fC (.int 0)))) (b7 (fC (.bl true))) cy)
  (b7 (f2 dEq (fA aD (ae (f2 ixD (af 0) (ma (af 4) (si [0] (fA cN (ae (af 1) (ae (af 0) ak)))))) ak)) (fC (.str "found"))))))
def ga : List D->Option (D × Bool):=aT mt 4 1
def mv : FS :=
  (aJ (gIf (gs (gt (tOf (fA eB (ae (af 0) (ae (af 1) (ae (af 2) ak)))))) (tOf (f2 dX (fA aD (ae (f2 ixD (af 0) (af 2)) ak)) (fC dq)))) (b7 (fC (.bl false))) cy)
  (aJ (ba 3 (fA am (ae (f2 ixD (af 0) (af 2)) (ae (fC (.str "by")) ak))))
  (aJ (ba 4 (fA aL (ae (f2 ixD (af 0) (af 2)) ak)))
  (b7 (jK (fA fZ (ae (af 0) (ae (af 1) (ae (af 3) (ae (af 4) ak))))) (fA ga (ae (af 0) (ae (af 1) (ae (af 3) (ae (af 4) ak))))))))))
def gb : List D->Option (D × Bool):=aT mv 3 2
def oJ : FS :=
  (b7 (jK (f2 dLe (f2 ixD (af 1) (fC (.int 0))) (af 0)) (fOr (f2 dIs (f2 ixD (af 1) (fC (.int 1))) (fC .non)) (f2 dLt (af 0) (f2 ixD (af 1) (fC (.int 1)))))))
def gZ : List D->Option (D × Bool):=aT oJ 2 0
def mw : FS :=
  (b7 (fA gZ (ae (af 1) (ae (fA aZ (ae (f2 ixD (af 0) (fC (.int 2))) (ae (f2 ixD (af 0) (fC (.int 3))) ak))) ak))))
def bp : List D->Option (D × Bool):=aT mw 2 0
def m4 : FS :=
  (b7 (fA aZ (ae (f2 ixD (af 0) (fC (.int 2))) (ae (f2 ixD (af 0) (fC (.int 4))) ak))))
def bA : List D->Option (D × Bool):=aT m4 1 0
def m6 : FS :=
  (aJ (gIf (tOf (f2 dEq (af 1) (fC (.str "last")))) (b7 (f2 ixD (ma (af 0) (nG bA)) (fC (.int 1)))) cy)
  (b7 (f2 ixD (md (af 0) (nG bA)) (fC (.int 1)))))
def gc : List D->Option (D × Bool):=aT m6 2 0
def kI : FS :=
  (aJ (ba 3 (bK (bL (af 0)) 1 [2,1] (tgN 0) (cx (tOf (f2 dEq (f2 ixD (af 0) (fC (.int 0))) (fA am (ae (af 2) (ae (fC (.str "office")) ak))))) (tOf (fA bp (ae (af 0) (ae (af 1) ak))))) (af 0)))
  (aJ (ba 4 (f1 cG (bK (bL (af 3)) 1 [] (tgN 0) iq (f2 ixD (af 0) (fC (.int 1))))))
  (aJ (gIf (tOf (f2 dEq (fA dC (ae (af 4) ak)) (fC (.int 0)))) (b7 (fA aZ (ae (fC (.str "none")) ak))) cy)
  (aJ (gIf (cx (tOf (f2 iGt (fA dC (ae (af 4) ak)) (fC (.int 1)))) (tOf (f2 dEq (fA am (ae (af 1) (ae (fC (.str "rule")) ak))) (fC (.str "open"))))) (b7 (fA aZ (ae (fC (.str "parted")) (ae (af 4) ak)))) cy)
  (aJ (ba 5 (fA gc (ae (af 3) (ae (fA am (ae (af 1) (ae (fC (.str "rule")) ak))) ak))))
  (aJ (ba 6 (md (bK (bL (af 3)) 1 [5] (tgN 0) (tOf (f2 dEq (f2 ixD (af 0) (fC (.int 1))) (af 1))) (af 0)) (nG bA)))
  (b7 (fA aZ (ae (fC (.str "one")) (ae (af 5) (ae (f2 ixD (af 6) (fC (.int 4))) ak)))))))))))
def bX : List D->Option (D × Bool):=aT kI 3 4
def jv : FS :=
  (b7 (f2 dEq (fSl (fA bX (ae (af 0) (ae (af 1) (ae (af 3) ak)))) ir (dW (fC (.int 2)))) (fA aZ (ae (fC (.str "one")) (ae (af 2) ak)))))
def da : List D->Option (D × Bool):=aT jv 4 0
def fK : FS :=
  (aJ (ba 3 (f2 ixD (af 0) (af 2)))
  (aJ (ba 4 (fA cC (ae (af 0) (ae (af 1) (ae (fA aZ (ae (fC (.str "death")) ak)) (ae (fA am (ae (af 3) (ae (fC (.str "person")) ak))) (ae (fA aL (ae (af 3) ak)) ak)))))))
  (b7 (f2 dEq (md (af 4) (si [0] (fA cN (ae (af 1) (ae (af 0) ak))))) (af 2)))))
def cD : List D->Option (D × Bool):=aT fK 3 2
def sy : FS :=
  (aJ (ba 4 (f2 ixD (af 0) (af 3)))
  (aJ (gIf (tOf (f2 dEq (fA aD (ae (af 4) ak)) (fC (.str "death")))) (b7 (fA cD (ae (af 0) (ae (af 1) (ae (af 3) ak))))) cy)
  (aJ (gIf (tOf (f2 dX (fA aD (ae (af 4) ak)) (fA aZ (ae (fC (.str "named")) (ae (fC (.str "chosen")) (ae (fC (.str "heir")) ak)))))) (b7 (fC (.bl false))) cy)
  (aJ (ba 5 (f2 uu (fA eQ (ae (af 0) (ae (af 1) ak))) (fA am (ae (af 4) (ae (fC (.str "office")) ak)))))
  (aJ (gIf (tOf (f2 dIs (af 5) (fC .non))) (b7 (fC (.bl false))) cy)
  (aJ (gIf (tOf (f2 dEq (fA aD (ae (af 4) ak)) (fC (.str "named")))) (b7 (fC (.bl true))) cy)
  (b7 (jK (fA gb (ae (af 0) (ae (af 1) (ae (af 3) ak)))) (fA da (ae (af 2) (ae (af 5) (ae (fA am (ae (af 4) (ae (fC (.str "by")) ak))) (ae (fA aL (ae (af 4) ak)) ak)))))))))))))
def gE : List D->Option (D × Bool):=aT sy 4 2
def kJ : FS :=
  (b7 (fA aZ (ae (fA am (ae (af 0) (ae (fC (.str "office")) ak))) (ae (fA am (ae (af 0) (ae (fC (.str "person")) ak))) (ae (af 1) (ae (fC .non) (ae (af 2) ak)))))))
def c8 : List D->Option (D × Bool):=aT kJ 3 0
def m7 : FS :=
  (gIf (gs (tOf (f2 dX (f2 ixD (af 5) (fC (.int 0))) (af 1))) (gs (tOf (f2 dNe (f2 ixD (af 5) (fC (.int 1))) (af 2))) (gt (gs (tOf (fA bp (ae (af 5) (ae (af 3) ak)))) (tOf (f2 iGt (f2 ixD (af 5) (fC (.int 2))) (af 3))))))) (lD 4 (af 5)) (gIf (tOf (f2 dLt (f2 ixD (af 5) (fC (.int 2))) (af 3))) (lD 4 (fA aZ (ae (f2 ixD (af 5) (fC (.int 0))) (ae (af 2) (ae (f2 ixD (af 5) (fC (.int 2))) (ae (af 3) (ae (f2 ixD (af 5) (fC (.int 4))) ak))))))) cy))
def vR : FS :=
  (aJ (ba 4 (fA cE ak))
  (aJ (pB (bL (af 0)) (tgN 5) m7)
  (io 4)))
def hU : List D->Option (D × Bool):=aT vR 4 2
def gF : FS :=
  (aJ (ba 3 (fA am (ae (af 1) (ae (fC (.str "since")) ak))))
  (aJ (ba 4 (fA hU (ae (af 0) (ae (fA cE (ae (fA am (ae (af 1) (ae (fC (.str "office")) ak))) ak)) (ae (fA am (ae (af 1) (ae (fC (.str "by")) ak))) (ae (af 3) ak))))))
  (b7 (f2 cS (af 4) (fA cE (ae (fA c8 (ae (af 1) (ae (af 3) (ae (af 2) ak)))) ak))))))
def dc : List D->Option (D × Bool):=aT gF 3 2
def dM : FS :=
  (aJ (ba 9 (yH (af 3) (ae (af 8) (ae (af 5) ak))))
  (gIf (cx (tOf (f2 jL (af 9) (fC .non))) (tOf (fA fZ (ae (af 0) (ae (af 1) (ae (af 9) (ae (af 6) ak))))))) (lD 7 (fA aZ (ae (af 8) (ae (af 9) (ae (af 6) (ae (fC .non) (ae (af 4) ak))))))) cy))
def kK : FS :=
  (aJ (ba 5 (fA am (ae (f2 ixD (af 0) (af 4)) (ae (fC (.str "person")) ak))))
  (aJ (ba 6 (fA aL (ae (f2 ixD (af 0) (af 4)) ak)))
  (aJ (ba 7 (fA cE ak))
  (aJ (gUn [5,6] (pB (bL (f1 cG (bK (bL (af 2)) 1 [5,6] (tgN 0) (cx (tOf (f2 dEq (f2 ixD (af 0) (fC (.int 1))) (af 1))) (tOf (fA bp (ae (af 0) (ae (af 2) ak))))) (f2 ixD (af 0) (fC (.int 0)))))) (tgN 8) dM))
  (io 7)))))
def eR : List D->Option (D × Bool):=aT kK 5 5
def i6 : FS :=
  (aJ (ba 5 (bK (bL (af 2)) 1 [] (tgN 0) iq (f2 ixD (af 0) (fC (.int 0)))))
  (aJ (ba 6 (fA hU (ae (af 2) (ae (af 5) (ae (fA am (ae (f2 ixD (af 0) (af 4)) (ae (fC (.str "person")) ak))) (ae (fA aL (ae (f2 ixD (af 0) (af 4)) ak)) ak))))))
  (b7 (f2 cS (af 6) (fA eR (ae (af 0) (ae (af 1) (ae (af 2) (ae (af 3) (ae (af 4) ak))))))))))
def d5 : List D->Option (D × Bool):=aT i6 5 2
def hV : FS :=
  (aJ (ba 5 (f2 ixD (af 0) (af 4)))
  (aJ (gIf (gt (tOf (fA gE (ae (af 0) (ae (af 1) (ae (af 2) (ae (af 4) ak))))))) Bu cy)
  (gIf (tOf (f2 dEq (fA aD (ae (af 5) ak)) (fC (.str "named")))) (ba 2 (f2 cS (af 2) (fA cE (ae (fA c8 (ae (af 5) (ae (fA aL (ae (af 5) ak)) (ae (af 4) ak)))) ak)))) (gIf (tOf (f2 dEq (fA aD (ae (af 5) ak)) (fC (.str "chosen")))) (ba 2 (fA dc (ae (af 2) (ae (af 5) (ae (af 4) ak))))) (gIf (tOf (f2 dEq (fA aD (ae (af 5) ak)) (fC (.str "heir")))) (oB 3 (ae (fA am (ae (af 5) (ae (fC (.str "office")) ak))) (ae (fA am (ae (af 5) (ae (fC (.str "by")) ak))) ak)) (fA am (ae (af 5) (ae (fC (.str "person")) ak)))) (ba 2 (fA d5 (ae (af 0) (ae (af 1) (ae (af 2) (ae (af 3) (ae (af 4) ak))))))))))))
def sA : FS :=
  (aJ (ba 2 (fA cE ak))
  (aJ (yE 3)
  (aJ (pB (bL (fA du (ae (af 0) (ae (af 1) ak)))) (tgN 4) hV)
  (b7 (jT (af 2) (nG cQ))))))
def cI : List D->Option (D × Bool):=aT sA 2 4
def sC : FS :=
  (aJ (ba 4 (f2 uu (fA eQ (ae (af 0) (ae (af 1) ak))) (af 2)))
  (aJ (gIf (tOf (f2 dIs (af 4) (fC .non))) (b7 (fA aZ (ae (fC (.str "none")) ak))) cy)
  (b7 (fA bX (ae (fA cI (ae (af 0) (ae (af 1) ak))) (ae (af 4) (ae (af 3) ak)))))))
def dA : List D->Option (D × Bool):=aT sC 4 1
def kL : FS :=
  (aJ (gIf (tOf (f2 dLt (af 1) (fA dC (ae (af 0) ak)))) (b7 (f2 ixD (af 0) (af 1))) cy)
  (b7 (fC (.int 0))))
def aR : List D->Option (D × Bool):=aT kL 2 0
def m8 : FS :=
  (aJ (ba 7 (f2 ixD (fC (.str "bqcxdlenhusv")) (f2 f6 (f2 cS (f2 lI (af 0) (fC (.int 64))) (f2 Cw (fC (.int 5)) (af 6))) (fC (.int 12)))))
  (lD 5 (f2 cS (f2 cS (fSl (af 3) ir (dW (af 4))) (af 7)) (fSl (af 3) (dW (f2 cS (af 4) (fC (.int 1)))) ir))))
def oK : FS :=
  (aJ (ba 2 (f2 cS (fC (.int 1)) (f2 f6 (af 0) (fC (.int 8)))))
  (aJ (ba 3 (fSl (fC (.str "gmtazkfw")) ir (dW (af 2))))
  (aJ (ba 4 (f2 f6 (f2 lI (af 0) (fC (.int 8))) (af 2)))
  (aJ (ba 5 (fA cE ak))
  (aJ (nX (jM (af 1)) (tgN 6) m8)
  (io 5))))))
def hZ : List D->Option (D × Bool):=aT oK 2 6
def mB : FS :=
  (aJ (ba 4 (f2 f6 (f2 cS (f2 cS (f2 Cw (af 4) (fC (.int 48271))) (fA dC (ae (af 3) ak))) (fC (.int 1))) (fC (.int 2147483647))))
  (lD 3 (af 4)))
def oM : FS :=
  (aJ (ba 3 (fSl (af 0) (dW (af 1)) (dW (f2 cS (af 1) (af 2)))))
  (aJ (ba 4 (f2 f6 (fA aR (ae (af 0) (ae (fC (.int 1)) ak))) (fC (.int 2147483647))))
  (aJ (eX (cx (tOf (f2 dEq (f2 f6 (f2 lI (fA aR (ae (af 0) (ae (fC (.int 0)) ak))) (fC (.int 21))) (fC (.int 8))) (fC (.int 5)))) (tOf (f2 dLt (fA dC (ae (af 3) ak)) (af 2)))) mB 1000)
  (io 3))))
def fL : List D->Option (D × Bool):=aT oM 3 2
def jU : FS :=
  (aJ (ba 4 (f2 f6 (f2 lI (af 3) (fC (.int 8))) (fC (.int 13))))
  (aJ (ba 5 (f2 ixD (af 1) (f2 f6 (f2 lI (af 3) (fC (.int 104))) (fA dC (ae (af 1) ak)))))
  (aJ (ba 6 (fA cE (ae (fA aZ (ae (fC (.str "death")) (ae (af 4) (ae (af 5) ak)))) (ae (fA aZ (ae (fC (.str "lost")) (ae (af 4) (ae (af 5) ak)))) (ae (fA aZ (ae (fC (.str "paper")) (ae (af 4) (ae (af 5) (ae (fC (.int 3)) (ae (fA aZ (ae (fC (.int 0)) (ae (fC .non) ak))) (ae (fC .non) (ae (fA aZ (ae (fC (.str "a")) ak)) ak)))))))) ak)))))
  (aJ (ba 6 (f2 ixD (f2 cS (af 6) (Ec (fA cE (ae (fA aZ (ae (fC (.str "named")) (ae (af 4) (ae (fC (.str "crown")) (ae (af 5) ak))))) ak)) (fC (.int 5)))) (f2 f6 (af 3) (fC (.int 8)))))
  (lD 2 (fA aZ (ae (f2 cS (af 4) (f2 ixD (fA cE (ae (fC (.int 0)) (ae (fC (.int 0)) (ae (fC (.int 1)) (ae (fC (.int 5)) ak))))) (f2 f6 (f2 lI (af 3) (fC (.int 624))) (fC (.int 4))))) (ae (af 6) ak))))))))
def sD : FS :=
  (aJ (ba 2 (fA cE ak))
  (aJ (pB (bL (fA fL (ae (af 0) (ae (fC (.int 5)) (ae (fC (.int 30)) ak))))) (tgN 3) jU)
  (io 2)))
def jw : List D->Option (D × Bool):=aT sD 2 5
def oN : FS :=
  (aJ (ba 2 (bK (bL (af 0)) 1 [1] (tgN 0) (cx (tOf (f2 dLe (f2 ixD (af 0) (fC (.int 2))) (af 1))) (gs (tOf (f2 dIs (f2 ixD (af 0) (fC (.int 3))) (fC .non))) (tOf (f2 dLt (af 1) (f2 ixD (af 0) (fC (.int 3))))))) (fA aZ (ae (f2 ixD (af 0) (fC (.int 2))) (ae (f2 ixD (af 0) (fC (.int 4))) (ae (f2 ixD (af 0) (fC (.int 1))) ak))))))
  (b7 (fA eN (ae (af 2) ak))))
def ia : List D->Option (D × Bool):=aT oN 2 1
def oP : FS :=
  (aJ (vt [2,3,4] (af 0))
  (aJ (ba 5 (f1 cG (bK (bL (af 1)) 1 [] (tgN 0) iq (f2 ixD (af 0) (fC (.int 2))))))
  (aJ (gIf (tOf (f2 dLt (fA dC (ae (af 5) ak)) (fC (.int 2)))) (aJ (ba 6 (fA aZ (ae (fC (.str "none")) ak)))
  (aJ (gIf (tOf (f2 dEq (fA dC (ae (af 5) ak)) (fC (.int 1)))) (ba 6 (fA aZ (ae (fC (.str "one")) (ae (f2 ixD (af 5) (fC (.int 0))) (ae (f2 ixD (f2 ixD (af 1) (fC (.int 0))) (fC (.int 1))) ak))))) cy)
  (b7 (jK (f2 dEq (af 2) (af 6)) (jK (f2 dEq (af 3) (af 6)) (f2 dEq (af 4) (af 6))))))) cy)
  (aJ (gIf (gs (tOf (f2 dNe (af 2) (fA aZ (ae (fC (.str "parted")) (ae (af 5) ak))))) (tOf (f2 dNe (af 3) (fA aZ (ae (fC (.str "one")) (ae (f2 ixD (f2 ixD (af 1) (fC (.int 0))) (fC (.int 2))) (ae (f2 ixD (f2 ixD (af 1) (fC (.int 0))) (fC (.int 1))) ak))))))) (b7 (fC (.bl false))) cy)
  (aJ (ba 7 (bK (bL (af 1)) 1 [1] (tgN 0) (tOf (f2 dEq (f2 ixD (af 0) (fC (.int 2))) (f2 ixD (f2 ixD (af 1) (f1 rz (fC (.int 1)))) (fC (.int 2))))) (f2 ixD (af 0) (fC (.int 1)))))
  (b7 (f2 dEq (af 4) (fA aZ (ae (fC (.str "one")) (ae (f2 ixD (f2 ixD (af 1) (f1 rz (fC (.int 1)))) (fC (.int 2))) (ae (f2 ixD (af 7) (fC (.int 0))) ak)))))))))))
def ib : List D->Option (D × Bool):=aT oP 2 6
def uz : FS :=
  (lD 5 (fA cX (ae (f2 cS (f2 cS (fSl (af 2) ir (dW (af 3))) (fA cE (ae (fA aZ (ae (fC (.int 0)) (ae (fA aZ (ae (fC (.str "root")) (ae (fC (.str "crown")) (ae (fC (.int 255)) (ae (fC (.int 0)) (ae (af 6) ak)))))) ak))) ak))) (fSl (af 2) (dW (af 3)) ir)) ak)))
def yP : FS :=
  (gIf (gt (tOf (fA ib (ae (bK (bL (af 5)) 1 [4,8] (tgN 0) iq (fA dA (ae (af 0) (ae (af 1) (ae (fC (.str "crown")) (ae (af 2) ak)))))) (ae (fA ia (ae (af 7) (ae (af 8) ak))) ak))))) (b7 (fC (.bl false))) cy)
def yQ : FS :=
  (aJ (ba 1 (fA hZ (ae (fA aR (ae (af 0) (ae (fC (.int 2)) ak))) (ae (f2 cS (fC (.int 2)) (f2 f6 (fA aR (ae (af 0) (ae (fC (.int 0)) ak))) (fC (.int 5)))) ak))))
  (aJ (ba 2 (fA jw (ae (af 0) (ae (af 1) ak))))
  (aJ (ba 3 (f2 f6 (fA aR (ae (af 0) (ae (fC (.int 1)) ak))) (f2 cS (fA dC (ae (af 2) ak)) (fC (.int 1)))))
  (aJ (ba 4 (f2 ixD (fA cE (ae (fC (.int 50)) (ae (f2 f6 (f2 lI (fA aR (ae (af 0) (ae (fC (.int 3)) ak))) (fC (.int 2))) (fC (.int 15))) ak))) (f2 f6 (fA aR (ae (af 0) (ae (fC (.int 3)) ak))) (fC (.int 2)))))
  (aJ (ba 5 (fA cE ak))
  (aJ (pB (bL (fA cE (ae (fC (.str "open")) (ae (fC (.str "first")) (ae (fC (.str "last")) ak))))) (tgN 6) uz)
  (aJ (ba 7 (fA cI (ae (f2 ixD (af 5) (fC (.int 0))) (ae (af 4) ak))))
  (aJ (gIf (gs (tOf (f2 dNe (fA cI (ae (f2 ixD (af 5) (fC (.int 1))) (ae (af 4) ak))) (af 7))) (tOf (f2 dNe (fA cI (ae (f2 ixD (af 5) (fC (.int 2))) (ae (af 4) ak))) (af 7)))) (b7 (fC (.bl false))) cy)
  (aJ (nX (jM (fC (.int 15))) (tgN 8) yP)
  (aJ (ba 9 (f2 ixD (af 1) (f2 f6 (fA aR (ae (af 0) (ae (fC (.int 4)) ak))) (fA dC (ae (af 1) ak)))))
  (aJ (ba 10 (fA cX (ae (f2 cS (fA fW (ae (f2 ixD (af 5) (fC (.int 1))) ak)) (fA cE (ae (fA aZ (ae (fC (.int 50)) (ae (fA aZ (ae (fC (.str "death")) (ae (fC (.int 20)) (ae (af 9) ak)))) ak))) ak))) ak)))
  (aJ (ba 11 (bK (bL (af 2)) 2 [9] (tgT [0,1]) (cx (tOf (f2 dEq (f2 ixD (af 1) (fC (.int 0))) (fC (.str "death")))) (tOf (f2 dEq (f2 ixD (af 1) (fC (.int 2))) (af 2)))) (af 1)))
  (aJ (ba 12 (fA dA (ae (af 10) (ae (fC (.int 50)) (ae (fC (.str "crown")) (ae (f2 cS (fC (.int 20)) (f2 f6 (f2 lI (fA aR (ae (af 0) (ae (fC (.int 4)) ak))) (fC (.int 6))) (fC (.int 9000)))) ak))))))
  (b7 (fOr (f2 dNe (af 11) (fA cE ak)) (fOr (f2 dEq (f2 ixD (af 12) (fC (.int 0))) (fC (.str "none"))) (f2 dNe (f2 ixD (af 12) (fC (.int 1))) (af 9))))))))))))))))))
def F_law : List D->Option (D × Bool):=aT yQ 1 12
end Lw
namespace Lw
open PySem DL L2
theorem qj (ns : List Int) (k : Nat) : aR [.lst (ns.map .int),.int k] = some (.int (ns.getD k 0),false):=by
 by_cases h : k < ns.length
 ·refine a8 rfl (cZ (aC (b:=false) (by simp; omega)) (aI ?_))
  exact aB (x:=.lst (ns.map .int)) (y:=.int k) (b1:=false) (b2:=false) rfl rfl (by have:=vL (xs:=ns) (i:=k) (by omega) (by simpa using h); simpa using this)
 ·have z : ns.getD k 0 = 0:=by simp [List.getD_eq_getElem?_getD,List.getElem?_eq_none (Nat.not_lt.mp h)]
  rw [z]
  exact a8 rfl (bC (aC (b:=false) (by simp; omega)) (aI rfl))
theorem oQ {c : FT} {g : FS} (I : Nat->DL.Env->Prop) (step : ∀ m ρ,I m ρ->c ρ = some false ∨ (c ρ = some true/\∃ m' ρ',m = m' + 1/\g ρ = some (.nx ρ')/\I m' ρ')) : ∀ (n m : Nat) (ρ : DL.Env),m < n->I m ρ->∃ m' ρ',eX c g n ρ = some (.nx ρ')/\I m' ρ'
 | 0,m,ρ,h,_=>by omega
 | n + 1,m,ρ,h,i=>by
  rw [eX]
  rcases step m ρ i with e | ⟨e,m',ρ',rfl,e2,i'⟩
  ·exact ⟨m,ρ,by rw [e],i⟩
  ·obtain ⟨m2,ρ2,h1,h2⟩:=oQ I step n m' ρ' (by omega) i'
   exact ⟨m2,ρ2,by rw [e]; dsimp only; rw [e2]; exact h1,h2⟩
theorem wT (ns : List Int) (most : Nat) (hm : most<=900) : ∃ cs : List Int,fL [.lst (ns.map .int),.int 5,.int most] = some (.lst (cs.map .int),true)/\cs.length<=most:=by
 have c1:=qj ns 1
 have c0:=qj ns 0
 let cs0 : List Int:=yM ns (some 5) (some (5 + most))
 have hl0 : cs0.length<=most:=by
  show (yM ns (some 5) (some (5 + most))).length<=most
  unfold yM
  rw [List.length_take,jt (by omega),jt (by omega)]
  omega
 have e0 : fSl (af 0) (dW (af 1)) (dW (f2 cS (af 1) (af 2))) [some (.lst (ns.map .int),false),some (.int 5,false),some (.int most,false),none,none] = some (.lst (cs0.map .int),true):=by
  simp [cs0,yN]
 obtain ⟨m',ρ',hw,cs,num,rfl,hl,_⟩:=oQ (c:=cx (tOf (f2 dEq (f2 f6 (f2 lI (fA aR (ae (af 0) (ae (fC (.int 0)) ak))) (fC (.int 21))) (fC (.int 8))) (fC (.int 5)))) (tOf (f2 dLt (fA dC (ae (af 3) ak)) (af 2)))) (g:=mB)
  (fun m ρ=>∃ (cs : List Int) (num : Int),ρ = [some (.lst (ns.map .int),false),some (.int 5,false),some (.int most,false),some (.lst (cs.map .int),true),some (.int num,false)]/\cs.length + m = most/\m<=most) (fun m ρ hI=>by
   obtain ⟨cs,num,rfl,hl,hm'⟩:=hI
   have t1 : tOf (f2 dEq (f2 f6 (f2 lI (fA aR (ae (af 0) (ae (fC (.int 0)) ak))) (fC (.int 21))) (fC (.int 8))) (fC (.int 5))) [some (.lst (ns.map .int),false),some (.int 5,false),some (.int most,false),some (.lst (cs.map .int),true),some (.int num,false)] = some (decide (ns.getD 0 0 / 21 % 8 = 5)):=by
    refine aC (b:=false) (aB (x:=.int (ns.getD 0 0 / 21 % 8)) (y:=.int 5) (b1:=false) (b2:=false) (aB (x:=.int (ns.getD 0 0 / 21)) (y:=.int 8) (b1:=false) (b2:=false) (aB (x:=.int (ns.getD 0 0)) (y:=.int 21) (b1:=false) (b2:=false) (ai (ds:=[.lst (ns.map .int),.int 0]) rfl (by simpa using c0)) rfl (by simp [])) rfl (by simp)) rfl (by simp))
   have t2 : tOf (f2 dLt (fA dC (ae (af 3) ak)) (af 2)) [some (.lst (ns.map .int),false),some (.int 5,false),some (.int most,false),some (.lst (cs.map .int),true),some (.int num,false)] = some (decide (cs.length < most)):=by simp
   by_cases h1 : ns.getD 0 0 / 21 % 8 = 5
   ·by_cases h2 : cs.length < most
    ·refine .inr ⟨by rw [cK (p:=true) (q:=true) (by rw [t1,decide_eq_true h1]) fun _=>by rw [t2,decide_eq_true h2]]; rfl,m - 1,[some (.lst (ns.map .int),false),some (.int 5,false),some (.int most,false),some (.lst ((cs ++ [(num * 48271 + cs.length + 1) % 2147483647]).map .int),true),some (.int ((num * 48271 + cs.length + 1) % 2147483647),false)],by omega, ?_,cs ++ [(num * 48271 + cs.length + 1) % 2147483647],_,rfl,by simp; omega,by omega⟩
     refine aP (d:=.int ((num * 48271 + cs.length + 1) % 2147483647)) (b:=false) (by simp) rfl ?_
     rw [iM (ds:=cs.map .int) (d:=.int ((num * 48271 + cs.length + 1) % 2147483647)) (b:=false) rfl rfl rfl (cc (by simp; omega))]
     simp
    ·exact .inl (by rw [cK (p:=true) (q:=false) (by rw [t1,decide_eq_true h1]) fun _=>by rw [t2,decide_eq_false h2]]; rfl)
   ·exact .inl (by rw [cK (p:=false) (q:=false) (by rw [t1,decide_eq_false h1]) (by simp)]; rfl)) 1000 (most - cs0.length) [some (.lst (ns.map .int),false),some (.int 5,false),some (.int most,false),some (.lst (cs0.map .int),true),some (.int (ns.getD 1 0 % 2147483647),false)] (by omega) ⟨cs0,_,rfl,by omega,by omega⟩
 refine ⟨cs,a8 rfl (bT (ds:=cs0.map .int) e0 (by simp) (aP (d:=.int (ns.getD 1 0 % 2147483647)) (b:=false) ?_ rfl (dI hw (jr rfl)))),by omega⟩
 exact aB (x:=.int (ns.getD 1 0)) (y:=.int 2147483647) (b1:=false) (b2:=false) (ai (ds:=[.lst (ns.map .int),.int 1]) rfl (by simpa using c1)) rfl (by simp)
theorem qk (a b : Str) : (a ++ b).length = a.length + b.length:=by
 show (a.cps ++ b.cps).size = _
 exact Array.size_append
theorem fB (c : Int) (n : Nat) (hn : n<=100) : ∃ zs : List Str,hZ [.int c,.int n] = some (.lst (zs.map .str),true)/\zs.length = n/\∀ z ∈ zs,z.length<=20:=by
 have h8:=mod_lt (x:=c) (m:=8) (by decide)
 obtain ⟨sz,hsz⟩ : ∃ sz : Int,1 + c % 8 = sz:=⟨_,rfl⟩
 have hs0 : 0 < sz:=by omega
 have hs1 : sz < 1073741824:=by omega
 obtain ⟨base,hbase⟩ : ∃ base : Str,Txt.slice ("gmtazkfw" : Str) none (some sz) = base:=⟨_,rfl⟩
 have hb8 : base.length<=8:=by rw [← hbase]; exact Nat.le_trans (Txt.slice_le _ _ _) (by decide +kernel)
 obtain ⟨aa,haa⟩ : ∃ aa : Int,c / 8 % sz = aa:=⟨_,rfl⟩
 obtain ⟨b1,hb1⟩ : ∃ b1 : Str,Txt.slice base none (some aa) = b1:=⟨_,rfl⟩
 obtain ⟨b2,hb2⟩ : ∃ b2 : Str,Txt.slice base (some (aa + 1)) none = b2:=⟨_,rfl⟩
 have l1 : b1.length<=8:=by rw [← hb1]; exact Nat.le_trans (Txt.slice_le _ _ _) hb8
 have l2 : b2.length<=8:=by rw [← hb2]; exact Nat.le_trans (Txt.slice_le _ _ _) hb8
 let ltr : Nat->Str:=fun k=>⟨#[("bqcxdlenhusv" : Str).cps.toList.getD ((c / 64 + 5 * k) % 12).toNat 0]⟩
 let nm : Nat->Str:=fun k=>b1 ++ ltr k ++ b2
 have ln : ∀ k,(nm k).length<=20:=fun k=>by
  show (b1 ++ ltr k ++ b2).length<=20
  rw [qk,qk]
  have : (ltr k).length = 1:=rfl
  omega
 obtain ⟨ρ',e,v6,v7,rfl⟩:=sr (tg:=tgN 6) (g:=m8) n (fun i ρ=>∃ v6 v7 : Option (D × Bool),ρ = [some (.int c,false),some (.int n,false),some (.int sz,false),some (.str base,false),some (.int aa,false),some (.lst (((List.range i).map nm).map .str),true),v6,v7])
  [some (.int c,false),some (.int n,false),some (.int sz,false),some (.str base,false),some (.int aa,false),some (.lst [],true),none,none] ⟨none,none,rfl⟩ (by
   rintro i ρ hi ⟨v6,v7,rfl⟩
   have h12:=mod_lt (x:=c / 64 + 5 * (i : Int)) (m:=12) (by decide)
   have hi2 : -18446744073709551616 < (i : Int)/\(i : Int) < 18446744073709551616:=by omega
   refine ⟨_,_,rfl,.inl (aP (d:=.str (ltr i)) (b:=false) ?_ rfl (iM (ds:=((List.range i).map nm).map .str) (d:=.str (nm i)) (b:=false) rfl ?_ rfl (cc (by simp; omega)))),some (.int i,false),some (.str (ltr i),false), ?_⟩
   ·refine aB (x:=.str "bqcxdlenhusv") (y:=.int ((c / 64 + 5 * i) % 12)) (b1:=false) (b2:=false) rfl (by simp) ?_
    exact DL.tK h12.1 (by rw [show ("bqcxdlenhusv" : Str).cps.size = 12 by decide +kernel]; omega) (by decide +kernel)
   ·refine aB (x:=.str (b1 ++ ltr i)) (y:=.str b2) (b1:=false) (b2:=false) (aB (x:=.str b1) (y:=.str (ltr i)) (b1:=false) (b2:=false) ?_ rfl ?_) ?_ ?_
    ·simp [hb1]; exact b8 (by omega)
    ·simp; exact b8 (by have : (ltr i).length = 1:=rfl; omega)
    ·simp [hb2]; exact b8 (by omega)
    ·have hh : (b1 ++ ltr i).length + b2.length<=sizeLine:=b8 (by rw [qk]; have : (ltr i).length = 1:=rfl; omega)
     show cS (.str (b1 ++ ltr i)) (.str b2) = some (.str (b1 ++ ltr i ++ b2),false)
     simp only [cS,if_pos hh]
   ·simp [List.range_succ])
 refine ⟨(List.range n).map nm,a8 rfl (aP (d:=.int sz) (b:=false) (by simp [hsz]) rfl (aP (d:=.str base) (b:=false) ?_ rfl (aP (d:=.int aa) (b:=false) (by simp [hs0,hs1,haa]) rfl (bT (ds:=[]) (by simp [sizeLine]) (by simp) (dI (sv (oD (j:=n) (b:=false) (by simp) (by omega)) e) (jr rfl)))))),by simp, ?_⟩
 ·simp [hbase]; decide +kernel
 ·intro z hz
  obtain ⟨k,_,rfl⟩:=List.mem_map.mp hz
  exact ln k
end Lw
namespace DL
open PySem L2
theorem gd : ∀ (n m : Nat) (d : D),n<=m->ah n d = true->ah m d = true
 | n,m,.non,_,_=>by simp
 | n,m,.bl _,_,_=>by simp
 | n,m,.int _,_,_=>by simp
 | n,m,.str _,_,_=>by simp
 | n,m,.ty _,_,h=>by cases n <;> simp [ah] at h
 | n,m,.dk _ _,_,h=>by simp at h
 | n,m,.dt _ _,_,h=>by simp at h
 | 0,m,.tup _,_,h=>by simp [ah] at h
 | 0,m,.lst _,_,h=>by simp [ah] at h
 | n + 1,0,_,h,_=>by omega
 | n + 1,m + 1,.tup ds,hl,h=>by
  simp only [ah,List.all_eq_true] at h ⊢
  exact fun d hd=>gd n m d (by omega) (h d hd)
 | n + 1,m + 1,.lst ds,hl,h=>by
  simp only [ah,List.all_eq_true] at h ⊢
  exact fun d hd=>gd n m d (by omega) (h d hd)
theorem jV : ∀ (ds : List D),(∀ d ∈ ds,eqD d d = true)->cV ds ds = true
 | [],_=>by simp only [cV]
 | d :: ds,h=>by
  simp only [cV,h d mX,Bool.true_and]
  exact jV ds fun e he=>h e (mZ _ he)
theorem gG : ∀ (n : Nat) (d : D),ah n d = true->eqD d d = true
 | n,.non,_=>by simp
 | n,.bl _,_=>by simp
 | n,.int _,_=>by simp
 | n,.str _,_=>by simp
 | n,.ty _,h=>by cases n <;> simp [ah] at h
 | n,.dk _ _,h=>by simp at h
 | n,.dt _ _,h=>by simp at h
 | 0,.tup _,h=>by simp [ah] at h
 | 0,.lst _,h=>by simp [ah] at h
 | n + 1,.tup ds,h=>by
  simp only [ah,List.all_eq_true] at h
  simp only [eqD]
  exact jV ds fun d hd=>gG n d (h d hd)
 | n + 1,.lst ds,h=>by
  simp only [ah,List.all_eq_true] at h
  simp only [eqD]
  exact jV ds fun d hd=>gG n d (h d hd)
theorem mC {d : D} (h : ah 40 d = true) : dEq d d = some (.bl true,false):=by unfold dEq; rw [if_pos ⟨h,h⟩,gG 40 d h]
end DL
namespace Lw
open PySem DL L2
theorem at0 (d : D) (r : List D) : atI (d :: r) 0 = some d:=by have:=gB (xs:=d :: r) (j:=0) (by simp); simpa using this
theorem at1 (d e : D) (r : List D) : atI (d :: e :: r) 1 = some e:=by have:=gB (xs:=d :: e :: r) (j:=1) (by simp); simpa using this
theorem at2 (d e f : D) (r : List D) : atI (d :: e :: f :: r) 2 = some f:=by have:=gB (xs:=d :: e :: f :: r) (j:=2) (by simp); simpa using this
def bM (k : Str) : Bool:=decide (k = ("death" : Str)) || decide (k = ("lost" : Str)) || decide (k = ("found" : Str))
def de (k : Str) : Bool:=decide (k = ("chosen" : Str)) || decide (k = ("heir" : Str)) || decide (k = ("leave" : Str)) || decide (k = ("paper" : Str)) || decide (k = ("like" : Str)) || decide (k = ("copy" : Str)) || decide (k = ("call" : Str))
structure DeedP (kind : Str) (ay : List D) : Prop where
 flat : aS ay = true
 plain : ay.all (ah 5) = true
 three : bM kind = true->∃ (day : Int) (p : Str),ay = [.int day,.str p]
 slg : de kind = true->∃ (day : Int) (p : Str) (r : List D),ay = .int day :: .str p :: r
def row (h : Int) (kind : Str) (ay : List D) : D:=.tup [.int h,.tup (.str kind :: ay)]
def jW (r : D) : Prop:=∃ h kind ay,r = row h kind ay/\DeedP kind ay
theorem jW.flat {r : D} (h : jW r) : bg r = true:=by obtain ⟨a,k,ay,rfl,dp⟩:=h; simp [row,dp.flat]
theorem jW.plain {r : D} (h : jW r) : ah 39 r = true:=by
 obtain ⟨a,k,ay,rfl,dp⟩:=h
 refine gd 7 39 _ (by decide) ?_
 have:=dp.plain
 simp only [row,ah,List.all_cons,List.all_nil,Bool.and_true,Bool.true_and]
 exact this
theorem bB {ds : List D} (h : ∀ d ∈ ds,bg d = true) : aS ds = true:=by
 induction ds with
 | nil=>rfl
 | cons d r ih=>simp [h d (by simp),ih fun e he=>h e (by simp [he])]
theorem eS (zs : List Str) : aS (zs.map D.str) = true:=by
 induction zs with
 | nil=>rfl
 | cons a l ih=>simp [ih]
def df : D->Int
 | .tup (.int h :: _)=>h
 | _=>0
def kindOf : D->Str
 | .tup [_,.tup (.str k :: _)]=>k
 | _=>("" : Str)
def aM : D->Int
 | .tup [_,.tup (_ :: .int d :: _)]=>d
 | _=>0
def oR (p : Str) (day : Int) : List D->Bool
 | [.int d,.str q]=>decide (q = p) && decide (d<=day)
 | _=>false
def told (ws : List Str) (p : Str) (day : Int) : D->Bool
 | .tup [_,.tup (.str kind :: ay)]=>decide (kind ∈ ws) && oR p day ay
 | _=>false
theorem eU (h : Int) (kind : Str) (ay : List D) : aD [row h kind ay] = some (.str kind,false):=a8 rfl (aI (by simp [row,at1,at0]))
theorem gH {k : Str} (h : bM k = true) : k = ("death" : Str) ∨ k = ("lost" : Str) ∨ k = ("found" : Str):=by
 unfold bM at h
 simp only [Bool.or_eq_true,decide_eq_true_eq] at h
 rcases h with (h | h) | h
 ·exact .inl h
 ·exact .inr (.inl h)
 ·exact .inr (.inr h)
theorem iN {k : Str} (h : de k = true) : k = ("chosen" : Str) ∨ k = ("heir" : Str) ∨ k = ("leave" : Str) ∨ k = ("paper" : Str) ∨ k = ("like" : Str) ∨ k = ("copy" : Str) ∨ k = ("call" : Str):=by
 unfold de at h
 simp only [Bool.or_eq_true,decide_eq_true_eq] at h
 rcases h with (((((h | h) | h) | h) | h) | h) | h
 ·exact .inl h
 ·exact .inr (.inl h)
 ·exact .inr (.inr (.inl h))
 ·exact .inr (.inr (.inr (.inl h)))
 ·exact .inr (.inr (.inr (.inr (.inl h))))
 ·exact .inr (.inr (.inr (.inr (.inr (.inl h)))))
 ·exact .inr (.inr (.inr (.inr (.inr (.inr h)))))
theorem Az {k : Str} (h : bM k = true ∨ de k = true) : nF eP (.str k) (.str "day") = some (.int 0,false):=by
 rcases h with h | h
 ·rcases gH h with rfl | rfl | rfl <;> exact bd (by decide +kernel)
 ·rcases iN h with rfl | rfl | rfl | rfl | rfl | rfl | rfl <;> exact bd (by decide +kernel)
theorem u0 {k : Str} (h : bM k = true) : nF eP (.str k) (.str "person") = some (.int 1,false):=by
 rcases gH h with rfl | rfl | rfl <;> exact bd (by decide +kernel)
theorem yR {k : Str} (h : bM k = true ∨ de k = true) : dEq (.str k) (.str "root") = some (.bl false,false):=by
 rcases h with h | h
 ·rcases gH h with rfl | rfl | rfl <;> exact bd (by decide +kernel)
 ·rcases iN h with rfl | rfl | rfl | rfl | rfl | rfl | rfl <;> exact bd (by decide +kernel)
theorem bi {h : Int} {k : Str} {ay : List D} {part : Str} {i : Nat} {d : D} (hi : nF eP (.str k) (.str part) = some (.int i,false)) (hd : ay[i]? = some d) : am [row h k ay,.str part] = some (d,false):=by
 refine a8 rfl (aI ?_)
 refine aB (x:=.tup (.str k :: ay)) (y:=.int (1 + i)) (b1:=false) (b2:=false) (by simp [row,at1]) (aB (x:=.int 1) (y:=.int i) (b1:=false) (b2:=false) rfl (aB (x:=.str k) (y:=.str part) (b1:=false) (b2:=false) (ai (ds:=[row h k ay]) rfl (eU _ _ _)) rfl hi) (by simp)) ?_
 have hlt : i < ay.length:=(List.getElem?_eq_some_iff.mp hd).1
 have : atI (.str k :: ay) (1 + (i : Int)) = some d:=by
  have:=gB (xs:=(.str k : D) :: ay) (j:=i + 1) (by simp; omega)
  rw [show (1 + (i : Int)) = ((i + 1 : Nat) : Int) by omega,this]
  simp only [List.getElem_cons_succ]
  rw [List.getElem?_eq_getElem hlt] at hd
  exact hd
 simp [this]
theorem fM {h : Int} {k : Str} {ay : List D} {d : Int} {r : List D} (hk : bM k = true ∨ de k = true) (hr : ay = .int d :: r) : aL [row h k ay] = some (.int d,false):=by
 subst hr
 refine a8 rfl (bC (aC (b:=false) (aB (x:=.str k) (y:=.str "root") (b1:=false) (b2:=false) (ai (ds:=[row h k (.int d :: r)]) rfl (eU _ _ _)) rfl (yR hk))) (aI (ai (ds:=[row h k (.int d :: r),.str "day"]) rfl (bi (i:=0) (Az hk) rfl))))
theorem mD (k : Str) (ws : List Str) : inD (.str k) (ws.map .str) = decide (k ∈ ws):=by
 induction ws with
 | nil=>simp [inD]
 | cons w ws ih =>
  have : inD (.str k) ((w :: ws).map .str) = (eqD (.str w) (.str k) || inD (.str k) (ws.map .str)):=rfl
  rw [this,ih,kE]
  by_cases e : w = k
  ·simp [e]
  ·have e' : ¬ k = w:=fun z=>e z.symm
   simp [e,e']
theorem jX (ws : List Str) : (ws.map D.str).all dH = true:=by
 induction ws with
 | nil=>rfl
 | cons w ws ih=>simp [dH]
theorem yS (k : Str) (ws : List Str) : dIn (.str k) (.tup (ws.map .str)) = some (.bl (decide (k ∈ ws)),false):=by
 simp only [dIn,eM,Option.bind_some,mD]
 rw [if_pos ⟨rfl,jX ws⟩]
theorem yT {r : D} (hr : jW r) (ws : List Str) (hw : ∀ w ∈ ws,bM w = true) (p : Str) (day : Int) : ju [r,.tup (ws.map .str),.str p,.int day] = some (.bl (told ws p day r),false):=by
 obtain ⟨h,kind,ay,rfl,dp⟩:=hr
 have hin : f2 dIn (fA aD (ae (af 0) ak)) (af 1) [some (row h kind ay,false),some (.tup (ws.map .str),false),some (.str p,false),some (.int day,false)] = some (.bl (decide (kind ∈ ws)),false) :=
  aB (x:=.str kind) (y:=.tup (ws.map .str)) (b1:=false) (b2:=false) (ai (ds:=[row h kind ay]) rfl (eU _ _ _)) rfl (yS kind ws)
 have ht : told ws p day (row h kind ay) = (decide (kind ∈ ws) && oR p day ay):=rfl
 rw [ht]
 refine a8 rfl (aI (fq (b1:=false) hin fun hk=>?_))
 have h3:=hw kind (of_decide_eq_true hk)
 obtain ⟨d,q,rfl⟩:=dp.three h3
 show jK _ _ _ = some (.bl (decide (q = p) && decide (d<=day)),false)
 refine fq (b1:=false) ?_ fun _=>?_
 ·exact aB (x:=.str q) (y:=.str p) (b1:=false) (b2:=false) (ai (ds:=[row h kind [.int d,.str q],.str "person"]) rfl (bi (i:=1) (u0 h3) rfl)) rfl (by simp)
 ·exact aB (x:=.int d) (y:=.int day) (b1:=false) (b2:=false) (ai (ds:=[row h kind [.int d,.str q]]) rfl (fM (.inl h3) rfl)) rfl (by simp)
theorem yU (ds : List D) : om ds = ds.zipIdx.map fun x=>.tup [.int x.2,x.1]:=by
 unfold om
 apply List.ext_getElem?
 intro i
 simp [List.getElem?_mapIdx,List.getElem?_zipIdx]
 cases ds[i]? <;> simp
def ar (rows : List D) (known : Int) : List (D × Nat):=rows.zipIdx.filter fun x=>decide (df x.1<=known)
theorem mE (rows : List D) (hr : ∀ r ∈ rows,jW r) (hl : rows.length<=1000) (known : Int) : ce [.tup rows,.int known] = some (.lst ((ar rows known).map fun x=>.int x.2),true):=by
 have hc:=gD (fi:=yo (af 0)) (nT:=2) (cap:=[1]) (tg:=tgT [0,1]) (c:=tOf (f2 dLe (f2 ixD (af 1) (fC (.int 0))) (af 2))) (fe:=af 0) (ρ:=[some (.tup rows,false),some (.int known,false)]) rows.zipIdx (fun x=>.tup [.int x.2,x.1]) (fun x=>decide (df x.1<=known)) (fun x=>.int x.2)
  (by simp [yU]) (by simp; omega) fun x hx=>by
   obtain ⟨h,kind,ay,e,_⟩:=hr x.1 (List.fst_mem_of_mem_zipIdx hx)
   refine ⟨_,rfl,aC (b:=false) ?_,fun _=>⟨false,by simp [bw]⟩⟩
   simp [bw,e,row,at0,df]
 exact a8 rfl (aI hc)
def lp (rows : List D) (known : Int) (ws : List Str) (p : Str) (day : Int) : List (D × Nat):=(ar rows known).filter fun x=>told ws p day x.1
theorem vS {rows : List D} {known : Int} {ws : List Str} {p : Str} {day : Int} {x : D × Nat} (h : x ∈ lp rows known ws p day) : rows[x.2]? = some x.1/\told ws p day x.1 = true:=by
 obtain ⟨h1,h2⟩:=List.mem_filter.mp h
 exact ⟨(List.mk_mem_zipIdx_iff_getElem? (x:=x.1) (i:=x.2)).mp (List.mem_filter.mp h1).1,h2⟩
theorem iO {rows : List D} {i : Nat} {r : D} (h : rows[i]? = some r) : atI rows (i : Int) = some r:=by
 obtain ⟨hlt,e⟩:=List.getElem?_eq_some_iff.mp h
 rw [gB hlt,e]
theorem A0 (rows : List D) (known : Int) (ws : List Str) (p : Str) (day : Int) : (lp rows known ws p day).length<=rows.length:=by
 have h1:=List.length_filter_le (fun x : D × Nat=>told ws p day x.1) (ar rows known)
 have h2:=List.length_filter_le (fun x : D × Nat=>decide (df x.1<=known)) rows.zipIdx
 rw [List.length_zipIdx] at h2
 exact Nat.le_trans h1 h2
theorem ql (rows : List D) (hr : ∀ r ∈ rows,jW r) (hl : rows.length<=1000) (known : Int) (ws : List Str) (hw : ∀ w ∈ ws,bM w = true) (p : Str) (day : Int) :
  cC [.tup rows,.int known,.tup (ws.map .str),.str p,.int day] = some (.lst ((lp rows known ws p day).map fun x=>.int x.2),true):=by
 have hc:=gD (fi:=bL (fA ce (ae (af 0) (ae (af 1) ak)))) (nT:=1) (cap:=[2,3,4,0]) (tg:=tgN 0) (c:=tOf (fA ju (ae (f2 ixD (af 4) (af 0)) (ae (af 1) (ae (af 2) (ae (af 3) ak)))))) (fe:=af 0)
  (ρ:=[some (.tup rows,false),some (.int known,false),some (.tup (ws.map .str),false),some (.str p,false),some (.int day,false)]) (ar rows known) (fun x=>.int x.2) (fun x=>told ws p day x.1) (fun x=>.int x.2)
  (by
   show (fA ce (ae (af 0) (ae (af 1) ak)) _).bind _ = _
   rw [ai (ds:=[.tup rows,.int known]) rfl (mE rows hr hl known)]
   rfl) (by have:=List.length_filter_le (fun x : D × Nat=>decide (df x.1<=known)) rows.zipIdx; rw [List.length_zipIdx] at this; exact Nat.le_trans this (by omega)) fun x hx=>by
   have hg : rows[x.2]? = some x.1:=(List.mk_mem_zipIdx_iff_getElem? (x:=x.1) (i:=x.2)).mp (List.mem_filter.mp hx).1
   refine ⟨_,rfl,aC (b:=false) (ai (ds:=[x.1,.tup (ws.map .str),.str p,.int day]) ?_ (yT (hr _ (List.mem_of_getElem? hg)) ws hw p day)),fun _=>⟨false,by simp [bw]⟩⟩
   have ha:=iO hg
   simp [bw,ha]
 exact a8 rfl (aI hc)
def kA (x : D × Nat) : List At:=[.i (aM x.1),.i x.2]
def vT (a b : D × Nat) : Bool:=decide (aM a.1 < aM b.1 ∨ (aM a.1 = aM b.1/\(a.2 : Int) < b.2))
def dE : D × Nat->List (D × Nat)->D × Nat
 | b,[]=>b
 | b,x :: r=>if vT b x = true then dE x r else dE b r
def Bz : List (D × Nat)->Option (D × Nat)
 | []=>none
 | x :: r=>some (dE x r)
theorem yV (a b c d : Int) : aQ [.i a,.i b] [.i c,.i d] = some (decide (a < c ∨ (a = c/\b < d))):=by
 rw [aQ]
 by_cases h : a = c
 ·rw [if_pos h,aQ]
  by_cases h2 : b = d
  ·rw [if_pos h2,aQ]; simp [h,h2]
  ·rw [if_neg h2]; simp [h]
 ·rw [if_neg h]; simp [h]
theorem u5 (a b : D × Nat) : aQ (kA a) (kA b) = some (vT a b):=yV _ _ _ _
theorem qm (l : List (D × Nat)) : cu (l.map kA) = true:=by
 unfold cu
 simp [List.all_eq_true,u5]
theorem jY : ∀ (r : List (D × Nat)) (b : D × Nat),iz (kA b,.int b.2) (r.map fun x=>(kA x,D.int x.2)) = .int (dE b r).2
 | [],b=>rfl
 | x :: r,b=>by
  rw [List.map_cons,iz,dE]
  show (if aQ (kA b) (kA x) = some true then _ else _) = _
  rw [u5]
  by_cases h : vT b x = true
  ·rw [if_pos h,if_pos (by rw [h])]; exact jY r x
  ·rw [if_neg h,if_neg (by simpa using h)]; exact jY r b
theorem mF : ∀ (r : List (D × Nat)) (b : D × Nat),dE b r ∈ b :: r
 | [],b=>by simp [dE]
 | x :: r,b=>by
  rw [dE]
  split
  ·exact mZ _ (mF r x)
  ·rcases List.mem_cons.mp (mF r b) with h | h
   ·rw [h]; exact mX
   ·exact mZ _ (mZ _ h)
theorem fN {α : Type} {f : D->Option D} {g h : α->D} : ∀ (l : List α),(∀ x ∈ l,f (g x) = some (h x))->fG f (l.map g) = some (l.map h)
 | [],_=>rfl
 | x :: l,hx=>by
  rw [List.map_cons,fG,hx x mX,Option.bind_some,fN l fun y hy=>hx y (mZ _ hy)]
  rfl
theorem dv {α : Type} {g : α->D} {h : α->List At} : ∀ (l : List α),(∀ x ∈ l,g8 (g x) = some (h x))->bR (l.map g) = some (l.map h)
 | [],_=>rfl
 | x :: l,hx=>by
  rw [List.map_cons,bR,hx x mX,Option.bind_some,dv l fun y hy=>hx y (mZ _ hy)]
  rfl
def jx : List Str:=[("lost" : Str),("found" : Str)]
theorem kM : ∀ w ∈ jx,bM w = true:=by
 intro w hw
 rcases List.mem_cons.mp hw with rfl | hw
 ·decide +kernel
 ·rcases List.mem_cons.mp hw with rfl | hw
  ·decide +kernel
  ·cases hw
def sE (rows : List D) (known : Int) (p : Str) (day : Int) : Bool:=match Bz (lp rows known jx p day) with
 | none=>true
 | some b=>decide (kindOf b.1 = ("found" : Str))
theorem iP {ws : List Str} (hw : ∀ w ∈ ws,bM w = true) {p : Str} {day : Int} {r : D} (hr : jW r) (ht : told ws p day r = true) : ∃ h k d,r = row h k [.int d,.str p]/\bM k = true/\k ∈ ws/\d<=day:=by
 obtain ⟨h,kind,ay,rfl,dp⟩:=hr
 have ht' : (decide (kind ∈ ws) && oR p day ay) = true:=ht
 rw [Bool.and_eq_true] at ht'
 have hm:=of_decide_eq_true ht'.1
 obtain ⟨d,q,rfl⟩:=dp.three (hw _ hm)
 have hq : (decide (q = p) && decide (d<=day)) = true:=ht'.2
 rw [Bool.and_eq_true] at hq
 have:=of_decide_eq_true hq.1
 subst this
 exact ⟨h,kind,d,rfl,hw _ hm,hm,of_decide_eq_true hq.2⟩
theorem vU {rows : List D} {i : Nat} {h d : Int} {k p : Str} (hg : rows[i]? = some (row h k [.int d,.str p])) (h3 : bM k = true) : cN [.tup rows,.int i] = some (.tup [.int d,.int i],false):=by
 have ha:=iO hg
 refine a8 rfl (aI (ai (ds:=[.int d,.int i]) (av (d:=.int d) (b:=false) (ai (ds:=[row h k [.int d,.str p]]) (by simp [ha]) (fM (.inl h3) rfl)) rfl) (by simp [sizeLine])))
theorem A1 (rows : List D) (hr : ∀ r ∈ rows,jW r) (hl : rows.length<=1000) (known : Int) (p : Str) (day : Int) : ga [.tup rows,.int known,.str p,.int day] = some (.bl (sE rows known p day),false):=by
 have ht:=ql rows hr hl known jx kM p day
 have hsl:=A0 rows known jx p day
 have key : ∀ x ∈ lp rows known jx p day,∃ h k d,rows[x.2]? = some (row h k [.int d,.str p])/\x.1 = row h k [.int d,.str p]/\bM k = true:=fun x hx=>by
  obtain ⟨hg,htl⟩:=vS hx
  obtain ⟨h,k,d,e,h3,_⟩:=iP kM (hr _ (List.mem_of_getElem? hg)) htl
  exact ⟨h,k,d,by rw [hg,e],e,h3⟩
 unfold sE
 generalize hsel : lp rows known jx p day = sel at ht key hsl ⊢
 have hset : fA cC (ae (af 0) (ae (af 1) (ae (fA aZ (ae (fC (.str "lost")) (ae (fC (.str "found")) ak))) (ae (af 2) (ae (af 3) ak))))) [some (.tup rows,false),some (.int known,false),some (.str p,false),some (.int day,false),none] = some (.lst (sel.map fun x=>.int x.2),true) :=
  ai (ds:=[.tup rows,.int known,.tup (jx.map .str),.str p,.int day]) (by simp [jx,sizeLine]) ht
 have hnl : aS (sel.map fun x=>D.int x.2) = true:=bB fun d hd=>by obtain ⟨x,_,rfl⟩:=List.mem_map.mp hd; rfl
 cases sel with
 | nil=>exact a8 rfl (bT hset hnl (cZ (aC (b:=false) (by simp)) (aI rfl)))
 | cons x r =>
  refine a8 rfl (bT hset hnl (bC (aC (b:=false) (by simp; omega)) (aI ?_)))
  obtain ⟨h,k,d,hg,e,h3⟩:=key (dE x r) (mF r x)
  have hb : kindOf (dE x r).1 = k:=by rw [e]; rfl
  show _ = some (D.bl (decide (kindOf (dE x r).1 = ("found" : Str))),false)
  rw [hb]
  refine aB (x:=.str k) (y:=.str "found") (b1:=false) (b2:=false) (ai (ds:=[row h k [.int d,.str p]]) (av (d:=row h k [.int d,.str p]) (b:=false) (aB (x:=.tup rows) (y:=.int (dE x r).2) (b1:=false) (b2:=false) rfl ?_ (by simp [iO hg])) rfl) (eU _ _ _)) rfl (by simp)
  have hm : ∀ ρ : DL.Env,ρ[0]? = some (some (.tup rows,false))->fG (si [0] (fA cN (ae (af 1) (ae (af 0) ak))) ρ) ((x :: r).map fun x=>D.int x.2) = some ((x :: r).map fun x=>.tup [.int (aM x.1),.int x.2]):=fun ρ h0 =>
   fN (x :: r) fun y hy=>by
    obtain ⟨h,k,d,hg,e,h3⟩:=key y hy
    have hd : aM y.1 = d:=by rw [e]; rfl
    rw [hd]
    show (fA cN _ _).map _ = _
    rw [ai (ds:=[.tup rows,.int y.2]) (by simp [bw,h0]) (vU hg h3)]
    rfl
  have hk : bR ((x :: r).map fun x=>D.tup [.int (aM x.1),.int x.2]) = some ((x :: r).map kA):=dv (x :: r) fun y _=>rfl
  have hz : ((x :: r).map kA).zip ((x :: r).map fun x=>D.int x.2) = (kA x,.int x.2) :: r.map fun x=>(kA x,D.int x.2):=by
   rw [List.zip_map']
   rfl
  show (ma (af 4) _ _) = _
  unfold ma
  show ((some (D.lst ((x :: r).map fun x=>D.int x.2),false)).bind _) = _
  simp only [Option.bind_some]
  rw [hm _ rfl]
  simp only [Option.bind_some]
  rw [hk]
  simp only [Option.bind_some]
  rw [if_pos (qm _),hz]
  simp only [jY]
def bU : List Str:=[("death" : Str)]
theorem dN : ∀ w ∈ bU,bM w = true:=by
 intro w hw
 rcases List.mem_cons.mp hw with rfl | hw
 ·decide +kernel
 ·cases hw
def jZ (rows : List D) (known : Int) (p : Str) (day : Int) : Bool:=(lp rows known bU p day).isEmpty
theorem sF (rows : List D) (hr : ∀ r ∈ rows,jW r) (hl : rows.length<=1000) (known : Int) (p : Str) (day : Int) : fZ [.tup rows,.int known,.str p,.int day] = some (.bl (jZ rows known p day),false):=by
 have ht:=ql rows hr hl known bU dN p day
 unfold jZ
 generalize lp rows known bU p day = sel at ht ⊢
 refine a8 rfl (aI (aB (x:=.int ((sel.map fun x=>D.int x.2).length : Nat)) (y:=.int 0) (b1:=false) (b2:=false) ?_ rfl ?_))
 ·exact ai (ds:=[.lst (sel.map fun x=>.int x.2)]) (av (d:=.lst (sel.map fun x=>.int x.2)) (b:=true) (ai (ds:=[.tup rows,.int known,.tup (bU.map .str),.str p,.int day]) (by simp [sizeLine,bU]) ht) rfl) Ay
 ·rw [vM]
  cases sel <;> simp
  omega
def wU : D->Str
 | .tup [_,.tup (_ :: _ :: .str p :: _)]=>p
 | _=>("" : Str)
def vV : List Str:=[("chosen" : Str),("heir" : Str),("leave" : Str),("paper" : Str),("like" : Str),("copy" : Str),("call" : Str)]
theorem u6 (k : Str) : de k = decide (k ∈ vV):=by
 unfold de vV
 simp [List.mem_cons,Bool.or_assoc]
theorem u7 : dq = .tup (vV.map .str):=rfl
theorem kN (k : Str) (ws : List Str) : dX (.str k) (.tup (ws.map .str)) = some (.bl (!decide (k ∈ ws)),false):=by
 simp only [dX,eM,Option.bind_some,mD]
 rw [if_pos ⟨rfl,jX ws⟩]
theorem CJ {k : Str} (h : de k = true) : nF eP (.str k) (.str "by") = some (.int 1,false):=by
 rcases iN h with rfl | rfl | rfl | rfl | rfl | rfl | rfl <;> exact bd (by decide +kernel)
def qo (rows : List D) (known : Int) (r : D) : Bool:=(decide (df r<=known) && de (kindOf r)) && (jZ rows known (wU r) (aM r) && sE rows known (wU r) (aM r))
theorem yW {rows : List D} {i : Nat} {h : Int} {kind : Str} {ay : List D} (hg : rows[i]? = some (row h kind ay)) (known : Int) : eB [.tup rows,.int known,.int i] = some (.bl (decide (h<=known)),false):=by
 have hlt : i < rows.length:=(List.getElem?_eq_some_iff.mp hg).1
 have ha:=iO hg
 refine a8 rfl (aI ?_)
 have:=fq (f1:=jH dLe dLt (fC (.int 0)) (af 2) (fA dC (ae (af 0) ak))) (f2:=f2 dLe (f2 ixD (f2 ixD (af 0) (af 2)) (fC (.int 0))) (af 1)) (ρ:=[some (.tup rows,false),some (.int known,false),some (.int i,false)]) (p:=true) (q:=decide (h<=known)) (b1:=false)
  (by
   refine (yL (x:=.int 0) (y:=.int i) (z:=.int rows.length) (b1:=false) (b2:=false) (b3:=false) (b4:=false) (p:=true) (q:=true) rfl rfl (by simp) (by simp) fun _=>?_).trans rfl
   simp; omega) fun _=>by simp [ha,row,at0]
 exact this
theorem yX (rows : List D) (hr : ∀ r ∈ rows,jW r) (hl : rows.length<=1000) (known : Int) {i : Nat} {r : D} (hg : rows[i]? = some r) : gb [.tup rows,.int known,.int i] = some (.bl (qo rows known r),false):=by
 obtain ⟨h,kind,ay,rfl,dp⟩:=hr r (List.mem_of_getElem? hg)
 have hk:=yW hg known
 have ha:=iO hg
 have hword : ∀ (ρ : DL.Env),f2 ixD (af 0) (af 2) ρ = some (row h kind ay,false)->fA aD (ae (f2 ixD (af 0) (af 2)) ak) ρ = some (.str kind,false):=fun ρ e=>ai (ds:=[row h kind ay]) (av e rfl) (eU _ _ _)
 have hrow : f2 ixD (af 0) (af 2) [some (.tup rows,false),some (.int known,false),some (.int i,false),none,none] = some (row h kind ay,false):=by simp [ha]
 have hc : (gs (gt (tOf (fA eB (ae (af 0) (ae (af 1) (ae (af 2) ak)))))) (tOf (f2 dX (fA aD (ae (f2 ixD (af 0) (af 2)) ak)) (fC dq)))) [some (.tup rows,false),some (.int known,false),some (.int i,false),none,none] = some (!decide (h<=known) || !de kind):=by
  refine gC (lx (aC (b:=false) (ai (ds:=[.tup rows,.int known,.int i]) rfl hk))) fun _=>aC (b:=false) (aB (x:=.str kind) (y:=dq) (b1:=false) (b2:=false) (hword _ hrow) rfl ?_)
  rw [u7,u6]
  exact kN kind vV
 have hs : qo rows known (row h kind ay) = ((decide (h<=known) && de kind) && (jZ rows known (wU (row h kind ay)) (aM (row h kind ay)) && sE rows known (wU (row h kind ay)) (aM (row h kind ay)))):=rfl
 cases hb : (decide (h<=known) && de kind) with
 | false =>
  rw [hs,hb]
  refine a8 rfl (cZ (hc.trans ?_) (aI rfl))
  rw [← Bool.not_and,hb]; rfl
 | true =>
  rw [hs,hb]
  rw [Bool.and_eq_true] at hb
  obtain ⟨day,p,r',rfl⟩:=dp.slg hb.2
  show _ = some (D.bl (true && (jZ rows known p day && sE rows known p day)),false)
  rw [Bool.true_and]
  refine a8 rfl (bC (hc.trans (by rw [hb.1,hb.2]; rfl)) (aP (d:=.str p) (b:=false) (ai (ds:=[row h kind (.int day :: .str p :: r'),.str "by"]) (av hrow rfl) (bi (i:=1) (CJ hb.2) rfl)) rfl (aP (d:=.int day) (b:=false) (ai (ds:=[row h kind (.int day :: .str p :: r')]) (av (d:=row h kind (.int day :: .str p :: r')) (b:=false) (by simp [ha]) rfl) (fM (.inr hb.2) rfl)) rfl (aI ?_))))
  exact fq (b1:=false) (ai (ds:=[.tup rows,.int known,.str p,.int day]) (by simp) (sF rows hr hl known p day)) fun _=>ai (ds:=[.tup rows,.int known,.str p,.int day]) (by simp) (A1 rows hr hl known p day)
inductive Cd : Str->List D->Prop
 | root (o r : Str) (m f : Int) : Cd ("root" : Str) [.str o,.int m,.int f,.str r]
 | named (d : Int) (o p : Str) : Cd ("named" : Str) [.int d,.str o,.str p]
 | chosen (d : Int) (b o p : Str) (s : Int) : Cd ("chosen" : Str) [.int d,.str b,.str o,.str p,.int s]
 | heir (d : Int) (b o p : Str) : Cd ("heir" : Str) [.int d,.str b,.str o,.str p]
 | three (k : Str) (hk : k = ("death" : Str) ∨ k = ("lost" : Str) ∨ k = ("found" : Str)) (d : Int) (p : Str) : Cd k [.int d,.str p]
 | other (k : Str) (hk : k = ("leave" : Str) ∨ k = ("paper" : Str) ∨ k = ("like" : Str) ∨ k = ("copy" : Str) ∨ k = ("call" : Str)) (d : Int) (b : Str) (r : List D) (hf : aS r = true) (hp : r.all (ah 5) = true) : Cd k (.int d :: .str b :: r)
theorem Cd.deed {k : Str} {r : List D} (h : Cd k r) : DeedP k r:=by
 cases h with
 | root o rl m f=>exact ⟨rfl,by simp,fun h=>absurd h (by decide +kernel),fun h=>absurd h (by decide +kernel)⟩
 | named d o p=>exact ⟨rfl,by simp,fun h=>absurd h (by decide +kernel),fun h=>absurd h (by decide +kernel)⟩
 | chosen d b o p s=>exact ⟨rfl,by simp,fun h=>absurd h (by decide +kernel),fun _=>⟨d,b,_,rfl⟩⟩
 | heir d b o p=>exact ⟨rfl,by simp,fun h=>absurd h (by decide +kernel),fun _=>⟨d,b,_,rfl⟩⟩
 | three k hk d p=>exact ⟨rfl,by simp,fun _=>⟨d,p,rfl⟩,fun h=>by rcases hk with rfl | rfl | rfl <;> exact absurd h (by decide +kernel)⟩
 | other k hk d b r hf hp=>exact ⟨by simp [hf],by simp only [List.all_cons,hp,ah,Bool.and_true],fun h=>by rcases hk with rfl | rfl | rfl | rfl | rfl <;> exact absurd h (by decide +kernel),fun _=>⟨d,b,r,rfl⟩⟩
def nH (r : D) : Prop:=∃ h k ay,r = row h k ay/\Cd k ay
theorem nH.rp {r : D} (h : nH r) : jW r:=by obtain ⟨a,k,ay,rfl,d⟩:=h; exact ⟨a,k,ay,rfl,d.deed⟩
def bH (r : D) : Bool:=decide (kindOf r = ("root" : Str))
theorem Cd.day {k : Str} {r : List D} (h : Cd k r) (hk : k ≠ ("root" : Str)) : ∃ d q,r = .int d :: q:=by
 cases h with
 | root=>exact absurd rfl hk
 | named d=>exact ⟨d,_,rfl⟩
 | chosen d=>exact ⟨d,_,rfl⟩
 | heir d=>exact ⟨d,_,rfl⟩
 | three _ _ d=>exact ⟨d,_,rfl⟩
 | other _ _ d=>exact ⟨d,_,rfl⟩
theorem Cd.day_idx {k : Str} {r : List D} (h : Cd k r) (hk : k ≠ ("root" : Str)) : nF eP (.str k) (.str "day") = some (.int 0,false):=by
 cases h with
 | root=>exact absurd rfl hk
 | named=>exact bd (by decide +kernel)
 | chosen=>exact bd (by decide +kernel)
 | heir=>exact bd (by decide +kernel)
 | three _ hh=>rcases hh with rfl | rfl | rfl <;> exact bd (by decide +kernel)
 | other _ hh=>rcases hh with rfl | rfl | rfl | rfl | rfl <;> exact bd (by decide +kernel)
theorem bI {f : FE} {ρ : DL.Env} {a b : Str} {x : Bool} {bb : Bool} (e : f ρ = some (.str a,bb)) (h : decide (a = b) = x) : tOf (f2 dEq f (fC (.str b))) ρ = some x:=aC (b:=false) (aB (x:=.str a) (y:=.str b) (b1:=bb) (b2:=false) e rfl (by rw [← h]; simp))
def u8 (r : D) : D:=if bH r = true then .non else .int (aM r)
theorem u9 {r : D} (g : nH r) : aD [r] = some (.str (kindOf r),false):=by
 obtain ⟨h,k,ay,rfl,_⟩:=g
 exact eU h k ay
theorem vW {r : D} (g : nH r) : aL [r] = some (u8 r,false):=by
 obtain ⟨h,k,ay,rfl,d⟩:=g
 unfold u8
 by_cases hk : k = ("root" : Str)
 ·have : bH (row h k ay) = true:=decide_eq_true hk
  rw [if_pos this]
  exact a8 rfl (cZ (bI (a:=k) (bb:=false) (ai (ds:=[row h k ay]) rfl (eU _ _ _)) (decide_eq_true hk)) (aI rfl))
 ·have : bH (row h k ay) = false:=decide_eq_false hk
  rw [if_neg (by rw [this]; decide)]
  obtain ⟨dd,q,rfl⟩:=d.day hk
  exact a8 rfl (bC (bI (a:=k) (bb:=false) (ai (ds:=[row h k (.int dd :: q)]) rfl (eU _ _ _)) (decide_eq_false hk)) (aI (ai (ds:=[row h k (.int dd :: q),.str "day"]) rfl (bi (i:=0) (d.day_idx hk) rfl))))
def dJ (rows : List D) : Prop:=rows.length<=60/\∀ r ∈ rows,nH r
theorem dJ.rp {rows : List D} (g : dJ rows) : ∀ r ∈ rows,jW r:=fun r hr=>(g.2 r hr).rp
theorem dJ.le {rows : List D} (g : dJ rows) : rows.length<=1000:=Nat.le_trans g.1 (by decide)
theorem cf {rows : List D} {known : Int} {x : D × Nat} (h : x ∈ ar rows known) : rows[x.2]? = some x.1:=by
 obtain ⟨h1,_⟩:=List.mem_filter.mp h
 exact List.mem_zipIdx_iff_getElem?.mp h1
theorem iQ (rows : List D) (known : Int) : (ar rows known).length<=rows.length:=by
 have:=List.length_filter_le (fun x : D × Nat=>decide (df x.1<=known)) rows.zipIdx
 rw [List.length_zipIdx] at this
 exact this
theorem ge (rows : List D) (known : Int) : ((ar rows known).map (·.2)).Nodup:=by
 have h1 : (rows.zipIdx.map (·.2)).Nodup:=by rw [List.zipIdx_map_snd]; exact List.nodup_range'
 exact List.Nodup.sublist (List.Sublist.map _ (List.filter_sublist)) h1
def bV (rows : List D) (known : Int) : List (D × Nat):=(ar rows known).filter fun x=>!bH x.1
def Ee (rows : List D) (known : Int) : List (D × Nat):=d9 (fun x=>bu (kA x)) (bV rows known)
theorem uA {a b : D × Nat} (h : bu (kA a) = bu (kA b)) : a.2 = b.2:=by
 have h : [aM a.1,(a.2 : Int)] = [aM b.1,(b.2 : Int)]:=h
 injection h with _ h
 injection h with h
 omega
theorem A2 {rows : List D} {known : Int} {a b : D × Nat} (ha : a ∈ ar rows known) (hb : b ∈ ar rows known) (h : a.2 = b.2) : a = b:=by
 have h1:=cf ha
 have h2:=cf hb
 rw [h,h2] at h1
 exact Prod.ext (Option.some.inj h1).symm h
theorem sG {rows : List D} (g : dJ rows) (known : Int) : du [.tup rows,.int known] = some (.lst ((Ee rows known).map fun x=>.int x.2),true):=by
 have hl:=g.1
 have hll:=iQ rows known
 have hrow : ∀ x ∈ ar rows known,atI rows (x.2 : Int) = some x.1/\nH x.1:=fun x hx=>⟨iO (cf hx),g.2 _ (List.mem_of_getElem? (cf hx))⟩
 have hc:=gD (fi:=bL (fA ce (ae (af 0) (ae (af 1) ak)))) (nT:=1) (cap:=[0]) (tg:=tgN 0) (c:=tOf (f2 jL (fA aL (ae (f2 ixD (af 1) (af 0)) ak)) (fC .non))) (fe:=af 0) (ρ:=[some (.tup rows,false),some (.int known,false),none]) (ar rows known) (fun x=>.int x.2) (fun x=>!bH x.1) (fun x=>.int x.2)
  (by
   show (fA ce (ae (af 0) (ae (af 1) ak)) _).bind _ = _
   rw [ai (ds:=[.tup rows,.int known]) rfl (mE rows g.rp g.le known)]
   rfl) (by omega) fun x hx=>by
   obtain ⟨ha,gx⟩:=hrow x hx
   refine ⟨_,rfl,aC (b:=false) (aB (x:=u8 x.1) (y:=.non) (b1:=false) (b2:=false) (ai (ds:=[x.1]) (by simp [bw,ha]) (vW gx)) rfl ?_),fun _=>⟨false,by simp [bw]⟩⟩
   unfold u8
   cases bH x.1 <;> simp [wA]
 have hc' : bK (bL (fA ce (ae (af 0) (ae (af 1) ak)))) 1 [0] (tgN 0) (tOf (f2 jL (fA aL (ae (f2 ixD (af 1) (af 0)) ak)) (fC .non))) (af 0) [some (.tup rows,false),some (.int known,false),none] = some (.lst ((bV rows known).map fun x=>.int x.2),true):=hc
 have hfl : aS ((bV rows known).map fun x=>D.int x.2) = true:=bB fun d hd=>by obtain ⟨x,_,rfl⟩:=List.mem_map.mp hd; rfl
 have hdl : (bV rows known).length<=60:=Nat.le_trans (List.length_filter_le _ _) (by omega)
 have hmem : ∀ x ∈ bV rows known,x ∈ ar rows known/\bH x.1 = false:=fun x hx=>by
  obtain ⟨h1,h2⟩:=List.mem_filter.mp hx
  exact ⟨h1,by simpa using h2⟩
 have hm : ∀ ρ : DL.Env,ρ[0]? = some (some (.tup rows,false))->fG (si [0] (fA cN (ae (af 1) (ae (af 0) ak))) ρ) ((bV rows known).map fun x=>.int x.2) = some ((bV rows known).map fun x=>.tup [.int (aM x.1),.int x.2]):=fun ρ h0 =>
  fN (bV rows known) fun x hx=>by
   obtain ⟨h1,h2⟩:=hmem x hx
   obtain ⟨ha,gx⟩:=hrow x h1
   have hd:=vW gx
   unfold u8 at hd
   rw [h2,if_neg (by decide)] at hd
   have hr : cN [.tup rows,.int x.2] = some (.tup [.int (aM x.1),.int x.2],false):=a8 rfl (aI (ai (ds:=[.int (aM x.1),.int x.2]) (av (d:=.int (aM x.1)) (b:=false) (ai (ds:=[x.1]) (by simp [ha]) hd) rfl) (by simp [sizeLine])))
   show (fA cN _ _).map _ = _
   rw [ai (ds:=[.tup rows,.int x.2]) (by simp [bw,h0]) hr]
   rfl
 have hk : bR ((bV rows known).map fun x=>D.tup [.int (aM x.1),.int x.2]) = some ((bV rows known).map kA):=dv _ fun x _=>rfl
 have hz : ((bV rows known).map kA).zip ((bV rows known).map fun x=>D.int x.2) = (bV rows known).map fun x=>(kA x,D.int x.2):=by rw [List.zip_map']
 have hnd : ((bV rows known).map (·.2)).Nodup:=List.Nodup.sublist (List.Sublist.map _ (List.filter_sublist)) (ge rows known)
 have hcond : ((bV rows known).map kA).length < 64/\cu ((bV rows known).map kA) = true/\bQ ((bV rows known).map kA) = true/\(((bV rows known).map kA).map bu).Nodup:=by
  refine ⟨by rw [List.length_map]; omega,qm _, ?_, ?_⟩
  ·unfold bQ
   rw [Bool.or_eq_true]
   left
   simp [List.all_eq_true,kA]
  ·rw [List.map_map]
   exact List.Pairwise.map _ (fun a b h e=>h (uA e)) (List.pairwise_map.mp hnd)
 refine a8 rfl (bT hc' hfl (aI ?_))
 show (jT (af 2) _ _) = _
 unfold jT
 show ((some (D.lst ((bV rows known).map fun x=>D.int x.2),false)).bind _) = _
 simp only [Option.bind_some]
 rw [hm _ rfl]
 simp only [Option.bind_some]
 rw [hk]
 simp only [Option.bind_some]
 rw [if_pos hcond]
 unfold g9
 rw [hz]
 have key : ((Ee rows known).map fun x=>(kA x,D.int x.2)) = d9 (fun p : List At × D=>bu p.1) ((bV rows known).map fun x=>(kA x,D.int x.2)):=by
  refine dZ _ (fun x hx y hy e=>?_) ((bc _ _).map _) ?_
  ·obtain ⟨a,ha,rfl⟩:=List.mem_map.mp hx
   obtain ⟨b,hb,rfl⟩:=List.mem_map.mp hy
   rw [A2 (hmem a ha).1 (hmem b hb).1 (uA e)]
  ·exact List.pairwise_map.mpr (dn _ _)
 rw [← key,List.map_map]
 rfl
structure Cl where
 o : Str
 p : Str
 s : Int
 u : Option Int
 n : Nat
def uD : Option Int->D
 | none=>.non
 | some x=>.int x
def clD (c : Cl) : D:=.tup [.str c.o,.str c.p,.int c.s,uD c.u,.int c.n]
theorem A3 (u : Option Int) : bg (uD u) = true:=by cases u <;> rfl
theorem jy (c : Cl) : bg (clD c) = true:=by simp [clD,A3]
theorem eC (cs : List Cl) : aS (cs.map clD) = true:=bB fun d hd=>by obtain ⟨c,_,rfl⟩:=List.mem_map.mp hd; exact jy c
def bJ (c : Cl) (day : Int) : Bool:=decide (c.s<=day) && (match c.u with | none=>true | some x=>decide (day < x))
theorem at3 (d e f g : D) (r : List D) : atI (d :: e :: f :: g :: r) 3 = some g:=by have:=gB (xs:=d :: e :: f :: g :: r) (j:=3) (by simp); simpa using this
theorem at4 (d e f g h : D) (r : List D) : atI (d :: e :: f :: g :: h :: r) 4 = some h:=by have:=gB (xs:=d :: e :: f :: g :: h :: r) (j:=4) (by simp); simpa using this
theorem cl0 (c : Cl) : ixD (clD c) (.int 0) = some (.str c.o,false):=by simp [clD,at0]
theorem cl1 (c : Cl) : ixD (clD c) (.int 1) = some (.str c.p,false):=by simp [clD,at1]
theorem cl2 (c : Cl) : ixD (clD c) (.int 2) = some (.int c.s,false):=by simp [clD,at2]
theorem cl3 (c : Cl) : ixD (clD c) (.int 3) = some (uD c.u,false):=by simp [clD,at3]
theorem cl4 (c : Cl) : ixD (clD c) (.int 4) = some (.int c.n,false):=by simp [clD,at4]
theorem cR (ds : List D) (h : ds.length<=100) : aZ ds = some (.tup ds,false):=if_pos (b8 (by omega))
theorem mG (ds : List D) (h : ds.length<=100) : cE ds = some (.lst ds,true):=if_pos (b8 (by omega))
theorem A4 (s day : Int) (u : Option Int) : gZ [.int day,.tup [.int s,uD u]] = some (.bl (decide (s<=day) && (match u with | none=>true | some x=>decide (day < x))),false):=by
 refine a8 rfl (aI (fq (b1:=false) (by simp [at0]) fun _=>?_))
 cases u with
 | none=>exact oE (p:=true) (q:=true) (b1:=false) (by simp [at1,uD]) (by simp)
 | some x=>exact oE (p:=false) (q:=decide (day < x)) (b1:=false) (by simp [at1,uD]) fun _=>by simp [at1,uD]
theorem mH (c : Cl) (day : Int) : bp [clD c,.int day] = some (.bl (bJ c day),false) :=
 a8 rfl (aI (ai (ds:=[.int day,.tup [.int c.s,uD c.u]]) (av (b:=false) rfl (av (b:=false) (ai (ds:=[.int c.s,uD c.u]) (av (aB (x:=clD c) (y:=.int 2) (b1:=false) (b2:=false) rfl rfl (cl2 c)) (av (aB (x:=clD c) (y:=.int 3) (b1:=false) (b2:=false) rfl rfl (cl3 c)) rfl)) (cR _ (by simp))) rfl)) (A4 c.s day c.u)))
theorem sI (c : Cl) : bA [clD c] = some (.tup [.int c.s,.int c.n],false) :=
 a8 rfl (aI (ai (ds:=[.int c.s,.int c.n]) (av (aB (x:=clD c) (y:=.int 2) (b1:=false) (b2:=false) rfl rfl (cl2 c)) (av (aB (x:=clD c) (y:=.int 4) (b1:=false) (b2:=false) rfl rfl (cl4 c)) rfl)) (cR _ (by simp))))
theorem qp (c : Cl) : cQ [clD c] = some (.tup [.str c.o,.int c.s,.int c.n],false) :=
 a8 rfl (aI (ai (ds:=[.str c.o,.int c.s,.int c.n]) (av (aB (x:=clD c) (y:=.int 0) (b1:=false) (b2:=false) rfl rfl (cl0 c)) (av (aB (x:=clD c) (y:=.int 2) (b1:=false) (b2:=false) rfl rfl (cl2 c)) (av (aB (x:=clD c) (y:=.int 4) (b1:=false) (b2:=false) rfl rfl (cl4 c)) rfl))) (cR _ (by simp))))
def kS (c : Cl) : List At:=[.i c.s,.i c.n]
def gI : Cl->List Cl->Cl
 | b,[]=>b
 | b,x :: r=>if aQ (kS x) (kS b) = some true then gI x r else gI b r
def ka : Cl->List Cl->Cl
 | b,[]=>b
 | b,x :: r=>if aQ (kS b) (kS x) = some true then ka x r else ka b r
theorem mI : ∀ (r : List Cl) (b : Cl),gA (kS b,clD b) (r.map fun x=>(kS x,clD x)) = clD (gI b r)
 | [],b=>rfl
 | x :: r,b=>by
  rw [List.map_cons,gA,gI]
  split
  ·exact mI r x
  ·exact mI r b
theorem mJ : ∀ (r : List Cl) (b : Cl),iz (kS b,clD b) (r.map fun x=>(kS x,clD x)) = clD (ka b r)
 | [],b=>rfl
 | x :: r,b=>by
  rw [List.map_cons,iz,ka]
  split
  ·exact mJ r x
  ·exact mJ r b
theorem vX (cs : List Cl) : cu (cs.map kS) = true:=by
 unfold cu
 simp [List.all_eq_true,kS,yV]
theorem mK (ρ : DL.Env) (cs : List Cl) : fG (nG bA ρ) (cs.map clD) = some (cs.map fun c=>.tup [.int c.s,.int c.n]):=fN cs fun c _=>by
 show (bA [clD c]).map _ = _
 rw [sI]
 rfl
theorem kO (cs : List Cl) : bR (cs.map fun c=>D.tup [.int c.s,.int c.n]) = some (cs.map kS):=dv cs fun c _=>rfl
theorem yY {f : FE} {ρ : DL.Env} {b : Cl} {r : List Cl} {bb : Bool} (e : f ρ = some (.lst ((b :: r).map clD),bb)) : md f (nG bA) ρ = some (clD (gI b r),false):=by
 unfold md
 rw [e,Option.bind_some]
 dsimp only
 rw [mK,Option.bind_some,kO,Option.bind_some,if_pos (vX _)]
 have : ((b :: r).map kS).zip ((b :: r).map clD) = (kS b,clD b) :: r.map fun x=>(kS x,clD x):=by rw [List.zip_map']; rfl
 rw [this]
 show some (gA _ _,false) = _
 rw [mI]
theorem CK {f : FE} {ρ : DL.Env} {b : Cl} {r : List Cl} {bb : Bool} (e : f ρ = some (.lst ((b :: r).map clD),bb)) : ma f (nG bA) ρ = some (clD (ka b r),false):=by
 unfold ma
 rw [e,Option.bind_some]
 dsimp only
 rw [mK,Option.bind_some,kO,Option.bind_some,if_pos (vX _)]
 have : ((b :: r).map kS).zip ((b :: r).map clD) = (kS b,clD b) :: r.map fun x=>(kS x,clD x):=by rw [List.zip_map']; rfl
 rw [this]
 show some (iz _ _,false) = _
 rw [mJ]
def cO (rl : Str) (b : Cl) (r : List Cl) : Cl:=if rl = ("last" : Str) then ka b r else gI b r
theorem yZ (rl : Str) (b : Cl) (r : List Cl) : gc [.lst ((b :: r).map clD),.str rl] = some (.str (cO rl b r).p,false):=by
 unfold cO
 by_cases h : rl = ("last" : Str)
 ·rw [if_pos h]
  exact a8 rfl (cZ (bI (a:=rl) (bb:=false) rfl (decide_eq_true h)) (aI (aB (x:=clD (ka b r)) (y:=.int 1) (b1:=false) (b2:=false) (CK (bb:=false) rfl) rfl (cl1 _))))
 ·rw [if_neg h]
  exact a8 rfl (bC (bI (a:=rl) (bb:=false) rfl (decide_eq_false h)) (aI (aB (x:=clD (gI b r)) (y:=.int 1) (b1:=false) (b2:=false) (yY (bb:=false) rfl) rfl (cl1 _))))
theorem mL : ∀ (r : List Cl) (b : Cl),gI b r ∈ b :: r
 | [],b=>by simp [gI]
 | x :: r,b=>by
  rw [gI]
  split
  ·exact mZ _ (mL r x)
  ·rcases List.mem_cons.mp (mL r b) with h | h
   ·rw [h]; exact mX
   ·exact mZ _ (mZ _ h)
theorem jz : ∀ (r : List Cl) (b : Cl),ka b r ∈ b :: r
 | [],b=>by simp [ka]
 | x :: r,b=>by
  rw [ka]
  split
  ·exact mZ _ (jz r x)
  ·rcases List.mem_cons.mp (jz r b) with h | h
   ·rw [h]; exact mX
   ·exact mZ _ (mZ _ h)
theorem kc (rl : Str) (b : Cl) (r : List Cl) : cO rl b r ∈ b :: r:=by
 unfold cO
 split
 ·exact jz r b
 ·exact mL r b
def alL (cs : List Cl) (o : Str) (day : Int) : List Cl:=cs.filter fun c=>decide (c.o = o) && bJ c day
def dB (cs : List Cl) : List Str:=g7 (eF (cs.map (·.p)))
def CL : List Cl->Nat
 | []=>0
 | b :: r=>(gI b r).n
def ci (rl : Str) : List Cl->D
 | []=>.tup [.str "none"]
 | b :: r=>if 1 < (dB (b :: r)).length/\rl = ("open" : Str) then .tup [.str "parted",.lst ((dB (b :: r)).map .str)]
  else .tup [.str "one",.str (cO rl b r).p,.int (CL ((b :: r).filter fun c=>decide (c.p = (cO rl b r).p)))]
def j0 (cs : List Cl) (o rl : Str) (day : Int) : D:=ci rl (alL cs o day)
theorem A5 {z : Str} {zs : List Str} : eF (z :: zs) ≠ []:=by
 have : ∀ (ss : List Str) (ts : List Str),z ∈ ts->z ∈ ss.foldl fD ts:=fun ss=>by
  induction ss with
  | nil=>intro ts h; exact h
  | cons a l ih=>intro ts h; exact ih _ (g0.mpr (.inl h))
 have h:=this zs (fD [] z) (g0.mpr (.inr rfl))
 intro e
 unfold eF at e
 rw [List.foldl_cons] at e
 rw [e] at h
 cases h
theorem kP {h : Int} {o rl : Str} {m f : Int} : am [row h ("root" : Str) [.str o,.int m,.int f,.str rl],.str "office"] = some (.str o,false):=bi (i:=0) (bd (by decide +kernel)) rfl
theorem wV {h : Int} {o rl : Str} {m f : Int} : am [row h ("root" : Str) [.str o,.int m,.int f,.str rl],.str "rule"] = some (.str rl,false):=bi (i:=3) (bd (by decide +kernel)) rfl
theorem mM (zs : List Str) : d7 (zs.map .str) = some zs:=by
 induction zs with
 | nil=>rfl
 | cons z zs ih=>simp [ih]
theorem j3 (cs : List Cl) (hl : cs.length<=60) {h : Int} {o rl : Str} {m f : Int} (day : Int) : bX [.lst (cs.map clD),row h ("root" : Str) [.str o,.int m,.int f,.str rl],.int day] = some (j0 cs o rl day,false):=by
 let rt : D:=row h ("root" : Str) [.str o,.int m,.int f,.str rl]
 have h1:=gD (fi:=bL (af 0)) (nT:=1) (cap:=[2,1]) (tg:=tgN 0) (c:=cx (tOf (f2 dEq (f2 ixD (af 0) (fC (.int 0))) (fA am (ae (af 2) (ae (fC (.str "office")) ak))))) (tOf (fA bp (ae (af 0) (ae (af 1) ak))))) (fe:=af 0)
  (ρ:=[some (.lst (cs.map clD),false),some (rt,false),some (.int day,false),none,none,none,none]) cs clD (fun c=>decide (c.o = o) && bJ c day) clD (by simp) (by omega) fun c hc=>by
   refine ⟨_,rfl,cK (aC (b:=false) (aB (x:=.str c.o) (y:=.str o) (b1:=false) (b2:=false) (aB (x:=clD c) (y:=.int 0) (b1:=false) (b2:=false) (by simp [bw]) rfl (cl0 c)) (ai (ds:=[rt,.str "office"]) (by simp [bw]) kP) (by simp))) fun _=>aC (b:=false) (ai (ds:=[clD c,.int day]) (by simp [bw]) (mH c day)),fun _=>⟨false,by simp [bw]⟩⟩
 have h1' : bK (bL (af 0)) 1 [2,1] (tgN 0) (cx (tOf (f2 dEq (f2 ixD (af 0) (fC (.int 0))) (fA am (ae (af 2) (ae (fC (.str "office")) ak))))) (tOf (fA bp (ae (af 0) (ae (af 1) ak))))) (af 0) [some (.lst (cs.map clD),false),some (rt,false),some (.int day,false),none,none,none,none] = some (.lst ((alL cs o day).map clD),true):=h1
 have hal : (alL cs o day).length<=60:=Nat.le_trans (List.length_filter_le _ _) hl
 unfold j0
 generalize alL cs o day = al at h1' hal
 have h2 : ∀ ρ : DL.Env,ρ[3]? = some (some (.lst (al.map clD),true))->f1 cG (bK (bL (af 3)) 1 [] (tgN 0) iq (f2 ixD (af 0) (fC (.int 1)))) ρ = some (.lst ((dB al).map .str),true):=fun ρ h3=>by
  have hc:=sw (fi:=bL (af 3)) (nT:=1) (cap:=[]) (tg:=tgN 0) (fe:=f2 ixD (af 0) (fC (.int 1))) (ρ:=ρ) al clD (fun c=>.str c.p) (by simp [h3]) (by omega) fun c hc=>⟨_,rfl,false,aB (x:=clD c) (y:=.int 1) (b1:=false) (b2:=false) (by simp [bw]) rfl (cl1 c)⟩
  have e2 : al.map (fun c=>D.str c.p) = (al.map (·.p)).map .str:=by rw [List.map_map]; rfl
  rw [e2] at hc
  unfold f1
  rw [hc,Option.bind_some]
  show (d7 ((al.map (·.p)).map .str)).bind _ = _
  rw [mM,Option.bind_some,if_pos (by rw [List.length_map]; omega)]
  rfl
 have hpl : aS ((dB al).map D.str) = true:=eS _
 refine a8 rfl (bT (ds:=al.map clD) h1' (eC al) (bT (ds:=(dB al).map .str) (h2 _ rfl) hpl ?_))
 cases al with
 | nil=>exact cZ (aC (b:=false) (by simp [dB,eF,g7])) (aI (ai (ds:=[.str "none"]) rfl (cR _ (by simp))))
 | cons b r =>
  have hne : (dB (b :: r)).length ≠ 0:=by
   unfold dB
   rw [(cb _).length_eq]
   intro e
   exact A5 (List.length_eq_zero_iff.mp e)
  refine bC (aC (b:=false) (by simp [hne])) ?_
  have hrule : ∀ ρ : DL.Env,ρ[1]? = some (some (rt,false))->fA am (ae (af 1) (ae (fC (.str "rule")) ak)) ρ = some (.str rl,false):=fun ρ q1=>ai (ds:=[rt,.str "rule"]) (by simp [q1]) wV
  by_cases hp : 1 < (dB (b :: r)).length/\rl = ("open" : Str)
  ·have : ci rl (b :: r) = .tup [.str "parted",.lst ((dB (b :: r)).map .str)]:=by rw [ci,if_pos hp]
   rw [this]
   exact cZ (cK (p:=true) (q:=true) (aC (b:=false) (by simp; omega)) fun _=>bI (bb:=false) (hrule _ rfl) (decide_eq_true hp.2)) (aI (ai (ds:=[.str "parted",.lst ((dB (b :: r)).map .str)]) (by simp) (cR _ (by simp))))
  ·have : ci rl (b :: r) = .tup [.str "one",.str (cO rl b r).p,.int (CL ((b :: r).filter fun c=>decide (c.p = (cO rl b r).p)))]:=by rw [ci,if_neg hp]
   rw [this]
   have hcond : cx (tOf (f2 iGt (fA dC (ae (af 4) ak)) (fC (.int 1)))) (tOf (f2 dEq (fA am (ae (af 1) (ae (fC (.str "rule")) ak))) (fC (.str "open")))) [some (.lst (cs.map clD),false),some (rt,false),some (.int day,false),some (.lst ((b :: r).map clD),true),some (.lst ((dB (b :: r)).map .str),true),none,none] = some false:=by
    by_cases h5 : 1 < (dB (b :: r)).length
    ·exact cK (p:=true) (q:=false) (aC (b:=false) (by simp; omega)) fun _=>bI (bb:=false) (hrule _ rfl) (decide_eq_false fun e=>hp ⟨h5,e⟩)
    ·exact cK (p:=false) (q:=false) (aC (b:=false) (by simp; omega)) (by simp)
   have hmem:=kc rl b r
   let ch:=cO rl b r
   have h6:=gD (fi:=bL (af 3)) (nT:=1) (cap:=[5]) (tg:=tgN 0) (c:=tOf (f2 dEq (f2 ixD (af 0) (fC (.int 1))) (af 1))) (fe:=af 0) (ρ:=[some (.lst (cs.map clD),false),some (rt,false),some (.int day,false),some (.lst ((b :: r).map clD),true),some (.lst ((dB (b :: r)).map .str),true),some (.str ch.p,false),none]) (b :: r) clD (fun c=>decide (c.p = ch.p)) clD (by simp) (by omega) fun c hc=>⟨_,rfl,aC (b:=false) (aB (x:=.str c.p) (y:=.str ch.p) (b1:=false) (b2:=false) (aB (x:=clD c) (y:=.int 1) (b1:=false) (b2:=false) (by simp [bw]) rfl (cl1 c)) (by simp [bw]) (by simp)),fun _=>⟨false,by simp [bw]⟩⟩
   obtain ⟨b2,r2,hf⟩ : ∃ b2 r2,(b :: r).filter (fun c=>decide (c.p = ch.p)) = b2 :: r2:=by
    cases hq : (b :: r).filter (fun c=>decide (c.p = ch.p)) with
    | nil =>
     have:=List.filter_eq_nil_iff.mp hq _ hmem
     simp [ch] at this
    | cons b2 r2=>exact ⟨b2,r2,rfl⟩
   rw [hf] at h6 ⊢
   refine bC hcond (aP (d:=.str ch.p) (b:=false) (ai (ds:=[.lst ((b :: r).map clD),.str rl]) (av (b:=false) (by simp) (av (hrule _ rfl) rfl)) (yZ rl b r)) rfl (aP (d:=clD (gI b2 r2)) (b:=false) (yY (bb:=true) h6) (jy _) (aI (ai (ds:=[.str "one",.str ch.p,.int (gI b2 r2).n]) (av (b:=false) rfl (av (b:=false) rfl (av (aB (x:=clD (gI b2 r2)) (y:=.int 4) (b1:=false) (b2:=false) rfl rfl (cl4 _)) rfl))) (cR _ (by simp))))))
def B1 : D->D
 | .tup ds=>.tup (ij ds none (some 2))
 | d=>d
def sJ (cs : List Cl) (o rl p : Str) (day : Int) : Bool:=eqD (B1 (j0 cs o rl day)) (.tup [.str "one",.str p])
theorem mN (n : Nat) (zs : List Str) : (zs.map D.str).all (ah n) = true:=by
 induction zs with
 | nil=>rfl
 | cons a l ih=>simp
theorem wW (rl : Str) (al : List Cl) : ∃ ds,ci rl al = .tup ds/\ds.all (ah 5) = true:=by
 cases al with
 | nil=>exact ⟨_,rfl,by simp⟩
 | cons b r =>
  rw [ci]
  split
  ·exact ⟨_,rfl,by simp only [List.all_cons,List.all_nil,ah,Bool.and_true,Bool.true_and]; exact mN _ _⟩
  ·exact ⟨_,rfl,by simp⟩
theorem za {ds : List D} {lo hi : Option Int} (h : ds.all (ah 5) = true) : (ij ds lo hi).all (ah 5) = true:=by
 rw [List.all_eq_true] at h ⊢
 exact fun d hd=>h d (List.mem_of_mem_drop (List.mem_of_mem_take hd))
theorem kg {ds : List D} (h : ds.all (ah 5) = true) : ah 40 (.tup ds) = true:=gd 6 40 _ (by decide) (by simpa only [ah] using h)
theorem A6 (cs : List Cl) (hl : cs.length<=60) {h : Int} {o rl : Str} {m f : Int} (p : Str) (day : Int) : da [.lst (cs.map clD),row h ("root" : Str) [.str o,.int m,.int f,.str rl],.str p,.int day] = some (.bl (sJ cs o rl p day),false):=by
 have hb:=j3 cs hl (h:=h) (o:=o) (rl:=rl) (m:=m) (f:=f) day
 obtain ⟨ds,e,hd⟩:=wW rl (alL cs o day)
 have e' : j0 cs o rl day = .tup ds:=e
 refine a8 rfl (aI (aB (x:=B1 (j0 cs o rl day)) (y:=.tup [.str "one",.str p]) (b1:=false) (b2:=false) ?_ (by simp [sizeLine]) ?_))
 ·have hc:=ai (F:=bX) (fa:=ae (af 0) (ae (af 1) (ae (af 3) ak))) (ρ:=[some (.lst (cs.map clD),false),some (row h ("root" : Str) [.str o,.int m,.int f,.str rl],false),some (.str p,false),some (.int day,false)]) (ds:=[.lst (cs.map clD),row h ("root" : Str) [.str o,.int m,.int f,.str rl],.int day]) rfl hb
  rw [e'] at hc ⊢
  show fSl (fA bX (ae (af 0) (ae (af 1) (ae (af 3) ak)))) ir (dW (fC (.int 2))) _ = _
  unfold fSl
  rw [show (List.map (fun d=>some (d,false)) [D.lst (cs.map clD),row h ("root" : Str) [.str o,.int m,.int f,.str rl],.str p,.int day] ++ List.replicate 0 none : DL.Env) = [some (.lst (cs.map clD),false),some (row h ("root" : Str) [.str o,.int m,.int f,.str rl],false),some (.str p,false),some (.int day,false)] from rfl,hc]
  rfl
 ·unfold sJ dEq
  rw [if_pos]
  rw [e']
  exact ⟨kg (za hd),kg (by simp)⟩
def aA (j : Nat) : D->Str
 | .tup [_,.tup (_ :: ay)]=>match ay[j]? with
  | some (.str s)=>s
  | _=>("" : Str)
 | _=>("" : Str)
def sK (j : Nat) : D->Int
 | .tup [_,.tup (_ :: ay)]=>match ay[j]? with
  | some (.int s)=>s
  | _=>0
 | _=>0
theorem Cd.root_of {r : List D} (h : Cd ("root" : Str) r) : ∃ o rl,∃ m f : Int,r = [.str o,.int m,.int f,.str rl]:=by
 generalize hk : ("root" : Str) = k at h
 cases h with
 | root o rl m f=>exact ⟨o,rl,m,f,rfl⟩
 | named=>exact absurd hk (by decide +kernel)
 | chosen=>exact absurd hk (by decide +kernel)
 | heir=>exact absurd hk (by decide +kernel)
 | three _ hh=>rcases hh with rfl | rfl | rfl <;> exact absurd hk (by decide +kernel)
 | other _ hh=>rcases hh with rfl | rfl | rfl | rfl | rfl <;> exact absurd hk (by decide +kernel)
theorem oS {κ α : Type} [DecidableEq κ] {ks : List κ} {k : κ} {x y : α} : ∀ {xs : List α},y ∈ dj ks xs k x->y = x ∨ y ∈ xs:=by
 intro xs h
 unfold dj at h
 split at h
 ·rename_i hk0
  clear hk0
  induction ks generalizing xs with
  | nil=>simp at h
  | cons a ks ih =>
   cases xs with
   | nil=>simp at h
   | cons b xs =>
    rw [List.zipWith_cons_cons,List.mem_cons] at h
    rcases h with h | h
    ·split at h
     ·exact .inl h
     ·exact .inr (by rw [h]; exact mX)
    ·rcases ih h with h | h
     ·exact .inl h
     ·exact .inr (mZ _ h)
 ·rcases List.mem_append.mp h with h | h
  ·exact .inr h
  ·exact .inl (List.mem_singleton.mp h)
theorem oU : ∀ (l : List (Key × D)) (a : List Key × List D) (y : D),y ∈ (l.foldl qe a).2->y ∈ a.2 ∨ ∃ p ∈ l,p.2 = y
 | [],a,y,h=>.inl h
 | p :: l,a,y,h=>by
  rw [List.foldl_cons] at h
  rcases oU l _ y h with h | ⟨q,hq,e⟩
  ·rcases oS (show y ∈ dj a.1 a.2 p.1 p.2 from h) with h | h
   ·exact .inr ⟨p,mX,h.symm⟩
   ·exact .inl h
  ·exact .inr ⟨q,mZ _ hq,e⟩
theorem oV {α : Type} (f : α->Str) (g : α->D) : ∀ (l : List α),fm (l.map fun x=>D.tup [.str (f x),g x]) = some (l.map fun x=>(.inr (f x),g x))
 | []=>rfl
 | x :: l=>by
  rw [List.map_cons,fm,oV f g l]
  rfl
theorem mO {κ : Type} [DecidableEq κ] : ∀ {ks : List κ} {vs : List D} {k : κ} {v : D},cH ks vs k = some v->v ∈ vs
 | k' :: ks,d :: ds,k,v,h=>by
  unfold cH at h
  split at h
  ·cases h; exact mX
  ·exact mZ _ (mO h)
 | [],_,_,_,h=>by simp [cH] at h
 | _ :: _,[],_,_,h=>by simp [cH] at h
def i7 (KL : List (D × Nat)) : List (Key × D):=(KL.filter fun x=>bH x.1).map fun x=>(.inr (aA 0 x.1),x.1)
def j4 (KL : List (D × Nat)) (o : Str) : Option D:=cH (bj (i7 KL)).1 (bj (i7 KL)).2 (.inr o)
theorem mP {r : D} (g : nH r) (h : bH r = true) : ∃ a o rl,∃ m f : Int,r = row a ("root" : Str) [.str o,.int m,.int f,.str rl]:=by
 obtain ⟨a,k,ay,rfl,d⟩:=g
 have hk : k = ("root" : Str):=of_decide_eq_true h
 subst hk
 obtain ⟨o,rl,m,f,rfl⟩:=d.root_of
 exact ⟨a,o,rl,m,f,rfl⟩
theorem cj {rows : List D} (g : dJ rows) {known : Int} {x : D × Nat} (hx : x ∈ ar rows known) : atI rows (x.2 : Int) = some x.1/\nH x.1:=⟨iO (cf hx),g.2 _ (List.mem_of_getElem? (cf hx))⟩
theorem kQ {rows : List D} (g : dJ rows) {known : Int} {o : Str} {v : D} (h : j4 (ar rows known) o = some v) : ∃ a o2 rl,∃ m f : Int,v = row a ("root" : Str) [.str o2,.int m,.int f,.str rl]:=by
 have hv:=mO h
 rcases oU _ ([],[]) v hv with h | ⟨p,hp,e⟩
 ·cases h
 ·obtain ⟨x,hx,rfl⟩:=List.mem_map.mp hp
  obtain ⟨h1,h2⟩:=List.mem_filter.mp hx
  rw [← e]
  exact mP (cj g h1).2 h2
theorem sL {rows : List D} (g : dJ rows) (known : Int) : eQ [.tup rows,.int known] = some (.dk (bj (i7 (ar rows known))).1 (bj (i7 (ar rows known))).2,false):=by
 have hl:=iQ rows known
 have hl2:=g.1
 have h1:=sw (fi:=bL (fA ce (ae (af 0) (ae (af 1) ak)))) (nT:=1) (cap:=[0]) (tg:=tgN 0) (fe:=f2 ixD (af 1) (af 0)) (ρ:=[some (.tup rows,false),some (.int known,false),none]) (ar rows known) (fun x=>.int x.2) Prod.fst
  (by
   show (fA ce (ae (af 0) (ae (af 1) ak)) _).bind _ = _
   rw [ai (ds:=[.tup rows,.int known]) rfl (mE rows g.rp g.le known)]
   rfl) (by omega) fun x hx=>by
   have ha:=(cj g hx).1
   exact ⟨_,rfl,false,by simp [bw,ha]⟩
 have hn : aS ((ar rows known).map Prod.fst) = true:=bB fun d hd=>by
  obtain ⟨x,hx,rfl⟩:=List.mem_map.mp hd
  exact (cj g hx).2.rp.flat
 have h2:=gD (fi:=bL (af 2)) (nT:=1) (cap:=[]) (tg:=tgN 0) (c:=tOf (f2 dEq (fA aD (ae (af 0) ak)) (fC (.str "root")))) (fe:=fA aZ (ae (fA am (ae (af 0) (ae (fC (.str "office")) ak))) (ae (af 0) ak)))
  (ρ:=[some (.tup rows,false),some (.int known,false),some (.lst ((ar rows known).map Prod.fst),true)]) (ar rows known) Prod.fst (fun x=>bH x.1) (fun x=>.tup [.str (aA 0 x.1),x.1]) (by simp) (by omega) fun x hx=>by
   have gr:=(cj g hx).2
   refine ⟨_,rfl,bI (a:=kindOf x.1) (bb:=false) (ai (ds:=[x.1]) rfl (u9 gr)) rfl,fun hp=>⟨false, ?_⟩⟩
   obtain ⟨a,o,rl,m,f,e⟩:=mP gr hp
   refine ai (ds:=[.str (aA 0 x.1),x.1]) (av (b:=false) (ai (ds:=[x.1,.str "office"]) rfl ?_) rfl) (cR _ (by simp))
   rw [e]
   exact kP
 refine a8 rfl (bT (ds:=(ar rows known).map Prod.fst) h1 hn (aI (ai (ds:=[.lst (((ar rows known).filter fun x : D × Nat=>bH x.1).map fun x : D × Nat=>D.tup [.str (aA 0 x.1),x.1])]) (av h2 rfl) ?_)))
 rw [fY,oV (fun x : D × Nat=>aA 0 x.1) Prod.fst]
 rfl
def uB : D × Nat->List (D × Nat)->D × Nat
 | b,[]=>b
 | b,x :: r=>if aQ (kA x) (kA b) = some true then uB x r else uB b r
theorem qq : ∀ (r : List (D × Nat)) (b : D × Nat),gA (kA b,.int b.2) (r.map fun x=>(kA x,D.int x.2)) = .int (uB b r).2
 | [],b=>rfl
 | x :: r,b=>by
  rw [List.map_cons,gA,uB]
  split
  ·exact qq r x
  ·exact qq r b
def dF (KL : List (D × Nat)) (p : Str) (day : Int) (i : Nat) : Bool:=match KL.filter (fun x=>told bU p day x.1) with
 | []=>false
 | b :: r=>decide ((uB b r).2 = i)
theorem zb {rows : List D} (g : dJ rows) (known : Int) {x : D × Nat} (hx : x ∈ ar rows known) {a d : Int} {p : Str} (e : x.1 = row a ("death" : Str) [.int d,.str p]) : cD [.tup rows,.int known,.int x.2] = some (.bl (dF (ar rows known) p d x.2),false):=by
 have ha:=(cj g hx).1
 have gx:=(cj g hx).2
 have ht:=ql rows g.rp g.le known bU dN p d
 have hpart : am [x.1,.str "person"] = some (.str p,false):=by rw [e]; exact bi (i:=1) (bd (by decide +kernel)) rfl
 have hday : aL [x.1] = some (.int d,false):=by rw [e]; exact fM (.inl (by decide +kernel)) rfl
 have hmem : x ∈ lp rows known bU p d:=List.mem_filter.mpr ⟨hx,by rw [e]; simp [told,row,bU,oR]⟩
 have hfv : dF (ar rows known) p d x.2 = match lp rows known bU p d with | []=>false | b :: r=>decide ((uB b r).2 = x.2):=rfl
 have key : ∀ y ∈ lp rows known bU p d,∃ h k dd,rows[y.2]? = some (row h k [.int dd,.str p])/\y.1 = row h k [.int dd,.str p]/\bM k = true:=fun y hy=>by
  obtain ⟨hg,htl⟩:=vS hy
  obtain ⟨h,k,dd,e2,h3,_⟩:=iP dN (g.rp _ (List.mem_of_getElem? hg)) htl
  exact ⟨h,k,dd,by rw [hg,e2],e2,h3⟩
 rw [hfv]
 cases hs : lp rows known bU p d with
 | nil=>rw [hs] at hmem; cases hmem
 | cons b r =>
  rw [hs] at ht key
  have hm : ∀ ρ : DL.Env,ρ[0]? = some (some (.tup rows,false))->fG (si [0] (fA cN (ae (af 1) (ae (af 0) ak))) ρ) ((b :: r).map fun y=>.int y.2) = some ((b :: r).map fun y=>.tup [.int (aM y.1),.int y.2]):=fun ρ h0 =>
   fN (b :: r) fun y hy=>by
    obtain ⟨h,k,dd,hg,e2,h3⟩:=key y hy
    show (fA cN _ _).map _ = _
    rw [ai (ds:=[.tup rows,.int y.2]) (by simp [bw,h0]) (vU hg h3),e2]
    rfl
  have hk : bR ((b :: r).map fun y=>D.tup [.int (aM y.1),.int y.2]) = some ((b :: r).map kA):=dv _ fun y _=>rfl
  have hz : ((b :: r).map kA).zip ((b :: r).map fun y=>D.int y.2) = (kA b,D.int b.2) :: r.map fun y=>(kA y,D.int y.2):=by rw [List.zip_map']; rfl
  have hfl : aS ((b :: r).map fun y=>D.int y.2) = true:=bB fun d hd=>by obtain ⟨y,_,rfl⟩:=List.mem_map.mp hd; rfl
  refine a8 rfl (aP (d:=x.1) (b:=false) (by simp [ha]) gx.rp.flat (bT (ds:=(b :: r).map fun y=>.int y.2) (ai (ds:=[.tup rows,.int known,.tup (bU.map .str),.str p,.int d]) (av (b:=false) rfl (av (b:=false) rfl (av (b:=false) (ai (ds:=[.str "death"]) rfl (cR _ (by simp))) (av (ai (ds:=[x.1,.str "person"]) rfl hpart) (av (ai (ds:=[x.1]) rfl hday) rfl))))) ht) hfl (aI (aB (x:=.int (uB b r).2) (y:=.int x.2) (b1:=false) (b2:=false) ?_ rfl ?_))))
  ·unfold md
   show ((some (D.lst ((b :: r).map fun y=>D.int y.2),false)).bind _) = _
   rw [Option.bind_some]
   dsimp only
   rw [hm _ rfl,Option.bind_some,hk,Option.bind_some,if_pos (qm _),hz]
   show some (gA _ _,false) = _
   rw [qq]
  ·rw [vM]
   congr 3
   apply decide_eq_decide.mpr
   omega
abbrev KL:=List (D × Nat)
def mQ (K : KL) (p : Str) (day : Int) : Bool:=(K.filter fun x=>told bU p day x.1).isEmpty
def Ef (K : KL) (p : Str) (day : Int) : Bool:=match Bz (K.filter fun x=>told jx p day x.1) with
 | none=>true
 | some x=>decide (kindOf x.1 = ("found" : Str))
def qr (K : KL) (r : D) : Bool:=de (kindOf r) && (mQ K (wU r) (aM r) && Ef K (wU r) (aM r))
def lq (r : D) : Str:=if kindOf r = ("named" : Str) then aA 1 r else aA 2 r
def ft : List Str:=[("named" : Str),("chosen" : Str),("heir" : Str)]
def br (K : KL) (so : List Cl) (x : D × Nat) : Bool :=
 if kindOf x.1 = ("death" : Str) then dF K (aA 1 x.1) (aM x.1) x.2
 else if kindOf x.1 ∈ ft then match j4 K (lq x.1) with
  | none=>false
  | some v=>if kindOf x.1 = ("named" : Str) then true else qr K x.1 && sJ so (aA 0 v) (aA 3 v) (aA 1 x.1) (aM x.1)
 else false
theorem A7 (rows : List D) (known : Int) (p : Str) (day : Int) : jZ rows known p day = mQ (ar rows known) p day:=rfl
theorem A8 {rows : List D} {known : Int} {r : D} (h : df r<=known) : qo rows known r = qr (ar rows known) r:=by
 unfold qo qr
 rw [decide_eq_true h,Bool.true_and]
 rfl
theorem wZ {rows : List D} (g : dJ rows) (known : Int) (so : List Cl) (hso : so.length<=60) {x : D × Nat} (hx : x ∈ ar rows known) (hnr : bH x.1 = false) : gE [.tup rows,.int known,.lst (so.map clD),.int x.2] = some (.bl (br (ar rows known) so x),false):=by
 obtain ⟨ha,gx⟩:=cj g hx
 have hh : df x.1<=known:=of_decide_eq_true (List.mem_filter.mp hx).2
 have hf : bg x.1 = true:=gx.rp.flat
 have hw : ∀ ρ : DL.Env,ρ[4]? = some (some (x.1,false))->fA aD (ae (af 4) ak) ρ = some (.str (kindOf x.1),false):=fun ρ h4=>ai (ds:=[x.1]) (by simp [h4]) (u9 gx)
 have hni : ∀ ρ : DL.Env,ρ[4]? = some (some (x.1,false))->tOf (f2 dX (fA aD (ae (af 4) ak)) (fA aZ (ae (fC (.str "named")) (ae (fC (.str "chosen")) (ae (fC (.str "heir")) ak))))) ρ = some (!decide (kindOf x.1 ∈ ft)):=fun ρ h4 =>
  aC (b:=false) (aB (x:=.str (kindOf x.1)) (y:=.tup (ft.map .str)) (b1:=false) (b2:=false) (hw ρ h4) (by simp [sizeLine,ft]) (kN _ _))
 by_cases hd : kindOf x.1 = ("death" : Str)
 ·obtain ⟨a,k,ay,e,d⟩:=gx
  have hk : k = ("death" : Str):=by rw [e] at hd; exact hd
  subst hk
  obtain ⟨dd,p,rfl⟩:=d.deed.three (by decide +kernel)
  have hc : br (ar rows known) so x = dF (ar rows known) p dd x.2:=by
   unfold br
   rw [if_pos hd,e]
   rfl
  rw [hc]
  exact a8 rfl (aP (d:=x.1) (b:=false) (by simp [ha]) hf (cZ (bI (bb:=false) (hw _ rfl) (decide_eq_true hd)) (aI (ai (ds:=[.tup rows,.int known,.int x.2]) rfl (zb g known hx e)))))
 ·by_cases h3 : kindOf x.1 ∈ ft
  ·have hoff : am [x.1,.str "office"] = some (.str (lq x.1),false):=by
    obtain ⟨a,k,ay,e,d⟩:=gx
    rw [e] at h3 hd hnr ⊢
    replace h3 : k ∈ ft:=h3
    clear hd hnr
    cases d with
    | root=>exact absurd h3 (by decide +kernel)
    | named d o p=>exact bi (i:=1) (bd (by decide +kernel)) rfl
    | chosen d b o p s=>exact bi (i:=2) (bd (by decide +kernel)) rfl
    | heir d b o p=>exact bi (i:=2) (bd (by decide +kernel)) rfl
    | three _ hk=>rcases hk with rfl | rfl | rfl <;> exact absurd h3 (by decide +kernel)
    | other _ hk=>rcases hk with rfl | rfl | rfl | rfl | rfl <;> exact absurd h3 (by decide +kernel)
   have e5 : ∀ ρ : DL.Env,ρ[0]? = some (some (.tup rows,false))->ρ[1]? = some (some (.int known,false))->ρ[4]? = some (some (x.1,false))->f2 uu (fA eQ (ae (af 0) (ae (af 1) ak))) (fA am (ae (af 4) (ae (fC (.str "office")) ak))) ρ = some ((j4 (ar rows known) (lq x.1)).getD .non,false):=fun ρ q0 q1 q4 =>
    aB (x:=.dk (bj (i7 (ar rows known))).1 (bj (i7 (ar rows known))).2) (y:=.str (lq x.1)) (b1:=false) (b2:=false) (ai (ds:=[.tup rows,.int known]) (by simp [q0,q1]) (sL g known)) (ai (ds:=[x.1,.str "office"]) (by simp [q4]) hoff) rfl
   cases hr : j4 (ar rows known) (lq x.1) with
   | none =>
    rw [hr] at e5
    have hc : br (ar rows known) so x = false:=by unfold br; rw [if_neg hd,if_pos h3,hr]
    rw [hc]
    exact a8 rfl (aP (d:=x.1) (b:=false) (by simp [ha]) hf (bC (bI (bb:=false) (hw _ rfl) (decide_eq_false hd)) (bC (by rw [hni _ rfl,decide_eq_true h3]; rfl) (aP (d:=.non) (b:=false) (e5 _ rfl rfl rfl) rfl (cZ (aC (b:=false) (aB (x:=.non) (y:=.non) (b1:=false) (b2:=false) rfl rfl (by simp))) (aI rfl))))))
   | some v =>
    rw [hr] at e5
    obtain ⟨va,vo,vrl,vm,vf,ev⟩:=kQ g hr
    have hvf : bg v = true:=by rw [ev]; rfl
    have hvn : dIs v .non = some (.bl false,false):=by rw [ev]; simp [row]
    by_cases hn : kindOf x.1 = ("named" : Str)
    ·have hc : br (ar rows known) so x = true:=by unfold br; rw [if_neg hd,if_pos h3,hr]; dsimp only; rw [if_pos hn]
     rw [hc]
     exact a8 rfl (aP (d:=x.1) (b:=false) (by simp [ha]) hf (bC (bI (bb:=false) (hw _ rfl) (decide_eq_false hd)) (bC (by rw [hni _ rfl,decide_eq_true h3]; rfl) (aP (d:=v) (b:=false) (e5 _ rfl rfl rfl) hvf (bC (aC (b:=false) (aB (x:=v) (y:=.non) (b1:=false) (b2:=false) rfl rfl hvn)) (cZ (bI (bb:=false) (hw _ rfl) (decide_eq_true hn)) (aI rfl)))))))
    ·have hc : br (ar rows known) so x = (qr (ar rows known) x.1 && sJ so (aA 0 v) (aA 3 v) (aA 1 x.1) (aM x.1)):=by unfold br; rw [if_neg hd,if_pos h3,hr]; dsimp only; rw [if_neg hn]
     have hby : am [x.1,.str "by"] = some (.str (aA 1 x.1),false)/\aL [x.1] = some (.int (aM x.1),false):=by
      refine ⟨?_,by rw [vW gx]; unfold u8; rw [hnr]; rfl⟩
      obtain ⟨a,k,ay,e,d⟩:=gx
      rw [e] at h3 hn ⊢
      replace h3 : k ∈ ft:=h3
      cases d with
      | root=>exact absurd h3 (by decide +kernel)
      | named=>exact absurd rfl hn
      | chosen d b o p s=>exact bi (i:=1) (bd (by decide +kernel)) rfl
      | heir d b o p=>exact bi (i:=1) (bd (by decide +kernel)) rfl
      | three _ hk=>rcases hk with rfl | rfl | rfl <;> exact absurd h3 (by decide +kernel)
      | other _ hk=>rcases hk with rfl | rfl | rfl | rfl | rfl <;> exact absurd h3 (by decide +kernel)
     have hs:=yX rows g.rp g.le known (cf hx)
     rw [A8 hh] at hs
     have hheld : da [.lst (so.map clD),v,.str (aA 1 x.1),.int (aM x.1)] = some (.bl (sJ so (aA 0 v) (aA 3 v) (aA 1 x.1) (aM x.1)),false):=by
      rw [ev]
      exact A6 so hso _ _
     rw [hc]
     refine a8 rfl (aP (d:=x.1) (b:=false) (by simp [ha]) hf (bC (bI (bb:=false) (hw _ rfl) (decide_eq_false hd)) (bC (by rw [hni _ rfl,decide_eq_true h3]; rfl) (aP (d:=v) (b:=false) (e5 _ rfl rfl rfl) hvf (bC (aC (b:=false) (aB (x:=v) (y:=.non) (b1:=false) (b2:=false) rfl rfl hvn)) (bC (bI (bb:=false) (hw _ rfl) (decide_eq_false hn)) (aI ?_)))))))
     exact fq (b1:=false) (ai (ds:=[.tup rows,.int known,.int x.2]) rfl hs) fun _=>ai (ds:=[.lst (so.map clD),v,.str (aA 1 x.1),.int (aM x.1)]) (av (b:=false) rfl (av (b:=false) rfl (av (ai (ds:=[x.1,.str "by"]) rfl hby.1) (av (ai (ds:=[x.1]) rfl hby.2) rfl)))) hheld
  ·have hc : br (ar rows known) so x = false:=by unfold br; rw [if_neg hd,if_neg h3]
   rw [hc]
   exact a8 rfl (aP (d:=x.1) (b:=false) (by simp [ha]) hf (bC (bI (bb:=false) (hw _ rfl) (decide_eq_false hd)) (cZ (by rw [hni _ rfl,decide_eq_false h3]; rfl) (aI rfl))))
def dh (offs : List Str) (p : Str) (day : Int) (c : Cl) : List Cl :=
 if (!decide (c.o ∈ offs) || (!decide (c.p = p) || !(bJ c day || decide (day < c.s)))) = true then [c] else if c.s < day then [⟨c.o,p,c.s,some day,c.n⟩] else []
def bf (so : List Cl) (offs : List Str) (p : Str) (day : Int) : List Cl:=so.flatMap (dh offs p day)
theorem dw (offs : List Str) (p : Str) (day : Int) : ∀ so : List Cl,(bf so offs p day).length<=so.length
 | []=>Nat.le_refl _
 | c :: so=>by
  unfold bf
  rw [List.flatMap_cons,List.length_append,List.length_cons]
  have h1:=dw offs p day so
  have h2 : (dh offs p day c).length<=1:=by
   unfold dh
   split
   ·simp
   ·split <;> simp
  unfold bf at h1
  omega
theorem uC (k : Str) (ws : List Str) : dX (.str k) (.lst (ws.map .str)) = some (.bl (!decide (k ∈ ws)),false):=by
 simp only [dX,eM,Option.bind_some,mD]
 rw [if_pos ⟨rfl,jX ws⟩]
theorem sM (so : List Cl) (hso : so.length<=60) (offs : List Str) (p : Str) (day : Int) : hU [.lst (so.map clD),.lst (offs.map .str),.str p,.int day] = some (.lst ((bf so offs p day).map clD),true):=by
 obtain ⟨ρ',e,v5,rfl⟩:=fJ (tg:=tgN 5) (g:=m7) (fun j ρ=>∃ v5 : Option (D × Bool),ρ = [some (.lst (so.map clD),false),some (.lst (offs.map .str),false),some (.str p,false),some (.int day,false),some (.lst ((bf (so.take j) offs p day).map clD),true),v5]) (so.map clD)
  [some (.lst (so.map clD),false),some (.lst (offs.map .str),false),some (.str p,false),some (.int day,false),some (.lst [],true),none] ⟨none,rfl⟩ (by
   rintro j d ρ hd ⟨v5,rfl⟩
   rw [List.getElem?_map] at hd
   obtain ⟨c,hc,rfl⟩:=oY hd
   have hj : j < so.length:=(List.getElem?_eq_some_iff.mp hc).1
   have et : bf (so.take (j + 1)) offs p day = bf (so.take j) offs p day ++ dh offs p day c:=by
    unfold bf
    rw [List.take_add_one,hc,Option.toList_some,List.flatMap_append,List.flatMap_cons,List.flatMap_nil,List.append_nil]
   have hlen : (bf (so.take j) offs p day).length<=60:=Nat.le_trans (dw offs p day _) (by rw [List.length_take]; omega)
   let ρ1 : DL.Env:=[some (.lst (so.map clD),false),some (.lst (offs.map .str),false),some (.str p,false),some (.int day,false),some (.lst ((bf (so.take j) offs p day).map clD),true),some (clD c,false)]
   have q0 : f2 ixD (af 5) (fC (.int 0)) ρ1 = some (.str c.o,false):=aB (x:=clD c) (y:=.int 0) (b1:=false) (b2:=false) rfl rfl (cl0 c)
   have q1 : f2 ixD (af 5) (fC (.int 1)) ρ1 = some (.str c.p,false):=aB (x:=clD c) (y:=.int 1) (b1:=false) (b2:=false) rfl rfl (cl1 c)
   have q2 : f2 ixD (af 5) (fC (.int 2)) ρ1 = some (.int c.s,false):=aB (x:=clD c) (y:=.int 2) (b1:=false) (b2:=false) rfl rfl (cl2 c)
   have q4 : f2 ixD (af 5) (fC (.int 4)) ρ1 = some (.int c.n,false):=aB (x:=clD c) (y:=.int 4) (b1:=false) (b2:=false) rfl rfl (cl4 c)
   have hcond : gs (tOf (f2 dX (f2 ixD (af 5) (fC (.int 0))) (af 1))) (gs (tOf (f2 dNe (f2 ixD (af 5) (fC (.int 1))) (af 2))) (gt (gs (tOf (fA bp (ae (af 5) (ae (af 3) ak)))) (tOf (f2 iGt (f2 ixD (af 5) (fC (.int 2))) (af 3)))))) ρ1 = some (!decide (c.o ∈ offs) || (!decide (c.p = p) || !(bJ c day || decide (day < c.s)))) :=
    gC (aC (b:=false) (aB (x:=.str c.o) (y:=.lst (offs.map .str)) (b1:=false) (b2:=false) q0 rfl (uC _ _))) fun _=>gC (aC (b:=false) (aB (x:=.str c.p) (y:=.str p) (b1:=false) (b2:=false) q1 rfl (by simp))) fun _=>lx (gC (aC (b:=false) (ai (ds:=[clD c,.int day]) rfl (mH c day))) fun _=>aC (b:=false) (aB (x:=.int c.s) (y:=.int day) (b1:=false) (b2:=false) q2 rfl (by simp)))
   by_cases h1 : (!decide (c.o ∈ offs) || (!decide (c.p = p) || !(bJ c day || decide (day < c.s)))) = true
   ·have eo : dh offs p day c = [c]:=by unfold dh; rw [if_pos h1]
    rw [h1] at hcond
    refine ⟨_,_,rfl,.inl (qh hcond (iM (ds:=(bf (so.take j) offs p day).map clD) (d:=clD c) (b:=false) rfl rfl (jy c) (cc (by simp; omega)))),some (clD c,false), ?_⟩
    rw [et,eo,List.map_append]
    rfl
   ·rw [Bool.not_eq_true] at h1
    rw [h1] at hcond
    by_cases h2 : c.s < day
    ·have eo : dh offs p day c = [⟨c.o,p,c.s,some day,c.n⟩]:=by unfold dh; rw [if_neg (by rw [h1]; decide),if_pos h2]
     refine ⟨_,_,rfl,.inl (lm hcond (qh (aC (b:=false) (aB (x:=.int c.s) (y:=.int day) (b1:=false) (b2:=false) q2 rfl (by simp [h2]))) (iM (ds:=(bf (so.take j) offs p day).map clD) (d:=clD ⟨c.o,p,c.s,some day,c.n⟩) (b:=false) rfl (ai (ds:=[.str c.o,.str p,.int c.s,.int day,.int c.n]) (av q0 (av (b:=false) rfl (av q2 (av (b:=false) rfl (av q4 rfl))))) (cR _ (by simp))) (jy _) (cc (by simp; omega))))),some (clD c,false), ?_⟩
     rw [et,eo,List.map_append]
     rfl
    ·have eo : dh offs p day c = []:=by unfold dh; rw [if_neg (by rw [h1]; decide),if_neg h2]
     refine ⟨_,_,rfl,.inl (lm hcond (lm (aC (b:=false) (aB (x:=.int c.s) (y:=.int day) (b1:=false) (b2:=false) q2 rfl (by simp; omega))) rfl)),some (clD c,false), ?_⟩
     rw [et,eo,List.append_nil]
     rfl)
 have e' : eY (tgN 5) m7 (so.map clD) [some (.lst (so.map clD),false),some (.lst (offs.map .str),false),some (.str p,false),some (.int day,false),some (.lst [],true),none] = some (.nx [some (.lst (so.map clD),false),some (.lst (offs.map .str),false),some (.str p,false),some (.int day,false),some (.lst ((bf so offs p day).map clD),true),v5]):=by
  rw [e]
  have : so.take (so.map clD).length = so:=by rw [List.length_map,List.take_length]
  rw [this]
 exact a8 rfl (bT (ds:=[]) (by simp [sizeLine]) rfl (dI (js (ds:=so.map clD) (by simp [qU]) e') (jr rfl)))
theorem B3 {r : D} {o p : Str} (ho : am [r,.str "office"] = some (.str o,false)) (hp : am [r,.str "person"] = some (.str p,false)) (s : Int) (n : Nat) : c8 [r,.int s,.int n] = some (clD ⟨o,p,s,none,n⟩,false) :=
 a8 rfl (aI (ai (ds:=[.str o,.str p,.int s,.non,.int n]) (av (ai (ds:=[r,.str "office"]) rfl ho) (av (ai (ds:=[r,.str "person"]) rfl hp) rfl)) (cR _ (by simp))))
theorem xa (so : List Cl) (hso : so.length<=60) {a d s : Int} {b o p : Str} (n : Nat) : dc [.lst (so.map clD),row a ("chosen" : Str) [.int d,.str b,.str o,.str p,.int s],.int n] = some (.lst ((bf so [o] b s ++ [(⟨o,p,s,none,n⟩ : Cl)]).map clD),true):=by
 let r : D:=row a ("chosen" : Str) [.int d,.str b,.str o,.str p,.int s]
 have ho : am [r,.str "office"] = some (.str o,false):=bi (i:=2) (bd (by decide +kernel)) rfl
 have hp : am [r,.str "person"] = some (.str p,false):=bi (i:=3) (bd (by decide +kernel)) rfl
 have hb : am [r,.str "by"] = some (.str b,false):=bi (i:=1) (bd (by decide +kernel)) rfl
 have hs : am [r,.str "since"] = some (.int s,false):=bi (i:=4) (bd (by decide +kernel)) rfl
 have hl:=dw [o] b s so
 refine a8 rfl (aP (d:=.int s) (b:=false) (ai (ds:=[r,.str "since"]) rfl hs) rfl (bT (ds:=(bf so [o] b s).map clD) (ai (ds:=[.lst (so.map clD),.lst ([o].map .str),.str b,.int s]) (av (b:=false) rfl (av (b:=true) (ai (ds:=[.str o]) (av (ai (ds:=[r,.str "office"]) rfl ho) rfl) (mG _ (by simp))) (av (ai (ds:=[r,.str "by"]) rfl hb) rfl))) (sM so hso [o] b s)) (eC _) (aI ?_)))
 refine aB (x:=.lst ((bf so [o] b s).map clD)) (y:=.lst [clD ⟨o,p,s,none,n⟩]) (b1:=false) (b2:=true) rfl (ai (ds:=[clD ⟨o,p,s,none,n⟩]) (av (ai (ds:=[r,.int s,.int n]) rfl (B3 ho hp s n)) rfl) (mG _ (by simp))) ?_
 rw [List.map_append]
 exact if_pos (b8 (by rw [List.length_map,List.length_singleton]; omega))
def sO (hk : List (List Key)) (hv : List D) (o p : Str) : Option Str:=match cH hk hv [.inr o,.inr p] with
 | some (.str h)=>some h
 | _=>none
def c9 (K : KL) (hk : List (List Key)) (hv : List D) (p : Str) (day : Int) (n : Nat) (o : Str) : List Cl:=match sO hk hv o p with
 | some h=>if mQ K h day = true then [⟨o,h,day,none,n⟩] else []
 | none=>[]
def cg (so : List Cl) (p : Str) (day : Int) : List Str:=g7 (eF ((so.filter fun c=>decide (c.p = p) && bJ c day).map (·.o)))
def lr (K : KL) (so : List Cl) (hk : List (List Key)) (hv : List D) (p : Str) (day : Int) (n : Nat) : List Cl:=(cg so p day).flatMap (c9 K hk hv p day n)
theorem iR (K : KL) (hk : List (List Key)) (hv : List D) (p : Str) (day : Int) (n : Nat) (o : Str) : (c9 K hk hv p day n o).length<=1:=by
 unfold c9
 split
 ·split <;> simp
 ·simp
theorem j5 {α β : Type} (f : α->List β) (h : ∀ a,(f a).length<=1) : ∀ l : List α,(l.flatMap f).length<=l.length
 | []=>Nat.le_refl _
 | a :: l=>by
  rw [List.flatMap_cons,List.length_append,List.length_cons]
  have:=h a
  have:=j5 f h l
  omega
theorem sP (so : List Cl) (p : Str) (day : Int) : (cg so p day).length<=so.length:=by
 unfold cg
 rw [(cb _).length_eq]
 refine Nat.le_trans (lO _) ?_
 rw [List.length_map]
 exact List.length_filter_le _ _
theorem qt {rows : List D} (g : dJ rows) (known : Int) (so : List Cl) (hso : so.length<=60) (hk : List (List Key)) (hv : List D) (hhv : ∀ v ∈ hv,∃ s,v = .str s) {x : D × Nat} (hx : x ∈ ar rows known) {a d : Int} {p : Str} (e : x.1 = row a ("death" : Str) [.int d,.str p]) :
  eR [.tup rows,.int known,.lst (so.map clD),.dt hk hv,.int x.2] = some (.lst ((lr (ar rows known) so hk hv p d x.2).map clD),true):=by
 have ha:=(cj g hx).1
 have hpart : am [x.1,.str "person"] = some (.str p,false):=by rw [e]; exact bi (i:=1) (bd (by decide +kernel)) rfl
 have hday : aL [x.1] = some (.int d,false):=by rw [e]; exact fM (.inl (by decide +kernel)) rfl
 have holen:=sP so p d
 have hstep : ∀ (o : Str) (l : List Cl) (v9 : Option (D × Bool)),l.length<=60->dM [some (.tup rows,false),some (.int known,false),some (.lst (so.map clD),false),some (.dt hk hv,false),some (.int x.2,false),some (.str p,false),some (.int d,false),some (.lst (l.map clD),true),some (.str o,false),v9] = some (.nx [some (.tup rows,false),some (.int known,false),some (.lst (so.map clD),false),some (.dt hk hv,false),some (.int x.2,false),some (.str p,false),some (.int d,false),some (.lst ((l ++ c9 (ar rows known) hk hv p d x.2 o).map clD),true),some (.str o,false),some ((cH hk hv [.inr o,.inr p]).getD .non,false)]):=fun o l v9 hl=>by
  have eg : yH (af 3) (ae (af 8) (ae (af 5) ak)) [some (.tup rows,false),some (.int known,false),some (.lst (so.map clD),false),some (.dt hk hv,false),some (.int x.2,false),some (.str p,false),some (.int d,false),some (.lst (l.map clD),true),some (.str o,false),v9] = some ((cH hk hv [.inr o,.inr p]).getD .non,false):=by
   simp [eO,sizeLine]
  cases hlk : cH hk hv [.inr o,.inr p] with
  | none =>
   rw [hlk] at eg
   have ei : c9 (ar rows known) hk hv p d x.2 o = []:=by unfold c9 sO; rw [hlk]
   rw [ei,List.append_nil]
   exact aP (d:=.non) (b:=false) eg rfl (lm (cK (p:=false) (q:=false) (aC (b:=false) (by simp)) (by simp)) rfl)
  | some v =>
   obtain ⟨h,rfl⟩:=hhv v (mO hlk)
   rw [hlk] at eg
   have hlv:=sF rows g.rp g.le known h d
   rw [A7] at hlv
   have hand : ∀ ρ : DL.Env,ρ[0]? = some (some (.tup rows,false))->ρ[1]? = some (some (.int known,false))->ρ[6]? = some (some (.int d,false))->ρ[9]? = some (some (.str h,false))->cx (tOf (f2 jL (af 9) (fC .non))) (tOf (fA fZ (ae (af 0) (ae (af 1) (ae (af 9) (ae (af 6) ak)))))) ρ = some (true && mQ (ar rows known) h d):=fun ρ q0 q1 q6 q9 =>
    cK (aC (b:=false) (by simp [q9])) fun _=>aC (b:=false) (ai (ds:=[.tup rows,.int known,.str h,.int d]) (by simp [q0,q1,q6,q9]) hlv)
   cases hl2 : mQ (ar rows known) h d with
   | false =>
    have ei : c9 (ar rows known) hk hv p d x.2 o = []:=by unfold c9 sO; rw [hlk]; dsimp only; rw [hl2]; rfl
    rw [ei,List.append_nil]
    exact aP (d:=.str h) (b:=false) eg rfl (lm (by rw [hand _ rfl rfl rfl rfl,hl2]; rfl) rfl)
   | true =>
    have ei : c9 (ar rows known) hk hv p d x.2 o = [⟨o,h,d,none,x.2⟩]:=by unfold c9 sO; rw [hlk]; dsimp only; rw [hl2]; rfl
    rw [ei,List.map_append]
    exact aP (d:=.str h) (b:=false) eg rfl (qh (by rw [hand _ rfl rfl rfl rfl,hl2]; rfl) (iM (ds:=l.map clD) (d:=clD ⟨o,h,d,none,x.2⟩) (b:=false) rfl (ai (ds:=[.str o,.str h,.int d,.non,.int x.2]) rfl (cR _ (by simp))) rfl (cc (by simp; omega))))
 obtain ⟨ρ',el,v8,v9,rfl⟩:=fJ (tg:=tgN 8) (g:=dM) (fun j ρ=>∃ v8 v9 : Option (D × Bool),ρ = [some (.tup rows,false),some (.int known,false),some (.lst (so.map clD),false),some (.dt hk hv,false),some (.int x.2,false),some (.str p,false),some (.int d,false),some (.lst ((((cg so p d).take j).flatMap (c9 (ar rows known) hk hv p d x.2)).map clD),true),v8,v9]) ((cg so p d).map .str)
  [some (.tup rows,false),some (.int known,false),some (.lst (so.map clD),false),some (.dt hk hv,false),some (.int x.2,false),some (.str p,false),some (.int d,false),some (.lst [],true),none,none] ⟨none,none,rfl⟩ (by
   rintro j dd ρ hd ⟨v8,v9,rfl⟩
   rw [List.getElem?_map] at hd
   obtain ⟨o,ho,rfl⟩:=oY hd
   have hl : (((cg so p d).take j).flatMap (c9 (ar rows known) hk hv p d x.2)).length<=60:=Nat.le_trans (j5 _ (iR _ _ _ _ _ _) _) (by rw [List.length_take]; omega)
   refine ⟨_,_,rfl,.inl (hstep o _ v9 hl),some (.str o,false),some ((cH hk hv [.inr o,.inr p]).getD .non,false), ?_⟩
   rw [List.take_add_one,ho,Option.toList_some,List.flatMap_append,List.flatMap_cons,List.flatMap_nil,List.append_nil])
 have e' : eY (tgN 8) dM ((cg so p d).map .str) [some (.tup rows,false),some (.int known,false),some (.lst (so.map clD),false),some (.dt hk hv,false),some (.int x.2,false),some (.str p,false),some (.int d,false),some (.lst [],true),none,none] = some (.nx [some (.tup rows,false),some (.int known,false),some (.lst (so.map clD),false),some (.dt hk hv,false),some (.int x.2,false),some (.str p,false),some (.int d,false),some (.lst ((lr (ar rows known) so hk hv p d x.2).map clD),true),v8,v9]):=by
  rw [el]
  have : (cg so p d).take ((cg so p d).map D.str).length = cg so p d:=by rw [List.length_map,List.take_length]
  rw [this]
  rfl
 have hset : ∀ ρ : DL.Env,ρ[2]? = some (some (.lst (so.map clD),false))->ρ[5]? = some (some (.str p,false))->ρ[6]? = some (some (.int d,false))->bL (f1 cG (bK (bL (af 2)) 1 [5,6] (tgN 0) (cx (tOf (f2 dEq (f2 ixD (af 0) (fC (.int 1))) (af 1))) (tOf (fA bp (ae (af 0) (ae (af 2) ak))))) (f2 ixD (af 0) (fC (.int 0))))) ρ = some ((cg so p d).map .str):=fun ρ q2 q5 q6=>by
  have hc:=gD (fi:=bL (af 2)) (nT:=1) (cap:=[5,6]) (tg:=tgN 0) (c:=cx (tOf (f2 dEq (f2 ixD (af 0) (fC (.int 1))) (af 1))) (tOf (fA bp (ae (af 0) (ae (af 2) ak))))) (fe:=f2 ixD (af 0) (fC (.int 0))) (ρ:=ρ) so clD (fun c=>decide (c.p = p) && bJ c d) (fun c=>.str c.o) (by simp [q2]) (by omega) fun c hc =>
   ⟨_,rfl,cK (aC (b:=false) (aB (x:=.str c.p) (y:=.str p) (b1:=false) (b2:=false) (aB (x:=clD c) (y:=.int 1) (b1:=false) (b2:=false) (by simp [bw]) rfl (cl1 c)) (by simp [bw,q5]) (by simp))) fun _=>aC (b:=false) (ai (ds:=[clD c,.int d]) (by simp [bw,q6]) (mH c d)),fun _=>⟨false,aB (x:=clD c) (y:=.int 0) (b1:=false) (b2:=false) (by simp [bw]) rfl (cl0 c)⟩⟩
  have e2 : (so.filter fun c=>decide (c.p = p) && bJ c d).map (fun c=>D.str c.o) = ((so.filter fun c=>decide (c.p = p) && bJ c d).map (·.o)).map .str:=by rw [List.map_map]; rfl
  rw [e2] at hc
  show (f1 cG _ ρ).bind _ = _
  unfold f1
  rw [hc,Option.bind_some]
  have hln : ((so.filter fun c=>decide (c.p = p) && bJ c d).map (·.o)).length < 64:=by rw [List.length_map]; exact Nat.lt_of_le_of_lt (List.length_filter_le _ _) (by omega)
  show ((d7 _).bind _).bind _ = _
  rw [mM,Option.bind_some,if_pos hln]
  rfl
 refine a8 rfl (aP (d:=.str p) (b:=false) (ai (ds:=[x.1,.str "person"]) (by simp [ha]) hpart) rfl (aP (d:=.int d) (b:=false) (ai (ds:=[x.1]) (by simp [ha]) hday) rfl (bT (ds:=[]) (by simp [sizeLine]) rfl (dI (ρ':=[some (.tup rows,false),some (.int known,false),some (.lst (so.map clD),false),some (.dt hk hv,false),some (.int x.2,false),some (.str p,false),some (.int d,false),some (.lst ((lr (ar rows known) so hk hv p d x.2).map clD),true),v8,v9]) ?_ (jr rfl)))))
 exact js (ρ:=[some (.tup rows,false),some (.int known,false),some (.lst (so.map clD),false),some (.dt hk hv,false),some (.int x.2,false),some (.str p,false),some (.int d,false),some (.lst [],true),none,none]) (hset _ rfl rfl rfl) e'
theorem zc {rows : List D} (g : dJ rows) (known : Int) (so : List Cl) (hso : so.length<=60) (hk : List (List Key)) (hv : List D) (hhv : ∀ v ∈ hv,∃ s,v = .str s) {x : D × Nat} (hx : x ∈ ar rows known) {a d : Int} {p : Str} (e : x.1 = row a ("death" : Str) [.int d,.str p]) :
  d5 [.tup rows,.int known,.lst (so.map clD),.dt hk hv,.int x.2] = some (.lst ((bf so (so.map Cl.o) p d ++ lr (ar rows known) so hk hv p d x.2).map clD),true):=by
 have ha:=(cj g hx).1
 have hpart : am [x.1,.str "person"] = some (.str p,false):=by rw [e]; exact bi (i:=1) (bd (by decide +kernel)) rfl
 have hday : aL [x.1] = some (.int d,false):=by rw [e]; exact fM (.inl (by decide +kernel)) rfl
 have h1:=sw (fi:=bL (af 2)) (nT:=1) (cap:=[]) (tg:=tgN 0) (fe:=f2 ixD (af 0) (fC (.int 0))) (ρ:=[some (.tup rows,false),some (.int known,false),some (.lst (so.map clD),false),some (.dt hk hv,false),some (.int x.2,false),none,none]) so clD (fun c=>.str c.o) (by simp) (by omega) fun c hc=>⟨_,rfl,false,aB (x:=clD c) (y:=.int 0) (b1:=false) (b2:=false) (by simp [bw]) rfl (cl0 c)⟩
 have e2 : so.map (fun c=>D.str c.o) = (so.map Cl.o).map .str:=by rw [List.map_map]; rfl
 rw [e2] at h1
 have hl1:=dw (so.map Cl.o) p d so
 have hl2 : (lr (ar rows known) so hk hv p d x.2).length<=60:=Nat.le_trans (j5 _ (iR _ _ _ _ _ _) _) (Nat.le_trans (sP so p d) hso)
 refine a8 rfl (bT (ds:=(so.map Cl.o).map .str) h1 (eS _) (bT (ds:=(bf so (so.map Cl.o) p d).map clD) (ai (ds:=[.lst (so.map clD),.lst ((so.map Cl.o).map .str),.str p,.int d]) (av (b:=false) rfl (av (b:=false) rfl (av (b:=false) (ai (ds:=[x.1,.str "person"]) (by simp [ha]) hpart) (av (b:=false) (ai (ds:=[x.1]) (by simp [ha]) hday) rfl)))) (sM so hso _ p d)) (eC _) (aI ?_)))
 refine aB (x:=.lst ((bf so (so.map Cl.o) p d).map clD)) (y:=.lst ((lr (ar rows known) so hk hv p d x.2).map clD)) (b1:=false) (b2:=true) rfl (ai (ds:=[.tup rows,.int known,.lst (so.map clD),.dt hk hv,.int x.2]) rfl (qt g known so hso hk hv hhv hx e)) ?_
 rw [List.map_append]
 exact if_pos (b8 (by rw [List.length_map,List.length_map]; omega))
abbrev St3:=List Cl × List (List Key) × List D
def cA (K : KL) (st : St3) (x : D × Nat) : St3 :=
 if br K st.1 x = true then
  if kindOf x.1 = ("named" : Str) then (st.1 ++ [⟨aA 1 x.1,aA 2 x.1,aM x.1,none,x.2⟩],st.2)
  else if kindOf x.1 = ("chosen" : Str) then (bf st.1 [aA 2 x.1] (aA 1 x.1) (sK 4 x.1) ++ [⟨aA 2 x.1,aA 3 x.1,sK 4 x.1,none,x.2⟩],st.2)
  else if kindOf x.1 = ("heir" : Str) then (st.1,eA st.2.1 [.inr (aA 2 x.1),.inr (aA 1 x.1)],dj st.2.1 st.2.2 [.inr (aA 2 x.1),.inr (aA 1 x.1)] (.str (aA 3 x.1)))
  else (bf st.1 (st.1.map Cl.o) (aA 1 x.1) (aM x.1) ++ lr K st.1 st.2.1 st.2.2 (aA 1 x.1) (aM x.1) x.2,st.2)
 else st
def cn (K : KL) : KL:=d9 (fun x=>bu (kA x)) (K.filter fun x=>!bH x.1)
def eV (K : KL) (l : KL) : St3:=l.foldl (cA K) ([],[],[])
def kC (c : Cl) : List At:=[.s c.o,.i c.s,.i c.n]
def di (K : KL) : List Cl:=d9 (fun c=>bu (kC c)) (eV K (cn K)).1
structure SoOk (OF : List Str) (j : Nat) (ns : List Nat) (st : St3) : Prop where
 len : st.1.length<=1 * j
 off : ∀ c ∈ st.1,c.o ∈ OF
 nod : (st.1.map fun c=>(c.o,c.n)).Nodup
 num : ∀ c ∈ st.1,c.n ∈ ns
 hs : ∀ v ∈ st.2.2,∃ s,v = D.str s
 hk : st.2.1.length<=j
theorem fO (offs : List Str) (p : Str) (day : Int) : ∀ so : List Cl,((bf so offs p day).map fun c=>(c.o,c.n)).Sublist (so.map fun c=>(c.o,c.n))
 | []=>List.Sublist.slnil
 | c :: so=>by
  have ih:=fO offs p day so
  unfold bf at ih ⊢
  rw [List.flatMap_cons,List.map_append,List.map_cons]
  have : ((dh offs p day c).map fun c=>(c.o,c.n)) = [(c.o,c.n)] ∨ ((dh offs p day c).map fun c=>(c.o,c.n)) = []:=by
   unfold dh
   split
   ·exact .inl rfl
   ·split
    ·exact .inl rfl
    ·exact .inr rfl
  rcases this with h | h
  ·rw [h]; exact ih.cons₂ _
  ·rw [h]; exact ih.cons _
theorem dz {offs : List Str} {p : Str} {day : Int} {so : List Cl} {c : Cl} (h : c ∈ bf so offs p day) : ∃ c' ∈ so,c'.o = c.o/\c'.n = c.n:=by
 have:=(fO offs p day so).subset (List.mem_map.mpr ⟨c,h,rfl⟩)
 obtain ⟨c',h1,h2⟩:=List.mem_map.mp this
 injection h2 with h3 h4
 exact ⟨c',h1,h3,h4⟩
theorem fP : ∀ (ss ts : List Str),ts.Nodup->(ss.foldl fD ts).Nodup
 | [],_,h=>h
 | s :: ss,ts,h=>fP ss _ (ua h s)
theorem gJ : ∀ (ss ts : List Str) (x : Str),x ∈ ss.foldl fD ts->x ∈ ts ∨ x ∈ ss
 | [],_,_,h=>.inl h
 | s :: ss,ts,x,h=>by
  rcases gJ ss _ x h with h | h
  ·rcases g0.mp h with h | h
   ·exact .inl h
   ·exact .inr (by rw [h]; exact mX)
  ·exact .inr (mZ _ h)
theorem mR (so : List Cl) (p : Str) (day : Int) : (cg so p day).Nodup:=(cb _).nodup_iff.mpr (fP _ [] List.nodup_nil)
theorem sQ {so : List Cl} {p : Str} {day : Int} {o : Str} (h : o ∈ cg so p day) : ∃ c ∈ so,c.o = o:=by
 have h1:=(cb _).mem_iff.mp h
 rcases gJ _ _ _ h1 with h | h
 ·cases h
 ·obtain ⟨c,hc,e⟩:=List.mem_map.mp h
  exact ⟨c,(List.mem_filter.mp hc).1,e⟩
theorem sR (K : KL) (hk : List (List Key)) (hv : List D) (p : Str) (day : Int) (n : Nat) : ∀ os : List Str,((os.flatMap (c9 K hk hv p day n)).map fun c=>(c.o,c.n)).Sublist (os.map fun o=>(o,n))
 | []=>List.Sublist.slnil
 | o :: os=>by
  have ih:=sR K hk hv p day n os
  rw [List.flatMap_cons,List.map_append,List.map_cons]
  have : ((c9 K hk hv p day n o).map fun c=>(c.o,c.n)) = [(o,n)] ∨ ((c9 K hk hv p day n o).map fun c=>(c.o,c.n)) = []:=by
   unfold c9
   split
   ·split
    ·exact .inl rfl
    ·exact .inr rfl
   ·exact .inr rfl
  rcases this with h | h
  ·rw [h]; exact ih.cons₂ _
  ·rw [h]; exact ih.cons _
theorem oW : ∀ (l m : List Str),l.Nodup->(∀ x ∈ l,x ∈ m)->l.length<=m.length
 | [],_,_,_=>Nat.zero_le _
 | x :: l,m,h,s=>by
  rw [List.nodup_cons] at h
  have hx:=s x mX
  have:=oW l (m.erase x) h.2 fun y hy=>(List.mem_erase_of_ne (a:=y) (b:=x) (fun e=>h.1 (by rw [← e]; exact hy))).mpr (s y (mZ _ hy))
  rw [List.length_erase_of_mem hx] at this
  have : 0 < m.length:=List.length_pos_of_mem hx
  rw [List.length_cons]
  omega
theorem SoOk.step {OF : List Str} (hOF : OF.length<=1) {K : KL} {j : Nat} {ns : List Nat} {st : St3} (h : SoOk OF j ns st) {x : D × Nat} (hx : x.2 ∉ ns) (ho : kindOf x.1 ∈ ft->lq x.1 ∈ OF) : SoOk OF (j + 1) (ns ++ [x.2]) (cA K st x):=by
 have up : ∀ {n : Nat},n ∈ ns->n ∈ ns ++ [x.2]:=fun h=>List.mem_append_left _ h
 have me : x.2 ∈ ns ++ [x.2]:=by simp
 have wk : SoOk OF (j + 1) (ns ++ [x.2]) st:=⟨by have:=h.len; omega,h.off,h.nod,fun c hc=>up (h.num c hc),h.hs,by have:=h.hk; omega⟩
 unfold cA
 split
 ·split
  ·rename_i hn
   have hof : aA 1 x.1 ∈ OF:=by have:=ho (by rw [hn]; simp [ft]); unfold lq at this; rw [if_pos hn] at this; exact this
   refine ⟨by have:=h.len; simp; omega,fun c hc=>?_, ?_,fun c hc=>?_,h.hs,Nat.le_succ_of_le h.hk⟩
   ·rcases List.mem_append.mp hc with hc | hc
    ·exact h.off c hc
    ·rw [List.mem_singleton.mp hc]; exact hof
   ·rw [List.map_append,List.nodup_append]
    refine ⟨h.nod,by simp,fun a ha b hb e=>?_⟩
    obtain ⟨c,hc,rfl⟩:=List.mem_map.mp ha
    simp at hb
    subst hb
    injection e with _ e2
    exact hx (e2 ▸ h.num c hc)
   ·rcases List.mem_append.mp hc with hc | hc
    ·exact up (h.num c hc)
    ·rw [List.mem_singleton.mp hc]; exact me
  ·split
   ·rename_i hnn hn
    have hof : aA 2 x.1 ∈ OF:=by have:=ho (by rw [hn]; simp [ft]); unfold lq at this; rw [if_neg hnn] at this; exact this
    have hl:=dw [aA 2 x.1] (aA 1 x.1) (sK 4 x.1) st.1
    refine ⟨by have:=h.len; simp; omega,fun c hc=>?_, ?_,fun c hc=>?_,h.hs,Nat.le_succ_of_le h.hk⟩
    ·rcases List.mem_append.mp hc with hc | hc
     ·obtain ⟨c',h1,h2,_⟩:=dz hc
      rw [← h2]; exact h.off c' h1
     ·rw [List.mem_singleton.mp hc]; exact hof
    ·rw [List.map_append,List.nodup_append]
     refine ⟨h.nod.sublist (fO _ _ _ _),by simp,fun a ha b hb e=>?_⟩
     obtain ⟨c,hc,rfl⟩:=List.mem_map.mp ha
     simp at hb
     subst hb
     injection e with _ e2
     obtain ⟨c',h1,_,h3⟩:=dz hc
     exact hx (e2 ▸ h3 ▸ h.num c' h1)
    ·rcases List.mem_append.mp hc with hc | hc
     ·obtain ⟨c',h1,_,h3⟩:=dz hc
      rw [← h3]; exact up (h.num c' h1)
     ·rw [List.mem_singleton.mp hc]; exact me
   ·split
    ·refine ⟨wk.len,wk.off,wk.nod,wk.num,fun v hv=>?_, ?_⟩
     ·rcases oS hv with hv | hv
      ·exact ⟨_,hv⟩
      ·exact h.hs v hv
     ·show (eA _ _).length<=_
      have:=h.hk
      unfold eA
      split <;> simp <;> omega
    ·have hl:=dw (st.1.map Cl.o) (aA 1 x.1) (aM x.1) st.1
     have hio : (lr K st.1 st.2.1 st.2.2 (aA 1 x.1) (aM x.1) x.2).length<=1:=Nat.le_trans (j5 _ (iR _ _ _ _ _ _) _) (Nat.le_trans (oW _ OF (mR _ _ _) fun o hm=>by obtain ⟨c,hc,e⟩:=sQ hm; rw [← e]; exact h.off c hc) hOF)
     have hik:=sR K st.2.1 st.2.2 (aA 1 x.1) (aM x.1) x.2 (cg st.1 (aA 1 x.1) (aM x.1))
     have him : ∀ c ∈ lr K st.1 st.2.1 st.2.2 (aA 1 x.1) (aM x.1) x.2,c.o ∈ cg st.1 (aA 1 x.1) (aM x.1)/\c.n = x.2:=fun c hc=>by
      have:=hik.subset (List.mem_map.mpr ⟨c,hc,rfl⟩)
      obtain ⟨o,h1,h2⟩:=List.mem_map.mp this
      injection h2 with h3 h4
      exact ⟨h3 ▸ h1,h4.symm⟩
     refine ⟨by have:=h.len; simp; omega,fun c hc=>?_, ?_,fun c hc=>?_,h.hs,Nat.le_succ_of_le h.hk⟩
     ·rcases List.mem_append.mp hc with hc | hc
      ·obtain ⟨c',h1,h2,_⟩:=dz hc
       rw [← h2]; exact h.off c' h1
      ·obtain ⟨c',h1,h2⟩:=sQ (him c hc).1
       rw [← h2]; exact h.off c' h1
     ·rw [List.map_append,List.nodup_append]
      refine ⟨h.nod.sublist (fO _ _ _ _),List.Nodup.sublist hik (List.Pairwise.map _ (fun a b hab e=>hab (by injection e)) (mR _ _ _)),fun a ha b hb e=>?_⟩
      obtain ⟨c,hc,rfl⟩:=List.mem_map.mp ha
      obtain ⟨c2,hc2,rfl⟩:=List.mem_map.mp hb
      injection e with _ e2
      obtain ⟨c',h1,_,h3⟩:=dz hc
      exact hx ((him c2 hc2).2 ▸ e2 ▸ h3 ▸ h.num c' h1)
     ·rcases List.mem_append.mp hc with hc | hc
      ·obtain ⟨c',h1,_,h3⟩:=dz hc
       rw [← h3]; exact up (h.num c' h1)
      ·rw [(him c hc).2]; exact me
 ·exact wk
theorem A9 {ρ : DL.Env} {i : Nat} {ks : List (List Key)} {vs : List D} {fk : FA} {fv : FE} {d : D} {b : Bool} {kd : List D} {kk : List Key} (e : ρ[i]? = some (some (.dt ks vs,true))) (ev : fv ρ = some (d,b)) (ek : fk ρ = some kd) (hk : eO kd = some kk) (hf : bg d = true) (h1 : ks.length<=1000) (h2 : kd.length<=1000) : oB i fk fv ρ = some (.nx (ρ.set i (some (.dt (eA ks kk) (dj ks vs kk d),true)))):=by
 unfold oB
 rw [e]
 dsimp only
 rw [ev,Option.bind_some,ek,Option.bind_some,hk,Option.bind_some,if_pos ⟨hf,cc (by omega),b8 (by omega)⟩]
theorem EM (a b : Cl) : (aQ (kC a) (kC b)).isSome = true:=by
 unfold kC
 rw [aQ]
 split
 ·rw [aQ]
  split
  ·rw [aQ]
   split
   ·rw [aQ]; rfl
   ·rfl
  ·rfl
 ·rfl
theorem qu (cs : List Cl) : cu (cs.map kC) = true:=by
 unfold cu
 simp [List.all_eq_true,EM]
theorem kh {α β : Type} (f : α->β) : ∀ {l : List α},(l.map f).Nodup->∀ {a b : α},a ∈ l->b ∈ l->f a = f b->a = b
 | [],_,_,_,ha,_,_=>by cases ha
 | c :: l,h,a,b,ha,hb,e=>by
  rw [List.map_cons,List.nodup_cons] at h
  rcases List.mem_cons.mp ha with ea | ha1
  ·rcases List.mem_cons.mp hb with eb | hb1
   ·rw [ea,eb]
   ·exact absurd (List.mem_map.mpr ⟨b,hb1,by rw [← e,ea]⟩) h.1
  ·rcases List.mem_cons.mp hb with eb | hb1
   ·exact absurd (List.mem_map.mpr ⟨a,ha1,by rw [e,eb]⟩) h.1
   ·exact kh f h.2 ha1 hb1 e
theorem zd {cs : List Cl} {a b : Cl} (ha : a ∈ cs) (hb : b ∈ cs) (e : bu (kC a) = bu (kC b)) : (a.o,a.n) = (b.o,b.n):=by
 have h:=gV (qu cs) (List.mem_map.mpr ⟨a,ha,rfl⟩) (List.mem_map.mpr ⟨b,hb,rfl⟩) e
 unfold kC at h
 injection h with h1 h2
 injection h1 with h1
 injection h2 with _ h3
 injection h3 with h3 _
 injection h3 with h3
 rw [h1,show a.n = b.n by omega]
theorem AA {rows : List D} (g : dJ rows) (known : Int) {OF : List Str} {j : Nat} {ns : List Nat} {st : St3} (h : SoOk OF j ns st) (hj : j<=60) {x : D × Nat} (hx : x ∈ ar rows known) (hnr : bH x.1 = false) (v5 : Option (D × Bool)) :
  ∃ w5,(hV [some (.tup rows,false),some (.int known,false),some (.lst (st.1.map clD),true),some (.dt st.2.1 st.2.2,true),some (.int x.2,false),v5] = some (.nx [some (.tup rows,false),some (.int known,false),some (.lst ((cA (ar rows known) st x).1.map clD),true),some (.dt (cA (ar rows known) st x).2.1 (cA (ar rows known) st x).2.2,true),some (.int x.2,false),w5])
   ∨ hV [some (.tup rows,false),some (.int known,false),some (.lst (st.1.map clD),true),some (.dt st.2.1 st.2.2,true),some (.int x.2,false),v5] = some (.ct [some (.tup rows,false),some (.int known,false),some (.lst ((cA (ar rows known) st x).1.map clD),true),some (.dt (cA (ar rows known) st x).2.1 (cA (ar rows known) st x).2.2,true),some (.int x.2,false),w5])):=by
 obtain ⟨ha,gx⟩:=cj g hx
 have hso : st.1.length<=60:=by have:=h.len; omega
 have hf : bg x.1 = true:=gx.rp.flat
 have ec:=wZ g known st.1 hso hx hnr
 have ecall : gt (tOf (fA gE (ae (af 0) (ae (af 1) (ae (af 2) (ae (af 4) ak)))))) [some (.tup rows,false),some (.int known,false),some (.lst (st.1.map clD),true),some (.dt st.2.1 st.2.2,true),some (.int x.2,false),some (x.1,false)] = some (!br (ar rows known) st.1 x) :=
  lx (aC (b:=false) (ai (ds:=[.tup rows,.int known,.lst (st.1.map clD),.int x.2]) (by simp) ec))
 have hw : fA aD (ae (af 5) ak) [some (.tup rows,false),some (.int known,false),some (.lst (st.1.map clD),true),some (.dt st.2.1 st.2.2,true),some (.int x.2,false),some (x.1,false)] = some (.str (kindOf x.1),false):=ai (ds:=[x.1]) rfl (u9 gx)
 refine ⟨some (x.1,false), ?_⟩
 cases hc : br (ar rows known) st.1 x with
 | false =>
  rw [hc] at ecall
  have es : cA (ar rows known) st x = st:=by unfold cA; rw [hc]; rfl
  rw [es]
  exact .inr (aP (d:=x.1) (b:=false) (by simp [ha]) hf (EL (qh ecall rfl)))
 | true =>
  rw [hc] at ecall
  left
  refine aP (d:=x.1) (b:=false) (by simp [ha]) hf (dI (lm ecall rfl) ?_)
  by_cases hn : kindOf x.1 = ("named" : Str)
  ·have es : cA (ar rows known) st x = (st.1 ++ [⟨aA 1 x.1,aA 2 x.1,aM x.1,none,x.2⟩],st.2):=by unfold cA; rw [hc,if_pos rfl,if_pos hn]
   rw [es]
   refine qh (bI (bb:=false) hw (decide_eq_true hn)) ?_
   have hpo : am [x.1,.str "office"] = some (.str (aA 1 x.1),false)/\am [x.1,.str "person"] = some (.str (aA 2 x.1),false):=by
    obtain ⟨a,k,ay,e,d⟩:=gx
    rw [e] at hn ⊢
    replace hn : k = ("named" : Str):=hn
    cases d with
    | named d o p=>exact ⟨bi (i:=1) (bd (by decide +kernel)) rfl,bi (i:=2) (bd (by decide +kernel)) rfl⟩
    | root=>exact absurd hn (by decide +kernel)
    | chosen=>exact absurd hn (by decide +kernel)
    | heir=>exact absurd hn (by decide +kernel)
    | three _ hk=>rcases hk with rfl | rfl | rfl <;> exact absurd hn (by decide +kernel)
    | other _ hk=>rcases hk with rfl | rfl | rfl | rfl | rfl <;> exact absurd hn (by decide +kernel)
   have hday : aL [x.1] = some (.int (aM x.1),false):=by rw [vW gx]; unfold u8; rw [hnr]; rfl
   have e2 : f2 cS (af 2) (fA cE (ae (fA c8 (ae (af 5) (ae (fA aL (ae (af 5) ak)) (ae (af 4) ak)))) ak)) [some (.tup rows,false),some (.int known,false),some (.lst (st.1.map clD),true),some (.dt st.2.1 st.2.2,true),some (.int x.2,false),some (x.1,false)] = some (.lst (st.1.map clD ++ [clD ⟨aA 1 x.1,aA 2 x.1,aM x.1,none,x.2⟩]),true):=by
    refine aB (x:=.lst (st.1.map clD)) (y:=.lst [clD ⟨aA 1 x.1,aA 2 x.1,aM x.1,none,x.2⟩]) (b1:=false) (b2:=true) rfl ?_ (if_pos (b8 (by rw [List.length_map,List.length_singleton]; omega)))
    exact ai (ds:=[clD ⟨aA 1 x.1,aA 2 x.1,aM x.1,none,x.2⟩]) (av (ai (ds:=[x.1,.int (aM x.1),.int x.2]) (av (b:=false) rfl (av (b:=false) (ai (ds:=[x.1]) rfl hday) rfl)) (B3 hpo.1 hpo.2 _ _)) rfl) (mG _ (by simp))
   have:=qi (i:=2) e2 (by have hq:=eC (st.1 ++ [(⟨aA 1 x.1,aA 2 x.1,aM x.1,none,x.2⟩ : Cl)]); rwa [List.map_append] at hq)
   rw [List.map_append]
   exact this
  ·refine lm (bI (bb:=false) hw (decide_eq_false hn)) ?_
   by_cases hch : kindOf x.1 = ("chosen" : Str)
   ·have es : cA (ar rows known) st x = (bf st.1 [aA 2 x.1] (aA 1 x.1) (sK 4 x.1) ++ [⟨aA 2 x.1,aA 3 x.1,sK 4 x.1,none,x.2⟩],st.2):=by unfold cA; rw [hc,if_pos rfl,if_neg hn,if_pos hch]
    rw [es]
    refine qh (bI (bb:=false) hw (decide_eq_true hch)) (qi (i:=2) (ai (ds:=[.lst (st.1.map clD),x.1,.int x.2]) rfl ?_) (eC _))
    obtain ⟨a,k,ay,e,d⟩:=gx
    rw [e] at hch ⊢
    replace hch : k = ("chosen" : Str):=hch
    cases d with
    | chosen d b o p s=>exact xa st.1 hso x.2
    | root=>exact absurd hch (by decide +kernel)
    | named=>exact absurd hch (by decide +kernel)
    | heir=>exact absurd hch (by decide +kernel)
    | three _ hk=>rcases hk with rfl | rfl | rfl <;> exact absurd hch (by decide +kernel)
    | other _ hk=>rcases hk with rfl | rfl | rfl | rfl | rfl <;> exact absurd hch (by decide +kernel)
   ·refine lm (bI (bb:=false) hw (decide_eq_false hch)) ?_
    by_cases hh : kindOf x.1 = ("heir" : Str)
    ·have es : cA (ar rows known) st x = (st.1,eA st.2.1 [.inr (aA 2 x.1),.inr (aA 1 x.1)],dj st.2.1 st.2.2 [.inr (aA 2 x.1),.inr (aA 1 x.1)] (.str (aA 3 x.1))):=by unfold cA; rw [hc,if_pos rfl,if_neg hn,if_neg hch,if_pos hh]
     rw [es]
     have hpo : am [x.1,.str "office"] = some (.str (aA 2 x.1),false)/\am [x.1,.str "by"] = some (.str (aA 1 x.1),false)/\am [x.1,.str "person"] = some (.str (aA 3 x.1),false):=by
      obtain ⟨a,k,ay,e,d⟩:=gx
      rw [e] at hh ⊢
      replace hh : k = ("heir" : Str):=hh
      cases d with
      | heir d b o p=>exact ⟨bi (i:=2) (bd (by decide +kernel)) rfl,bi (i:=1) (bd (by decide +kernel)) rfl,bi (i:=3) (bd (by decide +kernel)) rfl⟩
      | root=>exact absurd hh (by decide +kernel)
      | named=>exact absurd hh (by decide +kernel)
      | chosen=>exact absurd hh (by decide +kernel)
      | three _ hk=>rcases hk with rfl | rfl | rfl <;> exact absurd hh (by decide +kernel)
      | other _ hk=>rcases hk with rfl | rfl | rfl | rfl | rfl <;> exact absurd hh (by decide +kernel)
     exact qh (bI (bb:=false) hw (decide_eq_true hh)) (A9 (ks:=st.2.1) (vs:=st.2.2) (kd:=[.str (aA 2 x.1),.str (aA 1 x.1)]) (b:=false) rfl (ai (ds:=[x.1,.str "person"]) rfl hpo.2.2) (av (ai (ds:=[x.1,.str "office"]) rfl hpo.1) (av (ai (ds:=[x.1,.str "by"]) rfl hpo.2.1) rfl)) rfl rfl (by have:=h.hk; omega) (by simp))
    ·refine lm (bI (bb:=false) hw (decide_eq_false hh)) ?_
     have es : cA (ar rows known) st x = (bf st.1 (st.1.map Cl.o) (aA 1 x.1) (aM x.1) ++ lr (ar rows known) st.1 st.2.1 st.2.2 (aA 1 x.1) (aM x.1) x.2,st.2):=by unfold cA; rw [hc,if_pos rfl,if_neg hn,if_neg hch,if_neg hh]
     rw [es]
     have hd : kindOf x.1 = ("death" : Str):=by
      unfold br at hc
      by_cases hd : kindOf x.1 = ("death" : Str)
      ·exact hd
      ·rw [if_neg hd,if_neg (by simp [ft,hn,hch,hh])] at hc
       cases hc
     refine qi (i:=2) (ai (ds:=[.tup rows,.int known,.lst (st.1.map clD),.dt st.2.1 st.2.2,.int x.2]) (by simp) ?_) (eC _)
     obtain ⟨a,k,ay,e,d⟩:=gx
     have hk : k = ("death" : Str):=by rw [e] at hd; exact hd
     subst hk
     obtain ⟨dd,p,rfl⟩:=d.deed.three (by decide +kernel)
     have:=zc g known st.1 hso st.2.1 st.2.2 h.hs hx e
     rw [this,e]
     rfl
theorem oZ {rows : List D} (g : dJ rows) (known : Int) {OF : List Str} (hOF : OF.length<=1) (hof : ∀ x ∈ ar rows known,kindOf x.1 ∈ ft->lq x.1 ∈ OF) (hlen : (cn (ar rows known)).length<=60) : cI [.tup rows,.int known] = some (.lst ((di (ar rows known)).map clD),true)/\(di (ar rows known)).length<=60:=by
 have eL : du [.tup rows,.int known] = some (.lst ((cn (ar rows known)).map fun x=>.int x.2),true):=sG g known
 generalize hK : ar rows known = K at hof hlen eL ⊢
 have hmem : ∀ x ∈ cn K,x ∈ K/\bH x.1 = false:=fun x hx=>by
  obtain ⟨h1,h2⟩:=List.mem_filter.mp ((bc _ _).mem_iff.mp hx)
  exact ⟨h1,by simpa using h2⟩
 have hnd : ((cn K).map (·.2)).Nodup:=by
  have h1 : ((K.filter fun x=>!bH x.1).map (·.2)).Nodup:=by rw [← hK]; exact List.Nodup.sublist (List.Sublist.map _ (List.filter_sublist)) (ge rows known)
  exact ((bc _ _).map _).nodup_iff.mpr h1
 obtain ⟨ρ',e,v4,v5,rfl,hso⟩:=fJ (tg:=tgN 4) (g:=hV) (fun j ρ=>∃ v4 v5 : Option (D × Bool),ρ = [some (.tup rows,false),some (.int known,false),some (.lst ((eV K ((cn K).take j)).1.map clD),true),some (.dt (eV K ((cn K).take j)).2.1 (eV K ((cn K).take j)).2.2,true),v4,v5]/\SoOk OF j (((cn K).take j).map (·.2)) (eV K ((cn K).take j))) ((cn K).map fun x=>.int x.2)
  [some (.tup rows,false),some (.int known,false),some (.lst [],true),some (.dt [] [],true),none,none] ⟨none,none,rfl,⟨Nat.zero_le _,by simp [eV],by simp [eV],by simp [eV],by simp [eV],Nat.zero_le _⟩⟩ (by
   rintro j d ρ hd ⟨v4,v5,rfl,h⟩
   rw [List.getElem?_map] at hd
   obtain ⟨x,hx,rfl⟩:=oY hd
   have hjl : j < (cn K).length:=(List.getElem?_eq_some_iff.mp hx).1
   have et : (cn K).take (j + 1) = (cn K).take j ++ [x]:=by rw [List.take_add_one,hx]; rfl
   have ef : eV K ((cn K).take (j + 1)) = cA K (eV K ((cn K).take j)) x:=by rw [et]; unfold eV; rw [List.foldl_append]; rfl
   obtain ⟨hxK,hxr⟩:=hmem x (List.mem_of_getElem? hx)
   have hnx : x.2 ∉ ((cn K).take j).map (·.2):=by
    have h2 : (((cn K).take (j + 1)).map (·.2)).Nodup:=List.Nodup.sublist (List.Sublist.map _ (List.take_sublist _ _)) hnd
    rw [et,List.map_append,List.nodup_append] at h2
    exact fun hm=>h2.2.2 _ hm _ (by simp) rfl
   have hs:=h.step hOF (K:=K) hnx (fun hk=>hof x hxK hk)
   have hst:=AA g known h (by omega) (x:=x) (by rw [hK]; exact hxK) hxr v5
   rw [hK] at hst
   obtain ⟨w5,hst⟩:=hst
   refine ⟨_,_,rfl,hst,some (.int x.2,false),w5, ?_, ?_⟩
   ·rw [ef]
   ·rw [ef,et,List.map_append]
    exact hs)
 have hall : (cn K).take ((cn K).map fun x=>D.int x.2).length = cn K:=by rw [List.length_map,List.take_length]
 rw [hall] at e hso
 rw [List.length_map] at hso
 generalize hcs : (eV K (cn K)) = st at e hso
 have hcl : st.1.length<=60:=by have:=hso.len; omega
 have hCk : di K = d9 (fun c=>bu (kC c)) st.1:=by unfold di; rw [hcs]
 have hm : ∀ ρ : DL.Env,fG (nG cQ ρ) (st.1.map clD) = some (st.1.map fun c=>.tup [.str c.o,.int c.s,.int c.n]):=fun ρ=>fN st.1 fun c _=>by
  show (cQ [clD c]).map _ = _
  rw [qp]
  rfl
 have hk : bR (st.1.map fun c=>D.tup [.str c.o,.int c.s,.int c.n]) = some (st.1.map kC):=dv st.1 fun c _=>rfl
 have hcond : (st.1.map kC).length < 64/\cu (st.1.map kC) = true/\bQ (st.1.map kC) = true/\((st.1.map kC).map bu).Nodup:=by
  refine ⟨by rw [List.length_map]; omega,qu _, ?_, ?_⟩
  ·unfold bQ
   rw [Bool.or_eq_true]
   right
   simp [List.all_eq_true,kC]
  ·rw [List.map_map]
   have h1 : st.1.Pairwise fun a b=>(a.o,a.n) ≠ (b.o,b.n):=List.pairwise_map.mp hso.nod
   have h2 : st.1.Pairwise fun a b=>bu (kC a) ≠ bu (kC b):=by
    refine List.Pairwise.imp_of_mem ?_ h1
    intro a b ha hb hne e
    exact hne (zd ha hb e)
   exact List.pairwise_map.mpr h2
 have hz : (st.1.map kC).zip (st.1.map clD) = st.1.map fun c=>(kC c,clD c):=by rw [List.zip_map']
 have key : ((di K).map fun c=>(kC c,clD c)) = d9 (fun p : List At × D=>bu p.1) (st.1.map fun c=>(kC c,clD c)):=by
  rw [hCk]
  refine dZ _ (fun x hx y hy e=>?_) ((bc _ _).map _) ?_
  ·obtain ⟨a,ha,rfl⟩:=List.mem_map.mp hx
   obtain ⟨b,hb,rfl⟩:=List.mem_map.mp hy
   rw [kh (fun c : Cl=>(c.o,c.n)) hso.nod ha hb (zd ha hb e)]
  ·exact List.pairwise_map.mpr (dn _ _)
 refine ⟨a8 rfl (bT (ds:=[]) (by simp [sizeLine]) rfl (dI (ρ':=[some (.tup rows,false),some (.int known,false),some (.lst [],true),some (.dt [] [],true),none,none]) rfl (dI (js (ds:=(cn K).map fun x=>.int x.2) ?_ e) (aI ?_)))),by rw [hCk,(bc _ _).length_eq]; exact hcl⟩
 ·show (fA du (ae (af 0) (ae (af 1) ak)) _).bind _ = _
  rw [ai (ds:=[.tup rows,.int known]) rfl eL]
  rfl
 ·unfold jT
  show ((some (D.lst (st.1.map clD),false)).bind _) = _
  simp only [Option.bind_some]
  rw [hm]
  simp only [Option.bind_some]
  rw [hk]
  simp only [Option.bind_some]
  rw [if_pos hcond]
  unfold g9
  rw [hz,← key,List.map_map]
  rfl
def j6 (K : KL) (o : Str) (day : Int) : D:=match j4 K o with
 | none=>.tup [.str "none"]
 | some v=>j0 (di K) (aA 0 v) (aA 3 v) day
theorem xc {rows : List D} (g : dJ rows) (known : Int) {OF : List Str} (hOF : OF.length<=1) (hof : ∀ x ∈ ar rows known,kindOf x.1 ∈ ft->lq x.1 ∈ OF) (hlen : (cn (ar rows known)).length<=60) (o : Str) (day : Int) : dA [.tup rows,.int known,.str o,.int day] = some (j6 (ar rows known) o day,false):=by
 obtain ⟨ec,hcl⟩:=oZ g known hOF hof hlen
 have e4 : f2 uu (fA eQ (ae (af 0) (ae (af 1) ak))) (af 2) [some (.tup rows,false),some (.int known,false),some (.str o,false),some (.int day,false),none] = some ((j4 (ar rows known) o).getD .non,false) :=
  aB (x:=.dk (bj (i7 (ar rows known))).1 (bj (i7 (ar rows known))).2) (y:=.str o) (b1:=false) (b2:=false) (ai (ds:=[.tup rows,.int known]) rfl (sL g known)) rfl rfl
 unfold j6
 cases hr : j4 (ar rows known) o with
 | none =>
  rw [hr] at e4
  exact a8 rfl (aP (d:=.non) (b:=false) e4 rfl (cZ (aC (b:=false) (by simp)) (aI (ai (ds:=[.str "none"]) rfl (cR _ (by simp))))))
 | some v =>
  rw [hr] at e4
  obtain ⟨va,vo,vrl,vm,vf,ev⟩:=kQ g hr
  subst ev
  exact a8 rfl (aP (d:=row va ("root" : Str) [.str vo,.int vm,.int vf,.str vrl]) (b:=false) e4 rfl (bC (aC (b:=false) (by simp [row])) (aI (ai (ds:=[.lst ((di (ar rows known)).map clD),row va ("root" : Str) [.str vo,.int vm,.int vf,.str vrl],.int day]) (av (ai (ds:=[.tup rows,.int known]) rfl ec) rfl) (j3 _ hcl day)))))
inductive RowN : D->Prop
 | death (h d : Int) (p : Str) : RowN (row h ("death" : Str) [.int d,.str p])
 | lost (h d : Int) (p : Str) : RowN (row h ("lost" : Str) [.int d,.str p])
 | paper (h d : Int) (p : Str) : RowN (row h ("paper" : Str) [.int d,.str p,.int 3,.tup [.int 0,.non],.non,.tup [.str "a"]])
 | named (h d : Int) (p : Str) : RowN (row h ("named" : Str) [.int d,.str "crown",.str p])
theorem RowN.c {r : D} (h : RowN r) : nH r:=by
 cases h with
 | death h d p=>exact ⟨_,_,_,rfl,.three _ (.inl rfl) _ _⟩
 | lost h d p=>exact ⟨_,_,_,rfl,.three _ (.inr (.inl rfl)) _ _⟩
 | paper h d p=>exact ⟨_,_,_,rfl,.other _ (.inr (.inl rfl)) _ _ _ rfl (by simp)⟩
 | named h d p=>exact ⟨_,_,_,rfl,.named _ _ _⟩
theorem RowN.nr {r : D} (h : RowN r) : bH r = false:=by
 cases h with
 | death h d p=>exact decide_eq_false fun e=>absurd (show ("death" : Str) = ("root" : Str) from e) (by decide +kernel)
 | lost h d p=>exact decide_eq_false fun e=>absurd (show ("lost" : Str) = ("root" : Str) from e) (by decide +kernel)
 | paper h d p=>exact decide_eq_false fun e=>absurd (show ("paper" : Str) = ("root" : Str) from e) (by decide +kernel)
 | named h d p=>exact decide_eq_false fun e=>absurd (show ("named" : Str) = ("root" : Str) from e) (by decide +kernel)
def rt (rl : Str) : D:=row 0 ("root" : Str) [.str "crown",.int 255,.int 0,.str rl]
theorem vY (rl : Str) : bH (rt rl) = true:=decide_eq_true rfl
theorem ze {X Y : KL} (hX : ∀ x ∈ X,RowN x.1) (hY : ∀ x ∈ Y,RowN x.1) (rl : Str) (n : Nat) : j4 (X ++ (rt rl,n) :: Y) ("crown" : Str) = some (rt rl):=by
 have hf : ∀ Z : KL,(∀ x ∈ Z,RowN x.1)->Z.filter (fun x=>bH x.1) = []:=fun Z h=>List.filter_eq_nil_iff.mpr fun x hx=>by rw [(h x hx).nr]; decide
 have hk : i7 (X ++ (rt rl,n) :: Y) = [(.inr ("crown" : Str),rt rl)]:=by
  unfold i7
  rw [List.filter_append,List.filter_cons_of_pos (by exact vY rl),hf X hX,hf Y hY]
  rfl
 unfold j4
 rw [hk]
 simp [bj,qe,eA,dj,cH]
def gh (W : KL) (so : List Cl) (x : D × Nat) : List Cl :=
 if kindOf x.1 = ("named" : Str) then so ++ [⟨("crown" : Str),aA 2 x.1,aM x.1,none,x.2⟩]
 else if kindOf x.1 = ("death" : Str)/\dF W (aA 1 x.1) (aM x.1) x.2 = true then bf so (so.map Cl.o) (aA 1 x.1) (aM x.1)
 else so
theorem AB (X Y : KL) (rl : Str) (n : Nat) (p : Str) (d : Int) (i : Nat) : dF (X ++ (rt rl,n) :: Y) p d i = dF (X ++ Y) p d i:=by
 unfold dF
 rw [List.filter_append,List.filter_append,List.filter_cons_of_neg (by simp [told,rt,row,bU,oR])]
theorem Eg (K : KL) (so : List Cl) (p : Str) (d : Int) (n : Nat) : lr K so [] [] p d n = []:=by
 unfold lr
 rw [List.flatMap_eq_nil_iff]
 intro o _
 simp [c9,sO,cH]
theorem RowN.kinds {r : D} (h : RowN r) : kindOf r = ("death" : Str) ∨ (kindOf r = ("named" : Str)/\lq r = ("crown" : Str)/\aA 1 r = ("crown" : Str)) ∨ (kindOf r ≠ ("death" : Str)/\kindOf r ∉ ft):=by
 cases h with
 | death h d p=>exact .inl rfl
 | lost h d p=>exact .inr (.inr ⟨fun e=>absurd (show ("lost" : Str) = ("death" : Str) from e) (by decide +kernel),fun e=>absurd (show ("lost" : Str) ∈ ft from e) (by decide +kernel)⟩)
 | paper h d p=>exact .inr (.inr ⟨fun e=>absurd (show ("paper" : Str) = ("death" : Str) from e) (by decide +kernel),fun e=>absurd (show ("paper" : Str) ∈ ft from e) (by decide +kernel)⟩)
 | named h d p=>exact .inr (.inl ⟨rfl,rfl,rfl⟩)
theorem CM {X Y : KL} (hX : ∀ x ∈ X,RowN x.1) (hY : ∀ x ∈ Y,RowN x.1) (rl : Str) (n : Nat) (so : List Cl) {x : D × Nat} (hx : RowN x.1) : cA (X ++ (rt rl,n) :: Y) (so,[],[]) x = (gh (X ++ Y) so x,[],[]):=by
 have hr:=ze hX hY rl n
 have q : ∀ {a b c : Str},a = b->b ≠ c->a ≠ c:=fun e h z=>h (e.symm.trans z)
 unfold cA gh
 dsimp only
 rcases hx.kinds with hk | ⟨hk,ho,ho1⟩ | ⟨hk,hk3⟩
 ·have hc : br (X ++ (rt rl,n) :: Y) so x = dF (X ++ Y) (aA 1 x.1) (aM x.1) x.2:=by unfold br; rw [if_pos hk,AB]
  rw [hc,if_neg (q hk (by decide +kernel)),if_neg (q hk (by decide +kernel)),if_neg (q hk (by decide +kernel)),if_neg (q hk (by decide +kernel)),Eg,List.append_nil]
  cases hf : dF (X ++ Y) (aA 1 x.1) (aM x.1) x.2 with
  | false=>rw [if_neg (by decide),if_neg (fun e=>by cases e.2)]
  | true=>rw [if_pos rfl,if_pos ⟨hk,rfl⟩]
 ·have hc : br (X ++ (rt rl,n) :: Y) so x = true:=by
   unfold br
   rw [if_neg (q hk (by decide +kernel)),if_pos (by rw [hk]; decide +kernel),ho,hr]
   exact if_pos hk
  rw [hc,if_pos rfl,if_pos hk,if_pos hk,ho1]
 ·have hc : br (X ++ (rt rl,n) :: Y) so x = false:=by unfold br; rw [if_neg hk,if_neg hk3]
  rw [hc,if_neg (by decide),if_neg (fun e=>hk3 (by rw [e]; decide +kernel)),if_neg fun e=>hk e.1]
def cw (W : KL) : List Cl:=d9 (fun c=>bu (kC c)) ((cn W).foldl (gh W) [])
theorem zf {X Y : KL} (hX : ∀ x ∈ X,RowN x.1) (hY : ∀ x ∈ Y,RowN x.1) (rl : Str) (n : Nat) : ∀ (l : KL) (so : List Cl),(∀ x ∈ l,RowN x.1)->l.foldl (cA (X ++ (rt rl,n) :: Y)) (so,[],[]) = (l.foldl (gh (X ++ Y)) so,[],[])
 | [],so,_=>rfl
 | x :: l,so,h=>by
  rw [List.foldl_cons,List.foldl_cons,CM hX hY rl n so (h x mX)]
  exact zf hX hY rl n l _ fun y hy=>h y (mZ _ hy)
theorem AC {W : KL} {x : D × Nat} (h : x ∈ cn W) : x ∈ W:=(List.mem_filter.mp ((bc _ _).mem_iff.mp h)).1
theorem mS {X Y : KL} (hX : ∀ x ∈ X,RowN x.1) (hY : ∀ x ∈ Y,RowN x.1) (rl : Str) (n : Nat) : di (X ++ (rt rl,n) :: Y) = cw (X ++ Y):=by
 have ho : cn (X ++ (rt rl,n) :: Y) = cn (X ++ Y):=by
  unfold cn
  rw [List.filter_append,List.filter_append,List.filter_cons_of_neg (by rw [vY]; decide)]
 unfold di cw eV
 rw [ho,zf hX hY rl n _ _ fun x hx=>?_]
 rcases List.mem_append.mp (AC hx) with h | h
 ·exact hX x h
 ·exact hY x h
theorem sS {X Y : KL} (hX : ∀ x ∈ X,RowN x.1) (hY : ∀ x ∈ Y,RowN x.1) (rl : Str) (n : Nat) (day : Int) : j6 (X ++ (rt rl,n) :: Y) ("crown" : Str) day = j0 (cw (X ++ Y)) ("crown" : Str) rl day:=by
 unfold j6
 rw [ze hX hY,mS hX hY]
 rfl
def dL (a b : Cl) : Prop:=a.s < b.s ∨ (a.s = b.s/\a.n < b.n)
theorem sT (W : KL) : ∀ (l : KL) (so : List Cl),(∀ c ∈ so,c.o = ("crown" : Str))->(so.map Cl.n ++ l.map (·.2)).Nodup->(∀ c ∈ l.foldl (gh W) so,c.o = ("crown" : Str))/\((l.foldl (gh W) so).map Cl.n).Nodup
 | [],so,h,k=>⟨h,by simpa using k⟩
 | x :: l,so,h,k=>by
  rw [List.foldl_cons]
  refine sT W l _ ?_ ?_
  ·unfold gh
   split
   ·intro c hc
    rcases List.mem_append.mp hc with hc | hc
    ·exact h c hc
    ·rw [List.mem_singleton.mp hc]
   ·split
    ·intro c hc
     obtain ⟨c',h1,h2,_⟩:=dz hc
     rw [← h2]; exact h c' h1
    ·exact h
  ·have hs : (so.map Cl.n ++ l.map (·.2)).Sublist (so.map Cl.n ++ (x :: l).map (·.2)):=List.Sublist.append (List.Sublist.refl _) (List.sublist_cons_self _ _)
   unfold gh
   split
   ·rw [List.map_append,List.append_assoc]
    exact k
   ·split
    ·have he:=(fO (so.map Cl.o) (aA 1 x.1) (aM x.1) so).map Prod.snd
     rw [List.map_map,List.map_map] at he
     exact k.sublist ((List.Sublist.append he (List.Sublist.refl _)).trans hs)
    ·exact k.sublist hs
theorem uE {W : KL} (hW : (W.map (·.2)).Nodup) : (∀ c ∈ cw W,c.o = ("crown" : Str))/\(cw W).Pairwise dL:=by
 have hn : ((cn W).map (·.2)).Nodup:=((bc _ _).map _).nodup_iff.mpr (List.Nodup.sublist (List.Sublist.map _ List.filter_sublist) hW)
 obtain ⟨h1,h2⟩:=sT W (cn W) [] (by simp) (by simpa using hn)
 have p:=bc (fun c=>bu (kC c)) ((cn W).foldl (gh W) [])
 have ho : ∀ c ∈ cw W,c.o = ("crown" : Str):=fun c hc=>h1 c (p.mem_iff.mp hc)
 have hd : (cw W).Pairwise fun a b=>a.n ≠ b.n:=List.pairwise_map.mp ((p.map Cl.n).nodup_iff.mpr h2)
 refine ⟨ho,List.Pairwise.imp_of_mem ?_ ((dn (fun c=>bu (kC c)) _).and hd)⟩
 rintro a b ha hb ⟨h3,h4⟩
 have h3 : ¬ bu (kC b) < bu (kC a):=h3
 have e:=dP (qu (cw W)) (List.mem_map.mpr ⟨b,hb,rfl⟩) (List.mem_map.mpr ⟨a,ha,rfl⟩)
 rw [decide_eq_false h3] at e
 unfold kC at e
 rw [aQ,if_pos (by rw [ho a ha,ho b hb]),yV] at e
 injection e with e
 have e:=of_decide_eq_false e
 unfold dL
 omega
theorem ki : ∀ (r : List Cl) (b : Cl),(b :: r).Pairwise dL->gI b r = b
 | [],b,_=>rfl
 | x :: r,b,h=>by
  obtain ⟨h1,h2⟩:=List.pairwise_cons.mp h
  have hx : dL b x:=h1 x mX
  unfold dL at hx
  rw [gI,if_neg]
  ·exact ki r b (List.pairwise_cons.mpr ⟨fun y hy=>h1 y (mZ _ hy),(List.pairwise_cons.mp h2).2⟩)
  ·unfold kS
   rw [yV]
   simp only [Option.some.injEq,decide_eq_true_eq]
   omega
theorem pb : ∀ (r : List Cl) (b : Cl),(b :: r).Pairwise dL->(b :: r).getLast? = some (ka b r)
 | [],b,_=>rfl
 | x :: r,b,h=>by
  obtain ⟨h1,h2⟩:=List.pairwise_cons.mp h
  have hx : dL b x:=h1 x mX
  unfold dL at hx
  rw [ka,if_pos]
  ·rw [List.getLast?_cons_cons]
   exact pb r x h2
  ·unfold kS
   rw [yV]
   simp only [Option.some.injEq,decide_eq_true_eq]
   omega
theorem CN {so : List Cl} {p : Str} {day : Int} (hd : 20<=day) {c : Cl} (h : c ∈ bf so (so.map Cl.o) p 20) (ha : bJ c day = true) : c.p ≠ p:=by
 intro hp
 unfold bf at h
 obtain ⟨c',h1,h2⟩:=List.mem_flatMap.mp h
 unfold dh at h2
 split at h2
 ·rename_i hc
  rw [List.mem_singleton.mp h2] at ha hp
  rw [decide_eq_true (List.mem_map.mpr ⟨c',h1,rfl⟩),decide_eq_true hp] at hc
  unfold bJ at ha hc
  cases hu : c'.u with
  | none=>rw [hu] at hc; simp at hc; omega
  | some x=>rw [hu] at hc ha; simp at hc ha; omega
 ·split at h2
  ·rw [List.mem_singleton.mp h2] at ha
   unfold bJ at ha
   simp at ha
   omega
  ·cases h2
theorem zg {W : KL} (hW : ((W.map (·.2))).Nodup) (hd : ∀ x ∈ W,aM x.1<=12) {r : D} (hr : bH r = false) (hr2 : aM r = 20) {n : Nat} (hn : ∀ x ∈ W,x.2 ≠ n) : cn (W ++ [(r,n)]) = cn W ++ [(r,n)]:=by
 unfold cn
 rw [List.filter_append,List.filter_cons_of_pos (by rw [hr]; rfl),List.filter_nil]
 symm
 refine dZ _ (fun x hx y hy e=>?_) ((bc _ _).append_right _) ?_
 ·have hxy : x.2 = y.2:=uA e
  have hnd : ((W ++ [(r,n)]).map (·.2)).Nodup:=by
   rw [List.map_append,List.nodup_append]
   refine ⟨hW,by simp,fun a ha b hb e=>?_⟩
   obtain ⟨z,hz,rfl⟩:=List.mem_map.mp ha
   simp at hb
   exact hn z hz (by rw [e,hb])
  have sub : ∀ z ∈ (W.filter fun x=>!bH x.1) ++ [(r,n)],z ∈ W ++ [(r,n)]:=fun z hz=>by
   rcases List.mem_append.mp hz with hz | hz
   ·exact List.mem_append_left _ (List.mem_filter.mp hz).1
   ·exact mY _ hz
  exact kh (·.2) hnd (sub x hx) (sub y hy) hxy
 ·rw [List.pairwise_append]
  refine ⟨dn _ _,by simp,fun x hx y hy=>?_⟩
  rw [List.mem_singleton.mp hy]
  have:=hd x (List.mem_filter.mp ((bc _ _).mem_iff.mp hx)).1
  show ¬ bu (kA (r,n)) < bu (kA x)
  have e:=jo _ _ _ (u5 (r,n) x)
  intro hl
  rw [decide_eq_true hl] at e
  unfold vT at e
  have e:=of_decide_eq_true e
  simp only [hr2] at e
  omega
def tD (c : Cl) : D:=.tup [.int c.s,.int c.n,.str c.p]
def kT (c : Cl) : List At:=[.i c.s,.i c.n,.s c.p]
theorem AD (cs : List Cl) : aS (cs.map tD) = true:=bB fun d hd=>by obtain ⟨c,_,rfl⟩:=List.mem_map.mp hd; rfl
theorem CO {a b : Cl} (h : dL a b) : aQ (kT a) (kT b) = some true:=by
 unfold dL at h
 unfold kT
 by_cases e : a.s = b.s
 ·rw [aQ,if_pos e,aQ,if_neg (by omega)]
  exact congrArg some (decide_eq_true (by omega))
 ·rw [aQ,if_neg e]
  exact congrArg some (decide_eq_true (by omega))
theorem vZ (cs : List Cl) : cu (cs.map kT) = true:=by
 have h : ∀ a b : Cl,(aQ (kT a) (kT b)).isSome = true:=fun a b=>by
  unfold kT
  rw [aQ]
  split
  ·rw [aQ]
   split
   ·rw [aQ]
    split
    ·rw [aQ]; rfl
    ·rfl
   ·rfl
  ·rfl
 unfold cu
 simp [List.all_eq_true,h]
theorem qw {al : List Cl} (h : al.Pairwise dL) (hl : al.length<=60) : eN [.lst (al.map tD)] = some (.lst (al.map tD),true):=by
 cases al with
 | nil=>rfl
 | cons b r =>
  have hk : bR ((b :: r).map tD) = some ((b :: r).map kT):=dv _ fun c _=>rfl
  have hs : d9 wP ((b :: r).map tD) = (b :: r).map tD:=by
   symm
   refine dZ _ (fun x hx y hy e=>?_) (List.Perm.refl _) (List.pairwise_map.mpr (h.imp fun {a c} q=>?_))
   ·obtain ⟨a,ha,rfl⟩:=List.mem_map.mp hx
    obtain ⟨c,hc,rfl⟩:=List.mem_map.mp hy
    have z : kT a = kT c:=gV (vZ (b :: r)) (List.mem_map.mpr ⟨a,ha,rfl⟩) (List.mem_map.mpr ⟨c,hc,rfl⟩) e
    exact rY (k:=kT a) rfl (by rw [z]; rfl)
   ·show ¬ bu (kT c) < bu (kT a)
    have e:=jo _ _ _ (CO q)
    exact fun z=>List.lt_irrefl _ (fE z (of_decide_eq_true e.symm))
  unfold eN
  dsimp only
  rw [show d7 ((b :: r).map tD) = none from rfl]
  dsimp only
  rw [show lW ((b :: r).map tD) = none from rfl]
  dsimp only
  rw [hk]
  dsimp only
  rw [if_pos ⟨by rw [List.length_map]; omega,vZ _,by simp [bQ,kT]⟩,hs]
theorem AE {cs : List Cl} (h : cs.Pairwise dL) (hl : cs.length<=60) (day : Int) : ia [.lst (cs.map clD),.int day] = some (.lst ((cs.filter fun c=>bJ c day).map tD),true):=by
 have hc:=gD (fi:=bL (af 0)) (nT:=1) (cap:=[1]) (tg:=tgN 0) (c:=cx (tOf (f2 dLe (f2 ixD (af 0) (fC (.int 2))) (af 1))) (gs (tOf (f2 dIs (f2 ixD (af 0) (fC (.int 3))) (fC .non))) (tOf (f2 dLt (af 1) (f2 ixD (af 0) (fC (.int 3)))))))
  (fe:=fA aZ (ae (f2 ixD (af 0) (fC (.int 2))) (ae (f2 ixD (af 0) (fC (.int 4))) (ae (f2 ixD (af 0) (fC (.int 1))) ak)))) (ρ:=[some (.lst (cs.map clD),false),some (.int day,false),none]) cs clD (fun c=>bJ c day) tD (by simp) (by omega) fun c _=>by
   let ρ1 : DL.Env:=[some (clD c,false),some (.int day,false)]
   have q1 : f2 ixD (af 0) (fC (.int 1)) ρ1 = some (.str c.p,false):=aB (x:=clD c) (y:=.int 1) (b1:=false) (b2:=false) rfl rfl (cl1 c)
   have q2 : f2 ixD (af 0) (fC (.int 2)) ρ1 = some (.int c.s,false):=aB (x:=clD c) (y:=.int 2) (b1:=false) (b2:=false) rfl rfl (cl2 c)
   have q3 : f2 ixD (af 0) (fC (.int 3)) ρ1 = some (uD c.u,false):=aB (x:=clD c) (y:=.int 3) (b1:=false) (b2:=false) rfl rfl (cl3 c)
   have q4 : f2 ixD (af 0) (fC (.int 4)) ρ1 = some (.int c.n,false):=aB (x:=clD c) (y:=.int 4) (b1:=false) (b2:=false) rfl rfl (cl4 c)
   refine ⟨ρ1,rfl,cK (aC (b:=false) (aB (x:=.int c.s) (y:=.int day) (b1:=false) (b2:=false) q2 rfl (by simp))) fun _=>?_,fun _=>⟨false,ai (ds:=[.int c.s,.int c.n,.str c.p]) (av q2 (av q4 (av q1 rfl))) (cR _ (by simp))⟩⟩
   cases hu : c.u with
   | none =>
    rw [hu] at q3
    exact gC (p:=true) (q:=true) (aC (b:=false) (aB (x:=.non) (y:=.non) (b1:=false) (b2:=false) q3 rfl (by simp))) (by simp)
   | some x =>
    rw [hu] at q3
    exact gC (p:=false) (q:=decide (day < x)) (aC (b:=false) (aB (x:=.int x) (y:=.non) (b1:=false) (b2:=false) q3 rfl (by simp))) fun _=>aC (b:=false) (aB (x:=.int day) (y:=.int x) (b1:=false) (b2:=false) rfl q3 (by simp))
 exact a8 rfl (bT hc (AD _) (aI (ai (ds:=[.lst ((cs.filter fun c=>bJ c day).map tD)]) rfl (qw (h.filter _) (Nat.le_trans (List.length_filter_le _ _) hl)))))
theorem sU : ∀ (ss ts : List Str) (z : Str),z ∈ ts ∨ z ∈ ss->z ∈ ss.foldl fD ts
 | [],ts,z,h=>by rcases h with h | h; exact h; cases h
 | a :: ss,ts,z,h=>by
  rw [List.foldl_cons]
  refine sU ss _ z ?_
  rcases h with h | h
  ·exact .inl (g0.mpr (.inl h))
  ·rcases List.mem_cons.mp h with h | h
   ·exact .inl (g0.mpr (.inr h))
   ·exact .inr h
theorem wa {cs : List Cl} {c : Cl} (h : c ∈ cs) : c.p ∈ dB cs:=(cb _).mem_iff.mpr (sU _ _ _ (.inr (List.mem_map.mpr ⟨c,h,rfl⟩)))
theorem qQ {α : Type} (xs : List α) : atI xs (-1) = xs.getLast?:=by
 rw [List.getLast?_eq_getElem?]
 unfold atI ixN
 cases xs with
 | nil=>rfl
 | cons a l =>
  rw [if_neg (by decide),if_pos (by simp; omega),Option.bind_some]
  congr 1
  simp
  omega
theorem gK {b : Cl} {r : List Cl} (h : (b :: r).Pairwise dL) (q : Cl->Bool) {c : Cl} {l : List Cl} (e : (b :: r).filter q = c :: l) : CL ((b :: r).filter q) = c.n:=by
 have hp : ((b :: r).filter q).Pairwise dL:=h.filter _
 rw [e] at hp ⊢
 show (gI c l).n = c.n
 rw [ki l c hp]
theorem sV {b : Cl} {r : List Cl} (h : (b :: r).Pairwise dL) (h1 : (dB (b :: r)).length = 1) (rl : Str) : ci rl (b :: r) = .tup [.str "one",.str b.p,.int b.n]/\dB (b :: r) = [b.p]:=by
 obtain ⟨z,hz⟩:=List.length_eq_one_iff.mp h1
 have hall : ∀ c ∈ b :: r,c.p = z:=fun c hc=>by have:=wa hc; rw [hz] at this; exact List.mem_singleton.mp this
 have hb:=hall b mX
 have hc : (cO rl b r).p = b.p:=by rw [hb]; exact hall _ (kc rl b r)
 have hf : (b :: r).filter (fun c=>decide (c.p = b.p)) = b :: r:=List.filter_eq_self.mpr fun c hc=>decide_eq_true (by rw [hb]; exact hall c hc)
 refine ⟨?_,by rw [hz,hb]⟩
 rw [ci,if_neg (by omega),hc,gK h _ hf]
theorem zh {al : List Cl} (h : al.Pairwise dL) (hl : al.length<=60) : ib [.lst [ci ("open" : Str) al,ci ("first" : Str) al,ci ("last" : Str) al],.lst (al.map tD)] = some (.bl true,false):=by
 have hset : ∀ x y z w : D,vt [2,3,4] (af 0) [some (.lst [x,y,z],false),some (w,false),none,none,none,none,none,none] = some (.nx [some (.lst [x,y,z],false),some (w,false),some (x,false),some (y,false),some (z,false),none,none,none]):=fun x y z w=>by
  show (d8 [2,3,4] [x,y,z] (if _ then _ else _)).map _ = _
  split <;> rfl
 have h5 : ∀ ρ : DL.Env,ρ[1]? = some (some (.lst (al.map tD),false))->f1 cG (bK (bL (af 1)) 1 [] (tgN 0) iq (f2 ixD (af 0) (fC (.int 2)))) ρ = some (.lst ((dB al).map .str),true):=fun ρ q=>by
  have hc:=sw (fi:=bL (af 1)) (nT:=1) (cap:=[]) (tg:=tgN 0) (fe:=f2 ixD (af 0) (fC (.int 2))) (ρ:=ρ) al tD (fun c=>.str c.p) (by simp [q]) (by omega) fun c hc=>⟨_,rfl,false,aB (x:=tD c) (y:=.int 2) (b1:=false) (b2:=false) (by simp [bw]) rfl (by simp [tD,at2])⟩
  have e2 : al.map (fun c=>D.str c.p) = (al.map (·.p)).map .str:=by rw [List.map_map]; rfl
  rw [e2] at hc
  unfold f1
  rw [hc,Option.bind_some]
  show (d7 ((al.map (·.p)).map .str)).bind _ = _
  rw [mM,Option.bind_some,if_pos (by rw [List.length_map]; omega)]
  rfl
 have pt : ∀ a : Str,∀ l : List D,l.all (ah 5) = true->ah 40 (.tup (.str a :: l)) = true:=fun a l q=>kg (by simp only [List.all_cons,q,ah,Bool.and_true])
 have hone : ∀ (p : Str) (n : Int),ah 40 (.tup [.str "one",.str p,.int n]) = true:=fun p n=>pt _ _ (by simp)
 cases al with
 | nil =>
  have e0 : dEq (.tup [.str "none"]) (.tup [.str "none"]) = some (.bl true,false):=mC (pt _ [] rfl)
  exact a8 rfl (dI (hset _ _ _ _) (bT (ds:=[]) (h5 _ rfl) rfl (cZ (aC (b:=false) (by simp)) (aP (d:=.tup [.str "none"]) (b:=false) (ai (ds:=[.str "none"]) rfl (cR _ (by simp))) rfl (dI (lm (aC (b:=false) (by simp)) rfl)
   (aI (fq (p:=true) (q:=true) (b1:=false) (aB (x:=.tup [.str "none"]) (y:=.tup [.str "none"]) (b1:=false) (b2:=false) rfl rfl e0) fun _=>fq (p:=true) (q:=true) (b1:=false) (aB (x:=.tup [.str "none"]) (y:=.tup [.str "none"]) (b1:=false) (b2:=false) rfl rfl e0) fun _=>(aB (x:=.tup [.str "none"]) (y:=.tup [.str "none"]) (b1:=false) (b2:=false) rfl rfl e0))))))))
 | cons b r =>
  have hne : (dB (b :: r)).length ≠ 0:=by
   have:=List.length_pos_of_mem (wa (mX (a:=b) (l:=r)))
   omega
  have i0 : ∀ ρ : DL.Env,ρ[1]? = some (some (.lst ((b :: r).map tD),false))->f2 ixD (af 1) (fC (.int 0)) ρ = some (tD b,false):=fun ρ q=>by simp [q,at0]
  have i01 : ∀ ρ : DL.Env,ρ[1]? = some (some (.lst ((b :: r).map tD),false))->f2 ixD (f2 ixD (af 1) (fC (.int 0))) (fC (.int 1)) ρ = some (.int b.n,false):=fun ρ q=>aB (x:=tD b) (y:=.int 1) (b1:=false) (b2:=false) (i0 ρ q) rfl (by simp [tD,at1])
  by_cases h1 : (dB (b :: r)).length = 1
  ·have ho:=fun rl=>(sV h h1 rl).1
   have hpp:=(sV h h1 ("open" : Str)).2
   rw [ho,ho,ho]
   rw [hpp] at h5
   have e0:=mC (hone b.p b.n)
   exact a8 rfl (dI (hset _ _ _ _) (bT (ds:=[b.p].map .str) (h5 _ rfl) rfl (cZ (aC (b:=false) (by simp)) (aP (d:=.tup [.str "none"]) (b:=false) (ai (ds:=[.str "none"]) rfl (cR _ (by simp))) rfl (dI (qh (aC (b:=false) (by simp)) (yK (d:=.tup [.str "one",.str b.p,.int b.n]) (b:=false) (ai (ds:=[.str "one",.str b.p,.int b.n]) (av (b:=false) rfl (av (b:=false) (by simp [at0]) (av (i01 _ rfl) rfl))) (cR _ (by simp))) rfl))
    (aI (fq (p:=true) (q:=true) (b1:=false) (aB (b1:=false) (b2:=false) rfl rfl e0) fun _=>fq (p:=true) (q:=true) (b1:=false) (aB (b1:=false) (b2:=false) rfl rfl e0) fun _=>(aB (b1:=false) (b2:=false) rfl rfl e0))))))))
  ·have h2 : 1 < (dB (b :: r)).length:=by omega
   let m:=ka b r
   have e0 : ci ("open" : Str) (b :: r) = .tup [.str "parted",.lst ((dB (b :: r)).map .str)]:=by rw [ci,if_pos ⟨h2,rfl⟩]
   obtain ⟨r1,hf1⟩ : ∃ r1,(b :: r).filter (fun c=>decide (c.p = b.p)) = b :: r1:=⟨_,List.filter_cons_of_pos (by simp)⟩
   have n1 : ¬ ("first" : Str) = ("open" : Str):=by decide +kernel
   have n2 : ¬ ("first" : Str) = ("last" : Str):=by decide +kernel
   have n3 : ¬ ("last" : Str) = ("open" : Str):=by decide +kernel
   have e1 : ci ("first" : Str) (b :: r) = .tup [.str "one",.str b.p,.int b.n]:=by
    have : cO ("first" : Str) b r = b:=by unfold cO; rw [if_neg n2]; exact ki r b h
    rw [ci,if_neg (fun z=>n1 z.2),this,gK h _ hf1]
   obtain ⟨c2,r2,hf2⟩ : ∃ c2 r2,(b :: r).filter (fun c=>decide (c.p = m.p)) = c2 :: r2:=by
    cases hq : (b :: r).filter (fun c=>decide (c.p = m.p)) with
    | nil =>
     have:=List.filter_eq_nil_iff.mp hq _ (jz r b)
     simp [m] at this
    | cons b2 r2=>exact ⟨b2,r2,rfl⟩
   have e2 : ci ("last" : Str) (b :: r) = .tup [.str "one",.str m.p,.int c2.n]:=by
    have : cO ("last" : Str) b r = m:=by unfold cO; rw [if_pos rfl]
    rw [ci,if_neg (fun z=>n3 z.2),this,gK h _ hf2]
   have il : ∀ ρ : DL.Env,ρ[1]? = some (some (.lst ((b :: r).map tD),false))->f2 ixD (f2 ixD (af 1) (f1 rz (fC (.int 1)))) (fC (.int 2)) ρ = some (.str m.p,false):=fun ρ q=>by
    refine aB (x:=tD m) (y:=.int 2) (b1:=false) (b2:=false) (aB (x:=.lst ((b :: r).map tD)) (y:=.int (-1)) (b1:=false) (b2:=false) (by simp [q]) (by simp) ?_) rfl (by simp [tD,at2])
    have : atI ((b :: r).map tD) (-1) = some (tD m):=by rw [qQ,List.getLast?_map,pb r b h]; rfl
    show (atI ((b :: r).map tD) (-1)).map _ = _
    rw [this]
    rfl
   rw [e0,e1,e2]
   have hc7 : ∀ ρ : DL.Env,ρ[1]? = some (some (.lst ((b :: r).map tD),false))->bK (bL (af 1)) 1 [1] (tgN 0) (tOf (f2 dEq (f2 ixD (af 0) (fC (.int 2))) (f2 ixD (f2 ixD (af 1) (f1 rz (fC (.int 1)))) (fC (.int 2))))) (f2 ixD (af 0) (fC (.int 1))) ρ = some (.lst ((c2 :: r2).map fun c=>.int c.n),true):=fun ρ q=>by
    have hc:=gD (fi:=bL (af 1)) (nT:=1) (cap:=[1]) (tg:=tgN 0) (c:=tOf (f2 dEq (f2 ixD (af 0) (fC (.int 2))) (f2 ixD (f2 ixD (af 1) (f1 rz (fC (.int 1)))) (fC (.int 2))))) (fe:=f2 ixD (af 0) (fC (.int 1))) (ρ:=ρ) (b :: r) tD (fun c=>decide (c.p = m.p)) (fun c=>.int c.n) (by simp [q]) (by omega) fun c _=>by
     refine ⟨[some (tD c,false),some (.lst ((b :: r).map tD),false)],by simp [bw,q],aC (b:=false) (aB (x:=.str c.p) (y:=.str m.p) (b1:=false) (b2:=false) (aB (x:=tD c) (y:=.int 2) (b1:=false) (b2:=false) rfl rfl (by simp [tD,at2])) (il _ rfl) (by simp)),fun _=>⟨false,aB (x:=tD c) (y:=.int 1) (b1:=false) (b2:=false) rfl rfl (by simp [tD,at1])⟩⟩
    rw [hf2] at hc
    exact hc
   have hpl : ah 40 (.tup [.str "parted",.lst ((dB (b :: r)).map .str)]) = true:=pt _ _ (by simp only [List.all_cons,List.all_nil,ah,Bool.and_true]; exact mN _ _)
   have ne : ∀ {d : D},ah 40 d = true->dNe d d = some (.bl false,false):=fun {d} q=>by unfold dNe; rw [if_pos ⟨q,q⟩,gG 40 _ q]; rfl
   have hfl : aS ((dB (b :: r)).map D.str) = true:=eS _
   refine a8 rfl (dI (hset _ _ _ _) (bT (ds:=(dB (b :: r)).map .str) (h5 _ rfl) hfl (bC (aC (b:=false) (by simp; omega)) (bC (gC (p:=false) (q:=false) (aC (b:=false) (aB (b1:=false) (b2:=false) rfl (ai (ds:=[.str "parted",.lst ((dB (b :: r)).map .str)]) rfl (cR _ (by simp))) (ne hpl))) fun _=>aC (b:=false) (aB (b1:=false) (b2:=false) rfl (ai (ds:=[.str "one",.str b.p,.int b.n]) (av (b:=false) rfl (av (b:=false) (aB (x:=tD b) (y:=.int 2) (b1:=false) (b2:=false) (i0 _ rfl) rfl (by simp [tD,at2])) (av (i01 _ rfl) rfl))) (cR _ (by simp))) (ne (hone b.p b.n)))) (bT (ds:=(c2 :: r2).map fun c=>.int c.n) (hc7 _ rfl) (bB fun d hd=>by obtain ⟨c,_,rfl⟩:=List.mem_map.mp hd; rfl) (aI ?_))))))
   exact aB (b1:=false) (b2:=false) rfl (ai (ds:=[.str "one",.str m.p,.int c2.n]) (av (b:=false) rfl (av (il _ rfl) (av (b:=false) (by simp [at0]) rfl))) (cR _ (by simp))) (mC (hone m.p c2.n))
theorem B4 {ns : List Int} {i : Int} (h1 : 0<=i) (h2 : i < ns.length) : ∃ m ∈ ns,ixD (.lst (ns.map .int)) (.int i) = some (.int m,false):=by
 have h : i.toNat < ns.length:=by omega
 refine ⟨ns.getD i.toNat 0, ?_,vL h1 h⟩
 rw [List.getD_eq_getElem?_getD,List.getElem?_eq_getElem h]
 exact List.getElem_mem h
theorem zi {zs : List Str} {i : Int} (h1 : 0<=i) (h2 : i < zs.length) : ∃ z,ixD (.lst (zs.map .str)) (.int i) = some (.str z,false):=by
 have h : i.toNat < zs.length:=by omega
 refine ⟨zs[i.toNat], ?_⟩
 rw [uy h1 (by rw [List.length_map]; exact h),List.getD_eq_getElem?_getD,List.getElem?_map,List.getElem?_eq_getElem h]
 rfl
theorem zj {x n : Int} (h : 0 < n) : f6 (.int x) (.int n) = some (.int (x % n),false):=by
 show (if decide ((0 : Int) < n) = true then _ else _) = _
 rw [if_pos (decide_eq_true h)]
def zk (r : D) : Prop:=RowN r/\aM r<=12
theorem Eh (c : Int) (ns : List Int) (zs : List Str) (hz : 0 < zs.length) (rows : List D) (hr : rows.length<=100) (v4 v5 v6 : Option (D × Bool)) :
  ∃ r w4 w5 w6,zk r/\jU [some (.lst (ns.map .int),false),some (.lst (zs.map .str),false),some (.lst rows,true),some (.int c,false),v4,v5,v6] = some (.nx [some (.lst (ns.map .int),false),some (.lst (zs.map .str),false),some (.lst (rows ++ [r]),true),some (.int c,false),w4,w5,w6]):=by
 have hl0 : (0 : Int) < zs.length:=by omega
 have h13:=mod_lt (x:=c / 8) (m:=13) (by decide)
 obtain ⟨d,hd⟩ : ∃ d : Int,c / 8 % 13 = d:=⟨_,rfl⟩
 have hz1:=mod_lt (x:=c / 104) (m:=zs.length) hl0
 obtain ⟨p,ep⟩:=zi (zs:=zs) (i:=c / 104 % zs.length) hz1.1 hz1.2
 have h8:=mod_lt (x:=c) (m:=8) (by decide)
 have h4:=mod_lt (x:=c / 624) (m:=4) (by decide)
 obtain ⟨tv,_,etv⟩:=B4 (ns:=[0,0,1,5]) (i:=c / 624 % 4) h4.1 h4.2
 let L1 : List D:=[.tup [.str "death",.int d,.str p],.tup [.str "lost",.int d,.str p],.tup [.str "paper",.int d,.str p,.int 3,.tup [.int 0,.non],.non,.tup [.str "a"]]]
 let nm : D:=.tup [.str "named",.int d,.str "crown",.str p]
 obtain ⟨k,ay,ei,hrow,hfl⟩ : ∃ k ay,ixD (.lst (L1 ++ [nm,nm,nm,nm,nm])) (.int (c % 8)) = some (.tup (.str k :: ay),false)/\(∀ h,zk (row h k ay))/\aS ay = true:=by
  have hd12 : d<=12:=by omega
  have hnm : ∃ k ay,some (nm,false) = some (D.tup (.str k :: ay),false)/\(∀ h,zk (row h k ay))/\aS ay = true:=⟨_,_,rfl,fun h=>⟨.named h d p,hd12⟩,rfl⟩
  rcases (show c % 8 = 0 ∨ c % 8 = 1 ∨ c % 8 = 2 ∨ c % 8 = 3 ∨ c % 8 = 4 ∨ c % 8 = 5 ∨ c % 8 = 6 ∨ c % 8 = 7 by omega) with h | h | h | h | h | h | h | h <;> rw [h,uy (by decide) (by show _ < 8; decide)]
  ·exact ⟨_,_,rfl,fun h=>⟨.death h d p,hd12⟩,rfl⟩
  ·exact ⟨_,_,rfl,fun h=>⟨.lost h d p,hd12⟩,rfl⟩
  ·exact ⟨_,_,rfl,fun h=>⟨.paper h d p,hd12⟩,rfl⟩
  all_goals exact hnm
 refine ⟨row (d + tv) k ay,some (.int d,false),some (.str p,false),some (.tup (.str k :: ay),false),hrow _, ?_⟩
 refine aP (d:=.int d) (b:=false) (by simp [hd]) rfl (aP (d:=.str p) (b:=false) (aB (x:=.lst (zs.map .str)) (y:=.int (c / 104 % zs.length)) (b1:=false) (b2:=false) rfl (aB (x:=.int (c / 104)) (y:=.int zs.length) (b1:=false) (b2:=false) (by simp) (by simp) (zj hl0)) ep) rfl (bT (ds:=L1) (ai (ds:=L1) (by simp [L1,sizeLine]) (mG _ (by simp [L1]))) rfl (aP (d:=.tup (.str k :: ay)) (b:=false) (aB (x:=.lst (L1 ++ [nm,nm,nm,nm,nm])) (y:=.int (c % 8)) (b1:=true) (b2:=false) (aB (x:=.lst L1) (y:=.lst [nm,nm,nm,nm,nm]) (b1:=false) (b2:=true) rfl ?_ ?_) (by simp) ei) (by simp [hfl]) (iM (ds:=rows) (d:=row (d + tv) k ay) (b:=false) rfl ?_ (by simp [row,hfl]) (cc (by omega))))))
 ·simp [nm,sizeLine,List.replicate]
 ·exact if_pos (c:=8<=sizeLine) (e:=none) (b8 (by decide))
 ·exact ai (ds:=[.int (d + tv),.tup (.str k :: ay)]) (av (b:=false) (aB (x:=.int d) (y:=.int tv) (b1:=false) (b2:=false) rfl (aB (x:=.lst (([0,0,1,5] : List Int).map .int)) (y:=.int (c / 624 % 4)) (b1:=true) (b2:=false) (by simp [sizeLine]) (by simp) etv) rfl) rfl) (cR _ (by simp))
theorem AF (ns : List Int) (zs : List Str) (hz : 0 < zs.length) : ∃ rows : List D,jw [.lst (ns.map .int),.lst (zs.map .str)] = some (.lst rows,true)/\(∀ r ∈ rows,zk r)/\rows.length<=30:=by
 obtain ⟨cs,ecs,hcs⟩:=wT ns 30 (by decide)
 obtain ⟨ρ1,f1,rows,v3,v4,v5,v6,rfl,g,l⟩:=fJ (tg:=tgN 3) (g:=jU) (fun i ρ=>∃ (rows : List D) (v3 v4 v5 v6 : Option (D × Bool)),ρ = [some (.lst (ns.map .int),false),some (.lst (zs.map .str),false),some (.lst rows,true),v3,v4,v5,v6]/\(∀ r ∈ rows,zk r)/\rows.length = i) (cs.map .int)
  [some (.lst (ns.map .int),false),some (.lst (zs.map .str),false),some (.lst [],true),none,none,none,none] ⟨[],none,none,none,none,rfl,by simp,rfl⟩ (by
   rintro i d ρ hd ⟨rows,v3,v4,v5,v6,rfl,g,l⟩
   rw [List.getElem?_map] at hd
   obtain ⟨c,hc,rfl⟩:=oY hd
   have hi : i < cs.length:=(List.getElem?_eq_some_iff.mp hc).1
   obtain ⟨r,w4,w5,w6,q,e⟩:=Eh c ns zs hz rows (by omega) v4 v5 v6
   refine ⟨_,_,rfl,.inl e,rows ++ [r],some (.int c,false),w4,w5,w6,rfl, ?_,by simp [l]⟩
   intro r' hr
   simp only [List.mem_append,List.mem_singleton] at hr
   rcases hr with hr | rfl
   ·exact g r' hr
   ·exact q)
 rw [List.length_map] at l
 refine ⟨rows,a8 rfl (bT (ds:=[]) (by simp [sizeLine]) rfl (dI (js (ds:=cs.map .int) ?_ f1) (jr rfl))),g,by omega⟩
 show (fA fL (ae (af 0) (ae (fC (.int 5)) (ae (fC (.int 30)) ak))) _).bind _ = _
 rw [ai (ds:=[.lst (ns.map .int),.int 5,.int ((30 : Nat) : Int)]) rfl ecs]
 rfl
def reg (rows : List D) (a : Nat) (rl : Str) : List D:=rows.take a ++ rt rl :: rows.drop a
theorem qx {rows : List D} {a : Nat} {rl : Str} {r : D} (h : r ∈ reg rows a rl) : r = rt rl ∨ r ∈ rows:=by
 rcases List.mem_append.mp h with h | h
 ·exact .inr (List.mem_of_mem_take h)
 ·rcases List.mem_cons.mp h with h | h
  ·exact .inl h
  ·exact .inr (List.mem_of_mem_drop h)
theorem j7 (rows : List D) (a : Nat) (rl : Str) : (reg rows a rl).length = rows.length + 1:=by
 unfold reg
 rw [List.length_append,List.length_cons,List.length_take,List.length_drop]
 omega
theorem EN (rl : Str) : nH (rt rl):=⟨_,_,_,rfl,.root _ _ _ _⟩
theorem pc (rows : List D) (a : Nat) (known : Int) (hk : 0<=known) : ∃ (X Y : KL) (n : Nat),(∀ rl,ar (reg rows a rl) known = X ++ (rt rl,n) :: Y)/\(∀ x ∈ X,x.1 ∈ rows)/\(∀ x ∈ Y,x.1 ∈ rows)/\((X ++ Y).map (·.2)).Nodup/\∀ x ∈ X ++ Y,x.2 < rows.length + 1:=by
 have key : ∀ rl,ar (reg rows a rl) known = ((rows.take a).zipIdx.filter fun x=>decide (df x.1<=known)) ++ (rt rl,(rows.take a).length) :: (((rows.drop a).zipIdx ((rows.take a).length + 1)).filter fun x=>decide (df x.1<=known)):=fun rl=>by
  unfold ar reg
  rw [List.zipIdx_append,List.zipIdx_cons,List.filter_append,Nat.zero_add,List.filter_cons_of_pos (by exact decide_eq_true hk)]
 refine ⟨_,_,_,key,fun x hx=>?_,fun x hx=>?_, ?_,fun x hx=>?_⟩
 ·exact List.mem_of_mem_take (List.fst_mem_of_mem_zipIdx (List.mem_filter.mp hx).1)
 ·exact List.mem_of_mem_drop (List.fst_mem_of_mem_zipIdx (List.mem_filter.mp hx).1)
 ·have h:=ge (reg rows a ("open" : Str)) known
  rw [key] at h
  exact List.Nodup.sublist (List.Sublist.map _ (List.Sublist.append (List.Sublist.refl _) (List.sublist_cons_self _ _))) h
 ·have hm : x ∈ ar (reg rows a ("open" : Str)) known:=by
   rw [key]
   rcases List.mem_append.mp hx with h | h
   ·exact List.mem_append_left _ h
   ·exact mY _ (mZ _ h)
  have:=(List.getElem?_eq_some_iff.mp (cf hm)).1
  rw [j7] at this
  exact this
theorem zl {ds : List D} {a : Nat} : ij ds none (some (a : Int)) = ds.take a:=by
 unfold ij
 rw [jt (by omega)]
 show (ds.drop 0).take (min (a : Int).toNat ds.length - 0) = _
 rw [List.drop_zero,Nat.sub_zero,Int.toNat_natCast,← List.take_eq_take_min]
theorem zm {ds : List D} {a : Nat} (h : a<=ds.length) : ij ds (some (a : Int)) none = ds.drop a:=by
 unfold ij
 rw [jt (by omega),Int.toNat_natCast,Nat.min_eq_left h]
 show (ds.drop a).take (ds.length - a) = _
 exact List.take_of_length_le (by rw [List.length_drop]; omega)
theorem zn {rows : List D} (hR : ∀ r ∈ rows,RowN r ∨ ∃ rl,r = rt rl) (known : Int) : ∀ x ∈ ar rows known,kindOf x.1 ∈ ft->lq x.1 ∈ [("crown" : Str)]:=fun x hx hk=>by
 have hm : x.1 ∈ rows:=List.mem_of_getElem? (cf hx)
 generalize x.1 = r at hm hk
 rcases hR r hm with h | ⟨rl,rfl⟩
 ·cases h with
  | death=>exact absurd (show ("death" : Str) ∈ ft from hk) (by decide +kernel)
  | lost=>exact absurd (show ("lost" : Str) ∈ ft from hk) (by decide +kernel)
  | paper=>exact absurd (show ("paper" : Str) ∈ ft from hk) (by decide +kernel)
  | named=>exact List.mem_singleton.mpr rfl
 ·exact absurd (show ("root" : Str) ∈ ft from hk) (by decide +kernel)
theorem ly {rows : List D} (hR : ∀ r ∈ rows,RowN r ∨ ∃ rl,r = rt rl) (hl : rows.length<=60) (known : Int) : cI [.tup rows,.int known] = some (.lst ((di (ar rows known)).map clD),true)/\(di (ar rows known)).length<=60/\∀ day,dA [.tup rows,.int known,.str "crown",.int day] = some (j6 (ar rows known) ("crown" : Str) day,false):=by
 have g : dJ rows:=⟨hl,fun r hr=>by
  rcases hR r hr with h | ⟨rl,rfl⟩
  ·exact h.c
  ·exact EN rl⟩
 have ho : (cn (ar rows known)).length<=60:=by
  unfold cn
  rw [(bc _ _).length_eq]
  exact Nat.le_trans (List.length_filter_le _ _) (Nat.le_trans (iQ rows known) hl)
 have h:=oZ g known (OF:=[("crown" : Str)]) (by decide) (zn hR known) ho
 exact ⟨h.1,h.2,fun day=>xc g known (OF:=[("crown" : Str)]) (by decide) (zn hR known) ho _ day⟩
theorem uF (al : List Cl) : bg (ci ("first" : Str) al) = true:=by
 have n1 : ¬ ("first" : Str) = ("open" : Str):=by decide +kernel
 cases al with
 | nil=>rfl
 | cons b r=>rw [ci,if_neg fun z=>n1 z.2]; rfl
def iS : D->D
 | .tup [_,d]=>d
 | d=>d
def kj (p : Str) (r : D) : Bool:=decide (kindOf r = ("death" : Str)) && decide (aA 1 r = p)
theorem AG {rows : List D} (hR : ∀ r ∈ rows,RowN r) (hl : rows.length<=60) (gone : Str) (ρ : DL.Env) (h2 : ρ[2]? = some (some (.lst rows,true))) (h9 : ρ[9]? = some (some (.str gone,false))) :
  bK (bL (af 2)) 2 [9] (tgT [0,1]) (cx (tOf (f2 dEq (f2 ixD (af 1) (fC (.int 0))) (fC (.str "death")))) (tOf (f2 dEq (f2 ixD (af 1) (fC (.int 2))) (af 2)))) (af 1) ρ = some (.lst ((rows.filter (kj gone)).map iS),true):=by
 refine gD (fi:=bL (af 2)) (nT:=2) (cap:=[9]) (tg:=tgT [0,1]) (c:=cx (tOf (f2 dEq (f2 ixD (af 1) (fC (.int 0))) (fC (.str "death")))) (tOf (f2 dEq (f2 ixD (af 1) (fC (.int 2))) (af 2)))) (fe:=af 1) (ρ:=ρ) rows id (kj gone) iS (by simp [h2]) (by omega) fun r hr=>?_
 have go : ∀ (h : Int) (k : Str) (ay : List D) (q : Bool),(k = ("death" : Str)->tOf (f2 dEq (f2 ixD (af 1) (fC (.int 2))) (af 2)) [some (.int h,false),some (.tup (.str k :: ay),false),some (.str gone,false)] = some q)->∃ ρ1,tgT [0,1] (row h k ay) (bw 2 [9] ρ) = some ρ1/\cx (tOf (f2 dEq (f2 ixD (af 1) (fC (.int 0))) (fC (.str "death")))) (tOf (f2 dEq (f2 ixD (af 1) (fC (.int 2))) (af 2))) ρ1 = some (decide (k = ("death" : Str)) && q)/\(∀ z : Bool,z = true->∃ b,af 1 ρ1 = some (D.tup (.str k :: ay),b)):=fun h k ay q hq=>by
  refine ⟨[some (.int h,false),some (.tup (.str k :: ay),false),some (.str gone,false)],by simp [bw,h9,row],cK (bI (a:=k) (bb:=false) (by simp [at0]) rfl) fun z=>hq (of_decide_eq_true z),fun _ _=>⟨false,rfl⟩⟩
 cases hR r hr with
 | death h d p =>
  obtain ⟨ρ1,a1,a2,a3⟩:=go h ("death" : Str) [.int d,.str p] (decide (p = gone)) fun _=>aC (b:=false) (aB (x:=.str p) (y:=.str gone) (b1:=false) (b2:=false) (by simp [at2]) rfl (by simp))
  exact ⟨ρ1,a1,a2,fun z=>a3 _ z⟩
 | lost h d p =>
  obtain ⟨ρ1,a1,a2,a3⟩:=go h ("lost" : Str) [.int d,.str p] (decide (aA 1 (row h ("lost" : Str) [.int d,.str p]) = gone)) fun e=>absurd e (by decide +kernel)
  exact ⟨ρ1,a1,a2,fun z=>a3 _ z⟩
 | paper h d p =>
  obtain ⟨ρ1,a1,a2,a3⟩:=go h ("paper" : Str) [.int d,.str p,.int 3,.tup [.int 0,.non],.non,.tup [.str "a"]] (decide (p = gone)) fun e=>absurd e (by decide +kernel)
  exact ⟨ρ1,a1,a2,fun z=>a3 _ z⟩
 | named h d p =>
  obtain ⟨ρ1,a1,a2,a3⟩:=go h ("named" : Str) [.int d,.str "crown",.str p] (decide (("crown" : Str) = gone)) fun e=>absurd e (by decide +kernel)
  exact ⟨ρ1,a1,a2,fun z=>a3 _ z⟩
theorem uG {r : D} (h : RowN r) : ah 39 (iS r) = true:=by cases h <;> simp [iS,row,ah]
theorem uH {rows : List D} (hR : ∀ r ∈ rows,RowN r) : aS (rows.map iS) = true:=bB fun d hd=>by
 obtain ⟨r,hr,rfl⟩:=List.mem_map.mp hd
 cases hR r hr <;> rfl
def rls : List Str:=[("open" : Str),("first" : Str),("last" : Str)]
theorem law_true (ns : List Int) (hn : ns.length<=63) : ∃ b,F_law [.lst (ns.map .int)] = some (.bl true,b):=by
 have m5:=mod_lt (x:=ns.getD 0 0) (m:=5) (by decide)
 obtain ⟨many,hmany⟩ : ∃ many : Nat,2 + ns.getD 0 0 % 5 = many:=⟨(2 + ns.getD 0 0 % 5).toNat,by omega⟩
 obtain ⟨zs,hz,hzl,_⟩:=fB (ns.getD 2 0) many (by omega)
 have hl0 : (0 : Int) < zs.length:=by omega
 obtain ⟨rows,hrows,hM,hrl⟩:=AF ns zs (by omega)
 have hR : ∀ r ∈ rows,RowN r:=fun r hr=>(hM r hr).1
 have hflat : aS rows = true:=bB fun r hr=>(hR r hr).c.rp.flat
 have ml:=mod_lt (x:=ns.getD 1 0) (m:=rows.length + 1) (by omega)
 obtain ⟨a,ha⟩ : ∃ a : Nat,ns.getD 1 0 % (rows.length + 1) = a:=⟨(ns.getD 1 0 % (rows.length + 1)).toNat,by omega⟩
 have hal : a<=rows.length:=by omega
 have m2:=mod_lt (x:=ns.getD 3 0) (m:=2) (by decide)
 have m15:=mod_lt (x:=ns.getD 3 0 / 2) (m:=15) (by decide)
 obtain ⟨kn,hknm,ekn⟩:=B4 (ns:=[50,ns.getD 3 0 / 2 % 15]) (i:=ns.getD 3 0 % 2) m2.1 m2.2
 have hkn : 0<=kn:=by simp only [List.mem_cons,List.not_mem_nil,or_false] at hknm; omega
 have mz:=mod_lt (x:=ns.getD 4 0) (m:=zs.length) hl0
 obtain ⟨gone,eg⟩:=zi (zs:=zs) (i:=ns.getD 4 0 % zs.length) mz.1 mz.2
 have m9:=mod_lt (x:=ns.getD 4 0 / 6) (m:=9000) (by decide)
 have cel : ∀ (k : Nat) (ρ : DL.Env) (f : FE),af 0 ρ = some (.lst (ns.map .int),false)->f ρ = some (.int k,false)->fA aR (ae (af 0) (ae f ak)) ρ = some (.int (ns.getD k 0),false):=fun k ρ f h1 h2=>ai (ds:=[.lst (ns.map .int),.int k]) (av h1 (av h2 rfl)) (qj ns k)
 have hregN : ∀ rl,∀ r ∈ reg rows a rl,RowN r ∨ ∃ rl,r = rt rl:=fun rl r hr=>by
  rcases qx hr with h | h
  ·exact .inr ⟨rl,h⟩
  ·exact .inl (hR r h)
 have hregF : ∀ rl,aS (reg rows a rl) = true:=fun rl=>bB fun r hr=>by
  rcases qx hr with h | h
  ·rw [h]; rfl
  ·exact (hR r h).c.rp.flat
 -- the three registers
 let E5 : D->Option (D × Bool)->DL.Env:=fun l v6=>[some (.lst (ns.map .int),false),some (.lst (zs.map .str),true),some (.lst rows,true),some (.int a,false),some (.int kn,false),some (l,true),v6,none,none,none,none,none,none]
 obtain ⟨ρ1,e1,v6,rfl⟩:=fJ (tg:=tgN 6) (g:=uz) (fun i ρ=>∃ v6 : Option (D × Bool),ρ = E5 (.lst ((rls.take i).map fun rl=>.tup (reg rows a rl))) v6) (rls.map .str) (E5 (.lst []) none) ⟨none,rfl⟩ (by
   rintro i d ρ hd ⟨v6,rfl⟩
   rw [List.getElem?_map] at hd
   obtain ⟨rl,hrl',rfl⟩:=oY hd
   have hi : i < rls.length:=(List.getElem?_eq_some_iff.mp hrl').1
   have hi3 : i < 3:=hi
   have ev : fA cX (ae (f2 cS (f2 cS (fSl (af 2) ir (dW (af 3))) (fA cE (ae (fA aZ (ae (fC (.int 0)) (ae (fA aZ (ae (fC (.str "root")) (ae (fC (.str "crown")) (ae (fC (.int 255)) (ae (fC (.int 0)) (ae (af 6) ak)))))) ak))) ak))) (fSl (af 2) (dW (af 3)) ir)) ak) (E5 (.lst ((rls.take i).map fun rl=>.tup (reg rows a rl))) (some (.str rl,false))) = some (.tup (reg rows a rl),false):=by
    have er : rows.take a ++ [rt rl] ++ rows.drop a = reg rows a rl:=by unfold reg; simp
    have ht : (rows.take a).length<=30:=by rw [List.length_take]; omega
    have hd : (rows.drop a).length<=30:=by rw [List.length_drop]; omega
    refine ai (ds:=[.lst (reg rows a rl)]) (av (b:=true) (aB (x:=.lst (rows.take a ++ [rt rl])) (y:=.lst (rows.drop a)) (b1:=true) (b2:=true) (aB (x:=.lst (rows.take a)) (y:=.lst [rt rl]) (b1:=true) (b2:=true) ?_ ?_ ?_) ?_ ?_) rfl) rfl
    ·simp [E5,zl]
    ·simp [E5,sizeLine,rt,row]
    ·exact if_pos (b8 (by simp; omega))
    ·simp [E5,zm hal]
    ·rw [← er]; exact if_pos (b8 (by simp; omega))
   refine ⟨_,_,rfl,.inl (iM (ds:=(rls.take i).map fun rl=>.tup (reg rows a rl)) (d:=.tup (reg rows a rl)) (b:=false) rfl ev (by simp [hregF]) (cc (by simp; omega))),some (.str rl,false), ?_⟩
   rw [List.take_add_one,hrl',Option.toList_some,List.map_append]
   rfl)
 replace e1 : eY (tgN 6) uz (rls.map .str) (E5 (.lst []) none) = some (.nx (E5 (.lst (rls.map fun rl=>.tup (reg rows a rl))) v6)):=e1
 -- by what is known
 obtain ⟨X,Y,n,hK,hX,hY,hnd,_⟩:=pc rows a kn hkn
 have hX' : ∀ x ∈ X,RowN x.1:=fun x hx=>hR _ (hX x hx)
 have hY' : ∀ x ∈ Y,RowN x.1:=fun x hx=>hR _ (hY x hx)
 obtain ⟨hcr,hls⟩:=uE hnd
 have hbl : ∀ rl,(reg rows a rl).length<=60:=fun rl=>by rw [j7]; omega
 have ec : ∀ rl,cI [.tup (reg rows a rl),.int kn] = some (.lst ((cw (X ++ Y)).map clD),true):=fun rl=>by
  have:=(ly (hregN rl) (hbl rl) kn).1
  rw [hK,mS hX' hY'] at this
  exact this
 have hcl : (cw (X ++ Y)).length<=60:=by
  have:=(ly (hregN ("open" : Str)) (hbl ("open" : Str)) kn).2.1
  rw [hK,mS hX' hY'] at this
  exact this
 have eh : ∀ rl day,dA [.tup (reg rows a rl),.int kn,.str "crown",.int day] = some (ci rl ((cw (X ++ Y)).filter fun c=>bJ c day),false):=fun rl day=>by
  have:=(ly (hregN rl) (hbl rl) kn).2.2 day
  rw [hK,sS hX' hY'] at this
  rw [this]
  unfold j0 alL
  rw [List.filter_congr fun c hc=>show (decide (c.o = ("crown" : Str)) && bJ c day) = bJ c day by rw [decide_eq_true (hcr c hc),Bool.true_and]]
 generalize cw (X ++ Y) = cs at hcr hls ec hcl eh
 let E7 : Option (D × Bool)->DL.Env:=fun v8=>[some (.lst (ns.map .int),false),some (.lst (zs.map .str),true),some (.lst rows,true),some (.int a,false),some (.int kn,false),some (.lst (rls.map fun rl=>.tup (reg rows a rl)),true),v6,some (.lst (cs.map clD),true),v8,none,none,none,none]
 obtain ⟨ρ2,e2,v8,rfl⟩:=sr (tg:=tgN 8) (g:=yP) 15 (fun i ρ=>∃ v8 : Option (D × Bool),ρ = E7 v8) (E7 none) ⟨none,rfl⟩ (by
   rintro i ρ hi ⟨v8,rfl⟩
   have hc:=sw (fi:=bL (af 5)) (nT:=1) (cap:=[4,8]) (tg:=tgN 0) (fe:=fA dA (ae (af 0) (ae (af 1) (ae (fC (.str "crown")) (ae (af 2) ak))))) (ρ:=E7 (some (.int i,false))) rls (fun rl=>.tup (reg rows a rl)) (fun rl=>ci rl (cs.filter fun c=>bJ c i)) (by simp [E7]) (by simp [rls]) fun rl _=>⟨_,rfl,false,ai (ds:=[.tup (reg rows a rl),.int kn,.str "crown",.int i]) (by simp [bw,E7]) (eh rl i)⟩
   refine ⟨_,_,rfl,.inl (lm (lx (p:=true) (aC (b:=false) (ai (av hc (av (ai (ds:=[.lst (cs.map clD),.int i]) rfl (AE hls hcl i)) rfl)) (zh (hls.filter _) (Nat.le_trans (List.length_filter_le _ _) hcl))))) rfl),some (.int i,false),rfl⟩)
 -- the one who is gone
 obtain ⟨X2,Y2,n2,hK2,hX2,hY2,hnd2,hlt2⟩:=pc rows a 50 (by decide)
 have hX2' : ∀ x ∈ X2,RowN x.1:=fun x hx=>hR _ (hX2 x hx)
 let dr : D:=row 50 ("death" : Str) [.int 20,.str gone]
 let N : Nat:=rows.length + 1
 have hlong : ar (reg rows a ("first" : Str) ++ [dr]) 50 = X2 ++ (rt ("first" : Str),n2) :: (Y2 ++ [(dr,N)]):=by
  have : ar (reg rows a ("first" : Str) ++ [dr]) 50 = ar (reg rows a ("first" : Str)) 50 ++ [(dr,N)]:=by
   unfold ar
   rw [List.zipIdx_append,List.filter_append,j7,Nat.zero_add]
   rfl
  rw [this,hK2]
  simp
 have hY2' : ∀ x ∈ Y2 ++ [(dr,N)],RowN x.1:=fun x hx=>by
  rcases List.mem_append.mp hx with h | h
  ·exact hR _ (hY2 x h)
  ·rw [List.mem_singleton.mp h]; exact .death _ _ _
 have hlN : ∀ r ∈ reg rows a ("first" : Str) ++ [dr],RowN r ∨ ∃ rl,r = rt rl:=fun r hr=>by
  rcases List.mem_append.mp hr with h | h
  ·exact hregN _ r h
  ·rw [List.mem_singleton.mp h]; exact .inl (.death _ _ _)
 have hlF : aS (reg rows a ("first" : Str) ++ [dr]) = true:=bB fun r hr=>by
  rcases List.mem_append.mp hr with h | h
  ·rcases qx h with h | h
   ·rw [h]; rfl
   ·exact (hR r h).c.rp.flat
  ·rw [List.mem_singleton.mp h]; rfl
 obtain ⟨day,hday,hd20⟩ : ∃ day : Int,20 + ns.getD 4 0 / 6 % 9000 = day/\20<=day:=⟨_,rfl,by omega⟩
 have eL:=(ly hlN (by rw [List.length_append,j7]; simp; omega) 50).2.2 day
 rw [hlong,sS hX2' hY2'] at eL
 unfold j0 at eL
 have hgone : rows.filter (kj gone) = []->∀ c ∈ alL (cw (X2 ++ (Y2 ++ [(dr,N)]))) ("crown" : Str) day,c.p ≠ gone:=fun hdd c hc=>by
  obtain ⟨h1,h2⟩:=List.mem_filter.mp hc
  rw [Bool.and_eq_true] at h2
  have h3:=(bc _ _).mem_iff.mp h1
  rw [← List.append_assoc,zg hnd2 (fun x hx=>?_) (RowN.nr (.death 50 20 gone)) rfl (fun x hx=>by have:=hlt2 x hx; show x.2 ≠ rows.length + 1; omega),List.foldl_append] at h3
  ·have hs : ∀ so : List Cl,[(dr,N)].foldl (gh (X2 ++ Y2 ++ [(dr,N)])) so = bf so (so.map Cl.o) gone 20:=fun so=>by
    show gh _ so (dr,N) = _
    have n0 : ¬ kindOf (dr,N).1 = ("named" : Str):=fun e=>absurd (show ("death" : Str) = ("named" : Str) from e) (by decide +kernel)
    unfold gh
    rw [if_neg n0,if_pos]
    ·rfl
    ·refine ⟨rfl, ?_⟩
     have hf : (X2 ++ Y2 ++ [(dr,N)]).filter (fun x=>told bU gone 20 x.1) = [(dr,N)]:=by
      have h0 : (X2 ++ Y2).filter (fun x=>told bU gone 20 x.1) = []:=List.filter_eq_nil_iff.mpr fun x hx ht=>by
       have hxr : x.1 ∈ rows:=by
        rcases List.mem_append.mp hx with h | h
        ·exact hX2 x h
        ·exact hY2 x h
       have hno:=List.filter_eq_nil_iff.mp hdd x.1 hxr
       obtain ⟨h',k',d',e',_,hk',_⟩:=iP dN (hR _ hxr).c.rp ht
       have hk2 : k' = ("death" : Str):=by simpa [bU] using hk'
       rw [e',hk2] at hno
       refine hno ?_
       unfold kj
       rw [Bool.and_eq_true]
       exact ⟨decide_eq_true rfl,decide_eq_true rfl⟩
      rw [List.filter_append,h0,List.nil_append]
      exact List.filter_cons_of_pos (by simp [told,dr,row,bU,oR])
     show dF _ gone 20 N = true
     unfold dF
     rw [hf]
     exact decide_eq_true rfl
   rw [hs] at h3
   exact CN hd20 h3 h2.2
  ·rcases List.mem_append.mp hx with h | h
   ·exact (hM _ (hX2 x h)).2
   ·exact (hM _ (hY2 x h)).2
 generalize alL (cw (X2 ++ (Y2 ++ [(dr,N)]))) ("crown" : Str) day = al at eL hgone
 have hpl : ah 40 (.lst ((rows.filter (kj gone)).map iS)) = true:=by
  simp only [ah,List.all_eq_true]
  intro d hd
  obtain ⟨r,hr,rfl⟩:=List.mem_map.mp hd
  exact uG (hR r (List.mem_filter.mp hr).1)
 have hreg : ∀ ρ : DL.Env,ρ[5]? = some (some (.lst (rls.map fun rl=>.tup (reg rows a rl)),true))->f2 ixD (af 5) (fC (.int 0)) ρ = some (.tup (reg rows a ("open" : Str)),false)/\f2 ixD (af 5) (fC (.int 1)) ρ = some (.tup (reg rows a ("first" : Str)),false)/\f2 ixD (af 5) (fC (.int 2)) ρ = some (.tup (reg rows a ("last" : Str)),false):=fun ρ q=>by simp [q,rls,at0,at1,at2]
 have hcpl : ah 40 (.lst (cs.map clD)) = true:=by
  simp only [ah,List.all_eq_true]
  intro d hd
  obtain ⟨⟨o,p,s,u,m⟩,_,rfl⟩:=List.mem_map.mp hd
  cases u <;> simp [clD,uD,ah]
 have hcne : dNe (.lst (cs.map clD)) (.lst (cs.map clD)) = some (.bl false,false):=by
  unfold dNe
  rw [if_pos ⟨hcpl,hcpl⟩,gG 40 _ hcpl]
  rfl
 refine ⟨false,a8 rfl (bT (ds:=zs.map .str) ?_ (eS zs) (bT (ds:=rows) ?_ hflat (aP (d:=.int a) (b:=false) ?_ rfl (aP (d:=.int kn) (b:=false) ?_ rfl (bT (ds:=[]) (by simp [sizeLine]) rfl (dI (js (ds:=rls.map .str) ?_ e1) (bT (ds:=cs.map clD) ?_ (eC cs) (bC (gC (p:=false) (q:=false) (aC (b:=false) (aB (x:=.lst (cs.map clD)) (y:=.lst (cs.map clD)) (b1:=true) (b2:=false) ?_ rfl hcne)) fun _=>aC (b:=false) (aB (x:=.lst (cs.map clD)) (y:=.lst (cs.map clD)) (b1:=true) (b2:=false) ?_ rfl hcne)) (dI (sv (oD (j:=15) (b:=false) rfl (by decide)) e2)
  (aP (d:=.str gone) (b:=false) ?_ rfl (aP (d:=.tup (reg rows a ("first" : Str) ++ [dr])) (b:=false) ?_ (by simp [hlF]) (bT (AG hR (by omega) gone _ rfl rfl) (uH fun r hr=>hR r (List.mem_filter.mp hr).1) (aP (d:=ci ("first" : Str) al) (b:=false) ?_ (uF al) (aI ?_))))))))))))))⟩
 ·refine ai (ds:=[.int (ns.getD 2 0),.int many]) (av (cel 2 _ _ rfl rfl) (av (d:=.int many) (b:=false) (aB (x:=.int 2) (y:=.int (ns.getD 0 0 % 5)) (b1:=false) (b2:=false) rfl (aB (x:=.int (ns.getD 0 0)) (y:=.int 5) (b1:=false) (b2:=false) (cel 0 _ _ rfl rfl) rfl (by simp)) (by simp only [cS,hmany])) rfl)) hz
 ·exact ai (ds:=[.lst (ns.map .int),.lst (zs.map .str)]) (by simp) hrows
 ·exact aB (x:=.int (ns.getD 1 0)) (y:=.int (rows.length + 1)) (b1:=false) (b2:=false) (cel 1 _ _ rfl rfl) (by simp) (by rw [zj (by omega),ha])
 ·refine aB (x:=.lst (([50,ns.getD 3 0 / 2 % 15] : List Int).map .int)) (y:=.int (ns.getD 3 0 % 2)) (b1:=true) (b2:=false) (ai (ds:=[.int 50,.int (ns.getD 3 0 / 2 % 15)]) (av (b:=false) rfl (av (b:=false) (aB (x:=.int (ns.getD 3 0 / 2)) (y:=.int 15) (b1:=false) (b2:=false) (aB (x:=.int (ns.getD 3 0)) (y:=.int 2) (b1:=false) (b2:=false) (cel 3 _ _ rfl rfl) rfl (by simp)) rfl (by simp)) rfl)) (mG _ (by simp))) (aB (x:=.int (ns.getD 3 0)) (y:=.int 2) (b1:=false) (b2:=false) (cel 3 _ _ rfl rfl) rfl (by simp)) ekn
 ·simp [rls,sizeLine]
 ·exact ai (ds:=[.tup (reg rows a ("open" : Str)),.int kn]) (av (hreg _ rfl).1 rfl) (ec _)
 ·exact ai (ds:=[.tup (reg rows a ("first" : Str)),.int kn]) (av (hreg _ rfl).2.1 rfl) (ec _)
 ·exact ai (ds:=[.tup (reg rows a ("last" : Str)),.int kn]) (av (hreg _ rfl).2.2 rfl) (ec _)
 ·exact aB (x:=.lst (zs.map .str)) (y:=.int (ns.getD 4 0 % zs.length)) (b1:=false) (b2:=false) rfl (aB (x:=.int (ns.getD 4 0)) (y:=.int zs.length) (b1:=false) (b2:=false) (cel 4 _ _ rfl rfl) (by simp [E7]) (zj hl0)) eg
 ·refine ai (ds:=[.lst (reg rows a ("first" : Str) ++ [dr])]) (av (b:=true) (aB (x:=.lst (reg rows a ("first" : Str))) (y:=.lst [dr]) (b1:=true) (b2:=true) (ai (ds:=[.tup (reg rows a ("first" : Str))]) (av (hreg _ rfl).2.1 rfl) rfl) (by simp [E7,sizeLine,dr,row]) (if_pos (b8 (by rw [j7,List.length_singleton]; omega)))) rfl) rfl
 ·refine ai (ds:=[.tup (reg rows a ("first" : Str) ++ [dr]),.int 50,.str "crown",.int day]) (av (b:=false) rfl (av (b:=false) rfl (av (b:=false) rfl (av (b:=false) (aB (x:=.int 20) (y:=.int (ns.getD 4 0 / 6 % 9000)) (b1:=false) (b2:=false) rfl (aB (x:=.int (ns.getD 4 0 / 6)) (y:=.int 9000) (b1:=false) (b2:=false) (aB (x:=.int (ns.getD 4 0)) (y:=.int 6) (b1:=false) (b2:=false) (cel 4 _ _ rfl rfl) rfl (by simp)) rfl (by simp)) (by simp only [cS,hday])) rfl)))) eL
 ·cases hdd : rows.filter (kj gone) with
  | cons r0 l0 =>
   rw [hdd] at hpl
   refine oE (p:=true) (q:=true) (b1:=false) (aB (x:=.lst ((r0 :: l0).map iS)) (y:=.lst []) (b1:=false) (b2:=true) rfl (by simp [E7,sizeLine]) ?_) (by simp)
   unfold dNe
   rw [if_pos ⟨hpl,by simp [E7,ah]⟩]
   rfl
  | nil =>
   refine oE (p:=false) (q:=true) (b1:=false) (aB (x:=.lst []) (y:=.lst []) (b1:=false) (b2:=true) rfl (by simp [E7,sizeLine]) (by simp)) fun _=>?_
   have hg:=hgone hdd
   cases al with
   | nil=>exact oE (p:=true) (q:=true) (b1:=false) (aB (x:=.str "none") (y:=.str "none") (b1:=false) (b2:=false) (by simp [E7,ci,at0]) rfl (by simp)) (by simp)
   | cons b r =>
    have n1 : ¬ ("first" : Str) = ("open" : Str):=by decide +kernel
    have n2 : ¬ ("one" : Str) = ("none" : Str):=by decide +kernel
    have e:=hg _ (kc ("first" : Str) b r)
    rw [ci,if_neg fun z=>n1 z.2]
    exact oE (p:=false) (q:=true) (b1:=false) (aB (x:=.str "one") (y:=.str "none") (b1:=false) (b2:=false) (by simp [E7,at0]) rfl (by simp [E7,n2])) fun _=>aB (x:=.str (cO ("first" : Str) b r).p) (y:=.str gone) (b1:=false) (b2:=false) (by simp [E7,at1]) rfl (by simp [E7,e])
end Lw
namespace Lw
open PySem PySem.Spec PyProof.Rows L2 DL
theorem dO {X : Cx} {es : List Expr} {g : FA} {i : Int} {j : Nat} {pos : Pos} (hr : JA X es g) : JA X (.Constant (.int i) j pos :: es) (ae (fC (.int i)) g):=ab ao hr
def top (i : Nat) : Stmt:=PySem.Challenge.pw_sealchain_k22_whole_three_rules.main.body.getD i (.Pass ⟨0,0,0,0⟩)
structure Tx (K : PySem.W.Frag) (P : Params) (mg : Str->Option Value) : Prop where
 n_dict : mg "dict" = none
 n_enumerate : mg "enumerate" = none
 n_len : mg "len" = none
 n_list : mg "list" = none
 n_max : mg "max" = none
 n_min : mg "min" = none
 n_range : mg "range" = none
 n_set : mg "set" = none
 n_sorted : mg "sorted" = none
 n_tuple : mg "tuple" = none
 k_PARTS : ∃ d,mg "PARTS" = some (.ref d)/\oj K P d eP
 k_SEALINGS : ∃ u v,mg "SEALINGS" = some u/\aN v u/\∀ B,Is K B v dq
section
variable {P : Program} {w : World} {K : PySem.W.Frag} {mg : Str->Option Value} {base h : Heap}
abbrev km : Stmt:=top 4
theorem mT : FnScope ["row"] ["row"] (au km):=by refine ⟨rfl,rfl,rfl, ?_,rfl, ?_, ?_⟩ <;> decide +kernel
theorem uI (T : Tx K w.params mg) (F : Def K "word_of" km) (KX : K.In h) (G : h.Ns mainGlobals mg)  : Fn P w K mg base 1 "word_of" aD :=
 F.fn (k:=0) KX G mT (fun _ _ _ _ _ _ us hl=>match us,hl with | [_],_=>rfl) fun f cdv A outer s H E hr =>
  have hu:=bZ hr
  have nd:=mT.nd
  (show JSs _ _ oF from
   (aw (aH (a7 (a7 (ac 0) ao) ao))))
abbrev ko : Stmt:=top 5
theorem mU : FnScope ["row","part"] ["row","part"] (au ko):=by refine ⟨rfl,rfl,rfl, ?_,rfl, ?_, ?_⟩ <;> decide +kernel
theorem uJ (T : Tx K w.params mg) (F : Def K "part_of" ko) (KX : K.In h) (G : h.Ns mainGlobals mg) (f_word_of : Fn P w K mg base 1 "word_of" aD) : Fn P w K mg base 2 "part_of" am :=
 F.fn (k:=1) KX G mU (fun _ _ _ _ _ _ us hl=>match us,hl with | [_,_],_=>rfl) fun f cdv A outer s H E hr =>
  have hu:=bZ hr
  have nd:=mU.nd
  (show JSs _ _ oG from
   (aw (aH (a7 (a7 (ac 0) ao) (aV bP ao (Ap T.k_PARTS (aj f_word_of (hr.mono (by decide)) (ab (ac 0) ag)) (ac 1)))))))
abbrev mV : Stmt:=top 6
theorem pd : FnScope ["row"] ["row"] (au mV):=by refine ⟨rfl,rfl,rfl, ?_,rfl, ?_, ?_⟩ <;> decide +kernel
theorem xf (T : Tx K w.params mg) (F : Def K "day_of" mV) (KX : K.In h) (G : h.Ns mainGlobals mg) (f_word_of : Fn P w K mg base 1 "word_of" aD) (f_part_of : Fn P w K mg base 2 "part_of" am) : Fn P w K mg base 3 "day_of" aL :=
 F.fn (k:=2) KX G pd (fun _ _ _ _ _ _ us hl=>match us,hl with | [_],_=>rfl) fun f cdv A outer s H E hr =>
  have hu:=bZ hr
  have nd:=pd.nd
  (show JSs _ _ sx from
   (aq (cr (aO (cW hu) (aj f_word_of (hr.mono (by decide)) (ab (ac 0) ag)) az) (aw (aH dU)) bO)
   (aw (aH (aj f_part_of (hr.mono (by decide)) (ab (ac 0) (ab az ag)))))))
abbrev qy : Stmt:=top 8
theorem sW : FnScope ["book","known"] ["book","known"] (au qy):=by refine ⟨rfl,rfl,rfl, ?_,rfl, ?_, ?_⟩ <;> decide +kernel
theorem zo (T : Tx K w.params mg) (F : Def K "heard" qy) (KX : K.In h) (G : h.Ns mainGlobals mg)  : Fn P w K mg base 1 "heard" ce :=
 F.fn (k:=0) KX G sW (fun _ _ _ _ _ _ us hl=>match us,hl with | [_,_],_=>rfl) fun f cdv A outer s H E hr =>
  have hu:=bZ hr
  have nd:=sW.nd
  (show JSs _ _ vN from
   (aw (aH (eJ rfl (nT:=2) (cap:=[1]) (N':=["number","row","known"]) (cM (by decide +kernel) rfl (by decide +kernel) rfl) (.cons rfl rfl (Or.inl rfl) (Or.inl rfl) (bv (by decide +kernel) rfl) (.nil rfl)) (Ak T.n_enumerate (ac 0)) (fun _ _ _ _=>(xn rfl (dQ (aW (i:=0) (show List.Nodup (α:=Str) ["number","row","known"] by decide +kernel) rfl (Or.inl rfl)) (dQ (aW (i:=1) (show List.Nodup (α:=Str) ["number","row","known"] by decide +kernel) rfl (Or.inl rfl)) pv)))) (Bs (by decide)) (fun _ _ _ _=>(eZ (aO oe (a7 (ac 1) ao) (ac 2)))) (fun _ _ _ _=>(ac 0))))))
abbrev uK : Stmt:=top 10
theorem wb : FnScope ["book","number"] ["book","number"] (au uK):=by refine ⟨rfl,rfl,rfl, ?_,rfl, ?_, ?_⟩ <;> decide +kernel
theorem AH (T : Tx K w.params mg) (F : Def K "rank" uK) (KX : K.In h) (G : h.Ns mainGlobals mg) (f_day_of : Fn P w K mg base 3 "day_of" aL) : Fn P w K mg base 4 "rank" cN :=
 F.fn (k:=3) KX G wb (fun _ _ _ _ _ _ us hl=>match us,hl with | [_,_],_=>rfl) fun f cdv A outer s H E hr =>
  have hu:=bZ hr
  have nd:=wb.nd
  (show JSs _ _ yO from
   (aw (aH (aY (ab (aj f_day_of (hr.mono (by decide)) (ab (a7 (ac 0) (ac 1)) ag)) (ab (ac 1) ag))))))
abbrev iT : Stmt:=top 11
theorem kR : FnScope ["book","known","dated"] ["book","known"] (au iT):=by refine ⟨rfl,rfl,rfl, ?_,rfl, ?_, ?_⟩ <;> decide +kernel
theorem sX (T : Tx K w.params mg) (F : Def K "in_order" iT) (KX : K.In h) (G : h.Ns mainGlobals mg) (f_day_of : Fn P w K mg base 3 "day_of" aL) (f_heard : Fn P w K mg base 1 "heard" ce) (f_rank : Fn P w K mg base 4 "rank" cN) (l_in_order : pW K "in_order") : Fn P w K mg base 8 "in_order" du :=
 F.fnL (k:=7) KX G kR (fun _ _ _ _ _ _ us hl=>match us,hl with | [_,_],_=>rfl) fun f cdv A outer s H E hcd hr =>
  have hu:=bZ hr
  have nd:=kR.nd
  (show JSs _ _ mr from
   (aq (fR (i:=2) rfl nd rfl rfl rfl (nT:=1) (cap:=[0]) (N':=["number","book"]) (cM (by decide +kernel) rfl (by decide +kernel) rfl) (.cons rfl rfl (Or.inl rfl) (Or.inl rfl) (bv (by decide +kernel) rfl) (.nil rfl)) (ca (aj f_heard (hr.mono (by decide)) (ab (ac 0) (ab (ac 1) ag)))) (fun _ _ _ _=>(aW (i:=0) (show List.Nodup (α:=Str) ["number","book"] by decide +kernel) rfl (Or.inl rfl))) (bN (by decide)) (fun _ _ _ _=>(eZ (aO vj (aj f_day_of (hr.mono (by decide)) (ab (a7 (ac 1) (ac 0)) ag)) dU))) (fun _ _ _ _=>(ac 0)))
   (aw (aH (sk T.n_sorted (ac 2) (uo (cap:=[0]) (N':=["number","book"]) (by decide +kernel) l_in_order hcd rfl rfl (y7 (by decide +kernel) rfl rfl rfl rfl rfl) rfl (.cons rfl rfl (Or.inl rfl) rfl (bv (by decide +kernel) rfl) (.nil rfl)) rfl hr.in1.in1 (fun _ _ _ _=>rfl) fun _ _ _ _ hr=>have hu:=bZ hr; (aj f_rank (hr.mono (by decide)) (ab (ac 1) (ab (ac 0) ag)))))))))
abbrev gL : Stmt:=top 23
theorem j8 : FnScope ["claim"] ["claim"] (au gL):=by refine ⟨rfl,rfl,rfl, ?_,rfl, ?_, ?_⟩ <;> decide +kernel
theorem qz (T : Tx K w.params mg) (F : Def K "by_office" gL) (KX : K.In h) (G : h.Ns mainGlobals mg)  : Fn P w K mg base 1 "by_office" cQ :=
 F.fn (k:=0) KX G j8 (fun _ _ _ _ _ _ us hl=>match us,hl with | [_],_=>rfl) fun f cdv A outer s H E hr =>
  have hu:=bZ hr
  have nd:=j8.nd
  (show JSs _ _ kH from
   (aw (aH (aY (ab (a7 (ac 0) ao) (ab (a7 (ac 0) ao) (ab (a7 (ac 0) ao) ag)))))))
abbrev q8 : Stmt:=top 12
theorem sY : FnScope ["book","known","known_rows"] ["book","known"] (au q8):=by refine ⟨rfl,rfl,rfl, ?_,rfl, ?_, ?_⟩ <;> decide +kernel
theorem zp (T : Tx K w.params mg) (F : Def K "roots" q8) (KX : K.In h) (G : h.Ns mainGlobals mg) (f_word_of : Fn P w K mg base 1 "word_of" aD) (f_part_of : Fn P w K mg base 2 "part_of" am) (f_heard : Fn P w K mg base 1 "heard" ce) : Fn P w K mg base 3 "roots" eQ :=
 F.fn (k:=2) KX G sY (fun _ _ _ _ _ _ us hl=>match us,hl with | [_,_],_=>rfl) fun f cdv A outer s H E hr =>
  have hu:=bZ hr
  have nd:=sY.nd
  (show JSs _ _ vO from
   (aq (fR (i:=2) rfl nd rfl rfl rfl (nT:=1) (cap:=[0]) (N':=["number","book"]) (cM (by decide +kernel) rfl (by decide +kernel) rfl) (.cons rfl rfl (Or.inl rfl) (Or.inl rfl) (bv (by decide +kernel) rfl) (.nil rfl)) (ca (aj f_heard (hr.mono (by decide)) (ab (ac 0) (ab (ac 1) ag)))) (fun _ _ _ _=>(aW (i:=0) (show List.Nodup (α:=Str) ["number","book"] by decide +kernel) rfl (Or.inl rfl))) (bN (by decide)) (fun _ _ _ _=>lE) (fun _ _ _ _=>(a7 (ac 1) (ac 0))))
   (aw (aH (gT (CG rfl) T.n_dict CF (ab (eJ rfl (nT:=1) (cap:=[]) (N':=["row"]) (cM (by decide +kernel) rfl (by decide +kernel) rfl) (.nil rfl) (ca (ac 2)) (fun _ _ _ _=>(aW (i:=0) (show List.Nodup (α:=Str) ["row"] by decide +kernel) rfl (Or.inl rfl))) (bN (by decide)) (fun _ _ _ _=>(eZ (aO (cW hu) (aj f_word_of (hr.mono (by decide)) (ab (ac 0) ag)) az))) (fun _ _ _ _=>(aY (ab (aj f_part_of (hr.mono (by decide)) (ab (ac 0) (ab az ag))) (ab (ac 0) ag))))) ag))))))
abbrev iU : Stmt:=top 9
theorem kU : FnScope ["book","known","number"] ["book","known","number"] (au iU):=by refine ⟨rfl,rfl,rfl, ?_,rfl, ?_, ?_⟩ <;> decide +kernel
theorem sZ (T : Tx K w.params mg) (F : Def K "is_known" iU) (KX : K.In h) (G : h.Ns mainGlobals mg)  : Fn P w K mg base 1 "is_known" eB :=
 F.fn (k:=0) KX G kU (fun _ _ _ _ _ _ us hl=>match us,hl with | [_,_,_],_=>rfl) fun f cdv A outer s H E hr =>
  have hu:=bZ hr
  have nd:=kU.nd
  (show JSs _ _ ms from
   (aw (aH (gv (xU oe lK ao (ac 2) (bF f7 T.n_len f8 (ab (ac 0) ag))) (gw (cm oe (a7 (a7 (ac 0) (ac 2)) ao) (ac 1)))))))
abbrev qA : Stmt:=top 15
theorem tm : FnScope ["row","words","person","day"] ["row","words","person","day"] (au qA):=by refine ⟨rfl,rfl,rfl, ?_,rfl, ?_, ?_⟩ <;> decide +kernel
theorem zq (T : Tx K w.params mg) (F : Def K "tells" qA) (KX : K.In h) (G : h.Ns mainGlobals mg) (f_word_of : Fn P w K mg base 1 "word_of" aD) (f_part_of : Fn P w K mg base 2 "part_of" am) (f_day_of : Fn P w K mg base 3 "day_of" aL) : Fn P w K mg base 4 "tells" ju :=
 F.fn (k:=3) KX G tm (fun _ _ _ _ _ _ us hl=>match us,hl with | [_,_,_,_],_=>rfl) fun f cdv A outer s H E hr =>
  have hu:=bZ hr
  have nd:=tm.nd
  (show JSs _ _ vP from
   (aw (aH (gv (cm DQ (aj f_word_of (hr.mono (by decide)) (ab (ac 0) ag)) (ac 1)) (gv (cm (cW hu) (aj f_part_of (hr.mono (by decide)) (ab (ac 0) (ab az ag))) (ac 2)) (gw (cm oe (aj f_day_of (hr.mono (by decide)) (ab (ac 0) ag)) (ac 3))))))))
abbrev kq : Stmt:=top 16
theorem mW : FnScope ["book","known","words","person","day"] ["book","known","words","person","day"] (au kq):=by refine ⟨rfl,rfl,rfl, ?_,rfl, ?_, ?_⟩ <;> decide +kernel
theorem uL (T : Tx K w.params mg) (F : Def K "told_of" kq) (KX : K.In h) (G : h.Ns mainGlobals mg) (f_heard : Fn P w K mg base 1 "heard" ce) (f_tells : Fn P w K mg base 4 "tells" ju) : Fn P w K mg base 5 "told_of" cC :=
 F.fn (k:=4) KX G mW (fun _ _ _ _ _ _ us hl=>match us,hl with | [_,_,_,_,_],_=>rfl) fun f cdv A outer s H E hr =>
  have hu:=bZ hr
  have nd:=mW.nd
  (show JSs _ _ oH from
   (aw (aH (eJ rfl (nT:=1) (cap:=[2,3,4,0]) (N':=["number","words","person","day","book"]) (cM (by decide +kernel) rfl (by decide +kernel) rfl) (.cons rfl rfl (Or.inl rfl) (Or.inl rfl) (bv (by decide +kernel) rfl) (.cons rfl rfl (Or.inl rfl) (Or.inl rfl) (bv (by decide +kernel) rfl) (.cons rfl rfl (Or.inl rfl) (Or.inl rfl) (bv (by decide +kernel) rfl) (.cons rfl rfl (Or.inl rfl) (Or.inl rfl) (bv (by decide +kernel) rfl) (.nil rfl))))) (ca (aj f_heard (hr.mono (by decide)) (ab (ac 0) (ab (ac 1) ag)))) (fun _ _ _ _=>(aW (i:=0) (show List.Nodup (α:=Str) ["number","words","person","day","book"] by decide +kernel) rfl (Or.inl rfl))) (bN (by decide)) (fun _ _ _ _=>(eZ (gu (aj f_tells (hr.mono (by decide)) (ab (a7 (ac 4) (ac 0)) (ab (ac 1) (ab (ac 2) (ab (ac 3) ag)))))))) (fun _ _ _ _=>(ac 0))))))
abbrev qB : Stmt:=top 17
theorem tp : FnScope ["book","known","person","day"] ["book","known","person","day"] (au qB):=by refine ⟨rfl,rfl,rfl, ?_,rfl, ?_, ?_⟩ <;> decide +kernel
theorem zr (T : Tx K w.params mg) (F : Def K "lives" qB) (KX : K.In h) (G : h.Ns mainGlobals mg) (f_told_of : Fn P w K mg base 5 "told_of" cC) : Fn P w K mg base 6 "lives" fZ :=
 F.fn (k:=5) KX G tp (fun _ _ _ _ _ _ us hl=>match us,hl with | [_,_,_,_],_=>rfl) fun f cdv A outer s H E hr =>
  have hu:=bZ hr
  have nd:=tp.nd
  (show JSs _ _ vQ from
   (aw (aH (cm (cW hu) (bF f7 T.n_len f8 (ab (aj f_told_of (hr.mono (by decide)) (ab (ac 0) (ab (ac 1) (ab (aY (ab az ag)) (ab (ac 2) (ab (ac 3) ag)))))) ag)) ao))))
abbrev iV : Stmt:=top 18
theorem kW : FnScope ["book","known","person","day","told"] ["book","known","person","day"] (au iV):=by refine ⟨rfl,rfl,rfl, ?_,rfl, ?_, ?_⟩ <;> decide +kernel
theorem tq (T : Tx K w.params mg) (F : Def K "has_seal" iV) (KX : K.In h) (G : h.Ns mainGlobals mg) (f_word_of : Fn P w K mg base 1 "word_of" aD) (f_rank : Fn P w K mg base 4 "rank" cN) (f_told_of : Fn P w K mg base 5 "told_of" cC) (l_has_seal : pW K "has_seal") : Fn P w K mg base 8 "has_seal" ga :=
 F.fnL (k:=7) KX G kW (fun _ _ _ _ _ _ us hl=>match us,hl with | [_,_,_,_],_=>rfl) fun f cdv A outer s H E hcd hr =>
  have hu:=bZ hr
  have nd:=kW.nd
  (show JSs _ _ mt from
   (aq (aF (i:=4) nd (aj f_told_of (hr.mono (by decide)) (ab (ac 0) (ab (ac 1) (ab (aY (ab az (ab az ag))) (ab (ac 2) (ab (ac 3) ag)))))))
   (aq (cr (aO (cW hu) (bF f7 T.n_len f8 (ab (ac 4) ag)) ao) (aw (aH kD)) bO)
   (aw (aH (cm (cW hu) (aj f_word_of (hr.mono (by decide)) (ab (a7 (ac 0) (vG T.n_max (ac 4) (uo (cap:=[0]) (N':=["number","book"]) (by decide +kernel) l_has_seal hcd rfl rfl (y7 (by decide +kernel) rfl rfl rfl rfl rfl) rfl (.cons rfl rfl (Or.inl rfl) rfl (bv (by decide +kernel) rfl) (.nil rfl)) rfl hr.in1 (fun _ _ _ _=>rfl) fun _ _ _ _ hr=>have hu:=bZ hr; (aj f_rank (hr.mono (by decide)) (ab (ac 1) (ab (ac 0) ag)))) hr)) ag)) az))))))
abbrev iW : Stmt:=top 19
theorem kX : FnScope ["book","known","number","sealer","day"] ["book","known","number"] (au iW):=by refine ⟨rfl,rfl,rfl, ?_,rfl, ?_, ?_⟩ <;> decide +kernel
theorem tu (T : Tx K w.params mg) (F : Def K "is_sound" iW) (KX : K.In h) (G : h.Ns mainGlobals mg) (f_word_of : Fn P w K mg base 1 "word_of" aD) (f_part_of : Fn P w K mg base 2 "part_of" am) (f_day_of : Fn P w K mg base 3 "day_of" aL) (f_is_known : Fn P w K mg base 1 "is_known" eB) (f_lives : Fn P w K mg base 6 "lives" fZ) (f_has_seal : Fn P w K mg base 8 "has_seal" ga) : Fn P w K mg base 9 "is_sound" gb :=
 F.fn (k:=8) KX G kX (fun _ _ _ _ _ _ us hl=>match us,hl with | [_,_,_],_=>rfl) fun f cdv A outer s H E hr =>
  have hu:=bZ hr
  have nd:=kX.nd
  (show JSs _ _ mv from
   (aq (cr (jJ (lG (pE (gu (aj f_is_known (hr.mono (by decide)) (ab (ac 0) (ab (ac 1) (ab (ac 2) ag)))))) (jI (aO lM (aj f_word_of (hr.mono (by decide)) (ab (a7 (ac 0) (ac 2)) ag)) (xY T.k_SEALINGS))))) (aw (aH kD)) bO)
   (aq (aF (i:=3) nd (aj f_part_of (hr.mono (by decide)) (ab (a7 (ac 0) (ac 2)) (ab az ag))))
   (aq (aF (i:=4) nd (aj f_day_of (hr.mono (by decide)) (ab (a7 (ac 0) (ac 2)) ag)))
   (aw (aH (gv (aj f_lives (hr.mono (by decide)) (ab (ac 0) (ab (ac 1) (ab (ac 3) (ab (ac 4) ag))))) (gw (aj f_has_seal (hr.mono (by decide)) (ab (ac 0) (ab (ac 1) (ab (ac 3) (ab (ac 4) ag)))))))))))))
abbrev kx : Stmt:=top 1
theorem ng : FnScope ["day","stretch"] ["day","stretch"] (au kx):=by refine ⟨rfl,rfl,rfl, ?_,rfl, ?_, ?_⟩ <;> decide +kernel
theorem uM (T : Tx K w.params mg) (F : Def K "lies_in" kx) (KX : K.In h) (G : h.Ns mainGlobals mg)  : Fn P w K mg base 1 "lies_in" gZ :=
 F.fn (k:=0) KX G ng (fun _ _ _ _ _ _ us hl=>match us,hl with | [_,_],_=>rfl) fun f cdv A outer s H E hr =>
  have hu:=bZ hr
  have nd:=ng.nd
  (show JSs _ _ oJ from
   (aw (aH (gv (cm oe (a7 (ac 1) ao) (ac 0)) (gw (xV (cm Ad (a7 (ac 1) ao) dU) (gw (cm lK (ac 0) (a7 (ac 1) ao)))))))))
abbrev iX : Stmt:=top 21
theorem kY : FnScope ["claim","day"] ["claim","day"] (au iX):=by refine ⟨rfl,rfl,rfl, ?_,rfl, ?_, ?_⟩ <;> decide +kernel
theorem tw (T : Tx K w.params mg) (F : Def K "is_alive" iX) (KX : K.In h) (G : h.Ns mainGlobals mg) (f_lies_in : Fn P w K mg base 1 "lies_in" gZ) : Fn P w K mg base 2 "is_alive" bp :=
 F.fn (k:=1) KX G kY (fun _ _ _ _ _ _ us hl=>match us,hl with | [_,_],_=>rfl) fun f cdv A outer s H E hr =>
  have hu:=bZ hr
  have nd:=kY.nd
  (show JSs _ _ mw from
   (aw (aH (aj f_lies_in (hr.mono (by decide)) (ab (ac 1) (ab (aY (ab (a7 (ac 0) ao) (ab (a7 (ac 0) ao) ag))) ag))))))
abbrev iY : Stmt:=top 22
theorem kZ : FnScope ["claim"] ["claim"] (au iY):=by refine ⟨rfl,rfl,rfl, ?_,rfl, ?_, ?_⟩ <;> decide +kernel
theorem tz (T : Tx K w.params mg) (F : Def K "by_since" iY) (KX : K.In h) (G : h.Ns mainGlobals mg)  : Fn P w K mg base 1 "by_since" bA :=
 F.fn (k:=0) KX G kZ (fun _ _ _ _ _ _ us hl=>match us,hl with | [_],_=>rfl) fun f cdv A outer s H E hr =>
  have hu:=bZ hr
  have nd:=kZ.nd
  (show JSs _ _ m4 from
   (aw (aH (aY (ab (a7 (ac 0) ao) (ab (a7 (ac 0) ao) ag))))))
abbrev iZ : Stmt:=top 24
theorem la : FnScope ["alive","rule"] ["alive","rule"] (au iZ):=by refine ⟨rfl,rfl,rfl, ?_,rfl, ?_, ?_⟩ <;> decide +kernel
theorem t4 (T : Tx K w.params mg) (F : Def K "chief_of" iZ) (KX : K.In h) (G : h.Ns mainGlobals mg) (f_by_since : Fn P w K mg base 1 "by_since" bA) : Fn P w K mg base 5 "chief_of" gc :=
 F.fn (k:=4) KX G la (fun _ _ _ _ _ _ us hl=>match us,hl with | [_,_],_=>rfl) fun f cdv A outer s H E hr =>
  have hu:=bZ hr
  have nd:=la.nd
  (show JSs _ _ m6 from
   (aq (cr (aO (cW hu) (ac 1) az) (aw (aH (a7 (vG T.n_max (ac 0) (vF f_by_since (hr.in1.mono (by decide)) rfl) hr) ao))) bO)
   (aw (aH (a7 (pZ T.n_min (ac 0) (vF f_by_since (hr.in1.mono (by decide)) rfl) hr) ao)))))
abbrev gM : Stmt:=top 25
theorem j9 : FnScope ["claimed","root","day","alive","people","person","oldest"] ["claimed","root","day"] (au gM):=by refine ⟨rfl,rfl,rfl, ?_,rfl, ?_, ?_⟩ <;> decide +kernel
theorem qC (T : Tx K w.params mg) (F : Def K "holder_by" gM) (KX : K.In h) (G : h.Ns mainGlobals mg) (f_part_of : Fn P w K mg base 2 "part_of" am) (f_is_alive : Fn P w K mg base 2 "is_alive" bp) (f_by_since : Fn P w K mg base 1 "by_since" bA) (f_chief_of : Fn P w K mg base 5 "chief_of" gc) : Fn P w K mg base 6 "holder_by" bX :=
 F.fn (k:=5) KX G j9 (fun _ _ _ _ _ _ us hl=>match us,hl with | [_,_,_],_=>rfl) fun f cdv A outer s H E hr =>
  have hu:=bZ hr
  have nd:=j9.nd
  (show JSs _ _ kI from
   (aq (fR (i:=3) rfl nd rfl rfl rfl (nT:=1) (cap:=[2,1]) (N':=["claim","day","root"]) (cM (by decide +kernel) rfl (by decide +kernel) rfl) (.cons rfl rfl (Or.inl rfl) (Or.inl rfl) (bv (by decide +kernel) rfl) (.cons rfl rfl (Or.inl rfl) (Or.inl rfl) (bv (by decide +kernel) rfl) (.nil rfl))) (ca (ac 0)) (fun _ _ _ _=>(aW (i:=0) (show List.Nodup (α:=Str) ["claim","day","root"] by decide +kernel) rfl (Or.inl rfl))) (bN (by decide)) (fun _ _ _ _=>(eZ (jJ (iC (aO (cW hu) (a7 (ac 0) ao) (aj f_part_of (hr.mono (by decide)) (ab (ac 2) (ab az ag)))) (fS (gu (aj f_is_alive (hr.mono (by decide)) (ab (ac 0) (ab (ac 1) ag))))))))) (fun _ _ _ _=>(ac 0)))
   (aq (aF (i:=4) nd (iI rfl T.n_sorted T.n_set (eJ rfl (nT:=1) (cap:=[]) (N':=["claim"]) (cM (by decide +kernel) rfl (by decide +kernel) rfl) (.nil rfl) (ca (ac 3)) (fun _ _ _ _=>(aW (i:=0) (show List.Nodup (α:=Str) ["claim"] by decide +kernel) rfl (Or.inl rfl))) (bN (by decide)) (fun _ _ _ _=>lE) (fun _ _ _ _=>(a7 (ac 0) ao)))))
   (aq (cr (aO (cW hu) (bF f7 T.n_len f8 (ab (ac 4) ag)) ao) (aw (aH (aY (ab az ag)))) bO)
   (aq (cr (jJ (iC (aO DM (bF f7 T.n_len f8 (ab (ac 4) ag)) ao) (fS (aO (cW hu) (aj f_part_of (hr.mono (by decide)) (ab (ac 1) (ab az ag))) az)))) (aw (aH (aY (ab az (ab (ac 4) ag))))) bO)
   (aq (aF (i:=5) nd (aj f_chief_of (hr.mono (by decide)) (ab (ac 3) (ab (aj f_part_of (hr.mono (by decide)) (ab (ac 1) (ab az ag))) ag))))
   (aq (aF (i:=6) nd (pZ T.n_min (eJ rfl (nT:=1) (cap:=[5]) (N':=["claim","person"]) (cM (by decide +kernel) rfl (by decide +kernel) rfl) (.cons rfl rfl (Or.inl rfl) (Or.inl rfl) (bv (by decide +kernel) rfl) (.nil rfl)) (ca (ac 3)) (fun _ _ _ _=>(aW (i:=0) (show List.Nodup (α:=Str) ["claim","person"] by decide +kernel) rfl (Or.inl rfl))) (bN (by decide)) (fun _ _ _ _=>(eZ (aO (cW hu) (a7 (ac 0) ao) (ac 1)))) (fun _ _ _ _=>(ac 0))) (vF f_by_since (hr.in1.mono (by decide)) rfl) hr))
   (aw (aH (aY (ab az (ab (ac 5) (ab (a7 (ac 6) ao) ag)))))))))))))
abbrev gf : Stmt:=top 26
theorem iA : FnScope ["claimed","root","person","day"] ["claimed","root","person","day"] (au gf):=by refine ⟨rfl,rfl,rfl, ?_,rfl, ?_, ?_⟩ <;> decide +kernel
theorem nI (T : Tx K w.params mg) (F : Def K "is_held_by" gf) (KX : K.In h) (G : h.Ns mainGlobals mg) (f_holder_by : Fn P w K mg base 6 "holder_by" bX) : Fn P w K mg base 7 "is_held_by" da :=
 F.fn (k:=6) KX G iA (fun _ _ _ _ _ _ us hl=>match us,hl with | [_,_,_,_],_=>rfl) fun f cdv A outer s H E hr =>
  have hu:=bZ hr
  have nd:=iA.nd
  (show JSs _ _ jv from
   (aw (aH (cm (cW hu) (dY (aj f_holder_by (hr.mono (by decide)) (ab (ac 0) (ab (ac 1) (ab (ac 3) ag)))) gS (eK ao)) (aY (ab az (ab (ac 2) ag)))))))
abbrev d3 : Stmt:=top 27
theorem eW : FnScope ["book","known","number","row","deaths"] ["book","known","number"] (au d3):=by refine ⟨rfl,rfl,rfl, ?_,rfl, ?_, ?_⟩ <;> decide +kernel
theorem jA (T : Tx K w.params mg) (F : Def K "is_first_death" d3) (KX : K.In h) (G : h.Ns mainGlobals mg) (f_part_of : Fn P w K mg base 2 "part_of" am) (f_day_of : Fn P w K mg base 3 "day_of" aL) (f_rank : Fn P w K mg base 4 "rank" cN) (f_told_of : Fn P w K mg base 5 "told_of" cC) (l_is_first_death : pW K "is_first_death") : Fn P w K mg base 8 "is_first_death" cD :=
 F.fnL (k:=7) KX G eW (fun _ _ _ _ _ _ us hl=>match us,hl with | [_,_,_],_=>rfl) fun f cdv A outer s H E hcd hr =>
  have hu:=bZ hr
  have nd:=eW.nd
  (show JSs _ _ fK from
   (aq (aF (i:=3) nd (a7 (ac 0) (ac 2)))
   (aq (aF (i:=4) nd (aj f_told_of (hr.mono (by decide)) (ab (ac 0) (ab (ac 1) (ab (aY (ab az ag)) (ab (aj f_part_of (hr.mono (by decide)) (ab (ac 3) (ab az ag))) (ab (aj f_day_of (hr.mono (by decide)) (ab (ac 3) ag)) ag)))))))
   (aw (aH (cm (cW hu) (pZ T.n_min (ac 4) (uo (cap:=[0]) (N':=["each","book"]) (by decide +kernel) l_is_first_death hcd rfl rfl (y7 (by decide +kernel) rfl rfl rfl rfl rfl) rfl (.cons rfl rfl (Or.inl rfl) rfl (bv (by decide +kernel) rfl) (.nil rfl)) rfl hr.in1 (fun _ _ _ _=>rfl) fun _ _ _ _ hr=>have hu:=bZ hr; (aj f_rank (hr.mono (by decide)) (ab (ac 1) (ab (ac 0) ag)))) hr) (ac 2)))))))
abbrev ni : Stmt:=top 28
theorem pe : FnScope ["book","known","so_far","number","row","root"] ["book","known","so_far","number"] (au ni):=by refine ⟨rfl,rfl,rfl, ?_,rfl, ?_, ?_⟩ <;> decide +kernel
theorem xg (T : Tx K w.params mg) (F : Def K "counts" ni) (KX : K.In h) (G : h.Ns mainGlobals mg) (f_word_of : Fn P w K mg base 1 "word_of" aD) (f_part_of : Fn P w K mg base 2 "part_of" am) (f_day_of : Fn P w K mg base 3 "day_of" aL) (f_roots : Fn P w K mg base 3 "roots" eQ) (f_is_sound : Fn P w K mg base 9 "is_sound" gb) (f_is_held_by : Fn P w K mg base 7 "is_held_by" da) (f_is_first_death : Fn P w K mg base 8 "is_first_death" cD) : Fn P w K mg base 10 "counts" gE :=
 F.fn (k:=9) KX G pe (fun _ _ _ _ _ _ us hl=>match us,hl with | [_,_,_,_],_=>rfl) fun f cdv A outer s H E hr =>
  have hu:=bZ hr
  have nd:=pe.nd
  (show JSs _ _ sy from
   (aq (aF (i:=4) nd (a7 (ac 0) (ac 3)))
   (aq (cr (aO (cW hu) (aj f_word_of (hr.mono (by decide)) (ab (ac 4) ag)) az) (aw (aH (aj f_is_first_death (hr.mono (by decide)) (ab (ac 0) (ab (ac 1) (ab (ac 3) ag)))))) bO)
   (aq (cr (aO lM (aj f_word_of (hr.mono (by decide)) (ab (ac 4) ag)) (aY (ab az (ab az (ab az ag))))) (aw (aH kD)) bO)
   (aq (aF (i:=5) nd (sn (hu1 hu) (aj f_roots (hr.mono (by decide)) (ab (ac 0) (ab (ac 1) ag))) (aj f_part_of (hr.mono (by decide)) (ab (ac 4) (ab az ag))) ⟨rfl,rfl,rfl,rfl⟩))
   (aq (cr (aO Ad (ac 5) dU) (aw (aH kD)) bO)
   (aq (cr (aO (cW hu) (aj f_word_of (hr.mono (by decide)) (ab (ac 4) ag)) az) (aw (aH kD)) bO)
   (aw (aH (gv (aj f_is_sound (hr.mono (by decide)) (ab (ac 0) (ab (ac 1) (ab (ac 3) ag)))) (gw (aj f_is_held_by (hr.mono (by decide)) (ab (ac 2) (ab (ac 5) (ab (aj f_part_of (hr.mono (by decide)) (ab (ac 4) (ab az ag))) (ab (aj f_day_of (hr.mono (by decide)) (ab (ac 4) ag)) ag))))))))))))))))
abbrev gN : Stmt:=top 29
theorem jB : FnScope ["row","since","number"] ["row","since","number"] (au gN):=by refine ⟨rfl,rfl,rfl, ?_,rfl, ?_, ?_⟩ <;> decide +kernel
theorem qD (T : Tx K w.params mg) (F : Def K "new_claim" gN) (KX : K.In h) (G : h.Ns mainGlobals mg) (f_part_of : Fn P w K mg base 2 "part_of" am) : Fn P w K mg base 3 "new_claim" c8 :=
 F.fn (k:=2) KX G jB (fun _ _ _ _ _ _ us hl=>match us,hl with | [_,_,_],_=>rfl) fun f cdv A outer s H E hr =>
  have hu:=bZ hr
  have nd:=jB.nd
  (show JSs _ _ kJ from
   (aw (aH (aY (ab (aj f_part_of (hr.mono (by decide)) (ab (ac 0) (ab az ag))) (ab (aj f_part_of (hr.mono (by decide)) (ab (ac 0) (ab az ag))) (ab (ac 1) (ab dU (ab (ac 2) ag)))))))))
abbrev qE : Stmt:=top 30
theorem t6 : FnScope ["so_far","offices","person","day","left","claim"] ["so_far","offices","person","day"] (au qE):=by refine ⟨rfl,rfl,rfl, ?_,rfl, ?_, ?_⟩ <;> decide +kernel
theorem zu (T : Tx K w.params mg) (F : Def K "ended" qE) (KX : K.In h) (G : h.Ns mainGlobals mg) (f_is_alive : Fn P w K mg base 2 "is_alive" bp) : Fn P w K mg base 3 "ended" hU :=
 F.fn (k:=2) KX G t6 (fun _ _ _ _ _ _ us hl=>match us,hl with | [_,_,_,_],_=>rfl) fun f cdv A outer s H E hr =>
  have hu:=bZ hr
  have nd:=t6.nd
  (show JSs _ _ vR from
   (aq (aF (i:=4) nd (cz ag))
   (aq (lJ PassesOwn.never rfl (ca (ac 0)) (aW (i:=5) nd rfl (Or.inl rfl)) dR (aw (cr (jJ (lG (aO lM (a7 (ac 5) ao) (ac 1)) (lG (aO (tU hu) (a7 (ac 5) ao) (ac 2)) (jI (pE (jJ (lG (gu (aj f_is_alive (hr.mono (by decide)) (ab (ac 5) (ab (ac 3) ag)))) (jI (aO DM (a7 (ac 5) ao) (ac 3)))))))))) (aw (iD (i:=4) (ac 5))) (aw (cr (aO lK (a7 (ac 5) ao) (ac 3)) (aw (iD (i:=4) (aY (ab (a7 (ac 5) ao) (ab (ac 2) (ab (a7 (ac 5) ao) (ab (ac 3) (ab (a7 (ac 5) ao) ag)))))))) bO)))))
   (aw (ji 4)))))
abbrev eD : Stmt:=top 31
theorem gk : FnScope ["so_far","row","number","since","left"] ["so_far","row","number"] (au eD):=by refine ⟨rfl,rfl,rfl, ?_,rfl, ?_, ?_⟩ <;> decide +kernel
theorem ls (T : Tx K w.params mg) (F : Def K "after_choice" eD) (KX : K.In h) (G : h.Ns mainGlobals mg) (f_part_of : Fn P w K mg base 2 "part_of" am) (f_new_claim : Fn P w K mg base 3 "new_claim" c8) (f_ended : Fn P w K mg base 3 "ended" hU) : Fn P w K mg base 4 "after_choice" dc :=
 F.fn (k:=3) KX G gk (fun _ _ _ _ _ _ us hl=>match us,hl with | [_,_,_],_=>rfl) fun f cdv A outer s H E hr =>
  have hu:=bZ hr
  have nd:=gk.nd
  (show JSs _ _ gF from
   (aq (aF (i:=3) nd (aj f_part_of (hr.mono (by decide)) (ab (ac 1) (ab az ag))))
   (aq (aF (i:=4) nd (aj f_ended (hr.mono (by decide)) (ab (ac 0) (ab (cz (ab (aj f_part_of (hr.mono (by decide)) (ab (ac 1) (ab az ag))) ag)) (ab (aj f_part_of (hr.mono (by decide)) (ab (ac 1) (ab az ag))) (ab (ac 3) ag))))))
   (aw (aH (aV bP (ac 4) (cz (ab (aj f_new_claim (hr.mono (by decide)) (ab (ac 1) (ab (ac 3) (ab (ac 2) ag)))) ag))))))))
abbrev gO : Stmt:=top 32
theorem jC : FnScope ["book","known","so_far","heirs","number","person","day","told","office","heir"] ["book","known","so_far","heirs","number"] (au gO):=by refine ⟨rfl,rfl,rfl, ?_,rfl, ?_, ?_⟩ <;> decide +kernel
theorem qF (T : Tx K w.params mg) (F : Def K "inherited" gO) (KX : K.In h) (G : h.Ns mainGlobals mg) (f_part_of : Fn P w K mg base 2 "part_of" am) (f_day_of : Fn P w K mg base 3 "day_of" aL) (f_lives : Fn P w K mg base 6 "lives" fZ) (f_is_alive : Fn P w K mg base 2 "is_alive" bp) : Fn P w K mg base 7 "inherited" eR :=
 F.fn (k:=6) KX G jC (fun _ _ _ _ _ _ us hl=>match us,hl with | [_,_,_,_,_],_=>rfl) fun f cdv A outer s H E hr =>
  have hu:=bZ hr
  have nd:=jC.nd
  (show JSs _ _ kK from
   (aq (aF (i:=5) nd (aj f_part_of (hr.mono (by decide)) (ab (a7 (ac 0) (ac 4)) (ab az ag))))
   (aq (aF (i:=6) nd (aj f_day_of (hr.mono (by decide)) (ab (a7 (ac 0) (ac 4)) ag)))
   (aq (aF (i:=7) nd (cz ag))
   (aq (DX [5,6] (lJ PassesOwn.never rfl (ca (iI rfl T.n_sorted T.n_set (eJ rfl (nT:=1) (cap:=[5,6]) (N':=["claim","person","day"]) (cM (by decide +kernel) rfl (by decide +kernel) rfl) (.cons rfl rfl (Or.inl rfl) (Or.inl rfl) (bv (by decide +kernel) rfl) (.cons rfl rfl (Or.inl rfl) (Or.inl rfl) (bv (by decide +kernel) rfl) (.nil rfl))) (ca (ac 2)) (fun _ _ _ _=>(aW (i:=0) (show List.Nodup (α:=Str) ["claim","person","day"] by decide +kernel) rfl (Or.inl rfl))) (bN (by decide)) (fun _ _ _ _=>(eZ (jJ (iC (aO (cW hu) (a7 (ac 0) ao) (ac 1)) (fS (gu (aj f_is_alive (hr.mono (by decide)) (ab (ac 0) (ab (ac 2) ag))))))))) (fun _ _ _ _=>(a7 (ac 0) ao))))) (aW (i:=8) nd rfl (Or.inl rfl)) dR (aq (aF (i:=9) nd (yI (hu1 hu) (ac 3) (ab (ac 8) (ab (ac 5) ag)) ⟨rfl,rfl,rfl,rfl⟩))
   (aw (cr (jJ (iC (aO vj (ac 9) dU) (fS (gu (aj f_lives (hr.mono (by decide)) (ab (ac 0) (ab (ac 1) (ab (ac 9) (ab (ac 6) ag))))))))) (aw (iD (i:=7) (aY (ab (ac 8) (ab (ac 9) (ab (ac 6) (ab dU (ab (ac 4) ag)))))))) bO)))))
   (aw (ji 7)))))))
abbrev fu : Stmt:=top 33
theorem gP : FnScope ["book","known","so_far","heirs","number","offices","left"] ["book","known","so_far","heirs","number"] (au fu):=by refine ⟨rfl,rfl,rfl, ?_,rfl, ?_, ?_⟩ <;> decide +kernel
theorem nj (T : Tx K w.params mg) (F : Def K "after_death" fu) (KX : K.In h) (G : h.Ns mainGlobals mg) (f_part_of : Fn P w K mg base 2 "part_of" am) (f_day_of : Fn P w K mg base 3 "day_of" aL) (f_ended : Fn P w K mg base 3 "ended" hU) (f_inherited : Fn P w K mg base 7 "inherited" eR) : Fn P w K mg base 8 "after_death" d5 :=
 F.fn (k:=7) KX G gP (fun _ _ _ _ _ _ us hl=>match us,hl with | [_,_,_,_,_],_=>rfl) fun f cdv A outer s H E hr =>
  have hu:=bZ hr
  have nd:=gP.nd
  (show JSs _ _ i6 from
   (aq (fR (i:=5) rfl nd rfl rfl rfl (nT:=1) (cap:=[]) (N':=["claim"]) (cM (by decide +kernel) rfl (by decide +kernel) rfl) (.nil rfl) (ca (ac 2)) (fun _ _ _ _=>(aW (i:=0) (show List.Nodup (α:=Str) ["claim"] by decide +kernel) rfl (Or.inl rfl))) (bN (by decide)) (fun _ _ _ _=>lE) (fun _ _ _ _=>(a7 (ac 0) ao)))
   (aq (aF (i:=6) nd (aj f_ended (hr.mono (by decide)) (ab (ac 2) (ab (ac 5) (ab (aj f_part_of (hr.mono (by decide)) (ab (a7 (ac 0) (ac 4)) (ab az ag))) (ab (aj f_day_of (hr.mono (by decide)) (ab (a7 (ac 0) (ac 4)) ag)) ag))))))
   (aw (aH (aV bP (ac 6) (aj f_inherited (hr.mono (by decide)) (ab (ac 0) (ab (ac 1) (ab (ac 2) (ab (ac 3) (ab (ac 4) ag))))))))))))
abbrev nn : Stmt:=top 34
theorem ph : FnScope ["book","known","so_far","heirs","number","row"] ["book","known"] (au nn):=by refine ⟨rfl,rfl,rfl, ?_,rfl, ?_, ?_⟩ <;> decide +kernel
theorem xh (T : Tx K w.params mg) (F : Def K "claims" nn) (KX : K.In h) (G : h.Ns mainGlobals mg) (f_word_of : Fn P w K mg base 1 "word_of" aD) (f_part_of : Fn P w K mg base 2 "part_of" am) (f_day_of : Fn P w K mg base 3 "day_of" aL) (f_in_order : Fn P w K mg base 8 "in_order" du) (f_by_office : Fn P w K mg base 1 "by_office" cQ) (f_counts : Fn P w K mg base 10 "counts" gE) (f_new_claim : Fn P w K mg base 3 "new_claim" c8) (f_after_choice : Fn P w K mg base 4 "after_choice" dc) (f_after_death : Fn P w K mg base 8 "after_death" d5) : Fn P w K mg base 11 "claims" cI :=
 F.fn (k:=10) KX G ph (fun _ _ _ _ _ _ us hl=>match us,hl with | [_,_],_=>rfl) fun f cdv A outer s H E hr =>
  have hu:=bZ hr
  have nd:=ph.nd
  (show JSs _ _ sA from
   (aq (aF (i:=2) nd (cz ag))
   (aq (Av (i:=3) nd)
   (aq (lJ PassesOwn.never rfl (ca (aj f_in_order (hr.mono (by decide)) (ab (ac 0) (ab (ac 1) ag)))) (aW (i:=4) nd rfl (Or.inl rfl)) dR (aq (aF (i:=5) nd (a7 (ac 0) (ac 4)))
   (aq (cr (pE (gu (aj f_counts (hr.mono (by decide)) (ab (ac 0) (ab (ac 1) (ab (ac 2) (ab (ac 4) ag))))))) (aw Ah) bO)
   (aw (cr (aO (cW hu) (aj f_word_of (hr.mono (by decide)) (ab (ac 5) ag)) az) (aw (aF (i:=2) nd (aV bP (ac 2) (cz (ab (aj f_new_claim (hr.mono (by decide)) (ab (ac 5) (ab (aj f_day_of (hr.mono (by decide)) (ab (ac 5) ag)) (ab (ac 4) ag)))) ag))))) (aw (cr (aO (cW hu) (aj f_word_of (hr.mono (by decide)) (ab (ac 5) ag)) az) (aw (aF (i:=2) nd (aj f_after_choice (hr.mono (by decide)) (ab (ac 2) (ab (ac 5) (ab (ac 4) ag)))))) (aw (cr (aO (cW hu) (aj f_word_of (hr.mono (by decide)) (ab (ac 5) ag)) az) (aw (Aw (i:=3) (hu1 hu) (aj f_part_of (hr.mono (by decide)) (ab (ac 5) (ab az ag))) (ab (aj f_part_of (hr.mono (by decide)) (ab (ac 5) (ab az ag))) (ab (aj f_part_of (hr.mono (by decide)) (ab (ac 5) (ab az ag))) ag)))) (aw (aF (i:=2) nd (aj f_after_death (hr.mono (by decide)) (ab (ac 0) (ab (ac 1) (ab (ac 2) (ab (ac 3) (ab (ac 4) ag)))))))))))))))))
   (aw (aH (sk T.n_sorted (ac 2) (vF f_by_office (hr.in1.in1.mono (by decide)) rfl))))))))
abbrev np : Stmt:=top 35
theorem pi : FnScope ["book","known","office","day","root"] ["book","known","office","day"] (au np):=by refine ⟨rfl,rfl,rfl, ?_,rfl, ?_, ?_⟩ <;> decide +kernel
theorem xi (T : Tx K w.params mg) (F : Def K "holder" np) (KX : K.In h) (G : h.Ns mainGlobals mg) (f_roots : Fn P w K mg base 3 "roots" eQ) (f_holder_by : Fn P w K mg base 6 "holder_by" bX) (f_claims : Fn P w K mg base 11 "claims" cI) : Fn P w K mg base 12 "holder" dA :=
 F.fn (k:=11) KX G pi (fun _ _ _ _ _ _ us hl=>match us,hl with | [_,_,_,_],_=>rfl) fun f cdv A outer s H E hr =>
  have hu:=bZ hr
  have nd:=pi.nd
  (show JSs _ _ sC from
   (aq (aF (i:=4) nd (sn (hu1 hu) (aj f_roots (hr.mono (by decide)) (ab (ac 0) (ab (ac 1) ag))) (ac 2) ⟨rfl,rfl,rfl,rfl⟩))
   (aq (cr (aO Ad (ac 4) dU) (aw (aH (aY (ab az ag)))) bO)
   (aw (aH (aj f_holder_by (hr.mono (by decide)) (ab (aj f_claims (hr.mono (by decide)) (ab (ac 0) (ab (ac 1) ag))) (ab (ac 4) (ab (ac 3) ag)))))))))
abbrev gQ : Stmt:=top 37
theorem jD : FnScope ["_law_script","_law_k"] ["_law_script","_law_k"] (au gQ):=by refine ⟨rfl,rfl,rfl, ?_,rfl, ?_, ?_⟩ <;> decide +kernel
theorem qG (T : Tx K w.params mg) (F : Def K "_law_cell_at" gQ) (KX : K.In h) (G : h.Ns mainGlobals mg)  : Fn P w K mg base 1 "_law_cell_at" aR :=
 F.fn (k:=0) KX G jD (fun _ _ _ _ _ _ us hl=>match us,hl with | [_,_],_=>rfl) fun f cdv A outer s H E hr =>
  have hu:=bZ hr
  have nd:=jD.nd
  (show JSs _ _ kL from
   (aq (cr (aO lK (ac 1) (bF f7 T.n_len f8 (ab (ac 0) ag))) (aw (aH (a7 (ac 0) (ac 1)))) bO)
   (aw (aH ao))))
abbrev ky : Stmt:=top 39
theorem nq : FnScope ["_law_cell","_law_many","_law_size","_law_base","_law_at","_law_names_here","_law_k","_law_letter"] ["_law_cell","_law_many"] (au ky):=by refine ⟨rfl,rfl,rfl, ?_,rfl, ?_, ?_⟩ <;> decide +kernel
theorem uN (T : Tx K w.params mg) (F : Def K "_law_names" ky) (KX : K.In h) (G : h.Ns mainGlobals mg)  : Fn P w K mg base 1 "_law_names" hZ :=
 F.fn (k:=0) KX G nq (fun _ _ _ _ _ _ us hl=>match us,hl with | [_,_],_=>rfl) fun f cdv A outer s H E hr =>
  have hu:=bZ hr
  have nd:=nq.nd
  (show JSs _ _ oK from
   (aq (aF (i:=2) nd (aV bP ao (aV dG (ac 0) ao)))
   (aq (aF (i:=3) nd (dY az gS (eK (ac 2))))
   (aq (aF (i:=4) nd (aV dG (aV gy (ac 0) ao) (ac 2)))
   (aq (aF (i:=5) nd (cz ag))
   (aq (uW PassesOwn.never rfl (r9 T.n_range (ac 1)) (aW (i:=6) nd rfl (Or.inl rfl)) dR (aq (aF (i:=7) nd (a7 az (aV dG (aV bP (aV gy (ac 0) ao) (aV xZ ao (ac 6))) ao)))
   (aw (iD (i:=5) (aV bP (aV bP (dY (ac 3) gS (eK (ac 4))) (ac 7)) (dY (ac 3) (eK (aV bP (ac 4) ao)) gS))))))
   (aw (ji 5))))))))
abbrev k6 : Stmt:=top 38
theorem nu : FnScope ["_law_script","_law_first","_law_most","_law_cells_here","_law_number"] ["_law_script","_law_first","_law_most"] (au k6):=by refine ⟨rfl,rfl,rfl, ?_,rfl, ?_, ?_⟩ <;> decide +kernel
theorem uO (T : Tx K w.params mg) (F : Def K "_law_cells" k6) (KX : K.In h) (G : h.Ns mainGlobals mg) (f_w_cell_at : Fn P w K mg base 1 "_law_cell_at" aR) : Fn P w K mg base 2 "_law_cells" fL :=
 F.fn (k:=1) KX G nu (fun _ _ _ _ _ _ us hl=>match us,hl with | [_,_,_],_=>rfl) fun f cdv A outer s H E hr =>
  have hu:=bZ hr
  have nd:=nu.nd
  (show JSs _ _ oM from
   (aq (aF (i:=3) nd (dY (ac 0) (eK (ac 1)) (eK (aV bP (ac 1) (ac 2)))))
   (aq (aF (i:=4) nd (aV dG (aj f_w_cell_at (hr.mono (by decide)) (ab (ac 0) (dO ag))) ao))
   (aq (xX 1000 PassesOwn.never (jJ (iC (aO (cW hu) (aV dG (aV gy (aj f_w_cell_at (hr.mono (by decide)) (ab (ac 0) (dO ag))) ao) ao) ao) (fS (aO lK (bF f7 T.n_len f8 (ab (ac 3) ag)) (ac 2))))) (aq (aF (i:=4) nd (aV dG (aV bP (aV bP (aV xZ (ac 4) ao) (bF f7 T.n_len f8 (ab (ac 3) ag))) ao) ao))
   (aw (iD (i:=3) (ac 4)))))
   (aw (ji 3))))))
abbrev nv : Stmt:=top 40
theorem pj : FnScope ["_law_script","_law_names_here","_law_rows_here","_law_cell","_law_day","_law_one","_law_deed"] ["_law_script","_law_names_here"] (au nv):=by refine ⟨rfl,rfl,rfl, ?_,rfl, ?_, ?_⟩ <;> decide +kernel
theorem xj (T : Tx K w.params mg) (F : Def K "_law_rows" nv) (KX : K.In h) (G : h.Ns mainGlobals mg) (f_w_cells : Fn P w K mg base 2 "_law_cells" fL) : Fn P w K mg base 3 "_law_rows" jw :=
 F.fn (k:=2) KX G pj (fun _ _ _ _ _ _ us hl=>match us,hl with | [_,_],_=>rfl) fun f cdv A outer s H E hr =>
  have hu:=bZ hr
  have nd:=pj.nd
  (show JSs _ _ sD from
   (aq (aF (i:=2) nd (cz ag))
   (aq (lJ PassesOwn.never rfl (ca (aj f_w_cells (hr.mono (by decide)) (ab (ac 0) (dO (dO ag))))) (aW (i:=3) nd rfl (Or.inl rfl)) dR (aq (aF (i:=4) nd (aV dG (aV gy (ac 3) ao) ao))
   (aq (aF (i:=5) nd (a7 (ac 1) (aV dG (aV gy (ac 3) ao) (bF f7 T.n_len f8 (ab (ac 1) ag)))))
   (aq (aF (i:=6) nd (cz (ab (aY (ab az (ab (ac 4) (ab (ac 5) ag)))) (ab (aY (ab az (ab (ac 4) (ab (ac 5) ag)))) (ab (aY (ab az (ab (ac 4) (ab (ac 5) (dO (ab (aY (dO (ab dU ag))) (ab dU (ab (aY (ab az ag)) ag)))))))) ag)))))
   (aq (aF (i:=6) nd (a7 (aV bP (ac 6) (CI (cz (ab (aY (ab az (ab (ac 4) (ab az (ab (ac 5) ag))))) ag)) ao)) (aV dG (ac 3) ao)))
   (aw (iD (i:=2) (aY (ab (aV bP (ac 4) (a7 (cz (dO (dO (dO (dO ag))))) (aV dG (aV gy (ac 3) ao) ao))) (ab (ac 6) ag))))))))))
   (aw (ji 2)))))
abbrev k7 : Stmt:=top 41
theorem nw : FnScope ["_law_some","_law_day","_law_there"] ["_law_some","_law_day"] (au k7):=by refine ⟨rfl,rfl,rfl, ?_,rfl, ?_, ?_⟩ <;> decide +kernel
theorem uP (T : Tx K w.params mg) (F : Def K "_law_alive" k7) (KX : K.In h) (G : h.Ns mainGlobals mg)  : Fn P w K mg base 1 "_law_alive" ia :=
 F.fn (k:=0) KX G nw (fun _ _ _ _ _ _ us hl=>match us,hl with | [_,_],_=>rfl) fun f cdv A outer s H E hr =>
  have hu:=bZ hr
  have nd:=nw.nd
  (show JSs _ _ oN from
   (aq (fR (i:=2) rfl nd rfl rfl rfl (nT:=1) (cap:=[1]) (N':=["_law_one","_law_day"]) (cM (by decide +kernel) rfl (by decide +kernel) rfl) (.cons rfl rfl (Or.inl rfl) (Or.inl rfl) (bv (by decide +kernel) rfl) (.nil rfl)) (ca (ac 0)) (fun _ _ _ _=>(aW (i:=0) (show List.Nodup (α:=Str) ["_law_one","_law_day"] by decide +kernel) rfl (Or.inl rfl))) (bN (by decide)) (fun _ _ _ _=>(eZ (jJ (iC (aO oe (a7 (ac 0) ao) (ac 1)) (fS (jJ (lG (aO Ad (a7 (ac 0) ao) dU) (jI (aO lK (ac 1) (a7 (ac 0) ao)))))))))) (fun _ _ _ _=>(aY (ab (a7 (ac 0) ao) (ab (a7 (ac 0) ao) (ab (a7 (ac 0) ao) ag))))))
   (aw (aH (bF yz T.n_sorted rQ (ab (ac 2) ag))))))
abbrev k8 : Stmt:=top 42
theorem ny : FnScope ["_law_by_rules","_law_there","_law_by_open","_law_by_first","_law_by_last","_law_persons","_law_due","_law_last"] ["_law_by_rules","_law_there"] (au k8):=by refine ⟨rfl,rfl,rfl, ?_,rfl, ?_, ?_⟩ <;> decide +kernel
theorem uQ (T : Tx K w.params mg) (F : Def K "_law_right" k8) (KX : K.In h) (G : h.Ns mainGlobals mg)  : Fn P w K mg base 1 "_law_right" ib :=
 F.fn (k:=0) KX G ny (fun _ _ _ _ _ _ us hl=>match us,hl with | [_,_],_=>rfl) fun f cdv A outer s H E hr =>
  have hu:=bZ hr
  have nd:=ny.nd
  (show JSs _ _ oP from
   (aq (Ai (is:=[2,3,4]) (ac 0) (C7 rfl (dQ (aW (i:=2) nd rfl (Or.inl rfl)) (dQ (aW (i:=3) nd rfl (Or.inl rfl)) (dQ (aW (i:=4) nd rfl (Or.inl rfl)) pv)))))
   (aq (aF (i:=5) nd (iI rfl T.n_sorted T.n_set (eJ rfl (nT:=1) (cap:=[]) (N':=["_law_one"]) (cM (by decide +kernel) rfl (by decide +kernel) rfl) (.nil rfl) (ca (ac 1)) (fun _ _ _ _=>(aW (i:=0) (show List.Nodup (α:=Str) ["_law_one"] by decide +kernel) rfl (Or.inl rfl))) (bN (by decide)) (fun _ _ _ _=>lE) (fun _ _ _ _=>(a7 (ac 0) ao)))))
   (aq (cr (aO lK (bF f7 T.n_len f8 (ab (ac 5) ag)) ao) (aq (aF (i:=6) nd (aY (ab az ag)))
   (aq (cr (aO (cW hu) (bF f7 T.n_len f8 (ab (ac 5) ag)) ao) (aw (aF (i:=6) nd (aY (ab az (ab (a7 (ac 5) ao) (ab (a7 (a7 (ac 1) ao) ao) ag)))))) bO)
   (aw (aH (gv (cm (cW hu) (ac 2) (ac 6)) (gv (cm (cW hu) (ac 3) (ac 6)) (gw (cm (cW hu) (ac 4) (ac 6))))))))) bO)
   (aq (cr (jJ (lG (aO (tU hu) (ac 2) (aY (ab az (ab (ac 5) ag)))) (jI (aO (tU hu) (ac 3) (aY (ab az (ab (a7 (a7 (ac 1) ao) ao) (ab (a7 (a7 (ac 1) ao) ao) ag)))))))) (aw (aH kD)) bO)
   (aq (fR (i:=7) rfl nd rfl rfl rfl (nT:=1) (cap:=[1]) (N':=["_law_one","_law_there"]) (cM (by decide +kernel) rfl (by decide +kernel) rfl) (.cons rfl rfl (Or.inl rfl) (Or.inl rfl) (bv (by decide +kernel) rfl) (.nil rfl)) (ca (ac 1)) (fun _ _ _ _=>(aW (i:=0) (show List.Nodup (α:=Str) ["_law_one","_law_there"] by decide +kernel) rfl (Or.inl rfl))) (bN (by decide)) (fun _ _ _ _=>(eZ (aO (cW hu) (a7 (ac 0) ao) (a7 (a7 (ac 1) (AX Bq ao)) ao)))) (fun _ _ _ _=>(a7 (ac 0) ao)))
   (aw (aH (cm (cW hu) (ac 4) (aY (ab az (ab (a7 (a7 (ac 1) (AX Bq ao)) ao) (ab (a7 (ac 7) ao) ag)))))))))))))
abbrev t7 : Stmt:=top 43
theorem zv : FnScope ["_law_script","_law_names_here","_law_rows_here","_law_at","_law_known","_law_some","_law_rule","_law_told","_law_day","_law_gone","_law_longer","_law_dead","_law_found"] ["_law_script"] (au t7):=by refine ⟨rfl,rfl,rfl, ?_,rfl, ?_, ?_⟩ <;> decide +kernel
theorem CP {P : Program} {w : World} {K : PySem.W.Frag} {mg : Str->Option Value} {base : Heap} (T : Tx K w.params mg) (f_claims : Fn P w K mg base 11 "claims" cI) (f_holder : Fn P w K mg base 12 "holder" dA) (f_w_cell_at : Fn P w K mg base 1 "_law_cell_at" aR) (f_w_names : Fn P w K mg base 1 "_law_names" hZ) (f_w_rows : Fn P w K mg base 3 "_law_rows" jw) (f_w_alive : Fn P w K mg base 1 "_law_alive" ia) (f_w_right : Fn P w K mg base 1 "_law_right" ib) (f : Addr) (cdv : Value) (A : Around) (outer : List PySem.Env) (s : Shared) (H : Hp) (E : XK) (hr : Room 12 (A.deeper (envOfC "law" (au t7) s.heap.objs.size f cdv))) : JSs (l8 CX0 P w K mg base ["_law_script","_law_names_here","_law_rows_here","_law_at","_law_known","_law_some","_law_rule","_law_told","_law_day","_law_gone","_law_longer","_law_dead","_law_found"] "law" (au t7) f cdv A outer s H E).nox (cq t7) yQ :=
  have hu:=bZ hr
  have nd:=zv.nd
  (show JSs _ _ yQ from
   (aq (aF (i:=1) nd (aj f_w_names (hr.mono (by decide)) (ab (aj f_w_cell_at (hr.mono (by decide)) (ab (ac 0) (dO ag))) (ab (aV bP ao (aV dG (aj f_w_cell_at (hr.mono (by decide)) (ab (ac 0) (dO ag))) ao)) ag))))
   (aq (aF (i:=2) nd (aj f_w_rows (hr.mono (by decide)) (ab (ac 0) (ab (ac 1) ag))))
   (aq (aF (i:=3) nd (aV dG (aj f_w_cell_at (hr.mono (by decide)) (ab (ac 0) (dO ag))) (aV bP (bF f7 T.n_len f8 (ab (ac 2) ag)) ao)))
   (aq (aF (i:=4) nd (a7 (cz (dO (ab (aV dG (aV gy (aj f_w_cell_at (hr.mono (by decide)) (ab (ac 0) (dO ag))) ao) ao) ag))) (aV dG (aj f_w_cell_at (hr.mono (by decide)) (ab (ac 0) (dO ag))) ao)))
   (aq (aF (i:=5) nd (cz ag))
   (aq (lJ PassesOwn.never rfl (ca (cz (ab az (ab az (ab az ag))))) (aW (i:=6) nd rfl (Or.inl rfl)) dR (aw (iD (i:=5) (gT vq T.n_tuple vk (ab (aV bP (aV bP (dY (ac 2) gS (eK (ac 3))) (cz (ab (aY (dO (ab (aY (ab az (ab az (dO (dO (ab (ac 6) ag)))))) ag))) ag))) (dY (ac 2) (eK (ac 3)) gS)) ag)))))
   (aq (aF (i:=7) nd (aj f_claims (hr.mono (by decide)) (ab (a7 (ac 5) ao) (ab (ac 4) ag))))
   (aq (cr (jJ (lG (aO (tU hu) (aj f_claims (hr.mono (by decide)) (ab (a7 (ac 5) ao) (ab (ac 4) ag))) (ac 7)) (jI (aO (tU hu) (aj f_claims (hr.mono (by decide)) (ab (a7 (ac 5) ao) (ab (ac 4) ag))) (ac 7))))) (aw (aH kD)) bO)
   (aq (uW PassesOwn.never rfl (r9 T.n_range ao) (aW (i:=8) nd rfl (Or.inr rfl)) dR (aw (cr (pE (gu (aj f_w_right (hr.mono (by decide)) (ab (eJ rfl (nT:=1) (cap:=[4,8]) (N':=["_law_laid","_law_known","_law_day"]) (cM (by decide +kernel) rfl (by decide +kernel) rfl) (.cons rfl rfl (Or.inl rfl) (Or.inl rfl) (bv (by decide +kernel) rfl) (.cons rfl rfl (Or.inl rfl) (Or.inl rfl) (bv (by decide +kernel) rfl) (.nil rfl))) (ca (ac 5)) (fun _ _ _ _=>(aW (i:=0) (show List.Nodup (α:=Str) ["_law_laid","_law_known","_law_day"] by decide +kernel) rfl (Or.inl rfl))) (bN (by decide)) (fun _ _ _ _=>lE) (fun _ _ _ _=>(aj f_holder (hr.mono (by decide)) (ab (ac 0) (ab (ac 1) (ab az (ab (ac 2) ag))))))) (ab (aj f_w_alive (hr.mono (by decide)) (ab (ac 7) (ab (ac 8) ag))) ag))))) (aw (aH kD)) bO)))
   (aq (aF (i:=9) nd (a7 (ac 1) (aV dG (aj f_w_cell_at (hr.mono (by decide)) (ab (ac 0) (dO ag))) (bF f7 T.n_len f8 (ab (ac 1) ag)))))
   (aq (aF (i:=10) nd (gT vq T.n_tuple vk (ab (aV bP (gT C6 T.n_list Cy (ab (a7 (ac 5) ao) ag)) (cz (ab (aY (dO (ab (aY (ab az (dO (ab (ac 9) ag)))) ag))) ag))) ag)))
   (aq (fR (i:=11) rfl nd rfl rfl rfl (nT:=2) (cap:=[9]) (N':=["_law_heard_on","_law_deed","_law_gone"]) (cM (by decide +kernel) rfl (by decide +kernel) rfl) (.cons rfl rfl (Or.inl rfl) (Or.inl rfl) (bv (by decide +kernel) rfl) (.nil rfl)) (ca (ac 2)) (fun _ _ _ _=>(xn rfl (dQ (aW (i:=0) (show List.Nodup (α:=Str) ["_law_heard_on","_law_deed","_law_gone"] by decide +kernel) rfl (Or.inl rfl)) (dQ (aW (i:=1) (show List.Nodup (α:=Str) ["_law_heard_on","_law_deed","_law_gone"] by decide +kernel) rfl (Or.inl rfl)) pv)))) (Bs (by decide)) (fun _ _ _ _=>(eZ (jJ (iC (aO (cW hu) (a7 (ac 1) ao) az) (fS (aO (cW hu) (a7 (ac 1) ao) (ac 2))))))) (fun _ _ _ _=>(ac 1)))
   (aq (aF (i:=12) nd (aj f_holder (hr.mono (by decide)) (ab (ac 10) (dO (ab az (ab (aV bP ao (aV dG (aV gy (aj f_w_cell_at (hr.mono (by decide)) (ab (ac 0) (dO ag))) ao) ao)) ag))))))
   (aw (aH (xV (cm (tU hu) (ac 11) (cz ag)) (xV (cm (cW hu) (a7 (ac 12) ao) az) (gw (cm (tU hu) (a7 (ac 12) ao) (ac 9)))))))))))))))))))))
end
theorem head {P : Program} {w : World} {K : PySem.W.Frag} {h : Heap} {mg : Str->Option Value} {fa : Addr} (X : K.In h) (G : h.Ns mainGlobals mg) (hfa : mg "law" = some (.ref fa))
  (d_word_of : Def K "word_of" km) (d_part_of : Def K "part_of" ko) (d_day_of : Def K "day_of" mV) (d_heard : Def K "heard" qy) (d_rank : Def K "rank" uK) (d_in_order : Def K "in_order" iT) (d_by_office : Def K "by_office" gL) (d_roots : Def K "roots" q8) (d_is_known : Def K "is_known" iU) (d_tells : Def K "tells" qA) (d_told_of : Def K "told_of" kq) (d_lives : Def K "lives" qB) (d_has_seal : Def K "has_seal" iV) (d_is_sound : Def K "is_sound" iW) (d_lies_in : Def K "lies_in" kx) (d_is_alive : Def K "is_alive" iX) (d_by_since : Def K "by_since" iY) (d_chief_of : Def K "chief_of" iZ) (d_holder_by : Def K "holder_by" gM) (d_is_held_by : Def K "is_held_by" gf) (d_is_first_death : Def K "is_first_death" d3) (d_counts : Def K "counts" ni) (d_new_claim : Def K "new_claim" gN) (d_ended : Def K "ended" qE) (d_after_choice : Def K "after_choice" eD) (d_inherited : Def K "inherited" gO) (d_after_death : Def K "after_death" fu) (d_claims : Def K "claims" nn) (d_holder : Def K "holder" np) (d_w_cell_at : Def K "_law_cell_at" gQ) (d_w_names : Def K "_law_names" ky) (d_w_cells : Def K "_law_cells" k6) (d_w_rows : Def K "_law_rows" nv) (d_w_alive : Def K "_law_alive" k7) (d_w_right : Def K "_law_right" k8) (d_law : Def K "law" t7)
  (z_dict : PySem.W.nsIn K mainGlobals "dict" = some none) (z_enumerate : PySem.W.nsIn K mainGlobals "enumerate" = some none) (z_len : PySem.W.nsIn K mainGlobals "len" = some none) (z_list : PySem.W.nsIn K mainGlobals "list" = some none) (z_max : PySem.W.nsIn K mainGlobals "max" = some none) (z_min : PySem.W.nsIn K mainGlobals "min" = some none) (z_range : PySem.W.nsIn K mainGlobals "range" = some none) (z_set : PySem.W.nsIn K mainGlobals "set" = some none) (z_sorted : PySem.W.nsIn K mainGlobals "sorted" = some none) (z_tuple : PySem.W.nsIn K mainGlobals "tuple" = some none)
  (k_PARTS : ∃ d,PySem.W.nsIn K mainGlobals "PARTS" = some (some (.ref d))/\oj K w.params d eP) (k_SEALINGS : ∃ u v,PySem.W.nsIn K mainGlobals "SEALINGS" = some (some u)/\aN v u/\∀ B,Is K B v dq)
  (l_in_order : pW K "in_order") (l_has_seal : pW K "has_seal") (l_is_first_death : pW K "is_first_death") :
  ∃ fd : FuncData,(∀ (s : Shared) (u : Value),BindsTo s fd ⟨[u],[]⟩ [("_law_script",u)])/\∀ base : Heap,K.In base->base.Ns mainGlobals mg->FnOk P w K mg base CX0 13 fa fd ["_law_script"] (spD K F_law):=by
 have T : Tx K w.params mg:=⟨PySem.W.mg_none_of X G z_dict,PySem.W.mg_none_of X G z_enumerate,PySem.W.mg_none_of X G z_len,PySem.W.mg_none_of X G z_list,PySem.W.mg_none_of X G z_max,PySem.W.mg_none_of X G z_min,PySem.W.mg_none_of X G z_range,PySem.W.mg_none_of X G z_set,PySem.W.mg_none_of X G z_sorted,PySem.W.mg_none_of X G z_tuple,(let ⟨d,e,r⟩:=k_PARTS; ⟨d,PySem.W.mg_of X G e,r⟩),(let ⟨u,v,e,r⟩:=k_SEALINGS; ⟨u,v,PySem.W.mg_of X G e,r⟩)⟩
 refine Def.law d_law X G hfa zv (fun _ _ _ _ _ _ u=>rfl) fun base kb nb=>?_
 have f_word_of:=uI (P:=P) (w:=w) (base:=base) T d_word_of X G 
 have f_part_of:=uJ (P:=P) (w:=w) (base:=base) T d_part_of X G f_word_of
 have f_day_of:=xf (P:=P) (w:=w) (base:=base) T d_day_of X G f_word_of f_part_of
 have f_heard:=zo (P:=P) (w:=w) (base:=base) T d_heard X G 
 have f_rank:=AH (P:=P) (w:=w) (base:=base) T d_rank X G f_day_of
 have f_in_order:=sX (P:=P) (w:=w) (base:=base) T d_in_order X G f_day_of f_heard f_rank l_in_order
 have f_by_office:=qz (P:=P) (w:=w) (base:=base) T d_by_office X G 
 have f_roots:=zp (P:=P) (w:=w) (base:=base) T d_roots X G f_word_of f_part_of f_heard
 have f_is_known:=sZ (P:=P) (w:=w) (base:=base) T d_is_known X G 
 have f_tells:=zq (P:=P) (w:=w) (base:=base) T d_tells X G f_word_of f_part_of f_day_of
 have f_told_of:=uL (P:=P) (w:=w) (base:=base) T d_told_of X G f_heard f_tells
 have f_lives:=zr (P:=P) (w:=w) (base:=base) T d_lives X G f_told_of
 have f_has_seal:=tq (P:=P) (w:=w) (base:=base) T d_has_seal X G f_word_of f_rank f_told_of l_has_seal
 have f_is_sound:=tu (P:=P) (w:=w) (base:=base) T d_is_sound X G f_word_of f_part_of f_day_of f_is_known f_lives f_has_seal
 have f_lies_in:=uM (P:=P) (w:=w) (base:=base) T d_lies_in X G 
 have f_is_alive:=tw (P:=P) (w:=w) (base:=base) T d_is_alive X G f_lies_in
 have f_by_since:=tz (P:=P) (w:=w) (base:=base) T d_by_since X G 
 have f_chief_of:=t4 (P:=P) (w:=w) (base:=base) T d_chief_of X G f_by_since
 have f_holder_by:=qC (P:=P) (w:=w) (base:=base) T d_holder_by X G f_part_of f_is_alive f_by_since f_chief_of
 have f_is_held_by:=nI (P:=P) (w:=w) (base:=base) T d_is_held_by X G f_holder_by
 have f_is_first_death:=jA (P:=P) (w:=w) (base:=base) T d_is_first_death X G f_part_of f_day_of f_rank f_told_of l_is_first_death
 have f_counts:=xg (P:=P) (w:=w) (base:=base) T d_counts X G f_word_of f_part_of f_day_of f_roots f_is_sound f_is_held_by f_is_first_death
 have f_new_claim:=qD (P:=P) (w:=w) (base:=base) T d_new_claim X G f_part_of
 have f_ended:=zu (P:=P) (w:=w) (base:=base) T d_ended X G f_is_alive
 have f_after_choice:=ls (P:=P) (w:=w) (base:=base) T d_after_choice X G f_part_of f_new_claim f_ended
 have f_inherited:=qF (P:=P) (w:=w) (base:=base) T d_inherited X G f_part_of f_day_of f_lives f_is_alive
 have f_after_death:=nj (P:=P) (w:=w) (base:=base) T d_after_death X G f_part_of f_day_of f_ended f_inherited
 have f_claims:=xh (P:=P) (w:=w) (base:=base) T d_claims X G f_word_of f_part_of f_day_of f_in_order f_by_office f_counts f_new_claim f_after_choice f_after_death
 have f_holder:=xi (P:=P) (w:=w) (base:=base) T d_holder X G f_roots f_holder_by f_claims
 have f_w_cell_at:=qG (P:=P) (w:=w) (base:=base) T d_w_cell_at X G 
 have f_w_names:=uN (P:=P) (w:=w) (base:=base) T d_w_names X G 
 have f_w_cells:=uO (P:=P) (w:=w) (base:=base) T d_w_cells X G f_w_cell_at
 have f_w_rows:=xj (P:=P) (w:=w) (base:=base) T d_w_rows X G f_w_cells
 have f_w_alive:=uP (P:=P) (w:=w) (base:=base) T d_w_alive X G 
 have f_w_right:=uQ (P:=P) (w:=w) (base:=base) T d_w_right X G 
 exact CP T f_claims f_holder f_w_cell_at f_w_names f_w_rows f_w_alive f_w_right
end Lw
namespace PySem.W.Fast
def tw3009441676383687685:=()
def tw14656677278864494544:=()
def tw4570127614597327232:=()
def tw12588660750374230994:=()
def tw1650491804662756665:=()
def tw14915582184234782781:=()
def tw106323260004848184:=()
def tw526735817114012224:=()
def tw1803492809581529564:=()
def tw1610696531632143930:=()
def tw7804344061305393419:=()
def tw6428058718719980501:=()
def tw7681048096511798851:=()
def tw9139319466127358404:=()
def tw2974531464708664134:=()
def tw5305539120286616534:=()
def tw3489121394739861723:=()
def tw4790236673272515523:=()
def tw10861288792113015611:=()
def tw12151632855132271847:=()
def tw17700136856977581040:=()
def tw2076743780908674537:=()
def tw2428658566980908199:=()
def tw9225497272085281934:=()
def tw4565097250134986140:=()
def tw6929127311369936933:=()
def tw4844112914769146308:=()
def tw29283543210235288:=()
def tw10738301938937776625:=()
def tw17168249831255752941:=()
def tw1780122738473478323:=()
def tw7152965617018385602:=()
def tw2848359930803424640:=()
def tw12704728636440100484:=()
def tw4568528657908524387:=()
def tw810920456757031720:=()
def tw13010957163813873537:=()
def tw6737310808593678536:=()
def tw338836323842098973:=()
def tw7890575944493669155:=()
def tw18278353005504644914:=()
def tw2734225228658941672:=()
def tw6818746315351796449:=()
def tw13538042367019109752:=()
def tw6817883229996574980:=()
def tw10860480358775355075:=()
def tw5531209244424203114:=()
def tw8864221002767585057:=()
def tw4007646191924625227:=()
def tw589126882138508565:=()
def tw988901079818417488:=()
def tw11508406046626576394:=()
def tw139849889333746448:=()
def tw9659843361121881335:=()
def tw18085543028032743305:=()
def tw444039435348376774:=()
def tw6800452393820697013:=()
def tw14614428749773866386:=()
def tw18210465276950066148:=()
def tw16129791263239844449:=()
def tw4233515695402829456:=()
def tw29163497106269668:=()
def tw5524800331163574189:=()
def tw5910744315483514873:=()
def tw2156296926516526015:=()
def tw16294621920609351407:=()
def tw2608005597690731334:=()
def tw10077597188224850029:=()
def tw2425551687775533701:=()
def tw11656482320224854126:=()
def tw3997011488189459089:=()
def tw16591148136672850881:=()
def tw2266979733402224718:=()
def tw7595235587026759007:=()
def tw15838200832228254494:=()
end PySem.W.Fast
open PySem PySem.W PyProof.Rows
set_option maxRecDepth 100000 in
set_option maxHeartbeats 0 in
theorem PySem.Challenge.cw_sealchain_k22_whole_three_rules_holds : PySem.Challenge.rw_sealchain_k22_whole_three_rules.Holds := by
 w_on; o_law; k_head; (case hw => w_witness2)
 k_fill
 refine' DL.walkD (l := PySem.Challenge.rw_sealchain_k22_whole_three_rules) (k := 13) (x := ("_law_script" : PySem.Str)) (f := Lw.F_law) (L := [(("in_order" : PySem.Str), ?t0), (("has_seal" : PySem.Str), ?t1), (("is_first_death" : PySem.Str), ?t2), (("bases_by" : PySem.Str), ?t3)]) rfl rfl ⟨rfl, by decide, by decide⟩ (fun w h Y => PySem.W.km_in_of Y) ?T ?D ?F Lw.law_true
 case T =>
  intro w
  refine' DL.tabs_fit ?h0 ?h1 ?h2 ?h3 ?ap ?nt
  (case h0 => refine' DL.tab_yes ?a ?l ?c ?m ?v; (case a => k_is); (case l => k_is); (case c => exact rfl); (case m => k_is); (case v => exact rfl))
  (case h1 => refine' DL.tab_yes ?a ?l ?c ?m ?v; (case a => k_is); (case l => k_is); (case c => exact rfl); (case m => k_is); (case v => exact rfl))
  (case h2 => refine' DL.tab_yes ?a ?l ?c ?m ?v; (case a => k_is); (case l => k_is); (case c => exact rfl); (case m => k_is); (case v => exact rfl))
  (case h3 => refine' DL.tab_no ?a; (case a => k_is))
  (case ap => decide)
  (case nt => kernel_rfl)
 case D => kernel_rfl
 case F =>
  intro w mg fa h KX G hmg
  refine' Lw.head KX G hmg ?d0 ?d1 ?d2 ?d3 ?d4 ?d5 ?d6 ?d7 ?d8 ?d9 ?d10 ?d11 ?d12 ?d13 ?d14 ?d15 ?d16 ?d17 ?d18 ?d19 ?d20 ?d21 ?d22 ?d23 ?d24 ?d25 ?d26 ?d27 ?d28 ?d29 ?d30 ?d31 ?d32 ?d33 ?d34 ?d35 ?z0 ?z1 ?z2 ?z3 ?z4 ?z5 ?z6 ?z7 ?z8 ?z9 ?k0 ?k1 ?q0 ?q1 ?q2
  iterate 36 (refine' DL.def_mk ?a ?l ?c ?k; (case a => k_is); (case l => k_is); (case c => k_is); (case k => k_is))
  (case z0 => k_is)
  (case z1 => k_is)
  (case z2 => k_is)
  (case z3 => k_is)
  (case z4 => k_is)
  (case z5 => k_is)
  (case z6 => k_is)
  (case z7 => k_is)
  (case z8 => k_is)
  (case z9 => k_is)
  (case k0 => refine' DL.const_dict ?e ?l ?r ?s; (case e => k_is); (case l => k_is); (case r => refine' (DL.CRows.tup rfl ?l0 ?f0 (DL.CRows.tup rfl ?l1 ?f1 (DL.CRows.tup rfl ?l2 ?f2 (DL.CRows.tup rfl ?l3 ?f3 (DL.CRows.tup rfl ?l4 ?f4 (DL.CRows.tup rfl ?l5 ?f5 (DL.CRows.tup rfl ?l6 ?f6 (DL.CRows.tup rfl ?l7 ?f7 (DL.CRows.tup rfl ?l8 ?f8 (DL.CRows.tup rfl ?l9 ?f9 (DL.CRows.tup rfl ?l10 ?f10 (DL.CRows.tup rfl ?l11 ?f11 DL.CRows.nil)))))))))))); (case l0 => k_is); (case f0 => decide +kernel); (case l1 => k_is); (case f1 => decide +kernel); (case l2 => k_is); (case f2 => decide +kernel); (case l3 => k_is); (case f3 => decide +kernel); (case l4 => k_is); (case f4 => decide +kernel); (case l5 => k_is); (case f5 => decide +kernel); (case l6 => k_is); (case f6 => decide +kernel); (case l7 => k_is); (case f7 => decide +kernel); (case l8 => k_is); (case f8 => decide +kernel); (case l9 => k_is); (case f9 => decide +kernel); (case l10 => k_is); (case f10 => decide +kernel); (case l11 => k_is); (case f11 => decide +kernel)); (case s => decide +kernel))
  (case k1 => refine' DL.const_tup ?e ?l ?v; (case e => k_is); (case l => k_is); (case v => decide +kernel))
  (case q0 => refine' DL.lam_mk ?a ?l ?c ?m ?v1 ?v2 ?v3 ?v4 ?v5 ?v6 ?v7; (case a => k_is); (case l => k_is); (case c => exact rfl); (case m => k_is); (case v1 => exact rfl); (case v2 => exact rfl); (case v3 => exact rfl); (case v4 => exact rfl); (case v5 => exact rfl); (case v6 => exact rfl); (case v7 => decide))
  (case q1 => refine' DL.lam_mk ?a ?l ?c ?m ?v1 ?v2 ?v3 ?v4 ?v5 ?v6 ?v7; (case a => k_is); (case l => k_is); (case c => exact rfl); (case m => k_is); (case v1 => exact rfl); (case v2 => exact rfl); (case v3 => exact rfl); (case v4 => exact rfl); (case v5 => exact rfl); (case v6 => exact rfl); (case v7 => decide))
  (case q2 => refine' DL.lam_mk ?a ?l ?c ?m ?v1 ?v2 ?v3 ?v4 ?v5 ?v6 ?v7; (case a => k_is); (case l => k_is); (case c => exact rfl); (case m => k_is); (case v1 => exact rfl); (case v2 => exact rfl); (case v3 => exact rfl); (case v4 => exact rfl); (case v5 => exact rfl); (case v6 => exact rfl); (case v7 => decide))

