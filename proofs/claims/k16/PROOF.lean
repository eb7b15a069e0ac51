import PyProof.Rows.All
import Wide.All
import OpenK.AllK
import Wide.FinOn
import Lean
import PyProof.EqAt
import PyProof.EqKinds
import PyProof.TupleCall
import PySem.Challenge.RW_sealchain_k16_whole_seals_by_what_is_kno
set_option Elab.async false
set_option linter.all false
set_option maxRecDepth 100000
set_option maxHeartbeats 4000000
/-! THE HAND LAYER, for ints, bools, texts, own classes, LISTS and tuples (index, slices, in, append, pop ..), calls, loops. Paste it whole ahead of your own text; what your proof does not reach may be deleted. -/
namespace L2
open PySem PySem.Spec PyProof.Rows

/-- a key: an int or a str -/
abbrev Key := Sum Int Str
def keyIs : Key → Value → Bool
  | .inl k, v => Value.isInt k v
  | .inr x, v => Value.isStrOf x v
def keyH (w : World) : Key → Int
  | .inl k => hashInt k
  | .inr x => hashStr w x
theorem keyIs_shape : ∀ {k : Key} {v : Value}, keyIs k v = true → (∃ i t, k = Sum.inl i ∧ v = Value.int i t) ∨ (∃ x t, k = Sum.inr x ∧ v = Value.str x t)
  | .inl i, v, h => by
    obtain ⟨t, e⟩ := Value.isInt_shape (k := i) (v := v) h
    exact .inl ⟨i, t, rfl, e⟩
  | .inr x, v, h => by
    obtain ⟨t, e⟩ := Value.isStrOf_shape (x := x) (v := v) h
    exact .inr ⟨x, t, rfl, e⟩
theorem key_ll (a b : Int) : decide ((Sum.inl a : Key) = Sum.inl b) = (a == b) := by
  by_cases e : a = b
  · subst e; simp
  · have h : ¬ (Sum.inl a : Key) = Sum.inl b := fun q => e (Sum.inl.inj q)
    rw [decide_eq_false h]
    exact (beq_eq_false_iff_ne.mpr e).symm
theorem key_rr (a b : Str) : decide ((Sum.inr a : Key) = Sum.inr b) = decide (a = b) := by
  by_cases e : a = b
  · subst e; simp
  · have h : ¬ (Sum.inr a : Key) = Sum.inr b := fun q => e (Sum.inr.inj q)
    rw [decide_eq_false h, decide_eq_false e]
theorem key_lr (a : Int) (b : Str) : decide ((Sum.inl a : Key) = Sum.inr b) = false := decide_eq_false (fun q => nomatch q)
theorem key_rl (a : Str) (b : Int) : decide ((Sum.inr a : Key) = Sum.inl b) = false := decide_eq_false (fun q => nomatch q)

def mixKind (prog : Program) (w : World) : PySem.KeyKind prog w Key where
  is := keyIs
  hash := keyH w
  inj := fun v a b ha hb => by
    rcases keyIs_shape ha with ⟨i, t, rfl, rfl⟩ | ⟨x, t, rfl, rfl⟩
    · rcases keyIs_shape hb with ⟨j, u, rfl, e⟩ | ⟨y, u, rfl, e⟩
      · injection e with e1 _; rw [e1]
      · exact nomatch e
    · rcases keyIs_shape hb with ⟨j, u, rfl, e⟩ | ⟨y, u, rfl, e⟩
      · exact nomatch e
      · injection e with e1 _; rw [e1]
  byValue := fun k v h => by
    rcases keyIs_shape h with ⟨i, t, rfl, rfl⟩ | ⟨x, t, rfl, rfl⟩ <;> rfl
  pyHash := fun hv h => by
    rcases keyIs_shape hv with ⟨i, t, rfl, rfl⟩ | ⟨x, t, rfl, rfl⟩
    · exact wpAny_pyHash_int h
    · exact wpAny_pyHash_str h
  eqBool := fun hu hv h => by
    rcases keyIs_shape hu with ⟨i, t, rfl, rfl⟩ | ⟨x, t, rfl, rfl⟩
    · rcases keyIs_shape hv with ⟨j, u, rfl, rfl⟩ | ⟨y, u, rfl, rfl⟩
      · rw [key_ll] at h; exact wpAny_eqBool_int h
      · rw [key_lr] at h; exact SeqAt.EqAt.int_str i t y u _ _ _ _ h
    · rcases keyIs_shape hv with ⟨j, u, rfl, rfl⟩ | ⟨y, u, rfl, rfl⟩
      · rw [key_rl] at h; exact SeqAt.EqAt.str_int x t j u _ _ _ _ h
      · rw [key_rr] at h; exact wpAny_eqBool_str h
  «strs» := fun k x t v h => by
    rcases keyIs_shape h with ⟨i, u, rfl, e⟩ | ⟨y, u, rfl, e⟩
    · exact nomatch e
    · injection e with e1 _
      subst e1
      cases v <;> rfl

end L2

namespace L2
open PySem PySem.Spec PyProof.Rows

/-- a value, without the heap -/
inductive V where
  | non | bl (b : Bool) | int (i : Int) | str (x : Str) | byt (b : Array UInt8) | flt (b : UInt64) | ref (a : Addr) | ty (n : String)
  deriving DecidableEq

def RelV : V → Value → Prop
  | .non, u => u = Value.none
  | .bl b, u => u = Value.bool b
  | .int i, u => ∃ t, u = Value.int i t
  | .str x, u => ∃ t, u = Value.str x t
  | .byt b, u => ∃ t, u = Value.bytes b t
  | .flt b, u => ∃ t, u = Value.float b t
  | .ref a, u => u = Value.ref a
  | .ty n, u => u = Value.type n

abbrev Vals : List V → List Value → Prop := Paired RelV
theorem Vals.length {xs : List V} {us : List Value} (r : Vals xs us) : xs.length = us.length := Paired.length r
theorem Vals.get : ∀ {xs : List V} {us : List Value} {i : Nat} {x : V}, Vals xs us → xs[i]? = some x → ∃ u, us[i]? = some u ∧ RelV x u
  | _, _, _, _, .nil, e => by simp at e
  | _, _, 0, _, .cons r _, e => by simp at e; subst e; exact ⟨_, rfl, r⟩
  | _, _, i + 1, x, .cons _ t, e => by
    obtain ⟨u, h1, h2⟩ := Vals.get (i := i) (x := x) t (by simpa using e)
    exact ⟨u, by simpa using h1, h2⟩
theorem Vals.set {x : V} {u : Value} (r : RelV x u) : ∀ {xs : List V} {us : List Value} (i : Nat), Vals xs us → Vals (xs.set i x) (us.set i u)
  | _, _, _, .nil => .nil
  | _, _, 0, .cons _ t => .cons r t
  | _, _, i + 1, .cons q t => .cons q (Vals.set r i t)
theorem Vals.append : ∀ {xs ys : List V} {us ws : List Value}, Vals xs us → Vals ys ws → Vals (xs ++ ys) (us ++ ws)
  | _, _, _, _, .nil, s => s
  | _, _, _, _, .cons r t, s => .cons r (Vals.append t s)
theorem Vals.take : ∀ {xs : List V} {us : List Value} (n : Nat), Vals xs us → Vals (xs.take n) (us.take n)
  | _, _, 0, _ => .nil
  | _, _, _ + 1, .nil => .nil
  | _, _, n + 1, .cons r t => .cons r (Vals.take n t)
theorem Vals.drop : ∀ {xs : List V} {us : List Value} (n : Nat), Vals xs us → Vals (xs.drop n) (us.drop n)
  | _, _, 0, r => r
  | _, _, _ + 1, .nil => .nil
  | _, _, n + 1, .cons _ t => Vals.drop n t
def RelO : Option V → Option Value → Prop
  | some v, some u => RelV v u
  | none, none => True
  | _, _ => False
def KV {κ : Type} : List (κ × V) → List (κ × Value) → Prop := Paired fun (p : κ × V) (q : κ × Value) => p.1 = q.1 ∧ RelV p.2 q.2

/-- a key of a dict (00_mix): an int or a text -/
def kV : Key → V
  | .inl i => .int i
  | .inr x => .str x

/-- what stands at a tracked address -/
inductive HO where
  /-- a list -/
  | lst (xs : List V)
  /-- a tuple (never changes) -/
  | tup (xs : List V)
  /-- a dict whose keys are ints and texts; one whose keys are tuples of ints and texts (the empty one is both) -/
  | dK (kvs : List (Key × V)) | dT (kvs : List (List Key × V))
  /-- a set of ints: its members, its size -/
  | set (S : Int → Bool) (n : Nat)
  /-- an instance of the class at C, its dict at dx, its attributes -/
  | ins (C dx : Addr) (fs : List (Str × V))
  /-- the dict of the instance at x -/
  | own (x : Addr)
  /-- the dict of an exception -/
  | xd (fs : List (Str × V))
  /-- a bound method, f of x -/
  | met (f x : Addr)
  /-- a range object lo, lo + 1, .. below hi -/
  | rng (lo hi : Int)
  /-- a thing that is known to the object (the script; a dict while a loop walks it): read, never written while it is so -/
  | frz (o : Obj) (u : HO)
  /-- a code object's table -/
  | tbl (q : Str)
  /-- any other thing, by what is true of its one object (a def of one's own: SetO a S n := HO.ext fun h => ..) -/
  | ext (φ : Heap → Prop)

abbrev Hp := Addr → Option HO
def upd (H : Hp) (a : Addr) (o : HO) : Hp := fun b => if b = a then some o else H b
theorem upd_same {H : Hp} {a : Addr} {o : HO} : upd H a o a = some o := by unfold upd; rw [if_pos rfl]
theorem upd_ne {H : Hp} {a b : Addr} {o : HO} (h : b ≠ a) : upd H a o b = H b := by unfold upd; rw [if_neg h]
theorem ne_of_none {H : Hp} {a b : Addr} {o : HO} (h : H a = some o) (h' : H b = none) : a ≠ b := by
  intro e; subst e; rw [h] at h'; cases h'

section
variable (P : Program) (w : World)
def ObjOk (H : Hp) (h : Heap) (a : Addr) : HO → Prop
  | .lst xs => xs.length ≤ sizeLine ∧ ∃ (its : List Value) (n : Nat), Vals xs its ∧ h.get? a = some { cls := .type "list", data := .seq its.toArray n }
  | .tup xs => xs.length ≤ sizeLine ∧ ∃ its : List Value, Vals xs its ∧ IsTup h a its.toArray
  | .dK kvs => kvs.length ≤ sizeLine ∧ (a == sysModules) = false ∧ ∃ vs, KV kvs vs ∧ h.DictOf (mixKind P w) a vs
  | .dT kvs => kvs.length ≤ sizeLine ∧ (a == sysModules) = false ∧ ∃ xs : List (List Key × Addr × Value),
      Paired (fun (p : List Key × V) (q : List Key × Addr × Value) => p.1 = q.1 ∧ H q.2.1 = some (.tup (p.1.map kV)) ∧ RelV p.2 q.2.2) kvs xs ∧
      ∃ o es ep, h.get? a = some o ∧ o.ExactDict ∧ o.data = .dict es ep ∧ es.toList = xs.map (entryOfKey (tupleKind (mixKind P w))) ∧ (xs.map (·.1)).Nodup
  | .set S n => h.SetOf (intKind P w) a S n
  | .ins C dx fs => H dx = some (.own a) ∧ fs.length ≤ 1000 ∧ dx ≠ a ∧ h.get? a = some (PySem.W.instObj C dx) ∧
      ∃ mA, h.Ns1 dx mA ∧ (∀ f, RelO (fs.lookup f) (mA f)) ∧ PySem.Within mA (fs.map (·.1))
  | .own _ => ∃ o, h.get? a = some o
  | .xd fs => ∃ mA, h.Ns1 a mA ∧ ∀ f, RelO (fs.lookup f) (mA f)
  | .rng lo hi => ∃ t u v, h.get? a = some { cls := .type "range", data := .fields #[.int lo t, .int hi u, .int 1 v] }
  | .frz o u => h.get? a = some o ∧ ObjOk H h a u
  | .tbl q => ∃ ps : Array Value, h.get? a = some { cls := .none, data := .fields ps } ∧ TriplesOk ps.toList ∧ ∀ pos cv, codeAmong pos ps.toList = some cv → ∃ (c : Addr) (oc : Obj) (u : HO) (vs : Array Value) (t : Tok), cv = .ref c ∧ H c = some (.frz oc u) ∧ oc.data = .fields vs ∧ vs[1]? = some (.str q t)
  | .met f x => h.get? a = some (PySem.W.methodObj (.ref f) (.ref x))
  | .ext φ => φ h ∧ (∃ o, h.get? a = some o) ∧ ∀ h1 h2 : Heap, φ h1 → (∀ o, h1.get? a = some o → h2.get? a = some o) → φ h2
/-- the abstract heap is held -/
def HOk (H : Hp) (h : Heap) : Prop := ∀ a o, H a = some o → ObjOk P w H h a o
end

section
variable {P : Program} {w : World} {H H' : Hp} {h h' : Heap} {a : Addr} {o : HO}
theorem ObjOk.lt (x : ObjOk P w H h a o) : a < h.objs.size := by
  cases o with
  | lst xs => obtain ⟨_, _, _, _, e⟩ := x; exact Heap.lt_size e
  | tup xs => obtain ⟨_, _, _, p⟩ := x; exact p.lt
  | dK kvs => obtain ⟨_, _, _, _, o, _, _, e, _⟩ := x; exact Heap.lt_size e
  | dT kvs => obtain ⟨_, _, _, _, o, _, _, e, _⟩ := x; exact Heap.lt_size e
  | set S n => obtain ⟨o, _, _, _, e, _⟩ := x; exact Heap.lt_size e
  | ins C dx fs => obtain ⟨_, _, _, e, _⟩ := x; exact Heap.lt_size e
  | own y => obtain ⟨_, e⟩ := x; exact Heap.lt_size e
  | xd fs => obtain ⟨_, ⟨_, _, _, e, _⟩, _⟩ := x; exact Heap.lt_size e
  | rng lo hi => obtain ⟨_, _, _, e⟩ := x; exact Heap.lt_size e
  | frz ob u => obtain ⟨e, _⟩ := x; exact Heap.lt_size e
  | tbl q => obtain ⟨_, e, _⟩ := x; exact Heap.lt_size e
  | met f y => exact Heap.lt_size (show h.get? a = some _ from x)
  | ext φ => obtain ⟨_, ⟨_, e⟩, _⟩ := x; exact Heap.lt_size e
theorem Paired.mapP {α β : Type} {F G : α → β → Prop} : ∀ {l₁ : List α} {l₂ : List β}, Paired F l₁ l₂ → (∀ a b, F a b → G a b) → Paired G l₁ l₂
  | _, _, .nil, _ => .nil
  | _, _, .cons r t, f => .cons (f _ _ r) (Paired.mapP t f)
/-- what an object's description leans on: its own object, its own dict, the tuples -/
theorem ObjOk.stay (x : ObjOk P w H h a o) (k : ∀ b u, (b = a ∨ H b = some (.own a)) → h.get? b = some u → h'.get? b = some u)
    (ho : ∀ b, H b = some (.own a) → H' b = some (.own a)) (ht : ∀ b xs, H b = some (.tup xs) → H' b = some (.tup xs)) (hf : ∀ b o u, H b = some (.frz o u) → H' b = some (.frz o u)) : ObjOk P w H' h' a o := by
  induction o with
  | lst xs => obtain ⟨z, its, n, r, e⟩ := x; exact ⟨z, its, n, r, k _ _ (.inl rfl) e⟩
  | tup xs => obtain ⟨z, its, r, ob, e, c⟩ := x; exact ⟨z, its, r, ob, k _ _ (.inl rfl) e, c⟩
  | dK kvs => obtain ⟨z, y, vs, r, ob, es, ep, e, c⟩ := x; exact ⟨z, y, vs, r, ob, es, ep, k _ _ (.inl rfl) e, c⟩
  | dT kvs =>
    obtain ⟨z, y, xs, r, ob, es, ep, e, c⟩ := x
    exact ⟨z, y, xs, Paired.mapP r fun p q z => ⟨z.1, ht _ _ z.2.1, z.2.2⟩, ob, es, ep, k _ _ (.inl rfl) e, c⟩
  | set S n => obtain ⟨ob, es, ep, t, e, c⟩ := x; exact ⟨ob, es, ep, t, k _ _ (.inl rfl) e, c⟩
  | ins C dx fs =>
    obtain ⟨d, z, ne, e, mA, ⟨od, es, ep, e2, c⟩, r⟩ := x
    exact ⟨ho _ d, z, ne, k _ _ (.inl rfl) e, mA, ⟨od, es, ep, k _ _ (.inr d) e2, c⟩, r⟩
  | own y => obtain ⟨ob, e⟩ := x; exact ⟨ob, k _ _ (.inl rfl) e⟩
  | xd fs => obtain ⟨mA, ⟨od, es, ep, e, c⟩, r⟩ := x; exact ⟨mA, ⟨od, es, ep, k _ _ (.inl rfl) e, c⟩, r⟩
  | rng lo hi => obtain ⟨t, u, v, e⟩ := x; exact ⟨t, u, v, k _ _ (.inl rfl) e⟩
  | frz ob u ih => obtain ⟨e, q⟩ := x; exact ⟨k _ _ (.inl rfl) e, ih q⟩
  | tbl q => obtain ⟨ps, e, t, c⟩ := x; exact ⟨ps, k a _ (.inl rfl) e, t, fun pos cv z => let ⟨d, oc, u, vs, tk, z1, z2, z3⟩ := c pos cv z; ⟨d, oc, u, vs, tk, z1, hf _ _ _ z2, z3⟩⟩
  | met f y =>
    have e : h.get? a = some (PySem.W.methodObj (.ref f) (.ref y)) := x
    show h'.get? a = some (PySem.W.methodObj (.ref f) (.ref y))
    exact k a _ (.inl rfl) e
  | ext φ => obtain ⟨p, ⟨o, e⟩, st⟩ := x; exact ⟨st _ _ p fun o q => k _ _ (.inl rfl) q, ⟨o, k _ _ (.inl rfl) e⟩, st⟩
theorem HOk.lt (x : HOk P w H h) (e : H a = some o) : a < h.objs.size := (x a o e).lt
theorem HOk.fresh (x : HOk P w H h) (e : h.objs.size ≤ a) : H a = none := by
  cases q : H a with
  | none => rfl
  | some u => exact absurd (Nat.lt_of_lt_of_le (x.lt q) e) (Nat.lt_irrefl _)
/-- every object of the heap is kept -/
theorem HOk.kept (x : HOk P w H h) (k : ∀ b u, h.get? b = some u → h'.get? b = some u) : HOk P w H h' := fun a o e =>
  (x a o e).stay (fun b u _ q => k b u q) (fun _ q => q) (fun _ _ q => q) fun _ _ _ q => q
/-- a new object is laid and tracked -/
theorem HOk.laid (x : HOk P w H h) (k : ∀ b u, h.get? b = some u → h'.get? b = some u) (hp : h.objs.size ≤ a) (new : ObjOk P w (upd H a o) h' a o) : HOk P w (upd H a o) h' := fun b u e => by
  have hn := x.fresh hp
  by_cases hb : b = a
  · subst hb; rw [upd_same] at e; cases e; exact new
  · rw [upd_ne hb] at e
    exact (x b u e).stay (fun c v _ q => k c v q) (fun c q => by rw [upd_ne (ne_of_none q hn)]; exact q) (fun c xs q => by rw [upd_ne (ne_of_none q hn)]; exact q) fun c o xs q => by rw [upd_ne (ne_of_none q hn)]; exact q
end

/-- what may be read as u: it is u, or a known u -/
def Rd (H : Hp) (a : Addr) (u : HO) : Prop := H a = some u ∨ ∃ o, H a = some (.frz o u)
theorem Rd.of {H : Hp} {a : Addr} {u : HO} (h : H a = some u) : Rd H a u := .inl h
theorem Rd.ok {P : Program} {w : World} {H : Hp} {h : Heap} {a : Addr} {u : HO} (r : Rd H a u) (x : HOk P w H h) : ObjOk P w H h a u := by
  rcases r with r | ⟨o, r⟩
  · exact x a u r
  · obtain ⟨_, q⟩ := x a _ r
    exact q
/-- what may be written -/
def Mut : Option HO → Prop
  | some (.lst _) => True
  | some (.dK _) => True
  | some (.dT _) => True
  | some (.set _ _) => True
  | some (.ins _ _ _) => True
  | some (.ext _) => True
  | _ => False
section
variable {P : Program} {w : World} {H : Hp} {h h' : Heap} {x e : Addr} {o' : HO}
/-- the object at e is changed: x itself, or the dict of the instance x -/
theorem HOk.write (ok : HOk P w H h) (mu : Mut (H x)) (he : e = x ∨ H e = some (.own x)) (k : ∀ b u, b ≠ e → h.get? b = some u → h'.get? b = some u) (heo : ∃ u, h'.get? e = some u)
    (new : ObjOk P w (upd H x o') h' x o') : HOk P w (upd H x o') h' := fun b u q => by
  have nown : ∀ c y, H c = some (.own y) → c ≠ x := fun c y r z => by subst z; rw [r] at mu; exact mu
  have ntup : ∀ c xs, H c = some (.tup xs) → c ≠ x := fun c xs r z => by subst z; rw [r] at mu; exact mu
  by_cases hb : b = x
  · subst hb; rw [upd_same] at q; cases q; exact new
  · rw [upd_ne hb] at q
    by_cases hbe : b = e
    · have q' : H b = some (.own x) := by
        rcases he with z | z
        · exact absurd (hbe.trans z) hb
        · rw [hbe]; exact z
      rw [q] at q'; cases q'
      obtain ⟨v, hv⟩ := heo
      exact ⟨v, by rw [hbe]; exact hv⟩
    · refine (ok b u q).stay (fun c v hc r => k c v ?_ r) (fun c r => by rw [upd_ne (nown c b r)]; exact r) (fun c xs r => by rw [upd_ne (ntup c xs r)]; exact r) fun c o xs r => by rw [upd_ne (fun z => by subst z; rw [r] at mu; exact mu)]; exact r
      rcases hc with rfl | hc
      · exact hbe
      · rintro rfl
        rcases he with z | z
        · exact nown c b hc z
        · rw [hc] at z; cases z; exact hb rfl
end

/-! ### kept unless tracked; of the frames at fs (the callers') the slots may change (an exception that passes writes there); of the records at ex (iterators) nothing is said -/
structure Un (fs ex : List Addr) (H H' : Hp) (h h' : Heap) : Prop where
  keep : ∀ b o, h.get? b = some o → H b = none → b ∉ fs → b ∉ ex → h'.get? b = some o
  slot : ∀ b o, h.get? b = some o → H b = none → b ∈ fs → b ∉ ex → ∃ sl, h'.get? b = some { o with slots := sl }
  free : ∀ b o, h.get? b = some o → H b = none → b ∉ ex → H' b = none
  there : ∀ b o, h.get? b = some o → b ∉ ex → ∃ o', h'.get? b = some o'
  tups : ∀ b xs, H b = some (.tup xs) → H' b = some (.tup xs)
  frzs : ∀ b o u, H b = some (.frz o u) → H' b = some (.frz o u)
  tbls : ∀ b q, H b = some (.tbl q) → H' b = some (.tbl q)
section
variable {fs fs' ex ex' : List Addr} {H H1 H2 : Hp} {h h1 h2 h' : Heap} {a x e : Addr} {o : HO}
theorem Un.any (u : Un fs ex H H1 h h1) {b : Addr} {ob : Obj} (q : h.get? b = some ob) (n : H b = none) (hx : b ∉ ex) : ∃ sl, h1.get? b = some { ob with slots := sl } := by
  by_cases hb : b ∈ fs
  · exact u.slot b ob q n hb hx
  · exact ⟨ob.slots, u.keep b ob q n hb hx⟩
theorem Un.trans (a : Un fs ex H H1 h h1) (b : Un fs ex H1 H2 h1 h2) : Un fs ex H H2 h h2 where
  keep := fun c ob q n hc hx => b.keep c ob (a.keep c ob q n hc hx) (a.free c ob q n hx) hc hx
  slot := fun c ob q n hc hx => by
    obtain ⟨sl, e1⟩ := a.slot c ob q n hc hx
    obtain ⟨sl', e2⟩ := b.slot c _ e1 (a.free c ob q n hx) hc hx
    exact ⟨sl', e2⟩
  free := fun c ob q n hx => by
    obtain ⟨o', e1⟩ := a.there c ob q hx
    exact b.free c o' e1 (a.free c ob q n hx) hx
  there := fun c ob q hx => by
    obtain ⟨o', e1⟩ := a.there c ob q hx
    exact b.there c o' e1 hx
  tups := fun c xs q => b.tups c xs (a.tups c xs q)
  frzs := fun c ob xs q => b.frzs c ob xs (a.frzs c ob xs q)
  tbls := fun c ps q => b.tbls c ps (a.tbls c ps q)
theorem Un.kept (k : ∀ b u, h.get? b = some u → h'.get? b = some u) : Un fs ex H H h h' :=
  ⟨fun b ob q _ _ _ => k b ob q, fun b ob q _ _ _ => ⟨ob.slots, k b ob q⟩, fun _ _ _ n _ => n, fun b ob q _ => ⟨ob, k b ob q⟩, fun _ _ q => q, fun _ _ _ q => q, fun _ _ q => q⟩
theorem Un.refl : Un fs ex H H h h := Un.kept fun _ _ q => q
theorem Un.laid (k : ∀ b u, h.get? b = some u → h'.get? b = some u) (hp : h.objs.size ≤ a) (hn : H a = none) : Un fs ex H (upd H a o) h h' where
  keep := fun b u q _ _ _ => k b u q
  slot := fun b u q _ _ _ => ⟨u.slots, k b u q⟩
  free := fun b u q n _ => by rw [upd_ne (Nat.ne_of_lt (Nat.lt_of_lt_of_le (Heap.lt_size q) hp))]; exact n
  there := fun b u q _ => ⟨u, k b u q⟩
  tups := fun b xs q => by rw [upd_ne (ne_of_none q hn)]; exact q
  frzs := fun b u xs q => by rw [upd_ne (ne_of_none q hn)]; exact q
  tbls := fun b ps q => by rw [upd_ne (ne_of_none q hn)]; exact q
theorem Un.write (mu : Mut (H x)) (he : e = x ∨ H e = some (.own x)) (k : ∀ b u, b ≠ e → h.get? b = some u → h'.get? b = some u) (heo : ∃ u, h'.get? e = some u) : Un fs ex H (upd H x o) h h' := by
  have hx : ∀ b, H b = none → b ≠ x := fun b n z => by subst z; rw [n] at mu; exact mu
  have hb : ∀ b, H b = none → b ≠ e := fun b n z => by
    subst z
    rcases he with r | r
    · exact hx b n r
    · rw [n] at r; cases r
  have hm : ∀ b u, H b = some u → ¬ Mut (some u) → b ≠ x := fun b u q nm z => by subst z; rw [q] at mu; exact nm mu
  refine ⟨fun b u q n _ _ => k b u (hb b n) q, fun b u q n _ _ => ⟨u.slots, k b u (hb b n) q⟩, fun b u q n _ => by rw [upd_ne (hx b n)]; exact n, fun b u q _ => ?_,
    fun b xs q => by rw [upd_ne (hm b _ q fun z => z)]; exact q, fun b u xs q => by rw [upd_ne (hm b _ q fun z => z)]; exact q, fun b ps q => by rw [upd_ne (hm b _ q fun z => z)]; exact q⟩
  by_cases hbe : b = e
  · subst hbe; exact heo
  · exact ⟨u, k b u hbe q⟩
theorem Un.mono (u : Un fs ex H H1 h h1) (hs : ∀ b ∈ fs, b ∈ fs') (hx : ∀ b ∈ ex, b ∈ ex') : Un fs' ex' H H1 h h1 :=
  ⟨fun b ob q n hb he => u.keep b ob q n (fun z => hb (hs b z)) fun z => he (hx b z), fun _ _ q n _ he => u.any q n fun z => he (hx _ z), fun b ob q n he => u.free b ob q n fun z => he (hx b z), fun b ob q he => u.there b ob q fun z => he (hx b z), u.tups, u.frzs, u.tbls⟩
end

/-! ### the heap without what is tracked -/
def trk (h : Heap) (H : Hp) : List Addr := (List.range h.objs.size).filter fun a => (H a).isSome
def hidT (h : Heap) (H : Hp) : Heap := PySem.W.hideAll h (trk h H)
theorem hidT_size (h : Heap) (H : Hp) : (hidT h H).objs.size = h.objs.size := PySem.W.hideAll_size _ _
theorem hidT_get {h : Heap} {H : Hp} {b : Addr} {o : Obj} (e : h.get? b = some o) (n : H b = none) : (hidT h H).get? b = some o :=
  PySem.W.hideAll_get _ e fun hm => by
    have q : (H b).isSome = true := (List.mem_filter.mp hm).2
    rw [n] at q; simp at q
theorem of_hidT {h : Heap} {H : Hp} {b : Addr} {o : Obj} (e : (hidT h H).get? b = some o) : h.get? b = some o ∧ H b = none := by
  have e' : h.get? b = some o := PySem.W.of_hideAll (trk h H) e
  refine ⟨e', ?_⟩
  cases q : H b with
  | none => rfl
  | some x =>
    have hm : b ∈ trk h H := List.mem_filter.mpr ⟨List.mem_range.mpr (Heap.lt_size e'), by simp [q]⟩
    have z : (hidT h H).get? b = none := PySem.W.hideAll_none (trk h H) hm
    rw [z] at e; cases e

/-! ### OpenK's ledger, filled with every new object but one -/
def allNews (g h : Heap) (L : Addr) : List (Addr × Obj) := (List.range h.objs.size).filterMap fun a => if a = L ∨ (g.get? a).isSome = true then none else (h.get? a).map fun o => (a, o)
def rest (g h : Heap) (L d : Addr) : List (Addr × Obj) := (allNews g h L).filter fun p => decide (p.1 ≠ d)
end L2

namespace L2
open PySem PySem.Spec PyProof.Rows

/-- the module's facts, over the base: the heap at the law's entry without what is tracked there -/
structure Mod (K : PySem.W.Frag) (mg : Str → Option Value) (base : Heap) : Prop where
  kin : K.In base
  glob : base.Ns mainGlobals mg
  blt : ∃ mb, base.Ns builtinsNs mb ∧ ∀ x : Str, x ≠ "__name__" → mb x = bootBuiltins x
  nolimit : base.NoLimit
  bmain : ∃ bm ob, mg "__builtins__" = some (.ref bm) ∧ bm ≠ builtinsNs ∧ base.get? bm = some ob ∧ ob.cls = .type "module" ∧ ob.dict = some builtinsNs ∧ ob.data = .plain

/-- the context: a def's body (or a comprehension's block) running. base: fixed through the whole law; s₀, H₀: the entry; outer: the frames whose slots others may change (a def's callers); stack: all frames that run;
   ex: iterators that were made ahead of the entry and are walked here (a comprehension's); fn: the names whose cells were made at the entry (a def: all; a comprehension's block: its own); calm: not within an except suite; pn: pins that every state bears; xe: what is wanted of an exception that leaves the code -/
structure Cx where
  prog : Program
  w : World
  K : PySem.W.Frag
  mg : Str → Option Value
  base : Heap
  A : Around
  N : List Str
  s₀ : Shared
  H₀ : Hp
  env : Env
  outer : List Env
  stack : List Env
  ex : List Addr
  fn : Str → Bool
  calm : Bool
  pn : List (Addr × Obj)
  xe : Value → Shared → Prop
/-- the callers' frames -/
def frs (l : List Env) : List Addr := l.filterMap (·.frame)
abbrev Cx.fs (X : Cx) : List Addr := frs X.outer

def Vis (sc : Scope) (x : Str) : Prop := sc.names.lookup x = some .local ∨ sc.names.lookup x = some .cell ∨ sc.names.lookup x = some .free
def Loc (sc : Scope) (x : Str) : Prop := sc.names.lookup x = some .local ∨ sc.names.lookup x = some .cell
def Look (env : Env) (h : Heap) (m : Str → Option Value) (x : Str) (u : Value) : Prop :=
  (env.kindOf x = some .local ∧ m x = some u) ∨ ((env.kindOf x = some .cell ∨ env.kindOf x = some .free) ∧ ∃ c, env.cells.lookup x = some c ∧ h.IsCell c (some u))

structure Cx.Ok (X : Cx) : Prop where
  mod : Mod X.K X.mg X.base
  kind : X.env.scope.kind = .function
  glob : X.env.globals = mainGlobals
  blt : X.env.builtins = builtinsNs
  above : X.s₀.heap.objs.size ≤ X.env.locals
  inj : ∀ x y c, X.env.cells.lookup x = some c → X.env.cells.lookup y = some c → x = y
  has : ∀ x, (X.env.kindOf x = some .cell ∨ X.env.kindOf x = some .free) → ∃ c, X.env.cells.lookup x = some c
  cab : ∀ x c, X.fn x = true → X.env.cells.lookup x = some c → X.s₀.heap.objs.size ≤ c
  hd : X.calm = true → X.A.handled = none
  frames : X.A.frames = some X.stack
  stk : X.stack = X.outer ∨ (X.stack = X.env :: X.outer ∧ X.env.frame = some X.env.locals)
  exf : ∀ b ∈ X.ex, b ≠ X.env.locals ∧ ∀ x c, X.env.cells.lookup x = some c → c ≠ b
  bs : ∀ b o, X.base.get? b = some o → X.s₀.heap.get? b = some o ∧ X.H₀ b = none
  bsz : X.base.objs.size ≤ X.s₀.heap.objs.size
  noex : ∀ b o, X.base.get? b = some o → b ∉ X.ex
  exfs : ∀ b ∈ X.ex, b ∉ X.fs
  funs : X.s₀.heap.FunFrames X.base X.outer
  frf : ∀ b ∈ X.fs, X.H₀ b = none

structure Inv (X : Cx) (pins : List (Addr × Obj)) (σ : List (Option V)) (H : Hp) (s : Shared) : Prop where
  ok : X.Ok
  os : s.os = X.s₀.os
  bare : AllBare s.gens
  base : Un X.fs X.ex X.H₀ H X.s₀.heap s.heap
  loc : ∃ m, s.heap.Ns X.env.locals m ∧ ∀ (i : Nat) (x : Str) (v : V), X.N[i]? = some x → σ[i]? = some (some v) → Vis X.env.scope x → ∃ u, RelV v u ∧ Look X.env s.heap m x u
  cell : ∀ x c, X.env.cells.lookup x = some c → ∃ v, s.heap.IsCell c v
  free : H X.env.locals = none
  freeC : ∀ x c, X.env.cells.lookup x = some c → H c = none
  pin : ∀ p ∈ X.pn ++ pins, s.heap.get? p.1 = some p.2 ∧ H p.1 = none ∧ p.1 ≠ X.env.locals ∧ p.1 ∉ X.fs ∧ ∀ v, p.2.data ≠ .cell v
  hok : HOk X.prog X.w H s.heap
  len : σ.length = X.N.length

section
variable {X : Cx} {pins : List (Addr × Obj)} {σ : List (Option V)} {H H' : Hp} {s : Shared} {h' : Heap}

theorem Cx.Ok.nofr (ok : X.Ok) {b : Addr} {o : Obj} (e : X.base.get? b = some o) : b ∉ X.fs := fun hb => by
  have := (ok.funs.mem hb).1
  rw [e] at this; cases this
theorem Inv.bs (I : Inv X pins σ H s) : ∀ b o, X.base.get? b = some o → s.heap.get? b = some o ∧ H b = none := fun b o e =>
  ⟨I.base.keep b o (I.ok.bs b o e).1 (I.ok.bs b o e).2 (I.ok.nofr e) (I.ok.noex b o e), I.base.free b o (I.ok.bs b o e).1 (I.ok.bs b o e).2 (I.ok.noex b o e)⟩
theorem Inv.bk (I : Inv X pins σ H s) : ∀ b o, X.base.get? b = some o → s.heap.get? b = some o := fun b o e => (I.bs b o e).1
theorem Inv.mod (I : Inv X pins σ H s) : Mod X.K X.mg X.base := I.ok.mod
theorem Inv.kIn (I : Inv X pins σ H s) : X.K.In s.heap := I.ok.mod.kin.keeps I.bk
theorem Inv.nolimit (I : Inv X pins σ H s) : s.heap.NoLimit := I.ok.mod.nolimit.keeps I.bk
/-- the frame over the base: for OpenK's rules (K.In X.base is I.mod.kin) -/
theorem Inv.fr (I : Inv X pins σ H s) : ∃ m, Fr X.base X.env.locals s.heap m :=
  let ⟨m, hn, _⟩ := I.loc
  ⟨m, hn, I.bk, Nat.le_trans I.ok.bsz I.ok.above⟩
theorem Inv.lt (I : Inv X pins σ H s) : X.env.locals < s.heap.objs.size := let ⟨_, hn, _⟩ := I.loc; hn.lt
theorem Inv.sz (I : Inv X pins σ H s) : X.s₀.heap.objs.size ≤ s.heap.objs.size := Nat.le_trans I.ok.above (Nat.le_of_lt I.lt)
theorem Inv.nofs (I : Inv X pins σ H s) {a : Addr} (h : s.heap.objs.size ≤ a) : a ∉ X.fs := fun hb => by
  obtain ⟨_, o, ho, _⟩ := I.ok.funs.mem hb
  exact absurd (Nat.lt_of_lt_of_le (Heap.lt_size ho) (Nat.le_trans I.sz h)) (Nat.lt_irrefl _)
theorem Inv.cne (I : Inv X pins σ H s) : ∀ x c, X.env.cells.lookup x = some c → c ≠ X.env.locals := fun x c e z => by
  obtain ⟨v, o, ho, hd⟩ := I.cell x c e
  obtain ⟨m, ⟨o', es, ep, ho', hd', _⟩, _⟩ := I.loc
  rw [z, ho'] at ho; cases ho; rw [hd'] at hd; cases hd
theorem Inv.funs (I : Inv X pins σ H s) : s.heap.FunFrames X.base X.outer := by
  have all : ∀ (l : List Env), (∀ b ∈ frs l, b ∈ X.fs) → X.s₀.heap.FunFrames X.base l → s.heap.FunFrames X.base l := by
    intro l
    induction l with
    | nil => intro _ _; trivial
    | cons env r ih =>
      intro hs hl
      obtain ⟨hk, ⟨L, o, hf, hn, ho, hd⟩, hr⟩ := hl
      have hL : L ∈ X.fs := hs L (by unfold frs; rw [List.filterMap_cons, hf]; exact List.mem_cons_self)
      obtain ⟨sl, e⟩ := I.base.slot L o ho (I.ok.frf L hL) hL fun z => I.ok.exfs L z hL
      exact ⟨hk, ⟨L, _, hf, hn, e, hd⟩, ih (fun b hb => hs b (by unfold frs; rw [List.filterMap_cons, hf]; exact List.mem_cons_of_mem _ hb)) hr⟩
  exact all X.outer (fun _ hb => hb) I.ok.funs

/-- the frames that run, for a call -/
theorem Inv.stack (I : Inv X pins σ H s) : s.heap.FunFrames X.base X.stack := by
  rcases I.ok.stk with e | ⟨e, hf⟩
  · rw [e]; exact I.funs
  · rw [e]
    obtain ⟨m, hn, _⟩ := I.loc
    refine .cons (by rw [I.ok.kind]; decide) hf hn ?_ I.funs
    exact Heap.get?_none_of_le (Nat.le_trans I.ok.bsz I.ok.above)
theorem Inv.stkSub (I : Inv X pins σ H s) : ∀ b ∈ frs X.stack, b ∈ X.env.locals :: X.fs := fun b hb => by
  rcases I.ok.stk with e | ⟨e, hf⟩
  · rw [e] at hb; exact List.mem_cons_of_mem _ hb
  · rw [e] at hb
    unfold frs at hb
    rw [List.filterMap_cons, hf] at hb
    exact hb
theorem Inv.stkFree (I : Inv X pins σ H s) : ∀ b ∈ frs X.stack, H b = none := fun b hb => by
  rcases List.mem_cons.mp (I.stkSub b hb) with e | hb
  · rw [e]; exact I.free
  · obtain ⟨_, o, ho, _⟩ := I.ok.funs.mem hb
    exact I.base.free b o ho (I.ok.frf b hb) fun z => I.ok.exfs b z hb

/-- THE STEP: the untracked objects but the frame and the records at ch are kept (the callers' frames up to slots), the frame's map is kept, the new abstract heap is held -/
theorem Inv.step {g' : Array GenState} {t' : Nat} {d' : Drawn} {ch : List Addr} (I : Inv X pins σ H s)
    (hch : ∀ b ∈ ch, (b ∈ X.ex ∨ X.s₀.heap.objs.size ≤ b) ∧ b ≠ X.env.locals ∧ (∀ x c, X.env.cells.lookup x = some c → c ≠ b) ∧ ∀ p ∈ X.pn ++ pins, p.1 ≠ b)
    (keep : ∀ b o, b ≠ X.env.locals → b ∉ X.fs → b ∉ ch → s.heap.get? b = some o → H b = none → h'.get? b = some o)
    (slot : ∀ b o, b ≠ X.env.locals → b ∈ X.fs → b ∉ ch → s.heap.get? b = some o → H b = none → ∃ sl, h'.get? b = some { o with slots := sl }) (free : ∀ b o, b ∉ ch → s.heap.get? b = some o → H b = none → H' b = none)
    (there : ∀ b o, b ∉ ch → s.heap.get? b = some o → ∃ o', h'.get? b = some o')
    (tups : ∀ b xs, H b = some (.tup xs) → H' b = some (.tup xs)) (frzs : ∀ b o u, H b = some (.frz o u) → H' b = some (.frz o u)) (tbls : ∀ b q, H b = some (.tbl q) → H' b = some (.tbl q))
    (ns : ∀ m, s.heap.Ns X.env.locals m → h'.Ns X.env.locals m) (hok : HOk X.prog X.w H' h') (hg : AllBare g') :
    Inv X pins σ H' { s with heap := h', gens := g', drawn := d', toks := t' } := by
  have neL : ∀ b o, X.s₀.heap.get? b = some o → b ≠ X.env.locals := fun b o e => Nat.ne_of_lt (Nat.lt_of_lt_of_le (Heap.lt_size e) I.ok.above)
  have neC : ∀ b o, X.s₀.heap.get? b = some o → b ∉ X.ex → b ∉ ch := fun b o e hx hb => by
    rcases (hch b hb).1 with z | z
    · exact hx z
    · exact absurd (Nat.lt_of_lt_of_le (Heap.lt_size e) z) (Nat.lt_irrefl _)
  have cellK : ∀ x c, X.env.cells.lookup x = some c → ∀ v, s.heap.IsCell c v → h'.IsCell c v := fun x c e v ⟨o, ho, hd⟩ => by
    have nch : c ∉ ch := fun z => (hch c z).2.2.1 x c e rfl
    by_cases hc : c ∈ X.fs
    · obtain ⟨sl, q⟩ := slot c o (I.cne x c e) hc nch ho (I.freeC x c e)
      exact ⟨_, q, hd⟩
    · exact ⟨o, keep c o (I.cne x c e) hc nch ho (I.freeC x c e), hd⟩
  refine ⟨I.ok, I.os, hg, ⟨fun b o e n hb hx => ?_, fun b o e n hb hx => ?_, fun b o e n hx => ?_, fun b o e hx => ?_, fun b xs e => tups b xs (I.base.tups b xs e), fun b o xs e => frzs b o xs (I.base.frzs b o xs e), fun b ps e => ?_⟩, ?_, fun x c e => ?_, ?_, fun x c e => ?_, fun p hp => ?_, hok, I.len⟩
  · exact keep b o (neL b o e) hb (neC b o e hx) (I.base.keep b o e n hb hx) (I.base.free b o e n hx)
  · obtain ⟨sl, e1⟩ := I.base.slot b o e n hb hx
    obtain ⟨sl', e2⟩ := slot b _ (neL b o e) hb (neC b o e hx) e1 (I.base.free b o e n hx)
    exact ⟨sl', e2⟩
  · obtain ⟨o', e1⟩ := I.base.there b o e hx
    exact free b o' (neC b o e hx) e1 (I.base.free b o e n hx)
  · obtain ⟨o', e1⟩ := I.base.there b o e hx
    exact there b o' (neC b o e hx) e1
  · exact tbls b _ (I.base.tbls b ps e)
  · obtain ⟨m, hn, hl⟩ := I.loc
    refine ⟨m, ns m hn, fun i x v e1 e2 e3 => ?_⟩
    obtain ⟨u, r, l⟩ := hl i x v e1 e2 e3
    refine ⟨u, r, ?_⟩
    rcases l with l | ⟨k, c, e, z⟩
    · exact .inl l
    · exact .inr ⟨k, c, e, cellK x c e _ z⟩
  · obtain ⟨v, z⟩ := I.cell x c e
    exact ⟨v, cellK x c e v z⟩
  · obtain ⟨m, ⟨o, _, _, ho, _⟩, _⟩ := I.loc
    exact free _ o (fun z => (hch _ z).2.1 rfl) ho I.free
  · obtain ⟨v, o, ho, hd⟩ := I.cell x c e
    exact free c o (fun z => (hch c z).2.2.1 x c e rfl) ho (I.freeC x c e)
  · obtain ⟨e, n, ne, nf, d⟩ := I.pin p hp
    have nch : p.1 ∉ ch := fun z => (hch p.1 z).2.2.2 p hp rfl
    exact ⟨keep p.1 p.2 ne nf nch e n, free p.1 p.2 nch e n, ne, nf, d⟩
/-- .. where the frame's own object is kept too -/
theorem Inv.un {t' : Nat} (I : Inv X pins σ H s) (u : Un X.fs [] H H' s.heap h') (hok : HOk X.prog X.w H' h') : Inv X pins σ H' { s with heap := h', toks := t' } := by
  obtain ⟨m, ⟨o, es, ep, ho, r⟩, _⟩ := id I.loc
  obtain ⟨sl, hL⟩ := u.any ho I.free (by simp)
  exact I.step (g' := s.gens) (d' := s.drawn) (ch := []) (fun _ z => nomatch z) (fun b o _ hb _ e n => u.keep b o e n hb (by simp)) (fun b o _ hb _ e n => u.slot b o e n hb (by simp)) (fun b o _ e n => u.free b o e n (by simp)) (fun b o _ e => u.there b o e (by simp)) u.tups u.frzs u.tbls (fun m' hm => by
    obtain ⟨o', es', ep', ho', r'⟩ := hm
    rw [ho] at ho'; cases ho'
    exact ⟨_, es', ep', hL, r'⟩) hok I.bare
/-- behind a call (or a comprehension's block): the slots of this frame may have changed too, the records at ch may have turned -/
theorem Inv.call {g' : Array GenState} {t' : Nat} {d' : Drawn} {ch : List Addr} (I : Inv X pins σ H s) (u : Un (frs X.stack) ch H H' s.heap h') (hok : HOk X.prog X.w H' h') (hg : AllBare g')
    (hch : ∀ b ∈ ch, (b ∈ X.ex ∨ X.s₀.heap.objs.size ≤ b) ∧ b ≠ X.env.locals ∧ (∀ x c, X.env.cells.lookup x = some c → c ≠ b) ∧ ∀ p ∈ X.pn ++ pins, p.1 ≠ b) :
    Inv X pins σ H' { s with heap := h', gens := g', drawn := d', toks := t' } := by
  obtain ⟨m, ⟨o, es, ep, ho, r⟩, _⟩ := id I.loc
  obtain ⟨sl, hL⟩ := u.any ho I.free fun z => (hch _ z).2.1 rfl
  exact I.step (ch := ch) hch (fun b o hL hb hc e n => u.keep b o e n (fun z => (List.mem_cons.mp (I.stkSub b z)).elim hL hb) hc) (fun b o _ _ hc e n => u.any e n hc) (fun b o hc e n => u.free b o e n hc) (fun b o hc e => u.there b o e hc) u.tups u.frzs u.tbls (fun m' hm => by
    obtain ⟨o', es', ep', ho', r'⟩ := hm
    rw [ho] at ho'; cases ho'
    exact ⟨_, es', ep', hL, r'⟩) hok hg
/-- an untracked record of ours (an iterator) has turned -/
theorem Inv.turned {t' : Nat} {it : Addr} (I : Inv X pins σ H s) (k : ∀ b o, b ≠ it → s.heap.get? b = some o → h'.get? b = some o) (hn : H it = none) (hL : it ≠ X.env.locals)
    (h1 : it ∈ X.ex ∨ X.s₀.heap.objs.size ≤ it) (h2 : ∀ x c, X.env.cells.lookup x = some c → c ≠ it) (h3 : ∀ p ∈ X.pn ++ pins, p.1 ≠ it) : Inv X pins σ H { s with heap := h', toks := t' } := by
  have nit : ∀ b u, H b = some u → b ≠ it := fun b u e z => by rw [z, hn] at e; cases e
  refine I.step (g' := s.gens) (d' := s.drawn) (ch := [it]) (fun b hb => ?_) (fun b o _ _ hc e _ => k b o (fun z => hc (by simp [z])) e) (fun b o _ _ hc e _ => ⟨o.slots, k b o (fun z => hc (by simp [z])) e⟩) (fun _ _ _ _ n => n)
    (fun b o hc e => ⟨o, k b o (fun z => hc (by simp [z])) e⟩) (fun _ _ e => e) (fun _ _ _ e => e) (fun _ _ e => e) (fun m hm => ?_) (fun b u e => ?_) I.bare
  · have e : b = it := by simpa using hb
    subst e
    exact ⟨h1, hL, h2, h3⟩
  · obtain ⟨o, es, ep, ho, r⟩ := hm
    exact ⟨o, es, ep, k _ o (Ne.symm hL) ho, r⟩
  · refine (I.hok b u e).stay (fun c v hc q => k c v ?_ q) (fun _ q => q) (fun _ _ q => q) fun _ _ _ q => q
    rcases hc with z | z
    · rw [z]; exact nit b u e
    · exact nit c _ z
theorem Inv.tok (I : Inv X pins σ H s) (t : Nat) : Inv X pins σ H { s with toks := t } := I.un (h' := s.heap) (t' := t) Un.refl I.hok
/-- all objects kept -/
theorem Inv.kept {t' : Nat} (I : Inv X pins σ H s) (k : ∀ b u, s.heap.get? b = some u → h'.get? b = some u) : Inv X pins σ H { s with heap := h', toks := t' } := I.un (Un.kept k) (I.hok.kept k)
/-- a new object laid and tracked -/
theorem Inv.laid {a : Addr} {o : HO} {t' : Nat} (I : Inv X pins σ H s) (k : ∀ b u, s.heap.get? b = some u → h'.get? b = some u) (hp : s.heap.objs.size ≤ a) (new : ObjOk X.prog X.w (upd H a o) h' a o) :
    Inv X pins σ (upd H a o) { s with heap := h', toks := t' } := I.un (Un.laid k hp (I.hok.fresh hp)) (I.hok.laid k hp new)
/-- an object written -/
theorem Inv.write {x e : Addr} {o : HO} {t' : Nat} (I : Inv X pins σ H s) (mu : Mut (H x)) (he : e = x ∨ H e = some (.own x)) (k : ∀ b u, b ≠ e → s.heap.get? b = some u → h'.get? b = some u) (heo : ∃ u, h'.get? e = some u)
    (new : ObjOk X.prog X.w (upd H x o) h' x o) : Inv X pins σ (upd H x o) { s with heap := h', toks := t' } := I.un (Un.write mu he k heo) (I.hok.write mu he k heo new)
theorem Inv.pins_of {pins' : List (Addr × Obj)} (I : Inv X pins σ H s) (h : ∀ p ∈ pins', s.heap.get? p.1 = some p.2 ∧ H p.1 = none ∧ p.1 ≠ X.env.locals ∧ p.1 ∉ X.fs ∧ ∀ v, p.2.data ≠ .cell v) : Inv X pins' σ H s :=
  ⟨I.ok, I.os, I.bare, I.base, I.loc, I.cell, I.free, I.freeC, fun p hp => (List.mem_append.mp hp).elim (fun z => I.pin p (List.mem_append_left _ z)) (h p), I.hok, I.len⟩

theorem nodup_ix {N : List Str} (hN : N.Nodup) {i j : Nat} {x : Str} (a : N[i]? = some x) (b : N[j]? = some x) : i = j := by
  obtain ⟨h1, e1⟩ := List.getElem?_eq_some_iff.mp a
  obtain ⟨h2, e2⟩ := List.getElem?_eq_some_iff.mp b
  exact (List.getElem_inj hN).mp (e1.trans e2.symm)

/-- a name is stored; what changed -/
theorem store_ok2 {M : Model} {A : Around} {E : Value → Shared → Prop} {i : Nat} {x : Str} {v : V} {u : Value} {Q : Unit → Shared → Prop} (I : Inv X pins σ H s) (hN : X.N.Nodup) (hi : X.N[i]? = some x) (hx : Loc X.env.scope x) (r : RelV v u)
    (h : ∀ s', Inv X pins (σ.set i (some v)) H s' → (∃ a, Heap.SameBut a s.heap s'.heap ∧ (a = X.env.locals ∨ X.env.cells.lookup x = some a)) → Q () s') (hf : X.fn x = true ∨ X.env.scope.names.lookup x = some .local := by first | exact .inl rfl | exact .inr rfl | assumption) : wpAny M A (storeName X.env x u) Q E s := by
  obtain ⟨m, hn, hl⟩ := id I.loc
  have hcls : (X.env.scope.kind == .class || (X.env.scope.kind == .module && X.env.locals != X.env.globals)) = false := by rw [I.ok.kind]; rfl
  have hiσ : i < σ.length := by rw [I.len]; exact (List.getElem?_eq_some_iff.mp hi).1
  have cne := I.cne
  have tracked : ∀ {a : Addr} {h' : Heap}, (∃ o, s.heap.get? a = some o ∧ H a = none) → Heap.SameBut a s.heap h' → HOk X.prog X.w H h' := fun {a h'} ha hs b ob e => by
    obtain ⟨_, _, hfree⟩ := ha
    refine (I.hok b ob e).stay (fun c w' hc q => (hs.2 c ?_).trans q) (fun _ q => q) (fun _ _ q => q) fun _ _ _ q => q
    rintro rfl
    rcases hc with rfl | hc
    · rw [hfree] at e; cases e
    · rw [hfree] at hc; cases hc
  rcases hx with hk | hk
  · refine wpAny_storeName_local hk hn (fun h' hn' hs => ?_) hcls
    obtain ⟨oL, _, _, hoL, _⟩ := id hn
    refine h _ ⟨I.ok, I.os, I.bare, ⟨fun b o e n hb hx => ?_, fun b o e n hb hx => ?_, I.base.free, fun b o e hx => ?_, I.base.tups, I.base.frzs, I.base.tbls⟩, ⟨_, hn', fun j y v' e1 e2 e3 => ?_⟩, fun y c e => ?_, I.free, I.freeC, fun p hp => ?_, tracked ⟨oL, hoL, I.free⟩ hs, by simpa using I.len⟩ ⟨_, hs, .inl rfl⟩
    · exact (hs.2 b (Nat.ne_of_lt (Nat.lt_of_lt_of_le (Heap.lt_size e) I.ok.above))).trans (I.base.keep b o e n hb hx)
    · obtain ⟨sl, e1⟩ := I.base.slot b o e n hb hx
      exact ⟨sl, (hs.2 b (Nat.ne_of_lt (Nat.lt_of_lt_of_le (Heap.lt_size e) I.ok.above))).trans e1⟩
    · obtain ⟨o', e1⟩ := I.base.there b o e hx
      exact ⟨o', (hs.2 b (Nat.ne_of_lt (Nat.lt_of_lt_of_le (Heap.lt_size e) I.ok.above))).trans e1⟩
    · by_cases hj : j = i
      · subst hj
        rw [hi] at e1; cases e1
        rw [List.getElem?_set_self hiσ] at e2
        cases e2
        exact ⟨u, r, .inl ⟨hk, by simp⟩⟩
      · rw [List.getElem?_set_ne (Ne.symm hj)] at e2
        obtain ⟨u', r', q⟩ := hl j y v' e1 e2 e3
        refine ⟨u', r', ?_⟩
        rcases q with ⟨k, e⟩ | ⟨k, c, e, z⟩
        · refine .inl ⟨k, ?_⟩
          have : y ≠ x := fun e => hj (nodup_ix hN e1 (e ▸ hi))
          simp [this, e]
        · exact .inr ⟨k, c, e, z.sameBut hs (cne y c e)⟩
    · obtain ⟨w', z⟩ := I.cell y c e
      exact ⟨w', z.sameBut hs (cne y c e)⟩
    · obtain ⟨e, n, ne, nf, d⟩ := I.pin p hp
      exact ⟨(hs.2 p.1 ne).trans e, n, ne, nf, d⟩
  · have hfn : X.fn x = true := by
      rcases hf with z | z
      · exact z
      · rw [z] at hk; cases hk
    obtain ⟨c, hc⟩ := I.ok.has x (.inl hk)
    obtain ⟨w', z⟩ := I.cell x c hc
    refine wpAny_storeName_cell I.ok.kind hk hc z (fun h' hc' hs => ?_)
    obtain ⟨oc, hoc, hocd⟩ := id z
    refine h { s with heap := h' } ⟨I.ok, I.os, I.bare, ⟨fun b o e n hb hx => ?_, fun b o e n hb hx => ?_, I.base.free, fun b o e hx => ?_, I.base.tups, I.base.frzs, I.base.tbls⟩, ⟨m, hn.sameBut hs (Ne.symm (cne x c hc)), fun j y v' e1 e2 e3 => ?_⟩, fun y c' e => ?_, I.free, I.freeC, fun p hp => ?_, tracked ⟨oc, hoc, I.freeC x c hc⟩ hs, by simpa using I.len⟩ ⟨c, hs, .inr hc⟩
    · exact (hs.2 b (Nat.ne_of_lt (Nat.lt_of_lt_of_le (Heap.lt_size e) (I.ok.cab x c hfn hc)))).trans (I.base.keep b o e n hb hx)
    · obtain ⟨sl, e1⟩ := I.base.slot b o e n hb hx
      exact ⟨sl, (hs.2 b (Nat.ne_of_lt (Nat.lt_of_lt_of_le (Heap.lt_size e) (I.ok.cab x c hfn hc)))).trans e1⟩
    · obtain ⟨o', e1⟩ := I.base.there b o e hx
      exact ⟨o', (hs.2 b (Nat.ne_of_lt (Nat.lt_of_lt_of_le (Heap.lt_size e) (I.ok.cab x c hfn hc)))).trans e1⟩
    · by_cases hj : j = i
      · subst hj
        rw [hi] at e1; cases e1
        rw [List.getElem?_set_self hiσ] at e2
        cases e2
        exact ⟨u, r, .inr ⟨.inl hk, c, hc, hc'⟩⟩
      · rw [List.getElem?_set_ne (Ne.symm hj)] at e2
        obtain ⟨u', r', q⟩ := hl j y v' e1 e2 e3
        refine ⟨u', r', ?_⟩
        rcases q with q | ⟨k, c', e, z'⟩
        · exact .inl q
        · refine .inr ⟨k, c', e, z'.sameBut hs ?_⟩
          rintro rfl
          exact hj (nodup_ix hN e1 (I.ok.inj _ _ _ e hc ▸ hi))
    · by_cases hcc : c' = c
      · subst hcc; exact ⟨_, hc'⟩
      · obtain ⟨w2, z2⟩ := I.cell y c' e
        exact ⟨w2, z2.sameBut hs hcc⟩
    · obtain ⟨e, n, ne, nf, d⟩ := I.pin p hp
      refine ⟨(hs.2 p.1 ?_).trans e, n, ne, nf, d⟩
      intro q
      rw [q, hoc] at e
      have q' : oc = p.2 := Option.some.inj e
      exact d w' (by rw [← q']; exact hocd)
theorem store_ok {M : Model} {A : Around} {E : Value → Shared → Prop} {i : Nat} {x : Str} {v : V} {u : Value} {Q : Unit → Shared → Prop} (I : Inv X pins σ H s) (hN : X.N.Nodup) (hi : X.N[i]? = some x) (hx : Loc X.env.scope x) (r : RelV v u)
    (h : ∀ s', Inv X pins (σ.set i (some v)) H s' → Q () s') (hf : X.fn x = true ∨ X.env.scope.names.lookup x = some .local := by first | exact .inl rfl | exact .inr rfl | assumption) : wpAny M A (storeName X.env x u) Q E s :=
  store_ok2 I hN hi hx r (fun s' I' _ => h s' I') hf
/-- behind a call or a block, the state as it is -/
theorem Inv.call' {s' : Shared} {ch : List Addr} (I : Inv X pins σ H s) (ho : s'.os = s.os) (u : Un (frs X.stack) ch H H' s.heap s'.heap) (hok : HOk X.prog X.w H' s'.heap) (hg : AllBare s'.gens)
    (hch : ∀ b ∈ ch, (b ∈ X.ex ∨ X.s₀.heap.objs.size ≤ b) ∧ b ≠ X.env.locals ∧ (∀ x c, X.env.cells.lookup x = some c → c ≠ b) ∧ ∀ p ∈ X.pn ++ pins, p.1 ≠ b) : Inv X pins σ H' s' := by
  obtain ⟨h', g', d', t', o'⟩ := s'
  have e : o' = s.os := ho
  subst e
  exact I.call (g' := g') (t' := t') (d' := d') u hok hg hch
end

/-! ### the judgements -/
/-- an exception: its class, its own dict's address (where it has one), the abstract heap behind it -/
abbrev XK := Value → Option Addr → Hp → Prop
abbrev St := List (Option V)
abbrev VK := V → Hp → Prop
/-- an expression's reading; a test's; an argument list's -/
abbrev TE := St → Hp → VK → Prop
abbrev TT := St → Hp → (Bool → Hp → Prop) → Prop
abbrev TA := St → Hp → (List V → Hp → Prop) → Prop
/-- what is wanted behind a statement -/
structure Ends where
  nx : St → Hp → Prop
  rt : VK
  bk : St → Hp → Prop := fun _ _ => False
  ct : St → Hp → Prop := fun _ _ => False
abbrev TS := Ends → St → Hp → Prop

def EP (X : Cx) (pins : List (Addr × Obj)) (σ : St) (Q : VK) (u : Value) (s' : Shared) : Prop := ∃ v H', Inv X pins σ H' s' ∧ RelV v u ∧ Q v H'
def TP (X : Cx) (pins : List (Addr × Obj)) (σ : St) (Q : Bool → Hp → Prop) (b : Bool) (s' : Shared) : Prop := ∃ H', Inv X pins σ H' s' ∧ Q b H'
def AP (X : Cx) (pins : List (Addr × Obj)) (σ : St) (Q : List V → Hp → Prop) (us : List Value) (s' : Shared) : Prop := ∃ vs H', Inv X pins σ H' s' ∧ Vals vs us ∧ Q vs H'
def SP (X : Cx) (pins : List (Addr × Obj)) (D : Ends) (f : Flow) (s' : Shared) : Prop :=
  match f with
  | .next => ∃ σ' H', Inv X pins σ' H' s' ∧ D.nx σ' H'
  | .brk => ∃ σ' H', Inv X pins σ' H' s' ∧ D.bk σ' H'
  | .cont => ∃ σ' H', Inv X pins σ' H' s' ∧ D.ct σ' H'
  | .ret u => ∃ v σ' H', Inv X pins σ' H' s' ∧ RelV v u ∧ D.rt v H'

def PE (X : Cx) (e : Expr) (t : TE) : Prop :=
  ∀ (pins : List (Addr × Obj)) (s : Shared) (σ : St) (H : Hp) (Q : VK), Inv X pins σ H s → t σ H Q → wpAny (model X.prog X.w) X.A (eval e X.env) (EP X pins σ Q) X.xe s
def PT (X : Cx) (e : Expr) (t : TT) : Prop :=
  ∀ (pins : List (Addr × Obj)) (s : Shared) (σ : St) (H : Hp) (Q : Bool → Hp → Prop), Inv X pins σ H s → t σ H Q → wpAny (model X.prog X.w) X.A (isTrue e X.env (eval e X.env)) (TP X pins σ Q) X.xe s
/-- a test whatever its 'whole' is (and, or) -/
def PW (X : Cx) (e : Expr) (t : TT) : Prop :=
  ∀ (whole : Sem Value) (pins : List (Addr × Obj)) (s : Shared) (σ : St) (H : Hp) (Q : Bool → Hp → Prop), Inv X pins σ H s → t σ H Q → wpAny (model X.prog X.w) X.A (isTrue e X.env whole) (TP X pins σ Q) X.xe s
theorem PW.pt {X : Cx} {e : Expr} {t : TT} (h : PW X e t) : PT X e t := h _
/-- an argument list (no star), from the left -/
def PA (X : Cx) (es : List Expr) (t : TA) : Prop :=
  ∀ (pos : Pos) (pins : List (Addr × Obj)) (s : Shared) (σ : St) (H : Hp) (Q : List V → Hp → Prop), Inv X pins σ H s → t σ H Q → wpAny (model X.prog X.w) X.A (spliced (backTo pos (starEach es X.env))) (AP X pins σ Q) X.xe s
def PS (X : Cx) (st : Stmt) (t : TS) : Prop :=
  ∀ (pins : List (Addr × Obj)) (s : Shared) (σ : St) (H : Hp) (D : Ends), Inv X pins σ H s → t D σ H → wpAny (model X.prog X.w) X.A (exec st X.env) (SP X pins D) X.xe s
def PSs (X : Cx) (st : List Stmt) (t : TS) : Prop :=
  ∀ (pins : List (Addr × Obj)) (s : Shared) (σ : St) (H : Hp) (D : Ends), Inv X pins σ H s → t D σ H → wpAny (model X.prog X.w) X.A (execs st X.env) (SP X pins D) X.xe s
/-- weaken the end -/
theorem thn {α : Type} {t : Sem α} {Q Q' : α → Shared → Prop} {M : Model} {A : Around} {E : Value → Shared → Prop} {s : Shared} (h : wpAny M A t Q E s) (hQ : ∀ a s, Q a s → Q' a s) : wpAny M A t Q' E s := wpAny_mono h hQ fun _ _ x => x
end L2

namespace L2
open PySem PySem.Spec PyProof.Rows
section
variable {X : Cx}

/-! ### names and constants -/
def tVar (i : Nat) : TE := fun σ H Q => ∃ v, σ[i]? = some (some v) ∧ Q v H
def tC (v : V) : TE := fun _ H Q => Q v H
theorem pe_var {i : Nat} {x : Str} {pos : Pos} (hN : X.N[i]? = some x) (hv : Vis X.env.scope x) (hd : (x == ("__debug__" : Str)) = false := by decide) (hcd : (x == ("__classdict__" : Str)) = false := by decide) : PE X (.Name x pos) (tVar i) := by
  intro pins s σ H Q I h
  obtain ⟨v, e, h⟩ := h
  obtain ⟨m, hn, hl⟩ := I.loc
  obtain ⟨u, r, l⟩ := hl i x v hN e hv
  have fin : EP X pins σ Q u s := ⟨v, H, I, r, h⟩
  rcases l with ⟨hk, hm⟩ | ⟨hk, c, hc, hcell⟩
  · exact wpAny_Name (wpAny_loadName_local I.ok.kind hk hn hm fin) hd
  · rcases hk with hk | hk
    · exact wpAny_Name (wpAny_loadName_cell I.ok.kind hk hc hcell fin) hd
    · exact wpAny_Name (wpAny_loadName_free I.ok.kind hk hc hcell fin hcd) hd
theorem pe_int {i j pos} : PE X (.Constant (.int i) j pos) (tC (.int i)) := fun _ _ _ H _ I h => wpAny_Constant_int ⟨.int i, H, I.tok _, ⟨_, rfl⟩, h⟩
theorem pe_bl {b j pos} : PE X (.Constant (.bool b) j pos) (tC (.bl b)) := fun _ _ _ H _ I h => Constant_bool ⟨.bl b, H, I, rfl, h⟩
theorem pe_non {j pos} : PE X (.Constant .none j pos) (tC .non) := fun _ _ _ H _ I h => Constant_none ⟨.non, H, I, rfl, h⟩
theorem pe_str {x j pos} : PE X (.Constant (.str x) j pos) (tC (.str x)) := fun _ _ _ H _ I h => Calls.Constant_str ⟨.str x, H, I.tok _, ⟨_, rfl⟩, h⟩

/-- a global name of the def -/
def Gl (X : Cx) (x : Str) : Prop := X.env.kindOf x = some .globalImplicit
theorem ld_glob {E : Value → Shared → Prop} {pins : List (Addr × Obj)} {s : Shared} {σ : St} {H : Hp} {x : Str} {u : Value} {pos : Pos} {Q : Value → Shared → Prop} (I : Inv X pins σ H s) (hg : Gl X x) (hm : X.mg x = some u) (h : Q u s)
    (hd : (x == ("__debug__" : Str)) = false := by decide) : wpAny (model X.prog X.w) X.A (eval (.Name x pos) X.env) Q E s :=
  Calls.Name_function_global I.ok.kind hg (Calls.loadGlobal_global (by rw [I.ok.glob]; exact I.mod.glob.keeps I.bk) hm h) hd
theorem ld_blt {E : Value → Shared → Prop} {pins : List (Addr × Obj)} {s : Shared} {σ : St} {H : Hp} {x : Str} {u : Value} {pos : Pos} {Q : Value → Shared → Prop} (I : Inv X pins σ H s) (hg : Gl X x) (hm : X.mg x = none) (hv : bootBuiltins x = some u) (h : Q u s)
    (hn : x ≠ "__name__" := by decide) (hd : (x == ("__debug__" : Str)) = false := by decide) : wpAny (model X.prog X.w) X.A (eval (.Name x pos) X.env) Q E s := by
  obtain ⟨mb, h1, h2⟩ := I.mod.blt
  exact Calls.Name_function_global I.ok.kind hg (Calls.loadGlobal_builtin (by rw [I.ok.glob]; exact I.mod.glob.keeps I.bk) hm (by rw [I.ok.blt]; exact h1.keeps I.bk) ((h2 x hn).trans hv) h) hd
/-- a module's constant, a class, a function, as a value -/
theorem pe_glob {x : Str} {v : V} {u : Value} {pos : Pos} (hg : Gl X x) (hm : X.mg x = some u) (r : RelV v u) (hd : (x == ("__debug__" : Str)) = false := by decide) : PE X (.Name x pos) (tC v) :=
  fun _ _ _ H _ I h => ld_glob I hg hm ⟨v, H, I, r, h⟩ hd
/-! ### arithmetic -/
/-- two ints -/
def t2I (ta tb : TE) (k : Int → Int → Hp → Prop) : St → Hp → Prop := fun σ H => ta σ H fun x H1 => tb σ H1 fun y H2 => ∃ i j, x = .int i ∧ y = .int j ∧ k i j H2
variable {a b : Expr} {ta tb : TE} {pos : Pos}
/-! ### comparisons -/
theorem nobehind (b : Expr) {op : CmpOp} (h : op ≠ .In) (h2 : op ≠ .NotIn) : behindInMarks op b = false := by
  have e1 : (op == CmpOp.In) = false := by cases op <;> first | rfl | exact absurd rfl h
  have e2 : (op == CmpOp.NotIn) = false := by cases op <;> first | rfl | exact absurd rfl h2
  cases b <;> simp [behindInMarks, e1, e2]
def tCmp (p : Int → Int → Bool) (ta tb : TE) : TE := fun σ H Q => t2I ta tb (fun i j H2 => Q (.bl (p i j)) H2) σ H
abbrev tLt : TE → TE → TE := tCmp fun i j => decide (i < j)
abbrev tGt : TE → TE → TE := tCmp fun i j => decide (j < i)
/-- a comparison as a value, as a test -/
def tB (t : TE) : TT := fun σ H Q => t σ H fun x H1 => ∃ c, x = .bl c ∧ Q c H1
/-- an expression whose value is a bool, as a test -/
theorem pt_val {e : Expr} {t : TE} (h : PE X e t) (he : ∀ whole, isTrue e X.env whole = (do let v ← whole; standAt e.pos; holding [v] (truthy v)) := by intro _; rfl) : PT X e (tB t) := by
  intro pins s σ H Q I hw
  refine isTrue_plain (thn (h pins s σ H _ I hw) fun v s1 ⟨x, H1, I1, r1, q1⟩ => ?_) (he _)
  obtain ⟨d, rfl, q⟩ := q1
  cases r1
  exact wpAny_truthy_bool ⟨H1, I1, q⟩

/-! ### and, or, not -/
variable {tA tB' : TT} {rest : List Expr}
def tAnd (t u : TT) : TT := fun σ H Q => t σ H fun c H1 => if c = true then u σ H1 Q else Q false H1
def tOr (t u : TT) : TT := fun σ H Q => t σ H fun c H1 => if c = true then Q true H1 else u σ H1 Q
def tNot (t : TT) : TT := fun σ H Q => t σ H fun c H1 => Q (!c) H1
theorem pw_and1 (ha : PT X a tA) : PW X (.BoolOp .And [a] pos) tA := by
  intro wh pins s σ H Q I h
  refine isTrue_and (thn (ha pins s σ H Q I h) fun c s1 e => ?_)
  cases c with
  | true => exact isTrue_and_nil e
  | false => exact e
theorem pw_or1 (ha : PT X a tA) : PW X (.BoolOp .Or [a] pos) tA := by
  intro wh pins s σ H Q I h
  refine isTrue_or (thn (ha pins s σ H Q I h) fun c s1 e => ?_)
  cases c with
  | false => exact isTrue_or_nil e
  | true => exact e
theorem pw_and (ha : PT X a tA) (hb : PW X (.BoolOp .And (b :: rest) pos) tB') : PW X (.BoolOp .And (a :: b :: rest) pos) (tAnd tA tB') := by
  intro wh pins s σ H Q I h
  refine isTrue_and (thn (ha pins s σ H _ I h) fun c s1 ⟨H1, I1, q1⟩ => ?_)
  cases c with
  | true => exact hb wh pins s1 σ H1 Q I1 q1
  | false => exact ⟨H1, I1, q1⟩
theorem pw_or (ha : PT X a tA) (hb : PW X (.BoolOp .Or (b :: rest) pos) tB') : PW X (.BoolOp .Or (a :: b :: rest) pos) (tOr tA tB') := by
  intro wh pins s σ H Q I h
  refine isTrue_or (thn (ha pins s σ H _ I h) fun c s1 ⟨H1, I1, q1⟩ => ?_)
  cases c with
  | true => exact ⟨H1, I1, q1⟩
  | false => exact hb wh pins s1 σ H1 Q I1 q1
theorem pt_not (ha : PT X a tA) : PT X (.UnaryOp .Not a pos) (tNot tA) := by
  intro pins s σ H Q I h
  exact isTrue_not (ha pins s σ H (fun c H1 => Q (!c) H1) I h)
/-- .. as values (bools) -/
def tAndV (ta tb : TE) : TE := fun σ H Q => ta σ H fun x H1 => ∃ c, x = .bl c ∧ if c = true then tb σ H1 Q else Q (.bl false) H1
theorem pe_one {op} {t : TE} (h : PE X a t) : PE X (.BoolOp op [a] pos) t := fun pins s σ H Q I hw => BoolOp_one (h pins s σ H Q I hw)
theorem pe_and (ha : PE X a ta) (hb : PE X (.BoolOp .And (b :: rest) pos) tb) : PE X (.BoolOp .And (a :: b :: rest) pos) (tAndV ta tb) := by
  intro pins s σ H Q I h
  refine BoolOp_and (thn (ha pins s σ H _ I h) fun v s1 ⟨x, H1, I1, r1, q1⟩ => ?_)
  obtain ⟨c, rfl, q1⟩ := q1
  cases r1
  refine wpAny_truthy_bool ?_
  cases c with
  | true => exact hb pins s1 σ H1 Q I1 q1
  | false => exact ⟨.bl false, H1, I1, rfl, q1⟩
end
end L2

namespace L2
open PySem PySem.Spec PyProof.Rows

/-! ### a list, a tuple that is read: tracked, frozen, or an object of the module -/
def SqL (K : PySem.W.Frag) (H : Hp) (a : Addr) (xs : List V) : Prop :=
  Rd H a (.lst xs) ∨
    ∃ (o : Obj) (its : Array Value) (n : Nat), K.lookup a = some o ∧ o.cls = .type "list" ∧ o.dict = none ∧ o.data = .seq its n ∧ its.size ≤ sizeLine ∧ Vals xs its.toList
def SqT (K : PySem.W.Frag) (H : Hp) (a : Addr) (xs : List V) : Prop :=
  Rd H a (.tup xs) ∨
    ∃ (o : Obj) (its : Array Value) (n : Nat), K.lookup a = some o ∧ o.cls = .type "tuple" ∧ o.data = .seq its n ∧ its.size ≤ sizeLine ∧ Vals xs its.toList
def absV : Value → Option V
  | .none => some .non
  | .bool b => some (.bl b)
  | .int i _ => some (.int i)
  | .str x _ => some (.str x)
  | .bytes b _ => some (.byt b)
  | .float b _ => some (.flt b)
  | .ref a => some (.ref a)
  | .type n => some (.ty n)
  | _ => none
theorem RelV.abs {x : V} {u : Value} (r : RelV x u) : absV u = some x := by
  cases x with
  | non => cases r; rfl
  | bl _ => cases r; rfl
  | int _ => obtain ⟨t, rfl⟩ := r; rfl
  | str _ => obtain ⟨t, rfl⟩ := r; rfl
  | byt _ => obtain ⟨t, rfl⟩ := r; rfl
  | flt _ => obtain ⟨t, rfl⟩ := r; rfl
  | ref _ => cases r; rfl
  | ty _ => cases r; rfl
theorem RelV.inj {x y : V} {u : Value} (r : RelV x u) (q : RelV y u) : x = y := Option.some.inj (r.abs.symm.trans q.abs)
theorem Vals.inj : ∀ {xs ys : List V} {us : List Value}, Vals xs us → Vals ys us → xs = ys
  | _, _, _, .nil, .nil => rfl
  | _, _, _, .cons r t, .cons r' t' => by rw [r.inj r', Vals.inj t t']
section
variable {X : Cx} {pins : List (Addr × Obj)} {σ : St} {H : Hp} {s : Shared} {a : Addr} {xs ys : List V}
theorem SqL.of {K : PySem.W.Frag} (h : H a = some (.lst xs)) : SqL K H a xs := .inl (.inl h)
theorem SqT.of {K : PySem.W.Frag} (h : H a = some (.tup xs)) : SqT K H a xs := .inl (.inl h)
theorem Inv.list (I : Inv X pins σ H s) (h : SqL X.K H a xs) : ∃ its : List Value, Vals xs its ∧ PlainL s.heap a its.toArray ∧ xs.length ≤ sizeLine := by
  rcases h with h | ⟨o, its, n, hk, hc, hd, hs, hz, r⟩
  · obtain ⟨z, its, n, r, e⟩ := h.ok I.hok
    exact ⟨its, r, ⟨_, n, e, rfl, rfl, rfl⟩, z⟩
  · refine ⟨its.toList, r, ⟨o, n, I.kIn a o hk, hc, hd, by simpa using hs⟩, ?_⟩
    have e := r.length
    simp only [Array.length_toList] at e
    omega
theorem Inv.tuple (I : Inv X pins σ H s) (h : SqT X.K H a xs) : ∃ its : List Value, Vals xs its ∧ IsTup s.heap a its.toArray ∧ xs.length ≤ sizeLine := by
  rcases h with h | ⟨o, its, n, hk, hc, hs, hz, r⟩
  · obtain ⟨z, its, r, p⟩ := h.ok I.hok
    exact ⟨its, r, p, z⟩
  · refine ⟨its.toList, r, ⟨o, I.kIn a o hk, hc, n, by simpa using hs⟩, ?_⟩
    have e := r.length
    simp only [Array.length_toList] at e
    omega
theorem Inv.list_inj (I : Inv X pins σ H s) (h : SqL X.K H a xs) (h' : SqL X.K H a ys) : xs = ys := by
  obtain ⟨its, r, ⟨o, n, e, _, _, d⟩, _⟩ := I.list h
  obtain ⟨its', r', ⟨o', n', e', _, _, d'⟩, _⟩ := I.list h'
  rw [e] at e'; cases e'
  rw [d] at d'
  injection d' with d1 _
  have : its = its' := by simpa using congrArg Array.toList d1
  subst this
  exact r.inj r'
theorem Inv.tuple_inj (I : Inv X pins σ H s) (h : SqT X.K H a xs) (h' : SqT X.K H a ys) : xs = ys := by
  obtain ⟨its, r, ⟨o, e, _, n, d⟩, _⟩ := I.tuple h
  obtain ⟨its', r', ⟨o', e', _, n', d'⟩, _⟩ := I.tuple h'
  rw [e] at e'; cases e'
  rw [d] at d'
  injection d' with d1 _
  have : its = its' := by simpa using congrArg Array.toList d1
  subst this
  exact r.inj r'
end

/-! ### another wish about exceptions -/
abbrev Cx.wish (X : Cx) (E : Value → Shared → Prop) : Cx := { X with xe := E }
/-- no exception leaves -/
abbrev Cx.nox (X : Cx) : Cx := X.wish fun _ _ => False
theorem Cx.Ok.wish {X : Cx} (ok : X.Ok) (E : Value → Shared → Prop) : (X.wish E).Ok :=
  ⟨ok.mod, ok.kind, ok.glob, ok.blt, ok.above, ok.inj, ok.has, ok.cab, ok.hd, ok.frames, ok.stk, ok.exf, ok.bs, ok.bsz, ok.noex, ok.exfs, ok.funs, ok.frf⟩
theorem Cx.Ok.unwish {X : Cx} {E : Value → Shared → Prop} (ok : (X.wish E).Ok) : X.Ok :=
  ⟨ok.mod, ok.kind, ok.glob, ok.blt, ok.above, ok.inj, ok.has, ok.cab, ok.hd, ok.frames, ok.stk, ok.exf, ok.bs, ok.bsz, ok.noex, ok.exfs, ok.funs, ok.frf⟩
section
variable {X : Cx} {pins : List (Addr × Obj)} {σ : St} {H : Hp} {s : Shared} {E : Value → Shared → Prop}
theorem Inv.wish (I : Inv X pins σ H s) (E : Value → Shared → Prop) : Inv (X.wish E) pins σ H s := ⟨I.ok.wish E, I.os, I.bare, I.base, I.loc, I.cell, I.free, I.freeC, I.pin, I.hok, I.len⟩
theorem Inv.unwish (I : Inv (X.wish E) pins σ H s) : Inv X pins σ H s := ⟨I.ok.unwish, I.os, I.bare, I.base, I.loc, I.cell, I.free, I.freeC, I.pin, I.hok, I.len⟩
theorem SP.unwish {D : Ends} {f : Flow} {s' : Shared} (h : SP (X.wish E) pins D f s') : SP X pins D f s' := by
  cases f with
  | next => obtain ⟨σ', H', I, q⟩ := h; exact ⟨σ', H', I.unwish, q⟩
  | brk => obtain ⟨σ', H', I, q⟩ := h; exact ⟨σ', H', I.unwish, q⟩
  | cont => obtain ⟨σ', H', I, q⟩ := h; exact ⟨σ', H', I.unwish, q⟩
  | ret u => obtain ⟨v, σ', H', I, r, q⟩ := h; exact ⟨v, σ', H', I.unwish, r, q⟩
theorem PE.nox {e : Expr} {t : TE} (h : PE X.nox e t) : PE X e t := fun pins s σ H Q I hw =>
  wpAny_mono (h pins s σ H Q (I.wish _) hw) (fun _ _ ⟨v, H', I', r, q⟩ => ⟨v, H', I'.unwish, r, q⟩) fun _ _ z => False.elim z
theorem PT.nox {e : Expr} {t : TT} (h : PT X.nox e t) : PT X e t := fun pins s σ H Q I hw =>
  wpAny_mono (h pins s σ H Q (I.wish _) hw) (fun _ _ ⟨H', I', q⟩ => ⟨H', I'.unwish, q⟩) fun _ _ z => False.elim z
theorem PSs.nox {st : List Stmt} {t : TS} (h : PSs X.nox st t) : PSs X st t := fun pins s σ H D I hw =>
  wpAny_mono (h pins s σ H D (I.wish _) hw) (fun _ _ q => q.unwish) fun _ _ z => False.elim z
end

/-! ### blocks and small statements -/
section
variable {X : Cx} {st : Stmt} {rest : List Stmt} {t u : TS} {e : Expr} {te : TE} {pos : Pos}
def tNext : TS := fun D σ H => D.nx σ H
def tSeq (t u : TS) : TS := fun D σ H => t { D with nx := u D } σ H
theorem pss_nil : PSs X [] tNext := fun _ _ σ H _ I h => wpAny_execs_nil ⟨σ, H, I, h⟩
theorem pss_cons (h1 : PS X st t) (h2 : PSs X rest u) : PSs X (st :: rest) (tSeq t u) := by
  intro pins s σ H D I h
  refine wpAny_execs_cons (thn (h1 pins s σ H { D with nx := u D } I h) fun f s1 q => ?_)
  cases f with
  | next =>
    obtain ⟨σ', H', I', q⟩ := q
    exact h2 pins s1 σ' H' D I' q
  | ret v => exact q
  | brk => exact q
  | cont => exact q
theorem pss_one (h1 : PS X st t) : PSs X [st] t := by
  intro pins s σ H D I h
  refine wpAny_execs_cons (thn (h1 pins s σ H D I h) fun f s1 q => ?_)
  cases f with
  | next => exact wpAny_execs_nil q
  | ret v => exact q
  | brk => exact q
  | cont => exact q
/-- in a def's body nothing is shown -/
theorem Inv.quiet {pins : List (Addr × Obj)} {σ : St} {H : Hp} {s : Shared} (I : Inv X pins σ H s) : interactive X.env = false := by simp [interactive, I.ok.kind]
/-- an expression whose value is dropped -/
def tDrop (te : TE) : TS := fun D σ H => te σ H fun _ H1 => D.nx σ H1
theorem ps_expr (he : PE X e te) (hs : swapsWith e none pos.line X.env = pure false := by rfl) : PS X (.Expr e pos) (tDrop te) := by
  intro pins s σ H D I h
  exact wpAny_Expr_any (thn (he pins s σ H _ I h) fun v s1 ⟨x, H1, I1, r1, q1⟩ => ⟨σ, H1, I1, q1⟩) I.quiet hs
def tRet (te : TE) : TS := fun D σ H => te σ H D.rt
theorem ps_ret (he : PE X e te) : PS X (.Return (some e) pos) (tRet te) := by
  intro pins s σ H D I h
  exact wpAny_Return_some (thn (he pins s σ H _ I h) fun v s1 ⟨x, H1, I1, r1, q1⟩ => ⟨x, σ, H1, I1, r1, q1⟩)
def tIfS (c : TT) (t u : TS) : TS := fun D σ H => c σ H fun b H1 => if b = true then t D σ H1 else u D σ H1
theorem ps_if {c : Expr} {a b : List Stmt} {tc : TT} (hc : PT X c tc) (ha : PSs X a t) (hb : PSs X b u) : PS X (.If c a b pos) (tIfS tc t u) := by
  intro pins s σ H D I h
  refine wpAny_If (thn (hc pins s σ H _ I h) fun d s1 ⟨H1, I1, q1⟩ => ?_)
  cases d with
  | true => exact ha pins s1 σ H1 D I1 q1
  | false => exact hb pins s1 σ H1 D I1 q1
end

/-! ### targets -/
abbrev TG := V → St → Hp → (St → Hp → Prop) → Prop
abbrev TGs := List V → St → Hp → (St → Hp → Prop) → Prop
def PG (X : Cx) (target : Expr) (t : TG) : Prop :=
  ∀ (pins : List (Addr × Obj)) (s : Shared) (σ : St) (H : Hp) (v : V) (u : Value) (Q : St → Hp → Prop), Inv X pins σ H s → RelV v u → t v σ H Q →
    wpAny (model X.prog X.w) X.A (assign target X.env u) (fun _ s' => ∃ σ' H', Inv X pins σ' H' s' ∧ Q σ' H') X.xe s
/-- several targets, one after another -/
def PGs (X : Cx) (ts : List Expr) (t : TGs) : Prop :=
  ∀ (pins : List (Addr × Obj)) (s : Shared) (σ : St) (H : Hp) (vs : List V) (us : List Value) (Q : St → Hp → Prop), Inv X pins σ H s → Vals vs us → t vs σ H Q →
    wpAny (model X.prog X.w) X.A (assignInOrder ((assignEach ts X.env).map (·.2)) us) (fun _ s' => ∃ σ' H', Inv X pins σ' H' s' ∧ Q σ' H') X.xe s
/-- o[i] = v, by values -/
abbrev TSet := V → V → V → Hp → (Hp → Prop) → Prop
def PSet (X : Cx) (t : TSet) : Prop :=
  ∀ (pins : List (Addr × Obj)) (s : Shared) (σ : St) (H : Hp) (o i v : V) (ov iv u : Value) (Q : Hp → Prop), Inv X pins σ H s → RelV o ov → RelV i iv → RelV v u → t o i v H Q →
    wpAny (model X.prog X.w) X.A (setItem ov iv u) (fun _ s' => ∃ H', Inv X pins σ H' s' ∧ Q H') X.xe s
section
variable {X : Cx} {pos : Pos}
def gName (i : Nat) : TG := fun v σ H Q => Q (σ.set i (some v)) H
theorem pg_name {i : Nat} {x : Str} (hN : X.N.Nodup) (hi : X.N[i]? = some x) (hx : Loc X.env.scope x) (hf : X.fn x = true ∨ X.env.scope.names.lookup x = some .local := by first | exact .inl rfl | exact .inr rfl | assumption) : PG X (.Name x pos) (gName i) := by
  intro pins s σ H v u Q I r h
  exact wpAny_assign_Name (store_ok I hN hi hx r (fun s' I' => ⟨_, H, I', h⟩) hf)
def gNil : TGs := fun vs σ H Q => vs = [] ∧ Q σ H
def gCons (t : TG) (u : TGs) : TGs := fun vs σ H Q => ∃ v r, vs = v :: r ∧ t v σ H fun σ' H' => u r σ' H' Q
theorem pgs_nil : PGs X [] gNil := by
  intro pins s σ H vs us Q I r h
  obtain ⟨e, h⟩ := h
  subst e
  cases r
  exact assignInOrder_nil ⟨σ, H, I, h⟩
theorem pgs_cons {e : Expr} {es : List Expr} {t : TG} {u : TGs} (h1 : PG X e t) (h2 : PGs X es u)
    (hs : (assignEach (e :: es) X.env).map (·.2) = assign e X.env :: (assignEach es X.env).map (·.2) := by rfl) : PGs X (e :: es) (gCons t u) := by
  intro pins s σ H vs us Q I r h
  obtain ⟨v, vr, e1, h⟩ := h
  subst e1
  cases r with
  | cons r rr =>
    rw [hs]
    refine assignInOrder_cons (thn (h1 pins s σ H _ _ _ I r h) fun _ s1 ⟨σ1, H1, I1, q1⟩ => ?_)
    exact h2 pins s1 σ1 H1 _ _ Q I1 rr q1
/-- (a, b, ..) = a tuple of that length -/
def gTup (K : PySem.W.Frag) (n : Nat) (t : TGs) : TG := fun v σ H Q => ∃ a xs, v = .ref a ∧ SqT K H a xs ∧ xs.length = n ∧ t xs σ H Q
theorem pg_tup {es : List Expr} {k : Nat} {t : TGs} {n : Nat} (hc : X.calm = true) (h : PGs X es t)
    (hn : (assignEach es X.env).length = n := by rfl) (hst : (assignEach es X.env).findIdx? (·.1) = none := by rfl) : PG X (.Tuple es k pos) (gTup X.K n t) := by
  intro pins s σ H v u Q I r hw
  obtain ⟨a, xs, e1, hq, hl, hw⟩ := hw
  subst e1
  cases r
  obtain ⟨its, rv, ht, hz⟩ := I.tuple hq
  refine assign_Tuple_tuple (I.ok.hd hc) ht (by simp [hn, ← hl, rv.length]) hst fun h' hx => ?_
  have I1 : Inv X pins σ H { s with heap := h' } := I.kept (t' := s.toks) fun b o e => hx b o (Nat.ne_of_lt (Heap.lt_size e)) e
  exact h pins _ σ H xs _ Q I1 (by simpa using rv) hw
/-- o[i] = .. -/
def gSub (to ti : TE) (t : TSet) : TG := fun v σ H Q => to σ H fun o H1 => ti σ H1 fun i H2 => t o i v H2 fun H3 => Q σ H3
theorem pg_sub {o i : Expr} {to ti : TE} {t : TSet} (ho : PE X o to) (hi : PE X i ti) (hs : PSet X t)
    (ha : ∀ v, assign (.Subscript o i pos) X.env v = (do
      let ov ← holding [v] (eval o X.env)
      let iv ← holding [v, ov] (eval i X.env)
      standAt pos
      holding [v, ov, iv] (setItem ov iv v)
      release [v, ov, iv] []) := by intro _; rfl) : PG X (.Subscript o i pos) (gSub to ti t) := by
  intro pins s σ H v u Q I r h
  rw [ha]
  refine wpAny_bind (wpAny_holding (thn (ho pins s σ H _ I h) fun ov s1 ⟨x, H1, I1, r1, q1⟩ => ?_))
  refine wpAny_bind (wpAny_holding (thn (hi pins s1 σ H1 _ I1 q1) fun iv s2 ⟨y, H2, I2, r2, q2⟩ => ?_))
  refine wpAny_bind (wpAny_standAt (wpAny_bind (wpAny_holding (thn (hs pins s2 σ H2 x y v ov iv u _ I2 r1 r2 r q2) fun _ s3 ⟨H3, I3, q3⟩ => ?_))))
  exact wpAny_release ⟨σ, H3, I3, q3⟩
/-- target = value -/
def tAsg (te : TE) (g : TG) : TS := fun D σ H => te σ H fun x H1 => g x σ H1 D.nx
theorem ps_asg {tg e : Expr} {te : TE} {g : TG} (he : PE X e te) (hg : PG X tg g) (hs : swapsWithSole [tg] e pos.line X.env = pure false := by rfl) (hw : swappedStores [tg] e X.env = pure none := by rfl)
    (h1 : (assignEach [tg] X.env).map (·.2) = [assign tg X.env] := by rfl) : PS X (.Assign [tg] e pos) (tAsg te g) := by
  intro pins s σ H D I h
  refine wpAny_Assign_stores (thn (he pins s σ H _ I h) fun v s1 ⟨x, H1, I1, r1, q1⟩ => ?_) hs hw
  rw [h1]
  exact thn (hg pins s1 σ H1 x v _ I1 r1 q1) fun _ s2 q => q
/-- name = value -/
theorem ps_set {i : Nat} {x : Str} {e : Expr} {te : TE} {pos' : Pos} (hN : X.N.Nodup) (hi : X.N[i]? = some x) (hx : Loc X.env.scope x) (he : PE X e te) (hs : swapsWith e (some (.Name x pos')) pos.line X.env = pure false := by rfl) (hf : X.fn x = true ∨ X.env.scope.names.lookup x = some .local := by first | exact .inl rfl | exact .inr rfl | assumption) :
    PS X (.Assign [.Name x pos'] e pos) (tAsg te (gName i)) := by
  intro pins s σ H D I h
  refine wpAny_Assign_Name (thn (he pins s σ H _ I h) fun v s1 ⟨y, H1, I1, r1, q1⟩ => ?_) hs
  exact store_ok I1 hN hi hx r1 (fun s2 I2 => ⟨_, H1, I2, q1⟩) hf
end

/-! ### while -/
section
variable {X : Cx} {pos : Pos}
/-- the invariant W with its measure -/
def tWhile (c : TT) (tb : TS) : TS := fun D σ H => ∃ W : Nat → St → Hp → Prop, (∃ m, W m σ H) ∧ ∀ m σ H, W m σ H →
  c σ H fun b H1 => if b = true then ∃ N : St → Hp → Prop, (∀ σ' H', N σ' H' → ∃ m', m' < m ∧ W m' σ' H') ∧ tb { D with nx := N, ct := N, bk := D.nx } σ H1 else D.nx σ H1
theorem ps_while {c : Expr} {body : List Stmt} {tc : TT} {tb : TS} (hp : PassesOwn (model X.prog X.w) X.A X.env X.xe) (hc : PT X c tc) (hb : PSs X body tb) : PS X (.While c body [] pos) (tWhile tc tb) := by
  intro pins s σ H D I h
  obtain ⟨W, ⟨m0, w0⟩, turn⟩ := h
  refine wpAny_While (codeAny_whileLoop (fun n s' => ∃ σ' H', Inv X pins σ' H' s' ∧ W n σ' H') ?_ m0 ⟨σ, H, I, w0⟩)
  rintro n s1 ⟨σ1, H1, I1, w1⟩
  refine wpAny_passesOwn hp (thn (hc pins s1 σ1 H1 _ I1 (turn n σ1 H1 w1)) fun b s2 ⟨H2, I2, q2⟩ => ?_)
  cases b with
  | true =>
    obtain ⟨N, hN, q2⟩ := q2
    rw [if_pos rfl]
    refine wpAny_passesOwn hp (thn (hb pins s2 σ1 H2 _ I2 q2) fun f s3 q3 => ?_)
    cases f with
    | next =>
      obtain ⟨σ3, H3, I3, n3⟩ := q3
      obtain ⟨m', hm, w3⟩ := hN σ3 H3 n3
      exact ⟨m', hm, σ3, H3, I3, w3⟩
    | cont =>
      obtain ⟨σ3, H3, I3, n3⟩ := q3
      obtain ⟨m', hm, w3⟩ := hN σ3 H3 n3
      exact ⟨m', hm, σ3, H3, I3, w3⟩
    | brk => exact q3
    | ret v => exact q3
  | false =>
    rw [if_neg Bool.false_ne_true]
    exact wpAny_execs_nil ⟨σ1, H2, I2, q2⟩
end

/-! ### what a loop or a comprehension walks -/
/-- at turn i: it yields x (the heap may grow), or it stops -/
structure It where
  go : Nat → Hp → Prop
  yld : Nat → Hp → V → Hp → Prop
  stop : Nat → Hp → Prop
/-- the iterator's own objects may turn: they are not the frame's, not pinned, younger than the entry (or a comprehension's own) -/
def FpOk (X : Cx) (pins : List (Addr × Obj)) (H : Hp) (b : Addr) : Prop :=
  H b = none ∧ b ≠ X.env.locals ∧ b ∉ X.fs ∧ (b ∈ X.ex ∨ X.s₀.heap.objs.size ≤ b) ∧ (∀ x c, X.env.cells.lookup x = some c → c ≠ b) ∧ ∀ p ∈ X.pn ++ pins, p.1 ≠ b
theorem Inv.fpOk {X : Cx} {pins : List (Addr × Obj)} {σ : St} {H H' : Hp} {s : Shared} {b : Addr} (I : Inv X pins σ H s) (hb : s.heap.objs.size ≤ b) (hn : H' b = none) : FpOk X pins H' b := by
  refine ⟨hn, Nat.ne_of_gt (Nat.lt_of_lt_of_le I.lt hb), I.nofs hb, .inr (Nat.le_trans I.sz hb), fun x c e z => ?_, fun p hp z => ?_⟩
  · obtain ⟨v, q⟩ := I.cell x c e
    exact absurd (Nat.lt_of_lt_of_le q.lt (by rw [z]; exact hb)) (Nat.lt_irrefl _)
  · exact absurd (Nat.lt_of_lt_of_le (Heap.lt_size (I.pin p hp).1) (by rw [z]; exact hb)) (Nat.lt_irrefl _)
structure Turn (P : Program) (w : World) (K : PySem.W.Frag) (tg : Expr) (J : It) (fp : List Addr) (it : Addr) (tn : Nat → Heap → Prop) : Prop where
  mem : it ∈ fp
  obj : ∀ i h, tn i h → ∀ b ∈ fp, ∃ o, h.get? b = some o ∧ ∀ v, o.data ≠ .cell v
  keep : ∀ i h h', tn i h → (∀ b ∈ fp, ∀ o, h.get? b = some o → h'.get? b = some o) → tn i h'
  item : ∀ (X : Cx), X.prog = P → X.w = w → X.K = K → X.calm = true → ∀ (i : Nat) (pins : List (Addr × Obj)) (s : Shared) (σ : St) (H : Hp) (E : Value → Shared → Prop), Inv X pins σ H s → (∀ b ∈ fp, FpOk X pins H b) → tn i s.heap → J.go i H →
    wpAny (model P w) X.A (pyNext (.ref it)) (fun r s1 => ∃ u, r = some u ∧
      wpAny (model P w) X.A (letOwnedTupleGo tg (.ref it) u) (fun _ s2 => ∃ x H', Inv X pins σ H' s2 ∧ RelV x u ∧ J.yld i H x H' ∧ tn (i + 1) s2.heap ∧ ∀ b ∈ fp, H' b = none) E s1) E s
  done : ∀ (X : Cx), X.prog = P → X.w = w → X.K = K → X.calm = true → ∀ (i : Nat) (pins : List (Addr × Obj)) (s : Shared) (σ : St) (H : Hp) (E : Value → Shared → Prop), Inv X pins σ H s → (∀ b ∈ fp, FpOk X pins H b) → tn i s.heap → J.stop i H →
    wpAny (model P w) X.A (pyNext (.ref it)) (fun r s1 => r = none ∧ Inv X pins σ H s1) E s
  self : ∀ (A : Around) (i : Nat) (s : Shared) (Q : Value → Shared → Prop) (E : Value → Shared → Prop), tn i s.heap → Q (.ref it) s → wpAny (model P w) A (pyIter (.ref it)) Q E s
abbrev TI := St → Hp → (It → Hp → Prop) → Prop
/-- an iterator has come -/
def PIE (X : Cx) (pins : List (Addr × Obj)) (σ : St) (tg : Expr) (R : It → Hp → Prop) (itv : Value) (s2 : Shared) : Prop :=
  ∃ (it : Addr) (fp : List Addr) (tn : Nat → Heap → Prop) (J : It) (H' : Hp), itv = .ref it ∧ Inv X pins σ H' s2 ∧ Turn X.prog X.w X.K tg J fp it tn ∧ tn 0 s2.heap ∧ (∀ b ∈ fp, FpOk X pins H' b) ∧ R J H'
def PI (X : Cx) (tg iter : Expr) (wi : TI) : Prop :=
  ∀ (pins : List (Addr × Obj)) (s : Shared) (σ : St) (H : Hp) (R : It → Hp → Prop), Inv X pins σ H s → wi σ H R →
    wpAny (model X.prog X.w) X.A (eval iter X.env) (fun v s1 => wpAny (model X.prog X.w) X.A (pyIter v) (PIE X pins σ tg R) X.xe s1) X.xe s

/-- the step ahead of the store is nothing for an iterator that keeps no tuple -/
theorem go_of {M : Model} {A : Around} {E : Value → Shared → Prop} {s : Shared} {tg : Expr} {it : Addr} {u : Value} {o : Obj} {n : String} {vs : Array Value} {Q : Unit → Shared → Prop} (ho : s.heap.get? it = some o) (hc : o.cls = .type n) (hd : o.data = .fields vs)
    (hn : ["enumerate", "zip", "dict_itemiterator", "dict_reverseitemiterator", "odict_iterator", "itertools.zip_longest", "itertools.pairwise"].contains n = false) (hQ : Q () s) : wpAny M A (letOwnedTupleGo tg (.ref it) u) Q E s := by
  unfold letOwnedTupleGo
  cases tg <;> first
    | exact wpAny_pure hQ
    | (cases u <;> first
        | exact wpAny_pure hQ
        | (refine wpAny_bind (wpAny_load ho ?_)
           rw [hc, hd]
           show wpAny M A (if (["enumerate", "zip", "dict_itemiterator", "dict_reverseitemiterator", "odict_iterator", "itertools.zip_longest", "itertools.pairwise"].contains n && vs[0]? == some (rawInt _)) = true then _ else _) Q E s
           rw [if_neg (by intro h; rw [hn, Bool.false_and] at h; cases h)]
           exact wpAny_pure hQ))

/-- the list at a, as it stands at each turn (a loop may append to it) -/
def Itl (K : PySem.W.Frag) (a : Addr) : It :=
  ⟨fun i H => ∃ xs x, SqL K H a xs ∧ xs[i]? = some x, fun i H x H' => H' = H ∧ ∀ xs, SqL K H a xs → xs[i]? = some x, fun i H => ∃ xs, SqL K H a xs ∧ xs.length ≤ i⟩
def Itt (K : PySem.W.Frag) (a : Addr) : It :=
  ⟨fun i H => ∃ xs x, SqT K H a xs ∧ xs[i]? = some x, fun i H x H' => H' = H ∧ ∀ xs, SqT K H a xs → xs[i]? = some x, fun i H => ∃ xs, SqT K H a xs ∧ xs.length ≤ i⟩
/-- lo, lo + 1, .. (n of them) -/
def Itr (lo : Int) (n : Nat) : It := ⟨fun i _ => i < n, fun i H x H' => H' = H ∧ x = .int (lo + i), fun i _ => n ≤ i⟩
theorem turn_list {P : Program} {w : World} {K : PySem.W.Frag} {tg : Expr} (a it : Addr) : Turn P w K tg (Itl K a) [it] it (fun i h => h.IsListIter it a i) where
  mem := by simp
  obj := fun i h st b hb => by
    have e : b = it := by simpa using hb
    subst e
    obtain ⟨o, e, c, d⟩ := st
    exact ⟨o, e, fun v z => by rw [d] at z; cases z⟩
  keep := fun i h h' st k => st.at fun o e => k it (by simp) o e
  item := by
    intro X hP hw hK hc i pins s σ H E I hf st hg
    subst hP hw hK
    obtain ⟨xs, x, hq, hx⟩ := hg
    obtain ⟨its, rv, p, hz⟩ := I.list hq
    obtain ⟨u, hu, ru⟩ := rv.get hx
    obtain ⟨f0, f1, f2, f3, f4, f5⟩ := hf it (by simp)
    refine wpAny_pyNext_list_item st p.isList (x := u) (by simpa using hu) fun h' st' sb => ?_
    have I1 : Inv X pins σ H { s with heap := h' } := I.turned (t' := s.toks) (fun b o hb e => (sb.2 b hb).trans e) f0 f1 f3 f4 f5
    obtain ⟨o, e, c, d⟩ := id st'
    exact ⟨u, rfl, go_of (s := { s with heap := h' }) e c d (by decide) ⟨x, H, I1, ru, ⟨rfl, fun ys hy => by rw [I.list_inj hy hq]; exact hx⟩, st', fun b hb => (hf b hb).1⟩⟩
  done := by
    intro X hP hw hK hc i pins s σ H E I hf st hg
    subst hP hw hK
    obtain ⟨xs, hq, hx⟩ := hg
    obtain ⟨its, rv, p, hz⟩ := I.list hq
    obtain ⟨f0, f1, f2, f3, f4, f5⟩ := hf it (by simp)
    have hl := rv.length
    exact wpAny_pyNext_list_end (I.ok.hd hc) st p.isList (by simp; omega) fun h' eb => ⟨rfl, I.turned (t' := s.toks) (fun b o hb e => eb b o hb e) f0 f1 f3 f4 f5⟩
  self := fun _ _ _ _ _ st h => wpAny_pyIter_listiter st h
theorem turn_tuple {P : Program} {w : World} {K : PySem.W.Frag} {tg : Expr} (a it : Addr) : Turn P w K tg (Itt K a) [it] it (fun i h => h.IsTupleIter it a i) where
  mem := by simp
  obj := fun i h st b hb => by
    have e : b = it := by simpa using hb
    subst e
    obtain ⟨o, e, c, d⟩ := st
    exact ⟨o, e, fun v z => by rw [d] at z; cases z⟩
  keep := fun i h h' st k => st.at fun o e => k it (by simp) o e
  item := by
    intro X hP hw hK hc i pins s σ H E I hf st hg
    subst hP hw hK
    obtain ⟨xs, x, hq, hx⟩ := hg
    obtain ⟨its, rv, p, hz⟩ := I.tuple hq
    obtain ⟨u, hu, ru⟩ := rv.get hx
    obtain ⟨f0, f1, f2, f3, f4, f5⟩ := hf it (by simp)
    refine wpAny_pyNext_tuple_item st (show s.heap.IsTuple a its.toArray from p) (x := u) (by simpa using hu) fun h' st' sb => ?_
    have I1 : Inv X pins σ H { s with heap := h' } := I.turned (t' := s.toks) (fun b o hb e => (sb.2 b hb).trans e) f0 f1 f3 f4 f5
    obtain ⟨o, e, c, d⟩ := id st'
    exact ⟨u, rfl, go_of (s := { s with heap := h' }) e c d (by decide) ⟨x, H, I1, ru, ⟨rfl, fun ys hy => by rw [I.tuple_inj hy hq]; exact hx⟩, st', fun b hb => (hf b hb).1⟩⟩
  done := by
    intro X hP hw hK hc i pins s σ H E I hf st hg
    subst hP hw hK
    obtain ⟨xs, hq, hx⟩ := hg
    obtain ⟨its, rv, p, hz⟩ := I.tuple hq
    obtain ⟨f0, f1, f2, f3, f4, f5⟩ := hf it (by simp)
    have hl := rv.length
    exact wpAny_pyNext_tuple_end (I.ok.hd hc) st (show s.heap.IsTuple a its.toArray from p) (by simp; omega) fun h' eb => ⟨rfl, I.turned (t' := s.toks) (fun b o hb e => eb b o hb e) f0 f1 f3 f4 f5⟩
  self := fun _ _ _ _ _ st h => wpAny_pyIter_tupleiter st h
theorem turn_range {P : Program} {w : World} {K : PySem.W.Frag} {tg : Expr} (it : Addr) (lo : Int) (n : Nat) : Turn P w K tg (Itr lo n) [it] it (fun i h => IsRangeIter h it (lo + (i : Nat) * 1) ((n : Int) - (i : Nat)) 1) where
  mem := by simp
  obj := fun i h st b hb => by
    have e : b = it := by simpa using hb
    subst e
    exact ⟨_, st, fun v z => by
      have z' : Data.fields _ = Data.cell v := z
      cases z'⟩
  keep := fun i h h' st k => k it (by simp) _ st
  item := by
    intro X hP hw hK hc i pins s σ H E I hf st hg
    subst hP hw hK
    obtain ⟨f0, f1, f2, f3, f4, f5⟩ := hf it (by simp)
    have W := Walks.range (prog := X.prog) (w := X.w) (I.ok.hd hc) it lo 1 n
    refine W.item i s _ _ hg st fun v h' tk hv st' kk => ?_
    obtain ⟨t, rfl⟩ := hv
    have I1 : Inv X pins σ H { s with heap := h', toks := tk } := I.turned (fun b o hb e => kk b o (by simpa using hb) e) f0 f1 f3 f4 f5
    refine ⟨_, rfl, go_of (s := { s with heap := h', toks := tk }) (n := "range_iterator") st' rfl rfl (by decide) ⟨.int (lo + i), H, I1, ⟨t, ?_⟩, ⟨rfl, rfl⟩, st', fun b hb => (hf b hb).1⟩⟩
    rw [Int.mul_one]
  done := by
    intro X hP hw hK hc i pins s σ H E I hf st hg
    subst hP hw hK
    obtain ⟨f0, f1, f2, f3, f4, f5⟩ := hf it (by simp)
    exact wpAny_pyNext_range_end (I.ok.hd hc) st (by have : n ≤ i := hg; omega) fun h' eb => ⟨rfl, I.turned (t' := s.toks) (fun b o hb e => eb b o hb e) f0 f1 f3 f4 f5⟩
  self := fun _ _ _ _ _ st h => wpAny_pyIter_rangeiter st h
end L2

namespace L2
open PySem PySem.Spec PyProof.Rows
section
variable {X : Cx} {tg : Expr}
def iList (K : PySem.W.Frag) (tl : TE) : TI := fun σ H R => tl σ H fun x H1 => ∃ a, x = .ref a ∧ (∃ xs, SqL K H1 a xs) ∧ R (Itl K a) H1
def iTup (K : PySem.W.Frag) (tl : TE) : TI := fun σ H R => tl σ H fun x H1 => ∃ a, x = .ref a ∧ (∃ xs, SqT K H1 a xs) ∧ R (Itt K a) H1
theorem pi_list {l : Expr} {tl : TE} (hl : PE X l tl) : PI X tg l (iList X.K tl) := by
  intro pins s σ H R I h
  refine thn (hl pins s σ H _ I h) fun v s1 ⟨x, H1, I1, r1, q1⟩ => ?_
  obtain ⟨a, e, ⟨xs, hq⟩, q⟩ := q1
  subst e
  cases r1
  obtain ⟨its, rv, p, hz⟩ := I1.list hq
  refine wpAny_pyIter_list p.isList ?_
  refine ⟨s1.heap.objs.size, [s1.heap.objs.size], _, _, H1, rfl, I1.kept (t' := s1.toks) fun b o e => Heap.get?_push_of_some _ e, turn_list a _, ⟨_, Heap.get?_push_size _ rfl, rfl, rfl⟩, fun b hb => ?_, q⟩
  have e : b = s1.heap.objs.size := by simpa using hb
  subst e
  exact I1.fpOk (Nat.le_refl _) (I1.hok.fresh (Nat.le_refl _))
theorem pi_tup {l : Expr} {tl : TE} (hl : PE X l tl) : PI X tg l (iTup X.K tl) := by
  intro pins s σ H R I h
  refine thn (hl pins s σ H _ I h) fun v s1 ⟨x, H1, I1, r1, q1⟩ => ?_
  obtain ⟨a, e, ⟨xs, hq⟩, q⟩ := q1
  subst e
  cases r1
  obtain ⟨its, rv, p, hz⟩ := I1.tuple hq
  refine wpAny_pyIter_tuple (show s1.heap.IsTuple a its.toArray from p) ?_
  refine ⟨s1.heap.objs.size, [s1.heap.objs.size], _, _, H1, rfl, I1.kept (t' := s1.toks) fun b o e => Heap.get?_push_of_some _ e, turn_tuple a _, ⟨_, Heap.get?_push_size _ rfl, rfl, rfl⟩, fun b hb => ?_, q⟩
  have e : b = s1.heap.objs.size := by simpa using hb
  subst e
  exact I1.fpOk (Nat.le_refl _) (I1.hok.fresh (Nat.le_refl _))
/-- a range object just made, walked -/
theorem range_it {pins : List (Addr × Obj)} {σ : St} {H : Hp} {s : Shared} {R : It → Hp → Prop} {E : Value → Shared → Prop} {lo hi : Int} {t u v : Tok} {tk : Nat} (I : Inv X pins σ H s) (h1 : -(2 ^ 62) ≤ lo) (h2 : lo < 2 ^ 62) (h3 : -(2 ^ 62) ≤ hi) (h4 : hi < 2 ^ 62)
    (q : R (Itr lo (hi - lo).toNat) H) : wpAny (model X.prog X.w) X.A (pyIter (.ref s.heap.objs.size)) (PIE X pins σ tg R) E { s with heap := s.heap.push { cls := .type "range", data := .fields #[.int lo t, .int hi u, .int 1 v] }, toks := tk } := by
  refine wpAny_pyIter_range (IsRange.new ..) (small_one h1 h2 h3 h4) ?_
  have I1 : Inv X pins σ H { s with heap := s.heap.push { cls := .type "range", data := .fields #[.int lo t, .int hi u, .int 1 v] }, toks := tk } := I.kept fun b o e => Heap.get?_push_of_some _ e
  refine ⟨(s.heap.push { cls := .type "range", data := .fields #[.int lo t, .int hi u, .int 1 v] }).objs.size, [(s.heap.push { cls := .type "range", data := .fields #[.int lo t, .int hi u, .int 1 v] }).objs.size], _, _, H, rfl,
    I1.kept (t' := tk) fun b o e => Heap.get?_push_of_some _ e, turn_range _ lo (hi - lo).toNat, ?_, fun b hb => ?_, q⟩
  · have e1 : lo + ((0 : Nat) : Int) * 1 = lo := by simp
    have e2 : (((hi - lo).toNat : Nat) : Int) - ((0 : Nat) : Int) = Builtin.Range.rangeSize lo hi 1 := by rw [rangeSize_one]; split <;> omega
    show IsRangeIter _ _ (lo + ((0 : Nat) : Int) * 1) ((((hi - lo).toNat : Nat) : Int) - ((0 : Nat) : Int)) 1
    rw [e1, e2]
    exact Heap.get?_push_size _ rfl
  · have e : b = (s.heap.push { cls := .type "range", data := .fields #[.int lo t, .int hi u, .int 1 v] }).objs.size := by simpa using hb
    subst e
    exact I1.fpOk (Nat.le_refl _) (I1.hok.fresh (Nat.le_refl _))
def iRng1 (ta : TA) : TI := fun σ H R => ta σ H fun vs H1 => ∃ j : Int, vs = [.int j] ∧ -(2 ^ 62) ≤ j ∧ j < 2 ^ 62 ∧ R (Itr 0 j.toNat) H1
def iRng2 (ta : TA) : TI := fun σ H R => ta σ H fun vs H1 => ∃ i j : Int, vs = [.int i, .int j] ∧ (-(2 ^ 62) ≤ i ∧ i < 2 ^ 62 ∧ -(2 ^ 62) ≤ j ∧ j < 2 ^ 62) ∧ R (Itr i (j - i).toNat) H1
theorem pi_range1 {a : Expr} {ta : TA} {p pos : Pos} (hg : Gl X "range") (hm : X.mg "range" = none) (ha : PA X [a] ta) (hs : starEach [a] X.env = [(false, eval a X.env)] := by rfl) : PI X tg (.Call (.Name "range" p) [a] [] pos) (iRng1 ta) := by
  intro pins s σ H R I h
  refine Call_ (ld_blt I hg hm boot_range (PyProof.Rows.callWith_type1 (thn (ha pos pins s σ H _ I h) fun us s1 ⟨vs, H1, I1, r1, q1⟩ => ?_) hs rfl))
  obtain ⟨j, e, q1, q2, q⟩ := q1
  subst e
  cases r1 with
  | cons r rr =>
    cases rr
    obtain ⟨t, rfl⟩ := r
    exact call_range_1 (range_it I1 (by omega) (by omega) q1 q2 (by simpa using q))
theorem pi_range2 {a b : Expr} {ta : TA} {p pos : Pos} (hg : Gl X "range") (hm : X.mg "range" = none) (ha : PA X [a, b] ta) (hs : starEach [a, b] X.env = [(false, eval a X.env), (false, eval b X.env)] := by rfl) (hs2 : starEach [b] X.env = [(false, eval b X.env)] := by rfl) :
    PI X tg (.Call (.Name "range" p) [a, b] [] pos) (iRng2 ta) := by
  intro pins s σ H R I h
  refine Call_ (ld_blt I hg hm boot_range (PyProof.Rows.callWith_type1 (thn (ha pos pins s σ H _ I h) fun us s1 ⟨vs, H1, I1, r1, q1⟩ => ?_) (by rw [hs, hs2]) (by rw [hs2]; rfl)))
  obtain ⟨i, j, e, ⟨q1, q2, q3, q4⟩, q⟩ := q1
  subst e
  cases r1 with
  | cons r rr =>
    cases rr with
    | cons r' rr =>
      cases rr
      obtain ⟨t, rfl⟩ := r
      obtain ⟨t', rfl⟩ := r'
      exact call_range_2 (range_it I1 q1 q2 q3 q4 q)

/-! ### for -/
/-- W: the invariant by the turn and a measure; N: what the body is to reach -/
def tFor (wi : TI) (g : TG) (tb : TS) : TS := fun D σ H => wi σ H fun J H1 => ∃ W : Nat → Nat → St → Hp → Prop, (∃ m, W 0 m σ H1) ∧ ∀ i m σ H, W i m σ H →
  (J.stop i H ∧ D.nx σ H) ∨ (J.go i H ∧ ∃ N : St → Hp → Prop, (∀ σ' H', N σ' H' → ∃ m', m' < m ∧ W (i + 1) m' σ' H') ∧ ∀ x H', J.yld i H x H' → g x σ H' fun σ2 H2 => tb { D with nx := N, ct := N, bk := D.nx } σ2 H2)
/-- the records at fp as they stand -/
def pinsAt (fp : List Addr) (h : Heap) : List (Addr × Obj) := fp.filterMap fun b => (h.get? b).map fun o => (b, o)
theorem mem_pinsAt {fp : List Addr} {h : Heap} {b : Addr} {o : Obj} (hb : b ∈ fp) (e : h.get? b = some o) : (b, o) ∈ pinsAt fp h := List.mem_filterMap.mpr ⟨b, hb, by rw [e]; rfl⟩
theorem of_pinsAt {fp : List Addr} {h : Heap} {p : Addr × Obj} (hp : p ∈ pinsAt fp h) : p.1 ∈ fp ∧ h.get? p.1 = some p.2 := by
  obtain ⟨b, hb, e⟩ := List.mem_filterMap.mp hp
  cases q : h.get? b with
  | none => rw [q] at e; cases e
  | some o =>
    rw [q] at e
    have e' : (b, o) = p := Option.some.inj e
    subst e'
    exact ⟨hb, q⟩
theorem Inv.pinned {pins : List (Addr × Obj)} {σ : St} {H : Hp} {s : Shared} {fp : List Addr} (I : Inv X pins σ H s) (hf : ∀ b ∈ fp, FpOk X pins H b) (ho : ∀ b ∈ fp, ∃ o, s.heap.get? b = some o ∧ ∀ v, o.data ≠ .cell v) : Inv X (pins ++ pinsAt fp s.heap) σ H s :=
  I.pins_of fun p hp => (List.mem_append.mp hp).elim (fun z => I.pin p (List.mem_append_right _ z)) fun z => by
    obtain ⟨hb, e⟩ := of_pinsAt z
    obtain ⟨f0, f1, f2, _⟩ := hf p.1 hb
    obtain ⟨o, e', d⟩ := ho p.1 hb
    rw [e] at e'; cases e'
    exact ⟨e, f0, f1, f2, d⟩
theorem Inv.unpinned {pins pl : List (Addr × Obj)} {σ : St} {H : Hp} {s : Shared} (I : Inv X (pins ++ pl) σ H s) : Inv X pins σ H s := I.pins_of fun p hp => I.pin p (List.mem_append_right _ (List.mem_append_left _ hp))
theorem ps_for {iter : Expr} {body : List Stmt} {wi : TI} {g : TG} {tb : TS} {pos : Pos} (hp : PassesOwn (model X.prog X.w) X.A X.env X.xe) (hc : X.calm = true) (hi : PI X tg iter wi) (hg : PG X tg g) (hb : PSs X body tb)
    (hs : ∀ x, foldedSetIterable iter X.env x = pure x := by intro _; rfl) : PS X (.For tg iter body [] pos) (tFor wi g tb) := by
  intro pins s σ H D I h
  refine wpAny_For (thn (hi pins s σ H _ I h) fun v s1 h1 => thn h1 fun itv s2 h2 => ?_) hs
  obtain ⟨it, fp, tn, J, H2, e, I2, T, st2, f2, W, ⟨m0, w0⟩, turn⟩ := h2
  subst e
  -- what stays true of the iterator's objects through the loop
  have stat : ∀ {H' : Hp}, (∀ b ∈ fp, H' b = none) → ∀ b ∈ fp, FpOk X pins H' b := fun hn b hb => ⟨hn b hb, (f2 b hb).2⟩
  refine codeAny_forLoop_any (fun n s' => ∃ i σ' H', Inv X pins σ' H' s' ∧ tn i s'.heap ∧ (∀ b ∈ fp, H' b = none) ∧ W i n σ' H') ?_ m0 ⟨0, σ, H2, I2, st2, fun b hb => (f2 b hb).1, w0⟩
  rintro n s3 ⟨i, σ3, H3, I3, st3, fr3, w3⟩
  rcases turn i n σ3 H3 w3 with ⟨stop, qn⟩ | ⟨go, N, hN, step⟩
  · refine wpAny_passesOwn hp (thn (T.done X rfl rfl rfl hc i pins s3 σ3 H3 X.xe I3 (stat fr3) st3 stop) fun r s4 ⟨hr, I4⟩ => ?_)
    subst hr
    exact wpAny_execs_nil ⟨σ3, H3, I4, qn⟩
  · refine wpAny_passesOwn hp (thn (T.item X rfl rfl rfl hc i pins s3 σ3 H3 X.xe I3 (stat fr3) st3 go) fun r s4 ⟨u, hr, h4⟩ => ?_)
    subst hr
    refine wpAny_passesOwn hp (thn h4 fun _ s5 ⟨x, H5, I5, r5, y5, st5, fr5⟩ => ?_)
    have I5' := I5.pinned (stat fr5) (T.obj _ _ st5)
    refine wpAny_passesOwn hp (thn (hg _ s5 σ3 H5 x u _ I5' r5 (step x H5 y5)) fun _ s6 ⟨σ6, H6, I6, q6⟩ => ?_)
    refine wpAny_passesOwn hp (thn (hb _ s6 σ6 H6 _ I6 q6) fun f s7 q7 => ?_)
    have again : ∀ {σ7 : St} {H7 : Hp}, Inv X (pins ++ pinsAt fp s5.heap) σ7 H7 s7 → N σ7 H7 → ∃ m, m < n ∧ ∃ i σ' H', Inv X pins σ' H' s7 ∧ tn i s7.heap ∧ (∀ b ∈ fp, H' b = none) ∧ W i m σ' H' := fun {σ7 H7} I7 n7 => by
      obtain ⟨m', hm, w7⟩ := hN σ7 H7 n7
      refine ⟨m', hm, i + 1, σ7, H7, I7.unpinned, T.keep _ _ _ st5 fun b hb o e => (I7.pin (b, o) (List.mem_append_right _ (List.mem_append_right _ (mem_pinsAt hb e)))).1, fun b hb => ?_, w7⟩
      obtain ⟨o, e, d⟩ := T.obj _ _ st5 b hb
      exact (I7.pin (b, o) (List.mem_append_right _ (List.mem_append_right _ (mem_pinsAt hb e)))).2.1
    cases f with
    | next => obtain ⟨σ7, H7, I7, n7⟩ := q7; exact again I7 n7
    | cont => obtain ⟨σ7, H7, I7, n7⟩ := q7; exact again I7 n7
    | brk => obtain ⟨σ7, H7, I7, q7⟩ := q7; exact ⟨σ7, H7, I7.unpinned, q7⟩
    | ret v => obtain ⟨x7, σ7, H7, I7, r7, q7⟩ := q7; exact ⟨x7, σ7, H7, I7.unpinned, r7, q7⟩
end

/-! ### the forms one uses -/
end L2

namespace L2
open PySem PySem.Spec PyProof.Rows

abbrev R2 := V → V → Hp → VK → Prop
/-- a two-place operation on values: f is binaryOp op, inplaceOp op or compareOp op -/
def OpR (X : Cx) (f : Value → Value → Sem Value) (r : R2) : Prop :=
  ∀ (pins : List (Addr × Obj)) (s : Shared) (σ : St) (H : Hp) (x y : V) (v u : Value) (Q : VK), Inv X pins σ H s → RelV x v → RelV y u → r x y H Q →
    wpAny (model X.prog X.w) X.A (f v u) (EP X pins σ Q) X.xe s
/-- a call of a value that is known (a builtin, a type) with values -/
def CallR (X : Cx) (f : Value) (r : List V → Hp → VK → Prop) : Prop :=
  ∀ (pins : List (Addr × Obj)) (s : Shared) (σ : St) (H : Hp) (xs : List V) (us : List Value) (Q : VK), Inv X pins σ H s → Vals xs us → r xs H Q →
    wpAny (model X.prog X.w) X.A (call f us) (EP X pins σ Q) X.xe s
def tOp (r : R2) (ta tb : TE) : TE := fun σ H Q => ta σ H fun x H1 => tb σ H1 fun y H2 => r x y H2 Q
/-- ints in, under C, and a value out -/
def rI (C : Int → Int → Prop) (g : Int → Int → V) : R2 := fun x y H Q => ∃ i j, x = .int i ∧ y = .int j ∧ C i j ∧ Q (g i j) H
def rI0 (g : Int → Int → V) : R2 := fun x y H Q => ∃ i j, x = .int i ∧ y = .int j ∧ Q (g i j) H
section
variable {X : Cx} {a b c : Expr} {ta tb tc : TE} {pos : Pos}

theorem binT (ha : PE X a ta) (hb : PE X b tb) {pins : List (Addr × Obj)} {s : Shared} {σ : St} {H : Hp} {R : V → V → Hp → Prop} (I : Inv X pins σ H s)
    (h : ta σ H fun x H1 => tb σ H1 fun y H2 => R x y H2) {Q : Value → Shared → Prop} {f : Value → Value → Sem Value}
    (hf : ∀ v u s2 x y H2, Inv X pins σ H2 s2 → RelV x v → RelV y u → R x y H2 → wpAny (model X.prog X.w) X.A (f v u) Q X.xe s2) :
    wpAny (model X.prog X.w) X.A (eval a X.env) (fun v s₁ => wpAny (model X.prog X.w) X.A (eval b X.env) (fun u s₂ => wpAny (model X.prog X.w) X.A (f v u) Q X.xe s₂) X.xe s₁) X.xe s := by
  refine thn (ha pins s σ H _ I h) fun v s1 ⟨x, H1, I1, r1, q1⟩ => ?_
  refine thn (hb pins s1 σ H1 _ I1 q1) fun u s2 ⟨y, H2, I2, r2, q2⟩ => ?_
  exact hf v u s2 x y H2 I2 r1 r2 q2

theorem pe_op {op : Operator} {r : R2} (ho : OpR X (binaryOp op) r) (ha : PE X a ta) (hb : PE X b tb) : PE X (.BinOp a op b pos) (tOp r ta tb) := by
  intro pins s σ H Q I h
  exact wpAny_BinOp (binT ha hb I h fun v u s2 x y H2 I2 rx ry q => ho pins s2 σ H2 x y v u Q I2 rx ry q)
/-! ### ints -/
theorem opI {f : Value → Value → Sem Value} {C : Int → Int → Prop} {g : Int → Int → Int}
    (rule : ∀ (i j : Int) (t u : Tok) (s : Shared) (Q : Value → Shared → Prop) (E : Value → Shared → Prop), C i j → Q (.int (g i j) s.toks) { s with toks := s.toks + 1 } → wpAny (model X.prog X.w) X.A (f (.int i t) (.int j u)) Q E s) :
    OpR X f (rI C fun i j => .int (g i j)) := by
  intro pins s σ H x y v u Q I rx ry h
  obtain ⟨i, j, rfl, rfl, hc, q⟩ := h
  obtain ⟨t, rfl⟩ := rx
  obtain ⟨t', rfl⟩ := ry
  exact rule i j t t' s _ _ hc ⟨.int (g i j), H, I.tok _, ⟨_, rfl⟩, q⟩
theorem opI0 {f : Value → Value → Sem Value} {g : Int → Int → Int}
    (rule : ∀ (i j : Int) (t u : Tok) (s : Shared) (Q : Value → Shared → Prop) (E : Value → Shared → Prop), Q (.int (g i j) s.toks) { s with toks := s.toks + 1 } → wpAny (model X.prog X.w) X.A (f (.int i t) (.int j u)) Q E s) :
    OpR X f (rI0 fun i j => .int (g i j)) := by
  intro pins s σ H x y v u Q I rx ry h
  obtain ⟨i, j, rfl, rfl, q⟩ := h
  obtain ⟨t, rfl⟩ := rx
  obtain ⟨t', rfl⟩ := ry
  exact rule i j t t' s _ _ ⟨.int (g i j), H, I.tok _, ⟨_, rfl⟩, q⟩
theorem opB0 {f : Value → Value → Sem Value} {g : Int → Int → Bool}
    (rule : ∀ (i j : Int) (t u : Tok) (s : Shared) (Q : Value → Shared → Prop) (E : Value → Shared → Prop), Q (.bool (g i j)) s → wpAny (model X.prog X.w) X.A (f (.int i t) (.int j u)) Q E s) :
    OpR X f (rI0 fun i j => .bl (g i j)) := by
  intro pins s σ H x y v u Q I rx ry h
  obtain ⟨i, j, rfl, rfl, q⟩ := h
  obtain ⟨t, rfl⟩ := rx
  obtain ⟨t', rfl⟩ := ry
  exact rule i j t t' s _ _ ⟨.bl (g i j), H, I, rfl, q⟩

def CDiv (i j : Int) : Prop := 0 < j ∧ j < 1073741824
def CMul (i j : Int) : Prop := (-(2 ^ 64) < i ∧ i < 2 ^ 64) ∨ (-(2 ^ 64) < j ∧ j < 2 ^ 64)
theorem CMul.ok {i j : Int} (h : CMul i j) : IntMulOk i j := by
  rcases h with ⟨h1, h2⟩ | ⟨h1, h2⟩
  · exact .of_left (intBits_le_64 h1 h2)
  · exact .of_right (intBits_le_64 h1 h2)
theorem op_add : OpR X (binaryOp .Add) (rI0 fun i j => .int (i + j)) := opI0 fun _ _ _ _ _ _ _ q => add_int q
theorem op_sub : OpR X (binaryOp .Sub) (rI0 fun i j => .int (i - j)) := opI0 fun _ _ _ _ _ _ _ q => sub_int q
theorem op_mul : OpR X (binaryOp .Mult) (rI CMul fun i j => .int (i * j)) := opI fun _ _ _ _ _ _ _ hc q => mul_int q hc.ok
/-- // by a positive divisor -/
theorem op_fdiv : OpR X (binaryOp .FloorDiv) (rI CDiv fun i j => .int (i / j)) := opI fun i j _ _ _ _ _ hc q => by
  have h1 : (0 : Int) < j := hc.1
  have h2 : j < 1073741824 := hc.2
  exact floordiv_int (by omega) (by rw [Int.fdiv_eq_ediv_of_nonneg i (by omega)]; exact q) (.inl (PyProof.noPylong_small (by omega)))
/-- % by a positive divisor of any size -/
theorem op_mod : OpR X (binaryOp .Mod) (rI (fun _ j => 0 < j) fun i j => .int (i % j)) := opI fun i j _ _ _ _ _ hc q => by
  have h1 : (0 : Int) < j := hc
  exact mod_int' (by omega) (by rw [Int.fmod_eq_emod_of_nonneg i (by omega)]; exact q)
/-! ### bools among ints: n += (a < b) -/
theorem op_add_ib : OpR X (binaryOp .Add) (fun x y H Q => ∃ i k, x = .int i ∧ y = .bl k ∧ Q (.int (i + b2i k)) H) := by
  intro pins s σ H x y v u Q I rx ry h
  obtain ⟨i, k, rfl, rfl, q⟩ := h
  obtain ⟨t, rfl⟩ := rx
  cases ry
  exact add_int_bool ⟨.int (i + b2i k), H, I.tok _, ⟨_, rfl⟩, q⟩
end

/-! ### comparisons -/
section
variable {X : Cx} {a b c : Expr} {ta tb tc : TE} {pos : Pos}
theorem op_lt : OpR X (compareOp .Lt) (rI0 fun i j => .bl (decide (i < j))) := opB0 fun _ _ _ _ _ _ _ q => lt_int q
theorem op_le : OpR X (compareOp .LtE) (rI0 fun i j => .bl (decide (i ≤ j))) := opB0 fun _ _ _ _ _ _ _ q => le_int q
theorem op_gt : OpR X (compareOp .Gt) (rI0 fun i j => .bl (decide (j < i))) := opB0 fun _ _ _ _ _ _ _ q => gt_int q
/-- two rules for one operation: by cases -/
theorem OpR.or {f : Value → Value → Sem Value} {r r' : R2} (h : OpR X f r) (h' : OpR X f r') : OpR X f (fun x y H Q => r x y H Q ∨ r' x y H Q) := by
  intro pins s σ H x y v u Q I rx ry q
  rcases q with q | q
  · exact h pins s σ H x y v u Q I rx ry q
  · exact h' pins s σ H x y v u Q I rx ry q

theorem nomark (b : Expr) {op : CmpOp} (h : op ≠ .In := by decide) (h2 : op ≠ .NotIn := by decide) : behindInMarks op b = false := by
  have e1 : (op == CmpOp.In) = false := by cases op <;> first | rfl | exact absurd rfl h
  have e2 : (op == CmpOp.NotIn) = false := by cases op <;> first | rfl | exact absurd rfl h2
  cases b <;> simp [behindInMarks, e1, e2]
/-- a comparison as a value; hm: nomark b, or (for in, not in) by with_unfolding_all rfl -/
theorem pe_cmpR {op : CmpOp} {r : R2} (ho : OpR X (compareOp op) r) (ha : PE X a ta) (hb : PE X b tb) (hm : behindInMarks op b = false) : PE X (.Compare a [op] [b] pos) (tOp r ta tb) := by
  intro pins s σ H Q I h
  exact wpAny_Compare1 (binT ha hb I h fun v u s2 x y H2 I2 rx ry q => ho pins s2 σ H2 x y v u Q I2 rx ry q) hm
/-- a reading of a value as a test -/
def tTest (t : TE) : TT := fun σ H Q => t σ H fun x H' => ∃ k, x = .bl k ∧ Q k H'
theorem pt_cmpR {op : CmpOp} {r : R2} (ho : OpR X (compareOp op) r) (ha : PE X a ta) (hb : PE X b tb) (hm : behindInMarks op b = false) : PT X (.Compare a [op] [b] pos) (tTest (tOp r ta tb)) := by
  intro pins s σ H Q I h
  refine wpAny_isTrue_Compare1 (thn (ha pins s σ H _ I h) fun v s1 ⟨x, H1, I1, r1, q1⟩ => thn (hb pins s1 σ H1 _ I1 q1) fun u s2 ⟨y, H2, I2, r2, q2⟩ =>
    thn (ho pins s2 σ H2 x y v u _ I2 r1 r2 q2) fun c s3 ⟨z, H3, I3, r3, k, e, q3⟩ => ?_) hm
  subst e
  cases r3
  exact wpAny_truthy_bool ⟨H3, I3, q3⟩
/-- a op1 b op2 c -/
def tChain (r r' : R2) (ta tb tc : TE) : TE := fun σ H Q => ta σ H fun x H1 => tb σ H1 fun y H2 => r x y H2 fun z H3 => ∃ k, z = .bl k ∧
  (if k = true then tc σ H3 fun w' H4 => r' y w' H4 Q else Q (.bl false) H3)
theorem pe_chain {op op' : CmpOp} {r r' : R2} (ho : OpR X (compareOp op) r) (ho' : OpR X (compareOp op') r') (ha : PE X a ta) (hb : PE X b tb) (hc : PE X c tc)
    (hm : lastMarks [op, op'] [b, c] = false := by with_unfolding_all rfl) : PE X (.Compare a [op, op'] [b, c] pos) (tChain r r' ta tb tc) := by
  intro pins s σ H Q I h
  refine Compare_chain (thn (ha pins s σ H _ I h) fun v s1 ⟨x, H1, I1, r1, q1⟩ => chain_link (thn (hb pins s1 σ H1 _ I1 q1) fun u s2 ⟨y, H2, I2, r2, q2⟩ =>
    thn (ho pins s2 σ H2 x y v u _ I2 r1 r2 q2) fun d s3 ⟨z, H3, I3, r3, k, e, q3⟩ => ?_)) hm
  subst e
  cases r3
  refine wpAny_truthy_bool ?_
  cases k with
  | false => exact ite_ff ⟨.bl false, H3, I3, rfl, q3⟩
  | true => exact ite_tt (chain_last (thn (hc pins s3 σ H3 _ I3 q3) fun w' s4 ⟨z', H4, I4, r4, q4⟩ => ho' pins s4 σ H4 y z' u w' Q I4 r2 r4 q4))
/-! ### truth -/
theorem line63 : (sizeLine : Nat) < 2 ^ 63 := by rw [sizeLine_eq]; decide
/-! ### strs and bytes -/
theorem op_add_str : OpR X (binaryOp .Add) (fun x y H Q => ∃ i j, x = .str i ∧ y = .str j ∧ i.length + j.length ≤ sizeLine ∧ Q (.str (i ++ j)) H) := by
  intro pins s σ H x y v u Q I rx ry h
  obtain ⟨i, j, rfl, rfl, hz, q⟩ := h
  obtain ⟨t, rfl⟩ := rx
  obtain ⟨t', rfl⟩ := ry
  exact add_str (fun t' tk => ⟨.str (i ++ j), H, I.tok _, ⟨_, rfl⟩, q⟩) hz
/-! ### scalar builtins, by CallR -/
theorem vals1 {x : V} {us : List Value} (r : Vals [x] us) : ∃ u, us = [u] ∧ RelV x u := by
  cases r with
  | cons r1 r2 => cases r2; exact ⟨_, rfl, r1⟩
theorem vals2 {x y : V} {us : List Value} (r : Vals [x, y] us) : ∃ u w', us = [u, w'] ∧ RelV x u ∧ RelV y w' := by
  cases r with
  | cons r1 r2 =>
    cases r2 with
    | cons r3 r4 => cases r4; exact ⟨_, _, rfl, r1, r3⟩
theorem call_min2 (hc : X.calm = true) : CallR X (.builtin "min") (fun xs H Q => ∃ i j, xs = [.int i, .int j] ∧ Q (.int (if j < i then j else i)) H) := by
  intro pins s σ H xs us Q I r h
  obtain ⟨i, j, rfl, q⟩ := h
  obtain ⟨u, w', rfl, ⟨t, rfl⟩, ⟨t', rfl⟩⟩ := vals2 r
  refine min_two_ints (I.ok.hd hc) fun h' tk k => ⟨_, H, I.kept k, ?_, q⟩
  by_cases hj : j < i
  · rw [if_pos hj, if_pos hj]; exact ⟨_, rfl⟩
  · rw [if_neg hj, if_neg hj]; exact ⟨_, rfl⟩
end
end L2

namespace L2
open PySem PySem.Spec PyProof.Rows

/-! ### an instance, its attributes a map -/
structure ObjM (h : Heap) (x dx C : Addr) (mA : Str → Option Value) : Prop where
  obj : h.get? x = some (PySem.W.instObj C dx)
  ns : h.Ns1 dx mA
  ne : dx ≠ x

section
variable {prog : Program} {w : World} {A : Around} {E : Value → Shared → Prop} {s : Shared} {K : PySem.W.Frag} {x dx C f : Addr} {mA : Str → Option Value} {name : Str} {v : Value}

end

/-! ### the attributes as a list of pairs -/
section
variable {P : Program} {w : World} {H H' : Hp} {h h' : Heap} {a C dx : Addr} {fs fs' : List (Str × V)}
end

/-! ### what of the text a class must have -/
structure Cls (K : PySem.W.Frag) (C : Addr) : Prop where
  pg : PySem.W.plainGet K C Str.empty = true
  hd : PySem.W.hasDictIn K C = true
  po : PySem.W.plainOver K C = true
  sa : PySem.W.findIn K (.ref C) "__setattr__" = some (some (.builtin "object.__setattr__"))
theorem Cls.get {K : PySem.W.Frag} {C : Addr} (c : Cls K C) (f : Str) : PySem.W.plainGet K C f = true := c.pg
/-- a constant of the class -/
structure Con (K : PySem.W.Frag) (C : Addr) (f : Str) (v : V) (u : Value) : Prop where
  at_ : PySem.W.findIn K (.ref C) f = some (some u)
  rel : RelV v u
  get : PySem.W.specialIn K u "__get__" = some none
  cp : PySem.W.copiedNames.contains f = false
/-- a method: a plain def of the class or of one above it -/
structure Meth (K : PySem.W.Frag) (C : Addr) (m : Str) (f : Addr) : Prop where
  at_ : PySem.W.findIn K (.ref C) m = some (some (.ref f))
  fn : PySem.W.isFn K (.ref f) = true
  kp : PySem.W.keepIn K (.ref f) = true

section
variable {X : Cx} {pins : List (Addr × Obj)} {σ : St} {H : Hp} {s : Shared} {a C dx : Addr} {fs : List (Str × V)} {f : Str} {v : V} {A : Around} {E : Value → Shared → Prop}

/-- a new instance, tracked, without attributes -/
theorem Inv.made (I : Inv X pins σ H s) : Inv X pins σ (upd (upd H s.heap.objs.size (.own (s.heap.objs.size + 1))) (s.heap.objs.size + 1) (.ins C s.heap.objs.size []))
    { s with heap := (s.heap.push PySem.W.emptyDict).push (PySem.W.instObj C s.heap.objs.size) } := by
  have e1 : (s.heap.push PySem.W.emptyDict).get? s.heap.objs.size = some PySem.W.emptyDict := Heap.get?_push_size s.heap rfl
  have e2 : ((s.heap.push PySem.W.emptyDict).push (PySem.W.instObj C s.heap.objs.size)).get? (s.heap.objs.size + 1) = some (PySem.W.instObj C s.heap.objs.size) := by
    have := Heap.get?_push_size (s.heap.push PySem.W.emptyDict) (o := PySem.W.instObj C s.heap.objs.size) rfl
    rwa [Heap.size_push] at this
  have e3 : (s.heap.push PySem.W.emptyDict).Ns s.heap.objs.size (fun _ => none) := ⟨PySem.W.emptyDict, #[], _, e1, rfl, (fun e he => absurd he (by simp)), fun _ => rfl⟩
  have I1 := I.laid (a := s.heap.objs.size) (o := .own (s.heap.objs.size + 1)) (h' := s.heap.push PySem.W.emptyDict) (t' := s.toks) (fun b u q => Heap.get?_push_of_some _ q) (Nat.le_refl _) ⟨_, e1⟩
  refine I1.laid (a := s.heap.objs.size + 1) (o := .ins C s.heap.objs.size []) (t' := s.toks) (fun b u q => Heap.get?_push_of_some _ q) (Nat.le_of_eq (Heap.size_push _ _)) ?_
  have ne : s.heap.objs.size ≠ s.heap.objs.size + 1 := Nat.ne_of_lt (Nat.lt_succ_self _)
  refine ⟨by rw [upd_ne ne, upd_same], Nat.zero_le _, ne, e2, fun _ => none, (Heap.Ns1.of_empty e3).at fun o q => Heap.get?_push_of_some _ q, fun _ => True.intro, fun y hy => absurd rfl hy⟩

end

/-! ### readings and rules -/
section
variable {X : Cx} {o e value : Expr} {f : Str} {pos pos' tpos : Pos} {ta tv : TE}
end

/-! ### isinstance -/
section
variable {X : Cx} {pins : List (Addr × Obj)} {σ : St} {H : Hp} {s : Shared} {A : Around} {E : Value → Shared → Prop} {Q : Value → Shared → Prop} {c : Value} {b : Bool}
/-- the type of a value, as the fragment's deciders take it; for an instance its class -/
inductive TyOf (K : PySem.W.Frag) (H : Hp) : V → Value → Prop where
  | non : TyOf K H .non (.type "NoneType")
  | bl (x : Bool) : TyOf K H (.bl x) (.type "bool")
  | int (i : Int) : TyOf K H (.int i) (.type "int")
  | str (x : Str) : TyOf K H (.str x) (.type "str")
  | flt (x : UInt64) : TyOf K H (.flt x) (.type "float")
  | lst {a : Addr} {xs : List V} (e : H a = some (.lst xs)) : TyOf K H (.ref a) (.type "list")
  | frz {a : Addr} {o : Obj} {xs : List V} (e : H a = some (.frz o (.lst xs))) : TyOf K H (.ref a) (.type "list")
  | tup {a : Addr} {xs : List V} (e : H a = some (.tup xs)) : TyOf K H (.ref a) (.type "tuple")
  | dK {a : Addr} {kvs : List (Key × V)} (e : H a = some (.dK kvs)) : TyOf K H (.ref a) (.type "dict")
  | dT {a : Addr} {kvs : List (List Key × V)} (e : H a = some (.dT kvs)) : TyOf K H (.ref a) (.type "dict")
  | ins {a C dx : Addr} {fs : List (Str × V)} (e : H a = some (.ins C dx fs)) (cl : Cls K C) (ha : PySem.W.findIn K (.ref C) "__class__" = some (some (.builtin "object.__class__")))
      (hn : PySem.W.specialIn K (.builtin "object.__class__") "__get__" = some (some (.builtin "getset_descriptor.__get__"))) (htk : PySem.W.takesIn K (.builtin "object.__class__") = some true)
      (hm : PySem.W.mroIn K C (.type "object") = some true) : TyOf K H (.ref a) (.ref C)
end
end L2

namespace L2
open PySem PySem.Spec PyProof.Rows

/-! ### room -/
structure Room (k : Nat) (A : Around) : Prop where
  hd : A.handled = none
  dp : A.depth + 3 * k + 5 < recursionLimit
  un : A.units + 16 * k + 200 < cLine
theorem Room.mono {j k : Nat} {A : Around} (r : Room k A) (h : j ≤ k) : Room j A := ⟨r.hd, by have := r.dp; omega, by have := r.un; omega⟩
theorem Room.deeper {k : Nat} {A : Around} (r : Room (k + 1) A) (env : Env) : Room k (A.deeper env) :=
  ⟨r.hd, by have := r.dp; show A.depth + 1 + 3 * k + 5 < _; omega, by have := r.un; show A.units + 3 + 16 * k + 200 < _; omega⟩
theorem Room.in1 {k : Nat} {A : Around} (r : Room (k + 1) A) : Room k A.in1 :=
  ⟨r.hd, by have := r.dp; show A.depth + 3 * k + 5 < _; omega, by have := r.un; show A.units + 1 + 16 * k + 200 < _; omega⟩
theorem make_depth {A : Around} {C : Addr} {us : List Value} {kw : List (Str × Value)} : (A.under (.builtin "type.__call__" ⟨.ref C :: us, kw⟩)).depth = A.depth + 1 := by
  first | rfl | simp [Around.under, Code.weight, Code.isCreation, Code.isGuard, Code.isCaller, Code.frames, Code.isFrame, guardIds]
theorem make_units {A : Around} {C : Addr} {us : List Value} {kw : List (Str × Value)} : (A.under (.builtin "type.__call__" ⟨.ref C :: us, kw⟩)).units = A.units + 1 := by
  first | rfl | simp [Around.under, Code.cUnits, Code.frames, Code.isFrame]
theorem Room.make {k : Nat} {A : Around} (r : Room (k + 1) A) (C : Addr) (us : List Value) (kw : List (Str × Value)) : Room k (A.under (.builtin "type.__call__" ⟨.ref C :: us, kw⟩)) :=
  ⟨r.hd, by have := r.dp; rw [make_depth]; omega, by have := r.un; rw [make_units]; omega⟩
theorem Room.depth {k : Nat} {A : Around} (r : Room k A) : A.depth < recursionLimit := by have := r.dp; omega
theorem Room.units {k : Nat} {A : Around} (r : Room k A) : A.units + 64 < cLine := by have := r.un; omega
/-! ### argument lists and displays -/
def tNil : TA := fun _ H Q => Q [] H
def tCons (ta : TE) (tr : TA) : TA := fun σ H Q => ta σ H fun x H1 => tr σ H1 fun xs H2 => Q (x :: xs) H2
section
variable {X : Cx} {e : Expr} {es : List Expr} {te : TE} {t : TA} {pos : Pos}
theorem pa_nil : PA X [] tNil := fun _ _ _ _ H Q I h => Calls.spliced_nil ⟨[], H, I, .nil, h⟩
theorem pa_cons (ha : PE X e te) (hr : PA X es t) (hs : starEach (e :: es) X.env = (false, eval e X.env) :: starEach es X.env := by rfl) : PA X (e :: es) (tCons te t) := by
  intro pos pins s σ H Q I h
  rw [hs]
  show wpAny _ _ (spliced ((false, eval e X.env) :: backTo pos (starEach es X.env))) _ _ s
  refine Calls.spliced_cons (thn (ha pins s σ H _ I h) fun u s1 ⟨x, H1, I1, r1, q1⟩ => ?_)
  exact thn (hr pos pins s1 σ H1 _ I1 q1) fun us s2 ⟨xs, H2, I2, r2, q2⟩ => ⟨x :: xs, H2, I2, .cons r1 r2, q2⟩

/-- a tuple, a list of written items -/
def tTup (t : TA) : TE := fun σ H Q => t σ H fun xs H1 => xs.length ≤ sizeLine ∧ ∀ p, H1 p = none → Q (.ref p) (upd H1 p (.tup xs))
def tLst (t : TA) : TE := fun σ H Q => t σ H fun xs H1 => xs.length ≤ sizeLine ∧ ∀ p, H1 p = none → Q (.ref p) (upd H1 p (.lst xs))
theorem pe_tup {x1} (h : PA X es t) : PE X (.Tuple es x1 pos) (tTup t) := by
  intro pins s σ H Q I hq
  refine wpAny_Tuple_spliced (thn (h pos pins s σ H _ I hq) fun us s1 ⟨xs, H1, I1, r, z, q⟩ => ⟨by rw [← r.length]; exact z, ?_⟩)
  have hf : H1 s1.heap.objs.size = none := I1.hok.fresh (Nat.le_refl _)
  refine ⟨.ref s1.heap.objs.size, upd H1 s1.heap.objs.size (.tup xs), I1.laid (t' := s1.toks) (fun b u e => Heap.get?_push_of_some _ e) (Nat.le_refl _) ?_, rfl, q _ hf⟩
  exact ⟨z, us, r, ⟨_, Heap.get?_push_size _ rfl, rfl, _, rfl⟩⟩
theorem pe_lst (h : PA X es t) : PE X (.List es pos) (tLst t) := by
  intro pins s σ H Q I hq
  refine wpAny_List_spliced (thn (h pos pins s σ H _ I hq) fun us s1 ⟨xs, H1, I1, r, z, q⟩ => ⟨by rw [← r.length]; exact z, ?_⟩)
  have hf : H1 s1.heap.objs.size = none := I1.hok.fresh (Nat.le_refl _)
  refine ⟨.ref s1.heap.objs.size, upd H1 s1.heap.objs.size (.lst xs), I1.laid (t' := s1.toks) (fun b u e => Heap.get?_push_of_some _ e) (Nat.le_refl _) ?_, rfl, q _ hf⟩
  exact ⟨z, us, 0, r, Heap.get?_push_size _ rfl⟩
end

/-! ### what a def promises -/
/-- a def's promise: the bound arguments in the parameters' order, the heap, the wanted end, the wanted exception -/
abbrev Sp := List V → Hp → VK → XK → Prop
/-- how an exception lies behind a call (file 08 gives it): the callers' frames, abstract heap and state ahead of the call, the wish, the exception, the state -/
abbrev CXT := List Env → Hp → Shared → XK → Value → Shared → Prop

/-- the state at a call -/
structure Env0 (P : Program) (w : World) (K : PySem.W.Frag) (mg : Str → Option Value) (base : Heap) (A : Around) (outer : List Env) (s : Shared) (H : Hp) : Prop where
  frames : A.frames = some outer
  mod : Mod K mg base
  bs : ∀ b o, base.get? b = some o → s.heap.get? b = some o ∧ H b = none
  bsz : base.objs.size ≤ s.heap.objs.size
  funs : s.heap.FunFrames base outer
  frf : ∀ b ∈ frs outer, H b = none
  hok : HOk P w H s.heap
  bare : AllBare s.gens
/-- a call's end -/
def CE (outer : List Env) (P : Program) (w : World) (H : Hp) (s : Shared) (Q : VK) (u : Value) (s' : Shared) : Prop :=
  ∃ v H', s'.os = s.os ∧ AllBare s'.gens ∧ Un (frs outer) [] H H' s.heap s'.heap ∧ HOk P w H' s'.heap ∧ RelV v u ∧ Q v H'
def CR (CX : CXT) (outer : List Env) (P : Program) (w : World) (H : Hp) (s : Shared) (Q : VK) (E : XK) (r : Result) (s' : Shared) : Prop :=
  match r with
  | .ok (.ret u) => CE outer P w H s Q u s'
  | .ok _ => False
  | .error e => CX outer H s E e s'
structure FnOk (P : Program) (w : World) (K : PySem.W.Frag) (mg : Str → Option Value) (base : Heap) (CX : CXT) (k : Nat) (f : Addr) (fd : FuncData) (ps : List Str) (sp : Sp) : Prop where
  len : ∀ vs H Q E, sp vs H Q E → vs.length = ps.length
  run : ∀ (A : Around) (outer : List Env) (s : Shared) (H : Hp) (args : Args) (us : List Value) (vs : List V) (Q : VK) (E : XK), Room k A → Env0 P w K mg base A outer s H → BindsTo s fd args (ps.zip us) → Vals vs us → sp vs H Q E →
    codeAny (model P w) A (.call (.ref f) args) (CR CX outer P w H s Q E) s
theorem FnOk.mono {P : Program} {w : World} {K : PySem.W.Frag} {mg : Str → Option Value} {base : Heap} {CX : CXT} {j k : Nat} {f : Addr} {fd : FuncData} {ps : List Str} {sp : Sp} (F : FnOk P w K mg base CX j f fd ps sp) (h : j ≤ k) :
    FnOk P w K mg base CX k f fd ps sp := ⟨F.len, fun A outer s H args us vs Q E hr => F.run A outer s H args us vs Q E (hr.mono h)⟩
/-- a weaker promise -/
theorem FnOk.imp {P : Program} {w : World} {K : PySem.W.Frag} {mg : Str → Option Value} {base : Heap} {CX : CXT} {k : Nat} {f : Addr} {fd : FuncData} {ps : List Str} {sp sp' : Sp} (F : FnOk P w K mg base CX k f fd ps sp)
    (h : ∀ vs H Q E, sp' vs H Q E → sp vs H Q E) : FnOk P w K mg base CX k f fd ps sp' :=
  ⟨fun vs H Q E q => F.len vs H Q E (h _ _ _ _ q), fun A outer s H args us vs Q E hr he hb hv hs => F.run A outer s H args us vs Q E hr he hb hv (h _ _ _ _ hs)⟩

theorem Env0.make {P : Program} {w : World} {K : PySem.W.Frag} {mg : Str → Option Value} {base : Heap} {A : Around} {outer : List Env} {s : Shared} {H : Hp} (e : Env0 P w K mg base A outer s H) (C : Addr) (us : List Value) (kw : List (Str × Value)) :
    Env0 P w K mg base (A.under (.builtin "type.__call__" ⟨.ref C :: us, kw⟩)) outer s H := ⟨by first | exact e.frames | (simpa [Around.under, Code.envs, Code.isFrame, pushEnvs] using e.frames), e.mod, e.bs, e.bsz, e.funs, e.frf, e.hok, e.bare⟩
theorem Env0.in1 {P : Program} {w : World} {K : PySem.W.Frag} {mg : Str → Option Value} {base : Heap} {A : Around} {outer : List Env} {s : Shared} {H : Hp} (e : Env0 P w K mg base A outer s H) :
    Env0 P w K mg base A.in1 outer s H := ⟨e.frames, e.mod, e.bs, e.bsz, e.funs, e.frf, e.hok, e.bare⟩

section
variable {X : Cx} {pins : List (Addr × Obj)} {σ : St} {H : Hp} {s s' : Shared}
/-- from a body: what a callee wants -/
theorem Inv.env0 (I : Inv X pins σ H s) : Env0 X.prog X.w X.K X.mg X.base X.A X.stack s H :=
  ⟨I.ok.frames, I.ok.mod, I.bs, Nat.le_trans I.ok.bsz I.sz, I.stack, I.stkFree, I.hok, I.bare⟩
/-- behind a call -/
theorem Inv.after {Q : VK} {u : Value} (I : Inv X pins σ H s) (h : CE X.stack X.prog X.w H s Q u s') : EP X pins σ Q u s' := by
  obtain ⟨v, H', os, bare, un, hok, r, q⟩ := h
  obtain ⟨hh, g, d, t, os'⟩ := s'
  obtain rfl : os' = s.os := os
  exact ⟨v, H', I.call (h' := hh) (g' := g) (d' := d) (t' := t) (ch := []) un hok bare (fun b z => absurd z (by simp)), r, q⟩
end

/-! ### calls -/
/-- f(..): the written arguments, then the defaults dvs; E: what is wanted of an exception -/
def tCall (sp : Sp) (dvs : List V) (E : XK) (t : TA) : TE := fun σ H Q => t σ H fun vs H1 => sp (vs ++ dvs) H1 Q E
/-- how the parameters are bound: us the positional arguments, kw the keywords' values by name, ds the defaults that fill up -/
def Binds (K : PySem.W.Frag) (fd : FuncData) (ps : List Str) (ds : List Value) : Prop :=
  ∀ (s : Shared) (us : List Value), K.In s.heap → (us ++ ds).length = ps.length → BindsTo s fd ⟨us, []⟩ (ps.zip (us ++ ds))
/-- every parameter is given -/
theorem Binds.all {K : PySem.W.Frag} {fd : FuncData} {ps : List Str} (h : ∀ us : List Value, us.length = ps.length → bindArgs fd ⟨us, []⟩ = pure (ps.zip us)) : Binds K fd ps [] := fun s us _ hl => by
  rw [List.append_nil] at hl ⊢
  exact .of_eq (h us hl)

/-- an exception of a callee reaches what this body wants of exceptions -/
def Passes (CX : CXT) (X : Cx) (E : XK) : Prop := ∀ (pins : List (Addr × Obj)) (σ : St) (H : Hp) (s : Shared) (e : Value) (s' : Shared), Inv X pins σ H s → CX X.stack H s E e s' → X.xe e s'

section
variable {X : Cx} {CX : CXT} {k : Nat} {f C : Addr} {fd : FuncData} {ps : List Str} {sp : Sp} {dvs : List V} {ds : List Value} {E : XK} {x m : Str} {p pos apos : Pos} {e o : Expr} {es : List Expr} {ta : TE} {t : TA}

/-- the callee runs -/
theorem run_fn {pins : List (Addr × Obj)} {σ : St} {H : Hp} {s : Shared} {Q : VK} {us : List Value} {vs : List V} (F : FnOk X.prog X.w X.K X.mg X.base CX k f fd ps sp) (hr : Room k X.A) (hb : Binds X.K fd ps ds) (hd : Vals dvs ds) (hx : Passes CX X E)
    (I : Inv X pins σ H s) (r : Vals vs us) (h : sp (vs ++ dvs) H Q E) : wpAny (model X.prog X.w) X.A (call (.ref f) us) (EP X pins σ Q) X.xe s := by
  have r2 : Vals (vs ++ dvs) (us ++ ds) := r.append hd
  have hl : (us ++ ds).length = ps.length := by rw [← r2.length]; exact F.len _ _ _ _ h
  refine wpAny_call (codeAny_mono (F.run X.A X.stack s H ⟨us, []⟩ (us ++ ds) (vs ++ dvs) Q E hr I.env0 (hb s us I.kIn hl) r2 h) fun r s' hq => ?_)
  cases r with
  | error e => exact hx pins σ H s e s' I hq
  | ok fl =>
    cases fl with
    | ret u => exact I.after hq
    | next => exact False.elim hq
    | brk => exact False.elim hq
    | cont => exact False.elim hq

theorem pe_call (F : FnOk X.prog X.w X.K X.mg X.base CX k f fd ps sp) (hr : Room k X.A) (hg : Gl X x) (hm : X.mg x = some (.ref f)) (hk : PySem.W.keepIn X.K (.ref f) = true) (hb : Binds X.K fd ps ds) (hd : Vals dvs ds) (hx : Passes CX X E)
    (ha : PA X (e :: es) t) (hdb : (x == ("__debug__" : Str)) = false := by decide) (he : starEach (e :: es) X.env = (false, eval e X.env) :: starEach es X.env := by rfl) (hpl : (backTo pos (starEach es X.env)).any (·.1) = false := by rfl) :
    PE X (.Call (.Name x p) (e :: es) [] pos) (tCall sp dvs E t) := by
  intro pins s σ H Q I h
  refine wpAny_Call_Name_kw (ld_glob I hg hm ?_ hdb)
  refine PySem.W.callWith_K (h₀ := X.base) I.ok.mod.kin hk (thn (ha pos pins s σ H _ I h) fun us s1 ⟨vs, H1, I1, r, q⟩ => ⟨I1.kIn, ?_⟩) he hpl
  exact run_fn F hr hb hd hx I1 r q
/-- what a class must have to be made -/
structure Mk (K : PySem.W.Frag) (C f : Addr) : Prop where
  makes : PySem.W.makesIn K C = true
  init : PySem.W.findIn K (.ref C) "__init__" = some (some (.ref f))
  fn : PySem.W.isFn K (.ref f) = true
  kp : PySem.W.keepIn K (.ref C) = true

end

/-! ### keywords -/
section
variable {X : Cx} {CX : CXT} {k : Nat} {f C : Addr} {fd : FuncData} {ps ks : List Str} {sp : Sp} {E : XK} {x m : Str} {p pos apos kpos : Pos} {e o : Expr} {es : List Expr} {kws : List Keyword} {te ta : TE} {t tk : TA} {nm : Option Str}
/-- how a call with keywords binds: g puts the positional values us and the keywords' values ws (names ks) in the parameters' order, defaults among them -/
structure KBinds (K : PySem.W.Frag) (fd : FuncData) (ps ks : List Str) (g : List Value → List Value → List Value) (gV : List V → List V → List V) : Prop where
  to : ∀ (s : Shared) (us ws : List Value), K.In s.heap → (g us ws).length = ps.length → BindsTo s fd ⟨us, ks.zip ws⟩ (ps.zip (g us ws))
  rel : ∀ {vs : List V} {us : List Value} {zs : List V} {ws : List Value}, Vals vs us → Vals zs ws → Vals (gV vs zs) (g us ws)
variable {g : List Value → List Value → List Value} {gV : List V → List V → List V}
end

/-! ### a def's body keeps its promise -/
/-- names: the parameters first -/
structure FnScope (N P : List Str) (sc : Scope) : Prop where
  kind : sc.kind = .function
  co : sc.isCoroutine = false
  gen : sc.isGenerator = false
  nd : N.Nodup
  pre : N.take P.length = P
  par : ∀ x ∈ P, sc.names.lookup x = some .local ∨ sc.names.lookup x = some .cell
  nofree : ∀ y ∈ sc.names, y.2 ≠ .free

theorem bindL_out {kindOf : Str → Option NameKind} {x : Str} : ∀ {binds : List (Str × Value)} {m : Str → Option Value}, (∀ v, (x, v) ∉ binds) → bindL kindOf binds m x = m x
  | [], _, _ => rfl
  | (n, v) :: r, m, h => by
    unfold bindL
    rw [bindL_out fun w hw => h w (List.mem_cons_of_mem _ hw)]
    split
    · have : x ≠ n := by rintro rfl; exact h v List.mem_cons_self
      simp [this]
    · rfl
theorem bindC_out {kindOf : Str → Option NameKind} {x : Str} : ∀ {binds : List (Str × Value)} {m : Str → Option Value}, (∀ v, (x, v) ∉ binds) → bindC kindOf binds m x = m x
  | [], _, _ => rfl
  | (n, v) :: r, m, h => by
    unfold bindC
    rw [bindC_out fun w hw => h w (List.mem_cons_of_mem _ hw)]
    split
    · rfl
    · have : x ≠ n := by rintro rfl; exact h v List.mem_cons_self
      simp [this]
theorem bindL_get {kindOf : Str → Option NameKind} {x : Str} {v : Value} : ∀ {P : List Str} {vs : List Value} {i : Nat} {m : Str → Option Value}, P.Nodup → P[i]? = some x → vs[i]? = some v → kindOf x = some .local →
    bindL kindOf (P.zip vs) m x = some v
  | [], _, _, _, _, h, _, _ => by simp at h
  | _ :: _, [], _, _, _, _, h, _ => by simp at h
  | p :: P, w :: vs, 0, m, nd, h1, h2, hk => by
    simp at h1 h2; subst h1; subst h2
    show bindL kindOf ((p, w) :: P.zip vs) m p = _
    unfold bindL
    rw [bindL_out fun v hv => (List.nodup_cons.mp nd).1 (List.of_mem_zip hv).1, if_pos hk]
    simp
  | p :: P, w :: vs, i + 1, m, nd, h1, h2, hk => by
    show bindL kindOf ((p, w) :: P.zip vs) m x = _
    unfold bindL
    exact bindL_get (i := i) (List.nodup_cons.mp nd).2 (by simpa using h1) (by simpa using h2) hk
theorem bindC_get {kindOf : Str → Option NameKind} {x : Str} {v : Value} : ∀ {P : List Str} {vs : List Value} {i : Nat} {m : Str → Option Value}, P.Nodup → P[i]? = some x → vs[i]? = some v → kindOf x ≠ some .local →
    bindC kindOf (P.zip vs) m x = some v
  | [], _, _, _, _, h, _, _ => by simp at h
  | _ :: _, [], _, _, _, _, h, _ => by simp at h
  | p :: P, w :: vs, 0, m, nd, h1, h2, hk => by
    simp at h1 h2; subst h1; subst h2
    show bindC kindOf ((p, w) :: P.zip vs) m p = _
    unfold bindC
    rw [bindC_out fun v hv => (List.nodup_cons.mp nd).1 (List.of_mem_zip hv).1, if_neg hk]
    simp
  | p :: P, w :: vs, i + 1, m, nd, h1, h2, hk => by
    show bindC kindOf ((p, w) :: P.zip vs) m x = _
    unfold bindC
    exact bindC_get (i := i) (List.nodup_cons.mp nd).2 (by simpa using h1) (by simpa using h2) hk

/-- the names' values at the entry -/
def start (N : List Str) (vs : List V) : St := vs.map some ++ List.replicate (N.length - vs.length) none

/-- the context of a def's body, at its entry; an exception leaves the frame, then lies as CX says -/
def cxOf (CX : CXT) (P : Program) (w : World) (K : PySem.W.Frag) (mg : Str → Option Value) (base : Heap) (N : List Str) (qual : Str) (scope : Scope) (f : Addr) (cd : Value) (A : Around) (outer : List Env) (s : Shared) (H : Hp) (E : XK) : Cx where
  prog := P
  w := w
  K := K
  mg := mg
  base := base
  A := A.deeper (envOfC qual scope s.heap.objs.size f cd)
  N := N
  s₀ := s
  H₀ := H
  env := envOfC qual scope s.heap.objs.size f cd
  outer := outer
  stack := envOfC qual scope s.heap.objs.size f cd :: outer
  ex := []
  calm := true
  fn := fun _ => true
  pn := []
  xe := fun e s' => wpAny (model P w) (A.deeper (envOfC qual scope s.heap.objs.size f cd)) (leaving (envOfC qual scope s.heap.objs.size f cd) e) (fun _ s'' => CX outer H s E e s'') (fun e' s'' => CX outer H s E e' s'') s'

theorem cell_has {sc : Scope} {n : Nat} {x : Str} (h : sc.names.lookup x = some .cell) : ∃ c, (cellsFrom n sc.names []).lookup x = some c := by
  have q := PySem.W.cellsFrom_some sc.names n [] (.inl h)
  exact Option.isSome_iff_exists.mp q

theorem inv_start {CX : CXT} {P : Program} {w : World} {K : PySem.W.Frag} {mg : Str → Option Value} {base : Heap} {N ps : List Str} {qual : Str} {scope : Scope} {f : Addr} {cd : Value} {A : Around} {outer : List Env} {s s1 : Shared} {H : Hp} {E : XK} {us : List Value} {vs : List V}
    (S : FnScope N ps scope) (hd : A.handled = none) (e0 : Env0 P w K mg base A outer s H) (hl : vs.length = ps.length) (r : Vals vs us)
    (x : InCallC s s.heap.objs.size (bindL (envOfC qual scope s.heap.objs.size f cd).kindOf (ps.zip us) fun _ => none) (cellsFrom (s.heap.objs.size + 1) scope.names []) (bindC (envOfC qual scope s.heap.objs.size f cd).kindOf (ps.zip us) fun _ => none) s1) :
    Inv (cxOf CX P w K mg base N qual scope f cd A outer s H E) [] (start N vs) H s1 := by
  have hpl : ps.length ≤ N.length := by have := congrArg List.length S.pre; rw [List.length_take] at this; omega
  obtain ⟨h1, tk, rfl, hk⟩ := x.done
  have noA : ∀ b : Addr, b ∉ (cxOf CX P w K mg base N qual scope f cd A outer s H E).ex := fun b z => absurd (show b ∈ ([] : List Addr) from z) (by simp)
  refine ⟨⟨e0.mod, S.kind, rfl, rfl, Nat.le_refl _, fun y z c h1 h2 => ?_, fun y hy => ?_, fun y c _ h => ?_, fun _ => hd, Around.frames_deeper e0.frames, .inr ⟨rfl, rfl⟩, fun b z => absurd z (noA b), e0.bs, e0.bsz, fun b _ _ => noA b, fun b z => absurd z (noA b), e0.funs, e0.frf⟩,
    rfl, e0.bare, Un.kept hk, ⟨_, x.toInCall.ns, fun i y v h1 h2 h3 => ?_⟩, fun y c h => ⟨_, x.cell y c h⟩, e0.hok.fresh (Nat.le_refl _), fun y c h => ?_, fun p hp => absurd (show p ∈ ([] : List (Addr × Obj)) from hp) (by simp), e0.hok.kept hk, ?_⟩
  · exact name_of_addr x.apart (PySem.mem_of_lookup h1) (PySem.mem_of_lookup h2)
  · have hy : scope.names.lookup y = some .cell ∨ scope.names.lookup y = some .free := hy
    rcases hy with hy | hy
    · exact cell_has hy
    · exact absurd rfl (S.nofree _ (PySem.mem_of_lookup hy))
  · exact Nat.le_of_lt (x.above y c (PySem.mem_of_lookup h))
  · have hi : i < vs.length := by
      unfold start at h2
      by_cases hi : i < vs.length
      · exact hi
      · rw [List.getElem?_append_right (by simpa using hi)] at h2
        rw [List.getElem?_replicate] at h2
        split at h2 <;> cases h2
    have ha : vs[i]? = some v := by
      unfold start at h2
      rw [List.getElem?_append_left (by simpa using hi), List.getElem?_map] at h2
      cases e : vs[i]? with
      | none => rw [e] at h2; cases h2
      | some a => rw [e] at h2; cases h2; rfl
    obtain ⟨u, hu, rv⟩ := r.get ha
    have hp : ps[i]? = some y := by
      rw [← S.pre, List.getElem?_take_of_lt (by omega)]; exact h1
    have ndP : ps.Nodup := by rw [← S.pre]; exact S.nd.sublist (List.take_sublist _ _)
    refine ⟨u, rv, ?_⟩
    rcases S.par y (List.mem_of_getElem? hp) with k | k
    · exact .inl ⟨k, bindL_get ndP hp hu k⟩
    · obtain ⟨c, e⟩ := cell_has (n := s.heap.objs.size + 1) k
      refine .inr ⟨.inl k, c, e, ?_⟩
      have q := x.cell y c e
      rw [bindC_get ndP hp hu (by show scope.names.lookup y ≠ _; rw [k]; decide)] at q
      exact q
  · exact e0.hok.fresh (Nat.le_of_lt (x.above y c (PySem.mem_of_lookup h)))
  · unfold start
    show _ = N.length
    rw [List.length_append, List.length_map, List.length_replicate]
    omega

/-- THE RULE: a def (or a method) of the text, by its body. The body's reading t is chosen for each entry; it is run at the parameters' values -/
theorem fn_of {CX : CXT} {P : Program} {w : World} {K : PySem.W.Frag} {mg : Str → Option Value} {base : Heap} {k : Nat} {f : Addr} {name qual : Str} {params : Arguments} {body : List Stmt} {scope : Scope} {dV kV doc pm cdv ct oc : Value} {an od : Option Addr}
    {osl : Array (Option Value)} {N ps : List Str} {sp : Sp} (lk : K.lookup f = some ⟨oc, od, .func (PySem.W.fnOf name qual params body scope dV kV doc pm an cdv ct), osl⟩) (hcd : PySem.W.codeIn K cdv qual = true) (S : FnScope N ps scope)
    (len : ∀ vs H Q E, sp vs H Q E → vs.length = ps.length)
    (hbody : ∀ (A : Around) (outer : List Env) (s : Shared) (H : Hp) (vs : List V) (Q : VK) (E : XK), Room k (A.deeper (envOfC qual scope s.heap.objs.size f cdv)) → sp vs H Q E →
      ∃ t, PSs (cxOf CX P w K mg base N qual scope f cdv A outer s H E) body t ∧ t { nx := fun _ H' => Q .non H', rt := Q } (start N vs) H) :
    FnOk P w K mg base CX (k + 1) f (PySem.W.fnOf name qual params body scope dV kV doc pm an cdv ct) ps sp := by
  refine ⟨len, fun A outer s H args us vs Q E hr e0 hb r hsp => ?_⟩
  have hl := len _ _ _ _ hsp
  have KX : K.In s.heap := e0.mod.kin.keeps fun b o e => (e0.bs b o e).1
  have lim : s.heap.NoLimit := e0.mod.nolimit.keeps fun b o e => (e0.bs b o e).1
  have hkind : ∀ y ∈ ps.zip us, scope.names.lookup y.1 = some .local ∨ (scope.names.lookup y.1 = some .cell ∧ ((cellsFrom (s.heap.objs.size + 1) scope.names []).lookup y.1).isSome = true) := fun ⟨n, v⟩ hy => by
    rcases S.par n (List.of_mem_zip hy).1 with q | q
    · exact .inl q
    · exact .inr ⟨q, PySem.W.cellsFrom_some _ _ _ (.inl q)⟩
  refine codeAny_call_function hr.depth (KX _ _ lk) rfl S.co S.gen rfl (PySem.W.codeRec_of KX hcd) (hb _ _ _ _ ?_)
  refine wpAny_newFunctionEnv_cells S.kind hkind fun env he s1 x => ?_
  subst he
  refine ⟨lim.keeps x.toInCall.keep, codeAny_func ?_⟩
  obtain ⟨t, ht, hq⟩ := hbody A outer s H vs Q E (hr.deeper _) hsp
  have I : Inv (cxOf CX P w K mg base N qual scope f cdv A outer s H E) [] (start N vs) H s1 := inv_start S hr.hd e0 hl r x
  refine wpAny_mono (ht [] s1 (start N vs) H _ I hq) (fun fl s' hs => ?_) fun e s' hs => hs
  have fin : ∀ {σ' : St} {H' : Hp} {v : V} {u : Value}, Inv (cxOf CX P w K mg base N qual scope f cdv A outer s H E) [] σ' H' s' → RelV v u → Q v H' → CE outer P w H s Q u s' :=
    fun {σ' H' v u} J rv q => ⟨v, H', J.os, J.bare, J.base, J.hok, rv, q⟩
  cases fl with
  | ret u =>
    obtain ⟨v, σ', H', J, rv, q⟩ := hs
    exact fin J rv q
  | next =>
    obtain ⟨σ', H', J, q⟩ := hs
    exact fin (v := V.non) (u := Value.none) J rfl q
  | brk =>
    obtain ⟨_, _, _, q⟩ := hs
    exact False.elim q
  | cont =>
    obtain ⟨_, _, _, q⟩ := hs
    exact False.elim q
end L2

namespace L2
open PySem PySem.Spec PyProof.Rows
section
variable {X : Cx} {x : Str} {p pos : Pos} {e : Expr} {es : List Expr} {t : TA} {id T : String} {r : List V → Hp → VK → Prop}

def tCB (r : List V → Hp → VK → Prop) (t : TA) : TE := fun σ H Q => t σ H fun vs H1 => r vs H1 Q
/-- f(e, ..), f a built-in function -/
theorem pe_callB (hc : CallR X (.builtin id) r) (hg : Gl X x) (hm : X.mg x = none) (hv : bootBuiltins x = some (.builtin id)) (ha : PA X (e :: es) t) (hn : x ≠ "__name__" := by decide) (hdb : (x == ("__debug__" : Str)) = false := by decide)
    (he : starEach (e :: es) X.env = (false, eval e X.env) :: starEach es X.env := by rfl) (hpl : (backTo pos (starEach es X.env)).any (·.1) = false := by rfl) : PE X (.Call (.Name x p) (e :: es) [] pos) (tCB r t) := by
  intro pins s σ H Q I h
  refine wpAny_Call_Name_kw (ld_blt I hg hm hv ?_ hn hdb)
  exact PyProof.Rows.callWith_builtin1 (thn (ha pos pins s σ H _ I h) fun us s1 ⟨vs, H1, I1, r1, q1⟩ => hc pins s1 σ H1 vs us Q I1 r1 q1) he hpl
/-- T(e, ..), T a built-in type -/
theorem pe_callTy (hc : CallR X (.type T) r) (hg : Gl X x) (hm : X.mg x = none) (hv : bootBuiltins x = some (.type T)) (ha : PA X (e :: es) t) (hn : x ≠ "__name__" := by decide) (hdb : (x == ("__debug__" : Str)) = false := by decide)
    (he : starEach (e :: es) X.env = (false, eval e X.env) :: starEach es X.env := by rfl) (hpl : (backTo pos (starEach es X.env)).any (·.1) = false := by rfl) : PE X (.Call (.Name x p) (e :: es) [] pos) (tCB r t) := by
  intro pins s σ H Q I h
  refine wpAny_Call_Name_kw (ld_blt I hg hm hv ?_ hn hdb)
  exact PyProof.Rows.callWith_type1 (thn (ha pos pins s σ H _ I h) fun us s1 ⟨vs, H1, I1, r1, q1⟩ => hc pins s1 σ H1 vs us Q I1 r1 q1) he hpl
end
end L2

namespace HT
open PySem PyProof.Rows

section
open PySem.SeqAt
open PySem.AutoSeq1 (wpAny_loadPart')
open PySem.MeetsSeq PySem.MeetsSeq2 PySem.MeetsSeq3

end

section
variable {prog : Program} {w : World} {A : Around} {E : Value → Shared → Prop} {s : Shared}

/-- t + u, t not empty -/
theorem cat_tup {t b : Addr} {vs ws : List Value} {Q : Value → Shared → Prop} (ht : IsTup s.heap t vs.toArray) (hb : IsTup s.heap b ws.toArray) (hv : vs ≠ [])
    (h1 : ws = [] → Q (.ref t) s) (h2 : ws ≠ [] → Q (.ref s.heap.objs.size) { s with heap := s.heap.push { cls := .type "tuple", data := .seq (vs ++ ws).toArray } })
    (hsz : vs.length + ws.length ≤ sizeLine) : wpAny (model prog w) A (binaryOp .Add (.ref t) (.ref b)) Q E s := by
  obtain ⟨⟨cls, dd, data, sl⟩, ho, hc, n, hd⟩ := id ht
  obtain ⟨⟨cls2, dd2, data2, sl2⟩, ho2, hc2, n2, hd2⟩ := id hb
  simp only at hc hd hc2 hd2
  subst hc hd hc2 hd2
  have e : vs.toArray ++ ws.toArray = (vs ++ ws).toArray := by simp
  by_cases hw : ws = []
  · exact concat_meets ⟨_, ho, rfl⟩ ⟨_, ho2, rfl⟩ noFill_tuple_add seq_tuple_add PySem.F.slot_tuple_add PySem.F.entry_tuple_add (PySem.F.args_tuple_add_2 _ _)
      (tuple_addW1 t b vs.toArray ws.toArray n n2 dd dd2 sl sl2 (by simpa using hv) (by simp [hw])) ⟨ho, ho2, h1 hw⟩
  · refine concat_meets ⟨_, ho, rfl⟩ ⟨_, ho2, rfl⟩ noFill_tuple_add seq_tuple_add PySem.F.slot_tuple_add PySem.F.entry_tuple_add (PySem.F.args_tuple_add_2 _ _)
      (tuple_addW2 t b vs.toArray ws.toArray n n2 dd dd2 sl sl2 (by simpa using hv) (by simpa using hw) (by rw [List.size_toArray, List.size_toArray]; exact hsz)) ⟨ho, ho2, ?_⟩
    rw [e]
    exact h2 hw

/-! ### t[a:b], not the whole -/
/-- a slice's bound as a place among n (d where it is left out) -/
def sIx (n d : Nat) : Option Int → Nat
  | none => d
  | some v => if v < 0 then (v + (n : Int)).toNat else min v.toNat n
theorem sIx_none (n d : Nat) : sIx n d none = d := rfl
theorem sIx_nat (n d k : Nat) : sIx n d (some (k : Int)) = min k n := by
  show (if (k : Int) < 0 then ((k : Int) + (n : Int)).toNat else min (k : Int).toNat n) = min k n
  rw [if_neg (by omega), Int.toNat_natCast]
theorem sIx_le (n d : Nat) (hd : d ≤ n) (o : Option Int) : sIx n d o ≤ n := by
  cases o with
  | none => exact hd
  | some v =>
    show (if v < 0 then (v + (n : Int)).toNat else min v.toNat n) ≤ n
    by_cases hv : v < 0
    · rw [if_pos hv]; omega
    · rw [if_neg hv]; exact Nat.min_le_right _ _
theorem clip_eq (v : Int) (n d : Nat) : (if v < 0 then max (v + (n : Int)) 0 else min v (n : Int)) = ((sIx n d (some v) : Nat) : Int) := by
  show (if v < 0 then max (v + (n : Int)) 0 else min v (n : Int)) = (((if v < 0 then (v + (n : Int)).toNat else min v.toNat n) : Nat) : Int)
  by_cases hv : v < 0
  · simp only [if_pos hv]; omega
  · simp only [if_neg hv]; omega
theorem adjust_gen (lo hi : Option Int) (n : Nat) : Builtin.Slice.sliceAdjust lo hi 1 (n : Int) = (((sIx n 0 lo : Nat) : Int), ((sIx n n hi : Nat) : Int)) := by
  have h1 : ¬ ((1 : Int) < 0) := by omega
  unfold Builtin.Slice.sliceAdjust
  simp only [h1, if_false]
  refine Prod.ext ?_ ?_
  · cases lo with
    | none => rfl
    | some v => exact clip_eq v n 0
  · cases hi with
    | none => rfl
    | some v => exact clip_eq v n n
theorem places_gen (i j : Nat) : Builtin.Slice.slicePlaces (i : Int) (j : Int) 1 = j - i := by
  unfold Builtin.Slice.slicePlaces
  have h1 : (1 : Int) > 0 := by omega
  simp only [h1, if_true, Int.ediv_one]
  split <;> omega
theorem slicePart_ {v : Value} {o : Option Int} {Q : Option Int → Shared → Prop} (p : IsPart v o) (h : Q o s) : wpAny (model prog w) A (Builtin.Slice.slicePartIndex v) Q E s := by
  cases p with
  | none => exact slicePart_none h
  | int i t => exact slicePart_int h
theorem sliceApplied_gen {sl : Addr} {vl vu : Value} {lo hi : Option Int} {n : Nat} {Q : Int × Int × Nat → Shared → Prop} (hs : s.heap.IsSliceOf sl vl vu .none) (pl : IsPart vl lo) (pu : IsPart vu hi)
    (h : Q (((sIx n 0 lo : Nat) : Int), 1, sIx n n hi - sIx n 0 lo) s) : wpAny (model prog w) A (Builtin.Slice.sliceApplied (.ref sl) (pure (n : Int))) Q E s := by
  obtain ⟨os, hos, hcs, hds⟩ := id hs
  unfold Builtin.Slice.sliceApplied Builtin.Slice.sliceFields
  refine wpAny_bind (wpAny_bind (wpAny_field hos hds (x := vl) rfl (wpAny_bind (wpAny_field hos hds (x := vu) rfl (wpAny_bind (wpAny_field hos hds (x := .none) rfl (wpAny_pure ?_)))))))
  refine wpAny_bind (slicePart_none ?_)
  show wpAny _ _ (if ((1 : Int) == 0) = true then _ else _) _ _ s
  rw [if_neg (by decide)]
  refine wpAny_bind (slicePart_ pl (wpAny_bind (slicePart_ pu (wpAny_bind (wpAny_pure ?_)))))
  show wpAny _ _ (match Builtin.Slice.sliceAdjust lo hi 1 (n : Int) with | (lo, hi) => pure (lo, (1 : Int), Builtin.Slice.slicePlaces lo hi 1)) _ _ s
  rw [adjust_gen lo hi n]
  show wpAny _ _ (pure (((sIx n 0 lo : Nat) : Int), (1 : Int), Builtin.Slice.slicePlaces ((sIx n 0 lo : Nat) : Int) ((sIx n n hi : Nat) : Int) 1)) _ _ s
  rw [places_gen]
  exact wpAny_pure h
theorem pick_gen (xs : Array Value) (i k : Nat) : ((List.range k).filterMap fun (m : Nat) => xs[((i : Int) + (m : Int) * 1).toNat]?).toArray = ((xs.toList.drop i).take k).toArray := by
  have e : (fun (m : Nat) => xs[((i : Int) + (m : Int) * 1).toNat]?) = fun m => xs[i + m]? := by
    funext m
    have : ((i : Int) + (m : Int) * 1).toNat = i + m := by omega
    rw [this]
  rw [e]
  have := pick_run xs i k
  rw [List.filterMap_map] at this
  have e2 : ((fun x => xs[x]?) ∘ fun x => i + x) = fun m => xs[i + m]? := rfl
  rw [e2] at this
  rw [this]

theorem getItem_tuple_cut {t sl : Addr} {items : Array Value} {vl vu : Value} {lo hi : Option Int} {Q : Value → Shared → Prop} (ht : IsTup s.heap t items) (hs : s.heap.IsSliceOf sl vl vu .none) (pl : IsPart vl lo) (pu : IsPart vu hi)
    (hw : ¬ (sIx items.size 0 lo = 0 ∧ sIx items.size items.size hi = items.size))
    (h : Q (.ref s.heap.objs.size) { s with heap := s.heap.push { cls := .type "tuple", data := .seq ((items.toList.drop (sIx items.size 0 lo)).take (sIx items.size items.size hi - sIx items.size 0 lo)).toArray } })
    (hsz : items.size ≤ sizeLine) : wpAny (model prog w) A (getItem (.ref t) (.ref sl)) Q E s := by
  have htake : sizeOk (.seq ((items.toList.drop (sIx items.size 0 lo)).take (sIx items.size items.size hi - sIx items.size 0 lo)).toArray) := by
    show ((items.toList.drop (sIx items.size 0 lo)).take (sIx items.size items.size hi - sIx items.size 0 lo)).toArray.size ≤ sizeLine
    rw [List.size_toArray, List.length_take, List.length_drop, Array.length_toList]
    omega
  have hj : sIx items.size items.size hi ≤ items.size := sIx_le _ _ (Nat.le_refl _) hi
  obtain ⟨os, hos, hcs, hds⟩ := id hs
  have hTs : s.TypeIs (.ref sl) "slice" := ⟨os, hos, hcs⟩
  unfold getItem
  try with_reducible refine wpAny_holding ?_
  first | refine wpAny_bind (wpAny_pure ?_) | skip
  refine wpAny_bind (wpAny_sequenceKey ht.typeIs (by decide) ?_)
  refine wpAny_bind (wpAny_callSpecial?_slot (name := Str.ofString "__getitem__") ht.typeIs PyProof.Rows.slot_tuple_getitem
    (wpAny_call_entry PyProof.Rows.slot_tuple_getitem ht.typeIs entry_tuple_getitem ?_ (args_tuple_getitem _ _)))
  show wpAny _ _ (Builtin.Tuple.tupleItemsOf (.ref t) >>= _) _ _ s
  refine wpAny_bind (tupleItemsOf_ ht ?_)
  refine wpAny_bind (wpAny_typeOf hTs ?_)
  rw [if_pos (by decide)]
  refine wpAny_bind (sliceApplied_gen hs pl pu ?_)
  have hno : ¬ ((((sIx items.size 0 lo : Nat) : Int) == 0 && (1 : Int) == 1 && (sIx items.size items.size hi - sIx items.size 0 lo) == items.size) = true) := by
    intro q
    rw [Bool.and_eq_true, Bool.and_eq_true] at q
    have q1 : ((sIx items.size 0 lo : Nat) : Int) = 0 := eq_of_beq q.1.1
    have q2 : sIx items.size items.size hi - sIx items.size 0 lo = items.size := eq_of_beq q.2
    exact hw ⟨by omega, by omega⟩
  show wpAny _ _ (if (((sIx items.size 0 lo : Nat) : Int) == 0 && (1 : Int) == 1 && (sIx items.size items.size hi - sIx items.size 0 lo) == items.size) = true then _ else _) _ _ s
  rw [if_neg hno, pick_gen]
  first
    | exact wpAny_bind (m := Builtin.Tuple.tupleExact _) (wpAny_newObj_type (wpAny_pure ⟨_, rfl, wpAny_pure h⟩) htake)
    | exact wpAny_bind (m := Builtin.Tuple.tupleExact _) (wpAny_newObj_type (wpAny_bind (wpAny_pure (wpAny_pure ⟨_, rfl, wpAny_pure h⟩))) htake)
    | exact wpAny_bind (wpAny_bind (m := Builtin.Tuple.tupleExact _) (wpAny_newObj_type (wpAny_pure (wpAny_pure ⟨_, rfl, wpAny_pure h⟩)) htake))
    | exact wpAny_bind (wpAny_bind (m := Builtin.Tuple.tupleExact _) (wpAny_newObj_type (wpAny_pure ⟨_, rfl, wpAny_pure h⟩) htake))
end
end HT

namespace L2
open PySem PySem.Spec PyProof.Rows

/-! ### the parts of a slice -/
abbrev TO := St → Hp → (Option Int → Hp → Prop) → Prop
/-- a slice's part (left out, or an int) -/
def PO (X : Cx) (e : Option Expr) (t : TO) : Prop :=
  ∀ (pins : List (Addr × Obj)) (s : Shared) (σ : St) (H : Hp) (Q : Option Int → Hp → Prop), Inv X pins σ H s → t σ H Q →
    wpAny (model X.prog X.w) X.A (evalPart e X.env) (fun u s' => ∃ o H', Inv X pins σ H' s' ∧ IsPart u o ∧ Q o H') X.xe s
def tNoPart : TO := fun _ H Q => Q none H
def tPart (t : TE) : TO := fun σ H Q => t σ H fun x H1 => ∃ i, x = .int i ∧ Q (some i) H1

section
variable {X : Cx} {e : Expr} {te : TE} {lo hi : Option Expr} {tl th : TO} {pos p2 : Pos}

theorem po_none : PO X none tNoPart := by
  intro pins s σ H Q I h
  rw [evalPart_none]
  exact wpAny_pure ⟨none, H, I, .none, h⟩
theorem po_some (h : PE X e te) : PO X (some e) (tPart te) := by
  intro pins s σ H Q I hw
  rw [evalPart_some]
  refine thn (h pins s σ H _ I hw) fun u s1 ⟨x, H1, I1, r1, q1⟩ => ?_
  obtain ⟨i, rfl, q⟩ := q1
  obtain ⟨t, rfl⟩ := r1
  exact ⟨some i, H1, I1, .int i t, q⟩

/-- what a slice of a value is, by values: the slice object stands at sl -/
def SlR (X : Cx) (r : V → Option Int → Option Int → Hp → VK → Prop) : Prop :=
  ∀ (pins : List (Addr × Obj)) (s : Shared) (σ : St) (H : Hp) (x : V) (v vl vu : Value) (lo hi : Option Int) (sl : Addr) (Q : VK), Inv X pins σ H s → RelV x v → s.heap.IsSliceOf sl vl vu .none → IsPart vl lo → IsPart vu hi → r x lo hi H Q →
    ∃ T id, typeLookup (.type T) "__getitem__" = pure (some (.builtin id)) ∧ s.TypeIs v T ∧ wpAny (model X.prog X.w) X.A (getItem v (.ref sl)) (EP X pins σ Q) X.xe s
theorem SlR.or {r r' : V → Option Int → Option Int → Hp → VK → Prop} (h : SlR X r) (h' : SlR X r') : SlR X (fun x lo hi H Q => r x lo hi H Q ∨ r' x lo hi H Q) := by
  intro pins s σ H x v vl vu lo hi sl Q I rx hs pl pu q
  rcases q with q | q
  · exact h pins s σ H x v vl vu lo hi sl Q I rx hs pl pu q
  · exact h' pins s σ H x v vl vu lo hi sl Q I rx hs pl pu q
def tSl (r : V → Option Int → Option Int → Hp → VK → Prop) (te : TE) (tl th : TO) : TE := fun σ H Q => te σ H fun x H1 => tl σ H1 fun l H2 => th σ H2 fun u H3 => r x l u H3 Q
/-- a[lo:hi], any a -/
theorem pe_slice {r : V → Option Int → Option Int → Hp → VK → Prop} (hr : SlR X r) (he : PE X e te) (hl : PO X lo tl) (hu : PO X hi th) : PE X (.Subscript e (.Slice lo hi none p2) pos) (tSl r te tl th) := by
  intro pins s σ H Q I h
  refine Subscript_ (thn (he pins s σ H _ I h) fun v s1 ⟨x, H1, I1, r1, q1⟩ => ?_)
  refine wpAny_Slice (thn (hl pins s1 σ H1 _ I1 q1) fun vl s2 ⟨l, H2, I2, pl, q2⟩ => thn (hu pins s2 σ H2 _ I2 q2) fun vu s3 ⟨u, H3, I3, pu, q3⟩ => ?_)
  rw [evalPart_none]
  refine wpAny_pure ?_
  have I4 : Inv X pins σ H3 { s3 with heap := s3.heap.push { cls := .type "slice", data := .fields #[vl, vu, .none] } } := I3.kept (t' := s3.toks) fun b ob q => Heap.get?_push_of_some _ q
  obtain ⟨T, id, hT, ht, hg⟩ := hr pins { s3 with heap := s3.heap.push { cls := .type "slice", data := .fields #[vl, vu, .none] } } σ H3 x v vl vu l u s3.heap.objs.size Q I4 r1 (Heap.IsSliceOf.new ..) pl pu q3
  show wpAny (model X.prog X.w) X.A (subscriptTail e (.Slice lo hi none p2) v (.ref s3.heap.objs.size)) (EP X pins σ Q) X.xe { s3 with heap := s3.heap.push { cls := .type "slice", data := .fields #[vl, vu, .none] } }
  exact tail_any (ops := [.ref s3.heap.objs.size, v]) ht hT hg (by with_unfolding_all rfl)

/-- the items of xs[lo:hi] -/
def cutV (xs : List V) (lo hi : Option Int) : List V := (xs.drop (HT.sIx xs.length 0 lo)).take (HT.sIx xs.length xs.length hi - HT.sIx xs.length 0 lo)
theorem cutV_length (xs : List V) (lo hi : Option Int) : (cutV xs lo hi).length ≤ xs.length := by
  unfold cutV
  rw [List.length_take, List.length_drop]
  omega
/-- t[lo:hi], not the whole of it (the whole would be t itself) -/
def rSlT (K : PySem.W.Frag) : V → Option Int → Option Int → Hp → VK → Prop := fun x lo hi H Q => ∃ a xs, x = .ref a ∧ SqT K H a xs ∧
  ¬ (HT.sIx xs.length 0 lo = 0 ∧ HT.sIx xs.length xs.length hi = xs.length) ∧ ∀ p, H p = none → Q (.ref p) (upd H p (.tup (cutV xs lo hi)))
theorem sl_tup : SlR X (rSlT X.K) := by
  intro pins s σ H x v vl vu lo hi sl Q I rx hs pl pu h
  obtain ⟨a, xs, rfl, hx, hw, q⟩ := h
  cases rx
  obtain ⟨its, r, ht, hz⟩ := I.tuple hx
  have hlen : its.toArray.size = xs.length := by rw [List.size_toArray]; exact r.length.symm
  refine ⟨"tuple", _, PyProof.Rows.slot_tuple_getitem.lookup, ht.typeIs, ?_⟩
  refine HT.getItem_tuple_cut ht hs pl pu (by rw [hlen]; exact hw) ?_ (by rw [hlen]; exact hz)
  rw [hlen]
  refine ⟨.ref s.heap.objs.size, _, I.laid (t' := s.toks) (o := .tup (cutV xs lo hi)) (fun b ob q => Heap.get?_push_of_some _ q) (Nat.le_refl _) ?_, rfl, q _ (I.hok.fresh (Nat.le_refl _))⟩
  exact ⟨Nat.le_trans (cutV_length xs lo hi) hz, _, (r.drop (HT.sIx xs.length 0 lo)).take (HT.sIx xs.length xs.length hi - HT.sIx xs.length 0 lo), IsTup.new _ _⟩

/-! ### t < u, t + u -/
/-- t + u, t not empty: u empty gives t itself -/
def rCatT (K : PySem.W.Frag) : R2 := fun x y H Q => ∃ a b xs ys, x = .ref a ∧ y = .ref b ∧ SqT K H a xs ∧ SqT K H b ys ∧ xs ≠ [] ∧ xs.length + ys.length ≤ sizeLine ∧
  (ys = [] → Q (.ref a) H) ∧ (ys ≠ [] → ∀ p, H p = none → Q (.ref p) (upd H p (.tup (xs ++ ys))))
theorem Vals.nil_iff {xs : List V} {us : List Value} (r : Vals xs us) : us = [] ↔ xs = [] := by
  cases r with
  | nil => simp
  | cons _ _ => simp
theorem op_catT : OpR X (binaryOp .Add) (rCatT X.K) := by
  intro pins s σ H x y v u Q I rx ry h
  obtain ⟨a, b, xs, ys, rfl, rfl, ha, hb, hx, hz, q1, q2⟩ := h
  cases rx
  cases ry
  obtain ⟨its, r1, p1, _⟩ := I.tuple ha
  obtain ⟨its2, r2, p2, _⟩ := I.tuple hb
  refine HT.cat_tup p1 p2 (fun z => hx (r1.nil_iff.mp z)) (fun z => ⟨.ref a, H, I, rfl, q1 (r2.nil_iff.mp z)⟩) (fun z => ?_) (by rw [← r1.length, ← r2.length]; exact hz)
  refine ⟨.ref s.heap.objs.size, _, I.laid (t' := s.toks) (o := .tup (xs ++ ys)) (fun b ob q => Heap.get?_push_of_some _ q) (Nat.le_refl _) ?_, rfl, q2 (fun w => z (r2.nil_iff.mpr w)) _ (I.hok.fresh (Nat.le_refl _))⟩
  exact ⟨by rw [List.length_append]; exact hz, _, r1.append r2, IsTup.new _ _⟩
end
end L2

namespace L2
open PySem PySem.Spec PyProof.Rows

/-! ### places -/
/-- the place that an index of any sign means -/
def ixN (n : Nat) (i : Int) : Option Nat := if 0 ≤ i then (if i < n then some i.toNat else none) else if -(n : Int) ≤ i then some (i + n).toNat else none
def atI {α : Type} (xs : List α) (i : Int) : Option α := (ixN xs.length i).bind fun j => xs[j]?
theorem ixN_seq {n : Nat} {i : Int} {j : Nat} (h : ixN n i = some j) : seqIndex? i n = some j ∧ j < n ∧ -(n : Int) ≤ i ∧ i < n := by
  unfold ixN at h
  by_cases h0 : 0 ≤ i
  · rw [if_pos h0] at h
    by_cases h1 : i < n
    · rw [if_pos h1] at h
      have e : i.toNat = j := Option.some.inj h
      exact ⟨by rw [seqIndex_of h0 h1, e], by omega, by omega, h1⟩
    · rw [if_neg h1] at h; cases h
  · rw [if_neg h0] at h
    by_cases h1 : -(n : Int) ≤ i
    · rw [if_pos h1] at h
      have e : (i + n).toNat = j := Option.some.inj h
      exact ⟨by rw [seqIndex_neg (by omega) h1, e], by omega, h1, by omega⟩
    · rw [if_neg h1] at h; cases h
theorem atI_get {α : Type} {xs : List α} {i : Int} {v : α} (h : atI xs i = some v) : ∃ j, seqIndex? i xs.length = some j ∧ xs[j]? = some v ∧ j < xs.length ∧ -(xs.length : Int) ≤ i ∧ i < xs.length := by
  unfold atI at h
  cases e : ixN xs.length i with
  | none => rw [e] at h; cases h
  | some j =>
    rw [e] at h
    obtain ⟨h1, h2, h3, h4⟩ := ixN_seq e
    exact ⟨j, h1, h, h2, h3, h4⟩
theorem atI_nat {α : Type} {xs : List α} {j : Nat} {v : α} (h : xs[j]? = some v) : atI xs (j : Int) = some v := by
  have hj : j < xs.length := (List.getElem?_eq_some_iff.mp h).1
  have e : ixN xs.length (j : Int) = some j := by
    unfold ixN
    rw [if_pos (by omega), if_pos (by omega)]; simp
  unfold atI; rw [e]; exact h
/-! ### what may be subscripted -/
/-- what stands as an index of a plain subscript -/
def PlainIx (b : Expr) : Prop := ∀ o i, subscripted b false o i = operate [o, i] (getItem o i)
/-- a subscript by values -/
def IxR (X : Cx) (r : R2) : Prop :=
  ∀ (value slice : Expr) (pins : List (Addr × Obj)) (s : Shared) (σ : St) (H : Hp) (x y : V) (v u : Value) (Q : VK), Inv X pins σ H s → RelV x v → RelV y u → r x y H Q →
    subscripted slice false v u = operate [v, u] (getItem v u) → wpAny (model X.prog X.w) X.A (subscriptTail value slice v u) (EP X pins σ Q) X.xe s
/-- a call of a builtin's method by values: the receiver, the arguments -/
def MtR (X : Cx) (id : String) (r : V → List V → Hp → VK → Prop) : Prop :=
  ∀ (pins : List (Addr × Obj)) (s : Shared) (σ : St) (H : Hp) (x : V) (xs : List V) (v : Value) (us : List Value) (Q : VK), Inv X pins σ H s → RelV x v → Vals xs us → r x xs H Q →
    wpAny (model X.prog X.w) X.A (call (.builtin id) (v :: us)) (EP X pins σ Q) X.xe s
section
variable {X : Cx} {a b : Expr} {ta tb : TE} {pos : Pos}
theorem IxR.or {r r' : R2} (h : IxR X r) (h' : IxR X r') : IxR X (fun x y H Q => r x y H Q ∨ r' x y H Q) := by
  intro value slice pins s σ H x y v u Q I rx ry q hs
  rcases q with q | q
  · exact h value slice pins s σ H x y v u Q I rx ry q hs
  · exact h' value slice pins s σ H x y v u Q I rx ry q hs
theorem MtR.or {id : String} {r r' : V → List V → Hp → VK → Prop} (h : MtR X id r) (h' : MtR X id r') : MtR X id (fun x xs H Q => r x xs H Q ∨ r' x xs H Q) := by
  intro pins s σ H x xs v us Q I rx rs q
  rcases q with q | q
  · exact h pins s σ H x xs v us Q I rx rs q
  · exact h' pins s σ H x xs v us Q I rx rs q
/-- a[b] -/
theorem pe_ix {r : R2} (hr : IxR X r) (ha : PE X a ta) (hb : PE X b tb) (hs : PlainIx b) : PE X (.Subscript a b pos) (tOp r ta tb) := by
  intro pins s σ H Q I h
  exact Subscript_ (binT ha hb I h fun v u s2 x y H2 I2 rx ry q => hr a b pins s2 σ H2 x y v u Q I2 rx ry q (hs _ _))

def rIxL (K : PySem.W.Frag) : R2 := fun x y H Q => ∃ p xs i v, x = .ref p ∧ y = .int i ∧ SqL K H p xs ∧ atI xs i = some v ∧ Q v H
def rIxT (K : PySem.W.Frag) : R2 := fun x y H Q => ∃ p xs i v, x = .ref p ∧ y = .int i ∧ SqT K H p xs ∧ atI xs i = some v ∧ Q v H
def rIxS : R2 := fun x y H Q => ∃ z i c, x = .str z ∧ y = .int i ∧ z.length ≤ sizeLine ∧ atI z.cps.toList i = some c ∧ Q (.str ⟨#[c]⟩) H
theorem ix_list : IxR X (rIxL X.K) := by
  intro value slice pins s σ H x y v u Q I rx ry h hs
  obtain ⟨p, xs, i, z, rfl, rfl, hq, he, q⟩ := h
  cases rx
  obtain ⟨t, rfl⟩ := ry
  obtain ⟨its, r, pl, hz⟩ := I.list hq
  obtain ⟨j, h1, h2, h3, h4, h5⟩ := atI_get he
  obtain ⟨w, ew, rw'⟩ := r.get h2
  have hl := r.length
  have hn := line63
  have fin : EP X pins σ Q w s := ⟨z, H, I, rw', q⟩
  by_cases h0 : 0 ≤ i
  · have hj : i.toNat = j := by
      rw [seqIndex_of h0 h5] at h1
      exact Option.some.inj h1
    exact item_listR pl.isList h0 (by omega) (by rw [hj]; simpa using ew) fin hs
  · have hj : (i + (its.toArray.size : Int)).toNat = j := by
      rw [seqIndex_neg (by omega) h4] at h1
      rw [List.size_toArray, ← hl]
      exact Option.some.inj h1
    exact subscriptTail_builtinR (x := w) pl.isList.typeIs slot_list_getitem.lookup
      (wpAny_getItem_list_neg (Q := fun r s' => r = w ∧ EP X pins σ Q r s') pl.isList (by omega) (by rw [List.size_toArray] <;> omega) (by omega) (by rw [hj]; simpa using ew) ⟨rfl, fin⟩) hs
theorem ix_tup : IxR X (rIxT X.K) := by
  intro value slice pins s σ H x y v u Q I rx ry h hs
  obtain ⟨p, xs, i, z, rfl, rfl, hq, he, q⟩ := h
  cases rx
  obtain ⟨t, rfl⟩ := ry
  obtain ⟨its, r, pl, hz⟩ := I.tuple hq
  obtain ⟨j, h1, h2, h3, h4, h5⟩ := atI_get he
  obtain ⟨w, ew, rw'⟩ := r.get h2
  have hl := r.length
  have hn := line63
  have fin : EP X pins σ Q w s := ⟨z, H, I, rw', q⟩
  exact subscriptTail_builtinR (x := w) pl.typeIs slot_tuple_getitem.lookup
    (getItem_tuple (j := j) (Q := fun r s' => r = w ∧ EP X pins σ Q r s') pl (by omega) (by omega) (by rw [List.size_toArray, ← hl]; exact h1) (by simpa using ew) ⟨rfl, fin⟩) hs
theorem ix_str : IxR X rIxS := by
  intro value slice pins s σ H x y v u Q I rx ry h hs
  obtain ⟨z, i, c, rfl, rfl, hz, he, q⟩ := h
  obtain ⟨t, rfl⟩ := rx
  obtain ⟨t', rfl⟩ := ry
  obtain ⟨j, h1, h2, h3, h4, h5⟩ := atI_get he
  have hl : z.cps.toList.length = z.length := by simp [Str.length]
  rw [hl] at h1 h4 h5
  have hn := line63
  exact tail_any (typeIs_str s z t) slot_str_getitem.lookup (getItem_str (c := c) (by
    have e1 : decide (i < -(2 ^ 63 : Int)) = false := decide_eq_false (by omega)
    have e2 : decide (i ≥ 2 ^ 63) = false := decide_eq_false (by omega)
    rw [e1, e2, Bool.or_false]) (by rw [h1]; simpa using h2) ⟨.str ⟨#[c]⟩, H, I.tok _, ⟨_, rfl⟩, q⟩) hs
/-! ### xs[i] = v, any sign -/
/-- the list's object behind a store -/
theorem mapSeq_set (its : List Value) (n j : Nat) (u : Value) : Obj.mapSeq (·.setIfInBounds j u) { cls := .type "list", data := .seq its.toArray n } = { cls := .type "list", data := .seq (its.set j u).toArray n } := by
  simp [Obj.mapSeq]
theorem Inv.lst {pins : List (Addr × Obj)} {σ : St} {H : Hp} {s : Shared} {p : Addr} {xs : List V} (I : Inv X pins σ H s) (h : H p = some (.lst xs)) :
    ∃ (its : List Value) (n : Nat), Vals xs its ∧ s.heap.get? p = some { cls := .type "list", data := .seq its.toArray n } ∧ xs.length ≤ sizeLine := by
  obtain ⟨z, its, n, r, e⟩ := I.hok p _ h
  exact ⟨its, n, r, e, z⟩
/-- the list at p is written by an update of its object -/
theorem Inv.lstUpd {pins : List (Addr × Obj)} {σ : St} {H : Hp} {s : Shared} {p : Addr} {xs ys : List V} {its its' : List Value} {n n' : Nat} {f : Obj → Obj} (I : Inv X pins σ H s) (h : H p = some (.lst xs))
    (ho : s.heap.get? p = some { cls := .type "list", data := .seq its.toArray n }) (hf : f { cls := .type "list", data := .seq its.toArray n } = { cls := .type "list", data := .seq its'.toArray n' }) (r : Vals ys its') (hz : ys.length ≤ sizeLine) (t : Nat) :
    Inv X pins σ (upd H p (.lst ys)) { s with heap := s.heap.update p f, toks := t } := by
  have e : (s.heap.update p f).get? p = some { cls := .type "list", data := .seq its'.toArray n' } := by
    rw [Heap.get?_update_self f ho (by rw [hf] <;> rfl), hf]
  refine I.write (x := p) (e := p) (by rw [h]; trivial) (.inl rfl) (fun b u hb q => (Heap.get?_update_other _ _ (Ne.symm hb)).trans q) ⟨_, e⟩ ?_
  exact ⟨hz, its', n', r, e⟩
def rSetL : V → V → V → Hp → (Hp → Prop) → Prop := fun o i v H Q => ∃ p xs k j, o = .ref p ∧ i = .int k ∧ H p = some (.lst xs) ∧ ixN xs.length k = some j ∧ Q (upd H p (.lst (xs.set j v)))
theorem set_list : PSet X rSetL := by
  intro pins s σ H o i v ov iv u Q I ro ri rv h
  obtain ⟨p, xs, k, j, rfl, rfl, hp, hj, q⟩ := h
  cases ro
  obtain ⟨t, rfl⟩ := ri
  obtain ⟨its, n, r, ho, hz⟩ := I.lst hp
  obtain ⟨h1, h2, h3, h4⟩ := ixN_seq hj
  have hl := r.length
  have hn := line63
  have I' : Inv X pins σ (upd H p (.lst (xs.set j v))) { s with heap := s.heap.update p (Obj.mapSeq (·.setIfInBounds j u)) } :=
    I.lstUpd hp ho (mapSeq_set its n j u) (r.set rv j) (by rw [List.length_set]; exact hz) s.toks
  by_cases h0 : 0 ≤ k
  · have hk : k.toNat = j := by
      rw [seqIndex_of h0 h4] at h1
      exact Option.some.inj h1
    exact PySem.W.ki_setAt ho h0 (by omega) (by rw [List.size_toArray, ← hl]; exact h4) (by rw [hk]; exact ⟨_, I', q⟩)
  · have hk : (k + (its.toArray.size : Int)).toNat = j := by
      rw [seqIndex_neg (by omega) h3] at h1
      rw [List.size_toArray, ← hl]
      exact Option.some.inj h1
    exact PySem.W.ki_setBack ho (by omega) (by rw [List.size_toArray, ← hl]; exact h3) (by omega) (by rw [hk]; exact ⟨_, I', q⟩)

/-! ### slices -/
theorem slice_bounds (lo hi : Option Int) (n : Nat) : (sliceBounds lo hi none n).1 = ((HT.sIx n 0 lo : Nat) : Int) ∧ (sliceBounds lo hi none n).2.1 = ((HT.sIx n n hi : Nat) : Int) ∧ (sliceBounds lo hi none n).2.2 = 1 := by
  refine ⟨?_, ?_, rfl⟩
  · cases lo with
    | none => simp [sliceBounds, HT.sIx]
    | some i =>
      simp only [sliceBounds, HT.sIx, Option.getD_none, show (1 : Int) > 0 by decide, if_true]
      by_cases h : i < 0
      · simp only [h, if_true] <;> omega
      · simp only [h, if_false] <;> omega
  · cases hi with
    | none => simp [sliceBounds, HT.sIx]
    | some i =>
      simp only [sliceBounds, HT.sIx, Option.getD_none, show (1 : Int) > 0 by decide, if_true]
      by_cases h : i < 0
      · simp only [h, if_true] <;> omega
      · simp only [h, if_false] <;> omega
theorem slicePick_cut (its : List Value) (lo hi : Option Int) : slicePick its.toArray lo hi none = ((its.drop (HT.sIx its.length 0 lo)).take (HT.sIx its.length its.length hi - HT.sIx its.length 0 lo)).toArray := by
  obtain ⟨h1, h2, h3⟩ := slice_bounds lo hi its.toArray.size
  unfold slicePick
  rw [h1, h2, h3]
  simp only [sliceRange_one, pick_run, List.size_toArray] <;> rfl
/-- xs[lo:hi] of a list: a new list -/
def rSlL (K : PySem.W.Frag) : V → Option Int → Option Int → Hp → VK → Prop := fun x lo hi H Q => ∃ a xs, x = .ref a ∧ SqL K H a xs ∧ ∀ p, H p = none → Q (.ref p) (upd H p (.lst (cutV xs lo hi)))
theorem sl_list : SlR X (rSlL X.K) := by
  intro pins s σ H x v vl vu lo hi sl Q I rx hs pl pu h
  obtain ⟨a, xs, rfl, hx, q⟩ := h
  cases rx
  obtain ⟨its, r, ht, hz⟩ := I.list hx
  have hlen := r.length
  refine ⟨"list", _, slot_list_getitem.lookup, ht.isList.typeIs, ?_⟩
  refine wpAny_getItem_list_slice ht.isList hs pl pu .none (by simp) ?_ (by rw [List.size_toArray] <;> omega)
  rw [slicePick_cut, ← hlen]
  refine ⟨.ref s.heap.objs.size, _, I.laid (t' := s.toks) (o := .lst (cutV xs lo hi)) (fun b ob q => Heap.get?_push_of_some _ q) (Nat.le_refl _) ?_, rfl, q _ (I.hok.fresh (Nat.le_refl _))⟩
  exact ⟨Nat.le_trans (cutV_length xs lo hi) hz, _, 0, (r.drop (HT.sIx xs.length 0 lo)).take (HT.sIx xs.length xs.length hi - HT.sIx xs.length 0 lo), Heap.get?_push_size _ rfl⟩

/-! ### in, not in: flat items -/
def flatV : V → Bool
  | .non => true
  | .bl _ => true
  | .int _ => true
  | .str _ => true
  | _ => false
/-- == of flat values -/
def eqV : V → V → Bool
  | .non, .non => true
  | .bl a, .bl b => a == b
  | .bl a, .int b => (if a then 1 else 0) == b
  | .int a, .bl b => a == (if b then 1 else 0)
  | .int a, .int b => a == b
  | .str a, .str b => a == b
  | _, _ => false
theorem eqAt_V {A : Around} {s : Shared} {y x : V} {u v : Value} (ry : RelV y u) (rx : RelV x v) (fy : flatV y = true) (fx : flatV x = true) : SeqAt.EqAt A s u v (eqV y x) := by
  cases y with
  | non =>
    cases ry
    cases x with
    | non => cases rx; exact SeqAt.EqAt.same _
    | bl b => cases rx; exact SeqAt.EqAt.none_bool b
    | int b => obtain ⟨t, rfl⟩ := rx; exact SeqAt.EqAt.none_int b t
    | str b => obtain ⟨t, rfl⟩ := rx; exact SeqAt.EqAt.none_str b t
    | _ => exact absurd (show false = true from fx) Bool.false_ne_true
  | bl a =>
    cases ry
    cases x with
    | non => cases rx; exact SeqAt.EqAt.bool_none a
    | bl b => cases rx; exact SeqAt.EqAt.bool_bool a b
    | int b => obtain ⟨t, rfl⟩ := rx; exact SeqAt.EqAt.bool_int a b t
    | str b => obtain ⟨t, rfl⟩ := rx; exact SeqAt.EqAt.bool_str a b t
    | _ => exact absurd (show false = true from fx) Bool.false_ne_true
  | int a =>
    obtain ⟨t', rfl⟩ := ry
    cases x with
    | non => cases rx; exact SeqAt.EqAt.int_none a t'
    | bl b => cases rx; exact SeqAt.EqAt.int_bool a t' b
    | int b => obtain ⟨t, rfl⟩ := rx; exact SeqAt.EqAt.int_int a t' b t
    | str b => obtain ⟨t, rfl⟩ := rx; exact SeqAt.EqAt.int_str a t' b t
    | _ => exact absurd (show false = true from fx) Bool.false_ne_true
  | str a =>
    obtain ⟨t', rfl⟩ := ry
    cases x with
    | non => cases rx; exact SeqAt.EqAt.str_none a t'
    | bl b => cases rx; exact SeqAt.EqAt.str_bool a t' b
    | int b => obtain ⟨t, rfl⟩ := rx; exact SeqAt.EqAt.str_int a t' b t
    | str b => obtain ⟨t, rfl⟩ := rx; exact SeqAt.EqAt.str_str a t' b t
    | _ => exact absurd (show false = true from fx) Bool.false_ne_true
  | _ => exact absurd (show false = true from fy) Bool.false_ne_true
/-- the items' answers, read off the values (a value's own answer does not lean on its token) -/
def eqU (x : V) (u : Value) : Bool := match u with
  | .none => eqV .non x
  | .bool b => eqV (.bl b) x
  | .int i _ => eqV (.int i) x
  | .str z _ => eqV (.str z) x
  | _ => false
theorem eqU_of {x y : V} {u : Value} (r : RelV y u) (f : flatV y = true) : eqU x u = eqV y x := by
  cases y with
  | non => cases r; rfl
  | bl b => cases r; rfl
  | int i => obtain ⟨t, rfl⟩ := r; rfl
  | str z => obtain ⟨t, rfl⟩ := r; rfl
  | _ => exact absurd (show false = true from f) Bool.false_ne_true
theorem any_eqU {x : V} : ∀ {xs : List V} {us : List Value}, Vals xs us → xs.all flatV = true → us.any (eqU x) = xs.any fun y => eqV y x
  | _, _, .nil, _ => rfl
  | y :: xs, u :: us, .cons r t, f => by
    rw [List.all_cons, Bool.and_eq_true] at f
    rw [List.any_cons, List.any_cons, eqU_of r f.1, any_eqU t f.2]
theorem mem_eqAt {A : Around} {s : Shared} {x : V} {v : Value} (rx : RelV x v) (fx : flatV x = true) : ∀ {xs : List V} {us : List Value}, Vals xs us → xs.all flatV = true → ∀ u ∈ us, SeqAt.EqAt A s u v (eqU x u)
  | _, _, .nil, _ => fun u hu => by cases hu
  | y :: xs, u :: us, .cons r t, f => fun u' hu => by
    rw [List.all_cons, Bool.and_eq_true] at f
    rcases List.mem_cons.mp hu with rfl | hu
    · rw [eqU_of r f.1]; exact eqAt_V r rx f.1 fx
    · exact mem_eqAt rx fx t f.2 u' hu
def inV (x : V) (xs : List V) : Bool := xs.any fun y => eqV y x
/-- x in a list or tuple of flat items -/
def rIn (K : PySem.W.Frag) (neg : Bool) : R2 := fun x y H Q => ∃ p xs, y = .ref p ∧ (SqL K H p xs ∨ SqT K H p xs) ∧ flatV x = true ∧ xs.all flatV = true ∧ Q (.bl (if neg then !inV x xs else inV x xs)) H
theorem op_in_seq : OpR X (compareOp .In) (rIn X.K false) := by
  intro pins s σ H x y v u Q I rx ry h
  obtain ⟨p, xs, rfl, hq, fx, fs, q⟩ := h
  cases ry
  rcases hq with hq | hq
  · obtain ⟨its, r, pl, hz⟩ := I.list hq
    refine SeqAt.in_listAt (eqU x) pl.isList (fun w hw => mem_eqAt rx fx r fs w (by simpa using hw)) ⟨.bl _, H, I, rfl, ?_⟩
    rw [show its.toArray.any (eqU x) = its.any (eqU x) by simp, any_eqU r fs]
    exact q
  · obtain ⟨its, r, pl, hz⟩ := I.tuple hq
    refine SeqAt.in_tupleAt (eqU x) pl (fun w hw => mem_eqAt rx fx r fs w (by simpa using hw)) ⟨.bl _, H, I, rfl, ?_⟩
    rw [show its.toArray.any (eqU x) = its.any (eqU x) by simp, any_eqU r fs]
    exact q
theorem op_notIn_seq : OpR X (compareOp .NotIn) (rIn X.K true) := by
  intro pins s σ H x y v u Q I rx ry h
  obtain ⟨p, xs, rfl, hq, fx, fs, q⟩ := h
  cases ry
  rcases hq with hq | hq
  · obtain ⟨its, r, pl, hz⟩ := I.list hq
    refine SeqAt.notIn_listAt (eqU x) pl.isList (fun w hw => mem_eqAt rx fx r fs w (by simpa using hw)) ⟨.bl _, H, I, rfl, ?_⟩
    rw [show its.toArray.any (eqU x) = its.any (eqU x) by simp, any_eqU r fs]
    exact q
  · obtain ⟨its, r, pl, hz⟩ := I.tuple hq
    refine SeqAt.notIn_tupleAt (eqU x) pl (fun w hw => mem_eqAt rx fx r fs w (by simpa using hw)) ⟨.bl _, H, I, rfl, ?_⟩
    rw [show its.toArray.any (eqU x) = its.any (eqU x) by simp, any_eqU r fs]
    exact q
/-! ### len, list(x), tuple(x) of any list or tuple that is read -/
theorem call_len_seq : CallR X (.builtin "len") (fun xs H Q => ∃ p ys, xs = [.ref p] ∧ (SqL X.K H p ys ∨ SqT X.K H p ys) ∧ Q (.int ys.length) H) := by
  intro pins s σ H xs us Q I r h
  obtain ⟨p, ys, rfl, hq, q⟩ := h
  obtain ⟨u, rfl, rx⟩ := vals1 r
  cases rx
  have hn := line63
  rcases hq with hq | hq
  · obtain ⟨its, r', pl, hz⟩ := I.list hq
    have hlen := r'.length
    exact Calls.call_len_list pl.isList (by simp only [List.size_toArray] <;> omega) ⟨.int ys.length, H, I.tok _, ⟨s.toks + 1, by rw [List.size_toArray, hlen]⟩, q⟩
  · obtain ⟨its, r', pl, hz⟩ := I.tuple hq
    have hlen := r'.length
    exact len_tuple pl (by simp only [List.size_toArray] <;> omega) ⟨.int ys.length, H, I.tok _, ⟨s.toks + 1, by rw [List.size_toArray, hlen]⟩, q⟩
theorem call_len_str : CallR X (.builtin "len") (fun xs H Q => ∃ z, xs = [.str z] ∧ z.length ≤ sizeLine ∧ Q (.int z.length) H) := by
  intro pins s σ H xs us Q I r h
  obtain ⟨z, rfl, hz, q⟩ := h
  obtain ⟨u, rfl, t, rfl⟩ := vals1 r
  have hn := line63
  exact len_str (by omega) ⟨.int z.length, H, I.tok _, ⟨_, rfl⟩, q⟩
theorem CallR.or {f : Value} {r r' : List V → Hp → VK → Prop} (h : CallR X f r) (h' : CallR X f r') : CallR X f (fun xs H Q => r xs H Q ∨ r' xs H Q) := by
  intro pins s σ H xs us Q I rs q
  rcases q with q | q
  · exact h pins s σ H xs us Q I rs q
  · exact h' pins s σ H xs us Q I rs q
theorem call_tuple_of : CallR X (.type "tuple") (fun xs H Q => ∃ p ys, xs = [.ref p] ∧ ((SqL X.K H p ys ∧ ∀ l, H l = none → Q (.ref l) (upd H l (.tup ys))) ∨ (SqT X.K H p ys ∧ Q (.ref p) H))) := by
  intro pins s σ H xs us Q I r h
  obtain ⟨p, ys, rfl, h⟩ := h
  obtain ⟨u, rfl, rx⟩ := vals1 r
  cases rx
  rcases h with ⟨hq, q⟩ | ⟨hq, q⟩
  · obtain ⟨its, r', pl, hz⟩ := I.list hq
    have hlen := r'.length
    refine call_tuple_list pl.isList (fun h' kp => ?_) (by simp only [List.size_toArray] <;> omega)
    have I1 : Inv X pins σ H { s with heap := h' } := I.kept (t' := s.toks) kp
    have I2 : Inv X pins σ (upd H h'.objs.size (.tup ys)) { s with heap := h'.push { cls := .type "tuple", data := .seq its.toArray } } :=
      I1.laid (t' := s.toks) (fun b o e => Heap.get?_push_of_some _ e) (Nat.le_refl _) (show ObjOk X.prog X.w _ _ _ (.tup ys) from ⟨hz, its, r', IsTup.new _ _⟩)
    exact ⟨.ref h'.objs.size, _, I2, rfl, q _ (I1.hok.fresh (Nat.le_refl _))⟩
  · obtain ⟨its, r', pl, hz⟩ := I.tuple hq
    exact call_tuple_same pl ⟨.ref p, H, I, rfl, q⟩

/-! ### the call of a builtin's method: o.m(..) -/
/-- the value is of that builtin type -/
def tyV (K : PySem.W.Frag) (T : String) (x : V) (H : Hp) : Prop := match x with
  | .str _ => T = "str"
  | .int _ => T = "int"
  | .ref p => (T = "list" ∧ ∃ xs, SqL K H p xs) ∨ (T = "tuple" ∧ ∃ o, K.lookup p = some o ∧ o.cls = .type "tuple" ∧ o.dict = none) ∨
      (T = "dict" ∧ ((∃ kvs, H p = some (.dK kvs)) ∨ ∃ kvs, H p = some (.dT kvs))) ∨ (T = "set" ∧ ∃ S n, H p = some (.set S n))
  | _ => False
theorem tyV_is {pins : List (Addr × Obj)} {σ : St} {H : Hp} {s : Shared} {T : String} {x : V} {v : Value} (I : Inv X pins σ H s) (r : RelV x v) (ty : tyV X.K T x H) :
    s.TypeIs v T ∧ ∀ a, v = .ref a → ∃ ob, s.heap.get? a = some ob ∧ ob.dict = none := by
  cases x with
  | str z =>
    obtain ⟨t, rfl⟩ := r
    cases (show T = "str" from ty)
    exact ⟨typeIs_str s z t, fun _ e => nomatch e⟩
  | int i =>
    obtain ⟨t, rfl⟩ := r
    cases (show T = "int" from ty)
    exact ⟨typeIs_int s i t, fun _ e => nomatch e⟩
  | ref p =>
    cases r
    rcases ty with ⟨rfl, xs, hq⟩ | ⟨rfl, o, hk, hc, hd⟩ | ⟨rfl, hk⟩ | ⟨rfl, S, n, hk⟩
    · obtain ⟨its, _, pl, _⟩ := I.list hq
      refine ⟨pl.isList.typeIs, fun a e => ?_⟩
      cases e
      obtain ⟨o, n, e, c, hd, _⟩ := pl
      exact ⟨o, e, hd⟩
    · refine ⟨⟨o, I.kIn p o hk, hc⟩, fun a e => ?_⟩
      cases e
      exact ⟨o, I.kIn _ o hk, hd⟩
    · have z : ∃ o, s.heap.get? p = some o ∧ o.ExactDict := by
        rcases hk with ⟨kvs, hk⟩ | ⟨kvs, hk⟩
        · obtain ⟨_, _, _, _, o, _, _, e, ex, _⟩ := I.hok p _ hk
          exact ⟨o, e, ex⟩
        · obtain ⟨_, _, _, _, o, _, _, e, ex, _⟩ := I.hok p _ hk
          exact ⟨o, e, ex⟩
      obtain ⟨o, e, ex⟩ := z
      refine ⟨⟨o, e, ex.1⟩, fun a e2 => ?_⟩
      cases e2
      exact ⟨o, e, ex.2.1⟩
    · obtain ⟨o, _, _, _, e, ex, _⟩ := I.hok p _ hk
      refine ⟨⟨o, e, ex.1⟩, fun a e2 => ?_⟩
      cases e2
      exact ⟨o, e, ex.2.1⟩
  | _ => exact False.elim ty
def tBM (K : PySem.W.Frag) (T : String) (r : V → List V → Hp → VK → Prop) (to : TE) (t : TA) : TE := fun σ H Q => to σ H fun x H1 => tyV K T x H1 ∧ t σ H1 fun xs H2 => r x xs H2 Q
variable {o e : Expr} {es : List Expr} {to : TE} {t : TA} {name : Str} {apos cpos : Pos} {T id : String} {r : V → List V → Hp → VK → Prop}
theorem pe_bm (pa : PlainAttrs T) (slot : Slot T name id) (hty : typeOf (.builtin id) = pure (.type "method_descriptor")) (hm : MtR X id r) (ho : PE X o to) (ha : PA X (e :: es) t)
    (hbase : attributeBase o name X.env (eval o X.env) = eval o X.env := by rfl)
    (hfew : ((backTo cpos (starEach (e :: es) X.env)).all (fun x => !x.1) && (backToKw cpos (keywordEach [] X.env)).all (fun x => x.1.isSome)
      && decide ((e :: es).length + ([] : List Keyword).length + (if ([] : List Keyword).isEmpty then 0 else 1) < 30)) = true := by rfl)
    (hline : (apos.endLine == cpos.line) = true := by rfl) (hs : starEach (e :: es) X.env = (false, eval e X.env) :: starEach es X.env := by rfl) (hplain : (backTo cpos (starEach es X.env)).any (·.1) = false := by rfl) :
    PE X (.Call (.Attribute o name apos) (e :: es) [] cpos) (tBM X.K T r to t) := by
  intro pins s σ H Q I h
  refine wpAny_Call_method_late hbase hfew hline rfl (thn (ho pins s σ H _ I h) fun v s1 ⟨x, H1, I1, r1, ty, q1⟩ => ?_)
  obtain ⟨h1, h2⟩ := tyV_is I1 r1 ty
  refine ⟨T, id, pa, slot, hty, h1, h2, ?_⟩
  have hA := ha cpos pins s1 σ H1 _ I1 q1
  rw [hs] at hA ⊢
  refine Calls.callWith_builtin (by show (false || (backTo cpos (starEach es X.env)).any (·.1)) = false; rw [hplain] <;> rfl) (Calls.evalArgs_plain ?_)
  exact thn hA fun us s2 ⟨vs, H2, I2, r2, q2⟩ => hm pins s2 σ H2 x vs v us Q I2 r1 r2 q2
/- xs.append(e), list.index on a module's tuple .. are MtR facts of 06m -/
end
end L2

namespace L2
open PySem PySem.Spec PyProof.Rows

def MtM (X : Cx) (id : String) (r : V → List V → Hp → VK → Prop) : Prop :=
  ∀ (pins : List (Addr × Obj)) (s : Shared) (σ : St) (H : Hp) (x : V) (xs : List V) (v : Value) (us : List Value) (Q : VK), Inv X pins σ H s → RelV x v → Vals xs us → r x xs H Q →
    wpAny (model X.prog X.w) X.A (call (.builtin id) (v :: us)) (EP X pins σ Q) X.xe s

/-! ### lists of values -/
theorem Vals.one : ∀ {x : V} {us : List Value}, Vals [x] us → ∃ u, us = [u] ∧ RelV x u
  | _, _, .cons r .nil => ⟨_, rfl, r⟩
theorem Vals.two : ∀ {x y : V} {us : List Value}, Vals [x, y] us → ∃ u v, us = [u, v] ∧ RelV x u ∧ RelV y v
  | _, _, _, .cons r (.cons q .nil) => ⟨_, _, rfl, r, q⟩
theorem Vals.zero : ∀ {us : List Value}, Vals [] us → us = []
  | _, .nil => rfl
theorem Vals.eraseIdx : ∀ {xs : List V} {us : List Value} (i : Nat), Vals xs us → Vals (xs.eraseIdx i) (us.eraseIdx i)
  | _, _, _, .nil => .nil
  | _, _, 0, .cons _ t => t
  | _, _, i + 1, .cons r t => .cons r (Vals.eraseIdx i t)
theorem Vals.reverse {xs : List V} {us : List Value} (h : Vals xs us) : Vals xs.reverse us.reverse := by
  induction h with
  | nil => exact .nil
  | cons r t ih => rw [List.reverse_cons, List.reverse_cons]; exact Vals.append ih (.cons r .nil)
theorem Vals.rep {xs : List V} {us : List Value} (h : Vals xs us) : ∀ k : Nat, Vals (List.replicate k xs).flatten (List.replicate k us).flatten
  | 0 => .nil
  | k + 1 => by
    rw [List.replicate_succ, List.replicate_succ, List.flatten_cons, List.flatten_cons]
    exact Vals.append h (Vals.rep h k)
section
variable {X : Cx} {pins : List (Addr × Obj)} {σ : St} {H : Hp} {s : Shared} {l b : Addr} {xs ys zs : List V}

/-! ### the two steps: a tracked list is rewritten, a new list is laid -/
theorem Inv.lset {its its' : List Value} {n : Nat} {f : Array Value → Array Value} {t' : Nat} (I : Inv X pins σ H s) (hH : H l = some (.lst xs))
    (e : s.heap.get? l = some { cls := .type "list", data := .seq its.toArray n }) (hf : f its.toArray = its'.toArray) (hv : Vals ys its') (hz : ys.length ≤ sizeLine) :
    Inv X pins σ (upd H l (.lst ys)) { s with heap := s.heap.update l (Obj.mapSeq f), toks := t' } := by
  have q := PySem.IsL.update e f
  rw [hf] at q
  refine I.write (x := l) (e := l) (by rw [hH]; exact trivial) (.inl rfl) (fun b' u hb hu => (Heap.get?_update_other s.heap (Obj.mapSeq f) (Ne.symm hb)).trans hu) ⟨_, q⟩ ?_
  exact ⟨hz, its', _, hv, q⟩
theorem Inv.lnew {its : List Value} {t' : Nat} (I : Inv X pins σ H s) (hv : Vals ys its) (hz : ys.length ≤ sizeLine) :
    Inv X pins σ (upd H s.heap.objs.size (.lst ys)) { s with heap := s.heap.push { cls := .type "list", data := .seq its.toArray }, toks := t' } :=
  I.laid (fun _ _ q => Heap.get?_push_of_some _ q) (Nat.le_refl _) ⟨hz, its, 0, hv, Heap.get?_push_size _ rfl⟩
theorem Inv.fresh (I : Inv X pins σ H s) : H s.heap.objs.size = none := I.hok.fresh (Nat.le_refl _)
theorem Inv.lstM (I : Inv X pins σ H s) (hH : H l = some (.lst xs)) : xs.length ≤ sizeLine ∧ ∃ (its : List Value) (n : Nat), Vals xs its ∧ xs.length = its.length ∧ s.heap.get? l = some { cls := .type "list", data := .seq its.toArray n } := by
  obtain ⟨z, its, n, r, e⟩ := I.hok l _ hH
  exact ⟨z, its, n, r, r.length, e⟩

end

section
variable {X : Cx}

/-! ### methods -/
def rAppend : V → List V → Hp → VK → Prop := fun x vs H Q => ∃ l xs y, x = .ref l ∧ vs = [y] ∧ H l = some (.lst xs) ∧ xs.length < sizeLine ∧ Q .non (upd H l (.lst (xs ++ [y])))
theorem mt_append : MtM X "list.append" rAppend := by
  intro pins s σ H x vs v us Q I rx rv h
  obtain ⟨l, xs, y, rfl, rfl, hH, hz, q⟩ := h
  cases rx
  obtain ⟨u, rfl, ru⟩ := rv.one
  obtain ⟨z, its, n, r, hl, e⟩ := I.lstM hH
  refine call_meets F.slot_list_append ⟨_, e, rfl⟩ F.entry_list_append (F.args_list_append_2 _ _) (PySem.list_append l its.toArray n u (by rw [List.size_toArray]; omega)) ⟨e, ?_⟩
  refine ⟨.non, _, I.lset (its' := its ++ [u]) hH e (by simp) (r.append (.cons ru .nil)) ?_, rfl, q⟩
  rw [List.length_append, List.length_singleton]
  omega

/-! ### list + list, list += list, list * int -/
/-! ### del xs[i] -/
end

/-! ### xs[a:b] = ys -/
section
variable {prog : Program} {w : World} {A : Around} {E : Value → Shared → Prop} {s : Shared}
end

section
variable {X : Cx}
end
end L2

namespace Att
open PySem PySem.W PySem.Calls PyProof.Rows

/-! ### the script -/
theorem ints_of_wellAll {P : Params} {h : Heap} : ∀ (ns : List Int) (vs : List Value), WellAll P h vs (ns.map WData.int) → IntsAre vs ns := by
  intro ns
  induction ns with
  | nil =>
    intro vs w
    rw [List.map_nil] at w
    cases w
    exact .nil
  | cons n ns ih =>
    intro vs w
    rw [List.map_cons] at w
    cases w with
    | cons a b =>
      cases a
      exact .cons _ _ (ih _ b)

theorem script_of {l : OpenLaw} {n : Nat} (hn : l.most = some n) {P : Params} {h : Heap} {args : List WData} {vals : List Value}
    (hpre : l.row.toRowW.claim.pre args = true) (hwl : WellAll P h vals args) :
    ∃ a vs ns, vals = [Value.ref a] ∧ args = [WData.list (ns.map WData.int)] ∧ h.get? a = some { cls := .type "list", data := .seq vs.toArray } ∧ IntsAre vs ns ∧ ns.length ≤ n := by
  have hsh : WShape.hasAll [] args [.list .int] = true := (pre_splitW hpre).1
  have hc : l.pre.holds [] { args := args } = true := (pre_splitW hpre).2
  obtain ⟨d, r, rfl, h1, h2⟩ := hasAllW_cons hsh
  obtain rfl := hasAllW_nil h2
  obtain ⟨xs, rfl, h3⟩ := hasW_list h1
  obtain ⟨ns, rfl⟩ := items_int h3
  have hlen : ns.length ≤ n := by
    unfold OpenLaw.pre at hc
    have h4 : (WTm.not (.lt (.lit (.int (n : Int))) (.len (.arg 0)))).holds [] { args := [.list (ns.map .int)] } = true := by
      have h4 := (holds_andW hc).1
      rw [hn] at h4
      exact h4
    have h5 := condW_of h4 (w_not (w_lt w_lit (w_len_list (w_arg rfl))))
    rw [List.length_map] at h5
    refine Nat.le_of_not_lt fun q => ?_
    have q' : (n : Int) < ((ns.length : Nat) : Int) := by omega
    first
      | (rw [decide_eq_true q'] at h5; exact absurd h5 (by decide))
      | (simp at h5; omega)
  cases hwl with
  | cons w1 w2 =>
    cases w2
    cases w1 with
    | list ho hall => exact ⟨_, _, ns, rfl, rfl, ho, ints_of_wellAll ns _ hall, hlen⟩

theorem post_true (l : OpenLaw) (args : List WData) : l.row.toRowW.claim.post args (.bool true) args = true :=
  postW_of (r := l.row.toRowW) (X := (true == true))
    (show WShape.has [] (.bool true) .bool = true by first | rfl | decide | simp [WShape.has, WShape.arms, WShape.armsAll])
    (show (WTm.eq .res (.lit (.bool true))).value [] { args := args, res := some (.bool true), after := args } = some (.bool (true == true)) from w_eq_bool (w_res rfl) w_lit) rfl

/-! ### the attachment: holds_open's last premise (the goal 'hc' behind k_head) from a wpAny of the law's body -/
/-- the same from a codeAny of the CALL (for a layer whose function contracts speak of calls) -/
theorem attach_call {l : OpenLaw} {n : Nat} {q : Program} {loose : List Str} {XP : (Str → Option Value) → Heap → Prop} {YP : World → Heap → Prop} {d : DefRec}
    (hn : l.most = some n) (hdf : d.params.defaults = [])
    (call : ∀ (w : World) (s₀ s₁ : Shared) (mg mb : Str → Option Value) (fa : Addr) (o : Obj) (pm cd doc : Value) (a : Addr) (vs : List Value) (ns : List Int),
      Ground q loose [] XP w s₀ mg mb s₁.heap → YP w s₁.heap →
      s₁.heap.get? fa = some o → o.data = .func (docDef d.name d.params d.body d.scope pm cd doc) → s₁.heap.CodeRec cd d.name → mg d.name = some (.ref fa) →
      s₁.heap.get? a = some { cls := .type "list", data := .seq vs.toArray } → IntsAre vs ns → ns.length ≤ n → s₁.gens = #[] →
      codeAny (model l.prog w) callerA (.call (.ref fa) ⟨[.ref a], []⟩) (fun r s' => r = .ok (.ret (.bool true)) ∧ OldK s₁.heap s'.heap ∧ s'.os = s₁.os ∧ AllBare s'.gens) s₁) :
    WalkO q loose XP YP l.row.toRowW d [] (fun f vs => PySem.call f vs) := by
  intro w s₀ s₁ mg mb G Y fa o pm cd doc dV kV ho hd hcd hD hmg hg args vals as hpre hlay hrd hwl hlo
  obtain rfl : dV = .none := Dflts.none hD hdf
  obtain rfl : kV = .none := Dflts.noKw hD
  obtain ⟨a, vs, ns, rfl, rfl, hobj, hints, hlen⟩ := script_of hn hpre hwl
  refine enter_call (codeAny_mono (call w s₀ s₁ mg mb fa o pm cd doc a vs ns G Y ho (fd_plain hd) hcd hmg hobj hints hlen hg) fun r s' hq => ?_)
  obtain ⟨rfl, h2, h3, h4⟩ := hq
  exact ⟨.inl ⟨.bool true, .bool true, [], rfl, fun _ => rfl, .bool true, post_true l _, fun _ => ⟨List.Pairwise.nil, fun _ hm => (nomatch hm)⟩⟩, h2, h3, h4⟩

/-! ### rules over ANY heap (no ledger) from facts about the written part K: the library's own take a ledger (News) for what they write -/
section
variable {prog : Program} {w : World} {A : Around} {E : Value → Shared → Prop} {s : Shared} {K : Frag}

/-! the whole heap as the ledger: makes every rule that writes through a ledger a rule over any heap -/
def ledger (h : Heap) (L d : Addr) : List (Addr × Obj) := (List.range h.objs.size).filterMap fun a => if a = L ∨ a = d then none else (h.get? a).map fun o => (a, o)
end
end Att

namespace L2
open PySem PySem.Spec PyProof.Rows

theorem vals_ints : ∀ {vs : List Value} {ns : List Int}, IntsAre vs ns → Vals (ns.map V.int) vs
  | _, _, .nil => .nil
  | _, _, .cons n t h => .cons ⟨t, rfl⟩ (vals_ints h)

end L2

namespace L2
open PySem PySem.Spec PyProof.Rows

end L2


/-! SHORT WORDS over the layer: a def of the text, its body, what a loop and a test want. -/
namespace L2
open PySem PySem.Spec PyProof.Rows

/-! ### the text by places -/
def defArgs (s : Stmt) : Arguments := match s with
  | .FunctionDef _ a _ _ _ _ _ _ _ _ => a
  | _ => { posonlyargs := [], args := [], vararg := none, kwonlyargs := [], kw_defaults := [], kwarg := none, defaults := [] }
def defBody (s : Stmt) : List Stmt := match s with
  | .FunctionDef _ _ b _ _ _ _ _ _ _ => b
  | _ => []
def defScope (s : Stmt) : Scope := match s with
  | .FunctionDef _ _ _ _ _ _ sc _ _ _ => sc
  | _ => { kind := .function, names := [], isGenerator := false, isCoroutine := false }

/-! ### no exception leaves a def -/
abbrev CX0 : CXT := fun _ _ _ _ _ _ => False
abbrev E0 : XK := fun _ _ _ => False
theorem pass0 {X : Cx} : Passes CX0 X E0 := fun _ _ _ _ _ _ _ h => h.elim

/-! ### a def (or method) of the text as it stands behind the top -/
structure Fun (K : PySem.W.Frag) (x qual : Str) (st : Stmt) (f : Addr) (fd : FuncData) : Prop where
  ex : ∃ (oc : Value) (od : Option Addr) (kV doc pm : Value) (an : Option Addr) (cdv ct : Value) (osl : Array (Option Value)),
    fd = PySem.W.fnOf x qual (defArgs st) (defBody st) (defScope st) .none kV doc pm an cdv ct ∧ K.lookup f = some ⟨oc, od, .func fd, osl⟩ ∧ PySem.W.codeIn K cdv qual = true
  kp : PySem.W.keepIn K (.ref f) = true
section
variable {P : Program} {w : World} {K : PySem.W.Frag} {mg : Str → Option Value} {base : Heap}
/-- THE RULE for a def: its body as a term of rules, and the reading of that term -/
theorem Fun.ok {x qual : Str} {st : Stmt} {f : Addr} {fd : FuncData} {N ps : List Str} {k : Nat} {sp : Sp} (F : Fun K x qual st f fd) (S : FnScope N ps (defScope st)) (len : ∀ vs H Q E, sp vs H Q E → vs.length = ps.length)
    (hbody : ∀ (cdv : Value) (A : Around) (outer : List Env) (s : Shared) (H : Hp) (vs : List V) (Q : VK) (E : XK), Room k (A.deeper (envOfC qual (defScope st) s.heap.objs.size f cdv)) → sp vs H Q E →
      ∃ t, PSs (cxOf CX0 P w K mg base N qual (defScope st) f cdv A outer s H E).nox (defBody st) t ∧ t { nx := fun _ H' => Q .non H', rt := Q } (start N vs) H) : FnOk P w K mg base CX0 (k + 1) f fd ps sp := by
  obtain ⟨oc, od, kV, doc, pm, an, cdv, ct, osl, rfl, lk, hcd⟩ := F.ex
  refine fn_of lk hcd S len fun A outer s H vs Q E hr hsp => ?_
  obtain ⟨t, h, q⟩ := hbody cdv A outer s H vs Q E hr hsp
  exact ⟨t, h.nox, q⟩
/-- how its arguments bind (no defaults): h is «fun _ _ _ _ _ _ us hl => match us, hl with | [_, _], _ => rfl», one _ a parameter -/
theorem Fun.binds {x qual : Str} {st : Stmt} {f : Addr} {fd : FuncData} {ps : List Str} (F : Fun K x qual st f fd)
    (h : ∀ (kV doc pm : Value) (an : Option Addr) (cdv ct : Value) (us : List Value), us.length = ps.length → bindArgs (PySem.W.fnOf x qual (defArgs st) (defBody st) (defScope st) .none kV doc pm an cdv ct) ⟨us, []⟩ = pure (ps.zip us)) : Binds K fd ps [] := by
  obtain ⟨oc, od, kV, doc, pm, an, cdv, ct, osl, rfl, lk, hcd⟩ := F.ex
  exact .all (h kV doc pm an cdv ct)
theorem fun_mk {x qual : Str} {st : Stmt} {f : Addr} {oc : Value} {od an : Option Addr} {osl : Array (Option Value)} {kV doc pm cdv ct : Value} (l : K.lookup f = some ⟨oc, od, .func (PySem.W.fnOf x qual (defArgs st) (defBody st) (defScope st) .none kV doc pm an cdv ct), osl⟩)
    (c : PySem.W.codeIn K cdv qual = true) (k : PySem.W.keepIn K (.ref f) = true) : Fun K x qual st f (PySem.W.fnOf x qual (defArgs st) (defBody st) (defScope st) .none kV doc pm an cdv ct) := ⟨⟨oc, od, kV, doc, pm, an, cdv, ct, osl, rfl, l, c⟩, k⟩
end
/-! ### expressions in short: the name that stands in the i-th slot -/
section
variable {X : Cx}
end

/-! ### tests -/
/-! ### heaps -/
/-- all that was tracked is as it was -/
def Same (H H' : Hp) : Prop := ∀ b o, H b = some o → H' b = some o
theorem Same.refl (H : Hp) : Same H H := fun _ _ h => h
theorem Same.trans {H H1 H2 : Hp} (a : Same H H1) (b : Same H1 H2) : Same H H2 := fun c o h => b c o (a c o h)
theorem Same.free {H H' : Hp} (e : Same H H') {l : Addr} (h : H' l = Option.none) : H l = Option.none := by
  cases q : H l with
  | none => rfl
  | some o =>
    rw [e l o q] at h
    cases h
theorem Same.seq {K : PySem.W.Frag} {H H' : Hp} {a : Addr} {xs : List V} (e : Same H H') (h : SqL K H a xs) : SqL K H' a xs := by
  rcases h with (h | ⟨o, h⟩) | h
  · exact .inl (.inl (e _ _ h))
  · exact .inl (.inr ⟨o, e _ _ h⟩)
  · exact .inr h

end L2

namespace DL
open PySem L2
set_option linter.all false
abbrev St := L2.St

/-! ### values with no heap: what a law reckons with -/
inductive D where
  | non | bl (b : Bool) | int (i : Int) | str (x : Str) | ty (n : String) | tup (ds : List D) | lst (ds : List D)

mutual
inductive Is (K : PySem.W.Frag) (H : Hp) : V → D → Prop where
  | non : Is K H .non .non
  | bl (b : Bool) : Is K H (.bl b) (.bl b)
  | int (i : Int) : Is K H (.int i) (.int i)
  | str (x : Str) : Is K H (.str x) (.str x)
  | ty (n : String) : Is K H (.ty n) (.ty n)
  | tup {a : Addr} {vs : List V} {ds : List D} (h : SqT K H a vs) (hs : IsL K H vs ds) : Is K H (.ref a) (.tup ds)
  | lst {a : Addr} {vs : List V} {ds : List D} (h : SqL K H a vs) (hs : IsL K H vs ds) : Is K H (.ref a) (.lst ds)
inductive IsL (K : PySem.W.Frag) (H : Hp) : List V → List D → Prop where
  | nil : IsL K H [] []
  | cons {v : V} {d : D} {vs : List V} {ds : List D} (h : Is K H v d) (hs : IsL K H vs ds) : IsL K H (v :: vs) (d :: ds)
end

mutual
def noLst : D → Bool
  | .lst _ => false
  | .tup ds => noLsts ds
  | _ => true
def noLsts : List D → Bool
  | [] => true
  | d :: ds => noLst d && noLsts ds
end

@[simp] theorem noLst_non : noLst .non = true := by simp only [noLst]
@[simp] theorem noLst_bl (b : Bool) : noLst (.bl b) = true := by simp only [noLst]
@[simp] theorem noLst_int (i : Int) : noLst (.int i) = true := by simp only [noLst]
@[simp] theorem noLst_str (x : Str) : noLst (.str x) = true := by simp only [noLst]
@[simp] theorem noLst_ty (x : String) : noLst (.ty x) = true := by simp only [noLst]
@[simp] theorem noLst_tup (ds : List D) : noLst (.tup ds) = noLsts ds := by rw [noLst]
@[simp] theorem noLst_lst (ds : List D) : noLst (.lst ds) = false := by rw [noLst]
@[simp] theorem noLsts_nil : noLsts [] = true := by rw [noLsts]
@[simp] theorem noLsts_cons (d : D) (ds : List D) : noLsts (d :: ds) = (noLst d && noLsts ds) := by rw [noLsts]
section
variable {K : PySem.W.Frag} {H H' : Hp}

mutual
/-- what is read of the heap is kept -/
theorem Is.keep (hT : ∀ a vs, SqT K H a vs → SqT K H' a vs) (hL : ∀ a vs, SqL K H a vs → SqL K H' a vs) : ∀ {v : V} {d : D}, Is K H v d → Is K H' v d
  | _, _, .non => .non
  | _, _, .bl b => .bl b
  | _, _, .int i => .int i
  | _, _, .str x => .str x
  | _, _, .ty x => .ty x
  | _, _, .tup h hs => .tup (hT _ _ h) (IsL.keep hT hL hs)
  | _, _, .lst h hs => .lst (hL _ _ h) (IsL.keep hT hL hs)
theorem IsL.keep (hT : ∀ a vs, SqT K H a vs → SqT K H' a vs) (hL : ∀ a vs, SqL K H a vs → SqL K H' a vs) : ∀ {vs : List V} {ds : List D}, IsL K H vs ds → IsL K H' vs ds
  | _, _, .nil => .nil
  | _, _, .cons h hs => .cons (Is.keep hT hL h) (IsL.keep hT hL hs)
end
mutual
/-- without lists: the tuples alone are read -/
theorem Is.keepT (hT : ∀ a vs, SqT K H a vs → SqT K H' a vs) : ∀ {v : V} {d : D}, Is K H v d → noLst d = true → Is K H' v d
  | _, _, .non, _ => .non
  | _, _, .bl b, _ => .bl b
  | _, _, .int i, _ => .int i
  | _, _, .str x, _ => .str x
  | _, _, .ty x, _ => .ty x
  | _, _, .tup h hs, n => .tup (hT _ _ h) (IsL.keepT hT hs (by simpa using n))
  | _, _, .lst h hs, n => by simp at n
theorem IsL.keepT (hT : ∀ a vs, SqT K H a vs → SqT K H' a vs) : ∀ {vs : List V} {ds : List D}, IsL K H vs ds → noLsts ds = true → IsL K H' vs ds
  | _, _, .nil, _ => .nil
  | _, _, .cons h hs, n => by
    simp at n
    exact .cons (Is.keepT hT h n.1) (IsL.keepT hT hs n.2)
end
theorem same_seqT {a : Addr} {xs : List V} (e : Same H H') (h : SqT K H a xs) : SqT K H' a xs := by
  rcases h with (h | ⟨o, h⟩) | h
  · exact .inl (.inl (e _ _ h))
  · exact .inl (.inr ⟨o, e _ _ h⟩)
  · exact .inr h
theorem Is.mono {v : V} {d : D} (h : Is K H v d) (e : Same H H') : Is K H' v d := h.keep (fun _ _ => same_seqT e) fun _ _ => e.seq
theorem IsL.mono {v : List V} {d : List D} (h : IsL K H v d) (e : Same H H') : IsL K H' v d := h.keep (fun _ _ => same_seqT e) fun _ _ => e.seq
theorem IsL.length : ∀ {vs : List V} {ds : List D}, IsL K H vs ds → vs.length = ds.length
  | _, _, .nil => rfl
  | _, _, .cons _ t => congrArg (· + 1) t.length
theorem IsL.get : ∀ {vs : List V} {ds : List D} {i : Nat} {d : D}, IsL K H vs ds → ds[i]? = some d → ∃ v, vs[i]? = some v ∧ Is K H v d
  | _, _, _, _, .nil, e => by simp at e
  | _, _, 0, _, .cons h _, e => by simp at e; subst e; exact ⟨_, rfl, h⟩
  | _, _, i + 1, d, .cons _ t, e => by
    obtain ⟨u, h1, h2⟩ := t.get (i := i) (d := d) (by simpa using e)
    exact ⟨u, by simpa using h1, h2⟩
theorem IsL.append : ∀ {vs ws : List V} {ds es : List D}, IsL K H vs ds → IsL K H ws es → IsL K H (vs ++ ws) (ds ++ es)
  | _, _, _, _, .nil, s => s
  | _, _, _, _, .cons r t, s => .cons r (t.append s)
theorem IsL.take : ∀ {vs : List V} {ds : List D} (n : Nat), IsL K H vs ds → IsL K H (vs.take n) (ds.take n)
  | _, _, 0, _ => by simpa using IsL.nil
  | _, _, _ + 1, .nil => .nil
  | _, _, n + 1, .cons r t => .cons r (t.take n)
theorem IsL.drop : ∀ {vs : List V} {ds : List D} (n : Nat), IsL K H vs ds → IsL K H (vs.drop n) (ds.drop n)
  | _, _, 0, r => r
  | _, _, _ + 1, .nil => .nil
  | _, _, n + 1, .cons _ t => t.drop n
theorem IsL.reverse {vs : List V} {ds : List D} (h : IsL K H vs ds) : IsL K H vs.reverse ds.reverse := by
  cases h with
  | nil => exact .nil
  | cons r t => rw [List.reverse_cons, List.reverse_cons]; exact t.reverse.append (.cons r .nil)
termination_by vs.length
decreasing_by all_goals simp
theorem IsL.set {v : V} {d : D} (h : Is K H v d) : ∀ {vs : List V} {ds : List D} (i : Nat), IsL K H vs ds → IsL K H (vs.set i v) (ds.set i d)
  | _, _, _, .nil => .nil
  | _, _, 0, .cons _ t => .cons h t
  | _, _, i + 1, .cons r t => .cons r (IsL.set h i t)
theorem IsL.eraseIdx : ∀ {vs : List V} {ds : List D} (i : Nat), IsL K H vs ds → IsL K H (vs.eraseIdx i) (ds.eraseIdx i)
  | _, _, _, .nil => .nil
  | _, _, 0, .cons _ t => t
  | _, _, i + 1, .cons r t => .cons r (t.eraseIdx i)
theorem IsL.flat {vs : List V} {ns : List Int} (h : vs = ns.map V.int) : IsL K H vs (ns.map D.int) := by
  subst h
  induction ns with
  | nil => exact .nil
  | cons n ns ih => exact .cons (.int n) ih
end

/-! ### heaps: B is what may be named, N what may be named behind, H and H' the whole -/
structure Ext (B N H H' : Hp) : Prop where
  hh : Same H H'
  bn : Same B N
  nh : Same N H'
  new : ∀ a o, N a = some o → B a = some o ∨ H a = none
theorem Ext.refl {B H : Hp} (h : Same B H) : Ext B B H H := ⟨.refl _, .refl _, h, fun _ _ e => .inl e⟩
theorem Ext.trans {B N H H1 N2 H2 : Hp} (x : Ext B N H H1) (y : Ext N N2 H1 H2) : Ext B N2 H H2 :=
  ⟨x.hh.trans y.hh, x.bn.trans y.bn, y.nh, fun a o e => (y.new a o e).elim (fun q => x.new a o q) fun q => .inr (x.hh.free q)⟩
/-- a new object -/
theorem Ext.laid {B H : Hp} {p : Addr} {o : HO} (h : Same B H) (hp : H p = none) : Ext B (upd B p o) H (upd H p o) := by
  have hB : B p = none := h.free hp
  refine ⟨fun a u e => ?_, fun a u e => ?_, fun a u e => ?_, fun a u e => ?_⟩
  · rw [upd_ne (fun q => by subst q; rw [hp] at e; cases e)]; exact e
  · rw [upd_ne (fun q => by subst q; rw [hB] at e; cases e)]; exact e
  · by_cases q : a = p
    · subst q; rw [upd_same] at e ⊢; exact e
    · rw [upd_ne q] at e ⊢; exact h _ _ e
  · by_cases q : a = p
    · subst q; exact .inr hp
    · rw [upd_ne q] at e; exact .inl e
/-- more may be named than was -/
theorem Ext.grow {B H H' : Hp} (h : Same B H) (hh : Same H H') : Ext B B H H' := ⟨hh, .refl _, h.trans hh, fun _ _ e => .inl e⟩

abbrev Env := List (Option (D × Bool))
abbrev FE := Env → Option (D × Bool)
abbrev FA := Env → Option (List D)
abbrev FT := Env → Option Bool
/-- fresh: its address stood for nothing -/
def Fsh (K : PySem.W.Frag) (H N : Hp) (v : V) (d : D) : Prop := ∃ (a : Addr) (vs : List V) (ds : List D), v = .ref a ∧ d = .lst ds ∧ H a = none ∧ N a = some (.lst vs) ∧ IsL K N vs ds
theorem Fsh.back {K : PySem.W.Frag} {H H' N : Hp} {v : V} {d : D} (h : Fsh K H' N v d) (e : Same H H') : Fsh K H N v d := let ⟨a, vs, ds, q, y, z, r⟩ := h; ⟨a, vs, ds, q, y, e.free z, r⟩
/-- the defs of the text that make a function while they run -/
def lamNames : List Str := ["in_order", "has_seal", "is_first_death", "bases_by"]
def lamQ (x : Str) : Str := x ++ ".<locals>." ++ "<lambda>"
/-- the code tables of these defs are tracked -/
def Tb (K : PySem.W.Frag) (B : Hp) : Prop := ∀ x ∈ lamNames, ∀ c P, PySem.W.tabIn K x = some (c, P) → B P = some (.tbl (lamQ x))
theorem Tb.mono {K : PySem.W.Frag} {B B' : Hp} (h : Tb K B) (e : Same B B') : Tb K B' := fun x hx c P q => e _ _ (h x hx c P q)
structure RepE (K : PySem.W.Frag) (B : Hp) (σ : St) (ρ : Env) : Prop where
  tb : Tb K B
  at' : ∀ (i : Nat) (d : D) (b : Bool), ρ[i]? = some (some (d, b)) → ∃ v, σ[i]? = some (some v) ∧ Is K B v d
theorem RepE.mono {K : PySem.W.Frag} {B B' : Hp} {σ : St} {ρ : Env} (h : RepE K B σ ρ) (e : Same B B') : RepE K B' σ ρ := ⟨h.tb.mono e, fun i d b q => let ⟨v, h1, h2⟩ := h.at' i d b q; ⟨v, h1, h2.mono e⟩⟩

/-- what is wanted behind an expression of value d -/
def Fin (K : PySem.W.Frag) (B H : Hp) (d : D) (b : Bool) (Q : VK) : Prop := ∀ (v : V) (H' N : Hp), Ext B N H H' → Is K N v d → (b = true → Fsh K H N v d) → Q v H'
def tD (K : PySem.W.Frag) (f : FE) : TE := fun σ H Q => ∃ (B : Hp) (ρ : Env) (d : D) (b : Bool), Same B H ∧ RepE K B σ ρ ∧ f ρ = some (d, b) ∧ Fin K B H d b Q
def tDT (K : PySem.W.Frag) (f : FT) : TT := fun σ H Q => ∃ (B : Hp) (ρ : Env) (c : Bool), Same B H ∧ RepE K B σ ρ ∧ f ρ = some c ∧ ∀ H', Same H H' → Q c H'
def tDA (K : PySem.W.Frag) (f : FA) : TA := fun σ H Q => ∃ (B : Hp) (ρ : Env) (ds : List D), Same B H ∧ RepE K B σ ρ ∧ f ρ = some ds ∧ ∀ (vs : List V) (H' N : Hp), Ext B N H H' → IsL K N vs ds → Q vs H'
/-- an operation by values -/
def rD (K : PySem.W.Frag) (op : D → D → Option (D × Bool)) : R2 := fun x y H Q => ∃ (B : Hp) (dx dy d : D) (b : Bool), Same B H ∧ Is K B x dx ∧ Is K B y dy ∧ op dx dy = some (d, b) ∧ Fin K B H d b Q
def rDA (K : PySem.W.Frag) (op : List D → Option (D × Bool)) : List V → Hp → VK → Prop := fun xs H Q => ∃ (B : Hp) (ds : List D) (d : D) (b : Bool), Same B H ∧ IsL K B xs ds ∧ op ds = some (d, b) ∧ Fin K B H d b Q
theorem Fin.one {K : PySem.W.Frag} {B H : Hp} {d : D} {Q : VK} (h : Fin K B H d false Q) (s : Same B H) {v : V} (i : Is K B v d) : Q v H := h v H B (.refl s) i (by simp)
theorem Fin.into {K : PySem.W.Frag} {B N H H1 : Hp} {d : D} {b : Bool} {Q : VK} (h : Fin K B H d b Q) (x : Ext B N H H1) : Fin K N H1 d b Q := fun v H' N' y i fr => h v H' N' (x.trans y) i fun e => (fr e).back x.hh

/-! ### the combinators -/
@[simp] def fC (d : D) : FE := fun _ => some (d, false)
@[simp] def fVar (i : Nat) : FE := fun ρ => match ρ[i]? with | some (some (d, _)) => some (d, false) | _ => none
@[simp] def f2 (op : D → D → Option (D × Bool)) (fa fb : FE) : FE := fun ρ => (fa ρ).bind fun x => (fb ρ).bind fun y => op x.1 y.1
@[simp] def f1 (op : D → Option (D × Bool)) (fa : FE) : FE := fun ρ => (fa ρ).bind fun x => op x.1
@[simp] def fNil : FA := fun _ => some []
@[simp] def fCons (fa : FE) (fr : FA) : FA := fun ρ => (fa ρ).bind fun x => (fr ρ).bind fun xs => some (x.1 :: xs)
@[simp] def fA (op : List D → Option (D × Bool)) (fa : FA) : FE := fun ρ => (fa ρ).bind op

theorem tD_var {K : PySem.W.Frag} {i : Nat} {σ : St} {H : Hp} {Q : VK} (h : tD K (fVar i) σ H Q) : ∃ v, σ[i]? = some (some v) ∧ Q v H := by
  obtain ⟨B, ρ, d, b, s, r, e, q⟩ := h
  unfold fVar at e
  split at e
  · rename_i d' b' e'
    cases e
    obtain ⟨v, h1, h2⟩ := r.at' i _ _ e'
    exact ⟨v, h1, q.one s h2⟩
  · cases e
theorem tD_2 {K : PySem.W.Frag} {op : D → D → Option (D × Bool)} {fa fb : FE} {σ : St} {H : Hp} {Q : VK} (h : tD K (f2 op fa fb) σ H Q) : tD K fa σ H fun x H1 => tD K fb σ H1 fun y H2 => rD K op x y H2 Q := by
  obtain ⟨B, ρ, d, b, s, r, e, q⟩ := h
  obtain ⟨x, ex, e⟩ := Option.bind_eq_some_iff.mp e
  obtain ⟨y, ey, e⟩ := Option.bind_eq_some_iff.mp e
  refine ⟨B, ρ, x.1, x.2, s, r, ex, fun v H1 N x1 i1 _ => ⟨N, ρ, y.1, y.2, x1.nh, r.mono x1.bn, ey, fun v2 H2 N2 x2 i2 _ => ⟨N2, x.1, y.1, d, b, x2.nh, i1.mono x2.bn, i2, e, ?_⟩⟩⟩
  exact q.into (x1.trans x2)
theorem tD_A {K : PySem.W.Frag} {op : List D → Option (D × Bool)} {fa : FA} {σ : St} {H : Hp} {Q : VK} (h : tD K (fA op fa) σ H Q) : tDA K fa σ H fun xs H1 => rDA K op xs H1 Q := by
  obtain ⟨B, ρ, d, b, s, r, e, q⟩ := h
  obtain ⟨x, ex, e⟩ := Option.bind_eq_some_iff.mp e
  exact ⟨B, ρ, x, s, r, ex, fun v H1 N x1 i1 => ⟨N, x, d, b, x1.nh, i1, e, q.into x1⟩⟩
theorem tDA_nil {K : PySem.W.Frag} {σ : St} {H : Hp} {Q : List V → Hp → Prop} (h : tDA K fNil σ H Q) : Q [] H := by
  obtain ⟨B, ρ, ds, s, r, e, q⟩ := h
  cases e
  exact q [] H B (.refl s) .nil
theorem tDA_cons {K : PySem.W.Frag} {fa : FE} {fr : FA} {σ : St} {H : Hp} {Q : List V → Hp → Prop} (h : tDA K (fCons fa fr) σ H Q) : tD K fa σ H fun x H1 => tDA K fr σ H1 fun xs H2 => Q (x :: xs) H2 := by
  obtain ⟨B, ρ, ds, s, r, e, q⟩ := h
  obtain ⟨x, ex, e⟩ := Option.bind_eq_some_iff.mp e
  obtain ⟨y, ey, e⟩ := Option.bind_eq_some_iff.mp e
  cases e
  exact ⟨B, ρ, x.1, x.2, s, r, ex, fun v H1 N x1 i1 _ => ⟨N, ρ, y, x1.nh, r.mono x1.bn, ey, fun vs H2 N2 x2 i2 => q _ H2 N2 (x1.trans x2) (.cons (i1.mono x2.bn) i2)⟩⟩

/-! ### tests -/
@[simp] def tOf (f : FE) : FT := fun ρ => match f ρ with | some (.bl c, _) => some c | _ => none
@[simp] def tAndF (f g : FT) : FT := fun ρ => match f ρ with | some true => g ρ | some false => some false | none => none
@[simp] def tOrF (f g : FT) : FT := fun ρ => match f ρ with | some true => some true | some false => g ρ | none => none
@[simp] def tNotF (f : FT) : FT := fun ρ => (f ρ).map (!·)
@[simp] def fIf (c : FT) (f g : FE) : FE := fun ρ => match c ρ with | some true => f ρ | some false => g ρ | none => none
end DL

namespace DL
open PySem L2
open Classical in
/-- the heap without the addresses in P -/
noncomputable def cut (H : Hp) (P : Addr → Prop) : Hp := fun a => if P a then none else H a
theorem cut_of {H : Hp} {P : Addr → Prop} {a : Addr} (h : ¬ P a) : cut H P a = H a := by unfold cut; rw [if_neg h]
theorem cut_in {H : Hp} {P : Addr → Prop} {a : Addr} (h : P a) : cut H P a = none := by unfold cut; rw [if_pos h]
theorem cut_some {H : Hp} {P : Addr → Prop} {a : Addr} {o : HO} (h : cut H P a = some o) : ¬ P a ∧ H a = some o := by
  by_cases q : P a
  · rw [cut_in q] at h; cases h
  · rw [cut_of q] at h; exact ⟨q, h⟩
theorem cut_same {H : Hp} {P : Addr → Prop} : Same (cut H P) H := fun _ _ e => (cut_some e).2
theorem cut_mono {H H' : Hp} {P P' : Addr → Prop} (e : ∀ a o, H a = some o → ¬ P a → H' a = some o ∧ ¬ P' a) : Same (cut H P) (cut H' P') := fun a o q => by
  obtain ⟨h1, h2⟩ := cut_some q
  obtain ⟨h3, h4⟩ := e a o h2 h1
  rw [cut_of h4]; exact h3
/-- two heaps of which the second may be named in the first's place -/
def join (N N' : Hp) : Hp := fun a => match N a with | some o => some o | none => N' a
theorem join_l {N N' : Hp} : Same N (join N N') := fun a o e => by unfold join; rw [e]
theorem join_none {N N' : Hp} {a : Addr} (e : N a = none) : join N N' a = N' a := by unfold join; rw [e]

/-- the owned addresses -/
def own (σ : St) (ρ : Env) (a : Addr) : Prop := ∃ (i : Nat) (d : D), ρ[i]? = some (some (d, true)) ∧ σ[i]? = some (some (V.ref a))

/-- the state of a body: entered with H0, where B0 might be named; N may be named now, H is the whole. What ρ owns stands for itself alone -/
structure StN (K : PySem.W.Frag) (B0 H0 N H : Hp) (σ : St) (ρ : Env) : Prop where
  bh : Same B0 H0
  tb : Tb K B0
  ext : Ext B0 N H0 H
  len : ρ.length = σ.length
  sh : ∀ (i : Nat) (d : D), ρ[i]? = some (some (d, false)) → ∃ v, σ[i]? = some (some v) ∧ Is K (cut N (own σ ρ)) v d
  ow : ∀ (i : Nat) (d : D), ρ[i]? = some (some (d, true)) → ∃ (a : Addr) (vs : List V) (ds : List D), d = .lst ds ∧ σ[i]? = some (some (V.ref a)) ∧ N a = some (.lst vs) ∧ H0 a = none ∧ IsL K (cut N (own σ ρ)) vs ds
  inj : ∀ (i j : Nat) (a : Addr) (d e : D), ρ[i]? = some (some (d, true)) → ρ[j]? = some (some (e, true)) → σ[i]? = some (some (V.ref a)) → σ[j]? = some (some (V.ref a)) → i = j
def StOk (K : PySem.W.Frag) (B0 H0 H : Hp) (σ : St) (ρ : Env) : Prop := ∃ N, StN K B0 H0 N H σ ρ

section
variable {K : PySem.W.Frag} {B0 H0 N H H' : Hp} {σ : St} {ρ : Env}
theorem StN.owned (s : StN K B0 H0 N H σ ρ) {a : Addr} (h : own σ ρ a) : ∃ vs, N a = some (.lst vs) ∧ H0 a = none := by
  obtain ⟨i, d, h1, h2⟩ := h
  obtain ⟨a', vs, ds, _, h3, h4, h5, _⟩ := s.ow i d h1
  rw [h2] at h3; cases h3
  exact ⟨vs, h4, h5⟩
/-- all may be read -/
theorem StN.rep (s : StN K B0 H0 N H σ ρ) : RepE K N σ ρ := ⟨s.tb.mono s.ext.bn, fun i d b q => by
  cases b with
  | false => obtain ⟨v, h1, h2⟩ := s.sh i d q; exact ⟨v, h1, h2.mono cut_same⟩
  | true =>
    obtain ⟨a, vs, ds, rfl, h2, h3, _, h4⟩ := s.ow i d q
    exact ⟨_, h2, .lst (SqL.of h3) (h4.mono cut_same)⟩⟩
/-- what is owned, hidden -/
def hide (ρ : Env) : Env := ρ.map fun x => match x with | some (d, false) => some (d, false) | _ => none
theorem hide_get {i : Nat} {d : D} {b : Bool} (h : (hide ρ)[i]? = some (some (d, b))) : b = false ∧ ρ[i]? = some (some (d, false)) := by
  unfold hide at h
  rw [List.getElem?_map] at h
  cases e : ρ[i]? with
  | none => rw [e] at h; cases h
  | some x =>
    rw [e] at h
    match x, h with
    | some (d', false), h => cases h; exact ⟨rfl, rfl⟩
    | some (d', true), h => cases h
    | none, h => cases h
theorem StN.tbC (s : StN K B0 H0 N H σ ρ) : Tb K (cut N (own σ ρ)) := fun x hx c P q => by
  have z := s.tb.mono s.ext.bn x hx c P q
  rw [cut_of]
  · exact z
  · intro y
    obtain ⟨vs, y, _⟩ := s.owned y
    rw [z] at y; cases y
theorem StN.repH (s : StN K B0 H0 N H σ ρ) : RepE K (cut N (own σ ρ)) σ (hide ρ) := ⟨s.tbC, fun i d b q => by
  obtain ⟨rfl, q2⟩ := hide_get q
  exact s.sh i d q2⟩
/-- the whole heap has grown, by what is named or not -/
theorem StN.grow (s : StN K B0 H0 N H σ ρ) {N' : Hp} (x : Ext N N' H H') : StN K B0 H0 N' H' σ ρ := by
  have c : Same (cut N (own σ ρ)) (cut N' (own σ ρ)) := cut_mono fun a o e q => ⟨x.bn a o e, q⟩
  refine ⟨s.bh, s.tb, s.ext.trans x, s.len, fun i d q => ?_, fun i d q => ?_, s.inj⟩
  · obtain ⟨v, h1, h2⟩ := s.sh i d q; exact ⟨v, h1, h2.mono c⟩
  · obtain ⟨a, vs, ds, e, h2, h3, h4, h5⟩ := s.ow i d q
    exact ⟨a, vs, ds, e, h2, x.bn _ _ h3, h4, h5.mono c⟩
/-- .. by what the hidden view named -/
theorem StN.growH (s : StN K B0 H0 N H σ ρ) {N' : Hp} (x : Ext (cut N (own σ ρ)) N' H H') : StN K B0 H0 (join N N') H' σ ρ ∧ Same N' (cut (join N N') (own σ ρ)) := by
  have x' : Ext N (join N N') H H' := by
    refine ⟨x.hh, join_l, fun a o e => ?_, fun a o e => ?_⟩
    · cases q : N a with
      | some u =>
        have : join N N' a = some u := join_l _ _ q
        rw [this] at e; cases e
        exact x.hh _ _ (s.ext.nh _ _ q)
      | none => rw [join_none q] at e; exact x.nh _ _ e
    · cases q : N a with
      | some u =>
        have : join N N' a = some u := join_l _ _ q
        rw [this] at e; cases e
        exact .inl rfl
      | none =>
        rw [join_none q] at e
        rcases x.new a o e with z | z
        · have := cut_same _ _ z; rw [q] at this; cases this
        · exact .inr z
  refine ⟨s.grow x', fun a o e => ?_⟩
  rcases x.new a o e with z | z
  · obtain ⟨z1, z2⟩ := cut_some z
    rw [cut_of z1]; exact join_l _ _ z2
  · have hN : N a = none := s.ext.nh.free z
    have : ¬ own σ ρ a := fun q => by obtain ⟨vs, q, _⟩ := s.owned q; rw [hN] at q; cases q
    rw [cut_of this, join_none hN]; exact e

/-- nothing is owned any more -/
def unown (ρ : Env) : Env := ρ.map fun x => x.map fun y => (y.1, false)
theorem unown_get {i : Nat} {d : D} {b : Bool} (h : (unown ρ)[i]? = some (some (d, b))) : b = false ∧ ∃ c, ρ[i]? = some (some (d, c)) := by
  unfold unown at h
  rw [List.getElem?_map] at h
  cases e : ρ[i]? with
  | none => rw [e] at h; cases h
  | some x =>
    rw [e] at h
    match x, h with
    | some (d', c), h => cases h; exact ⟨rfl, c, rfl⟩
    | none, h => cases h
theorem own_unown {a : Addr} : ¬ own σ (unown ρ) a := fun ⟨i, d, h, _⟩ => by
  obtain ⟨z, _⟩ := unown_get h; cases z
theorem StN.unown (s : StN K B0 H0 N H σ ρ) : StN K B0 H0 N H σ (unown ρ) := by
  refine ⟨s.bh, s.tb, s.ext, by unfold DL.unown; rw [List.length_map]; exact s.len, fun i d q => ?_, fun i d q => ?_, fun i j a d e q => ?_⟩
  · obtain ⟨_, c, q⟩ := unown_get q
    obtain ⟨v, h1, h2⟩ := s.rep.at' i d c q
    exact ⟨v, h1, h2.mono fun a o e => by rw [cut_of own_unown]; exact e⟩
  · obtain ⟨z, _⟩ := unown_get q; cases z
  · obtain ⟨z, _⟩ := unown_get q; cases z

theorem set_get {α : Type} {l : List α} {i j : Nat} {x y : α} (h : (l.set i x)[j]? = some y) : (i = j ∧ x = y) ∨ (i ≠ j ∧ l[j]? = some y) := by
  by_cases e : i = j
  · subst e
    rw [List.getElem?_set] at h
    split at h
    · split at h
      · exact .inl ⟨rfl, Option.some.inj h⟩
      · cases h
    · contradiction
  · rw [List.getElem?_set_ne e] at h; exact .inr ⟨e, h⟩
theorem lt_of_set {α β : Type} {l : List α} {m : List β} {i : Nat} {x y : α} (h : (l.set i x)[i]? = some y) (e : l.length = m.length) : i < m.length := by
  obtain ⟨h, _⟩ := List.getElem?_eq_some_iff.mp h
  rw [List.length_set] at h; omega
theorem own_set {i : Nat} {v : V} {x : Option (D × Bool)} {a : Addr} (h : own (σ.set i (some v)) (ρ.set i x) a) : (v = .ref a ∧ ∃ d, x = some (d, true)) ∨ ∃ j, j ≠ i ∧ ∃ d, ρ[j]? = some (some (d, true)) ∧ σ[j]? = some (some (V.ref a)) := by
  obtain ⟨j, d, h1, h2⟩ := h
  rcases set_get h1 with ⟨e, q⟩ | ⟨e, q⟩
  · rcases set_get h2 with ⟨e2, q2⟩ | ⟨e2, q2⟩
    · cases q2; exact .inl ⟨rfl, d, q⟩
    · exact absurd e e2
  · rcases set_get h2 with ⟨e2, q2⟩ | ⟨e2, q2⟩
    · exact absurd e2 e
    · exact .inr ⟨j, fun z => e z.symm, d, q, q2⟩
/-- a value that names nothing that is owned is bound -/
theorem StN.bind (s : StN K B0 H0 N H σ ρ) {i : Nat} {v : V} {d : D} (h : Is K (cut N (own σ ρ)) v d) : StN K B0 H0 N H (σ.set i (some v)) (ρ.set i (some (d, false))) := by
  have o : ∀ a, own (σ.set i (some v)) (ρ.set i (some (d, false))) a → own σ ρ a := fun a q => by
    rcases own_set q with ⟨_, d', p⟩ | ⟨j, _, d', q1, q2⟩
    · cases p
    · exact ⟨j, d', q1, q2⟩
  have c : Same (cut N (own σ ρ)) (cut N (own (σ.set i (some v)) (ρ.set i (some (d, false))))) := cut_mono fun a u e q => ⟨e, fun z => q (o a z)⟩
  refine ⟨s.bh, s.tb, s.ext, by simp [s.len], fun j e q => ?_, fun j e q => ?_, fun j k a e f q q' h1 h2 => ?_⟩
  · rcases set_get q with ⟨rfl, p⟩ | ⟨ne, p⟩
    · cases p
      have hi := lt_of_set q s.len
      exact ⟨v, by simp [hi], h.mono c⟩
    · obtain ⟨w, h1, h2⟩ := s.sh j e p
      exact ⟨w, by rw [List.getElem?_set_ne ne]; exact h1, h2.mono c⟩
  · rcases set_get q with ⟨rfl, p⟩ | ⟨ne, p⟩
    · cases p
    · obtain ⟨a, vs, ds, z, h1, h2, h3, h4⟩ := s.ow j e p
      exact ⟨a, vs, ds, z, by rw [List.getElem?_set_ne ne]; exact h1, h2, h3, h4.mono c⟩
  · rcases set_get q with ⟨rfl, p⟩ | ⟨ne, p⟩
    · cases p
    · rcases set_get q' with ⟨rfl, p'⟩ | ⟨ne', p'⟩
      · cases p'
      · rw [List.getElem?_set_ne ne] at h1
        rw [List.getElem?_set_ne ne'] at h2
        exact s.inj j k a e f p p' h1 h2
/-- a new list, whose items name nothing that is owned, is bound and owned -/
theorem StN.bindOwn (s : StN K B0 H0 N H σ ρ) {i : Nat} {a : Addr} {vs : List V} {ds : List D} (hN : N a = some (.lst vs)) (h0 : H0 a = none) (hno : ∀ (j : Nat) (d : D), ρ[j]? = some (some (d, true)) → σ[j]? ≠ some (some (V.ref a)))
    (hsh : ∀ (j : Nat) (d : D), j ≠ i → ρ[j]? = some (some (d, false)) → ∃ v, σ[j]? = some (some v) ∧ Is K (cut N (fun b => own σ ρ b ∨ b = a)) v d) (how : ∀ (j : Nat) (d : D), j ≠ i → ρ[j]? = some (some (d, true)) → ∃ (a' : Addr) (ws : List V) (es : List D), d = .lst es ∧ σ[j]? = some (some (V.ref a')) ∧ N a' = some (.lst ws) ∧ IsL K (cut N (fun b => own σ ρ b ∨ b = a)) ws es)
    (hds : IsL K (cut N (fun b => own σ ρ b ∨ b = a)) vs ds) : StN K B0 H0 N H (σ.set i (some (.ref a))) (ρ.set i (some (.lst ds, true))) := by
  have o : ∀ b, own (σ.set i (some (V.ref a))) (ρ.set i (some (.lst ds, true))) b → own σ ρ b ∨ b = a := fun b q => by
    rcases own_set q with ⟨p, _⟩ | ⟨j, _, d', q1, q2⟩
    · cases p; exact .inr rfl
    · exact .inl ⟨j, d', q1, q2⟩
  have c : Same (cut N (fun b => own σ ρ b ∨ b = a)) (cut N (own (σ.set i (some (V.ref a))) (ρ.set i (some (.lst ds, true))))) := cut_mono fun b u e q => ⟨e, fun z => q (o b z)⟩
  refine ⟨s.bh, s.tb, s.ext, by simp [s.len], fun j e q => ?_, fun j e q => ?_, fun j k b e f q q' h1 h2 => ?_⟩
  · rcases set_get q with ⟨rfl, p⟩ | ⟨ne, p⟩
    · cases p
    · obtain ⟨w, h1, h2⟩ := hsh j e (Ne.symm ne) p
      exact ⟨w, by rw [List.getElem?_set_ne ne]; exact h1, h2.mono c⟩
  · rcases set_get q with ⟨rfl, p⟩ | ⟨ne, p⟩
    · cases p
      have hi := lt_of_set q s.len
      exact ⟨a, vs, ds, rfl, by simp [hi], hN, h0, hds.mono c⟩
    · obtain ⟨a', ws, es, z, h1, h2, h4⟩ := how j e (Ne.symm ne) p
      have h3 : H0 a' = none := by
        obtain ⟨a2, _, _, _, k1, _, k3, _⟩ := s.ow j e p
        rw [h1] at k1; cases k1; exact k3
      exact ⟨a', ws, es, z, by rw [List.getElem?_set_ne ne]; exact h1, h2, h3, h4.mono c⟩
  · rcases set_get q with ⟨rfl, p⟩ | ⟨ne, p⟩
    · rcases set_get q' with ⟨rfl, p'⟩ | ⟨ne', p'⟩
      · rfl
      · rw [List.getElem?_set_ne ne'] at h2
        have h1' : V.ref a = V.ref b := by
          rcases set_get h1 with ⟨_, z⟩ | ⟨z, _⟩
          · exact Option.some.inj z
          · exact absurd rfl z
        cases h1'
        exact absurd h2 (hno k f p')
    · rcases set_get q' with ⟨rfl, p'⟩ | ⟨ne', p'⟩
      · rw [List.getElem?_set_ne ne] at h1
        have h2' : V.ref a = V.ref b := by
          rcases set_get h2 with ⟨_, z⟩ | ⟨z, _⟩
          · exact Option.some.inj z
          · exact absurd rfl z
        cases h2'
        exact absurd h1 (hno j e p)
      · rw [List.getElem?_set_ne ne] at h1
        rw [List.getElem?_set_ne ne'] at h2
        exact s.inj j k b e f p p' h1 h2
end
end DL

namespace DL
open PySem L2
inductive Res where
  | nx (ρ : Env) | rt (d : D) (b : Bool) | bk (ρ : Env) | ct (ρ : Env)
abbrev FS := Env → Option Res
def Post (K : PySem.W.Frag) (B0 H0 : Hp) (E : Ends) : Res → Prop
  | .nx ρ => ∀ σ H, StOk K B0 H0 H σ ρ → E.nx σ H
  | .rt d b => ∀ v H N, Ext B0 N H0 H → Is K N v d → (b = true → Fsh K H0 N v d) → E.rt v H
  | .bk ρ => ∀ σ H, StOk K B0 H0 H σ ρ → E.bk σ H
  | .ct ρ => ∀ σ H, StOk K B0 H0 H σ ρ → E.ct σ H
def tDS (K : PySem.W.Frag) (g : FS) : TS := fun E σ H => ∃ (B0 H0 : Hp) (ρ : Env) (r : Res), StOk K B0 H0 H σ ρ ∧ g ρ = some r ∧ Post K B0 H0 E r

section
variable {K : PySem.W.Frag} {B0 H0 N H H' : Hp} {σ : St} {ρ : Env} {E : Ends}
/-- a list that ρ owns is written -/
theorem StN.write (s : StN K B0 H0 N H σ ρ) {i : Nat} {d : D} {a : Addr} {vs : List V} {ds : List D} (hi : ρ[i]? = some (some (d, true))) (hσ : σ[i]? = some (some (V.ref a))) (h : IsL K (cut N (own σ ρ)) vs ds) :
    StN K B0 H0 (upd N a (.lst vs)) (upd H a (.lst vs)) σ (ρ.set i (some (.lst ds, true))) := by
  have oa : own σ ρ a := ⟨i, d, hi, hσ⟩
  obtain ⟨ws, hw, h0⟩ := s.owned oa
  have b0 : B0 a = none := s.bh.free h0
  have o : ∀ b, own σ (ρ.set i (some (.lst ds, true))) b ↔ own σ ρ b := fun b => by
    constructor
    · rintro ⟨j, e, q1, q2⟩
      rcases set_get q1 with ⟨rfl, p⟩ | ⟨_, p⟩
      · exact ⟨i, d, hi, q2⟩
      · exact ⟨j, e, p, q2⟩
    · rintro ⟨j, e, q1, q2⟩
      by_cases z : i = j
      · subst z
        exact ⟨i, .lst ds, by rw [List.getElem?_set_self (List.getElem?_eq_some_iff.mp hi).1], q2⟩
      · exact ⟨j, e, by rw [List.getElem?_set_ne z]; exact q1, q2⟩
  have c : Same (cut N (own σ ρ)) (cut (upd N a (.lst vs)) (own σ (ρ.set i (some (.lst ds, true))))) := cut_mono fun b u e q => by
    have ne : b ≠ a := fun z => q (z ▸ oa)
    exact ⟨by rw [upd_ne ne]; exact e, fun z => q ((o b).mp z)⟩
  refine ⟨s.bh, s.tb, ⟨fun b u e => ?_, fun b u e => ?_, fun b u e => ?_, fun b u e => ?_⟩, by rw [List.length_set]; exact s.len, fun j e q => ?_, fun j e q => ?_, fun j k b e f q q' h1 h2 => ?_⟩
  · rw [upd_ne (fun z => by subst z; rw [h0] at e; cases e)]; exact s.ext.hh _ _ e
  · rw [upd_ne (fun z => by subst z; rw [b0] at e; cases e)]; exact s.ext.bn _ _ e
  · by_cases z : b = a
    · subst z; rw [upd_same] at e ⊢; exact e
    · rw [upd_ne z] at e ⊢; exact s.ext.nh _ _ e
  · by_cases z : b = a
    · subst z; exact .inr h0
    · rw [upd_ne z] at e; exact s.ext.new _ _ e
  · rcases set_get q with ⟨rfl, p⟩ | ⟨ne, p⟩
    · cases p
    · obtain ⟨v, h1, h2⟩ := s.sh j e p
      exact ⟨v, h1, h2.mono c⟩
  · rcases set_get q with ⟨rfl, p⟩ | ⟨ne, p⟩
    · cases p
      exact ⟨a, vs, ds, rfl, hσ, upd_same, h0, h.mono c⟩
    · obtain ⟨a', ws', es, z, h1, h2, h3, h4⟩ := s.ow j e p
      have na : a' ≠ a := fun z => by subst z; exact ne (s.inj i j _ d e hi p hσ h1)
      exact ⟨a', ws', es, z, h1, by rw [upd_ne na]; exact h2, h3, h4.mono c⟩
  · have get : ∀ {j : Nat} {e : D}, (ρ.set i (some (.lst ds, true)))[j]? = some (some (e, true)) → ∃ e', ρ[j]? = some (some (e', true)) := fun {j e} q => by
      rcases set_get q with ⟨rfl, p⟩ | ⟨ne, p⟩
      · exact ⟨d, hi⟩
      · exact ⟨e, p⟩
    obtain ⟨e', q1⟩ := get q
    obtain ⟨f', q2⟩ := get q'
    exact s.inj j k b e' f' q1 q2 h1 h2
theorem StN.tups (s : StN K B0 H0 N H σ ρ) : ∀ a vs, SqT K N a vs → SqT K (cut N (own σ ρ)) a vs := fun a vs h => by
  have key : ∀ u, N a = some u → (∀ ws, u ≠ .lst ws) → cut N (own σ ρ) a = some u := fun u e hu => by
    rw [cut_of fun z => ?_]; exact e
    obtain ⟨ws, q, _⟩ := s.owned z
    rw [e] at q; exact hu ws (Option.some.inj q)
  rcases h with (h | ⟨o, h⟩) | h
  · exact .inl (.inl (key _ h (fun _ q => by cases q)))
  · exact .inl (.inr ⟨o, key _ h (fun _ q => by cases q)⟩)
  · exact .inr h
theorem StN.flat (s : StN K B0 H0 N H σ ρ) {v : V} {d : D} (h : Is K N v d) (n : noLst d = true) : Is K (cut N (own σ ρ)) v d := h.keepT s.tups n
/-! ### seen from the body's own start: all that is not owned -/
theorem StN.rebase (s : StN K B0 H0 N H σ ρ) : StN K (cut N (own σ ρ)) (cut H (own σ ρ)) N H σ ρ :=
  ⟨cut_mono fun a o e q => ⟨s.ext.nh _ _ e, q⟩, s.tbC, ⟨cut_same, cut_same, s.ext.nh, fun a o e => by
    by_cases q : own σ ρ a
    · exact .inr (cut_in q)
    · exact .inl (by rw [cut_of q]; exact e)⟩, s.len, s.sh, fun i d q => by
      obtain ⟨a, vs, ds, z, h1, h2, _, h4⟩ := s.ow i d q
      exact ⟨a, vs, ds, z, h1, h2, cut_in ⟨i, d, q, h1⟩, h4⟩, s.inj⟩
theorem StN.unbase (s : StN K B0 H0 N H σ ρ) {N' H' : Hp} {σ' : St} {ρ' : Env} (t : StN K (cut N (own σ ρ)) (cut H (own σ ρ)) N' H' σ' ρ') : StN K B0 H0 N' H' σ' ρ' := by
  have h0 : Same H0 (cut H (own σ ρ)) := fun a o e => by
    rw [cut_of fun z => ?_]; exact s.ext.hh _ _ e
    obtain ⟨_, _, q⟩ := s.owned z
    rw [q] at e; cases e
  have b0 : Same B0 (cut N (own σ ρ)) := fun a o e => by
    rw [cut_of fun z => ?_]; exact s.ext.bn _ _ e
    obtain ⟨_, _, q⟩ := s.owned z
    rw [s.bh _ _ e] at q; cases q
  refine ⟨s.bh, s.tb, ⟨h0.trans t.ext.hh, b0.trans t.ext.bn, t.ext.nh, fun a o e => ?_⟩, t.len, t.sh, fun i d q => ?_, t.inj⟩
  · rcases t.ext.new a o e with z | z
    · exact s.ext.new a o (cut_same _ _ z)
    · exact .inr (h0.free z)
  · obtain ⟨a, vs, ds, z, h1, h2, h3, h4⟩ := t.ow i d q
    exact ⟨a, vs, ds, z, h1, h2, h0.free h3, h4⟩
/-- what could be named and was not owned ahead is so behind -/
theorem StN.based (t : StN K B0 H0 N H σ ρ) : Same B0 (cut N (own σ ρ)) := fun a o e => by
  rw [cut_of fun z => ?_]; exact t.ext.bn _ _ e
  obtain ⟨_, _, q⟩ := t.owned z
  rw [t.bh _ _ e] at q; cases q

/-! ### statements -/
@[simp] def gSeq (g h : FS) : FS := fun ρ => match g ρ with | some (.nx ρ') => h ρ' | r => r
@[simp] def gNext : FS := fun ρ => some (.nx ρ)
@[simp] def gIf (c : FT) (g h : FS) : FS := fun ρ => match c ρ with | some true => g ρ | some false => h ρ | none => none
@[simp] def gRet (f : FE) : FS := fun ρ => (f ρ).map fun x => .rt x.1 x.2
@[simp] def gRetN : FS := fun _ => some (.rt .non false)
@[simp] def gDrop (f : FE) : FS := fun ρ => (f ρ).map fun _ => .nx ρ
/-- return x, x owned: it goes out as one's own -/
@[simp] def gRetV (i : Nat) : FS := fun ρ => match ρ[i]? with | some (some (d, b)) => some (.rt d b) | _ => none
@[simp] def flatL : D → Bool
  | .lst ds => noLsts ds
  | _ => false
@[simp] def setE (ρ : Env) (i : Nat) (d : D) (b : Bool) : Env :=
  if noLst d = true then ρ.set i (some (d, false)) else if b = true ∧ flatL d = true then ρ.set i (some (d, true)) else (unown ρ).set i (some (d, false))
@[simp] def gSet (i : Nat) (f : FE) : FS := fun ρ => (f ρ).map fun x => .nx (setE ρ i x.1 x.2)
/-- the same, what is owned left out of sight: nothing is given up -/
@[simp] def gSetH (i : Nat) (f : FE) : FS := fun ρ => (f (hide ρ)).map fun x => .nx (ρ.set i (some (x.1, false)))
@[simp] def gApp (i : Nat) (f : FE) : FS := fun ρ => match ρ[i]? with
  | some (some (.lst ds, true)) => (f ρ).bind fun x => if noLst x.1 = true ∧ ds.length < sizeLine then some (.nx (ρ.set i (some (.lst (ds ++ [x.1]), true)))) else none
  | _ => none

theorem tDS_seq {g h : FS} (q : tDS K (gSeq g h) E σ H) : tSeq (tDS K g) (tDS K h) E σ H := by
  obtain ⟨B0, H0, ρ, r, s, e, p⟩ := q
  unfold gSeq at e
  cases eg : g ρ with
  | none => rw [eg] at e; cases e
  | some r1 =>
    rw [eg] at e
    cases r1 with
    | nx ρ' => exact ⟨B0, H0, ρ, .nx ρ', s, eg, fun σ' H' s' => ⟨B0, H0, ρ', r, s', e, p⟩⟩
    | rt d b => cases e; exact ⟨B0, H0, ρ, _, s, eg, p⟩
    | bk ρ' => cases e; exact ⟨B0, H0, ρ, _, s, eg, p⟩
    | ct ρ' => cases e; exact ⟨B0, H0, ρ, _, s, eg, p⟩
theorem tDS_next (q : tDS K gNext E σ H) : tNext E σ H := by
  obtain ⟨B0, H0, ρ, r, s, e, p⟩ := q
  cases e
  exact p σ H s
theorem StOk.grown {H' : Hp} (s : StN K B0 H0 N H σ ρ) (h : Same H H') : StOk K B0 H0 H' σ ρ := ⟨N, s.grow (.grow s.ext.nh h)⟩
theorem tDS_if {c : FT} {g h : FS} (q : tDS K (gIf c g h) E σ H) : tIfS (tDT K c) (tDS K g) (tDS K h) E σ H := by
  obtain ⟨B0, H0, ρ, r, ⟨N, s⟩, e, p⟩ := q
  unfold gIf at e
  cases ec : c ρ with
  | none => rw [ec] at e; cases e
  | some b =>
    rw [ec] at e
    refine ⟨N, ρ, b, s.ext.nh, s.rep, ec, fun H1 h1 => ?_⟩
    cases b with
    | true => rw [if_pos rfl]; exact ⟨B0, H0, ρ, r, .grown s h1, e, p⟩
    | false => rw [if_neg (by decide)]; exact ⟨B0, H0, ρ, r, .grown s h1, e, p⟩
theorem tDS_ret {f : FE} (q : tDS K (gRet f) E σ H) : tRet (tD K f) E σ H := by
  obtain ⟨B0, H0, ρ, r, ⟨N, s⟩, e, p⟩ := q
  obtain ⟨x, ex, e⟩ := Option.map_eq_some_iff.mp e
  subst e
  exact ⟨N, ρ, x.1, x.2, s.ext.nh, s.rep, ex, fun v H1 N1 x1 i1 f1 => p v H1 N1 (s.ext.trans x1) i1 fun b => (f1 b).back s.ext.hh⟩
theorem tDS_retV {i : Nat} (q : tDS K (gRetV i) E σ H) : tRet (tVar i) E σ H := by
  obtain ⟨B0, H0, ρ, r, ⟨N, s⟩, e, p⟩ := q
  unfold gRetV at e
  split at e
  · rename_i d b ei
    cases e
    cases b with
    | false =>
      obtain ⟨v, h1, h2⟩ := s.sh i d ei
      exact ⟨v, h1, p v H N s.ext (h2.mono cut_same) (by simp)⟩
    | true =>
      obtain ⟨a, vs, ds, rfl, h1, h2, h3, h4⟩ := s.ow i d ei
      exact ⟨_, h1, p _ H N s.ext (.lst (SqL.of h2) (h4.mono cut_same)) fun _ => ⟨a, vs, ds, rfl, rfl, h3, h2, h4.mono cut_same⟩⟩
  · cases e
/-- behind an expression: its value is bound -/
theorem StN.setE (s : StN K B0 H0 N H σ ρ) {i : Nat} {v : V} {d : D} {b : Bool} {N1 H1 : Hp} (x : Ext N N1 H H1) (h : Is K N1 v d) (f : b = true → Fsh K H N1 v d) : StN K B0 H0 N1 H1 (σ.set i (some v)) (setE ρ i d b) := by
  have s1 := s.grow x
  unfold DL.setE
  by_cases hn : noLst d = true
  · rw [if_pos hn]
    exact s1.bind (s1.flat h hn)
  · rw [if_neg hn]
    by_cases hb : b = true ∧ flatL d = true
    · rw [if_pos hb]
      obtain ⟨a, vs, ds, rfl, rfl, ha, hN, hs⟩ := f hb.1
      have hNa : N a = none := s.ext.nh.free ha
      have hoa : ¬ own σ ρ a := fun z => by obtain ⟨ws, q, _⟩ := s.owned z; rw [hNa] at q; cases q
      have c : Same (cut N (own σ ρ)) (cut N1 (fun b => own σ ρ b ∨ b = a)) := cut_mono fun b u e q => ⟨x.bn _ _ e, fun z => z.elim q fun z => by subst z; rw [hNa] at e; cases e⟩
      refine s1.bindOwn hN (s.ext.hh.free ha) (fun j e q z => hoa ⟨j, e, q, z⟩) (fun j e _ q => ?_) (fun j e _ q => ?_) (hs.keepT (fun t ts st => ?_) hb.2)
      · obtain ⟨w, h1, h2⟩ := s.sh j e q; exact ⟨w, h1, h2.mono c⟩
      · obtain ⟨a', ws, es, z, h1, h2, _, h4⟩ := s.ow j e q
        exact ⟨a', ws, es, z, h1, x.bn _ _ h2, h4.mono c⟩
      · have key : ∀ u, N1 t = some u → (∀ ws, u ≠ .lst ws) → cut N1 (fun b => own σ ρ b ∨ b = a) t = some u := fun u e hu => by
          rw [cut_of fun z => ?_]; exact e
          rcases z with z | z
          · obtain ⟨ws, q, _⟩ := s1.owned z
            rw [e] at q; exact hu ws (Option.some.inj q)
          · subst z; rw [e] at hN; exact hu _ (Option.some.inj hN)
        rcases st with (st | ⟨o, st⟩) | st
        · exact .inl (.inl (key _ st (fun _ q => by cases q)))
        · exact .inl (.inr ⟨o, key _ st (fun _ q => by cases q)⟩)
        · exact .inr st
    · rw [if_neg hb]
      exact s1.unown.bind (h.mono fun a o e => by rw [cut_of own_unown]; exact e)
theorem tDS_set {i : Nat} {f : FE} (q : tDS K (gSet i f) E σ H) : tAsg (tD K f) (gName i) E σ H := by
  obtain ⟨B0, H0, ρ, r, ⟨N, s⟩, e, p⟩ := q
  obtain ⟨x, ex, e⟩ := Option.map_eq_some_iff.mp e
  subst e
  exact ⟨N, ρ, x.1, x.2, s.ext.nh, s.rep, ex, fun v H1 N1 x1 i1 f1 => p _ H1 ⟨N1, s.setE x1 i1 f1⟩⟩
theorem tDS_app {i : Nat} {f : FE} (q : tDS K (gApp i f) E σ H) : ∃ (a : Addr) (us : List V), σ[i]? = some (some (V.ref a)) ∧ H a = some (.lst us) ∧ tCons (tD K f) tNil σ H fun xs H2 => rAppend (.ref a) xs H2 fun _ H3 => E.nx σ H3 := by
  obtain ⟨B0, H0, ρ, r, ⟨N, s⟩, e, p⟩ := q
  unfold gApp at e
  split at e
  · rename_i ds ei
    obtain ⟨x, ex, e⟩ := Option.bind_eq_some_iff.mp e
    split at e
    · rename_i hx
      cases e
      obtain ⟨a, vs, ds', z, h1, h2, h3, h4⟩ := s.ow i _ ei
      cases z
      refine ⟨a, vs, h1, s.ext.nh _ _ h2, N, ρ, x.1, x.2, s.ext.nh, s.rep, ex, fun v H1 N1 x1 i1 f1 => ⟨a, vs, v, rfl, rfl, x1.hh _ _ (s.ext.nh _ _ h2), by rw [h4.length]; exact hx.2, ?_⟩⟩
      have s1 := s.grow x1
      obtain ⟨a', vs', ds', z, k1, k2, _, k4⟩ := s1.ow i _ ei
      cases z
      rw [h1] at k1; cases k1
      rw [x1.bn _ _ h2] at k2; cases k2
      exact p σ _ ⟨_, s1.write ei h1 (k4.append (.cons (s1.flat i1 hx.1) .nil))⟩
    · cases e
  · cases e
end

/-! ### while: n turns at most -/
def whileF (c : FT) (g : FS) : Nat → Env → Option Res
  | 0, _ => none
  | n + 1, ρ => match c ρ with
    | some true => match g ρ with
      | some (.nx ρ') => whileF c g n ρ'
      | some (.ct ρ') => whileF c g n ρ'
      | some (.bk ρ') => some (.nx ρ')
      | r => r
    | some false => some (.nx ρ)
    | none => none
theorem tDS_while {K : PySem.W.Frag} {c : FT} {g : FS} {n : Nat} {E : Ends} {σ : St} {H : Hp} (q : tDS K (whileF c g n) E σ H) : tWhile (tDT K c) (tDS K g) E σ H := by
  obtain ⟨B0, H0, ρ, r, s, e, p⟩ := q
  refine ⟨fun m σ H => ∃ ρ, StOk K B0 H0 H σ ρ ∧ whileF c g m ρ = some r, ⟨n, ρ, s, e⟩, ?_⟩
  rintro m σ H ⟨ρ, ⟨N, s⟩, e⟩
  cases m with
  | zero => cases e
  | succ m =>
    unfold whileF at e
    cases ec : c ρ with
    | none => rw [ec] at e; cases e
    | some b =>
      rw [ec] at e
      refine ⟨N, ρ, b, s.ext.nh, s.rep, ec, fun H1 h1 => ?_⟩
      cases b with
      | false => rw [if_neg (by decide)]; cases e; exact p σ H1 (.grown s h1)
      | true =>
        rw [if_pos rfl]
        refine ⟨fun σ H => ∃ ρ, StOk K B0 H0 H σ ρ ∧ whileF c g m ρ = some r, fun σ' H' w => ⟨m, Nat.lt_succ_self m, w⟩, ?_⟩
        cases eg : g ρ with
        | none => rw [eg] at e; cases e
        | some r1 =>
          rw [eg] at e
          refine ⟨B0, H0, ρ, r1, .grown s h1, eg, ?_⟩
          cases r1 with
          | nx ρ' => exact fun σ' H' s' => ⟨ρ', s', e⟩
          | ct ρ' => exact fun σ' H' s' => ⟨ρ', s', e⟩
          | bk ρ' => cases e; exact fun σ' H' s' => p σ' H' s'
          | rt d b => cases e; exact p

/-! ### for -/
def ItOk (K : PySem.W.Frag) (J : It) (B : Hp) (ds : List D) : Prop := ∀ (i : Nat) (H : Hp), Same B H →
  (∀ d, ds[i]? = some d → J.go i H ∧ ∀ x H', J.yld i H x H' → ∃ N, Ext B N H H' ∧ Is K N x d) ∧ (ds.length ≤ i → J.stop i H)
def tDI (K : PySem.W.Frag) (f : FA) : TI := fun σ H R => ∃ (B : Hp) (ρ : Env) (ds : List D), Same B H ∧ RepE K B σ ρ ∧ f ρ = some ds ∧ ∀ (J : It) (H' N : Hp), Ext B N H H' → ItOk K J N ds → R J H'
abbrev FG := D → Env → Option Env
/-- a target: what is bound names nothing that is owned -/
def tDG (K : PySem.W.Frag) (tg : FG) (g : TG) : Prop := ∀ (B0 H0 N H : Hp) (σ : St) (ρ ρ' : Env) (v : V) (d : D) (Q : St → Hp → Prop), StN K B0 H0 N H σ ρ → Is K (cut N (own σ ρ)) v d → tg d ρ = some ρ' →
  (∀ σ' H', StOk K B0 H0 H' σ' ρ' → Q σ' H') → g v σ H Q
@[simp] def tgN (i : Nat) : FG := fun d ρ => some (ρ.set i (some (d, false)))
theorem tDG_name {K : PySem.W.Frag} {i : Nat} : tDG K (tgN i) (gName i) := by
  intro B0 H0 N H σ ρ ρ' v d Q s h e k
  cases e
  exact k _ H ⟨N, s.bind h⟩
def forL (tg : FG) (g : FS) : List D → Env → Option Res
  | [], ρ => some (.nx ρ)
  | d :: ds, ρ => (tg d ρ).bind fun ρ1 => match g ρ1 with
    | some (.nx ρ') => forL tg g ds ρ'
    | some (.ct ρ') => forL tg g ds ρ'
    | some (.bk ρ') => some (.nx ρ')
    | r => r
@[simp] theorem forL_nil (tg : FG) (g : FS) (ρ : Env) : forL tg g [] ρ = some (.nx ρ) := by rw [forL]
@[simp] theorem forL_cons (tg : FG) (g : FS) (d : D) (ds : List D) (ρ : Env) : forL tg g (d :: ds) ρ = (tg d ρ).bind fun ρ1 => match g ρ1 with
    | some (.nx ρ') => forL tg g ds ρ'
    | some (.ct ρ') => forL tg g ds ρ'
    | some (.bk ρ') => some (.nx ρ')
    | r => r := by rw [forL]
@[simp] def gFor (f : FA) (tg : FG) (g : FS) : FS := fun ρ => (f (hide ρ)).bind fun ds => forL tg g ds ρ
theorem for_core {K : PySem.W.Frag} {tg : FG} {t : TG} {g : FS} {E : Ends} {σ : St} {H1 B0 H0 N N1 : Hp} {ρ : Env} {r : Res} {J : It} {ds : List D} (ht : tDG K tg t) (s1 : StN K B0 H0 N H1 σ ρ) (c : Same N1 (cut N (own σ ρ))) (J1 : ItOk K J N1 ds) (e : forL tg g ds ρ = some r) (p : Post K B0 H0 E r) :
    ∃ W : Nat → Nat → St → Hp → Prop, (∃ m, W 0 m σ H1) ∧ ∀ i m σ H, W i m σ H → (J.stop i H ∧ E.nx σ H) ∨ (J.go i H ∧ ∃ N : St → Hp → Prop, (∀ σ' H', N σ' H' → ∃ m', m' < m ∧ W (i + 1) m' σ' H') ∧ ∀ x H', J.yld i H x H' → t x σ H' fun σ2 H2 => tDS K g { E with nx := N, ct := N, bk := E.nx } σ2 H2) := by
  refine ⟨fun i m σ H => ∃ (N : Hp) (ρ : Env), StN K B0 H0 N H σ ρ ∧ Same N1 (cut N (own σ ρ)) ∧ m = ds.length - i ∧ i ≤ ds.length ∧ forL tg g (ds.drop i) ρ = some r, ⟨ds.length, _, ρ, s1, c, rfl, Nat.zero_le _, e⟩, ?_⟩
  clear e s1 c
  rintro i m σ H ⟨N, ρ, s, c, rfl, hi, e⟩
  have hs : Same N1 H := c.trans (cut_same.trans s.ext.nh)
  obtain ⟨j1, j2⟩ := J1 i H hs
  by_cases hlt : i < ds.length
  · obtain ⟨go, yl⟩ := j1 ds[i] (by simp [hlt])
    rw [List.drop_eq_getElem_cons hlt] at e
    obtain ⟨ρ1, e1, e⟩ := Option.bind_eq_some_iff.mp e
    refine .inr ⟨go, fun σ' H' => ∃ (N : Hp) (ρ : Env), StN K B0 H0 N H' σ' ρ ∧ Same N1 (cut N (own σ' ρ)) ∧ forL tg g (ds.drop (i + 1)) ρ = some r, fun σ' H' ⟨N', ρ', s', c', e'⟩ => ⟨_, by omega, N', ρ', s', c', rfl, hlt, e'⟩, fun x H' y => ?_⟩
    obtain ⟨N2, x2, i2⟩ := yl x H' y
    have x3 : Ext (cut N (own σ ρ)) (join (cut N (own σ ρ)) N2) H H' := by
      refine ⟨x2.hh, join_l, fun a o e => ?_, fun a o e => ?_⟩
      · cases q : cut N (own σ ρ) a with
        | some u => rw [join_l _ _ q] at e; cases e; exact x2.hh _ _ (s.ext.nh _ _ (cut_same _ _ q))
        | none => rw [join_none q] at e; exact x2.nh _ _ e
      · cases q : cut N (own σ ρ) a with
        | some u => rw [join_l _ _ q] at e; cases e; exact .inl rfl
        | none =>
          rw [join_none q] at e
          rcases x2.new a o e with z | z
          · rw [c _ _ z] at q; cases q
          · exact .inr z
    obtain ⟨s2, c2⟩ := s.growH x3
    have c3 : Same N2 (join (cut N (own σ ρ)) N2) := fun a o e => by
      rcases x2.new a o e with z | z
      · exact join_l _ _ (c _ _ z)
      · rw [join_none ((cut_same.trans s.ext.nh).free z)]; exact e
    have i3 := i2.mono (c3.trans c2)
    have c4 : Same N1 (cut (join N (join (cut N (own σ ρ)) N2)) (own σ ρ)) := (x2.bn.trans c3).trans c2
    refine ht _ _ _ _ _ _ _ _ _ _ s2.rebase i3 e1 fun σ2 H2 ⟨N4, s4⟩ => ?_
    cases eg : g ρ1 with
    | none => rw [eg] at e; cases e
    | some r1 =>
      rw [eg] at e
      refine ⟨_, _, ρ1, r1, ⟨N4, s4⟩, eg, ?_⟩
      have back : ∀ {σ' : St} {H' : Hp} {ρ' : Env} {N' : Hp}, StN K _ _ N' H' σ' ρ' → StN K B0 H0 N' H' σ' ρ' ∧ Same N1 (cut N' (own σ' ρ')) := fun t => ⟨s2.unbase t, c4.trans t.based⟩
      cases r1 with
      | nx ρ' => exact fun σ' H' ⟨N', t⟩ => ⟨N', ρ', (back t).1, (back t).2, e⟩
      | ct ρ' => exact fun σ' H' ⟨N', t⟩ => ⟨N', ρ', (back t).1, (back t).2, e⟩
      | bk ρ' => cases e; exact fun σ' H' ⟨N', t⟩ => p σ' H' ⟨N', (back t).1⟩
      | rt d b =>
        cases e
        intro v H' N' x' i' f'
        have y := s2.rebase.ext
        have h0 : Same H0 (cut H' (fun _ => False)) := fun a o e => by rw [cut_of (fun z => z)]; exact x'.hh _ _ (by
          rw [cut_of fun z => ?_]; exact s2.ext.hh _ _ e
          obtain ⟨_, _, q⟩ := s2.owned z
          rw [q] at e; cases e)
        have h0' : Same H0 (cut H' (fun _ => False)) := h0
        have hH : Same H0 (cut H' (fun _ => False)) := h0
        have hc : ∀ a, cut H' (fun _ => False) a = H' a := fun a => cut_of (fun z => z)
        have hb : Same H0 (cut _ (own σ ρ)) := fun a o e => by
          rw [cut_of fun z => ?_]; exact s2.ext.hh _ _ e
          obtain ⟨_, _, q⟩ := s2.owned z
          rw [q] at e; cases e
        have bb : Same B0 (cut _ (own σ ρ)) := fun a o e => by
          rw [cut_of fun z => ?_]; exact s2.ext.bn _ _ e
          obtain ⟨_, _, q⟩ := s2.owned z
          rw [s2.bh _ _ e] at q; cases q
        refine p v H' N' ⟨hb.trans x'.hh, bb.trans x'.bn, x'.nh, fun a o e => ?_⟩ i' fun z => (f' z).back hb
        rcases x'.new a o e with z | z
        · exact s2.ext.new a o (cut_same _ _ z)
        · exact .inr (hb.free z)
  · have ei : i = ds.length := by omega
    subst ei
    rw [List.drop_eq_nil_of_le (Nat.le_refl _)] at e
    cases e
    exact .inl ⟨j2 (Nat.le_refl _), p σ H ⟨N, s⟩⟩
theorem tDS_for {K : PySem.W.Frag} {f : FA} {tg : FG} {t : TG} {g : FS} {E : Ends} {σ : St} {H : Hp} (ht : tDG K tg t) (q : tDS K (gFor f tg g) E σ H) : tFor (tDI K f) t (tDS K g) E σ H := by
  obtain ⟨B0, H0, ρ, r, ⟨N, s⟩, e, p⟩ := q
  obtain ⟨ds, ef, e⟩ := Option.bind_eq_some_iff.mp e
  refine ⟨cut N (own σ ρ), hide ρ, ds, cut_same.trans s.ext.nh, s.repH, ef, fun J H1 N1 x1 J1 => ?_⟩
  obtain ⟨s1, c⟩ := s.growH x1
  exact for_core ht s1 c J1 e p
/-- what is walked hangs on no object -/
def tDR (K : PySem.W.Frag) (f : FA) : TI := fun σ H R => ∃ (B : Hp) (ρ : Env) (ds : List D), Same B H ∧ RepE K B σ ρ ∧ f ρ = some ds ∧ ∀ (J : It) (H' N : Hp), Ext B N H H' → (∀ B', ItOk K J B' ds) → R J H'
@[simp] def gForR (f : FA) (tg : FG) (g : FS) : FS := fun ρ => (f ρ).bind fun ds => forL tg g ds ρ
theorem tDS_forR {K : PySem.W.Frag} {f : FA} {tg : FG} {t : TG} {g : FS} {E : Ends} {σ : St} {H : Hp} (ht : tDG K tg t) (q : tDS K (gForR f tg g) E σ H) : tFor (tDR K f) t (tDS K g) E σ H := by
  obtain ⟨B0, H0, ρ, r, ⟨N, s⟩, e, p⟩ := q
  obtain ⟨ds, ef, e⟩ := Option.bind_eq_some_iff.mp e
  refine ⟨N, ρ, ds, s.ext.nh, s.rep, ef, fun J H1 N1 x1 J1 => ?_⟩
  exact for_core ht (s.grow x1) (Same.refl _) (J1 _) e p
end DL

namespace DL
open PySem PySem.Spec PyProof.Rows L2

/-! ### what is judged, by values -/
abbrev JE (X : Cx) (e : Expr) (f : FE) : Prop := PE X e (tD X.K f)
abbrev JT (X : Cx) (e : Expr) (f : FT) : Prop := PT X e (tDT X.K f)
abbrev JW (X : Cx) (e : Expr) (f : FT) : Prop := PW X e (tDT X.K f)
abbrev JA (X : Cx) (es : List Expr) (f : FA) : Prop := PA X es (tDA X.K f)
abbrev JS (X : Cx) (st : Stmt) (g : FS) : Prop := PS X st (tDS X.K g)
abbrev JSs (X : Cx) (st : List Stmt) (g : FS) : Prop := PSs X st (tDS X.K g)
abbrev JI (X : Cx) (tg iter : Expr) (f : FA) : Prop := PI X tg iter (tDI X.K f)

/-! ### a comprehension's turn and loop -/
theorem compLoop_gen {prog : Program} {w : World} {A : Around} {R : Result → Shared → Prop} {s : Shared} {elt target iter : Expr} {ifs : List Expr} {scope : Scope} {pos : Pos} {it acc : Value} {env : PySem.Env} (I : Nat → Shared → Prop)
    (turn : ∀ n s, I n s → wpAny (model prog w) A (pyNext it) (fun r s₁ => match r with
      | none => R (.ok .next) s₁
      | some v => wpAny (model prog w) A (letOwnedTupleGo target it v) (fun _ s₁ => wpAny (model prog w) A (assign target env v) (fun _ s₂ =>
          wpAny (model prog w) A (forIn ifs true fun c r => if r = true then do let ok ← isTrue c env (eval c env); pure (ForInStep.yield ok) else pure (ForInStep.yield r)) (fun ok s₃ =>
            if ok = true then wpAny (model prog w) A (eval elt env) (fun x s₄ =>
              wpAny (model prog w) A (call (.builtin "list.append") [acc, x]) (fun _ s₅ => ∃ m, m < n ∧ I m s₅) (fun _ _ => False) s₄) (fun _ _ => False) s₃
            else ∃ m, m < n ∧ I m s₃) (fun _ _ => False) s₂) (fun _ _ => False) s₁) (fun _ _ => False) s₁) (fun _ _ => False) s)
    (n : Nat) (h : I n s) : codeAny (model prog w) A (.compLoop (.ListComp elt [⟨target, iter, ifs, 0⟩] scope pos) 0 it acc env) R s := by
  refine codeAny_loop rfl I (fun n s hI => ?_) n h
  show wpAny _ A ((compTurn (.ListComp elt [⟨target, iter, ifs, 0⟩] scope pos) 0 it acc env).onRaise (fun x => do noteFrame x env; theTreesLotGoes x)) _ _ s
  refine wpAny_noted (wpAny_mono (E := fun _ _ => False) ?_ (fun _ _ q => q) fun _ _ z => z.elim)
  rw [compTurn_list]
  refine wpAny_bind (wpAny_standAt (wpAny_bind (wpAny_mono (turn n s hI) (fun r s₁ h₁ => ?_) fun _ _ h' => h')))
  cases r with
  | none => exact wpAny_pure h₁
  | some v =>
    refine wpAny_bind (wpAny_mono h₁ (fun _ s₁ h₁ => ?_) fun _ _ h' => h')
    refine wpAny_bind (wpAny_mono h₁ (fun _ s₂ h₂ => wpAny_bind (wpAny_mono h₂ (fun ok s₃ h₃ => ?_) fun _ _ h' => h')) fun _ _ h' => h')
    cases ok with
    | false => exact wpAny_pure ⟨rfl, h₃⟩
    | true => exact wpAny_bind (wpAny_bind (wpAny_mono h₃ (fun x s₄ h₄ => wpAny_bind (wpAny_mono h₄ (fun _ s₅ h₅ => wpAny_pure (wpAny_pure ⟨rfl, h₅⟩)) fun _ _ h' => h')) fun _ _ h' => h'))

theorem Ext.upd {B N H H' : Hp} {a : Addr} {o : HO} (x : Ext B N H H') (h : H a = none) (hN : N a = none) : Ext B N H (upd H' a o) :=
  ⟨fun b u e => by rw [upd_ne (fun z => by subst z; rw [h] at e; cases e)]; exact x.hh _ _ e, x.bn, fun b u e => by rw [upd_ne (fun z => by subst z; rw [hN] at e; cases e)]; exact x.nh _ _ e, x.new⟩
/-- a comprehension's block within X -/
abbrev cxIn (X : Cx) (N' : List Str) (scope : Scope) (cl : List (Str × Addr)) (C : Addr) (s₃ : Shared) (H₃ : Hp) (fp : List Addr) : Cx :=
  { X with N := N', s₀ := s₃, H₀ := H₃, env := compEnvC scope cl C X.env, outer := X.stack, stack := X.stack, ex := fp, fn := fun _ => false, pn := [], xe := fun _ _ => False }

/-- which of the names around stand in the block's slots, from j on -/
inductive Caps (X : Cx) (N' : List Str) (scope : Scope) (cl : List (Str × Addr)) : Nat → List Nat → Prop where
  | nil {j : Nat} (h : N'.length = j) : Caps X N' scope cl j []
  | cons {j i : Nat} {r : List Nat} {x : Str} (h1 : N'[j]? = some x) (h2 : X.N[i]? = some x) (h3 : X.env.kindOf x = some .cell ∨ X.env.kindOf x = some .free)
      (h4 : (relabel scope X.env).names.lookup x = some .cell ∨ (relabel scope X.env).names.lookup x = some .free) (h5 : cl.lookup x = X.env.cells.lookup x) (t : Caps X N' scope cl (j + 1) r) : Caps X N' scope cl j (i :: r)
theorem Caps.len {X : Cx} {N' : List Str} {scope : Scope} {cl : List (Str × Addr)} : ∀ {j : Nat} {cap : List Nat}, Caps X N' scope cl j cap → N'.length = j + cap.length
  | _, _, .nil h => by rw [h]; rfl
  | j, i :: r, .cons _ _ _ _ _ t => by rw [t.len, List.length_cons]; omega
theorem Caps.get {X : Cx} {N' : List Str} {scope : Scope} {cl : List (Str × Addr)} : ∀ {j : Nat} {cap : List Nat} {k i : Nat}, Caps X N' scope cl j cap → cap[k]? = some i → ∃ x, N'[j + k]? = some x ∧ X.N[i]? = some x ∧ (X.env.kindOf x = some .cell ∨ X.env.kindOf x = some .free) ∧
    ((relabel scope X.env).names.lookup x = some .cell ∨ (relabel scope X.env).names.lookup x = some .free) ∧ cl.lookup x = X.env.cells.lookup x
  | _, _, _, _, .nil _, e => by simp at e
  | j, _, 0, _, .cons h1 h2 h3 h4 h5 _, e => by simp at e; subst e; exact ⟨_, h1, h2, h3, h4, h5⟩
  | j, _, k + 1, i, .cons _ _ _ _ _ t, e => by
    obtain ⟨x, q, r⟩ := t.get (k := k) (i := i) (by simpa using e)
    exact ⟨x, by rw [show j + (k + 1) = j + 1 + k by omega]; exact q, r⟩
/-- the block's scope -/
structure CompSc (X : Cx) (scope : Scope) (cl : List (Str × Addr)) : Prop where
  clos : closureFor scope X.env = pure cl
  nocell : ∀ y ∈ scope.names, y.2 ≠ .cell
  kind : scope.kind = .function
  names : ∀ y ∈ scope.names, y.2 = .local → scope.names.lookup y.1 = some .local
  sub : ∀ x c, cl.lookup x = some c → X.env.cells.lookup x = some c
  has : ∀ x, ((relabel scope X.env).names.lookup x = some .cell ∨ (relabel scope X.env).names.lookup x = some .free) → ∃ c, cl.lookup x = some c

/-- the cells that a block takes along -/
def clOf : List (Str × NameKind) → List (Str × Addr) → List (Str × Addr) → List (Str × Addr)
  | [], _, cs => cs
  | (n, k) :: r, cells, cs => clOf r cells (if k == .free then (match cells.lookup n with | some c => (n, c) :: cs | none => cs) else cs)
theorem clOf_clos {env : PySem.Env} : ∀ (names : List (Str × NameKind)) (cs : List (Str × Addr)), (∀ y ∈ names, y.2 = .free → (env.cells.lookup y.1).isSome = true) →
    (do let mut cs := cs
        for (name, kind) in names do
          if kind == .free then cs := (name, ← cellOf env name) :: cs
        return cs : Sem (List (Str × Addr))) = pure (clOf names env.cells cs) := by
  intro names
  induction names with
  | nil => intro cs _; rfl
  | cons y r ih =>
    intro cs h
    obtain ⟨n, k⟩ := y
    have ih' := fun cs => ih cs fun y hy => h y (List.mem_cons_of_mem _ hy)
    by_cases hk : k = .free
    · subst hk
      have hc := h (n, .free) List.mem_cons_self rfl
      cases q : env.cells.lookup n with
      | none => rw [q] at hc; cases hc
      | some c =>
        have e1 : clOf ((n, .free) :: r) env.cells cs = clOf r env.cells ((n, c) :: cs) := by
          rw [clOf, q]; rfl
        rw [e1, ← ih' ((n, c) :: cs)]
        have e2 : cellOf env n = pure c := by unfold cellOf; rw [q]
        simp only [List.forIn_cons, beq_self_eq_true, if_true, e2]
        rfl
    · have hb : (k == NameKind.free) = false := by simpa using hk
      have e1 : clOf ((n, k) :: r) env.cells cs = clOf r env.cells cs := by rw [clOf, hb]; rfl
      rw [e1, ← ih' cs]
      simp only [List.forIn_cons, hb, Bool.false_eq_true, if_false]
      rfl
theorem clOf_sub {cells : List (Str × Addr)} {x : Str} {c : Addr} : ∀ (names : List (Str × NameKind)) (cs : List (Str × Addr)), (∀ y d, cs.lookup y = some d → cells.lookup y = some d) → (clOf names cells cs).lookup x = some c → cells.lookup x = some c
  | [], cs, h, e => h x c e
  | (n, k) :: r, cs, h, e => by
    rw [clOf] at e
    refine clOf_sub r _ (fun y d q => ?_) e
    split at q
    · split at q
      · rename_i c' ec
        rw [List.lookup_cons] at q
        split at q
        · rename_i hy
          cases q
          rw [eq_of_beq hy]; exact ec
        · exact h y d q
      · exact h y d q
    · exact h y d q
theorem clOf_keep {cells : List (Str × Addr)} {x : Str} : ∀ (names : List (Str × NameKind)) (cs : List (Str × Addr)), (cs.lookup x).isSome = true → ((clOf names cells cs).lookup x).isSome = true
  | [], cs, h => h
  | (n, k) :: r, cs, h => by
    rw [clOf]
    refine clOf_keep r _ ?_
    split
    · split
      · rw [List.lookup_cons]
        split
        · rfl
        · exact h
      · exact h
    · exact h
theorem clOf_has {cells : List (Str × Addr)} {x : Str} : ∀ (names : List (Str × NameKind)) (cs : List (Str × Addr)), (x, NameKind.free) ∈ names → (cells.lookup x).isSome = true → ((clOf names cells cs).lookup x).isSome = true
  | (n, k) :: r, cs, hm, hc => by
    rw [clOf]
    rcases List.mem_cons.mp hm with e | e
    · cases e
      refine clOf_keep r _ ?_
      cases q : cells.lookup x with
      | none => rw [q] at hc; cases hc
      | some c => simp
    · exact clOf_has r _ e hc
theorem lookup_mem {α : Type} {x : Str} {k : α} : ∀ {l : List (Str × α)}, l.lookup x = some k → (x, k) ∈ l
  | (n, j) :: r, h => by
    rw [List.lookup_cons] at h
    split at h
    · rename_i e
      cases h
      rw [eq_of_beq e]; exact List.mem_cons_self
    · exact List.mem_cons_of_mem _ (lookup_mem h)
/-- the block's scope, from facts about its names -/
theorem compSc {X : Cx} {scope : Scope} (h1 : ∀ y ∈ scope.names, y.2 ≠ .cell) (h2 : scope.kind = .function) (h3 : ∀ y ∈ scope.names, y.2 = .local → scope.names.lookup y.1 = some .local) (h4' : (scope.names.all fun y => !(y.2 == NameKind.free) || (X.env.cells.lookup y.1).isSome) = true) :
    CompSc X scope (clOf scope.names X.env.cells []) := by
  have h4 : ∀ y ∈ scope.names, y.2 = .free → (X.env.cells.lookup y.1).isSome = true := fun y hy e => by
    have := List.all_eq_true.mp h4' y hy
    rw [e] at this
    simpa using this
  have frees : ∀ x, ((relabel scope X.env).names.lookup x = some .cell ∨ (relabel scope X.env).names.lookup x = some .free) → (x, NameKind.free) ∈ scope.names := fun x h => by
    have : ∃ k, (x, k) ∈ (relabel scope X.env).names ∧ (k = .cell ∨ k = .free) := by
      rcases h with h | h
      · exact ⟨_, lookup_mem h, .inl rfl⟩
      · exact ⟨_, lookup_mem h, .inr rfl⟩
    obtain ⟨k, hm, hk⟩ := this
    obtain ⟨⟨n, j⟩, hj, e⟩ := List.mem_map.mp hm
    dsimp only at e
    split at e
    · rename_i hc
      rw [Bool.and_eq_true, Bool.and_eq_true] at hc
      cases e
      rw [← eq_of_beq hc.1.1]; exact hj
    · cases e
      rcases hk with rfl | rfl
      · exact absurd rfl (h1 _ hj)
      · exact hj
  exact ⟨clOf_clos scope.names [] h4, h1, h2, h3, fun x c e => clOf_sub scope.names [] (fun y d q => by cases q) e, fun x h => by
    have := clOf_has (x := x) scope.names [] (frees x h) (h4 _ (frees x h) rfl)
    exact Option.isSome_iff_exists.mp this⟩
theorem cl_look {scope : Scope} {cells : List (Str × Addr)} {x : Str} (h : (x, NameKind.free) ∈ scope.names) (hc : (cells.lookup x).isSome = true) : (clOf scope.names cells []).lookup x = cells.lookup x := by
  obtain ⟨c, e⟩ := Option.isSome_iff_exists.mp (clOf_has (x := x) scope.names [] h hc)
  rw [e, clOf_sub scope.names [] (fun y d q => by cases q) e]
def capS (nT : Nat) (cap : List Nat) (σ : St) : St := List.replicate nT none ++ cap.map fun i => (σ[i]?).join
def capE (nT : Nat) (cap : List Nat) (ρ : Env) : Env := List.replicate nT none ++ cap.map fun i => match ρ[i]? with | some (some (d, _)) => some (d, false) | _ => none
theorem cap_get {α : Type} {nT : Nat} {cap : List Nat} {f : Nat → Option α} {j : Nat} {v : α} (h : (List.replicate nT none ++ cap.map f)[j]? = some (some v)) : ∃ k i, j = nT + k ∧ cap[k]? = some i ∧ f i = some v := by
  by_cases hj : j < nT
  · rw [List.getElem?_append_left (by simpa using hj), List.getElem?_replicate, if_pos hj] at h
    cases h
  · rw [List.getElem?_append_right (by simpa using Nat.not_lt.mp hj), List.length_replicate, List.getElem?_map] at h
    obtain ⟨i, h1, h2⟩ := Option.map_eq_some_iff.mp h
    exact ⟨j - nT, i, by omega, h1, h2⟩
theorem cap_set {α : Type} {nT : Nat} {cap : List Nat} {f : Nat → Option α} {k i : Nat} {v : α} (h1 : cap[k]? = some i) (h2 : f i = some v) : (List.replicate nT none ++ cap.map f)[nT + k]? = some (some v) := by
  rw [List.getElem?_append_right (by simp), List.length_replicate, List.getElem?_map, Nat.add_sub_cancel_left, h1]
  simp [h2]
theorem RepE.caps {K : PySem.W.Frag} {B : Hp} {σ : St} {ρ : Env} {nT : Nat} {cap : List Nat} (h : RepE K B σ ρ) : RepE K B (capS nT cap σ) (capE nT cap ρ) := ⟨h.tb, fun j d b q => by
  obtain ⟨k, i, rfl, h1, h2⟩ := cap_get q
  split at h2
  · rename_i d' b' e
    cases h2
    obtain ⟨v, g1, g2⟩ := h.at' i _ _ e
    exact ⟨v, cap_set h1 (by rw [g1]; rfl), g2⟩
  · cases h2⟩

/-- the block's turns, by values -/
def compL (tg : FG) (c : FT) (fe : FE) (ρ : Env) : List D → Option (List D)
  | [] => some []
  | d :: r => (tg d ρ).bind fun ρ1 => (c ρ1).bind fun b => if b = true then (fe ρ1).bind fun x => (compL tg c fe ρ r).map (x.1 :: ·) else compL tg c fe ρ r
@[simp] theorem compL_nil (tg : FG) (c : FT) (fe : FE) (ρ : Env) : compL tg c fe ρ [] = some [] := by rw [compL]
@[simp] theorem compL_cons (tg : FG) (c : FT) (fe : FE) (ρ : Env) (d : D) (r : List D) : compL tg c fe ρ (d :: r) = (tg d ρ).bind fun ρ1 => (c ρ1).bind fun b => if b = true then (fe ρ1).bind fun x => (compL tg c fe ρ r).map (x.1 :: ·) else compL tg c fe ρ r := by rw [compL]
@[simp] def fComp (fi : FA) (nT : Nat) (cap : List Nat) (tg : FG) (c : FT) (fe : FE) : FE := fun ρ => (fi ρ).bind fun items => if items.length ≤ sizeLine then (compL tg c fe (capE nT cap ρ) items).map fun ds => (.lst ds, true) else none
/-- a target, its slots below n empty -/
def TGE (K : PySem.W.Frag) (n : Nat) (tg : FG) (g : TG) : Prop := ∀ (B H : Hp) (σ : St) (ρ ρ1 : Env) (v : V) (d : D) (Q : St → Hp → Prop), (∀ i, i < n → ρ[i]? = some none) → RepE K B σ ρ → Same B H → Is K B v d → tg d ρ = some ρ1 →
  ρ.length = σ.length → (∀ σ1, RepE K B σ1 ρ1 → (∀ B', RepE K B' σ ρ → RepE K B' σ1 ρ) → ρ.length = σ1.length → Q σ1 H) → g v σ H Q
theorem tge_name {K : PySem.W.Frag} {n i : Nat} (hi : i < n) : TGE K n (tgN i) (gName i) := by
  intro B H σ ρ ρ1 v d Q cl rep s h e hl k
  cases e
  have hiσ : i < σ.length := by
    have := (List.getElem?_eq_some_iff.mp (cl i hi)).1
    omega
  refine k _ ⟨rep.tb, fun j e b q => ?_⟩ ?_ (by simpa using hl)
  · rcases set_get q with ⟨rfl, p⟩ | ⟨ne, p⟩
    · cases p
      exact ⟨v, by simp [hiσ], h⟩
    · obtain ⟨w, h1, h2⟩ := rep.at' j e b p
      exact ⟨w, by rw [List.getElem?_set_ne ne]; exact h1, h2⟩
  · intro B' rep'
    refine ⟨rep'.tb, fun j e b q => ?_⟩
    obtain ⟨w, h1, h2⟩ := rep'.at' j e b q
    have ne : i ≠ j := fun z => by subst z; rw [cl i hi] at q; cases q
    exact ⟨w, by rw [List.getElem?_set_ne ne]; exact h1, h2⟩
/-- the tests -/
def JC (X : Cx) (ifs : List Expr) (c : FT) : Prop := ∀ (pins : List (Addr × Obj)) (s : Shared) (σ : St) (H : Hp) (Q : Bool → Hp → Prop), Inv X pins σ H s → tDT X.K c σ H Q →
  wpAny (model X.prog X.w) X.A (forIn ifs true fun c r => if r = true then do let ok ← isTrue c X.env (eval c X.env); pure (ForInStep.yield ok) else pure (ForInStep.yield r)) (TP X pins σ Q) X.xe s
@[simp] def cTrue : FT := fun _ => some true
theorem jc_nil {X : Cx} : JC X [] cTrue := by
  intro pins s σ H Q I h
  obtain ⟨B, ρ, c, sB, rep, e, q⟩ := h
  cases e
  exact wpAny_tests_nil ⟨H, I, q H (.refl H)⟩
theorem jc_one {X : Cx} {e : Expr} {f : FT} (h : JT X e f) : JC X [e] f := fun pins s σ H Q I q => wpAny_tests_one (h pins s σ H Q I q)

theorem comp_block {X : Cx} (hcalm : X.calm = true) {tg iter elt : Expr} {ifs : List Expr} {scope : Scope} {pos : Pos} {cl : List (Str × Addr)} {N' : List Str} {nT : Nat} {cap : List Nat} {tgF : FG} {g : TG} {fc : FT} {fe : FE}
    (S : CompSc X scope cl) (cp : Caps X N' scope cl nT cap)
    (hg : ∀ C s H fp, PG (cxIn X N' scope cl C s H fp) tg g) (htg : TGE X.K nT tgF g) (hc : ∀ C s H fp, JC (cxIn X N' scope cl C s H fp) ifs fc) (he : ∀ C s H fp, JE (cxIn X N' scope cl C s H fp) elt fe)
    {pins : List (Addr × Obj)} {σ : St} {H2 : Hp} {s2 : Shared} {it : Addr} {fp : List Addr} {tn : Nat → Heap → Prop} {J : It} {N1 : Hp} {ρ : Env} {items ds : List D} {E : Value → Shared → Prop}
    (I2 : Inv X pins σ H2 s2) (T : Turn X.prog X.w X.K tg J fp it tn) (st2 : tn 0 s2.heap) (f2 : ∀ b ∈ fp, FpOk X pins H2 b)
    (rep : RepE X.K N1 σ ρ) (sN : Same N1 H2) (J1 : ItOk X.K J N1 items) (hsz : items.length ≤ sizeLine) (ec : compL tgF fc fe (capE nT cap ρ) items = some ds) {RR : Value → Addr → Result → Shared → Prop}
    (hRR : ∀ (Dd C : Addr) (s' : Shared) (H' N : Hp) (vs : List V) (m : Str → Option Value), H2 Dd = none → Inv X pins σ H' s' → s'.heap.Ns C m → FpOk X pins H' C → Ext N1 N H2 H' → N Dd = some (.lst vs) → IsL X.K N vs ds → RR (.ref Dd) C (.ok .next) s') :
    wpAny (model X.prog X.w) X.A (newList []) (fun acc s₃ => wpAny (model X.prog X.w) X.A (newFunctionEnv scope X.env.globals cl [] X.env.qual none .none (some X.env)) (fun cenv s₄ =>
      codeAny (model X.prog X.w) X.A (.compStart (.ListComp elt [⟨tg, iter, ifs, 0⟩] scope pos) 0 (.ref it) acc { cenv with scope := relabel scope X.env }) (RR acc cenv.locals) s₄) E s₃) E s2 := by
  refine wpAny_newObj_type (wpAny_newFunctionEnv S.nocell (by intro y hy; simp at hy) (fun h₁ hns₁ hsb₁ => ?_) S.kind)
  dsimp only at hns₁ hsb₁ ⊢
  have hD : H2 s2.heap.objs.size = none := I2.fresh
  have I3 : Inv X pins σ (upd H2 s2.heap.objs.size (.lst [])) { s2 with heap := s2.heap.push { cls := .type "list", dict := none, data := .seq ([] : List Value).toArray } } := I2.lnew (t' := s2.toks) (ys := []) (its := []) .nil (Nat.zero_le _)
  generalize hH3 : s2.heap.push { cls := .type "list", dict := none, data := .seq ([] : List Value).toArray } = g3 at hns₁ hsb₁ I3 ⊢
  have hC : g3.objs.size = s2.heap.objs.size + 1 := by rw [← hH3, Heap.size_push]
  have old2 : ∀ b o, s2.heap.get? b = some o → g3.get? b = some o := fun b o e => hH3 ▸ Heap.get?_push_of_some _ e
  have old3 : ∀ b o, g3.get? b = some o → h₁.get? b = some o := fun b o e => hsb₁.extBut b o (Nat.ne_of_lt (Heap.lt_size e)) (Heap.get?_push_of_some _ e)
  have neC : ∀ b o, g3.get? b = some o → b ≠ g3.objs.size := fun b o e => Nat.ne_of_lt (Heap.lt_size e)
  have fpo : ∀ b ∈ fp, ∃ o, s2.heap.get? b = some o := fun b hb => let ⟨o, e, _⟩ := T.obj 0 s2.heap st2 b hb; ⟨o, e⟩
  have fpD : ∀ b ∈ fp, b ≠ s2.heap.objs.size := fun b hb => let ⟨o, e⟩ := fpo b hb; Nat.ne_of_lt (Heap.lt_size e)
  have fpC : ∀ b ∈ fp, b ≠ g3.objs.size := fun b hb => let ⟨o, e⟩ := fpo b hb; neC b o (old2 b o e)
  have cellC : ∀ x c, X.env.cells.lookup x = some c → c ≠ g3.objs.size := fun x c e => by
    obtain ⟨v, z⟩ := I3.cell x c e
    exact Nat.ne_of_lt z.lt
  have hHC : (upd H2 s2.heap.objs.size (HO.lst [])) g3.objs.size = none := I3.hok.fresh (Nat.le_refl _)
  have stk : ∀ b ∈ frs X.stack, ∃ o, s2.heap.get? b = some o := fun b hb => by
    obtain ⟨_, o, ho, _⟩ := (I2.stack).mem hb
    exact ⟨o, ho⟩
  -- the block's context
  have ok : (cxIn X N' scope cl g3.objs.size { s2 with heap := g3 } (upd H2 s2.heap.objs.size (.lst [])) fp).Ok := by
    refine ⟨I2.ok.mod, ?_, I2.ok.glob, I2.ok.blt, Nat.le_refl _, fun x y c e1 e2 => I2.ok.inj x y c (S.sub x c e1) (S.sub y c e2), fun x h => S.has x h, fun x c h => absurd h Bool.false_ne_true, I2.ok.hd, I2.ok.frames, .inl rfl, fun b hb => ⟨fpC b hb, fun x c e => (f2 b hb).2.2.2.2.1 x c (S.sub x c e)⟩, fun b o e => ?_, ?_, fun b o e hb => ?_, fun b hb hz => ?_, I3.stack, fun b hb => I3.stkFree b hb⟩
    · show (relabel scope X.env).kind = .function
      exact S.kind
    · exact I3.bs b o e
    · exact Nat.le_trans I3.ok.bsz I3.sz
    · have h1 := (f2 b hb).2.2.2.1
      rcases h1 with z | z
      · exact I2.ok.noex b o e z
      · exact absurd (Nat.lt_of_lt_of_le (Heap.lt_size e) (Nat.le_trans I2.ok.bsz z)) (Nat.lt_irrefl _)
    · rcases List.mem_cons.mp (I2.stkSub b hz) with z | z
      · exact (f2 b hb).2.1 z
      · exact (f2 b hb).2.2.1 z
  have I4 : Inv (cxIn X N' scope cl g3.objs.size { s2 with heap := g3 } (upd H2 s2.heap.objs.size (.lst [])) fp) [] (capS nT cap σ) (upd H2 s2.heap.objs.size (.lst [])) { s2 with heap := h₁, toks := s2.toks + ([] : List (Str × Value)).length } := by
    refine ⟨ok, rfl, I2.bare, Un.kept old3, ⟨_, hns₁, fun j x v e1 e2 e3 => ?_⟩, fun x c e => ?_, hHC, fun x c e => I3.freeC x c (S.sub x c e), fun p hp => by simp at hp, I3.hok.kept old3, ?_⟩
    · obtain ⟨k, i, rfl, h1, h2⟩ := cap_get e2
      obtain ⟨y, g1, g2, g3', g4, g5⟩ := cp.get h1
      have e1' : N'[nT + k]? = some x := e1
      rw [g1] at e1'; cases e1'
      have h2' : σ[i]? = some (some v) := by
        cases q : σ[i]? with
        | none => rw [q] at h2; cases h2
        | some z => rw [q] at h2; have : z = some v := h2; rw [this]
      obtain ⟨m, _, hl⟩ := I3.loc
      obtain ⟨u, r, l⟩ := hl i _ v g2 h2' (g3'.elim (fun z => .inr (.inl z)) fun z => .inr (.inr z))
      refine ⟨u, r, ?_⟩
      rcases l with ⟨l, _⟩ | ⟨_, c, lc, ic⟩
      · rcases g3' with z | z <;> (rw [z] at l; cases l)
      · refine .inr ⟨g4, c, by show cl.lookup _ = some c; rw [g5]; exact lc, ?_⟩
        obtain ⟨o, ho, hd⟩ := ic
        exact ⟨o, old3 _ _ ho, hd⟩
    · obtain ⟨v, o, ho, hd⟩ := I3.cell x c (S.sub x c e)
      exact ⟨v, o, old3 _ _ ho, hd⟩
    · show (capS nT cap σ).length = N'.length
      unfold capS
      rw [cp.len]; simp
  have fpX : ∀ {H' : Hp}, (∀ b ∈ fp, H' b = none) → ∀ b ∈ fp, FpOk (cxIn X N' scope cl g3.objs.size { s2 with heap := g3 } (upd H2 s2.heap.objs.size (.lst [])) fp) [] H' b := fun hn b hb =>
    ⟨hn b hb, fpC b hb, ok.exfs b hb, .inl hb, fun x c e => (f2 b hb).2.2.2.2.1 x c (S.sub x c e), fun p hp => by simp at hp⟩
  have clean : ∀ i, i < nT → (capE nT cap ρ)[i]? = some none := fun i hi => by
    unfold capE
    rw [List.getElem?_append_left (by simpa using hi), List.getElem?_replicate, if_pos hi]
  have hND : N1 s2.heap.objs.size = none := sN.free hD
  have loop : ∀ s₃ : Shared, s₃ = { s2 with heap := h₁, toks := s2.toks + ([] : List (Str × Value)).length } →
      codeAny (model X.prog X.w) X.A (.compLoop (.ListComp elt [⟨tg, iter, ifs, 0⟩] scope pos) 0 (.ref it) (.ref s2.heap.objs.size) (compEnvC scope cl g3.objs.size X.env)) (RR (.ref s2.heap.objs.size) g3.objs.size) s₃ := by
    rintro s₃ rfl
    refine compLoop_gen (fun n s' => ∃ (i : Nat) (N : Hp) (vs : List V) (es : List D) (σ' : St) (H' : Hp), Inv (cxIn X N' scope cl g3.objs.size { s2 with heap := g3 } (upd H2 s2.heap.objs.size (.lst [])) fp) [] σ' H' s' ∧ tn i s'.heap ∧ (∀ b ∈ fp, H' b = none) ∧
      n = items.length - i ∧ i ≤ items.length ∧ RepE X.K N1 σ' (capE nT cap ρ) ∧ (capE nT cap ρ).length = σ'.length ∧ Ext N1 N H2 H' ∧ N s2.heap.objs.size = none ∧ H' s2.heap.objs.size = some (.lst vs) ∧ vs.length ≤ i ∧ IsL X.K N vs es ∧
      ∃ r, compL tgF fc fe (capE nT cap ρ) (items.drop i) = some r ∧ es ++ r = ds) ?_ items.length ?_
    · rintro n s' ⟨i, N, vs, es, σ', H', I', ti, hn, rfl, hi, rp, hlen, x, hN0, hH0, hvl, hvs, r, er, eds⟩
      have sH : Same N1 H' := x.bn.trans x.nh
      by_cases hlt : i < items.length
      · obtain ⟨j1, _⟩ := J1 i H' sH
        obtain ⟨go, yl⟩ := j1 items[i] (by simp [hlt])
        rw [List.drop_eq_getElem_cons hlt] at er
        unfold compL at er
        obtain ⟨ρ1, e1, er⟩ := Option.bind_eq_some_iff.mp er
        obtain ⟨b, e2, er⟩ := Option.bind_eq_some_iff.mp er
        refine thn (T.item (cxIn X N' scope cl g3.objs.size { s2 with heap := g3 } (upd H2 s2.heap.objs.size (.lst [])) fp) rfl rfl rfl hcalm i [] s' σ' H' (fun _ _ => False) I' (fpX hn) ti go) fun q s4 hq => ?_
        obtain ⟨u, rfl, hq⟩ := hq
        refine thn hq fun _ s5 hq => ?_
        obtain ⟨xv, H5, I5, rx, y5, t5, fr5⟩ := hq
        obtain ⟨N5, x5, i5⟩ := yl xv H5 y5
        -- all that may be named at this turn
        have x6 : Ext N (join N N5) H' H5 := by
          refine ⟨x5.hh, join_l, fun a o e => ?_, fun a o e => ?_⟩
          · cases z : N a with
            | some u' => rw [join_l _ _ z] at e; cases e; exact x5.hh _ _ (x.nh _ _ z)
            | none => rw [join_none z] at e; exact x5.nh _ _ e
          · cases z : N a with
            | some u' => rw [join_l _ _ z] at e; cases e; exact .inl rfl
            | none =>
              rw [join_none z] at e
              rcases x5.new a o e with z' | z'
              · rw [x.bn _ _ z'] at z; cases z
              · exact .inr z'
        have c5 : Same N5 (join N N5) := fun a o e => by
          rcases x5.new a o e with z | z
          · exact join_l _ _ (x.bn _ _ z)
          · rw [join_none (x.nh.free z)]; exact e
        have hN5 : (join N N5) s2.heap.objs.size = none := by
          cases z : join N N5 s2.heap.objs.size with
          | none => rfl
          | some o =>
            rcases x6.new _ _ z with z' | z'
            · rw [hN0] at z'; cases z'
            · rw [hH0] at z'; cases z'
        have fin : ∀ (s9 : Shared) (σ9 : St) (H9 N9 : Hp) (vs9 : List V) (es9 : List D), Inv (cxIn X N' scope cl g3.objs.size { s2 with heap := g3 } (upd H2 s2.heap.objs.size (.lst [])) fp) (pinsAt fp s5.heap) σ9 H9 s9 →
            RepE X.K N1 σ9 (capE nT cap ρ) → (capE nT cap ρ).length = σ9.length → Ext N1 N9 H2 H9 → N9 s2.heap.objs.size = none → H9 s2.heap.objs.size = some (.lst vs9) → vs9.length ≤ i + 1 → IsL X.K N9 vs9 es9 →
            (∃ r, compL tgF fc fe (capE nT cap ρ) (items.drop (i + 1)) = some r ∧ es9 ++ r = ds) → ∃ m, m < items.length - i ∧ ∃ (i : Nat) (N : Hp) (vs : List V) (es : List D) (σ' : St) (H' : Hp), Inv (cxIn X N' scope cl g3.objs.size { s2 with heap := g3 } (upd H2 s2.heap.objs.size (.lst [])) fp) [] σ' H' s9 ∧ tn i s9.heap ∧ (∀ b ∈ fp, H' b = none) ∧
              m = items.length - i ∧ i ≤ items.length ∧ RepE X.K N1 σ' (capE nT cap ρ) ∧ (capE nT cap ρ).length = σ'.length ∧ Ext N1 N H2 H' ∧ N s2.heap.objs.size = none ∧ H' s2.heap.objs.size = some (.lst vs) ∧ vs.length ≤ i ∧ IsL X.K N vs es ∧
              ∃ r, compL tgF fc fe (capE nT cap ρ) (items.drop i) = some r ∧ es ++ r = ds := fun s9 σ9 H9 N9 vs9 es9 I9 rp9 l9 x9 n9 h9 v9 i9 er9 => by
          refine ⟨items.length - (i + 1), by omega, i + 1, N9, vs9, es9, σ9, H9, I9.pins_of fun p hp => by simp at hp, T.keep _ _ _ t5 fun b hb o e => (I9.pin (b, o) (List.mem_append_right _ (mem_pinsAt hb e))).1, fun b hb => ?_, rfl, hlt, rp9, l9, x9, n9, h9, v9, i9, er9⟩
          obtain ⟨o, e, d⟩ := T.obj _ _ t5 b hb
          exact (I9.pin (b, o) (List.mem_append_right _ (mem_pinsAt hb e))).2.1
        have I5' : Inv (cxIn X N' scope cl g3.objs.size { s2 with heap := g3 } (upd H2 s2.heap.objs.size (.lst [])) fp) (pinsAt fp s5.heap) σ' H5 s5 := by
          have := I5.pinned (fpX fr5) (T.obj _ _ t5)
          rwa [List.nil_append] at this
        have sN5 : Same (join N N5) H5 := x6.nh
        refine thn (hg _ _ _ _ _ s5 σ' H5 xv u (fun σ6 H6 => H6 = H5 ∧ RepE X.K (join N N5) σ6 ρ1 ∧ RepE X.K N1 σ6 (capE nT cap ρ) ∧ (capE nT cap ρ).length = σ6.length) I5' rx ?_) fun _ s6 ⟨σ6, H6, I6, eH, rp6, rq6, l6⟩ => ?_
        · refine htg (join N N5) H5 σ' (capE nT cap ρ) ρ1 xv items[i] _ clean (rp.mono (x.bn.trans join_l)) sN5 (i5.mono c5) e1 hlen fun σ1 r1 r2 l1 => ⟨rfl, r1, r2 N1 rp, l1⟩
        · subst eH
          have hH5 : H6 s2.heap.objs.size = some (.lst vs) := x5.hh _ _ hH0
          refine thn (hc _ _ _ _ _ s6 σ6 H6 (fun c H7 => c = b ∧ Same H6 H7) I6 ⟨join N N5, ρ1, b, sN5, rp6, e2, fun H7 h7 => ⟨rfl, h7⟩⟩) fun ok s7 ⟨H7, I7, eb, h7⟩ => ?_
          subst eb
          have x7 : Ext N1 (join N N5) H2 H7 := (x.trans x6).trans (.grow sN5 h7)
          cases ok with
          | false =>
            rw [if_neg (by decide)] at er ⊢
            exact fin s7 σ6 H7 (join N N5) vs es I7 rq6 l6 x7 hN5 (h7 _ _ hH5) (Nat.le_succ_of_le hvl) (hvs.mono join_l) ⟨r, er, eds⟩
          | true =>
            rw [if_pos rfl] at er ⊢
            obtain ⟨y, e3, er⟩ := Option.bind_eq_some_iff.mp er
            obtain ⟨r', e4, er⟩ := Option.map_eq_some_iff.mp er
            subst er
            refine thn (he _ _ _ _ _ s7 σ6 H7 (fun v H8 => ∃ N8, Ext (join N N5) N8 H7 H8 ∧ Is X.K N8 v y.1) I7 ⟨join N N5, ρ1, y.1, y.2, sN5.trans h7, rp6, e3, fun v H8 N8 x8 i8 _ => ⟨N8, x8, i8⟩⟩) fun w8 s8 ⟨v8, H8, I8, r8, N8, x8, i8⟩ => ?_
            have hH8 : H8 s2.heap.objs.size = some (.lst vs) := x8.hh _ _ (h7 _ _ hH5)
            refine thn (mt_append _ s8 σ6 H8 (.ref s2.heap.objs.size) [v8] (.ref s2.heap.objs.size) [w8] (fun _ H9 => H9 = upd H8 s2.heap.objs.size (.lst (vs ++ [v8]))) I8 rfl (.cons r8 .nil) ⟨_, vs, v8, rfl, rfl, hH8, by omega, rfl⟩) fun _ s9 ⟨_, H9, I9, _, e9⟩ => ?_
            subst e9
            have hN8 : N8 s2.heap.objs.size = none := by
              cases z : N8 s2.heap.objs.size with
              | none => rfl
              | some o =>
                rcases x8.new _ _ z with z' | z'
                · rw [hN5] at z'; cases z'
                · rw [h7 _ _ hH5] at z'; cases z'
            refine fin s9 σ6 _ N8 (vs ++ [v8]) (es ++ [y.1]) I9 rq6 l6 ((x7.trans x8).upd hD hN8) hN8 upd_same (by rw [List.length_append, List.length_singleton]; omega) ((hvs.mono (join_l.trans x8.bn)).append (.cons i8 .nil)) ⟨r', e4, by rw [List.append_assoc]; exact eds⟩
      · have ei : i = items.length := by omega
        subst ei
        rw [List.drop_eq_nil_of_le (Nat.le_refl _)] at er
        cases er
        rw [List.append_nil] at eds
        subst eds
        refine thn (T.done (cxIn X N' scope cl g3.objs.size { s2 with heap := g3 } (upd H2 s2.heap.objs.size (.lst [])) fp) rfl rfl rfl hcalm items.length [] s' σ' H' (fun _ _ => False) I' (fpX hn) ti ((J1 _ H' sH).2 (Nat.le_refl _))) fun q s4 ⟨hq, I9⟩ => ?_
        subst hq
        obtain ⟨m, hm, _⟩ := I9.loc
        have u1 : Un (frs X.stack) fp H2 (upd H2 s2.heap.objs.size (.lst [])) s2.heap g3 := Un.laid old2 (Nat.le_refl _) hD
        have x9 : Ext N1 (upd N s2.heap.objs.size (.lst vs)) H2 H' := by
          refine ⟨x.hh, x.bn.trans fun a o e => by rw [upd_ne (fun z => by subst z; rw [hN0] at e; cases e)]; exact e, fun a o e => ?_, fun a o e => ?_⟩
          · by_cases z : a = s2.heap.objs.size
            · subst z; rw [upd_same] at e; cases e; exact hH0
            · rw [upd_ne z] at e; exact x.nh _ _ e
          · by_cases z : a = s2.heap.objs.size
            · subst z; exact .inr hD
            · rw [upd_ne z] at e; exact x.new _ _ e
        refine hRR s2.heap.objs.size g3.objs.size s4 H' (upd N s2.heap.objs.size (.lst vs)) vs m hD (I2.call' (ch := fp) I9.os (u1.trans I9.base) I9.hok I9.bare fun b hb => ⟨(f2 b hb).2.2.2.1, (f2 b hb).2.1, (f2 b hb).2.2.2.2.1, (f2 b hb).2.2.2.2.2⟩) hm (I2.fpOk (by rw [hC]; exact Nat.le_succ _) I9.free) x9 upd_same
          (hvs.mono fun a o e => by rw [upd_ne (fun z => by subst z; rw [hN0] at e; cases e)]; exact e)
    · refine ⟨0, N1, [], [], capS nT cap σ, _, I4, T.keep _ _ _ st2 fun b hb o e => old3 _ _ (old2 _ _ e), fun b hb => ?_, rfl, Nat.zero_le _, rep.caps, ?_, (Ext.refl sN).upd hD hND, hND, upd_same, Nat.zero_le _, .nil, ds, by simpa using ec, rfl⟩
      · rw [upd_ne (fpD b hb)]; exact (f2 b hb).1
      · unfold capE capS; simp
  exact codeAny_compStart_list (loop _ rfl) (T.self _ 0 _ _ _ (T.keep _ _ _ st2 fun b hb o e => old3 _ _ (old2 _ _ e)) (loop _ rfl))

/-! ### the comprehension itself; and x = [..] on one line, where the name is stored ahead of the block's end -/
theorem je_comp {X : Cx} (hcalm : X.calm = true) {tg iter elt : Expr} {ifs : List Expr} {scope : Scope} {pos : Pos} {cl : List (Str × Addr)} {N' : List Str} {nT : Nat} {cap : List Nat} {fi : FA} {tgF : FG} {g : TG} {fc : FT} {fe : FE}
    (S : CompSc X scope cl) (cp : Caps X N' scope cl nT cap) (hi : JI X tg iter fi)
    (hg : ∀ C s H fp, PG (cxIn X N' scope cl C s H fp) tg g) (htg : TGE X.K nT tgF g) (hc : ∀ C s H fp, JC (cxIn X N' scope cl C s H fp) ifs fc) (he : ∀ C s H fp, JE (cxIn X N' scope cl C s H fp) elt fe)
    (hs : ∀ x, foldedSetIterable iter X.env x = pure x := by intro _; rfl) :
    JE X (.ListComp elt [⟨tg, iter, ifs, 0⟩] scope pos) (fComp fi nT cap tgF fc fe) := by
  intro pins s σ H Q I h
  obtain ⟨B, ρ, d, b, sB, rep, e, q⟩ := h
  obtain ⟨items, ei, e⟩ := Option.bind_eq_some_iff.mp e
  have hsz : items.length ≤ sizeLine := Decidable.byContradiction fun z => by rw [if_neg z] at e; cases e
  rw [if_pos hsz] at e
  obtain ⟨ds, ec, e⟩ := Option.map_eq_some_iff.mp e
  cases e
  rw [eval_ListComp]
  refine wpAny_comprehension_free (use := none) rfl hs S.clos S.kind S.names (thn (hi pins s σ H (fun J H2 => ∃ N1, Ext B N1 H H2 ∧ ItOk X.K J N1 items) I ⟨B, ρ, items, sB, rep, ei, fun J H2 N1 x1 j1 => ⟨N1, x1, j1⟩⟩) fun v s1 h1 => thn h1 fun itv s2 h2 => ?_)
  obtain ⟨it, fp, tn, J, H2, e, I2, T, st2, f2, N1, x1, j1⟩ := h2
  subst e
  refine comp_block hcalm S cp hg htg hc he I2 T st2 f2 (rep.mono x1.bn) x1.nh j1 hsz ec (RR := fun acc C => compPost (model X.prog X.w) X.A X.xe none (EP X pins σ Q) acc C) ?_
  intro Dd C s' H' N vs m hD I' hm fC x hN hl
  refine ⟨m, hm, fun h' hs' => ⟨.ref Dd, H', ?_, rfl, q _ H' N (x1.trans x) (.lst (SqL.of hN) hl) fun _ => ⟨Dd, vs, ds, rfl, rfl, x1.hh.free hD, hN, hl⟩⟩⟩
  obtain ⟨c0, c1, c2, c3, c4, c5⟩ := fC
  exact I'.turned (t' := s'.toks) (fun b o hb e => (hs'.2 b hb).trans e) c0 c1 c3 c4 c5
theorem js_comp {X : Cx} (hcalm : X.calm = true) {tg iter elt : Expr} {ifs : List Expr} {scope : Scope} {pos spos py : Pos} {cl : List (Str × Addr)} {N' : List Str} {nT : Nat} {cap : List Nat} {fi : FA} {tgF : FG} {g : TG} {fc : FT} {fe : FE} {y : Str} {i : Nat}
    (hN : X.N.Nodup) (hi' : X.N[i]? = some y) (hy : X.env.kindOf y = some .local)
    (hsw : swapsWith (.ListComp elt [⟨tg, iter, ifs, 0⟩] scope pos) (some (.Name y py)) spos.line X.env = pure true)
    (S : CompSc X scope cl) (cp : Caps X N' scope cl nT cap) (hi : JI X tg iter fi)
    (hg : ∀ C s H fp, PG (cxIn X N' scope cl C s H fp) tg g) (htg : TGE X.K nT tgF g) (hc : ∀ C s H fp, JC (cxIn X N' scope cl C s H fp) ifs fc) (he : ∀ C s H fp, JE (cxIn X N' scope cl C s H fp) elt fe)
    (hs : ∀ x, foldedSetIterable iter X.env x = pure x := by intro _; rfl) :
    JS X (.Assign [.Name y py] (.ListComp elt [⟨tg, iter, ifs, 0⟩] scope pos) spos) (gSet i (fComp fi nT cap tgF fc fe)) := by
  intro pins s σ H E I h
  have h2 : tAsg (tD X.K (fComp fi nT cap tgF fc fe)) (gName i) E σ H := tDS_set h
  obtain ⟨B, ρ, d, b, sB, rep, e, q⟩ := h2
  obtain ⟨items, ei, e⟩ := Option.bind_eq_some_iff.mp e
  have hsz : items.length ≤ sizeLine := Decidable.byContradiction fun z => by rw [if_neg z] at e; cases e
  rw [if_pos hsz] at e
  obtain ⟨ds, ec, e⟩ := Option.map_eq_some_iff.mp e
  cases e
  rw [exec_Assign_Name_used _ _ _ _ hsw]
  refine wpAny_bind (wpAny_standAt (wpAny_bind ?_))
  show wpAny _ _ (do let _ ← comprehension (.ListComp elt [⟨tg, iter, ifs, 0⟩] scope pos) scope X.env _ (newList []) false (eval iter X.env) (some (assign (.Name y py) X.env))) _ _ s
  refine wpAny_bind (wpAny_mono (wpAny_comprehension_free (use := some (assign (.Name y py) X.env)) (Q := fun _ s' => SP X pins E .next s') rfl hs S.clos S.kind S.names
    (thn (hi pins s σ H (fun J H2 => ∃ N1, Ext B N1 H H2 ∧ ItOk X.K J N1 items) I ⟨B, ρ, items, sB, rep, ei, fun J H2 N1 x1 j1 => ⟨N1, x1, j1⟩⟩) fun v s1 h1 => thn h1 fun itv s2 h2 => ?_)) (fun _ s' hq => wpAny_pure (wpAny_pure hq)) fun _ _ e => e)
  obtain ⟨it, fp, tn, J, H2, e, I2, T, st2, f2, N1, x1, j1⟩ := h2
  subst e
  refine comp_block hcalm S cp hg htg hc he I2 T st2 f2 (rep.mono x1.bn) x1.nh j1 hsz ec (RR := fun acc C => compPost (model X.prog X.w) X.A X.xe (some (assign (.Name y py) X.env)) (fun _ s' => SP X pins E .next s') acc C) ?_
  intro Dd C s' H' N vs m hD I' hm fC x hN' hl
  show wpAny _ _ (assign (.Name y py) X.env (.ref Dd)) _ _ s'
  obtain ⟨c0, c1, c2, c3, c4, c5⟩ := fC
  refine wpAny_assign_Name (store_ok2 I' hN hi' (.inl hy) (r := show RelV (.ref Dd) (.ref Dd) from rfl) (fun s9 I9 ⟨a, sb, ha⟩ => ?_) (.inr hy))
  have nC : C ≠ a := by
    rcases ha with z | z
    · rw [z]; exact c1
    · exact fun w => c4 y a z w.symm
  refine ⟨m, hm.sameBut sb nC, fun h' hs' => ⟨_, H', ?_, q _ H' N (x1.trans x) (.lst (SqL.of hN') hl) fun _ => ⟨Dd, vs, ds, rfl, rfl, x1.hh.free hD, hN', hl⟩⟩⟩
  exact I9.turned (t' := s9.toks) (fun b o hb e => (hs'.2 b hb).trans e) c0 c1 c3 c4 c5
end DL

namespace DL
open PySem PySem.Spec PyProof.Rows L2
section
variable {X : Cx} {a b c e : Expr} {pos : Pos}
theorem PE.to {t t' : TE} (h : PE X e t) (k : ∀ σ H Q, t' σ H Q → t σ H Q) : PE X e t' := fun pins s σ H Q I q => h pins s σ H Q I (k σ H Q q)
theorem PT.to {t t' : TT} (h : PT X e t) (k : ∀ σ H Q, t' σ H Q → t σ H Q) : PT X e t' := fun pins s σ H Q I q => h pins s σ H Q I (k σ H Q q)
theorem PW.to {t t' : TT} (h : PW X e t) (k : ∀ σ H Q, t' σ H Q → t σ H Q) : PW X e t' := fun wh pins s σ H Q I q => h wh pins s σ H Q I (k σ H Q q)
theorem PA.to {es : List Expr} {t t' : TA} (h : PA X es t) (k : ∀ σ H Q, t' σ H Q → t σ H Q) : PA X es t' := fun pos pins s σ H Q I q => h pos pins s σ H Q I (k σ H Q q)
theorem PS.to {st : Stmt} {t t' : TS} (h : PS X st t) (k : ∀ E σ H, t' E σ H → t E σ H) : PS X st t' := fun pins s σ H E I q => h pins s σ H E I (k E σ H q)
theorem PSs.to {st : List Stmt} {t t' : TS} (h : PSs X st t) (k : ∀ E σ H, t' E σ H → t E σ H) : PSs X st t' := fun pins s σ H E I q => h pins s σ H E I (k E σ H q)
theorem PI.to {tg it : Expr} {t t' : TI} (h : PI X tg it t) (k : ∀ σ H Q, t' σ H Q → t σ H Q) : PI X tg it t' := fun pins s σ H Q I q => h pins s σ H Q I (k σ H Q q)

/-! ### names and constants -/
theorem tD_C {K : PySem.W.Frag} {d : D} {v : V} (i : ∀ B, Is K B v d) {σ : St} {H : Hp} {Q : VK} (h : tD K (fC d) σ H Q) : tC v σ H Q := by
  obtain ⟨B, ρ, d', b, s, r, e, q⟩ := h
  cases e
  exact q.one s (i B)
theorem je_var (i : Nat) {x : Str} (hN : X.N[i]? = some x := by rfl) (hv : Vis X.env.scope x := by first | exact Or.inl rfl | exact Or.inr (Or.inl rfl) | exact Or.inr (Or.inr rfl)) (hd : (x == ("__debug__" : Str)) = false := by decide)
    (hcd : (x == ("__classdict__" : Str)) = false := by decide) : JE X (.Name x pos) (fVar i) := PE.to (pe_var hN hv hd hcd) fun _ _ _ h => tD_var h
theorem je_int {i : Int} {j : Nat} : JE X (.Constant (.int i) j pos) (fC (.int i)) := PE.to pe_int fun _ _ _ h => tD_C (fun _ => .int i) h
theorem je_bl {i : Bool} {j : Nat} : JE X (.Constant (.bool i) j pos) (fC (.bl i)) := PE.to pe_bl fun _ _ _ h => tD_C (fun _ => .bl i) h
theorem je_non {j : Nat} : JE X (.Constant .none j pos) (fC .non) := PE.to pe_non fun _ _ _ h => tD_C (fun _ => .non) h
theorem je_str {x : Str} {j : Nat} : JE X (.Constant (.str x) j pos) (fC (.str x)) := PE.to pe_str fun _ _ _ h => tD_C (fun _ => .str x) h
/-- a name of the module that stands for a value -/
theorem je_glob {x : Str} {v : V} {d : D} {u : Value} (hg : Gl X x) (hm : X.mg x = some u) (r : RelV v u) (i : ∀ B, Is X.K B v d) (hd : (x == ("__debug__" : Str)) = false := by decide) : JE X (.Name x pos) (fC d) := PE.to (pe_glob hg hm r hd) fun _ _ _ h => tD_C i h

/-! ### operations -/
theorem je_op {op : Operator} {f : D → D → Option (D × Bool)} {fa fb : FE} (ho : OpR X (binaryOp op) (rD X.K f)) (ha : JE X a fa) (hb : JE X b fb) : JE X (.BinOp a op b pos) (f2 f fa fb) := PE.to (pe_op ho ha hb) fun _ _ _ h => tD_2 h
theorem je_cmp {op : CmpOp} {f : D → D → Option (D × Bool)} {fa fb : FE} (ho : OpR X (compareOp op) (rD X.K f)) (ha : JE X a fa) (hb : JE X b fb) (hm : behindInMarks op b = false := by first | exact nobehind _ (by decide) (by decide) | rfl) : JE X (.Compare a [op] [b] pos) (f2 f fa fb) := PE.to (pe_cmpR ho ha hb hm) fun _ _ _ h => tD_2 h
theorem tDT_of {K : PySem.W.Frag} {f : FE} {σ : St} {H : Hp} {Q : Bool → Hp → Prop} (h : tDT K (tOf f) σ H Q) : tD K f σ H fun x H' => ∃ k, x = .bl k ∧ Q k H' := by
  obtain ⟨B, ρ, c, s, r, e, q⟩ := h
  unfold tOf at e
  split at e
  · rename_i c' b' ef
    cases e
    refine ⟨B, ρ, .bl c, b', s, r, ef, fun v H' N x i _ => ?_⟩
    cases i
    exact ⟨c, rfl, q H' x.hh⟩
  · cases e
theorem jt_cmp {op : CmpOp} {f : D → D → Option (D × Bool)} {fa fb : FE} (ho : OpR X (compareOp op) (rD X.K f)) (ha : JE X a fa) (hb : JE X b fb) (hm : behindInMarks op b = false := by first | exact nobehind _ (by decide) (by decide) | rfl) : JT X (.Compare a [op] [b] pos) (tOf (f2 f fa fb)) :=
  PT.to (pt_cmpR ho ha hb hm) fun _ _ _ h => tD_2 (tDT_of h)
theorem jt_val {f : FE} (h : JE X e f) (he : ∀ whole, isTrue e X.env whole = (do let v ← whole; standAt e.pos; holding [v] (truthy v)) := by intro _; rfl) : JT X e (tOf f) := PT.to (pt_val h he) fun _ _ _ q => tDT_of q
/-- a op1 b op2 c -/
@[simp] def fChain (f g : D → D → Option (D × Bool)) (fa fb fc : FE) : FE := fun ρ => (fa ρ).bind fun x => (fb ρ).bind fun y => match f x.1 y.1 with
  | some (.bl true, _) => (fc ρ).bind fun z => g y.1 z.1
  | some (.bl false, _) => some (.bl false, false)
  | _ => none
theorem tD_chain {K : PySem.W.Frag} {f g : D → D → Option (D × Bool)} {fa fb fc : FE} {σ : St} {H : Hp} {Q : VK} (h : tD K (fChain f g fa fb fc) σ H Q) : tChain (rD K f) (rD K g) (tD K fa) (tD K fb) (tD K fc) σ H Q := by
  obtain ⟨B, ρ, d, b, s, r, e, q⟩ := h
  obtain ⟨x, ex, e⟩ := Option.bind_eq_some_iff.mp e
  obtain ⟨y, ey, e⟩ := Option.bind_eq_some_iff.mp e
  refine ⟨B, ρ, x.1, x.2, s, r, ex, fun v H1 N1 x1 i1 _ => ⟨N1, ρ, y.1, y.2, x1.nh, r.mono x1.bn, ey, fun v2 H2 N2 x2 i2 _ => ?_⟩⟩
  split at e
  · rename_i b' ef
    obtain ⟨z, ez, e⟩ := Option.bind_eq_some_iff.mp e
    refine ⟨N2, x.1, y.1, .bl true, b', x2.nh, i1.mono x2.bn, i2, ef, fun v3 H3 N3 x3 i3 _ => ?_⟩
    cases i3
    refine ⟨true, rfl, ?_⟩
    rw [if_pos rfl]
    refine ⟨N3, ρ, z.1, z.2, x3.nh, r.mono (x1.bn.trans (x2.bn.trans x3.bn)), ez, fun v4 H4 N4 x4 i4 _ => ⟨N4, y.1, z.1, d, b, x4.nh, i2.mono (x3.bn.trans x4.bn), i4, e, ?_⟩⟩
    exact q.into ((x1.trans x2).trans (x3.trans x4))
  · rename_i b' ef
    cases e
    refine ⟨N2, x.1, y.1, .bl false, b', x2.nh, i1.mono x2.bn, i2, ef, fun v3 H3 N3 x3 i3 _ => ?_⟩
    cases i3
    refine ⟨false, rfl, ?_⟩
    rw [if_neg (by decide)]
    exact (q.into ((x1.trans x2).trans x3)).one x3.nh (.bl false)
  · cases e
theorem je_chain {op op' : CmpOp} {f g : D → D → Option (D × Bool)} {fa fb fc : FE} (ho : OpR X (compareOp op) (rD X.K f)) (ho' : OpR X (compareOp op') (rD X.K g)) (ha : JE X a fa) (hb : JE X b fb) (hc : JE X c fc)
    (hm : lastMarks [op, op'] [b, c] = false := by with_unfolding_all rfl) : JE X (.Compare a [op, op'] [b, c] pos) (fChain f g fa fb fc) := PE.to (pe_chain ho ho' ha hb hc hm) fun _ _ _ h => tD_chain h
/-! ### and, or, not -/
theorem tDT_and {K : PySem.W.Frag} {f g : FT} {σ : St} {H : Hp} {Q : Bool → Hp → Prop} (h : tDT K (tAndF f g) σ H Q) : tAnd (tDT K f) (tDT K g) σ H Q := by
  obtain ⟨B, ρ, c, s, r, e, q⟩ := h
  unfold tAndF at e
  cases ef : f ρ with
  | none => rw [ef] at e; cases e
  | some k =>
    rw [ef] at e
    refine ⟨B, ρ, k, s, r, ef, fun H1 h1 => ?_⟩
    cases k with
    | true => rw [if_pos rfl]; exact ⟨B, ρ, c, s.trans h1, r, e, fun H2 h2 => q H2 (h1.trans h2)⟩
    | false => rw [if_neg (by decide)]; cases e; exact q H1 h1
theorem tDT_or {K : PySem.W.Frag} {f g : FT} {σ : St} {H : Hp} {Q : Bool → Hp → Prop} (h : tDT K (tOrF f g) σ H Q) : tOr (tDT K f) (tDT K g) σ H Q := by
  obtain ⟨B, ρ, c, s, r, e, q⟩ := h
  unfold tOrF at e
  cases ef : f ρ with
  | none => rw [ef] at e; cases e
  | some k =>
    rw [ef] at e
    refine ⟨B, ρ, k, s, r, ef, fun H1 h1 => ?_⟩
    cases k with
    | false => rw [if_neg (by decide)]; exact ⟨B, ρ, c, s.trans h1, r, e, fun H2 h2 => q H2 (h1.trans h2)⟩
    | true => rw [if_pos rfl]; cases e; exact q H1 h1
theorem tDT_not {K : PySem.W.Frag} {f : FT} {σ : St} {H : Hp} {Q : Bool → Hp → Prop} (h : tDT K (tNotF f) σ H Q) : tNot (tDT K f) σ H Q := by
  obtain ⟨B, ρ, c, s, r, e, q⟩ := h
  obtain ⟨k, ek, e⟩ := Option.map_eq_some_iff.mp e
  subst e
  exact ⟨B, ρ, k, s, r, ek, fun H1 h1 => q H1 h1⟩
variable {rest : List Expr}
theorem jw_and1 {f : FT} (ha : JT X a f) : JW X (.BoolOp .And [a] pos) f := pw_and1 ha
theorem jw_or1 {f : FT} (ha : JT X a f) : JW X (.BoolOp .Or [a] pos) f := pw_or1 ha
theorem jw_and {f g : FT} (ha : JT X a f) (hb : JW X (.BoolOp .And (b :: rest) pos) g) : JW X (.BoolOp .And (a :: b :: rest) pos) (tAndF f g) := PW.to (pw_and ha hb) fun _ _ _ h => tDT_and h
theorem jw_or {f g : FT} (ha : JT X a f) (hb : JW X (.BoolOp .Or (b :: rest) pos) g) : JW X (.BoolOp .Or (a :: b :: rest) pos) (tOrF f g) := PW.to (pw_or ha hb) fun _ _ _ h => tDT_or h
theorem jt_w {f : FT} (h : JW X e f) : JT X e f := h.pt
theorem jt_not {f : FT} (ha : JT X a f) : JT X (.UnaryOp .Not a pos) (tNotF f) := PT.to (pt_not ha) fun _ _ _ h => tDT_not h
/-- as values (of truths) -/
@[simp] def fAnd (f g : FE) : FE := fun ρ => match f ρ with | some (.bl true, _) => g ρ | some (.bl false, _) => some (.bl false, false) | _ => none
@[simp] def fOr (f g : FE) : FE := fun ρ => match f ρ with | some (.bl true, _) => some (.bl true, false) | some (.bl false, _) => g ρ | _ => none
@[simp] def fNot (f : FE) : FE := fun ρ => match f ρ with | some (.bl c, _) => some (.bl (!c), false) | _ => none
theorem je_and {f g : FE} (ha : JE X a f) (hb : JE X (.BoolOp .And (b :: rest) pos) g) : JE X (.BoolOp .And (a :: b :: rest) pos) (fAnd f g) := PE.to (pe_and ha hb) fun σ H Q h => by
  obtain ⟨B, ρ, d, k, s, r, e, q⟩ := h
  unfold fAnd at e
  split at e
  · rename_i b' ef
    refine ⟨B, ρ, _, _, s, r, ef, fun v H1 N1 x1 i1 _ => ?_⟩
    cases i1
    refine ⟨true, rfl, ?_⟩
    rw [if_pos rfl]
    exact ⟨N1, ρ, d, k, x1.nh, r.mono x1.bn, e, q.into x1⟩
  · rename_i b' ef
    cases e
    refine ⟨B, ρ, _, _, s, r, ef, fun v H1 N1 x1 i1 _ => ?_⟩
    cases i1
    refine ⟨false, rfl, ?_⟩
    rw [if_neg (by decide)]
    exact (q.into x1).one x1.nh (.bl false)
  · cases e
theorem je_one {op : BoolOp} {f : FE} (h : JE X a f) : JE X (.BoolOp op [a] pos) f := pe_one h
/-! ### arguments, tuples, lists -/
variable {es : List Expr}
theorem ja_nil : JA X [] fNil := PA.to pa_nil fun _ _ _ h => tDA_nil h
theorem ja_cons {f : FE} {g : FA} (ha : JE X e f) (hr : JA X es g) (hs : starEach (e :: es) X.env = (false, eval e X.env) :: starEach es X.env := by rfl) : JA X (e :: es) (fCons f g) := PA.to (pa_cons ha hr hs) fun _ _ _ h => tDA_cons h
@[simp] def mkTup : List D → Option (D × Bool) := fun ds => if ds.length ≤ sizeLine then some (.tup ds, false) else none
@[simp] def mkLst : List D → Option (D × Bool) := fun ds => if ds.length ≤ sizeLine then some (.lst ds, true) else none
theorem je_tup {x1} {f : FA} (h : JA X es f) : JE X (.Tuple es x1 pos) (fA mkTup f) := PE.to (pe_tup h) fun σ H Q q => by
  obtain ⟨B, ρ, ds, s, r, e, k⟩ := tD_A q
  refine ⟨B, ρ, ds, s, r, e, fun vs H1 N1 x1 i1 => ?_⟩
  obtain ⟨B2, ds2, d, b, s2, i2, e2, k2⟩ := k vs H1 N1 x1 i1
  unfold mkTup at e2
  split at e2
  · rename_i hz
    cases e2
    refine ⟨by rw [i2.length]; exact hz, fun p hp => k2 _ _ (upd B2 p (.tup vs)) (.laid s2 hp) (.tup (SqT.of upd_same) (i2.mono (Ext.laid s2 hp).bn)) (by simp)⟩
  · cases e2
theorem je_lst {f : FA} (h : JA X es f) : JE X (.List es pos) (fA mkLst f) := PE.to (pe_lst h) fun σ H Q q => by
  obtain ⟨B, ρ, ds, s, r, e, k⟩ := tD_A q
  refine ⟨B, ρ, ds, s, r, e, fun vs H1 N1 x1 i1 => ?_⟩
  obtain ⟨B2, ds2, d, b, s2, i2, e2, k2⟩ := k vs H1 N1 x1 i1
  unfold mkLst at e2
  split at e2
  · rename_i hz
    cases e2
    refine ⟨by rw [i2.length]; exact hz, fun p hp => k2 _ _ (upd B2 p (.lst vs)) (.laid s2 hp) (.lst (SqL.of upd_same) (i2.mono (Ext.laid s2 hp).bn)) fun _ => ⟨p, vs, ds2, rfl, rfl, hp, upd_same, i2.mono (Ext.laid s2 hp).bn⟩⟩
  · cases e2
end
end DL

namespace DL
open PySem PySem.Spec PyProof.Rows L2
section
variable {X : Cx}
theorem opr_to {f : Value → Value → Sem Value} {r r' : R2} (h : OpR X f r) (k : ∀ x y H Q, r' x y H Q → r x y H Q) : OpR X f r' := fun pins s σ H x y v u Q I rx ry q => h pins s σ H x y v u Q I rx ry (k x y H Q q)
/-- two tables of one operation, one behind the other -/
def orD (f g : D → D → Option (D × Bool)) : D → D → Option (D × Bool) := fun x y => match f x y with | some r => some r | none => g x y
theorem opr_or {s : Value → Value → Sem Value} {f g : D → D → Option (D × Bool)} (h : OpR X s (rD X.K f)) (h' : OpR X s (rD X.K g)) : OpR X s (rD X.K (orD f g)) := by
  intro pins st σ H x y v u Q I rx ry q
  obtain ⟨B, dx, dy, d, b, sB, ix, iy, e, q⟩ := q
  unfold orD at e
  split at e
  · rename_i r ef
    cases e
    exact h pins st σ H x y v u Q I rx ry ⟨B, dx, dy, _, _, sB, ix, iy, ef, q⟩
  · exact h' pins st σ H x y v u Q I rx ry ⟨B, dx, dy, _, _, sB, ix, iy, e, q⟩
/-- an operation on ints -/
@[simp] def iop (C : Int → Int → Bool) (g : Int → Int → D) : D → D → Option (D × Bool)
  | .int i, .int j => if C i j = true then some (g i j, false) else none
  | _, _ => none
theorem opr_iop {s : Value → Value → Sem Value} {C : Int → Int → Prop} {C' : Int → Int → Bool} {g : Int → Int → V} {g' : Int → Int → D} (h : OpR X s (rI C g)) (hC : ∀ i j, C' i j = true → C i j) (hg : ∀ i j B, Is X.K B (g i j) (g' i j)) : OpR X s (rD X.K (iop C' g')) := by
  refine opr_to h fun x y H Q q => ?_
  obtain ⟨B, dx, dy, d, b, sB, ix, iy, e, q⟩ := q
  cases ix <;> cases iy <;> try (simp [iop] at e; done)
  rename_i i j
  simp only [iop] at e
  split at e
  · rename_i hc
    cases e
    exact ⟨i, j, rfl, rfl, hC i j hc, q.one sB (hg i j B)⟩
  · cases e
theorem opr_iop0 {s : Value → Value → Sem Value} {g : Int → Int → V} {g' : Int → Int → D} (h : OpR X s (rI0 g)) (hg : ∀ i j B, Is X.K B (g i j) (g' i j)) : OpR X s (rD X.K (iop (fun _ _ => true) g')) := by
  refine opr_to h fun x y H Q q => ?_
  obtain ⟨B, dx, dy, d, b, sB, ix, iy, e, q⟩ := q
  cases ix <;> cases iy <;> try (simp [iop] at e; done)
  rename_i i j
  simp only [iop, if_true] at e
  cases e
  exact ⟨i, j, rfl, rfl, q.one sB (hg i j B)⟩
abbrev iAdd : D → D → Option (D × Bool) := iop (fun _ _ => true) fun i j => .int (i + j)
abbrev iSub : D → D → Option (D × Bool) := iop (fun _ _ => true) fun i j => .int (i - j)
abbrev iMul : D → D → Option (D × Bool) := iop (fun i j => decide ((-18446744073709551616 < i ∧ i < 18446744073709551616) ∨ (-18446744073709551616 < j ∧ j < 18446744073709551616))) fun i j => .int (i * j)
abbrev iDiv : D → D → Option (D × Bool) := iop (fun _ j => decide (0 < j ∧ j < 1073741824)) fun i j => .int (i / j)
abbrev iMod : D → D → Option (D × Bool) := iop (fun _ j => decide (0 < j)) fun i j => .int (i % j)
abbrev iLt : D → D → Option (D × Bool) := iop (fun _ _ => true) fun i j => .bl (decide (i < j))
abbrev iLe : D → D → Option (D × Bool) := iop (fun _ _ => true) fun i j => .bl (decide (i ≤ j))
abbrev iGt : D → D → Option (D × Bool) := iop (fun _ _ => true) fun i j => .bl (decide (j < i))
theorem o_add : OpR X (binaryOp .Add) (rD X.K iAdd) := opr_iop0 op_add fun _ _ _ => .int _
theorem o_sub : OpR X (binaryOp .Sub) (rD X.K iSub) := opr_iop0 op_sub fun _ _ _ => .int _
theorem o_mul : OpR X (binaryOp .Mult) (rD X.K iMul) := opr_iop op_mul (fun i j h => by have h := of_decide_eq_true h; unfold CMul; omega) fun _ _ _ => .int _
theorem o_fdiv : OpR X (binaryOp .FloorDiv) (rD X.K iDiv) := opr_iop op_fdiv (fun i j h => by have h := of_decide_eq_true h; unfold CDiv; omega) fun _ _ _ => .int _
theorem o_mod : OpR X (binaryOp .Mod) (rD X.K iMod) := opr_iop op_mod (fun _ _ h => of_decide_eq_true h) fun _ _ _ => .int _
theorem o_lt : OpR X (compareOp .Lt) (rD X.K iLt) := opr_iop0 op_lt fun _ _ _ => .bl _
theorem o_le : OpR X (compareOp .LtE) (rD X.K iLe) := opr_iop0 op_le fun _ _ _ => .bl _
theorem o_gt : OpR X (compareOp .Gt) (rD X.K iGt) := opr_iop0 op_gt fun _ _ _ => .bl _
/-- texts -/
@[simp] def sop (C : Str → Str → Bool) (g : Str → Str → D) : D → D → Option (D × Bool)
  | .str i, .str j => if C i j = true then some (g i j, false) else none
  | _, _ => none
abbrev sAdd : D → D → Option (D × Bool) := sop (fun i j => decide (i.length + j.length ≤ sizeLine)) fun i j => .str (i ++ j)
abbrev sLe : D → D → Option (D × Bool) := sop (fun _ _ => true) fun i j => .bl (!decide (j.cps.toList < i.cps.toList))
theorem o_adds : OpR X (binaryOp .Add) (rD X.K sAdd) := by
  refine opr_to op_add_str fun x y H Q q => ?_
  obtain ⟨B, dx, dy, d, b, sB, ix, iy, e, q⟩ := q
  cases ix <;> cases iy <;> try (simp [sAdd, sop] at e; done)
  rename_i i j
  simp only [sAdd, sop] at e
  split at e
  · rename_i hc
    cases e
    exact ⟨i, j, rfl, rfl, of_decide_eq_true hc, q.one sB (.str _)⟩
  · cases e
theorem o_les : OpR X (compareOp .LtE) (rD X.K sLe) := by
  intro pins s σ H x y v u Q I rx ry q
  obtain ⟨B, dx, dy, d, b, sB, ix, iy, e, q⟩ := q
  cases ix <;> cases iy <;> try (simp [sLe, sop] at e; done)
  rename_i i j
  simp only [sLe, sop, if_true] at e
  cases e
  obtain ⟨t, rfl⟩ := rx
  obtain ⟨t', rfl⟩ := ry
  exact PySem.P.le_str ⟨.bl _, H, I, rfl, q.one sB (.bl _)⟩

end
end DL

namespace DL
open PySem PySem.Spec PyProof.Rows L2
section
variable {X : Cx} {a b c e : Expr} {pos : Pos} {st : Stmt} {rest : List Stmt}
theorem js_nil : JSs X [] gNext := PSs.to pss_nil fun _ _ _ h => tDS_next h
theorem js_cons {g h : FS} (h1 : JS X st g) (h2 : JSs X rest h) : JSs X (st :: rest) (gSeq g h) := PSs.to (pss_cons h1 h2) fun _ _ _ q => tDS_seq q
theorem js_one {g : FS} (h1 : JS X st g) : JSs X [st] g := pss_one h1
theorem js_if {c : Expr} {a b : List Stmt} {fc : FT} {g h : FS} (hc : JT X c fc) (ha : JSs X a g) (hb : JSs X b h) : JS X (.If c a b pos) (gIf fc g h) := PS.to (ps_if hc ha hb) fun _ _ _ q => tDS_if q
theorem js_ret {f : FE} (he : JE X e f) : JS X (.Return (some e) pos) (gRet f) := PS.to (ps_ret he) fun _ _ _ q => tDS_ret q
theorem js_retV (i : Nat) {x : Str} {p : Pos} (hN : X.N[i]? = some x := by rfl) (hv : Vis X.env.scope x := by first | exact Or.inl rfl | exact Or.inr (Or.inl rfl) | exact Or.inr (Or.inr rfl)) (hd : (x == ("__debug__" : Str)) = false := by decide)
    (hcd : (x == ("__classdict__" : Str)) = false := by decide) : JS X (.Return (some (.Name x p)) pos) (gRetV i) := PS.to (ps_ret (pe_var hN hv hd hcd)) fun _ _ _ q => tDS_retV q
theorem js_set {i : Nat} {x : Str} {p : Pos} {f : FE} (hN : X.N.Nodup) (he : JE X e f) (hi : X.N[i]? = some x := by rfl) (hx : Loc X.env.scope x := by first | exact Or.inl rfl | exact Or.inr rfl) (hs : swapsWith e (some (.Name x p)) pos.line X.env = pure false := by rfl)
    (hf : X.fn x = true ∨ X.env.scope.names.lookup x = some .local := by first | exact .inl rfl | exact .inr rfl) : JS X (.Assign [.Name x p] e pos) (gSet i f) := PS.to (ps_set hN hi hx he hs hf) fun _ _ _ q => tDS_set q
theorem js_while {c : Expr} {body : List Stmt} {fc : FT} {g : FS} (n : Nat) (hp : PassesOwn (model X.prog X.w) X.A X.env X.xe) (hc : JT X c fc) (hb : JSs X body g) : JS X (.While c body [] pos) (whileF fc g n) := PS.to (ps_while hp hc hb) fun _ _ _ q => tDS_while q
theorem js_for {tg iter : Expr} {body : List Stmt} {fi : FA} {tgF : FG} {t : TG} {g : FS} (hp : PassesOwn (model X.prog X.w) X.A X.env X.xe) (hc : X.calm = true) (hi : JI X tg iter fi) (hg : PG X tg t) (ht : tDG X.K tgF t) (hb : JSs X body g)
    (hs : ∀ x, foldedSetIterable iter X.env x = pure x := by intro _; rfl) : JS X (.For tg iter body [] pos) (gFor fi tgF g) := PS.to (ps_for hp hc hi hg hb hs) fun _ _ _ q => tDS_for ht q
theorem js_forR {tg iter : Expr} {body : List Stmt} {fi : FA} {tgF : FG} {t : TG} {g : FS} (hp : PassesOwn (model X.prog X.w) X.A X.env X.xe) (hc : X.calm = true) (hi : PI X tg iter (tDR X.K fi)) (hg : PG X tg t) (ht : tDG X.K tgF t) (hb : JSs X body g)
    (hs : ∀ x, foldedSetIterable iter X.env x = pure x := by intro _; rfl) : JS X (.For tg iter body [] pos) (gForR fi tgF g) := PS.to (ps_for hp hc hi hg hb hs) fun _ _ _ q => tDS_forR ht q
theorem js_app {i : Nat} {x : Str} {p apos cpos : Pos} {f : FE} (he : JE X e f) (hN : X.N[i]? = some x := by rfl) (hv : Vis X.env.scope x := by first | exact Or.inl rfl | exact Or.inr (Or.inl rfl) | exact Or.inr (Or.inr rfl)) (hd : (x == ("__debug__" : Str)) = false := by decide)
    (hcd : (x == ("__classdict__" : Str)) = false := by decide)
    (hbase : attributeBase (.Name x p) "append" X.env (eval (.Name x p) X.env) = eval (.Name x p) X.env := by rfl)
    (hfew : ((backTo cpos (starEach [e] X.env)).all (fun x => !x.1) && (backToKw cpos (keywordEach [] X.env)).all (fun x => x.1.isSome)
      && decide ([e].length + ([] : List Keyword).length + (if ([] : List Keyword).isEmpty then 0 else 1) < 30)) = true := by rfl)
    (hline : (apos.endLine == cpos.line) = true := by rfl) (hs : starEach [e] X.env = [(false, eval e X.env)] := by rfl) (hsw : swapsWith (.Call (.Attribute (.Name x p) "append" apos) [e] [] cpos) none pos.line X.env = pure false := by rfl) :
    JS X (.Expr (.Call (.Attribute (.Name x p) "append" apos) [e] [] cpos) pos) (gApp i f) := by
  refine PS.to (ps_expr (pe_bm PySem.F.plainAttrs_list PySem.F.slot_list_append PySem.F.type_list_append mt_append (pe_var hN hv hd hcd) (pa_cons he pa_nil hs) hbase hfew hline hs rfl) hsw) fun E σ H q => ?_
  obtain ⟨a, us, h1, h2, k⟩ := tDS_app q
  exact ⟨_, h1, .inl ⟨rfl, us, SqL.of h2⟩, k⟩
end

/-! ### a def of the text, by values -/
@[simp] def bodyF (g : FS) (n k : Nat) : List D → Option (D × Bool) := fun ds => if ds.length = n then
  match g (ds.map (fun d => some (d, false)) ++ List.replicate k none) with
  | some (.rt d b) => some (d, b)
  | some (.nx _) => some (.non, false)
  | _ => none
  else none
def spD (K : PySem.W.Frag) (f : List D → Option (D × Bool)) : Sp := fun vs H Q _ => ∃ (B : Hp) (ds : List D) (d : D) (b : Bool), (Same B H ∧ Tb K B) ∧ IsL K B vs ds ∧ f ds = some (d, b) ∧ Fin K B H d b Q
theorem start_ok {K : PySem.W.Frag} {B H : Hp} {vs : List V} {ds : List D} {N : List Str} (sB : Same B H) (tb : Tb K B) (i : IsL K B vs ds) : StN K B H B H (L2.start N vs) (ds.map (fun d => some (d, false)) ++ List.replicate (N.length - vs.length) none) := by
  have nf : ∀ (j : Nat) (d : D) (b : Bool), (ds.map (fun d => some (d, false)) ++ List.replicate (N.length - vs.length) none : Env)[j]? = some (some (d, b)) → b = false ∧ ds[j]? = some d := fun j d b e => by
    by_cases hj : j < ds.length
    · rw [List.getElem?_append_left (by simpa using hj), List.getElem?_map] at e
      obtain ⟨d', h1, h2⟩ := Option.map_eq_some_iff.mp e
      cases h2
      exact ⟨rfl, h1⟩
    · rw [List.getElem?_append_right (by simpa using Nat.not_lt.mp hj), List.getElem?_replicate] at e
      split at e <;> cases e
  have no : ∀ a, ¬ own (L2.start N vs) (ds.map (fun d => some (d, false)) ++ List.replicate (N.length - vs.length) none) a := fun a ⟨j, d, h, _⟩ => by
    obtain ⟨z, _⟩ := nf j d true h; cases z
  refine ⟨sB, tb, .refl sB, ?_, fun j d e => ?_, fun j d e => ?_, fun j k a d e h => ?_⟩
  · unfold L2.start; rw [List.length_append, List.length_append, List.length_map, List.length_map, List.length_replicate, List.length_replicate, i.length]
  · obtain ⟨_, e1⟩ := nf j d false e
    obtain ⟨v, h1, h2⟩ := i.get e1
    refine ⟨v, ?_, h2.mono fun a o e => by rw [cut_of (no a)]; exact e⟩
    unfold L2.start
    have hj : j < vs.length := (List.getElem?_eq_some_iff.mp h1).1
    rw [List.getElem?_append_left (by simpa using hj), List.getElem?_map, h1] <;> rfl
  · obtain ⟨z, _⟩ := nf j d true e; cases z
  · obtain ⟨z, _⟩ := nf j d true h; cases z
section
variable {P : Program} {w : World} {K : PySem.W.Frag} {mg : Str → Option Value} {base : Heap}
theorem fn_D {x qual : Str} {st : Stmt} {f : Addr} {fd : FuncData} {N ps : List Str} {k : Nat} {g : FS} (F : Fun K x qual st f fd) (S : FnScope N ps (defScope st))
    (hb : ∀ (cdv : Value) (A : Around) (outer : List PySem.Env) (s : Shared) (H : Hp) (E : XK), Room k (A.deeper (envOfC qual (defScope st) s.heap.objs.size f cdv)) → JSs (cxOf CX0 P w K mg base N qual (defScope st) f cdv A outer s H E).nox (defBody st) g) :
    FnOk P w K mg base CX0 (k + 1) f fd ps (spD K (bodyF g ps.length (N.length - ps.length))) := by
  have len : ∀ vs H Q E, spD K (bodyF g ps.length (N.length - ps.length)) vs H Q E → vs.length = ps.length := fun vs H Q E h => by
    obtain ⟨B, ds, d, b, sB, i, e, q⟩ := h
    unfold bodyF at e
    split at e
    · rename_i hl; rw [i.length]; exact hl
    · cases e
  refine F.ok S len fun cdv A outer s H vs Q E hr h => ⟨_, hb cdv A outer s H E hr, ?_⟩
  have hlen := len vs H Q E h
  obtain ⟨B, ds, d, b, sB, i, e, q⟩ := h
  unfold bodyF at e
  rw [if_pos (by rw [← i.length]; exact hlen)] at e
  have s0 := start_ok (N := N) sB.1 sB.2 i
  rw [hlen] at s0
  split at e
  · rename_i d' b' eg
    cases e
    exact ⟨B, H, _, _, ⟨B, s0⟩, eg, fun v H' N' x' i' f' => q v H' N' x' i' f'⟩
  · rename_i ρ' eg
    cases e
    exact ⟨B, H, _, _, ⟨B, s0⟩, eg, fun σ' H' ⟨N', s'⟩ => q .non H' N' s'.ext .non (by simp)⟩
  · cases e
/-- a def that may be called -/
structure Fn (P : Program) (w : World) (K : PySem.W.Frag) (mg : Str → Option Value) (base : Heap) (k : Nat) (x : Str) (f : List D → Option (D × Bool)) : Prop where
  ex : ∃ (ad : Addr) (fd : FuncData) (ps : List Str), FnOk P w K mg base CX0 k ad fd ps (spD K f) ∧ mg x = some (.ref ad) ∧ PySem.W.keepIn K (.ref ad) = true ∧ Binds K fd ps []
theorem Fn.eq {k : Nat} {x : Str} {f f' : List D → Option (D × Bool)} (F : Fn P w K mg base k x f) (h : ∀ ds r, f' ds = some r → f ds = some r) : Fn P w K mg base k x f' := by
  obtain ⟨ad, fd, ps, F1, h2⟩ := F.ex
  exact ⟨ad, fd, ps, F1.imp fun vs H Q E ⟨B, ds, d, b, sB, i, e, q⟩ => ⟨B, ds, d, b, sB, i, h _ _ e, q⟩, h2⟩
theorem Fn.mono {j k : Nat} {x : Str} {f : List D → Option (D × Bool)} (F : Fn P w K mg base j x f) (h : j ≤ k) : Fn P w K mg base k x f := by
  obtain ⟨ad, fd, ps, F1, h2⟩ := F.ex
  exact ⟨ad, fd, ps, F1.mono h, h2⟩
end
theorem je_call {X : Cx} {k : Nat} {x : Str} {f : List D → Option (D × Bool)} {fa : FA} {e : Expr} {es : List Expr} {p pos : Pos} (F : Fn X.prog X.w X.K X.mg X.base k x f) (hr : Room k X.A) (ha : JA X (e :: es) fa) (hg : Gl X x := by rfl)
    (hdb : (x == ("__debug__" : Str)) = false := by decide) (he : starEach (e :: es) X.env = (false, eval e X.env) :: starEach es X.env := by rfl) (hpl : (backTo pos (starEach es X.env)).any (·.1) = false := by rfl) :
    JE X (.Call (.Name x p) (e :: es) [] pos) (fA f fa) := by
  obtain ⟨ad, fd, ps, F1, hm, hk, hb⟩ := F.ex
  refine PE.to (pe_call F1 hr hg hm hk hb .nil pass0 ha hdb he hpl) fun σ H Q q => ?_
  obtain ⟨B, ρ, d, b, s, r, e, q⟩ := q
  obtain ⟨ds, ex, e⟩ := Option.bind_eq_some_iff.mp e
  exact ⟨B, ρ, ds, s, r, ex, fun vs H1 N1 x1 i1 => by
    show spD X.K f (vs ++ []) H1 Q _
    rw [List.append_nil]
    exact ⟨N1, ds, d, b, ⟨x1.nh, r.tb.mono x1.bn⟩, i1, e, q.into x1⟩⟩
end DL

namespace DL
open PySem PySem.Spec PyProof.Rows L2
/-! ### == and != of any two values -/
mutual
def eqD : D → D → Bool
  | .non, .non => true
  | .bl a, .bl b => a == b
  | .bl a, .int b => decide ((if a then 1 else 0) = b)
  | .int a, .bl b => decide (a = (if b then 1 else 0))
  | .int a, .int b => decide (a = b)
  | .str a, .str b => decide (a = b)
  | .tup xs, .tup ys => eqDs xs ys
  | .lst xs, .lst ys => eqDs xs ys
  | _, _ => false
def eqDs : List D → List D → Bool
  | [], [] => true
  | x :: xs, y :: ys => eqD x y && eqDs xs ys
  | _, _ => false
end
@[simp] theorem eqD_non_non : eqD .non .non = true := by simp only [eqD]
@[simp] theorem eqD_non_bl (b : Bool) : eqD .non (.bl b) = false := by simp only [eqD]
@[simp] theorem eqD_non_int (b : Int) : eqD .non (.int b) = false := by simp only [eqD]
@[simp] theorem eqD_non_str (b : Str) : eqD .non (.str b) = false := by simp only [eqD]
@[simp] theorem eqD_non_tup (b : List D) : eqD .non (.tup b) = false := by simp only [eqD]
@[simp] theorem eqD_non_lst (b : List D) : eqD .non (.lst b) = false := by simp only [eqD]
@[simp] theorem eqD_bl_non (a : Bool) : eqD (.bl a) .non = false := by simp only [eqD]
@[simp] theorem eqD_bl_bl (a : Bool) (b : Bool) : eqD (.bl a) (.bl b) = (a == b) := by simp only [eqD]
@[simp] theorem eqD_bl_int (a : Bool) (b : Int) : eqD (.bl a) (.int b) = decide ((if a then 1 else 0) = b) := by simp only [eqD]
@[simp] theorem eqD_bl_str (a : Bool) (b : Str) : eqD (.bl a) (.str b) = false := by simp only [eqD]
@[simp] theorem eqD_bl_tup (a : Bool) (b : List D) : eqD (.bl a) (.tup b) = false := by simp only [eqD]
@[simp] theorem eqD_bl_lst (a : Bool) (b : List D) : eqD (.bl a) (.lst b) = false := by simp only [eqD]
@[simp] theorem eqD_int_non (a : Int) : eqD (.int a) .non = false := by simp only [eqD]
@[simp] theorem eqD_int_bl (a : Int) (b : Bool) : eqD (.int a) (.bl b) = decide (a = (if b then 1 else 0)) := by simp only [eqD]
@[simp] theorem eqD_int_int (a : Int) (b : Int) : eqD (.int a) (.int b) = decide (a = b) := by simp only [eqD]
@[simp] theorem eqD_int_str (a : Int) (b : Str) : eqD (.int a) (.str b) = false := by simp only [eqD]
@[simp] theorem eqD_int_tup (a : Int) (b : List D) : eqD (.int a) (.tup b) = false := by simp only [eqD]
@[simp] theorem eqD_int_lst (a : Int) (b : List D) : eqD (.int a) (.lst b) = false := by simp only [eqD]
@[simp] theorem eqD_str_non (a : Str) : eqD (.str a) .non = false := by simp only [eqD]
@[simp] theorem eqD_str_bl (a : Str) (b : Bool) : eqD (.str a) (.bl b) = false := by simp only [eqD]
@[simp] theorem eqD_str_int (a : Str) (b : Int) : eqD (.str a) (.int b) = false := by simp only [eqD]
@[simp] theorem eqD_str_str (a : Str) (b : Str) : eqD (.str a) (.str b) = decide (a = b) := by simp only [eqD]
@[simp] theorem eqD_str_tup (a : Str) (b : List D) : eqD (.str a) (.tup b) = false := by simp only [eqD]
@[simp] theorem eqD_str_lst (a : Str) (b : List D) : eqD (.str a) (.lst b) = false := by simp only [eqD]
@[simp] theorem eqD_tup_non (a : List D) : eqD (.tup a) .non = false := by simp only [eqD]
@[simp] theorem eqD_tup_bl (a : List D) (b : Bool) : eqD (.tup a) (.bl b) = false := by simp only [eqD]
@[simp] theorem eqD_tup_int (a : List D) (b : Int) : eqD (.tup a) (.int b) = false := by simp only [eqD]
@[simp] theorem eqD_tup_str (a : List D) (b : Str) : eqD (.tup a) (.str b) = false := by simp only [eqD]
@[simp] theorem eqD_tup_tup (a : List D) (b : List D) : eqD (.tup a) (.tup b) = eqDs a b := by simp only [eqD]
@[simp] theorem eqD_tup_lst (a : List D) (b : List D) : eqD (.tup a) (.lst b) = false := by simp only [eqD]
@[simp] theorem eqD_lst_non (a : List D) : eqD (.lst a) .non = false := by simp only [eqD]
@[simp] theorem eqD_lst_bl (a : List D) (b : Bool) : eqD (.lst a) (.bl b) = false := by simp only [eqD]
@[simp] theorem eqD_lst_int (a : List D) (b : Int) : eqD (.lst a) (.int b) = false := by simp only [eqD]
@[simp] theorem eqD_lst_str (a : List D) (b : Str) : eqD (.lst a) (.str b) = false := by simp only [eqD]
@[simp] theorem eqD_lst_tup (a : List D) (b : List D) : eqD (.lst a) (.tup b) = false := by simp only [eqD]
@[simp] theorem eqD_lst_lst (a : List D) (b : List D) : eqD (.lst a) (.lst b) = eqDs a b := by simp only [eqD]
@[simp] theorem eqDs_nil : eqDs [] [] = true := by rw [eqDs]
@[simp] theorem eqDs_cons (x y : D) (xs ys : List D) : eqDs (x :: xs) (y :: ys) = (eqD x y && eqDs xs ys) := by rw [eqDs]
@[simp] theorem eqDs_nc (y : D) (ys : List D) : eqDs [] (y :: ys) = false := by simp only [eqDs]
@[simp] theorem eqDs_cn (x : D) (xs : List D) : eqDs (x :: xs) [] = false := by simp only [eqDs]
/-- no types within, and not too deep -/
def plainN : Nat → D → Bool
  | _, .non => true
  | _, .bl _ => true
  | _, .int _ => true
  | _, .str _ => true
  | _, .ty _ => false
  | 0, .tup _ => false
  | 0, .lst _ => false
  | n + 1, .tup ds => ds.all (plainN n)
  | n + 1, .lst ds => ds.all (plainN n)
@[simp] theorem plainN_non (n : Nat) : plainN n .non = true := by cases n <;> simp only [plainN]
@[simp] theorem plainN_bl (n : Nat) (a : Bool) : plainN n (.bl a) = true := by cases n <;> simp only [plainN]
@[simp] theorem plainN_int (n : Nat) (a : Int) : plainN n (.int a) = true := by cases n <;> simp only [plainN]
@[simp] theorem plainN_str (n : Nat) (a : Str) : plainN n (.str a) = true := by cases n <;> simp only [plainN]
@[simp] theorem plainN_tup (n : Nat) (ds : List D) : plainN (n + 1) (.tup ds) = ds.all (plainN n) := by simp only [plainN]
@[simp] theorem plainN_lst (n : Nat) (ds : List D) : plainN (n + 1) (.lst ds) = ds.all (plainN n) := by simp only [plainN]
theorem eqDs_len : ∀ {xs ys : List D}, eqDs xs ys = true → xs.length = ys.length
  | [], [], _ => rfl
  | x :: xs, y :: ys, h => by
    simp only [eqDs, Bool.and_eq_true] at h
    rw [List.length_cons, List.length_cons, eqDs_len h.2]
  | [], _ :: _, h => by simp [eqDs] at h
  | _ :: _, [], h => by simp [eqDs] at h
theorem eqDs_ne {xs ys : List D} (h : xs.length ≠ ys.length) : eqDs xs ys = false := by
  cases e : eqDs xs ys with
  | false => rfl
  | true => exact absurd (eqDs_len e) h
theorem eqDs_range (f : Nat → Bool) : ∀ {xs ys : List D}, xs.length = ys.length → (∀ (j : Nat) x y, xs[j]? = some x → ys[j]? = some y → f j = eqD x y) → (List.range xs.length).all f = eqDs xs ys
  | [], [], _, _ => by simp [eqDs]
  | x :: xs, y :: ys, hl, h => by
    have e := eqDs_range (fun j => f (j + 1)) (xs := xs) (ys := ys) (by simpa using hl) fun j a b h1 h2 => h (j + 1) a b (by simpa using h1) (by simpa using h2)
    rw [List.length_cons, List.range_succ_eq_map, List.all_cons, List.all_map, eqDs, ← h 0 x y rfl rfl, ← e]
    rfl
  | [], _ :: _, hl, _ => by simp at hl
  | _ :: _, [], hl, _ => by simp at hl
section
variable {X : Cx} {pins : List (Addr × Obj)} {σ : St} {H : Hp} {s : Shared}
theorem no_both (I : Inv X pins σ H s) {a : Addr} {vs ws : List V} (h1 : SqT X.K H a vs) (h2 : SqL X.K H a ws) : False := by
  obtain ⟨its, _, ⟨o, e, c, _⟩, _⟩ := I.tuple h1
  obtain ⟨its', _, ⟨o', n', e', c', _⟩, _⟩ := I.list h2
  rw [e] at e'; cases e'
  rw [c] at c'
  injection c' with z
  exact absurd z (by decide)
/-- one value, read twice -/
theorem eq_same (I : Inv X pins σ H s) : ∀ (n : Nat) {v : V} {d d' : D}, Is X.K H v d → Is X.K H v d' → plainN n d = true → eqD d d' = true := by
  have lists : ∀ {p : D → Bool} (ih : ∀ {v : V} {d d' : D}, Is X.K H v d → Is X.K H v d' → p d = true → eqD d d' = true) {vs : List V} {ds ds' : List D}, IsL X.K H vs ds → IsL X.K H vs ds' → ds.all p = true → eqDs ds ds' = true := by
    intro p ih vs
    induction vs with
    | nil => intro ds ds' h h' _; cases h; cases h'; simp [eqDs]
    | cons v vs ihv =>
      intro ds ds' h h' hp
      cases h with
      | cons h1 h2 =>
        cases h' with
        | cons h3 h4 =>
          rw [List.all_cons, Bool.and_eq_true] at hp
          rw [eqDs, ih h1 h3 hp.1, ihv h2 h4 hp.2]; rfl
  intro n
  induction n with
  | zero =>
    intro v d d' h h' hp
    cases h <;> cases h' <;> first | (simp [plainN] at hp; done) | simp [eqD]
  | succ n ih =>
    intro v d d' h h' hp
    cases h with
    | tup h1 h2 =>
      cases h' with
      | tup h3 h4 =>
        rw [I.tuple_inj h3 h1] at h4
        rw [eqD]; exact lists ih h2 h4 (by simpa [plainN] using hp)
      | lst h3 h4 => exact (no_both I h1 h3).elim
    | lst h1 h2 =>
      cases h' with
      | lst h3 h4 =>
        rw [I.list_inj h3 h1] at h4
        rw [eqD]; exact lists ih h2 h4 (by simpa [plainN] using hp)
      | tup h3 h4 => exact (no_both I h3 h1).elim
    | ty => simp [plainN] at hp
    | _ => cases h' <;> simp [eqD]
theorem at_of {α : Type} {p : α → Bool} {l : List α} {j : Nat} {x : α} (h : l.all p = true) (e : l[j]? = some x) : p x = true := List.all_eq_true.mp h x (List.mem_of_getElem? e)
/-- items of two sequences, one by one -/
theorem items_eq {A : Around} {p : D → Bool} (ih : ∀ {v1 v2 : V} {d1 d2 : D} {u1 u2 : Value}, p d1 = true → p d2 = true → Is X.K H v1 d1 → Is X.K H v2 d2 → RelV v1 u1 → RelV v2 u2 → SeqAt.EqAt A s u1 u2 (eqD d1 d2))
    {vs ws : List V} {ds es : List D} {its jts : List Value} (i1 : IsL X.K H vs ds) (i2 : IsL X.K H ws es) (r1 : Vals vs its) (r2 : Vals ws jts) (p1 : ds.all p = true) (p2 : es.all p = true) :
    ∀ j (h1 : j < its.toArray.size) (h2 : j < jts.toArray.size), SeqAt.EqAt A s its.toArray[j] jts.toArray[j] (eqD (ds.getD j .non) (es.getD j .non)) := by
  intro j h1 h2
  rw [List.size_toArray] at h1 h2
  have l1 := r1.length; have l2 := r2.length; have l3 := i1.length; have l4 := i2.length
  have hv : j < vs.length := by omega
  have hw : j < ws.length := by omega
  have hd : j < ds.length := by omega
  have he : j < es.length := by omega
  obtain ⟨u, e1, q1⟩ := r1.get (i := j) (x := vs[j]) (by simp [hv])
  obtain ⟨u', e2, q2⟩ := r2.get (i := j) (x := ws[j]) (by simp [hw])
  obtain ⟨v, e3, q3⟩ := i1.get (i := j) (d := ds[j]) (by simp [hd])
  obtain ⟨w, e4, q4⟩ := i2.get (i := j) (d := es[j]) (by simp [he])
  have a1 : its.toArray[j] = u := by have z := (List.getElem?_eq_some_iff.mp e1).2; simpa using z
  have a2 : jts.toArray[j] = u' := by have z := (List.getElem?_eq_some_iff.mp e2).2; simpa using z
  have a3 : vs[j] = v := by simpa [hv] using e3
  have a4 : ws[j] = w := by simpa [hw] using e4
  have a5 : ds.getD j .non = ds[j] := by simp [List.getD, hd]
  have a6 : es.getD j .non = es[j] := by simp [List.getD, he]
  rw [a1, a2, a5, a6]
  exact ih (at_of p1 (j := j) (by simp [hd])) (at_of p2 (j := j) (by simp [he])) (a3 ▸ q3) (a4 ▸ q4) q1 q2
theorem getD_eq {xs ys : List D} (j : Nat) (x y : D) (h1 : xs[j]? = some x) (h2 : ys[j]? = some y) : eqD (xs.getD j .non) (ys.getD j .non) = eqD x y := by
  simp [List.getD, h1, h2]
abbrev Tri (A : Around) (s : Shared) (u1 u2 : Value) (b : Bool) : Prop := SeqAt.RcAt A s u1 u2 b ∧ SeqAt.EqAt A s u1 u2 b ∧ SeqAt.RcNeAt A s u1 u2 (!b)
theorem tri_flat {A : Around} {v1 v2 : V} {d1 d2 : D} {u1 u2 : Value} (p1 : plainN 0 d1 = true) (p2 : plainN 0 d2 = true) (i1 : Is X.K H v1 d1) (i2 : Is X.K H v2 d2) (r1 : RelV v1 u1) (r2 : RelV v2 u2) : Tri A s u1 u2 (eqD d1 d2) := by
  cases i1 with
  | non =>
    cases r1
    cases i2 with
    | non =>
      cases r2
      rw [eqD_non_non]
      exact ⟨SeqAt.RcAt.none_none, SeqAt.EqAt.same _, SeqAt.RcNeAt.none_none⟩
    | bl b =>
      cases r2
      rw [eqD_non_bl]
      exact ⟨SeqAt.RcAt.none_bool _, SeqAt.EqAt.none_bool _, SeqAt.RcNeAt.none_bool _⟩
    | int b =>
      obtain ⟨t', rfl⟩ := r2
      rw [eqD_non_int]
      exact ⟨SeqAt.RcAt.none_int _ _, SeqAt.EqAt.none_int _ _, SeqAt.RcNeAt.none_int _ _⟩
    | str b =>
      obtain ⟨t', rfl⟩ := r2
      rw [eqD_non_str]
      exact ⟨SeqAt.RcAt.none_str _ _, SeqAt.EqAt.none_str _ _, SeqAt.RcNeAt.none_str _ _⟩
    | ty => simp [plainN] at p2
    | tup => simp [plainN] at p2
    | lst => simp [plainN] at p2
  | bl a =>
    cases r1
    cases i2 with
    | non =>
      cases r2
      rw [eqD_bl_non]
      exact ⟨SeqAt.RcAt.bool_none _, SeqAt.EqAt.bool_none _, SeqAt.RcNeAt.bool_none _⟩
    | bl b =>
      cases r2
      rw [eqD_bl_bl]
      exact ⟨SeqAt.RcAt.bool_bool _ _, SeqAt.EqAt.bool_bool _ _, SeqAt.RcNeAt.bool_bool _ _⟩
    | int b =>
      obtain ⟨t', rfl⟩ := r2
      rw [eqD_bl_int, ← Bool.beq_eq_decide_eq]
      exact ⟨SeqAt.RcAt.bool_int _ _ _, SeqAt.EqAt.bool_int _ _ _, SeqAt.RcNeAt.bool_int _ _ _⟩
    | str b =>
      obtain ⟨t', rfl⟩ := r2
      rw [eqD_bl_str]
      exact ⟨SeqAt.RcAt.bool_str _ _ _, SeqAt.EqAt.bool_str _ _ _, SeqAt.RcNeAt.bool_str _ _ _⟩
    | ty => simp [plainN] at p2
    | tup => simp [plainN] at p2
    | lst => simp [plainN] at p2
  | int a =>
    obtain ⟨t, rfl⟩ := r1
    cases i2 with
    | non =>
      cases r2
      rw [eqD_int_non]
      exact ⟨SeqAt.RcAt.int_none _ _, SeqAt.EqAt.int_none _ _, SeqAt.RcNeAt.int_none _ _⟩
    | bl b =>
      cases r2
      rw [eqD_int_bl, ← Bool.beq_eq_decide_eq]
      exact ⟨SeqAt.RcAt.int_bool _ _ _, SeqAt.EqAt.int_bool _ _ _, SeqAt.RcNeAt.int_bool _ _ _⟩
    | int b =>
      obtain ⟨t', rfl⟩ := r2
      rw [eqD_int_int, ← Bool.beq_eq_decide_eq]
      exact ⟨SeqAt.RcAt.int_int _ _ _ _, SeqAt.EqAt.int_int _ _ _ _, SeqAt.RcNeAt.int_int _ _ _ _⟩
    | str b =>
      obtain ⟨t', rfl⟩ := r2
      rw [eqD_int_str]
      exact ⟨SeqAt.RcAt.int_str _ _ _ _, SeqAt.EqAt.int_str _ _ _ _, SeqAt.RcNeAt.int_str _ _ _ _⟩
    | ty => simp [plainN] at p2
    | tup => simp [plainN] at p2
    | lst => simp [plainN] at p2
  | str a =>
    obtain ⟨t, rfl⟩ := r1
    cases i2 with
    | non =>
      cases r2
      rw [eqD_str_non]
      exact ⟨SeqAt.RcAt.str_none _ _, SeqAt.EqAt.str_none _ _, SeqAt.RcNeAt.str_none _ _⟩
    | bl b =>
      cases r2
      rw [eqD_str_bl]
      exact ⟨SeqAt.RcAt.str_bool _ _ _, SeqAt.EqAt.str_bool _ _ _, SeqAt.RcNeAt.str_bool _ _ _⟩
    | int b =>
      obtain ⟨t', rfl⟩ := r2
      rw [eqD_str_int]
      exact ⟨SeqAt.RcAt.str_int _ _ _ _, SeqAt.EqAt.str_int _ _ _ _, SeqAt.RcNeAt.str_int _ _ _ _⟩
    | str b =>
      obtain ⟨t', rfl⟩ := r2
      rw [eqD_str_str, ← Bool.beq_eq_decide_eq]
      exact ⟨SeqAt.RcAt.str_str _ _ _ _, SeqAt.EqAt.str_str _ _ _ _, SeqAt.RcNeAt.str_str _ _ _ _⟩
    | ty => simp [plainN] at p2
    | tup => simp [plainN] at p2
    | lst => simp [plainN] at p2
  | ty => simp [plainN] at p1
  | tup => simp [plainN] at p1
  | lst => simp [plainN] at p1
theorem tri_D (I : Inv X pins σ H s) : ∀ (n : Nat) {A : Around} {v1 v2 : V} {d1 d2 : D} {u1 u2 : Value}, A.units + n < cLine → plainN n d1 = true → plainN n d2 = true → Is X.K H v1 d1 → Is X.K H v2 d2 → RelV v1 u1 → RelV v2 u2 → Tri A s u1 u2 (eqD d1 d2) := by
  intro n
  induction n with
  | zero => exact fun _ p1 p2 i1 i2 r1 r2 => tri_flat p1 p2 i1 i2 r1 r2
  | succ n ih =>
    intro A v1 v2 d1 d2 u1 u2 hu p1 p2 i1 i2 r1 r2
    have hu0 : A.units < cLine := by omega
    have ih' : ∀ {v1 v2 : V} {d1 d2 : D} {u1 u2 : Value}, plainN n d1 = true → plainN n d2 = true → Is X.K H v1 d1 → Is X.K H v2 d2 → RelV v1 u1 → RelV v2 u2 → SeqAt.EqAt A.in1 s u1 u2 (eqD d1 d2) := fun p1 p2 i1 i2 r1 r2 => (ih (A := A.in1) (by show A.units + 1 + n < cLine; omega) p1 p2 i1 i2 r1 r2).2.1
    cases i1 with
    | tup h1 k1 =>
      cases r1
      obtain ⟨its, rv1, t1, z1⟩ := I.tuple h1
      have t1' : s.heap.IsTuple _ its.toArray := t1
      have q1 := p1
      simp only [plainN] at q1
      cases i2 with
      | tup h2 k2 =>
        cases r2
        obtain ⟨jts, rv2, t2, z2⟩ := I.tuple h2
        have t2' : s.heap.IsTuple _ jts.toArray := t2
        have q2 := p2
        simp only [plainN] at q2
        rename_i a1 vs ds a2 ws es
        have he := items_eq (A := A.in1) (p := plainN n) ih' k1 k2 rv1 rv2 q1 q2
        have eqv : ((List.range (min its.toArray.size jts.toArray.size)).all (fun j => eqD (ds.getD j .non) (es.getD j .non)) && its.toArray.size == jts.toArray.size) = eqD (.tup ds) (.tup es) := by
          rw [eqD, List.size_toArray, List.size_toArray, ← rv1.length, ← rv2.length, k1.length, k2.length]
          by_cases hl : ds.length = es.length
          · rw [← hl, Nat.min_self, beq_self_eq_true, Bool.and_true]
            exact eqDs_range _ hl fun j x y e1 e2 => getD_eq j x y e1 e2
          · rw [eqDs_ne hl, beq_eq_false_iff_ne.mpr hl, Bool.and_false]
        have rc := SeqAt.RcAt.tuples t1' t2' hu0 he
        have rn := SeqAt.RcNeAt.tuples t1' t2' hu0 he
        rw [eqv] at rc rn
        refine ⟨rc, ?_, rn⟩
        by_cases ha : a1 = a2
        · subst ha
          rw [eq_same I (n + 1) (.tup h1 k1) (.tup h2 k2) p1]
          exact SeqAt.EqAt.same _
        · exact SeqAt.EqAt.of_refs ha rc
      | lst h2 k2 =>
        cases r2
        obtain ⟨jts, rv2, t2, z2⟩ := I.list h2
        rw [show eqD (.tup _) (.lst _) = false by simp only [eqD]]
        exact ⟨SeqAt.RcAt.tuple_list t1' t2.isList hu0, SeqAt.EqAt.tuple_list t1' t2.isList hu0, SeqAt.RcNeAt.tuple_list t1' t2.isList hu0⟩
      | ty => simp [plainN] at p2
      | non => cases r2; simp only [eqD]; exact ⟨SeqAt.RcAt.tuple_none t1' hu0, SeqAt.EqAt.tuple_none t1' hu0, SeqAt.RcNeAt.tuple_none t1' hu0⟩
      | bl => cases r2; simp only [eqD]; exact ⟨SeqAt.RcAt.tuple_bool _ t1' hu0, SeqAt.EqAt.tuple_bool _ t1' hu0, SeqAt.RcNeAt.tuple_bool _ t1' hu0⟩
      | int => obtain ⟨t, rfl⟩ := r2; simp only [eqD]; exact ⟨SeqAt.RcAt.tuple_int _ _ t1' hu0, SeqAt.EqAt.tuple_int _ _ t1' hu0, SeqAt.RcNeAt.tuple_int _ _ t1' hu0⟩
      | str => obtain ⟨t, rfl⟩ := r2; simp only [eqD]; exact ⟨SeqAt.RcAt.tuple_str _ _ t1' hu0, SeqAt.EqAt.tuple_str _ _ t1' hu0, SeqAt.RcNeAt.tuple_str _ _ t1' hu0⟩
    | lst h1 k1 =>
      cases r1
      obtain ⟨its, rv1, t1, z1⟩ := I.list h1
      have t1' : s.heap.IsList _ its.toArray := t1.isList
      have q1 := p1
      simp only [plainN] at q1
      cases i2 with
      | lst h2 k2 =>
        cases r2
        obtain ⟨jts, rv2, t2, z2⟩ := I.list h2
        have t2' : s.heap.IsList _ jts.toArray := t2.isList
        have q2 := p2
        simp only [plainN] at q2
        rename_i a1 vs ds a2 ws es
        have he := items_eq (A := A.in1) (p := plainN n) ih' k1 k2 rv1 rv2 q1 q2
        have both : SeqAt.RcAt A s (.ref a1) (.ref a2) (eqD (.lst ds) (.lst es)) ∧ SeqAt.RcNeAt A s (.ref a1) (.ref a2) (!eqD (.lst ds) (.lst es)) := by
          by_cases hl : ds.length = es.length
          · have hs : its.toArray.size = jts.toArray.size := by rw [List.size_toArray, List.size_toArray, ← rv1.length, ← rv2.length, k1.length, k2.length]; exact hl
            have eqv : (List.range its.toArray.size).all (fun j => eqD (ds.getD j .non) (es.getD j .non)) = eqD (.lst ds) (.lst es) := by
              rw [eqD, List.size_toArray, ← rv1.length, k1.length]
              exact eqDs_range _ hl fun j x y e1 e2 => getD_eq j x y e1 e2
            have rc := SeqAt.RcAt.lists t1' t2' hs hu0 he
            have rn := SeqAt.RcNeAt.lists t1' t2' hs hu0 he
            rw [eqv] at rc rn
            exact ⟨rc, rn⟩
          · have hs : (its.toArray.size != jts.toArray.size) = true := by rw [List.size_toArray, List.size_toArray, ← rv1.length, ← rv2.length, k1.length, k2.length]; exact bne_iff_ne.mpr hl
            rw [eqD, eqDs_ne hl]
            exact ⟨SeqAt.RcAt.lists_lengths t1' t2' hs hu0, SeqAt.RcNeAt.lists_lengths t1' t2' hs hu0⟩
        refine ⟨both.1, ?_, both.2⟩
        by_cases ha : a1 = a2
        · subst ha
          rw [eq_same I (n + 1) (.lst h1 k1) (.lst h2 k2) p1]
          exact SeqAt.EqAt.same _
        · exact SeqAt.EqAt.of_refs ha both.1
      | tup h2 k2 =>
        cases r2
        obtain ⟨jts, rv2, t2, z2⟩ := I.tuple h2
        have t2' : s.heap.IsTuple _ jts.toArray := t2
        rw [show eqD (.lst _) (.tup _) = false by simp only [eqD]]
        exact ⟨SeqAt.RcAt.list_tuple t1' t2' hu0, SeqAt.EqAt.list_tuple t1' t2' hu0, SeqAt.RcNeAt.list_tuple t1' t2' hu0⟩
      | ty => simp [plainN] at p2
      | non => cases r2; simp only [eqD]; exact ⟨SeqAt.RcAt.list_none t1' hu0, SeqAt.EqAt.list_none t1' hu0, SeqAt.RcNeAt.list_none t1' hu0⟩
      | bl => cases r2; simp only [eqD]; exact ⟨SeqAt.RcAt.list_bool _ t1' hu0, SeqAt.EqAt.list_bool _ t1' hu0, SeqAt.RcNeAt.list_bool _ t1' hu0⟩
      | int => obtain ⟨t, rfl⟩ := r2; simp only [eqD]; exact ⟨SeqAt.RcAt.list_int _ _ t1' hu0, SeqAt.EqAt.list_int _ _ t1' hu0, SeqAt.RcNeAt.list_int _ _ t1' hu0⟩
      | str => obtain ⟨t, rfl⟩ := r2; simp only [eqD]; exact ⟨SeqAt.RcAt.list_str _ _ t1' hu0, SeqAt.EqAt.list_str _ _ t1' hu0, SeqAt.RcNeAt.list_str _ _ t1' hu0⟩
    | ty => simp [plainN] at p1
    | non =>
      cases i2 with
      | tup h2 k2 => cases r1; cases r2; obtain ⟨jts, rv2, t2, z2⟩ := I.tuple h2; have t2' : s.heap.IsTuple _ jts.toArray := t2; simp only [eqD]; exact ⟨SeqAt.RcAt.none_tuple t2' hu0, SeqAt.EqAt.none_tuple t2' hu0, SeqAt.RcNeAt.none_tuple t2' hu0⟩
      | lst h2 k2 => cases r1; cases r2; obtain ⟨jts, rv2, t2, z2⟩ := I.list h2; simp only [eqD]; exact ⟨SeqAt.RcAt.none_list t2.isList hu0, SeqAt.EqAt.none_list t2.isList hu0, SeqAt.RcNeAt.none_list t2.isList hu0⟩
      | ty => simp [plainN] at p2
      | non => exact tri_flat (X := X) (H := H) (by simp [plainN]) (by simp [plainN]) .non .non r1 r2
      | bl x => exact tri_flat (X := X) (H := H) (by simp [plainN]) (by simp [plainN]) .non (.bl x) r1 r2
      | int x => exact tri_flat (X := X) (H := H) (by simp [plainN]) (by simp [plainN]) .non (.int x) r1 r2
      | str x => exact tri_flat (X := X) (H := H) (by simp [plainN]) (by simp [plainN]) .non (.str x) r1 r2
    | bl y =>
      cases i2 with
      | tup h2 k2 => cases r1; cases r2; obtain ⟨jts, rv2, t2, z2⟩ := I.tuple h2; have t2' : s.heap.IsTuple _ jts.toArray := t2; simp only [eqD]; exact ⟨SeqAt.RcAt.bool_tuple _ t2' hu0, SeqAt.EqAt.bool_tuple _ t2' hu0, SeqAt.RcNeAt.bool_tuple _ t2' hu0⟩
      | lst h2 k2 => cases r1; cases r2; obtain ⟨jts, rv2, t2, z2⟩ := I.list h2; simp only [eqD]; exact ⟨SeqAt.RcAt.bool_list _ t2.isList hu0, SeqAt.EqAt.bool_list _ t2.isList hu0, SeqAt.RcNeAt.bool_list _ t2.isList hu0⟩
      | ty => simp [plainN] at p2
      | non => exact tri_flat (X := X) (H := H) (by simp [plainN]) (by simp [plainN]) (.bl y) .non r1 r2
      | bl x => exact tri_flat (X := X) (H := H) (by simp [plainN]) (by simp [plainN]) (.bl y) (.bl x) r1 r2
      | int x => exact tri_flat (X := X) (H := H) (by simp [plainN]) (by simp [plainN]) (.bl y) (.int x) r1 r2
      | str x => exact tri_flat (X := X) (H := H) (by simp [plainN]) (by simp [plainN]) (.bl y) (.str x) r1 r2
    | int y =>
      cases i2 with
      | tup h2 k2 => obtain ⟨t, rfl⟩ := r1; cases r2; obtain ⟨jts, rv2, t2, z2⟩ := I.tuple h2; have t2' : s.heap.IsTuple _ jts.toArray := t2; simp only [eqD]; exact ⟨SeqAt.RcAt.int_tuple _ _ t2' hu0, SeqAt.EqAt.int_tuple _ _ t2' hu0, SeqAt.RcNeAt.int_tuple _ _ t2' hu0⟩
      | lst h2 k2 => obtain ⟨t, rfl⟩ := r1; cases r2; obtain ⟨jts, rv2, t2, z2⟩ := I.list h2; simp only [eqD]; exact ⟨SeqAt.RcAt.int_list _ _ t2.isList hu0, SeqAt.EqAt.int_list _ _ t2.isList hu0, SeqAt.RcNeAt.int_list _ _ t2.isList hu0⟩
      | ty => simp [plainN] at p2
      | non => exact tri_flat (X := X) (H := H) (by simp [plainN]) (by simp [plainN]) (.int y) .non r1 r2
      | bl x => exact tri_flat (X := X) (H := H) (by simp [plainN]) (by simp [plainN]) (.int y) (.bl x) r1 r2
      | int x => exact tri_flat (X := X) (H := H) (by simp [plainN]) (by simp [plainN]) (.int y) (.int x) r1 r2
      | str x => exact tri_flat (X := X) (H := H) (by simp [plainN]) (by simp [plainN]) (.int y) (.str x) r1 r2
    | str y =>
      cases i2 with
      | tup h2 k2 => obtain ⟨t, rfl⟩ := r1; cases r2; obtain ⟨jts, rv2, t2, z2⟩ := I.tuple h2; have t2' : s.heap.IsTuple _ jts.toArray := t2; simp only [eqD]; exact ⟨SeqAt.RcAt.str_tuple _ _ t2' hu0, SeqAt.EqAt.str_tuple _ _ t2' hu0, SeqAt.RcNeAt.str_tuple _ _ t2' hu0⟩
      | lst h2 k2 => obtain ⟨t, rfl⟩ := r1; cases r2; obtain ⟨jts, rv2, t2, z2⟩ := I.list h2; simp only [eqD]; exact ⟨SeqAt.RcAt.str_list _ _ t2.isList hu0, SeqAt.EqAt.str_list _ _ t2.isList hu0, SeqAt.RcNeAt.str_list _ _ t2.isList hu0⟩
      | ty => simp [plainN] at p2
      | non => exact tri_flat (X := X) (H := H) (by simp [plainN]) (by simp [plainN]) (.str y) .non r1 r2
      | bl x => exact tri_flat (X := X) (H := H) (by simp [plainN]) (by simp [plainN]) (.str y) (.bl x) r1 r2
      | int x => exact tri_flat (X := X) (H := H) (by simp [plainN]) (by simp [plainN]) (.str y) (.int x) r1 r2
      | str x => exact tri_flat (X := X) (H := H) (by simp [plainN]) (by simp [plainN]) (.str y) (.str x) r1 r2
@[simp] def dEq : D → D → Option (D × Bool) := fun x y => if plainN 40 x = true ∧ plainN 40 y = true then some (.bl (eqD x y), false) else none
@[simp] def dNe : D → D → Option (D × Bool) := fun x y => if plainN 40 x = true ∧ plainN 40 y = true then some (.bl (!eqD x y), false) else none
theorem o_eq (hu : X.A.units + 40 < cLine) : OpR X (compareOp .Eq) (rD X.K dEq) := by
  intro pins s σ H x y v u Q I rx ry q
  obtain ⟨B, dx, dy, d, b, sB, ix, iy, e, q⟩ := q
  unfold dEq at e
  split at e
  · rename_i hp
    cases e
    exact (tri_D I 40 hu hp.1 hp.2 (ix.mono sB) (iy.mono sB) rx ry).1 _ _ _ _ ⟨.bl _, H, I, rfl, q.one sB (.bl _)⟩
  · cases e
theorem o_ne (hu : X.A.units + 40 < cLine) : OpR X (compareOp .NotEq) (rD X.K dNe) := by
  intro pins s σ H x y v u Q I rx ry q
  obtain ⟨B, dx, dy, d, b, sB, ix, iy, e, q⟩ := q
  unfold dNe at e
  split at e
  · rename_i hp
    cases e
    exact (tri_D I 40 hu hp.1 hp.2 (ix.mono sB) (iy.mono sB) rx ry).2.2 _ _ _ _ ⟨.bl _, H, I, rfl, q.one sB (.bl _)⟩
  · cases e
end
end DL

namespace DL
open PySem PySem.Spec PyProof.Rows L2
/-! ### items, slices, len, isinstance; what a loop walks -/
section
variable {X : Cx} {a b e : Expr} {pos : Pos}
theorem atI_isL {K : PySem.W.Frag} {H : Hp} {vs : List V} {ds : List D} {i : Int} {d : D} (h : IsL K H vs ds) (e : atI ds i = some d) : ∃ v, atI vs i = some v ∧ Is K H v d := by
  unfold atI at e ⊢
  rw [h.length]
  cases q : ixN ds.length i with
  | none => rw [q] at e; cases e
  | some j => rw [q] at e; exact h.get e
@[simp] def ixD : D → D → Option (D × Bool)
  | .lst ds, .int i => (atI ds i).map fun d => (d, false)
  | .tup ds, .int i => (atI ds i).map fun d => (d, false)
  | .str z, .int i => if z.length ≤ sizeLine then (atI z.cps.toList i).map fun c => (.str ⟨#[c]⟩, false) else none
  | _, _ => none
theorem ix_D : IxR X (rD X.K ixD) := by
  intro value slice pins s σ H x y v u Q I rx ry q hs
  obtain ⟨B, dx, dy, d, b, sB, ix, iy, e, q⟩ := q
  cases ix <;> cases iy <;> try (simp [ixD] at e; done)
  · simp only [ixD] at e
    split at e
    · rename_i hz
      obtain ⟨c, e1, e2⟩ := Option.map_eq_some_iff.mp e
      cases e2
      exact ix_str value slice pins s σ H _ _ v u Q I rx ry ⟨_, _, c, rfl, rfl, hz, e1, q.one sB (.str _)⟩ hs
    · cases e
  · rename_i h hl i
    simp only [ixD] at e
    obtain ⟨c, e1, e2⟩ := Option.map_eq_some_iff.mp e
    cases e2
    obtain ⟨w, h1, h2⟩ := atI_isL hl e1
    exact ix_tup value slice pins s σ H _ _ v u Q I rx ry ⟨_, _, _, w, rfl, rfl, same_seqT sB h, h1, q.one sB h2⟩ hs
  · rename_i h hl i
    simp only [ixD] at e
    obtain ⟨c, e1, e2⟩ := Option.map_eq_some_iff.mp e
    cases e2
    obtain ⟨w, h1, h2⟩ := atI_isL hl e1
    exact ix_list value slice pins s σ H _ _ v u Q I rx ry ⟨_, _, _, w, rfl, rfl, sB.seq h, h1, q.one sB h2⟩ hs
theorem je_ix {fa fb : FE} (ha : JE X a fa) (hb : JE X b fb) (hs : PlainIx b := by intro _ _; rfl) : JE X (.Subscript a b pos) (f2 ixD fa fb) := PE.to (pe_ix ix_D ha hb hs) fun _ _ _ h => tD_2 h

/-! slices -/
abbrev FO := Env → Option (Option Int)
def tDO (K : PySem.W.Frag) (f : FO) : TO := fun σ H Q => ∃ (B : Hp) (ρ : Env) (o : Option Int), Same B H ∧ RepE K B σ ρ ∧ f ρ = some o ∧ ∀ H', Same H H' → Q o H'
abbrev JO (X : Cx) (e : Option Expr) (f : FO) : Prop := PO X e (tDO X.K f)
@[simp] def oNone : FO := fun _ => some none
@[simp] def oSome (f : FE) : FO := fun ρ => match f ρ with | some (.int i, _) => some (some i) | _ => none
theorem jo_none : JO X none oNone := fun pins s σ H Q I h => po_none pins s σ H Q I (by
  obtain ⟨B, ρ, o, sB, r, e, q⟩ := h
  cases e
  exact q H (.refl H))
theorem jo_some {f : FE} (h : JE X e f) : JO X (some e) (oSome f) := fun pins s σ H Q I q => po_some h pins s σ H Q I (by
  obtain ⟨B, ρ, o, sB, r, e, q⟩ := q
  unfold oSome at e
  split at e
  · rename_i i b' ef
    cases e
    refine ⟨B, ρ, _, _, sB, r, ef, fun v H1 N1 x1 i1 _ => ?_⟩
    cases i1
    exact ⟨i, rfl, q H1 x1.hh⟩
  · cases e)
def cutD (ds : List D) (lo hi : Option Int) : List D := (ds.drop (HT.sIx ds.length 0 lo)).take (HT.sIx ds.length ds.length hi - HT.sIx ds.length 0 lo)
theorem cut_isL {K : PySem.W.Frag} {H : Hp} {vs : List V} {ds : List D} {lo hi : Option Int} (h : IsL K H vs ds) : IsL K H (cutV vs lo hi) (cutD ds lo hi) := by
  unfold cutV cutD
  rw [h.length]
  exact (h.drop _).take _
@[simp] def fSl0 (fa : FE) (fl fh : FO) : FE := fun ρ => (fa ρ).bind fun x => (fl ρ).bind fun l => (fh ρ).bind fun h => match x.1 with
  | .lst ds => some (.lst (cutD ds l h), true)
  | .tup ds => if HT.sIx ds.length 0 l = 0 ∧ HT.sIx ds.length ds.length h = ds.length then none else some (.tup (cutD ds l h), false)
  | _ => none
/-! calls of builtins -/
theorem CallR.to {f : Value} {r r' : List V → Hp → VK → Prop} (h : CallR X f r) (k : ∀ xs H Q, r' xs H Q → r xs H Q) : CallR X f r' := fun pins s σ H xs us Q I rs q => h pins s σ H xs us Q I rs (k xs H Q q)
variable {es : List Expr} {x : Str} {p : Pos} {id T : String}
theorem je_callB {f : List D → Option (D × Bool)} {fa : FA} (hc : CallR X (.builtin id) (rDA X.K f)) (hm : X.mg x = none) (hv : bootBuiltins x = some (.builtin id)) (ha : JA X (e :: es) fa) (hg : Gl X x := by rfl) (hn : x ≠ "__name__" := by decide) (hdb : (x == ("__debug__" : Str)) = false := by decide)
    (he : starEach (e :: es) X.env = (false, eval e X.env) :: starEach es X.env := by rfl) (hpl : (backTo pos (starEach es X.env)).any (·.1) = false := by rfl) : JE X (.Call (.Name x p) (e :: es) [] pos) (fA f fa) := PE.to (pe_callB hc hg hm hv ha hn hdb he hpl) fun _ _ _ h => tD_A h
theorem je_callTy {f : List D → Option (D × Bool)} {fa : FA} (hc : CallR X (.type T) (rDA X.K f)) (hm : X.mg x = none) (hv : bootBuiltins x = some (.type T)) (ha : JA X (e :: es) fa) (hg : Gl X x := by rfl) (hn : x ≠ "__name__" := by decide) (hdb : (x == ("__debug__" : Str)) = false := by decide)
    (he : starEach (e :: es) X.env = (false, eval e X.env) :: starEach es X.env := by rfl) (hpl : (backTo pos (starEach es X.env)).any (·.1) = false := by rfl) : JE X (.Call (.Name x p) (e :: es) [] pos) (fA f fa) := PE.to (pe_callTy hc hg hm hv ha hn hdb he hpl) fun _ _ _ h => tD_A h
@[simp] def lenD : List D → Option (D × Bool)
  | [.lst ds] => some (.int ds.length, false)
  | [.tup ds] => some (.int ds.length, false)
  | [.str z] => if z.length ≤ sizeLine then some (.int z.length, false) else none
  | _ => none
theorem c_len : CallR X (.builtin "len") (rDA X.K lenD) := by
  refine CallR.to (CallR.or call_len_seq call_len_str) fun xs H Q q => ?_
  obtain ⟨B, ds, d, b, sB, i, e, q⟩ := q
  cases i with
  | nil => simp [lenD] at e
  | cons i1 i2 =>
    cases i2 with
    | cons _ _ => cases i1 <;> simp [lenD] at e
    | nil =>
      cases i1 <;> try (simp [lenD] at e; done)
      · simp only [lenD] at e
        split at e
        · rename_i hz
          cases e
          exact .inr ⟨_, rfl, hz, q.one sB (.int _)⟩
        · cases e
      · rename_i h hl
        simp only [lenD] at e
        cases e
        refine .inl ⟨_, _, rfl, .inr (same_seqT sB h), ?_⟩
        rw [hl.length]; exact q.one sB (.int _)
      · rename_i h hl
        simp only [lenD] at e
        cases e
        refine .inl ⟨_, _, rfl, .inl (sB.seq h), ?_⟩
        rw [hl.length]; exact q.one sB (.int _)
end
end DL

namespace DL
open PySem PySem.Spec PyProof.Rows L2
theorem hu40 {A : Around} {k : Nat} (hr : Room k A) : A.units + 40 < cLine := by have := hr.un; omega
section
variable {X : Cx} {a b e : Expr} {pos : Pos} {x : Str} {p : Pos}
theorem je_const {d : D} (h : ∃ u v, X.mg x = some u ∧ RelV v u ∧ ∀ B, Is X.K B v d) (hg : Gl X x := by rfl) (hd : (x == ("__debug__" : Str)) = false := by decide) : JE X (.Name x pos) (fC d) := by
  obtain ⟨u, v, hm, r, i⟩ := h
  exact je_glob hg hm r i hd
/-! + * < <= of several kinds -/
@[simp] def dAdd0 : D → D → Option (D × Bool)
  | .int i, .int j => some (.int (i + j), false)
  | .str i, .str j => if i.length + j.length ≤ sizeLine then some (.str (i ++ j), false) else none
  | _, _ => none
theorem o_dadd0 : OpR X (binaryOp .Add) (rD X.K dAdd0) := by
  refine opr_to (r := rD X.K (orD iAdd sAdd)) (opr_or o_add o_adds) fun x y H Q q => ?_
  obtain ⟨B, dx, dy, d, b, sB, ix, iy, e, q⟩ := q
  refine ⟨B, dx, dy, d, b, sB, ix, iy, ?_, q⟩
  cases dx <;> cases dy <;> simp [dAdd0] at e <;> simp [orD, iAdd, sAdd, iop, sop, e]
@[simp] def dMul : D → D → Option (D × Bool) := iMul
theorem o_dmul : OpR X (binaryOp .Mult) (rD X.K dMul) := o_mul
@[simp] def dLt : D → D → Option (D × Bool) := iLt
theorem o_dlt : OpR X (compareOp .Lt) (rD X.K dLt) := o_lt
@[simp] def dLe : D → D → Option (D × Bool)
  | .int i, .int j => some (.bl (decide (i ≤ j)), false)
  | .str i, .str j => some (.bl (!decide (j.cps.toList < i.cps.toList)), false)
  | _, _ => none
theorem o_dle : OpR X (compareOp .LtE) (rD X.K dLe) := by
  refine opr_to (r := rD X.K (orD iLe sLe)) (opr_or o_le o_les) fun x y H Q q => ?_
  obtain ⟨B, dx, dy, d, b, sB, ix, iy, e, q⟩ := q
  refine ⟨B, dx, dy, d, b, sB, ix, iy, ?_, q⟩
  cases dx <;> cases dy <;> simp [dLe] at e <;> simp [orD, iLe, sLe, iop, sop, e]
@[simp] def iNeg : D → Option (D × Bool)
  | .int i => some (.int (-i), false)
  | _ => none
/-! is, is not: against None, True, False -/
@[simp] def isSm : D → D → Option Bool
  | .non, .non => some true
  | _, .non => some false
  | .bl a, .bl b => some (a == b)
  | _, .bl _ => some false
  | _, _ => none
@[simp] def dIs : D → D → Option (D × Bool) := fun x y => (isSm x y).map fun b => (.bl b, false)
@[simp] def dIsNot : D → D → Option (D × Bool) := fun x y => (isSm x y).map fun b => (.bl (!b), false)
/-! in, not in: flat items of a list or tuple -/
@[simp] def flatD : D → Bool
  | .non => true | .bl _ => true | .int _ => true | .str _ => true
  | _ => false
def inD (x : D) (ds : List D) : Bool := ds.any fun y => eqD y x
@[simp] def seqOf : D → Option (List D)
  | .lst ds => some ds
  | .tup ds => some ds
  | _ => none
@[simp] def dIn : D → D → Option (D × Bool) := fun x y => (seqOf y).bind fun ds => if flatD x = true ∧ ds.all flatD = true then some (.bl (inD x ds), false) else none
@[simp] def dNotIn : D → D → Option (D × Bool) := fun x y => (seqOf y).bind fun ds => if flatD x = true ∧ ds.all flatD = true then some (.bl (!inD x ds), false) else none
theorem flat_V {K : PySem.W.Frag} {B : Hp} {v : V} {d : D} (i : Is K B v d) (h : flatD d = true) : flatV v = true := by
  cases i <;> first | rfl | (simp [flatD] at h)
theorem eq_V {K : PySem.W.Frag} {B : Hp} {v w : V} {d e : D} (i : Is K B v d) (j : Is K B w e) (h : flatD d = true) (h' : flatD e = true) : eqV v w = eqD d e := by
  cases i <;> (first | (simp [flatD] at h; done) | skip)
  all_goals (cases j <;> (first | (simp [flatD] at h'; done) | skip))
  all_goals (simp only [eqV, eqD, Bool.beq_eq_decide_eq])
theorem all_V {K : PySem.W.Frag} {B : Hp} : ∀ {vs : List V} {ds : List D}, IsL K B vs ds → ds.all flatD = true → vs.all flatV = true
  | _, _, .nil, _ => rfl
  | _, _, .cons i t, h => by
    rw [List.all_cons, Bool.and_eq_true] at h
    rw [List.all_cons, flat_V i h.1, all_V t h.2]; rfl
theorem in_V {K : PySem.W.Frag} {B : Hp} {v : V} {d : D} (j : Is K B v d) (hd : flatD d = true) : ∀ {vs : List V} {ds : List D}, IsL K B vs ds → ds.all flatD = true → inV v vs = inD d ds
  | _, _, .nil, _ => rfl
  | _, _, .cons i t, h => by
    rw [List.all_cons, Bool.and_eq_true] at h
    have e := in_V j hd t h.2
    unfold inV inD at *
    rw [List.any_cons, List.any_cons, e, eq_V i j h.1 hd]
theorem o_din : OpR X (compareOp .In) (rD X.K dIn) := by
  refine opr_to op_in_seq fun x y H Q q => ?_
  obtain ⟨B, dx, dy, d, b, sB, ix, iy, e, q⟩ := q
  obtain ⟨ds, es, e⟩ := Option.bind_eq_some_iff.mp e
  split at e
  · rename_i hf
    cases e
    cases iy <;> simp only [seqOf] at es <;> try (cases es; done)
    · rename_i h hl
      cases es
      exact ⟨_, _, rfl, .inr (same_seqT sB h), flat_V ix hf.1, all_V hl hf.2, by rw [if_neg (by decide), in_V ix hf.1 hl hf.2]; exact q.one sB (.bl _)⟩
    · rename_i h hl
      cases es
      exact ⟨_, _, rfl, .inl (sB.seq h), flat_V ix hf.1, all_V hl hf.2, by rw [if_neg (by decide), in_V ix hf.1 hl hf.2]; exact q.one sB (.bl _)⟩
  · cases e
theorem o_dnotin : OpR X (compareOp .NotIn) (rD X.K dNotIn) := by
  refine opr_to op_notIn_seq fun x y H Q q => ?_
  obtain ⟨B, dx, dy, d, b, sB, ix, iy, e, q⟩ := q
  obtain ⟨ds, es, e⟩ := Option.bind_eq_some_iff.mp e
  split at e
  · rename_i hf
    cases e
    cases iy <;> simp only [seqOf] at es <;> try (cases es; done)
    · rename_i h hl
      cases es
      exact ⟨_, _, rfl, .inr (same_seqT sB h), flat_V ix hf.1, all_V hl hf.2, by rw [if_pos rfl, in_V ix hf.1 hl hf.2]; exact q.one sB (.bl _)⟩
    · rename_i h hl
      cases es
      exact ⟨_, _, rfl, .inl (sB.seq h), flat_V ix hf.1, all_V hl hf.2, by rw [if_pos rfl, in_V ix hf.1 hl hf.2]; exact q.one sB (.bl _)⟩
  · cases e

/-! builtins -/
theorem b_len : bootBuiltins "len" = some (.builtin "len") := PySem.boot_len
theorem b_min : bootBuiltins "min" = some (.builtin "min") := by decide +kernel
theorem b_tuple : bootBuiltins "tuple" = some (.type "tuple") := by decide +kernel
@[simp] def maxD : List D → Option (D × Bool)
  | [.int i, .int j] => some (.int (if j > i then j else i), false)
  | _ => none
@[simp] def minD : List D → Option (D × Bool)
  | [.int i, .int j] => some (.int (if j < i then j else i), false)
  | _ => none
theorem two_ints {K : PySem.W.Frag} {B : Hp} {xs : List V} {i j : Int} (h : IsL K B xs [.int i, .int j]) : xs = [.int i, .int j] := by
  cases h with
  | cons h1 h2 => cases h1; cases h2 with | cons h3 h4 => cases h3; cases h4; rfl
theorem c_min (hc : X.calm = true := by rfl) : CallR X (.builtin "min") (rDA X.K minD) := by
  refine CallR.to (call_min2 hc) fun xs H Q q => ?_
  obtain ⟨B, ds, d, b, sB, i, e, q⟩ := q
  match ds, e with
  | [.int i', .int j'], e => simp only [minD] at e; cases e; exact ⟨i', j', two_ints i, q.one sB (.int _)⟩
@[simp] def tyOf : D → String
  | .non => "NoneType" | .bl _ => "bool" | .int _ => "int" | .str _ => "str" | .ty _ => "type" | .tup _ => "tuple" | .lst _ => "list"
@[simp] def isTy : D → Bool
  | .ty _ => true
  | _ => false
@[simp] def instAns (t n : String) : Option (D × Bool) :=
  if n = "int" then some (.bl (t == "int" || t == "bool"), false) else if n = "bool" then some (.bl (t == "bool"), false) else if n = "str" then some (.bl (t == "str"), false)
  else if n = "list" then some (.bl (t == "list"), false) else if n = "tuple" then some (.bl (t == "tuple"), false) else none
@[simp] def isinstanceD : List D → Option (D × Bool)
  | [d, .ty n] => if isTy d = true then none else instAns (tyOf d) n
  | _ => none
/-! int.bit_length -/
@[simp] def bitsD : D → Option (D × Bool)
  | .int i => some (.int (Builtin.Int.intBits i), false)
  | _ => none
/-! what a loop walks -/
@[simp] def iSeq0 (f : FE) : FA := fun ρ => (f ρ).bind fun x => seqOf x.1
theorem ji_seq0 {tg : Expr} {f : FE} (h : JE X e f) : JI X tg e (iSeq0 f) := by
  intro pins s σ H R I q
  obtain ⟨B, ρ, ds, sB, r, e', q⟩ := q
  obtain ⟨x, ex, es⟩ := Option.bind_eq_some_iff.mp e'
  obtain ⟨xd, xb⟩ := x
  cases xd <;> simp only [seqOf] at es <;> try (cases es; done)
  · cases es
    refine pi_tup h pins s σ H R I ⟨B, ρ, _, _, sB, r, ex, fun v H1 N1 x1 i1 _ => ?_⟩
    cases i1 with
    | @tup a vs _ ht hl =>
      refine ⟨a, rfl, ⟨vs, same_seqT x1.nh ht⟩, q _ H1 N1 x1 fun i H2 s2 => ⟨fun d ed => ?_, fun hlen => ⟨vs, same_seqT s2 ht, by rw [hl.length]; exact hlen⟩⟩⟩
      obtain ⟨v, ev, iv⟩ := hl.get ed
      refine ⟨⟨vs, v, same_seqT s2 ht, ev⟩, fun y H3 hy => ?_⟩
      obtain ⟨rfl, hy⟩ := hy
      have := hy vs (same_seqT s2 ht)
      rw [ev] at this; cases this
      exact ⟨N1, .refl s2, iv⟩
  · cases es
    refine pi_list h pins s σ H R I ⟨B, ρ, _, _, sB, r, ex, fun v H1 N1 x1 i1 _ => ?_⟩
    cases i1 with
    | @lst a vs _ ht hl =>
      refine ⟨a, rfl, ⟨vs, x1.nh.seq ht⟩, q _ H1 N1 x1 fun i H2 s2 => ⟨fun d ed => ?_, fun hlen => ⟨vs, s2.seq ht, by rw [hl.length]; exact hlen⟩⟩⟩
      obtain ⟨v, ev, iv⟩ := hl.get ed
      refine ⟨⟨vs, v, s2.seq ht, ev⟩, fun y H3 hy => ?_⟩
      obtain ⟨rfl, hy⟩ := hy
      have := hy vs (s2.seq ht)
      rw [ev] at this; cases this
      exact ⟨N1, .refl s2, iv⟩
def rangeD (lo : Int) (n : Nat) : List D := (List.range n).map fun (k : Nat) => .int (lo + (k : Int))
theorem it_range {K : PySem.W.Frag} {B : Hp} (lo : Int) (n : Nat) : ItOk K (Itr lo n) B (rangeD lo n) := by
  intro i H s
  unfold rangeD
  refine ⟨fun d ed => ?_, fun hl => by rw [List.length_map, List.length_range] at hl; exact hl⟩
  rw [List.getElem?_map] at ed
  obtain ⟨k, ek, ed⟩ := Option.map_eq_some_iff.mp ed
  have hk := List.getElem?_eq_some_iff.mp ek
  obtain ⟨hlt, hk⟩ := hk
  rw [List.length_range] at hlt
  rw [List.getElem_range] at hk
  subst hk
  subst ed
  refine ⟨hlt, fun x H' hy => ?_⟩
  obtain ⟨rfl, rfl⟩ := hy
  exact ⟨B, .refl s, .int _⟩
@[simp] def iRange (f : FE) : FA := fun ρ => match f ρ with
  | some (.int j, _) => if -1000 ≤ j ∧ j ≤ 1000 then some (rangeD 0 j.toNat) else none
  | _ => none
theorem jr_range {tg : Expr} {f : FE} (hm : X.mg "range" = none) (h : JE X a f) (hg : Gl X "range" := by rfl) (hs : starEach [a] X.env = [(false, eval a X.env)] := by rfl) : PI X tg (.Call (.Name "range" p) [a] [] pos) (tDR X.K (iRange f)) := by
  refine PI.to (pi_range1 hg hm (ja_cons h ja_nil hs) hs) fun σ H R q => ?_
  obtain ⟨B, ρ, ds, sB, r, e', q⟩ := q
  unfold iRange at e'
  split at e'
  · rename_i j b' ef
    split at e'
    · rename_i hj
      cases e'
      refine ⟨B, ρ, [.int j], sB, r, by simp [fCons, fNil, ef], fun vs H1 N1 x1 i1 => ?_⟩
      cases i1 with
      | cons i1 i2 =>
        cases i1; cases i2
        exact ⟨j, rfl, by omega, by omega, q _ H1 N1 x1 fun _ => it_range 0 j.toNat⟩
    · cases e'
  · cases e'
theorem ji_range {tg : Expr} {f : FE} (hm : X.mg "range" = none) (h : JE X a f) (hg : Gl X "range" := by rfl) (hs : starEach [a] X.env = [(false, eval a X.env)] := by rfl) : JI X tg (.Call (.Name "range" p) [a] [] pos) (iRange f) :=
  PI.to (jr_range hm h hg hs) fun σ H R ⟨B, ρ, ds, sB, r, e', q⟩ => ⟨B, ρ, ds, sB, r, e', fun J H' N x h => q J H' N x (h _)⟩
end
end DL
namespace DL
open PySem PySem.Spec PyProof.Rows L2
section
variable {X : Cx} {a b e : Expr} {pos : Pos} {x : Str} {p : Pos}
end
end DL

namespace DL
open PySem PySem.Spec PyProof.Rows L2
/-! ### the text's defs behind the top, and the law's head -/
/-- a def of the module -/
def Def (K : PySem.W.Frag) (x : Str) (st : Stmt) : Prop := ∃ (f : Addr) (fd : FuncData), Fun K x x st f fd ∧ PySem.W.nsIn K mainGlobals x = some (some (.ref f))
theorem def_mk {K : PySem.W.Frag} {x : Str} {st : Stmt} {f : Addr} {oc : Value} {od an : Option Addr} {osl : Array (Option Value)} {kV doc pm cdv ct : Value} (a : PySem.W.nsIn K mainGlobals x = some (some (.ref f)))
    (l : K.lookup f = some ⟨oc, od, .func (PySem.W.fnOf x x (defArgs st) (defBody st) (defScope st) .none kV doc pm an cdv ct), osl⟩) (c : PySem.W.codeIn K cdv x = true) (k : PySem.W.keepIn K (.ref f) = true) : Def K x st := ⟨f, _, fun_mk l c k, a⟩
section
variable {P : Program} {w : World} {K : PySem.W.Frag} {mg : Str → Option Value} {base : Heap}
/-- the def's promise by values: ps its parameters, N its names (parameters first) -/
theorem Def.fn {x : Str} {st : Stmt} {N ps : List Str} {k : Nat} {g : FS} {h : Heap} (F : Def K x st) (X : K.In h) (G : h.Ns mainGlobals mg) (S : FnScope N ps (defScope st))
    (hbd : ∀ (kV doc pm : Value) (an : Option Addr) (cdv ct : Value) (us : List Value), us.length = ps.length → bindArgs (PySem.W.fnOf x x (defArgs st) (defBody st) (defScope st) .none kV doc pm an cdv ct) ⟨us, []⟩ = pure (ps.zip us))
    (hb : ∀ (f : Addr) (cdv : Value) (A : Around) (outer : List PySem.Env) (s : Shared) (H : Hp) (E : XK), Room k (A.deeper (envOfC x (defScope st) s.heap.objs.size f cdv)) → JSs (cxOf CX0 P w K mg base N x (defScope st) f cdv A outer s H E).nox (defBody st) g) :
    Fn P w K mg base (k + 1) x (bodyF g ps.length (N.length - ps.length)) := by
  obtain ⟨f, fd, F1, a⟩ := F
  exact ⟨f, fd, ps, fn_D F1 S (hb f), PySem.W.mg_of X G a, F1.kp, F1.binds hbd⟩
end
/-! ### the head, the code tables of some defs tracked from the start -/
/-- what is tracked at the law's entry: the script (known to the object) and the tables -/
def OnlyT (H : Hp) : Prop := ∀ b, H b = none ∨ (∃ o xs, H b = some (.frz o (.lst xs))) ∨ ∃ q, H b = some (.tbl q)
def tabsH (tabs : List (Addr × Str)) (G : Hp) : Hp := fun b => match tabs.lookup b with | some q => some (.tbl q) | none => G b
theorem tabsH_in {tabs : List (Addr × Str)} {G : Hp} {b : Addr} {q : Str} (e : tabs.lookup b = some q) : tabsH tabs G b = some (.tbl q) := by unfold tabsH; rw [e]
theorem tabsH_out {tabs : List (Addr × Str)} {G : Hp} {b : Addr} (e : tabs.lookup b = none) : tabsH tabs G b = G b := by unfold tabsH; rw [e]
theorem call_head {P : Program} {w : World} {K : PySem.W.Frag} {mg mb : Str → Option Value} {k : Nat} {fa a : Addr} {fd : FuncData} {x : Str} {sp : Sp} {s₁ : Shared} {vs : List Value} {ns : List Int} (tabs : List (Addr × Str))
    (ht : ∀ b q, tabs.lookup b = some q → s₁.heap.get? b = some (PySem.W.tabObj #[]) ∧ isCodeTable s₁.heap b) (hnt : PySem.W.noTabs K = true)
    (KX : K.In s₁.heap) (hns : s₁.heap.Ns mainGlobals mg) (hb : s₁.heap.Ns builtinsNs mb) (hbb : ∀ x : Str, x ≠ "__name__" → mb x = bootBuiltins x) (hlim : s₁.heap.NoLimit)
    (hbm : ∃ bm ob, mg "__builtins__" = some (.ref bm) ∧ bm ≠ builtinsNs ∧ s₁.heap.get? bm = some ob ∧ ob.cls = .type "module" ∧ ob.dict = some builtinsNs ∧ ob.data = .plain) (hg : s₁.gens = #[])
    (ha : s₁.heap.get? a = some { cls := .type "list", data := .seq vs.toArray }) (hi : IntsAre vs ns) (hl : ns.length ≤ sizeLine) (hr : Room k callerA)
    (F : ∀ base : Heap, K.In base → base.Ns mainGlobals mg → FnOk P w K mg base CX0 k fa fd [x] sp) (hbind : ∀ (s : Shared) (u : Value), BindsTo s fd ⟨[u], []⟩ [(x, u)])
    (hsp : ∀ H : Hp, (∀ b q, tabs.lookup b = some q → H b = some (.tbl q)) → SqL K H a (ns.map V.int) → sp [.ref a] H (fun v _ => v = .bl true) fun _ _ _ => False) :
    codeAny (model P w) callerA (.call (.ref fa) ⟨[.ref a], []⟩) (fun r s' => r = .ok (.ret (.bool true)) ∧ OldK s₁.heap s'.heap ∧ s'.os = s₁.os ∧ AllBare s'.gens) s₁ := by
  have rv := L2.vals_ints hi
  have lenV := hi.length
  have core : ∀ H : Hp, OnlyT H → (∀ b q, tabs.lookup b = some q → H b = some (.tbl q)) → SqL K H a (ns.map V.int) → HOk P w H s₁.heap → (∀ b q, H b = some (.tbl q) → s₁.heap.get? b = some (PySem.W.tabObj #[]) ∧ isCodeTable s₁.heap b) →
      (∀ b o u, H b = some (.frz o u) → b = a) → (∀ b o u, H b = some (.frz o u) → K.lookup b = none) →
      codeAny (model P w) callerA (.call (.ref fa) ⟨[.ref a], []⟩) (fun r s' => r = .ok (.ret (.bool true)) ∧ OldK s₁.heap s'.heap ∧ s'.os = s₁.os ∧ AllBare s'.gens) s₁ := by
    intro H hO hT hS hok hA hB hK
    have noA : ∀ {b : Addr} {o : Obj}, s₁.heap.get? b = some o → (o.cls ≠ .none) → (o.cls ≠ .type "list") → H b = none := fun {b o} e d d' => by
      rcases hO b with q | ⟨ob, xs, q⟩ | ⟨u, q⟩
      · exact q
      · have e' : b = a := hB b _ _ q
        subst e'
        rw [ha] at e; cases e
        exact absurd rfl d'
      · rw [(hA b u q).1] at e; cases e
        exact absurd rfl d
    have noD : ∀ {b : Addr} {o : Obj} {es : Array DictEntry} {ep : Nat}, s₁.heap.get? b = some o → o.data = .dict es ep → H b = none := fun {b o es ep} e d => by
      rcases hO b with q | ⟨ob, xs, q⟩ | ⟨u, q⟩
      · exact q
      · have e' : b = a := hB b _ _ q
        subst e'
        rw [ha] at e; cases e
        cases d
      · rw [(hA b u q).1] at e; cases e
        cases d
    have nsK : ∀ {b : Addr} {m : Str → Option Value}, s₁.heap.Ns b m → (hidT s₁.heap H).Ns b m := fun {b m} ⟨o, es, ep, e, d, r⟩ => ⟨o, es, ep, hidT_get e (noD e d), d, r⟩
    have hKb : K.In (hidT s₁.heap H) := fun b o e => hidT_get (KX b o e) (by
      rcases hO b with q | ⟨ob, xs, q⟩ | ⟨u, q⟩
      · exact q
      · rw [hK b _ _ q] at e; cases e
      · have z := (hA b u q).1
        rw [KX b o e] at z
        cases z
        have := List.all_eq_true.mp hnt _ (PySem.W.mem_of_lookupK e)
        simp at this)
    have hM : Mod K mg (hidT s₁.heap H) := ⟨hKb, nsK hns, ⟨mb, nsK hb, hbb⟩, let ⟨mc, h1, h2⟩ := hlim; ⟨mc, nsK h1, h2⟩, by
      obtain ⟨bm, ob, b1, b2, b3, b4, b5⟩ := hbm
      exact ⟨bm, ob, b1, b2, hidT_get b3 (noA b3 (by rw [b4]; exact fun z => nomatch z) (by rw [b4]; intro z; injection z with z; exact absurd z (by decide))), b4, b5⟩⟩
    have e0 : Env0 P w K mg (hidT s₁.heap H) callerA [] s₁ H := ⟨rfl, hM, fun b o e => of_hidT e, Nat.le_of_eq (hidT_size _ _), trivial, fun b hb => absurd (show b ∈ ([] : List Addr) from hb) (by simp), hok, .of_eq hg⟩
    refine codeAny_mono ((F _ hKb (nsK hns)).run callerA [] s₁ H ⟨[.ref a], []⟩ [.ref a] [.ref a] _ _ hr e0 (hbind s₁ (.ref a)) (.cons rfl .nil) (hsp H hT hS)) fun r s' h => ?_
    cases r with
    | error e => exact False.elim h
    | ok fl =>
      cases fl with
      | next => exact False.elim h
      | brk => exact False.elim h
      | cont => exact False.elim h
      | ret u =>
        obtain ⟨v, H', os, bare, un, hok', r', q⟩ := h
        have q' : v = .bl true := q
        subst q'
        obtain rfl : u = Value.bool true := r'
        have kp : ∀ b o, H b = none → s₁.heap.get? b = some o → s'.heap.get? b = some o := fun b o n e => un.keep b o e n (by intro z; exact absurd (show b ∈ ([] : List Addr) from z) (by simp)) (by simp)
        refine ⟨rfl, ⟨fun b o e => ?_, fun b o e => un.there b o e (by simp)⟩, os, bare⟩
        rcases hO b with z | ⟨ob, xs, z⟩ | ⟨u, z⟩
        · exact .inl (kp b o z e)
        · have z2 := un.frzs b ob _ z
          obtain ⟨e1, _⟩ := hok b _ z
          obtain ⟨e2, _⟩ := hok' b _ z2
          rw [e] at e1; cases e1
          exact .inl e2
        · obtain ⟨e1, e2⟩ := hA b u z
          rw [e] at e1; cases e1
          obtain ⟨ps, e3, _⟩ := hok' b _ (un.tbls b u z)
          exact .inr (.inl ⟨e2, rfl, #[], ps, rfl, by simpa using e3⟩)
  have tabNot : ∀ q, tabs.lookup a ≠ some q := fun q z => by
    have := (ht a q z).1
    rw [ha] at this; cases this
  have ta : tabs.lookup a = none := by
    cases z : tabs.lookup a with
    | none => rfl
    | some q => exact absurd z (tabNot q)
  have tabOk : ∀ (G : Hp) b q, tabs.lookup b = some q → ObjOk P w (tabsH tabs G) s₁.heap b (.tbl q) := fun G b q z => ⟨#[], (ht b q z).1, trivial, fun pos cv c => by cases c⟩
  cases hk : K.lookup a with
  | some o =>
    have e := KX a o hk
    rw [ha] at e
    cases e
    refine core (tabsH tabs fun _ => none) (fun b => ?_) (fun b q z => tabsH_in z) (.inr ⟨_, vs.toArray, _, hk, rfl, rfl, rfl, by rw [List.size_toArray, lenV]; exact hl, by simpa using rv⟩) (fun b u z => ?_) (fun b q z => ?_) (fun b o u z => ?_) fun b o u z => ?_
    all_goals cases zt : tabs.lookup b with
      | none => first | exact .inl (tabsH_out zt) | (rw [tabsH_out zt] at z; cases z)
      | some q' => first | exact .inr (.inr ⟨q', tabsH_in zt⟩) | (rw [tabsH_in zt] at z; cases z; done) | (rw [tabsH_in zt] at z; cases z; first | exact tabOk _ b _ zt | exact ht b _ zt)
  | none =>
    refine core (tabsH tabs fun b => if b = a then some (.frz { cls := .type "list", data := .seq vs.toArray } (.lst (ns.map V.int))) else none) (fun b => ?_) (fun b q z => tabsH_in z) (.inl (.inr ⟨{ cls := .type "list", data := .seq vs.toArray }, by rw [tabsH_out ta, if_pos rfl]⟩)) (fun b u z => ?_) (fun b q z => ?_) (fun b o u z => ?_) fun b o u z => ?_
    all_goals cases zt : tabs.lookup b with
      | some q' => first | exact .inr (.inr ⟨q', tabsH_in zt⟩) | (rw [tabsH_in zt] at z; cases z; done) | (rw [tabsH_in zt] at z; cases z; first | exact tabOk _ b _ zt | exact ht b _ zt)
      | none =>
        first
        | rw [tabsH_out zt] at z
        | rw [tabsH_out zt]
        by_cases hb : b = a
        · first
          | rw [if_pos hb] at z
          | rw [if_pos hb]
          first
          | exact .inr (.inl ⟨_, _, rfl⟩)
          | (cases z; subst hb; exact ⟨ha, by rw [List.length_map]; exact hl, vs, _, rv, ha⟩)
          | exact hb
          | (rw [hb]; exact hk)
          | cases z
        · first
          | (rw [if_neg hb] at z; cases z)
          | exact .inl (if_neg hb)
/-- the tables, by what K says -/
def tabsOf (L : List (Str × Option (Addr × Addr))) : List (Addr × Str) := L.filterMap fun p => p.2.map fun q => (q.2, lamQ p.1)
/-- L says where the tables of lamNames lie in K, all apart -/
structure TabsFit (K : PySem.W.Frag) (L : List (Str × Option (Addr × Addr))) : Prop where
  names : L = lamNames.map fun x => (x, PySem.W.tabIn K x)
  apart : ((tabsOf L).map (·.1)).Nodup
  none : PySem.W.noTabs K = true
theorem lookup_of_mem {α β : Type} [BEq α] [LawfulBEq α] : ∀ {l : List (α × β)} {a : α} {b : β}, (l.map (·.1)).Nodup → (a, b) ∈ l → l.lookup a = some b
  | (c, d) :: l, a, b, nd, h => by
    rw [List.lookup_cons]
    rcases List.mem_cons.mp h with e | h
    · cases e; simp
    · have ne : a ≠ c := fun z => (List.nodup_cons.mp nd).1 (by rw [← z]; exact List.mem_map.mpr ⟨(a, b), h, rfl⟩)
      rw [show (a == c) = false by simpa using ne]
      exact lookup_of_mem (List.nodup_cons.mp nd).2 h
theorem mem_of_lookup' {α β : Type} [BEq α] [LawfulBEq α] : ∀ {l : List (α × β)} {a : α} {b : β}, l.lookup a = some b → (a, b) ∈ l
  | (c, d) :: l, a, b, h => by
    rw [List.lookup_cons] at h
    cases e : a == c with
    | true => rw [e] at h; cases h; rw [eq_of_beq e]; exact List.mem_cons_self
    | false => rw [e] at h; exact List.mem_cons_of_mem _ (mem_of_lookup' h)
theorem TabsFit.tb {K : PySem.W.Frag} {L : List (Str × Option (Addr × Addr))} (F : TabsFit K L) {H : Hp} (h : ∀ b q, (tabsOf L).lookup b = some q → H b = some (.tbl q)) : Tb K H := fun x hx c P e => by
  refine h P (lamQ x) (lookup_of_mem F.apart ?_)
  rw [F.names]
  exact List.mem_filterMap.mpr ⟨(x, PySem.W.tabIn K x), List.mem_map.mpr ⟨x, hx, rfl⟩, by rw [e]; rfl⟩
theorem tab_no {K : PySem.W.Frag} {x : Str} (e : PySem.W.nsIn K mainGlobals x = some none) : PySem.W.tabIn K x = none := by unfold PySem.W.tabIn; rw [e]
theorem tab_yes {K : PySem.W.Frag} {x : Str} {f c P : Addr} {oc oc' : Value} {od od' : Option Addr} {osl osl' : Array (Option Value)} {fd : FuncData} {vs : Array Value} (e1 : PySem.W.nsIn K mainGlobals x = some (some (.ref f))) (e2 : K.lookup f = some ⟨oc, od, .func fd, osl⟩) (e3 : fd.code = .ref c)
    (e4 : K.lookup c = some ⟨oc', od', .fields vs, osl'⟩) (e5 : vs[11]? = some (.ref P)) : PySem.W.tabIn K x = some (c, P) := by unfold PySem.W.tabIn; simp only [e1, e2, e3, e4, e5]
theorem tabs_fit {K : PySem.W.Frag} {t0 t1 t2 t3 : Option (Addr × Addr)} (h0 : PySem.W.tabIn K "in_order" = t0) (h1 : PySem.W.tabIn K "has_seal" = t1) (h2 : PySem.W.tabIn K "is_first_death" = t2) (h3 : PySem.W.tabIn K "bases_by" = t3)
    (ap : ((tabsOf [("in_order", t0), ("has_seal", t1), ("is_first_death", t2), ("bases_by", t3)]).map (·.1)).Nodup) (nt : PySem.W.noTabs K = true) : TabsFit K [("in_order", t0), ("has_seal", t1), ("is_first_death", t2), ("bases_by", t3)] :=
  ⟨by subst h0; subst h1; subst h2; subst h3; rfl, ap, nt⟩
/-- from the law's promise to what the head leaves -/
theorem walkD {l : PySem.W.OpenLaw} {q : Program} {loose : List Str} {XP : (Str → Option Value) → Heap → Prop} {YP : World → Heap → Prop} {d : DefRec} {K : Params → PySem.W.Frag} {k : Nat} {x : Str} {f : List D → Option (D × Bool)} {L : List (Str × Option (Addr × Addr))} (hn : l.most = some 63) (hdf : d.params.defaults = []) (hr : Room k callerA)
    (hY : ∀ (w : World) (h : Heap), YP w h → (K w.params).In h) (hT : ∀ w : World, TabsFit (K w.params) L) (hD : (L.all fun p => p.2.isNone || ((recsOf q).find? fun e => e.name == p.1).isSome) = true)
    (F : ∀ (w : World) (mg : Str → Option Value) (fa : Addr) (h : Heap), (K w.params).In h → h.Ns mainGlobals mg → mg d.name = some (.ref fa) →
      ∃ fd : FuncData, (∀ (s : Shared) (u : Value), BindsTo s fd ⟨[u], []⟩ [(x, u)]) ∧ ∀ base : Heap, (K w.params).In base → base.Ns mainGlobals mg → FnOk l.prog w (K w.params) mg base CX0 k fa fd [x] (spD (K w.params) f))
    (ht : ∀ ns : List Int, ns.length ≤ 63 → ∃ b, f [.lst (ns.map .int)] = some (.bl true, b)) : PySem.W.WalkO q loose XP YP l.row.toRowW d [] (fun f vs => PySem.call f vs) := by
  refine Att.attach_call hn hdf fun w s₀ s₁ mg mb fa o pm cd doc a vs ns G Y ho hd hcd hmg hobj hints hlen hg => ?_
  have KX := hY w _ Y
  obtain ⟨fd, hb, hF⟩ := F w mg fa _ KX G.T.g hmg
  refine call_head (tabsOf L) (fun b u e => ?_) (hT w).none KX G.T.g G.T.b G.T.builtins G.T.nolimit G.T.bmain hg hobj hints (Nat.le_trans hlen (by decide)) hr hF hb fun H hH hS => ?_
  · obtain ⟨p, hp, e2⟩ := List.mem_filterMap.mp (mem_of_lookup' e)
    obtain ⟨⟨c, P⟩, e3, e4⟩ := Option.map_eq_some_iff.mp e2
    cases e4
    have hp' := List.all_eq_true.mp hD p hp
    rw [e3] at hp'
    rw [Option.isNone_some, Bool.false_or] at hp'
    obtain ⟨r, hr'⟩ := Option.isSome_iff_exists.mp hp'
    have ht' : PySem.W.tabIn (K w.params) p.1 = some (c, P) := by
      rw [(hT w).names] at hp
      obtain ⟨y, _, rfl⟩ := List.mem_map.mp hp
      exact e3
    obtain ⟨h1, h2⟩ := PySem.W.tab_of G.T KX hr' ht'
    exact ⟨h2, (h1.tab h2).isCodeTable⟩
  · obtain ⟨b, e⟩ := ht ns hlen
    exact ⟨H, _, _, b, ⟨.refl H, (hT w).tb hH⟩, .cons (.lst hS (.flat rfl)) .nil, e, fun v H' N x' i' _ => by cases i'; rfl⟩
end DL

namespace DL
open PySem PySem.Spec PyProof.Rows L2
/-- the law's own def: one function object for every base -/
theorem Def.law {P : Program} {w : World} {K : PySem.W.Frag} {mg : Str → Option Value} {x y : Str} {st : Stmt} {N : List Str} {k : Nat} {g : FS} {h : Heap} {fa : Addr} (F : Def K x st) (X : K.In h) (G : h.Ns mainGlobals mg) (hfa : mg x = some (.ref fa)) (S : FnScope N [y] (defScope st))
    (hbd : ∀ (kV doc pm : Value) (an : Option Addr) (cdv ct : Value) (u : Value), bindArgs (PySem.W.fnOf x x (defArgs st) (defBody st) (defScope st) .none kV doc pm an cdv ct) ⟨[u], []⟩ = pure [(y, u)])
    (hb : ∀ (base : Heap), K.In base → base.Ns mainGlobals mg → ∀ (f : Addr) (cdv : Value) (A : Around) (outer : List PySem.Env) (s : Shared) (H : Hp) (E : XK), Room k (A.deeper (envOfC x (defScope st) s.heap.objs.size f cdv)) → JSs (cxOf CX0 P w K mg base N x (defScope st) f cdv A outer s H E).nox (defBody st) g) :
    ∃ fd : FuncData, (∀ (s : Shared) (u : Value), BindsTo s fd ⟨[u], []⟩ [(y, u)]) ∧ ∀ base : Heap, K.In base → base.Ns mainGlobals mg → FnOk P w K mg base CX0 (k + 1) fa fd [y] (spD K (bodyF g 1 (N.length - 1))) := by
  obtain ⟨f, fd, F1, a⟩ := F
  have e := hfa.symm.trans (PySem.W.mg_of X G a)
  cases e
  refine ⟨fd, fun s u => ?_, fun base kb nb => fn_D F1 S (hb base kb nb _)⟩
  obtain ⟨oc, od, kV, doc, pm, an, cdv, ct, osl, rfl, lk, hcd⟩ := F1.ex
  exact .of_eq (hbd kV doc pm an cdv ct u)
end DL

namespace DL
open PySem PySem.Spec PyProof.Rows L2
section
variable {X : Cx} {a b e : Expr} {pos : Pos} {x : Str} {p : Pos}
/-! ### + of lists and tuples, of truths -/
@[simp] def lCat : D → D → Option (D × Bool)
  | .lst xs, .lst ys => if xs.length + ys.length ≤ sizeLine then some (.lst (xs ++ ys), true) else none
  | _, _ => none
theorem o_lcat : OpR X (binaryOp .Add) (rD X.K lCat) := by
  intro pins s σ H x y v u Q I rx ry q
  obtain ⟨B, dx, dy, d, bb, sB, ix, iy, ee, q⟩ := q
  cases ix <;> cases iy <;> try (simp [lCat] at ee; done)
  rename_i l vs ds h hl l' ws es h' hl'
  simp only [lCat] at ee
  split at ee
  · rename_i hz
    cases ee
    cases rx
    cases ry
    obtain ⟨its, r1, p1, z1⟩ := I.list (sB.seq h)
    obtain ⟨jts, r2, p2, z2⟩ := I.list (sB.seq h')
    obtain ⟨⟨c1, d1, t1, s1⟩, o1, e1, n1, k1⟩ := p1.isList
    obtain ⟨⟨c2, d2, t2, s2⟩, o2, e2, n2, k2⟩ := p2.isList
    dsimp only at e1 k1 e2 k2
    subst e1; subst k1; subst e2; subst k2
    have hsz : its.toArray.size + jts.toArray.size ≤ sizeLine := by
      rw [List.size_toArray, List.size_toArray, ← r1.length, ← r2.length, hl.length, hl'.length]; exact hz
    have ea : its.toArray ++ jts.toArray = (its ++ jts).toArray := by simp
    refine concat_meets ⟨_, o1, rfl⟩ ⟨_, o2, rfl⟩ noFill_list_add seq_list_add PySem.F.slot_list_add PySem.F.entry_list_add (PySem.F.args_list_add_2 _ _) (list_addW l l' its.toArray jts.toArray n1 n2 d1 d2 s1 s2 hsz) ⟨o1, o2, ?_⟩
    rw [ea]
    have xt := Ext.laid (o := .lst (vs ++ ws)) sB I.fresh
    have il := (hl.append hl').mono xt.bn
    exact ⟨.ref s.heap.objs.size, _, I.lnew (t' := s.toks) (r1.append r2) (by rw [List.length_append, hl.length, hl'.length]; exact hz), rfl, q _ _ _ xt (.lst (SqL.of upd_same) il) fun _ => ⟨_, _, _, rfl, rfl, I.fresh, upd_same, il⟩⟩
  · cases ee
@[simp] def tCat : D → D → Option (D × Bool)
  | .tup xs, .tup ys => if xs.length + ys.length ≤ sizeLine ∧ xs.isEmpty = false then some (.tup (xs ++ ys), false) else none
  | _, _ => none
theorem o_tcat : OpR X (binaryOp .Add) (rD X.K tCat) := by
  refine opr_to op_catT fun x y H Q q => ?_
  obtain ⟨B, dx, dy, d, bb, sB, ix, iy, ee, q⟩ := q
  cases ix <;> cases iy <;> try (simp [tCat] at ee; done)
  rename_i l vs ds h hl l' ws es h' hl'
  simp only [tCat] at ee
  split at ee
  · rename_i hz
    cases ee
    have l1 := hl.length
    have l2 := hl'.length
    refine ⟨l, l', vs, ws, rfl, rfl, same_seqT sB h, same_seqT sB h', fun z => ?_, by omega, fun z => ?_, fun _ pp hp => ?_⟩
    · subst z
      cases hl
      simp at hz
    · subst z
      cases hl'
      rw [List.append_nil] at q
      exact q.one sB (.tup h hl)
    · have xt := Ext.laid (o := .tup (vs ++ ws)) sB hp
      exact q _ _ _ xt (.tup (SqT.of upd_same) ((hl.append hl').mono xt.bn)) (by simp)
  · cases ee
@[simp] def bAdd : D → D → Option (D × Bool)
  | .bl i, .int j => some (.int ((if i = true then 1 else 0) + j), false)
  | .int i, .bl j => some (.int (i + b2i j), false)
  | _, _ => none
theorem o_badd : OpR X (binaryOp .Add) (rD X.K bAdd) := by
  intro pins s σ H x y v u Q I rx ry q
  obtain ⟨B, dx, dy, d, bb, sB, ix, iy, ee, q⟩ := q
  cases ix <;> cases iy <;> try (simp [bAdd] at ee; done)
  · simp only [bAdd] at ee
    cases ee
    cases rx
    obtain ⟨t, rfl⟩ := ry
    exact IntBool.add_bool_int ⟨.int _, H, I.tok _, ⟨_, rfl⟩, q.one sB (.int _)⟩
  · simp only [bAdd] at ee
    cases ee
    exact op_add_ib pins s σ H _ _ v u Q I rx ry ⟨_, _, rfl, rfl, q.one sB (.int _)⟩
@[simp] def dAdd : D → D → Option (D × Bool)
  | .int i, .int j => some (.int (i + j), false)
  | .str i, .str j => if i.length + j.length ≤ sizeLine then some (.str (i ++ j), false) else none
  | .lst xs, .lst ys => if xs.length + ys.length ≤ sizeLine then some (.lst (xs ++ ys), true) else none
  | .tup xs, .tup ys => if xs.length + ys.length ≤ sizeLine ∧ xs.isEmpty = false then some (.tup (xs ++ ys), false) else none
  | .bl i, .int j => some (.int ((if i = true then 1 else 0) + j), false)
  | .int i, .bl j => some (.int (i + b2i j), false)
  | _, _ => none
theorem o_dadd : OpR X (binaryOp .Add) (rD X.K dAdd) := by
  refine opr_to (r := rD X.K (orD dAdd0 (orD lCat (orD tCat bAdd)))) (opr_or o_dadd0 (opr_or o_lcat (opr_or o_tcat o_badd))) fun x y H Q q => ?_
  obtain ⟨B, dx, dy, d, bb, sB, ix, iy, ee, q⟩ := q
  refine ⟨B, dx, dy, d, bb, sB, ix, iy, ?_, q⟩
  cases dx <;> cases dy <;> simp [dAdd] at ee <;> simp [orD, dAdd0, lCat, tCat, bAdd, ee]

/-! ### all -/
@[simp] def blD : D → Option Bool
  | .bl b => some b
  | _ => none
def blsD : List D → Option (List Bool)
  | [] => some []
  | d :: ds => (blD d).bind fun b => (blsD ds).map (b :: ·)
@[simp] theorem blsD_nil : blsD [] = some [] := rfl
@[simp] theorem blsD_cons (d : D) (ds : List D) : blsD (d :: ds) = (blD d).bind fun b => (blsD ds).map (b :: ·) := rfl
@[simp] def allD : List D → Option (D × Bool)
  | [.lst ds] => (blsD ds).map fun bs => (.bl (bs.all id), false)
  | _ => none
@[simp] def anyD : List D → Option (D × Bool)
  | [.lst ds] => (blsD ds).map fun bs => (.bl (bs.any id), false)
  | _ => none
end
end DL

namespace DL
open PySem PySem.Spec PyProof.Rows L2
/-! ### the signs of a text, walked -/
def Its (z : Str) : It := ⟨fun i _ => i < z.cps.size, fun i H v H' => H' = H ∧ ∃ c, z.cps[i]? = some c ∧ v = .str ⟨#[c]⟩, fun i _ => z.cps.size ≤ i⟩
theorem turn_signsA {P : Program} {w : World} {K : PySem.W.Frag} {tg : Expr} (z : Str) (t : Tok) (it : Addr) : Turn P w K tg (Its z) [it] it (fun i h => h.IsStrIter it "str_ascii_iterator" z t i) where
  mem := List.mem_singleton.mpr rfl
  obj := fun i h st b hb => by
    have eb := List.mem_singleton.mp hb
    subst eb
    obtain ⟨o, e1, _, d1⟩ := st
    exact ⟨o, e1, fun v zz => by rw [d1] at zz; cases zz⟩
  keep := fun i h h' st k => let ⟨o, e1, r⟩ := st; ⟨o, k it (List.mem_singleton.mpr rfl) o e1, r⟩
  item := by
    intro X hP hw hK hc i pins s σ H E I hf st hg
    subst hP hw hK
    have hg' : i < z.cps.size := hg
    obtain ⟨f0, f1, f2, f3, f4, f5⟩ := hf it (List.mem_singleton.mpr rfl)
    refine wpAny_pyNext_ascii_item st (c := z.cps[i]) (by simp [hg']) fun h' st' sb => ?_
    obtain ⟨o, e1, c1, d1⟩ := id st'
    exact ⟨_, rfl, go_of (s := { s with heap := h', toks := s.toks + 1 }) e1 c1 d1 (by decide) ⟨.str ⟨#[z.cps[i]]⟩, H, I.turned (fun b o hb e2 => (sb.2 b hb).trans e2) f0 f1 f3 f4 f5, ⟨_, rfl⟩, ⟨rfl, _, by simp [hg'], rfl⟩, st', fun b hb => (hf b hb).1⟩⟩
  done := by
    intro X hP hw hK hc i pins s σ H E I hf st hg
    subst hP hw hK
    have hg' : z.cps.size ≤ i := hg
    obtain ⟨f0, f1, f2, f3, f4, f5⟩ := hf it (List.mem_singleton.mpr rfl)
    exact wpAny_pyNext_ascii_end (I.ok.hd hc) st (by simp; omega) fun h' eb => ⟨rfl, I.turned (t' := s.toks) (fun b o hb e2 => eb b o hb e2) f0 f1 f3 f4 f5⟩
  self := fun _ _ _ _ _ st h => wpAny_pyIter_striter_ascii st h
theorem turn_signsW {P : Program} {w : World} {K : PySem.W.Frag} {tg : Expr} (z : Str) (t : Tok) (it : Addr) : Turn P w K tg (Its z) [it] it (fun i h => h.IsStrIter it "str_iterator" z t i) where
  mem := List.mem_singleton.mpr rfl
  obj := fun i h st b hb => by
    have eb := List.mem_singleton.mp hb
    subst eb
    obtain ⟨o, e1, _, d1⟩ := st
    exact ⟨o, e1, fun v zz => by rw [d1] at zz; cases zz⟩
  keep := fun i h h' st k => let ⟨o, e1, r⟩ := st; ⟨o, k it (List.mem_singleton.mpr rfl) o e1, r⟩
  item := by
    intro X hP hw hK hc i pins s σ H E I hf st hg
    subst hP hw hK
    have hg' : i < z.cps.size := hg
    obtain ⟨f0, f1, f2, f3, f4, f5⟩ := hf it (List.mem_singleton.mpr rfl)
    refine wpAny_pyNext_wide_item st (c := z.cps[i]) (by simp [hg']) fun h' st' sb => ?_
    obtain ⟨o, e1, c1, d1⟩ := id st'
    exact ⟨_, rfl, go_of (s := { s with heap := h', toks := s.toks + 1 }) e1 c1 d1 (by decide) ⟨.str ⟨#[z.cps[i]]⟩, H, I.turned (fun b o hb e2 => (sb.2 b hb).trans e2) f0 f1 f3 f4 f5, ⟨_, rfl⟩, ⟨rfl, _, by simp [hg'], rfl⟩, st', fun b hb => (hf b hb).1⟩⟩
  done := by
    intro X hP hw hK hc i pins s σ H E I hf st hg
    subst hP hw hK
    have hg' : z.cps.size ≤ i := hg
    obtain ⟨f0, f1, f2, f3, f4, f5⟩ := hf it (List.mem_singleton.mpr rfl)
    exact wpAny_pyNext_wide_end (I.ok.hd hc) st (by simp; omega) fun h' eb => ⟨rfl, I.turned (t' := s.toks) (fun b o hb e2 => eb b o hb e2) f0 f1 f3 f4 f5⟩
  self := fun _ _ _ _ _ st h => wpAny_pyIter_striter_wide st h
section
variable {X : Cx} {a b e : Expr} {pos : Pos} {x : Str} {p : Pos} {tg : Expr}
theorem pi_signs {l : Expr} {tl : TE} (hl : PE X l tl) : PI X tg l (fun σ H R => tl σ H fun x H1 => ∃ z, x = .str z ∧ R (Its z) H1) := by
  intro pins s σ H R I h
  refine thn (hl pins s σ H _ I h) fun v s1 ⟨x, H1, I1, r1, q1⟩ => ?_
  obtain ⟨z, rfl, q⟩ := q1
  obtain ⟨t, rfl⟩ := r1
  have fp : ∀ b ∈ [s1.heap.objs.size], FpOk X pins H1 b := fun b hb => by
    rw [List.mem_singleton.mp hb]
    exact I1.fpOk (Nat.le_refl _) (I1.hok.fresh (Nat.le_refl _))
  cases ha : z.cps.all (· < 128) with
  | true => exact wpAny_pyIter_ascii ha ⟨_, [s1.heap.objs.size], _, _, H1, rfl, I1.kept (t' := s1.toks) fun b o e => Heap.get?_push_of_some _ e, turn_signsA z t _, ⟨_, Heap.get?_push_size _ rfl, rfl, rfl⟩, fp, q⟩
  | false => exact wpAny_pyIter_wide ha ⟨_, [s1.heap.objs.size], _, _, H1, rfl, I1.kept (t' := s1.toks) fun b o e => Heap.get?_push_of_some _ e, turn_signsW z t _, ⟨_, Heap.get?_push_size _ rfl, rfl, rfl⟩, fp, q⟩
def signs (z : Str) : List D := z.cps.toList.map fun c => .str ⟨#[c]⟩
theorem it_signs {K : PySem.W.Frag} {B : Hp} (z : Str) : ItOk K (Its z) B (signs z) := by
  intro i H s
  refine ⟨fun d ed => ?_, fun hl => by unfold signs at hl; show z.cps.size ≤ i; simpa using hl⟩
  unfold signs at ed
  rw [List.getElem?_map] at ed
  obtain ⟨c, ec, rfl⟩ := Option.map_eq_some_iff.mp ed
  have ec' : z.cps[i]? = some c := by simpa using ec
  refine ⟨(Array.getElem?_eq_some_iff.mp ec').1, fun v H' hy => ?_⟩
  obtain ⟨rfl, c', e1, rfl⟩ := hy
  rw [ec'] at e1; cases e1
  exact ⟨B, .refl s, .str _⟩
@[simp] def walkOf : D → Option (List D)
  | .lst ds => some ds
  | .tup ds => some ds
  | .str z => some (signs z)
  | _ => none
@[simp] def iSeq (f : FE) : FA := fun ρ => (f ρ).bind fun x => walkOf x.1
theorem ji_seq {f : FE} (h : JE X e f) : JI X tg e (iSeq f) := by
  intro pins s σ H R I q
  obtain ⟨B, ρ, ds, sB, r, e', q⟩ := q
  obtain ⟨xx, ex, es⟩ := Option.bind_eq_some_iff.mp e'
  obtain ⟨xd, xb⟩ := xx
  cases xd with
  | lst l => exact ji_seq0 h pins s σ H R I ⟨B, ρ, ds, sB, r, by unfold iSeq0; rw [ex]; exact es, q⟩
  | tup l => exact ji_seq0 h pins s σ H R I ⟨B, ρ, ds, sB, r, by unfold iSeq0; rw [ex]; exact es, q⟩
  | str z =>
    cases es
    refine pi_signs h pins s σ H R I ⟨B, ρ, _, _, sB, r, ex, fun v H1 N1 x1 i1 _ => ?_⟩
    cases i1
    exact ⟨z, rfl, q _ H1 N1 x1 (it_signs z)⟩
  | _ => cases es

/-! ### slices: of texts, of whole tuples -/
theorem sl_text : SlR X (fun x lo hi H Q => ∃ z, x = .str z ∧ z.length ≤ sizeLine ∧ Q (.str (Txt.slice z lo hi)) H) := by
  intro pins s σ H x v vl vu lo hi sl Q I rx hs pl pu h
  obtain ⟨z, rfl, hz, q⟩ := h
  obtain ⟨t, rfl⟩ := rx
  have fin : ∀ lo hi, Q (.str (Txt.slice z lo hi)) H → (Txt.slice z lo hi).length ≤ sizeLine ∧ ∀ t' k, EP X pins σ Q (.str (Txt.slice z lo hi) t') { s with toks := k } := fun lo hi q =>
    ⟨Nat.le_trans (Txt.slice_le z _ _) hz, fun t' k => ⟨.str _, H, I.tok k, ⟨t', rfl⟩, q⟩⟩
  refine ⟨"str", _, PySem.F.slot_str_getitem.lookup, typeIs_str _ _ _, ?_⟩
  cases pl with
  | none =>
    cases pu with
    | none => exact wpAny_getItem_str_slice (l := none) (u := none) (st := none) hs rfl (post_val_or_str (fin _ _ q))
    | int j tj => exact wpAny_getItem_str_slice (l := none) (u := some (j, tj)) (st := none) hs rfl (post_val_or_str (fin _ _ q))
  | int i ti =>
    cases pu with
    | none => exact wpAny_getItem_str_slice (l := some (i, ti)) (u := none) (st := none) hs rfl (post_val_or_str (fin _ _ q))
    | int j tj => exact wpAny_getItem_str_slice (l := some (i, ti)) (u := some (j, tj)) (st := none) hs rfl (post_val_or_str (fin _ _ q))
theorem tup_whole {A : Around} {E : Value → Shared → Prop} {s : Shared} {prog : Program} {w : World} {t sl : Addr} {items : Array Value} {vl vu : Value} {lo hi : Option Int} {Q : Value → Shared → Prop} (ht : IsTup s.heap t items) (hs : s.heap.IsSliceOf sl vl vu .none) (pl : IsPart vl lo) (pu : IsPart vu hi)
    (h0 : HT.sIx items.size 0 lo = 0) (h1 : HT.sIx items.size items.size hi = items.size) (h : Q (.ref t) s) : wpAny (model prog w) A (getItem (.ref t) (.ref sl)) Q E s := by
  obtain ⟨os, hos, hcs, hds⟩ := id hs
  have hT : s.TypeIs (.ref sl) "slice" := ⟨os, hos, hcs⟩
  unfold getItem
  try with_reducible refine wpAny_holding ?_
  first | refine wpAny_bind (wpAny_pure ?_) | skip
  refine wpAny_bind (wpAny_sequenceKey ht.typeIs (by decide) ?_)
  refine wpAny_bind (wpAny_callSpecial?_slot (name := Str.ofString "__getitem__") ht.typeIs PyProof.Rows.slot_tuple_getitem (wpAny_call_entry PyProof.Rows.slot_tuple_getitem ht.typeIs entry_tuple_getitem ?_ (args_tuple_getitem _ _)))
  show wpAny _ _ (Builtin.Tuple.tupleItemsOf (.ref t) >>= _) _ _ s
  refine wpAny_bind (tupleItemsOf_ ht ?_)
  refine wpAny_bind (wpAny_typeOf hT ?_)
  rw [if_pos (by decide)]
  refine wpAny_bind (HT.sliceApplied_gen hs pl pu ?_)
  have yes : (((HT.sIx items.size 0 lo : Nat) : Int) == 0 && (1 : Int) == 1 && (HT.sIx items.size items.size hi - HT.sIx items.size 0 lo) == items.size) = true := by
    rw [h0, h1]; simp
  show wpAny _ _ (if (((HT.sIx items.size 0 lo : Nat) : Int) == 0 && (1 : Int) == 1 && (HT.sIx items.size items.size hi - HT.sIx items.size 0 lo) == items.size) = true then _ else _) _ _ s
  rw [if_pos yes]
  refine wpAny_bind ?_
  unfold Builtin.Tuple.tupleIsExact
  refine wpAny_bind (wpAny_typeOf ht.typeIs (wpAny_pure ?_))
  show wpAny _ _ (if ((Value.type "tuple") == Value.type "tuple") = true then _ else _) _ _ s
  rw [if_pos (by decide)]
  refine wpAny_bind (wpAny_rule ?_)
  exact wpAny_pure ⟨_, rfl, wpAny_pure h⟩
theorem sl_tupW : SlR X (fun x lo hi H Q => ∃ a xs, x = .ref a ∧ SqT X.K H a xs ∧ HT.sIx xs.length 0 lo = 0 ∧ HT.sIx xs.length xs.length hi = xs.length ∧ Q (.ref a) H) := by
  intro pins s σ H x v vl vu lo hi sl Q I rx hs pl pu h
  obtain ⟨a, xs, rfl, hx, h0, h1, q⟩ := h
  cases rx
  obtain ⟨its, r, ht, hz⟩ := I.tuple hx
  have hlen : its.toArray.size = xs.length := by rw [List.size_toArray]; exact r.length.symm
  refine ⟨"tuple", _, PyProof.Rows.slot_tuple_getitem.lookup, ht.typeIs, ?_⟩
  exact tup_whole ht hs pl pu (by rw [hlen]; exact h0) (by rw [hlen]; exact h1) ⟨.ref a, H, I, rfl, q⟩
@[simp] def fSl (fa : FE) (fl fh : FO) : FE := fun ρ => (fa ρ).bind fun x => (fl ρ).bind fun l => (fh ρ).bind fun h => match x.1 with
  | .lst ds => some (.lst (cutD ds l h), true)
  | .tup ds => some (.tup (cutD ds l h), false)
  | .str z => if z.length ≤ sizeLine then some (.str (Txt.slice z l h), false) else none
  | _ => none
theorem cutD_whole {ds : List D} {lo hi : Option Int} (h0 : HT.sIx ds.length 0 lo = 0) (h1 : HT.sIx ds.length ds.length hi = ds.length) : cutD ds lo hi = ds := by
  unfold cutD; rw [h0, h1]; simp
theorem je_slice {lo hi : Option Expr} {p2 : Pos} {fa : FE} {fl fh : FO} (ha : JE X e fa) (hl : JO X lo fl) (hh : JO X hi fh) : JE X (.Subscript e (.Slice lo hi none p2) pos) (fSl fa fl fh) := by
  refine PE.to (pe_slice (SlR.or (SlR.or sl_list sl_tup) (SlR.or sl_text sl_tupW)) ha hl hh) fun σ H Q q => ?_
  obtain ⟨B, ρ, d, b, sB, r, e, q⟩ := q
  obtain ⟨x, ex, e⟩ := Option.bind_eq_some_iff.mp e
  obtain ⟨l, el, e⟩ := Option.bind_eq_some_iff.mp e
  obtain ⟨h, eh, e⟩ := Option.bind_eq_some_iff.mp e
  refine ⟨B, ρ, x.1, x.2, sB, r, ex, fun v H1 N1 x1 i1 _ => ⟨N1, ρ, l, x1.nh, r.mono x1.bn, el, fun H2 h2 => ⟨N1, ρ, h, x1.nh.trans h2, r.mono x1.bn, eh, fun H3 h3 => ?_⟩⟩⟩
  have s3 : Same N1 H3 := x1.nh.trans (h2.trans h3)
  have q3 := q.into (x1.trans (.grow x1.nh (h2.trans h3)))
  obtain ⟨xd, xb⟩ := x
  dsimp only at e i1
  cases i1 with
  | @tup a' vs ds hs hv =>
    cases e
    by_cases hw : HT.sIx ds.length 0 l = 0 ∧ HT.sIx ds.length ds.length h = ds.length
    · rw [cutD_whole hw.1 hw.2] at q3
      exact .inr (.inr ⟨a', vs, rfl, same_seqT s3 hs, by rw [hv.length]; exact hw.1, by rw [hv.length]; exact hw.2, q3.one s3 (.tup hs hv)⟩)
    · refine .inl (.inr ⟨a', vs, rfl, same_seqT s3 hs, by rw [hv.length]; exact hw, fun p hp => ?_⟩)
      have x4 := Ext.laid (o := .tup (cutV vs l h)) s3 hp
      exact q3 _ _ _ x4 (.tup (SqT.of upd_same) ((cut_isL hv).mono x4.bn)) (by simp)
  | @lst a' vs ds hs hv =>
    cases e
    refine .inl (.inl ⟨a', vs, rfl, s3.seq hs, fun p hp => ?_⟩)
    have x4 := Ext.laid (o := .lst (cutV vs l h)) s3 hp
    exact q3 _ _ _ x4 (.lst (SqL.of upd_same) ((cut_isL hv).mono x4.bn)) fun _ => ⟨p, _, _, rfl, rfl, hp, upd_same, (cut_isL hv).mono x4.bn⟩
  | str z =>
    dsimp only at e
    split at e
    · rename_i hz
      cases e
      exact .inr (.inl ⟨z, rfl, hz, q3.one s3 (.str _)⟩)
    · cases e
  | _ => cases e

/-! ### constants of the module -/
/-- flat values, as they are written -/
def flatIs : Value → D → Bool
  | .none, .non => true
  | .bool a, .bl b => a == b
  | .int i _, .int j => decide (i = j)
  | .str i _, .str j => decide (i = j)
  | _, _ => false
def flatsIs : List Value → List D → Bool
  | [], [] => true
  | u :: us, d :: ds => flatIs u d && flatsIs us ds
  | _, _ => false
theorem flatIs_is {K : PySem.W.Frag} {B : Hp} : ∀ {u : Value} {d : D}, flatIs u d = true → ∃ v, RelV v u ∧ Is K B v d
  | .none, .non, _ => ⟨.non, rfl, .non⟩
  | .bool a, .bl b, h => by
    have : a = b := eq_of_beq h
    subst this; exact ⟨.bl a, rfl, .bl a⟩
  | .int i t, .int j, h => by
    have : i = j := of_decide_eq_true h
    subst this; exact ⟨.int i, ⟨t, rfl⟩, .int i⟩
  | .str i t, .str j, h => by
    have : i = j := of_decide_eq_true h
    subst this; exact ⟨.str i, ⟨t, rfl⟩, .str i⟩
theorem flatsIs_is {K : PySem.W.Frag} : ∀ {us : List Value} {ds : List D}, flatsIs us ds = true → ∃ vs, L2.Vals vs us ∧ ∀ B, IsL K B vs ds
  | [], [], _ => ⟨[], .nil, fun _ => .nil⟩
  | u :: us, d :: ds, h => by
    rw [flatsIs, Bool.and_eq_true] at h
    obtain ⟨vs, r, i⟩ := flatsIs_is (K := K) h.2
    obtain ⟨v, r1, _⟩ := flatIs_is (K := K) (B := fun _ => none) h.1
    refine ⟨v :: vs, .cons r1 r, fun B => ?_⟩
    obtain ⟨v', r1', i'⟩ := flatIs_is (K := K) (B := B) h.1
    have : v' = v := by have z1 := r1.abs; rw [r1'.abs] at z1; exact Option.some.inj z1
    subst this
    exact .cons i' (i B)
theorem const_tup {K : PySem.W.Frag} {y : Str} {a : Addr} {od : Option Addr} {its : Array Value} {n : Nat} {osl : Array (Option Value)} {ds : List D} (e : PySem.W.nsIn K mainGlobals y = some (some (.ref a)))
    (l : K.lookup a = some ⟨.type "tuple", od, .seq its n, osl⟩) (h : (decide (its.size ≤ 1000) && flatsIs its.toList ds) = true) : ∃ u v, PySem.W.nsIn K mainGlobals y = some (some u) ∧ RelV v u ∧ ∀ B, Is K B v (.tup ds) := by
  rw [Bool.and_eq_true] at h
  obtain ⟨vs, r, i⟩ := flatsIs_is (K := K) h.2
  exact ⟨_, .ref a, e, rfl, fun B => .tup (.inr ⟨_, its, n, l, rfl, rfl, Nat.le_of_lt (Nat.lt_of_le_of_lt (of_decide_eq_true h.1) (by decide)), r⟩) (i B)⟩
end
end DL

namespace DL
open PySem PySem.Spec PyProof.Rows L2
section
variable {X : Cx} {a b o e : Expr} {pos : Pos} {x : Str} {p : Pos} {tg : Expr}
/-! ### a text's method with one argument -/
@[simp] def strD : D → Option Str
  | .str z => some z
  | _ => none
def strsD : List D → Option (List Str)
  | [] => some []
  | d :: ds => (strD d).bind fun z => (strsD ds).map (z :: ·)
@[simp] theorem strsD_nil : strsD [] = some [] := rfl
@[simp] theorem strsD_cons (d : D) (ds : List D) : strsD (d :: ds) = (strD d).bind fun z => (strsD ds).map (z :: ·) := rfl
@[simp] theorem strsD_map (zs : List Str) : strsD (zs.map D.str) = some zs := by
  induction zs with
  | nil => rfl
  | cons z zs ih => simp [ih]
theorem strs_are {K : PySem.W.Frag} {B : Hp} : ∀ {vs : List V} {ds : List D} {zs : List Str} {its : List Value}, L2.Vals vs its → IsL K B vs ds → strsD ds = some zs → StrsAre its zs
  | _, _, _, _, .nil, .nil, e => by cases e; exact .nil
  | _, _, _, _, .cons r rr, .cons i ii, e => by
    rw [strsD_cons] at e
    obtain ⟨z, e1, e⟩ := Option.bind_eq_some_iff.mp e
    obtain ⟨zs, e2, e⟩ := Option.map_eq_some_iff.mp e
    subst e
    cases i <;> simp only [strD] at e1 <;> try (cases e1; done)
    cases e1
    obtain ⟨t, rfl⟩ := r
    exact .cons _ t (strs_are rr ii e2)
@[simp] def joinD : D → D → Option (D × Bool)
  | .str sep, .lst ds => (strsD ds).bind fun zs => if (zs.map (·.length)).sum + zs.length * sep.length ≤ 16777216 then some (.str (Txt.join sep zs), false) else none
  | .str sep, .tup ds => (strsD ds).bind fun zs => if (zs.map (·.length)).sum + zs.length * sep.length ≤ 16777216 then some (.str (Txt.join sep zs), false) else none
  | _, _ => none
/-! ### targets of several names -/
def setsE : List Nat → List D → Env → Option Env
  | [], [], ρ => some ρ
  | i :: is, d :: ds, ρ => setsE is ds (ρ.set i (some (d, false)))
  | _, _, _ => none
@[simp] theorem setsE_nil (ρ : Env) : setsE [] [] ρ = some ρ := by rw [setsE]
@[simp] theorem setsE_cons (i : Nat) (is : List Nat) (d : D) (ds : List D) (ρ : Env) : setsE (i :: is) (d :: ds) ρ = setsE is ds (ρ.set i (some (d, false))) := by rw [setsE]
@[simp] theorem setsE_nc (d : D) (ds : List D) (ρ : Env) : setsE [] (d :: ds) ρ = none := by simp only [setsE]
@[simp] theorem setsE_cn (i : Nat) (is : List Nat) (ρ : Env) : setsE (i :: is) [] ρ = none := by simp only [setsE]
@[simp] def tgT (is : List Nat) : FG := fun d ρ => match d with | .tup ds => setsE is ds ρ | _ => none
def gNames : List Nat → TGs
  | [] => gNil
  | i :: is => gCons (gName i) (gNames is)
theorem bind_cut {N : Hp} {σ : St} {ρ : Env} {i : Nat} {v : V} {d : D} : Same (cut N (own σ ρ)) (cut N (own (σ.set i (some v)) (ρ.set i (some (d, false))))) := cut_mono fun a u e q => ⟨e, fun z => q (by
  rcases own_set z with ⟨_, d', p⟩ | ⟨j, _, d', q1, q2⟩
  · cases p
  · exact ⟨j, d', q1, q2⟩)⟩
theorem names_run {K : PySem.W.Frag} : ∀ {is : List Nat} {vs : List V} {ds : List D} {B0 H0 N H : Hp} {σ : St} {ρ ρ' : Env} {Q : St → Hp → Prop}, StN K B0 H0 N H σ ρ → IsL K (cut N (own σ ρ)) vs ds → setsE is ds ρ = some ρ' → (∀ σ', StN K B0 H0 N H σ' ρ' → Q σ' H) → gNames is vs σ H Q
  | [], _, _, _, _, _, _, _, _, _, _, s, .nil, e, k => by
    rw [setsE_nil] at e; cases e
    exact ⟨rfl, k _ s⟩
  | [], _, _, _, _, _, _, _, _, _, _, _, .cons _ _, e, _ => by simp at e
  | _ :: _, _, _, _, _, _, _, _, _, _, _, _, .nil, e, _ => by simp at e
  | i :: is, _, _, _, _, _, _, _, _, _, _, s, .cons h hs, e, k => by
    rw [setsE_cons] at e
    exact ⟨_, _, rfl, names_run (s.bind h) (hs.mono bind_cut) e k⟩
theorem setsE_len : ∀ {is : List Nat} {ds : List D} {ρ ρ' : Env}, setsE is ds ρ = some ρ' → ds.length = is.length
  | [], [], _, _, _ => rfl
  | _ :: _, _ :: _, _, _, e => by rw [setsE_cons] at e; simp [setsE_len e]
  | [], _ :: _, _, _, e => by simp at e
  | _ :: _, [], _, _, e => by simp at e
/-- the same for a comprehension's slots -/
theorem names_rep {K : PySem.W.Frag} {n : Nat} {B H : Hp} {ρ0 : Env} {Q : St → Hp → Prop} (cl : ∀ i, i < n → ρ0[i]? = some none) : ∀ {is : List Nat} {vs : List V} {ds : List D} {σ : St} {ρ ρ1 : Env}, (∀ i ∈ is, i < n) → RepE K B σ ρ → IsL K B vs ds → setsE is ds ρ = some ρ1 → ρ.length = σ.length → ρ.length = ρ0.length →
    (∀ σ1, RepE K B σ1 ρ1 → (∀ B', RepE K B' σ ρ0 → RepE K B' σ1 ρ0) → ρ0.length = σ1.length → Q σ1 H) → gNames is vs σ H Q
  | [], _, _, _, _, _, _, rp, .nil, e, l1, l2, k => by
    rw [setsE_nil] at e; cases e
    exact ⟨rfl, k _ rp (fun _ z => z) (by omega)⟩
  | [], _, _, _, _, _, _, _, .cons _ _, e, _, _, _ => by simp at e
  | _ :: _, _, _, _, _, _, _, _, .nil, e, _, _, _ => by simp at e
  | i :: is, _, _, σ, ρ, _, hn, rp, .cons (v := v) h hs, e, l1, l2, k => by
    rw [setsE_cons] at e
    have hi := hn i List.mem_cons_self
    have hiσ : i < σ.length := by
      have := (List.getElem?_eq_some_iff.mp (cl i hi)).1
      omega
    refine ⟨_, _, rfl, names_rep cl (fun j hj => hn j (List.mem_cons_of_mem _ hj)) ⟨rp.tb, fun j d b q => ?_⟩ hs e (by simpa using l1) (by simpa using l2) fun σ1 r1 r2 l => k σ1 r1 (fun B' z => r2 B' ⟨z.tb, fun j d b q => ?_⟩) l⟩
    · rcases set_get q with ⟨rfl, pp⟩ | ⟨ne, pp⟩
      · cases pp
        exact ⟨v, by simp [hiσ], h⟩
      · obtain ⟨w, h1, h2⟩ := rp.at' j d b pp
        exact ⟨w, by rw [List.getElem?_set_ne ne]; exact h1, h2⟩
    · obtain ⟨w, h1, h2⟩ := z.at' j d b q
      have ne : i ≠ j := fun z => by subst z; rw [cl i hi] at q; cases q
      exact ⟨w, by rw [List.getElem?_set_ne ne]; exact h1, h2⟩
theorem tge_T {K : PySem.W.Frag} {n : Nat} {is : List Nat} (hn : ∀ i ∈ is, i < n) : TGE K n (tgT is) (gTup K is.length (gNames is)) := by
  intro B H σ ρ ρ1 v d Q cl rep s h e hl k
  cases h with
  | @tup a vs ds ht hv =>
    have e' : setsE is ds ρ = some ρ1 := e
    exact ⟨a, vs, rfl, same_seqT s ht, by rw [hv.length]; exact setsE_len e', names_rep cl hn rep hv e' hl rfl k⟩
  | _ => cases e
end
end DL

namespace DL
open PySem PySem.Spec PyProof.Rows L2
section
variable {prog : Program} {w : World} {A : Around} {E : Value → Shared → Prop} {s : Shared}
/-! ### a tuple's iterator, drawn from -/
theorem drawT_item {it l : Addr} {i : Nat} {items : Array Value} {v : Value} {Q : Value → Shared → Prop} (st : s.heap.IsTupleIter it l i) (ht : s.heap.IsTuple l items) (hv : items[i]? = some v)
    (k : ∀ h', h'.IsTupleIter it l (i + 1) → Heap.SameBut it s.heap h' → Q v { s with heap := h' }) : wpAny (model prog w) A (Builtin.SmallTypes.nextOf (.ref it)) Q E s := by
  obtain ⟨o1, g1, c1, d1⟩ := id st
  obtain ⟨o2, g2, _, n2, d2⟩ := ht
  unfold Builtin.SmallTypes.nextOf
  refine wpAny_bind (wpAny_callSpecial?_slot (name := Str.ofString "__next__") st.typeIs PySem.F.slot_tuple_iterator_next (wpAny_call_entry PySem.F.slot_tuple_iterator_next st.typeIs PySem.F.entry_tuple_iterator_next ?_ (PySem.F.args_tuple_iterator_next_1 _)))
  show wpAny _ _ (field (.ref it) 0 >>= _) _ _ _
  refine wpAny_bind (wpAny_field g1 d1 (x := .ref l) rfl ?_)
  show wpAny _ _ (if (Value.ref l == Value.none) = true then _ else _) _ _ _
  rw [if_neg (fun z => Bool.false_ne_true z : ¬ ((Value.ref l == Value.none) = true))]
  show wpAny _ _ (field (.ref it) 1 >>= _) _ _ _
  refine wpAny_bind (wpAny_field g1 d1 (x := .int i 0) rfl ?_)
  show wpAny _ _ (seqItems? (.ref l) >>= _) _ _ _
  refine wpAny_bind (wpAny_seqItems g2 d2 ?_)
  simp only [hv, Int.toNat_natCast]
  refine wpAny_bind (wpAny_setField g1 d1 (by simp) (wpAny_pure ⟨v, rfl, wpAny_pure (k _ ?_ (Heap.SameBut.update ..))⟩))
  exact ⟨_, Heap.get?_update_self _ g1 (Obj.isFreed_of_fields (Obj.data_mapFields d1 _)), (Obj.cls_mapFields ..).trans c1, by rw [Obj.data_mapFields d1]; simp [rawInt]⟩
theorem drawT_end {it l : Addr} {i : Nat} {items : Array Value} {Q : Value → Shared → Prop} (hA : A.handled = none) (st : s.heap.IsTupleIter it l i) (ht : s.heap.IsTuple l items) (hv : items[i]? = none)
    (k : ∀ h' x, Heap.ExtBut it s.heap h' → (∃ o, h'.get? x = some o ∧ o.cls = .type "StopIteration") → E (.ref x) { s with heap := h' }) : wpAny (model prog w) A (Builtin.SmallTypes.nextOf (.ref it)) Q E s := by
  obtain ⟨o1, g1, c1, d1⟩ := id st
  obtain ⟨o2, g2, _, n2, d2⟩ := ht
  unfold Builtin.SmallTypes.nextOf
  refine wpAny_bind (wpAny_callSpecial?_slot (name := Str.ofString "__next__") st.typeIs PySem.F.slot_tuple_iterator_next (wpAny_call_entry PySem.F.slot_tuple_iterator_next st.typeIs PySem.F.entry_tuple_iterator_next ?_ (PySem.F.args_tuple_iterator_next_1 _)))
  show wpAny _ _ (field (.ref it) 0 >>= _) _ _ _
  refine wpAny_bind (wpAny_field g1 d1 (x := .ref l) rfl ?_)
  show wpAny _ _ (if (Value.ref l == Value.none) = true then _ else _) _ _ _
  rw [if_neg (fun z => Bool.false_ne_true z : ¬ ((Value.ref l == Value.none) = true))]
  show wpAny _ _ (field (.ref it) 1 >>= _) _ _ _
  refine wpAny_bind (wpAny_field g1 d1 (x := .int i 0) rfl ?_)
  show wpAny _ _ (seqItems? (.ref l) >>= _) _ _ _
  refine wpAny_bind (wpAny_seqItems g2 d2 ?_)
  simp only [hv, Int.toNat_natCast]
  refine wpAny_bind (wpAny_rule (wpAny_bind (wpAny_setField g1 d1 (by simp) ?_)))
  show wpAny _ _ (newExc (.type "StopIteration") [] >>= _) _ _ _
  refine wpAny_bind ?_
  simp only [newTuple, newExc]
  refine wpAny_bind (wpAny_newObj_type ?_ (by size_fits))
  refine wpAny_bind (m := firstArgMember _ _) (wpAny_of_eq (a := Value.none) (by first | (simp only [firstArgMember]; rfl) | rfl) ?_)
  refine wpAny_newObj_type ?_ (by size_fits)
  simp only [raiseNew]
  refine wpAny_bind (wpAny_handled ?_)
  first | rw [hA] | rw [show A.in1.handled = none from hA]
  exact wpAny_bind (wpAny_pure (wpAny_throw (k _ _ (((Heap.SameBut.update ..).extBut.push _).push _) ⟨_, Heap.get?_push_size _ rfl, rfl⟩)))
end

/-! ### lists and tuples alike, as they are walked -/
def KIt : Bool → Heap → Addr → Addr → Nat → Prop
  | true, h, it, a, i => h.IsListIter it a i
  | false, h, it, a, i => h.IsTupleIter it a i
def KSq : Bool → Heap → Addr → Array Value → Prop
  | true, h, a, items => h.IsList a items
  | false, h, a, items => h.IsTuple a items
def SqK (k : Bool) (K : PySem.W.Frag) (H : Hp) (a : Addr) (xs : List V) : Prop := match k with | true => SqL K H a xs | false => SqT K H a xs
theorem KIt.ob {k : Bool} {h : Heap} {it a : Addr} {i : Nat} (st : KIt k h it a i) : ∃ o, h.get? it = some o ∧ ∀ v, o.data ≠ .cell v := by
  cases k <;> (obtain ⟨o, g, _, d⟩ := st; exact ⟨o, g, fun v z => by rw [d] at z; cases z⟩)
theorem KIt.upon {k : Bool} {h h' : Heap} {it a : Addr} {i : Nat} (st : KIt k h it a i) (g : ∀ o, h.get? it = some o → h'.get? it = some o) : KIt k h' it a i := by
  cases k <;> (obtain ⟨o, e, r⟩ := st; exact ⟨o, g o e, r⟩)
theorem KSq.upon {k : Bool} {h h' : Heap} {a : Addr} {items : Array Value} (st : KSq k h a items) (g : ∀ o, h.get? a = some o → h'.get? a = some o) : KSq k h' a items := by
  cases k <;> (obtain ⟨o, e, r⟩ := st; exact ⟨o, g o e, r⟩)
theorem KSq.lt {k : Bool} {h : Heap} {a : Addr} {items : Array Value} (st : KSq k h a items) : a < h.objs.size := by
  cases k <;> (obtain ⟨o, e, r⟩ := st; exact Heap.lt_size e)
theorem SqK.same {k : Bool} {K : PySem.W.Frag} {H H' : Hp} {a : Addr} {xs : List V} (h : SqK k K H a xs) (e : Same H H') : SqK k K H' a xs := by
  cases k
  · exact same_seqT e h
  · exact e.seq h
theorem SqK.vals {X : Cx} {pins : List (Addr × Obj)} {σ : St} {H : Hp} {s : Shared} {k : Bool} {a : Addr} {xs : List V} (I : Inv X pins σ H s) (h : SqK k X.K H a xs) : ∃ its : List Value, Vals xs its ∧ KSq k s.heap a its.toArray ∧ xs.length ≤ sizeLine := by
  cases k
  · exact I.tuple h
  · obtain ⟨its, r, p, z⟩ := I.list h
    exact ⟨its, r, p.isList, z⟩
theorem SqK.inj {X : Cx} {pins : List (Addr × Obj)} {σ : St} {H : Hp} {s : Shared} {k : Bool} {a : Addr} {xs ys : List V} (I : Inv X pins σ H s) (h : SqK k X.K H a xs) (h' : SqK k X.K H a ys) : xs = ys := by
  cases k
  · exact I.tuple_inj h h'
  · exact I.list_inj h h'
section
variable {prog : Program} {w : World} {A : Around} {E : Value → Shared → Prop} {s : Shared}
theorem draw_item {k : Bool} {it l : Addr} {i : Nat} {items : Array Value} {v : Value} {Q : Value → Shared → Prop} (st : KIt k s.heap it l i) (ht : KSq k s.heap l items) (hv : items[i]? = some v)
    (q : ∀ h', KIt k h' it l (i + 1) → Heap.SameBut it s.heap h' → Q v { s with heap := h' }) : wpAny (model prog w) A (Builtin.SmallTypes.nextOf (.ref it)) Q E s := by
  cases k
  · exact drawT_item st ht hv q
  · exact wpAny_nextOf_list_item st ht hv q
theorem draw_end {k : Bool} {it l : Addr} {i : Nat} {items : Array Value} {Q : Value → Shared → Prop} (hA : A.handled = none) (st : KIt k s.heap it l i) (ht : KSq k s.heap l items) (hv : items[i]? = none)
    (q : ∀ h' x, Heap.ExtBut it s.heap h' → (∃ o, h'.get? x = some o ∧ o.cls = .type "StopIteration") → E (.ref x) { s with heap := h' }) : wpAny (model prog w) A (Builtin.SmallTypes.nextOf (.ref it)) Q E s := by
  cases k
  · exact drawT_end hA st ht hv q
  · exact wpAny_nextOf_list_end hA st ht hv q
end
end DL

namespace DL
open PySem PySem.Spec PyProof.Rows L2
def itO (k : Bool) (l : Addr) : Obj := { cls := .type (if k = true then "list_iterator" else "tuple_iterator"), data := .fields #[.ref l, .int 0 0] }
theorem pyIterK {prog : Program} {w : World} {A : Around} {E : Value → Shared → Prop} {s : Shared} {k : Bool} {l : Addr} {items : Array Value} {Q : Value → Shared → Prop} (ht : KSq k s.heap l items)
    (q : Q (.ref s.heap.objs.size) { s with heap := s.heap.push (itO k l) }) : wpAny (model prog w) A (pyIter (.ref l)) Q E s := by
  cases k
  · exact wpAny_pyIter_tuple ht q
  · exact wpAny_pyIter_list ht q
theorem KSq.push {k : Bool} {h : Heap} {a : Addr} {items : Array Value} (st : KSq k h a items) (o : Obj) : KSq k (h.push o) a items := st.upon fun _ e => Heap.get?_push_of_some _ e
section
variable (k1 k2 : Bool) (h : Heap) (l1 l2 : Addr)
end
section
variable {prog : Program} {w : World} {A : Around} {E : Value → Shared → Prop} {s : Shared}
/-- the addresses of a zip are unlike -/
structure ZApart (z TI TO i1 i2 : Addr) : Prop where
  tz : TI ≠ z
  oz : TO ≠ z
  az : i1 ≠ z
  bz : i2 ≠ z
  oa : TO ≠ i1
  ob : TO ≠ i2
  to : TI ≠ TO
  ta : TI ≠ i1
  tb : TI ≠ i2
  ab : i1 ≠ i2
end
end DL

namespace DL
open PySem PySem.Spec PyProof.Rows L2
section
variable {prog : Program} {w : World} {A : Around} {E : Value → Shared → Prop} {s : Shared}
end
/-- several records of an iterator turn -/
theorem turnedS {X : Cx} {pins : List (Addr × Obj)} {σ : St} {H : Hp} {s : Shared} {h' : Heap} {t' : Nat} {ch : List Addr} (I : Inv X pins σ H s) (f : ∀ b ∈ ch, FpOk X pins H b) (k : ∀ b o, b ∉ ch → s.heap.get? b = some o → h'.get? b = some o) : Inv X pins σ H { s with heap := h', toks := t' } := by
  have nit : ∀ b u, H b = some u → b ∉ ch := fun b u e z => by rw [(f b z).1] at e; cases e
  refine I.step (g' := s.gens) (d' := s.drawn) (ch := ch) (fun b hb => ?_) (fun b o _ _ hc e _ => k b o hc e) (fun b o _ _ hc e _ => ⟨o.slots, k b o hc e⟩) (fun _ _ _ _ n => n)
    (fun b o hc e => ⟨o, k b o hc e⟩) (fun _ _ e => e) (fun _ _ _ e => e) (fun _ _ e => e) (fun m hm => ?_) (fun b u e => ?_) I.bare
  · obtain ⟨_, f1, _, f3, f4, f5⟩ := f b hb
    exact ⟨f3, f1, f4, f5⟩
  · obtain ⟨o, es, ep, ho, r⟩ := hm
    exact ⟨o, es, ep, k _ o (fun z => (f _ z).2.1 rfl) ho, r⟩
  · refine (I.hok b u e).stay (fun c v hc q => k c v ?_ q) (fun _ q => q) (fun _ _ q => q) fun _ _ _ q => q
    rcases hc with z | z
    · rw [z]; exact nit b u e
    · exact nit c _ z
/-- .. and a new object is laid -/
theorem laidS {X : Cx} {pins : List (Addr × Obj)} {σ : St} {H : Hp} {s : Shared} {h' : Heap} {t' : Nat} {ch : List Addr} {a : Addr} {ob : HO} (I : Inv X pins σ H s) (f : ∀ b ∈ ch, FpOk X pins H b) (k : ∀ b o, b ∉ ch → s.heap.get? b = some o → h'.get? b = some o) (ha : s.heap.objs.size ≤ a)
    (new : ObjOk X.prog X.w (upd H a ob) h' a ob) : Inv X pins σ (upd H a ob) { s with heap := h', toks := t' } := by
  have hn : H a = none := I.hok.fresh ha
  have nit : ∀ b u, H b = some u → b ∉ ch := fun b u e z => by rw [(f b z).1] at e; cases e
  have na : ∀ b o, s.heap.get? b = some o → b ≠ a := fun b o e => Nat.ne_of_lt (Nat.lt_of_lt_of_le (Heap.lt_size e) ha)
  refine I.step (g' := s.gens) (d' := s.drawn) (ch := ch) (fun b hb => ?_) (fun b o _ _ hc e _ => k b o hc e) (fun b o _ _ hc e _ => ⟨o.slots, k b o hc e⟩) (fun b o _ e n => by rw [upd_ne (na b o e)]; exact n)
    (fun b o hc e => ⟨o, k b o hc e⟩) (fun b xs e => by rw [upd_ne (ne_of_none e hn)]; exact e) (fun b o u e => by rw [upd_ne (ne_of_none e hn)]; exact e) (fun b ps e => by rw [upd_ne (ne_of_none e hn)]; exact e) (fun m hm => ?_) (fun b u e => ?_) I.bare
  · obtain ⟨_, f1, _, f3, f4, f5⟩ := f b hb
    exact ⟨f3, f1, f4, f5⟩
  · obtain ⟨o, es, ep, ho, r⟩ := hm
    exact ⟨o, es, ep, k _ o (fun z => (f _ z).2.1 rfl) ho, r⟩
  · by_cases hb : b = a
    · subst hb; rw [upd_same] at e; cases e; exact new
    · rw [upd_ne hb] at e
      refine (I.hok b u e).stay (fun c v hc q => k c v ?_ q) (fun c q => ?_) (fun c xs q => ?_) fun c o xs q => ?_
      · rcases hc with z | z
        · rw [z]; exact nit b u e
        · exact nit c _ z
      · rw [upd_ne (ne_of_none q hn)]; exact q
      · rw [upd_ne (ne_of_none q hn)]; exact q
      · rw [upd_ne (ne_of_none q hn)]; exact q
section
variable {X : Cx} {a b e : Expr} {pos : Pos} {p : Pos}
def zipD (xs ys : List D) : List D := List.zipWith (fun x y => .tup [x, y]) xs ys
@[simp] def iZip (fa fb : FE) : FA := fun ρ => (fa ρ).bind fun x => (fb ρ).bind fun y => (seqOf x.1).bind fun xs => (seqOf y.1).map fun ys => zipD xs ys
theorem seq_K {K : PySem.W.Frag} {B : Hp} {v : V} {d : D} {ds : List D} (h : Is K B v d) (e : seqOf d = some ds) : ∃ k a vs, v = .ref a ∧ SqK k K B a vs ∧ IsL K B vs ds := by
  cases h with
  | tup ht hl => cases e; exact ⟨false, _, _, rfl, ht, hl⟩
  | lst ht hl => cases e; exact ⟨true, _, _, rfl, ht, hl⟩
  | _ => cases e
end
end DL

namespace DL
open PySem PySem.Spec PyProof.Rows L2
/-! ### a name gives up what it owns -/
def unown1 (ρ : Env) (i : Nat) : Env := match ρ[i]? with
  | some (some (d, true)) => ρ.set i (some (d, false))
  | _ => ρ
theorem StN.unown1 {K : PySem.W.Frag} {B0 H0 N H : Hp} {σ : St} {ρ : Env} (s : StN K B0 H0 N H σ ρ) (i : Nat) : StN K B0 H0 N H σ (unown1 ρ i) := by
  unfold DL.unown1
  split
  · rename_i d hd
    obtain ⟨a, vs, ds, rfl, h1, h2, h3, h4⟩ := s.ow i d hd
    have get : ∀ {j : Nat} {e : D} {b : Bool}, (ρ.set i (some (.lst ds, false)))[j]? = some (some (e, b)) → (i = j ∧ e = .lst ds ∧ b = false) ∨ (i ≠ j ∧ ρ[j]? = some (some (e, b))) := fun q => by
      rcases set_get q with ⟨z, p⟩ | ⟨z, p⟩
      · cases p; exact .inl ⟨z, rfl, rfl⟩
      · exact .inr ⟨z, p⟩
    have o : ∀ c, own σ (ρ.set i (some (.lst ds, false))) c → own σ ρ c ∧ c ≠ a := fun c ⟨j, e, q1, q2⟩ => by
      rcases get q1 with ⟨_, _, z⟩ | ⟨ne, q⟩
      · cases z
      · exact ⟨⟨j, e, q, q2⟩, fun z => by subst z; exact ne (s.inj i j _ _ _ hd q h1 q2)⟩
    have c : Same (cut N (own σ ρ)) (cut N (own σ (ρ.set i (some (.lst ds, false))))) := cut_mono fun b u e q => ⟨e, fun z => q (o b z).1⟩
    have na : ¬ own σ (ρ.set i (some (.lst ds, false))) a := fun z => (o a z).2 rfl
    refine ⟨s.bh, s.tb, s.ext, by rw [List.length_set]; exact s.len, fun j e q => ?_, fun j e q => ?_, fun j k b e f q q' z1 z2 => ?_⟩
    · rcases get q with ⟨rfl, rfl, _⟩ | ⟨_, q⟩
      · exact ⟨_, h1, .lst (SqL.of (by rw [cut_of na]; exact h2)) (h4.mono c)⟩
      · obtain ⟨v, k1, k2⟩ := s.sh j e q
        exact ⟨v, k1, k2.mono c⟩
    · rcases get q with ⟨_, _, z⟩ | ⟨_, q⟩
      · cases z
      · obtain ⟨a', ws, es, z, k1, k2, k3, k4⟩ := s.ow j e q
        exact ⟨a', ws, es, z, k1, k2, k3, k4.mono c⟩
    · rcases get q with ⟨_, _, z⟩ | ⟨_, q⟩
      · cases z
      · rcases get q' with ⟨_, _, z⟩ | ⟨_, q'⟩
        · cases z
        · exact s.inj j k b e f q q' z1 z2
  · exact s
@[simp] def gUn (is : List Nat) (g : FS) : FS := fun ρ => g (is.foldl unown1 ρ)
/-! ### continue, break, raise that is never reached -/
@[simp] def gCont : FS := fun ρ => some (.ct ρ)
@[simp] def gBreak : FS := fun ρ => some (.bk ρ)
@[simp] def gNever : FS := fun _ => none
section
variable {X : Cx} {pos : Pos}
end
end DL

namespace DL
open PySem PySem.Spec PyProof.Rows L2
/-! ### a dict of the module, its keys texts -/
inductive CRows (K : PySem.W.Frag) (P : Params) : List DictEntry → List (Str × D) → Prop where
  | nil : CRows K P [] []
  | tup {x : Str} {t : Tok} {h : Int} {a : Addr} {its : Array Value} {n : Nat} {osl : Array (Option Value)} {ds : List D} {r : List DictEntry} {kvs : List (Str × D)} (hh : h = PyData.keyHash P x)
      (l : K.lookup a = some ⟨.type "tuple", none, .seq its n, osl⟩) (f : (decide (its.size ≤ 1000) && flatsIs its.toList ds) = true) (tl : CRows K P r kvs) : CRows K P (⟨h, .str x t, .ref a⟩ :: r) ((x, .tup ds) :: kvs)
  | flat {x : Str} {t : Tok} {h : Int} {u : Value} {d : D} {r : List DictEntry} {kvs : List (Str × D)} (hh : h = PyData.keyHash P x) (f : flatIs u d = true) (tl : CRows K P r kvs) : CRows K P (⟨h, .str x t, u⟩ :: r) ((x, d) :: kvs)
theorem CRows.lit {K : PySem.W.Frag} {P : Params} : ∀ {es : List DictEntry} {kvs : List (Str × D)}, CRows K P es kvs → PySem.W.KeysLit P es
  | _, _, .nil => trivial
  | _, _, .tup hh _ _ tl => ⟨⟨_, _, rfl, hh⟩, tl.lit⟩
  | _, _, .flat hh _ tl => ⟨⟨_, _, rfl, hh⟩, tl.lit⟩
theorem CRows.find {K : PySem.W.Frag} {P : Params} (y : Str) : ∀ {es : List DictEntry} {kvs : List (Str × D)}, CRows K P es kvs → match kvs.lookup y with
    | none => es.find? (fun e => Value.isStrOf y e.key) = none
    | some d => ∃ e v, es.find? (fun e => Value.isStrOf y e.key) = some e ∧ RelV v e.val ∧ ∀ B, Is K B v d
  | _, _, .nil => rfl
  | _, _, .tup (x := x) (t := t) (a := a) (ds := ds) hh l f tl => by
    by_cases e : y = x
    · subst e
      rw [List.lookup_cons_self]
      rw [Bool.and_eq_true] at f
      obtain ⟨vs, r, i⟩ := flatsIs_is (K := K) f.2
      exact ⟨_, .ref a, List.find?_cons_of_pos (by simp [Value.isStrOf]), rfl, fun B => .tup (.inr ⟨_, _, _, l, rfl, rfl, Nat.le_of_lt (Nat.lt_of_le_of_lt (of_decide_eq_true f.1) (by decide)), r⟩) (i B)⟩
    · have ih := tl.find y
      rw [List.lookup_cons, beq_eq_false_iff_ne.mpr e]
      have nf : Value.isStrOf y (Value.str x t) = false := by
        rw [Bool.eq_false_iff]
        intro z
        obtain ⟨t', q⟩ := Value.isStrOf_shape z
        injection q with q1
        exact e q1.symm
      simp only [List.find?_cons, nf]
      exact ih
  | _, _, .flat (x := x) (t := t) (u := u) (d := d) hh f tl => by
    by_cases e : y = x
    · subst e
      rw [List.lookup_cons_self]
      obtain ⟨v, r1, _⟩ := flatIs_is (K := K) (B := fun _ => none) f
      refine ⟨_, v, List.find?_cons_of_pos (by simp [Value.isStrOf]), r1, fun B => ?_⟩
      obtain ⟨v', r1', i'⟩ := flatIs_is (K := K) (B := B) f
      have : v' = v := by have z1 := r1.abs; rw [r1'.abs] at z1; exact Option.some.inj z1
      subst this
      exact i'
    · have ih := tl.find y
      rw [List.lookup_cons, beq_eq_false_iff_ne.mpr e]
      have nf : Value.isStrOf y (Value.str x t) = false := by
        rw [Bool.eq_false_iff]
        intro z
        obtain ⟨t', q⟩ := Value.isStrOf_shape z
        injection q with q1
        exact e q1.symm
      simp only [List.find?_cons, nf]
      exact ih
def CDict (K : PySem.W.Frag) (P : Params) (a : Addr) (kvs : List (Str × D)) : Prop := ∃ es n, K.lookup a = some ⟨.type "dict", none, .dict es n, #[]⟩ ∧ CRows K P es.toList kvs ∧ (a == sysModules) = false
theorem const_dict {K : PySem.W.Frag} {P : Params} {y : Str} {a : Addr} {es : Array DictEntry} {n : Nat} {kvs : List (Str × D)} (e : PySem.W.nsIn K mainGlobals y = some (some (.ref a))) (l : K.lookup a = some ⟨.type "dict", none, .dict es n, #[]⟩) (r : CRows K P es.toList kvs) (s : (a == sysModules) = false) :
    ∃ a, PySem.W.nsIn K mainGlobals y = some (some (.ref a)) ∧ CDict K P a kvs := ⟨a, e, es, n, l, r, s⟩
section
variable {X : Cx} {a b e : Expr} {pos : Pos} {x : Str} {p : Pos}
theorem CDict.map {pins : List (Addr × Obj)} {σ : St} {H : Hp} {s : Shared} {d : Addr} {kvs : List (Str × D)} (I : Inv X pins σ H s) (h : CDict X.K X.w.params d kvs) : ∃ f : Str → Option Value, s.heap.MapOf (strKind X.prog X.w) d f ∧ (d == sysModules) = false ∧
    ∀ y, match kvs.lookup y with | none => f y = none | some dd => ∃ u v, f y = some u ∧ RelV v u ∧ ∀ B, Is X.K B v dd := by
  obtain ⟨es, n, l, r, sm⟩ := h
  refine ⟨_, PySem.W.mapOf_K I.kIn l r.lit, sm, fun y => ?_⟩
  have := r.find y
  have ff : findBy Value.isStrOf es y = (es.toList.find? fun e => Value.isStrOf y e.key).map (·.val) := by
    unfold findBy
    obtain ⟨es⟩ := es
    rw [List.find?_toArray]
  cases hl : kvs.lookup y with
  | none => rw [hl] at this; dsimp only at this ⊢; rw [ff, this]; rfl
  | some dd =>
    rw [hl] at this
    obtain ⟨en, v, e1, e2, e3⟩ := this
    exact ⟨en.val, v, by rw [ff, e1]; rfl, e2, e3⟩
@[simp] def cGet (kvs : List (Str × D)) : D → Option (D × Bool)
  | .str y => (kvs.lookup y).map fun d => (d, false)
  | _ => none
@[simp] def cIn (kvs : List (Str × D)) : D → Option (D × Bool)
  | .str y => some (.bl (kvs.lookup y).isSome, false)
  | _ => none
@[simp] def cNotIn (kvs : List (Str × D)) : D → Option (D × Bool)
  | .str y => some (.bl (!(kvs.lookup y).isSome), false)
  | _ => none
/-! ### list(..), tuple(..) -/
@[simp] def to_list : List D → Option (D × Bool)
  | [.lst ds] => some (.lst ds, true)
  | [.tup ds] => some (.lst ds, true)
  | _ => none
@[simp] def to_tuple : List D → Option (D × Bool)
  | [.lst ds] => some (.tup ds, false)
  | [.tup ds] => some (.tup ds, false)
  | _ => none
theorem c_tuple : CallR X (.type "tuple") (rDA X.K to_tuple) := by
  refine CallR.to call_tuple_of fun xs H Q q => ?_
  obtain ⟨B, ds, d, bb, sB, i, ee, q⟩ := q
  cases i with
  | nil => simp [to_tuple] at ee
  | cons i1 i2 =>
    cases i2 with
    | cons _ _ => cases i1 <;> simp [to_tuple] at ee
    | nil =>
      cases i1 <;> try (simp [to_tuple] at ee; done)
      · rename_i l0 vs es h hl
        simp only [to_tuple] at ee
        cases ee
        exact ⟨_, _, rfl, .inr ⟨same_seqT sB h, q.one sB (.tup h hl)⟩⟩
      · rename_i l0 vs es h hl
        simp only [to_tuple] at ee
        cases ee
        refine ⟨_, _, rfl, .inl ⟨sB.seq h, fun l hp => ?_⟩⟩
        have xt := Ext.laid (o := .tup vs) sB hp
        exact q _ _ _ xt (.tup (SqT.of upd_same) (hl.mono xt.bn)) (by simp)
end
end DL

namespace DL
open PySem PySem.Spec PyProof.Rows L2
section
variable {X : Cx} {a b e : Expr} {pos : Pos} {x : Str} {p : Pos}
/-! ### a, b = a list or tuple -/
@[simp] def gSetT (is : List Nat) (f : FE) : FS := fun ρ => (f ρ).bind fun x => (seqOf x.1).bind fun ds => (setsE is ds (if noLsts ds = true then ρ else unown ρ)).map .nx
/-! ### xs[k] = v, xs a name that owns its list -/
@[simp] def gPut (i : Nat) (fk fv : FE) : FS := fun ρ => match ρ[i]? with
  | some (some (.lst ds, true)) => (fv ρ).bind fun v => (fk ρ).bind fun k => match k.1 with
    | .int j => (ixN ds.length j).bind fun n => if noLst v.1 = true then some (.nx (ρ.set i (some (.lst (ds.set n v.1), true)))) else none
    | _ => none
  | _ => none
theorem js_put {i : Nat} {y : Str} {py pt : Pos} {k : Expr} {fk fv : FE} (hv : JE X e fv) (hk : JE X k fk) (hN : X.N[i]? = some y := by rfl) (hvis : Vis X.env.scope y := by first | exact Or.inl rfl | exact Or.inr (Or.inl rfl) | exact Or.inr (Or.inr rfl)) (hd : (y == ("__debug__" : Str)) = false := by decide)
    (hcd : (y == ("__classdict__" : Str)) = false := by decide)
    (ha : ∀ v, assign (.Subscript (.Name y py) k pt) X.env v = (do
      let ov ← holding [v] (eval (.Name y py) X.env)
      let iv ← holding [v, ov] (eval k X.env)
      standAt pt
      holding [v, ov, iv] (setItem ov iv v)
      release [v, ov, iv] []) := by intro _; rfl)
    (hs : swapsWithSole [.Subscript (.Name y py) k pt] e pos.line X.env = pure false := by rfl) (hw : swappedStores [.Subscript (.Name y py) k pt] e X.env = pure none := by rfl)
    (h1 : (assignEach [.Subscript (.Name y py) k pt] X.env).map (·.2) = [assign (.Subscript (.Name y py) k pt) X.env] := by rfl) : JS X (.Assign [.Subscript (.Name y py) k pt] e pos) (gPut i fk fv) := by
  refine PS.to (ps_asg hv (pg_sub (pe_var hN hvis hd hcd) hk set_list ha) hs hw h1) fun E σ H q => ?_
  obtain ⟨B0, H0, ρ, r, ⟨N, s⟩, ee, p⟩ := q
  unfold gPut at ee
  split at ee
  · rename_i ds ei
    obtain ⟨v, ev, ee⟩ := Option.bind_eq_some_iff.mp ee
    obtain ⟨kk, ek, ee⟩ := Option.bind_eq_some_iff.mp ee
    obtain ⟨kd, kb⟩ := kk
    cases kd with
    | int j =>
      dsimp only at ee
      obtain ⟨n, en, ee⟩ := Option.bind_eq_some_iff.mp ee
      split at ee
      · rename_i hn
        cases ee
        refine ⟨N, ρ, v.1, v.2, s.ext.nh, s.rep, ev, fun v1 H1 N1 x1 i1 _ => ?_⟩
        have s1 := s.grow x1
        obtain ⟨l, vs, ds', z, h1, h2, h3, h4⟩ := s1.ow i _ ei
        cases z
        refine ⟨_, h1, N1, ρ, _, _, s1.ext.nh, s1.rep, ek, fun kv H2 N2 x2 i2 _ => ?_⟩
        cases i2
        have s2 := s1.grow x2
        obtain ⟨l', vs', ds', z, k1, k2, k3, k4⟩ := s2.ow i _ ei
        cases z
        rw [h1] at k1; cases k1
        exact ⟨l, vs', j, n, rfl, rfl, s2.ext.nh _ _ k2, by rw [k4.length]; exact en, p σ _ ⟨_, s2.write ei h1 (IsL.set (s2.flat (i1.mono x2.bn) hn) n k4)⟩⟩
      · cases ee
    | _ => cases ee
  · cases ee

/-! ### methods that change an owned list -/
@[simp] def gOwn (i : Nat) (g : List D → Option (List D)) : FS := fun ρ => match ρ[i]? with
  | some (some (.lst ds, true)) => (g ds).map fun es => .nx (ρ.set i (some (.lst es, true)))
  | _ => none
/-- xs.extend(e): a new list of flat things -/
@[simp] def gExt (i : Nat) (f : FE) : FS := fun ρ => match ρ[i]? with
  | some (some (.lst ds, true)) => (f ρ).bind fun x => match x.1 with
    | .lst es => if x.2 = true ∧ noLsts es = true ∧ ds.length + es.length ≤ sizeLine then some (.nx (ρ.set i (some (.lst (ds ++ es), true)))) else none
    | _ => none
  | _ => none
@[simp] def intD : List D → Option (D × Bool)
  | [.int i] => some (.int i, false)
  | [.bl b] => some (.int (if b then 1 else 0), false)
  | _ => none
end
end DL

namespace DL
open PySem PySem.Spec PyProof.Rows L2
open AutoSeq1 (wpAny_loadPart')
set_option maxRecDepth 100000
/-! ### enumerate of a list or tuple -/
def sqT (k : Bool) : String := if k = true then "list" else "tuple"
theorem meets_enumK (k : Bool) (l : Addr) (items : Array Value) (n : Nat) (dct : Option Addr) (sl : Array (Option Value)) :
    Meets (Builtin.«enumerate.__new__» ⟨[.type "enumerate", .ref l], []⟩) (fun _ R s => s.heap.get? l = some { cls := .type (sqT k), dict := dct, data := .seq items n, slots := sl } ∧
      R (.ok (.ret (.ref (s.heap.push (itO k l)).objs.size))) { s with heap := (s.heap.push (itO k l)).push { cls := .type "enumerate", data := .fields #[.none, .bool false, .ref s.heap.objs.size, rawInt 0, .none, .none] } }) :=
  .of_wp fun prog w A R s hs => by
    obtain ⟨hp, g, d, tk, os⟩ := s; obtain ⟨hl, hs⟩ := hs
    have hsub := sub_enumerate
    have hL : KSq k (Shared.heap ⟨hp, g, d, tk, os⟩) l items := by cases k <;> exact ⟨_, hl, rfl, n, rfl⟩
    wp_walk using wpAny_loadPart' hl
    refine wpAny_stack_any fun st => wpAny_pure ?_
    split
    · rename_i c _ _ _ _ _
      cases (c == Value.type "enumerate")
      · wp_walk using wpAny_loadPart' hl, pyIterK hL
        exact ⟨_, rfl, hs⟩
      · wp_walk using wpAny_loadPart' hl, pyIterK hL
        exact ⟨_, rfl, hs⟩
    · wp_walk using wpAny_loadPart' hl, pyIterK hL
      exact ⟨_, rfl, hs⟩
section
variable {prog : Program} {w : World} {A : Around} {E : Value → Shared → Prop} {s : Shared}
theorem enum_new {k : Bool} {l : Addr} {items : Array Value} {Q : Value → Shared → Prop} (hL : KSq k s.heap l items)
    (q : ∀ h', IsEnum h' (s.heap.objs.size + 1) s.heap.objs.size 0 .none → KIt k h' s.heap.objs.size l 0 → (∀ b o, s.heap.get? b = some o → h'.get? b = some o) → Q (.ref (s.heap.objs.size + 1)) { s with heap := h' }) :
    wpAny (model prog w) A (call (.type "enumerate") [.ref l]) Q E s := by
  have hh : ∃ (dct : Option Addr) (sl : Array (Option Value)) (n : Nat), s.heap.get? l = some { cls := .type (sqT k), dict := dct, data := .seq items n, slots := sl } := by
    cases k <;> (obtain ⟨⟨c, dct, dt, sl⟩, hl, hc, n, hd⟩ := hL; dsimp only at hc hd; subst hc; subst hd; exact ⟨dct, sl, n, hl⟩)
  obtain ⟨dct, sl, n, hl⟩ := hh
  refine callType_new PySem.F.called_enumerate (by decide) (PySem.F.typeCall_enumerate_1 _) (PySem.F.newCall_enumerate_1 _) (fun obj => PySem.F.args_object_init_2 obj _) PySem.F.entry_enumerate_new (meets_enumK k l items n dct sl) ⟨hl, ?_⟩
  have n1 : (s.heap.push (itO k l)).objs.size = s.heap.objs.size + 1 := Heap.size_push ..
  have g2 : ((s.heap.push (itO k l)).push { cls := .type "enumerate", data := .fields #[.none, .bool false, .ref s.heap.objs.size, rawInt 0, .none, .none] }).get? (s.heap.push (itO k l)).objs.size = some _ := Heap.get?_push_size _ rfl
  have g1 : ((s.heap.push (itO k l)).push { cls := .type "enumerate", data := .fields #[.none, .bool false, .ref s.heap.objs.size, rawInt 0, .none, .none] }).get? s.heap.objs.size = some _ := Heap.get?_push_of_some _ (Heap.get?_push_size _ (by cases k <;> rfl))
  rw [n1] at g2
  show _ ∧ _
  rw [n1]
  refine ⟨⟨_, g2, rfl⟩, q _ g2 ?_ fun b o e => Heap.get?_push_of_some _ (Heap.get?_push_of_some _ e)⟩
  cases k <;> exact ⟨_, g1, rfl, rfl⟩
theorem drawsK (hA : A.handled = none) {k : Bool} (it l : Addr) (hne : l ≠ it) (items : Array Value) : Draws prog w A it [it, l] items.size (fun i v => items[i]? = some v) (fun i h => KIt k h it l i ∧ KSq k h l items) where
  live := fun i h st => let ⟨o, e, _⟩ := st.1.ob; ⟨o, e⟩
  frame := fun i h h' st kk => ⟨st.1.upon fun o e => kk it (by simp) o e, st.2.upon fun o e => kk l (by simp) o e⟩
  item := fun i s Q E hi st q => draw_item st.1 st.2 (v := items[i]) (by simp [hi]) fun h' st' sb => q _ h' s.toks (by simp [hi]) ⟨st', st.2.upon fun o e => sb.extBut _ _ hne e⟩ sb
  done := fun s Q E st q => draw_end hA st.1 st.2 (by simp) q
theorem drawsE (hA : A.handled = none) {k : Bool} (it l : Addr) (items : Array Value) (n : Nat) (hn : items[n]? = none) : Draws prog w A it [it, l] n (fun _ _ => True) (fun i h => (KIt k h it l i ∧ KSq k h l items) ∧ i = n) where
  live := fun i h st => let ⟨o, e, _⟩ := st.1.1.ob; ⟨o, e⟩
  frame := fun i h h' st kk => ⟨⟨st.1.1.upon fun o e => kk it (by simp) o e, st.1.2.upon fun o e => kk l (by simp) o e⟩, st.2⟩
  item := fun i s Q E hi st q => absurd st.2 (Nat.ne_of_lt hi)
  done := fun s Q E st q => draw_end hA st.1.1 st.1.2 hn q
end
def Ite (K : PySem.W.Frag) (k : Bool) (a : Addr) : It :=
  ⟨fun i H => ∃ xs x, SqK k K H a xs ∧ xs[i]? = some x,
   fun i H v H' => ∃ T x, v = .ref T ∧ H T = none ∧ H' = upd H T (.tup [.int i, x]) ∧ ∀ xs, SqK k K H a xs → xs[i]? = some x,
   fun i H => ∃ xs, SqK k K H a xs ∧ xs.length ≤ i⟩
theorem turn_enum {P : Program} {w : World} {K : PySem.W.Frag} {es : List Expr} {kt : Nat} {pt : Pos} {k : Bool} {a e it : Addr} (hei : e ≠ it) (hae : a ≠ e) (hai : a ≠ it) :
    Turn P w K (.Tuple es kt pt) (Ite K k a) [e, it] e (fun i h => (∃ old, IsEnum h e it i old) ∧ KIt k h it a i) where
  mem := by simp
  obj := fun i h st b hb => by
    obtain ⟨⟨old, he⟩, t1⟩ := st
    simp at hb
    rcases hb with rfl | rfl
    · exact ⟨_, he, fun v z => by cases z⟩
    · exact t1.ob
  keep := fun i h h' st kk => by
    obtain ⟨⟨old, he⟩, t1⟩ := st
    exact ⟨⟨old, kk e (by simp) _ he⟩, t1.upon fun o q => kk it (by simp) o q⟩
  item := by
    intro X hP hw hK hc i pins s σ H E I hf st hg
    subst hP hw hK
    obtain ⟨⟨old, he⟩, t1⟩ := st
    obtain ⟨xs, x, q1, hx⟩ := hg
    obtain ⟨its, r1, p1, z1⟩ := q1.vals I
    obtain ⟨u, hu, ru⟩ := r1.get hx
    have fresh : H s.heap.objs.size = none := I.hok.fresh (Nat.le_refl _)
    have ilt : i < its.toArray.size := by rw [List.size_toArray]; exact (List.getElem?_eq_some_iff.mp hu).1
    have hel : e ≠ s.heap.objs.size := Nat.ne_of_lt (Heap.lt_size he)
    have hil : it ≠ s.heap.objs.size := by obtain ⟨o, q, _⟩ := t1.ob; exact Nat.ne_of_lt (Heap.lt_size q)
    refine wpAny_pyNext_enum_itemD (drawsK (A := X.A.in1) (I.ok.hd hc) it a hai its.toArray) he ⟨t1, p1⟩ ilt hei (by simp [hei, hae.symm]) fun v h' tk hv ho st' hT hsz hk => ?_
    have ev : v = u := by
      have hv' : its[i]? = some v := by simpa using hv
      rw [hu] at hv'; exact (Option.some.inj hv').symm
    subst ev
    refine ⟨_, rfl, wpAny_letOwnedTupleGo_enum (s := { s with heap := h', toks := tk + 1 }) ho fun h2 he2 s2 => ?_⟩
    have s2' : Heap.SameBut e h' h2 := s2
    have kk : ∀ b o, b ∉ [e, it] → s.heap.get? b = some o → h2.get? b = some o := fun b o hb q => s2'.extBut _ _ (fun z => hb (by simp [z])) (hk b o (fun z => hb (by simp [z])) (fun z => hb (by simp [z])) q)
    have new : ObjOk X.prog X.w (upd H s.heap.objs.size (.tup [.int i, x])) h2 s.heap.objs.size (.tup [.int i, x]) := ⟨by show 2 ≤ sizeLine; decide, [.int i tk, v], .cons ⟨tk, rfl⟩ (.cons ru .nil), ⟨_, s2'.extBut _ _ hel.symm hT, rfl, _, rfl⟩⟩
    refine ⟨.ref s.heap.objs.size, upd H s.heap.objs.size (.tup [.int i, x]), laidS (s := s) (t' := tk + 1) I hf kk (Nat.le_refl _) new, rfl, ⟨_, x, rfl, fresh, rfl, fun zs hq => by rw [SqK.inj I hq q1]; exact hx⟩, ?_, fun b hb => ?_⟩
    · exact ⟨⟨_, by have := he2; rw [show ((i : Int) + 1) = ((i + 1 : Nat) : Int) by omega] at this; exact this⟩, st'.1.upon fun o q => s2'.extBut _ _ hei.symm q⟩
    · have hne : b ≠ s.heap.objs.size := by
        simp at hb
        rcases hb with rfl | rfl
        · exact hel
        · exact hil
      rw [upd_ne hne]; exact (hf b hb).1
  done := by
    intro X hP hw hK hc i pins s σ H E I hf st hg
    subst hP hw hK
    obtain ⟨⟨old, he⟩, t1⟩ := st
    obtain ⟨xs, q1, hl⟩ := hg
    obtain ⟨its, r1, p1, z1⟩ := q1.vals I
    have n1 := r1.length
    refine wpAny_pyNext_enum_endD (drawsE (A := X.A.in1) (I.ok.hd hc) it a its.toArray i (by simp; omega)) he ⟨⟨t1, p1⟩, rfl⟩ fun h' hk => ⟨rfl, ?_⟩
    exact turnedS (t' := s.toks) I hf fun b o hb q => hk b o (fun z => hb (by simp [z])) q
  self := fun _ _ _ _ _ st h => let ⟨⟨_, he⟩, _⟩ := st; wpAny_pyIter_enum he h
section
variable {X : Cx} {a b e : Expr} {pos : Pos} {p : Pos}
theorem b_enumerate : bootBuiltins "enumerate" = some (.type "enumerate") := by decide +kernel
def enumD (ds : List D) : List D := ds.mapIdx fun i d => .tup [.int i, d]
@[simp] def iEnum (fa : FE) : FA := fun ρ => (fa ρ).bind fun x => (seqOf x.1).map enumD
theorem it_enum {K : PySem.W.Frag} {N : Hp} {k : Bool} {l : Addr} {vs : List V} {ds : List D} (h1 : SqK k K N l vs) (i1 : IsL K N vs ds) : ItOk K (Ite K k l) N (enumD ds) := by
  intro i H' sm
  have n1 := i1.length
  refine ⟨fun d ed => ?_, fun hl => ⟨vs, h1.same sm, ?_⟩⟩
  · unfold enumD at ed
    rw [List.getElem?_mapIdx] at ed
    obtain ⟨x, e1, rfl⟩ := Option.map_eq_some_iff.mp ed
    obtain ⟨v, ev, iv⟩ := i1.get e1
    refine ⟨⟨vs, v, h1.same sm, ev⟩, fun r H2 hy => ?_⟩
    obtain ⟨T, v', rfl, hT, rfl, f1⟩ := hy
    have e3 := f1 vs (h1.same sm)
    rw [ev] at e3; cases e3
    have xt := Ext.laid (o := .tup [.int i, v]) sm hT
    exact ⟨_, xt, .tup (SqT.of upd_same) (.cons (.int _) (.cons (iv.mono xt.bn) .nil))⟩
  · unfold enumD at hl
    rw [List.length_mapIdx] at hl
    omega
theorem ji_enum {es : List Expr} {kt : Nat} {pt : Pos} {fa : FE} (hm : X.mg "enumerate" = none) (ha : JE X a fa) (hg : Gl X "enumerate" := by rfl) (hs : starEach [a] X.env = [(false, eval a X.env)] := by rfl) :
    JI X (.Tuple es kt pt) (.Call (.Name "enumerate" p) [a] [] pos) (iEnum fa) := by
  intro pins s σ H R I q
  refine Call_ (ld_blt I hg hm b_enumerate (PyProof.Rows.callWith_type1 (thn (ja_cons ha ja_nil hs pos pins s σ H (fun vs H1 => ∃ (k : Bool) (l : Addr) (us : List V), vs = [.ref l] ∧ SqK k X.K H1 l us ∧ R (Ite X.K k l) H1) I ?_) fun us s1 ⟨vs, H1, I1, r1, q1⟩ => ?_) hs rfl))
  · obtain ⟨B, ρ, ds, sB, r, ee, q⟩ := q
    obtain ⟨x1, ex, ee⟩ := Option.bind_eq_some_iff.mp ee
    obtain ⟨xs, exs, ee⟩ := Option.map_eq_some_iff.mp ee
    subst ee
    refine ⟨B, ρ, [x1.1], sB, r, by simp [fCons, fNil, ex], fun vs H1 N1 xt i1 => ?_⟩
    cases i1 with
    | cons j1 j2 =>
      cases j2
      obtain ⟨k1, l1, us, rfl, s1, m1⟩ := seq_K j1 exs
      exact ⟨k1, l1, us, rfl, s1.same xt.nh, q _ H1 N1 xt (it_enum s1 m1)⟩
  · obtain ⟨k, l, ws, rfl, h1, q⟩ := q1
    obtain ⟨u1, rfl, ru1⟩ := r1.one
    cases ru1
    obtain ⟨its, v1, p1, z1⟩ := h1.vals I1
    have lt1 := p1.lt
    refine enum_new p1 fun h' c1 c2 ck => ?_
    refine wpAny_pyIter_enum c1 ⟨s1.heap.objs.size + 1, [s1.heap.objs.size + 1, s1.heap.objs.size], _, _, H1, rfl, I1.kept (t' := s1.toks) ck,
      turn_enum (Nat.succ_ne_self _) (Nat.ne_of_lt (Nat.lt_succ_of_lt lt1)) (Nat.ne_of_lt lt1), ⟨⟨_, c1⟩, c2⟩, fun b hb => ?_, q⟩
    have hle : s1.heap.objs.size ≤ b := by
      simp at hb
      rcases hb with rfl | rfl
      · exact Nat.le_succ _
      · exact Nat.le_refl _
    exact I1.fpOk hle (I1.hok.fresh hle)
end
end DL

namespace DL
open PySem PySem.Spec PyProof.Rows
/-! ### sets of texts: laid -/
/-- what the table of a set of texts is: its names in some order, its marks -/
structure TabT (w : World) (es : Array (Int × Value)) (t : SetTable) : Prop where
  fits : t.fits es.size = true
  led : t.led = !w.params.followText "set-order"
  plain : es.size ≠ 0 → t.plain = false
def SetT (prog : Program) (w : World) (h : Heap) (a : Addr) (ts : List Str) : Prop :=
  ∃ o es ep t, h.get? a = some o ∧ o.ExactSet ∧ o.data = .set es ep t ∧ ElemsOf (PySem.strKind prog w) es.toList ∧ (es.toList.map (fun e => strOf e.2)).Perm ts ∧ ts.Nodup ∧ ts.length < scanBound ∧ TabT w es t
def addT (ts : List Str) (x : Str) : List Str := if x ∈ ts then ts else ts ++ [x]
section
variable {prog : Program} {w : World} {A : Around} {E : Value → Shared → Prop} {s : Shared}
end
end DL

namespace DL
open PySem PySem.Spec PyProof.Rows
/-! ### set(names) -/
def dedT (ss : List Str) : List Str := ss.foldl addT []
theorem StrsAre.at : ∀ {vs : List Value} {ss : List Str}, StrsAre vs ss → ∀ (i : Nat) (v : Value), vs[i]? = some v → ∃ x t, v = .str x t ∧ ss[i]? = some x
  | _, _, .nil, i, v, h => by simp at h
  | _, _, .cons x t hr, 0, v, h => by simp at h; exact ⟨x, t, h.symm, rfl⟩
  | _, _, .cons x t hr, i + 1, v, h => by
    simp only [List.getElem?_cons_succ] at h
    exact StrsAre.at hr i v h
theorem SetT.at {prog : Program} {w : World} {h h' : Heap} {a : Addr} {ts : List Str} (x : SetT prog w h a ts) (k : ∀ o, h.get? a = some o → h'.get? a = some o) : SetT prog w h' a ts := by
  obtain ⟨o, es, ep, t, ho, r⟩ := x
  exact ⟨o, es, ep, t, k o ho, r⟩
section
variable {prog : Program} {w : World} {A : Around} {R : Result → Shared → Prop} {I : Addr} {fp wr : List Addr} {G : Array GenState → Array GenState → Prop} {n : Nat} {P : Nat → Value → Prop} {St : Nat → Shared → Prop}
end
section
variable {prog : Program} {w : World} {A : Around} {E : Value → Shared → Prop} {s : Shared}
end
end DL

namespace DL
open PySem PySem.Spec PyProof.Rows
open Sem (wp)
/-! ### walking a set of texts -/
section
variable {M : Model} {A : Around} {E : Value → Shared → Prop} {s : Shared}
end
/-! facts -/
/-! the iterator -/
section
variable {prog : Program} {w : World} {A : Around} {E : Value → Shared → Prop} {s : Shared} {it S : Addr} {i ep : Nat} {o : Obj} {es : Array (Int × Value)} {t : SetTable}

end
end DL

namespace DL
open PySem PySem.Spec PyProof.Rows
section
variable {prog : Program} {w : World} {A : Around} {E : Value → Shared → Prop} {s : Shared} {it S : Addr} {i k ep : Nat} {o : Obj} {es : Array (Int × Value)} {t : SetTable}
end
section
variable {prog : Program} {w : World} {A : Around} {E : Value → Shared → Prop} {s : Shared}
end
end DL

namespace DL
open PySem PySem.Spec PyProof.Rows
section
variable {prog : Program} {w : World} {A : Around} {E : Value → Shared → Prop} {s : Shared}
end
end DL

namespace DL
open PySem PySem.Spec PyProof.Rows L2
/-! ### texts in their order -/
def insT (x : Str) : List Str → List Str
  | [] => [x]
  | y :: r => if ltCps y.cps.toList x.cps.toList then y :: insT x r else x :: y :: r
def sortT (l : List Str) : List Str := l.foldr insT []
/-! ### the calls -/
section
variable {X : Cx}
end
end DL

namespace DL
open PySem PySem.Spec PyProof.Rows L2
@[simp] def sortSetD : D → Option (D × Bool)
  | .lst ds => (strsD ds).bind fun ss => if ss.length < 64 then some (.lst ((sortT (dedT ss)).map .str), true) else none
  | _ => none
@[simp] def lenSetD : D → Option (D × Bool)
  | .lst ds => (strsD ds).bind fun ss => if ss.length < 4000 then some (.int ((dedT ss).length : Nat), false) else none
  | _ => none
section
variable {X : Cx} {e : Expr} {pos pos2 p p2 : Pos}
end
end DL

namespace DL
open PySem PySem.Spec PySem.W PyProof.Rows
/-! ### the sort's questions, answered by ranks -/
inductive Run (n : Nat) (lt : Nat → Nat → Bool) {α : Type} : KasT α → α → Prop where
  | ret (a : α) : Run n lt (.ret a) a
  | ask {i j : Nat} {k : Bool → KasT α} {a : α} (hi : i < n) (hj : j < n) (h : Run n lt (k (lt i j)) a) : Run n lt (.ask i j k) a
theorem Run.bind {n : Nat} {lt : Nat → Nat → Bool} {α β : Type} {t : KasT α} {f : α → KasT β} {a : α} {b : β} (h : Run n lt t a) (k : Run n lt (f a) b) : Run n lt (t.bind f) b := by
  induction h with
  | ret a => exact k
  | ask hi hj _ ih => exact .ask hi hj (ih k)
theorem Run.wp {n : Nat} {lt : Nat → Nat → Bool} {α : Type} {cmp : Nat → Nat → (Bool → Shared → Prop) → Shared → Prop} {Q : α → Shared → Prop} {t : KasT α} {a : α} (J : Shared → Prop)
    (hc : ∀ i j C s, i < n → j < n → J s → (∀ s', J s' → C (lt i j) s') → cmp i j C s) (h : Run n lt t a) : ∀ {s : Shared}, J s → (∀ s', J s' → Q a s') → t.kasWp cmp Q s := by
  induction h with
  | ret a => intro s hJ hQ; exact hQ s hJ
  | ask hi hj _ ih => intro s hJ hQ; exact hc _ _ _ _ hi hj hJ fun s' hJ' => ih hJ' hQ
section
variable {n : Nat} {rk : Nat → Int}
structure Arr (n : Nat) (p : Array Nat) : Prop where
  size : p.size = n
  perm : p.toList.Perm (List.range n)
theorem Arr.lt {p : Array Nat} (h : Arr n p) {k : Nat} (hk : k < n) : p.getD k 0 < n := by
  have hk' : k < p.size := by rw [h.size]; exact hk
  have : p.getD k 0 = p[k] := by rw [Array.getD_eq_getD_getElem?, Array.getElem?_eq_getElem hk']; rfl
  rw [this]
  exact List.mem_range.mp (h.perm.mem_iff.mp (by simp))
end
end DL

namespace DL
open PySem PySem.Spec PySem.W PyProof.Rows
/-! ### an order by codes -/
section
variable {α : Type} (f : α → List Int)
def insF (x : α) : List α → List α
  | [] => [x]
  | y :: r => if f y < f x then y :: insF x r else x :: y :: r
def sortF (l : List α) : List α := l.foldr (insF f) []
end
/-! ranks of codes -/
/-! ### atoms, and their codes -/
inductive At where
  | i (n : Int)
  | s (z : Str)
def enc : At → List Int
  | .i n => [n]
  | .s z => z.cps.toList.map (fun (c : Nat) => (c : Int) + 1) ++ [0]
def encs (xs : List At) : List Int := xs.flatMap enc
def lexA : List At → List At → Option Bool
  | [], ys => some (!ys.isEmpty)
  | _ :: _, [] => some false
  | .i a :: xs, .i b :: ys => if a = b then lexA xs ys else some (decide (a < b))
  | .s a :: xs, .s b :: ys => if a = b then lexA xs ys else some (decide (a.cps.toList < b.cps.toList))
  | _ :: _, _ :: _ => none
theorem code_lt : ∀ (a b : List Nat) (r r' : List Int), (a.map (fun (c : Nat) => (c : Int) + 1) ++ 0 :: r) < (b.map (fun (c : Nat) => (c : Int) + 1) ++ 0 :: r') ↔ a < b ∨ (a = b ∧ r < r')
  | [], [], r, r' => by simp [List.cons_lt_cons_iff]
  | [], y :: b, r, r' => by simp [List.cons_lt_cons_iff]
  | x :: a, [], r, r' => by simp [List.cons_lt_cons_iff]; omega
  | x :: a, y :: b, r, r' => by
    rw [List.map_cons, List.map_cons, List.cons_append, List.cons_append, List.cons_lt_cons_iff, code_lt a b r r', List.cons_lt_cons_iff]
    constructor
    · rintro (h | ⟨h, k | ⟨k1, k2⟩⟩)
      · exact .inl (.inl (by omega))
      · exact .inl (.inr ⟨by omega, k⟩)
      · exact .inr ⟨by rw [k1, show x = y by omega], k2⟩
    · rintro ((h | ⟨h, k⟩) | ⟨h, k⟩)
      · exact .inl (by omega)
      · exact .inr ⟨by omega, .inl k⟩
      · injection h with h1 h2
        exact .inr ⟨by omega, .inr ⟨h2, k⟩⟩
theorem encs_cons (x : At) (xs : List At) : encs (x :: xs) = enc x ++ encs xs := by unfold encs; rw [List.flatMap_cons]
theorem enc_ne (x : At) : enc x ≠ [] := by cases x <;> simp [enc]
theorem str_cps {a b : Str} : a.cps.toList = b.cps.toList ↔ a = b := by
  constructor
  · intro h
    obtain ⟨a⟩ := a; obtain ⟨b⟩ := b
    have : a = b := Array.toList_inj.mp h
    rw [this]
  · rintro rfl; rfl
theorem lex_enc : ∀ (xs ys : List At) (b : Bool), lexA xs ys = some b → b = decide (encs xs < encs ys)
  | [], [], b, h => by simp [lexA] at h; subst h; simp [encs]
  | [], y :: ys, b, h => by
    simp [lexA] at h; subst h
    rw [encs_cons]
    cases e : enc y with
    | nil => exact absurd e (enc_ne y)
    | cons c cs => simp [encs]
  | x :: xs, [], b, h => by simp [lexA] at h; subst h; simp [encs]
  | .i a :: xs, .i c :: ys, b, h => by
    rw [lexA] at h
    rw [encs_cons, encs_cons]
    show b = decide (a :: encs xs < c :: encs ys)
    split at h
    · rename_i e
      subst e
      rw [lex_enc xs ys b h]
      exact decide_eq_decide.mpr (by rw [List.cons_lt_cons_iff]; simp)
    · rename_i e
      cases h
      exact decide_eq_decide.mpr (by rw [List.cons_lt_cons_iff]; simp [e])
  | .s a :: xs, .s c :: ys, b, h => by
    rw [lexA] at h
    rw [encs_cons, encs_cons]
    have e0 : ∀ (z : Str) (r : List Int), enc (.s z) ++ r = z.cps.toList.map (fun (c : Nat) => (c : Int) + 1) ++ 0 :: r := fun z r => by simp [enc]
    rw [e0, e0]
    split at h
    · rename_i e
      subst e
      rw [lex_enc xs ys b h]
      exact decide_eq_decide.mpr (by rw [code_lt]; exact ⟨fun z => .inr ⟨rfl, z⟩, fun z => z.elim (fun q => absurd q (List.lt_irrefl _)) (·.2)⟩)
    · rename_i e
      cases h
      exact decide_eq_decide.mpr (by rw [code_lt, str_cps]; exact ⟨.inl, fun z => z.elim id fun q => absurd q.1 e⟩)
  | .i _ :: _, .s _ :: _, b, h => by simp [lexA] at h
  | .s _ :: _, .i _ :: _, b, h => by simp [lexA] at h
/-- every two of them may be compared -/
def compA (ks : List (List At)) : Bool := ks.all fun x => ks.all fun y => (lexA x y).isSome
theorem compA_get {ks : List (List At)} (h : compA ks = true) {x y : List At} (hx : x ∈ ks) (hy : y ∈ ks) : lexA x y = some (decide (encs x < encs y)) := by
  have := List.all_eq_true.mp (List.all_eq_true.mp h x hx) y hy
  obtain ⟨b, e⟩ := Option.isSome_iff_exists.mp this
  rw [e, lex_enc _ _ _ e]
end DL

namespace DL
open PySem PySem.Spec PySem.W PyProof.Rows
/-! ### sorting tuples of whole numbers and texts -/
def atV : At → Value → Prop
  | .i n, v => ∃ t, v = .int n t
  | .s z, v => ∃ t, v = .str z t
def TupV (h : Heap) (xs : List At) (v : Value) : Prop := ∃ a o its n, v = .ref a ∧ h.get? a = some o ∧ o.cls = .type "tuple" ∧ o.data = .seq its n ∧ Paired atV xs its.toList
theorem TupV.keep {h h' : Heap} {xs : List At} {v : Value} (x : TupV h xs v) (k : ∀ a o, o.cls = .type "tuple" → h.get? a = some o → h'.get? a = some o) : TupV h' xs v := by
  obtain ⟨a, o, its, n, e, ho, hc, r⟩ := x
  exact ⟨a, o, its, n, e, k a o hc ho, hc, r⟩
/-- the first parts are of one kind -/
def firstsOk (ks : List (List At)) : Bool := ks.all (fun x => match x with | .i _ :: _ => true | _ => false) || ks.all (fun x => match x with | .s _ :: _ => true | _ => false)
section
variable {prog : Program} {w : World} {A : Around} {E : Value → Shared → Prop} {s : Shared}
end
end DL

namespace DL
open PySem PySem.Spec PySem.W PyProof.Rows
section
variable {prog : Program} {w : World} {A : Around} {E : Value → Shared → Prop} {s : Shared}
end
end DL

namespace DL
open PySem PySem.Spec PySem.W PyProof.Rows L2
/-! ### sorted(a list), by values -/
def atomD : D → Option At
  | .int n => some (.i n)
  | .str z => some (.s z)
  | _ => none
def atomsD : List D → Option (List At)
  | [] => some []
  | d :: ds => (atomD d).bind fun a => (atomsD ds).map (a :: ·)
def keyD : D → Option (List At)
  | .tup es => atomsD es
  | _ => none
def keysD : List D → Option (List (List At))
  | [] => some []
  | d :: ds => (keyD d).bind fun a => (keysD ds).map (a :: ·)
def intsD : List D → Option (List Int)
  | [] => some []
  | .int n :: ds => (intsD ds).map (n :: ·)
  | _ :: _ => none
theorem keysD_len : ∀ {ds : List D} {ks : List (List At)}, keysD ds = some ks → ks.length = ds.length
  | [], _, h => by simp only [keysD] at h; cases h; rfl
  | d :: ds, _, h => by
    simp only [keysD] at h
    obtain ⟨a, h1, h⟩ := Option.bind_eq_some_iff.mp h
    obtain ⟨r, h2, h⟩ := Option.map_eq_some_iff.mp h
    subst h
    simp [keysD_len h2]
theorem keysD_get : ∀ {ds : List D} {ks : List (List At)}, keysD ds = some ks → ∀ {i : Nat}, i < ds.length → keyD (ds.getD i .non) = some (ks.getD i [])
  | [], _, h, i, hi => by simp at hi
  | d :: ds, _, h, 0, hi => by
    simp only [keysD] at h
    obtain ⟨a, h1, h⟩ := Option.bind_eq_some_iff.mp h
    obtain ⟨r, h2, h⟩ := Option.map_eq_some_iff.mp h
    subst h
    exact h1
  | d :: ds, _, h, i + 1, hi => by
    simp only [keysD] at h
    obtain ⟨a, h1, h⟩ := Option.bind_eq_some_iff.mp h
    obtain ⟨r, h2, h⟩ := Option.map_eq_some_iff.mp h
    subst h
    simp only [List.getD_cons_succ]
    exact keysD_get h2 (by simpa using hi)
section
variable {X : Cx}
theorem atoms_at {K : PySem.W.Frag} {B : Hp} : ∀ {vs : List V} {es : List D} {k : List At} {its : List Value}, Vals vs its → IsL K B vs es → atomsD es = some k → Paired atV k its
  | _, _, _, _, .nil, .nil, h => by simp only [atomsD] at h; cases h; exact .nil
  | _, _, _, _, .cons r rr, .cons i ii, h => by
    simp only [atomsD] at h
    obtain ⟨a, h1, h⟩ := Option.bind_eq_some_iff.mp h
    obtain ⟨t, h2, h⟩ := Option.map_eq_some_iff.mp h
    subst h
    refine .cons ?_ (atoms_at rr ii h2)
    cases i <;> simp only [atomD] at h1 <;> cases h1
    · exact r
    · exact r
theorem tups_at {pins : List (Addr × Obj)} {σ : St} {H : Hp} {s : Shared} (I : Inv X pins σ H s) : ∀ {ys : List V} {ds : List D} {ks : List (List At)} {its : List Value}, Vals ys its → IsL X.K H ys ds → keysD ds = some ks → Paired (TupV s.heap) ks its
  | _, _, _, _, .nil, .nil, h => by simp only [keysD] at h; cases h; exact .nil
  | _, _, _, _, .cons r rr, .cons i ii, h => by
    simp only [keysD] at h
    obtain ⟨a, h1, h⟩ := Option.bind_eq_some_iff.mp h
    obtain ⟨t, h2, h⟩ := Option.map_eq_some_iff.mp h
    subst h
    refine .cons ?_ (tups_at I rr ii h2)
    cases i <;> simp only [keyD] at h1 <;> try (cases h1; done)
    rename_i hq hl
    cases r
    obtain ⟨its', r', ⟨o, ho, hc, n, hd⟩, _⟩ := I.tuple hq
    exact ⟨_, o, _, n, rfl, ho, hc, hd, by simpa using atoms_at r' hl h1⟩
end
end DL

namespace DL
open PySem PySem.Spec PySem.W PyProof.Rows L2
section
variable {X : Cx}
theorem vals_ints : ∀ {its : List Value} {zs : List Int}, IntsAre its zs → Vals (zs.map V.int) its
  | _, _, .nil => .nil
  | _, _, .cons x t r => .cons ⟨t, rfl⟩ (vals_ints r)
end
end DL

namespace DL
open PySem PySem.Spec PyProof.Rows L2
section
variable {X : Cx} {e : Expr} {pos pos2 p p2 : Pos}
end
end DL

namespace DL
open PySem PySem.Spec PyProof.Rows L2
/-! ### xs.remove(n): whole numbers -/
section
variable {X : Cx} {pos : Pos}
@[simp] def gRem (i : Nat) (f : FE) : FS := fun ρ => match ρ[i]? with
  | some (some (.lst ds, true)) => (f ρ).bind fun x => (intsD ds).bind fun ns => match x.1 with
    | .int n => if ns.findIdx (· == n) < ns.length then some (.nx (ρ.set i (some (.lst ((ns.eraseIdx (ns.findIdx (· == n))).map .int), true)))) else none
    | _ => none
  | _ => none
end
end DL

namespace DL
open PySem PySem.Spec PyProof.Rows L2
/-! ### a text among a module's dict's keys, as a test -/
section
variable {X : Cx} {a : Expr} {pos : Pos} {x : Str} {p : Pos} {d : Addr} {kvs : List (Str × D)}
end
end DL

namespace DL
open PySem PySem.Spec PyProof.Rows L2
/-! ### D[w].index(x): D a dict of the module whose values are tuples of texts -/
section
variable {prog : Program} {w : World} {A : Around} {E : Value → Shared → Prop} {s : Shared}
theorem index_tree {a : Addr} {o : Obj} {its : Array Value} {n : Nat} {x : Value} {e : Value → Bool} {j : Nat} {P : PySem.Fin → Shared → Prop} (ho : s.heap.get? a = some o) (hd : o.data = .seq its n)
    (he : ∀ y ∈ its, MeetsSeq.EqGives y x (e y)) (hj : j < its.size) (hit : e its[j] = true) (hno : ∀ m (hm : m < its.size), m < j → e its[m] = false)
    (h : P (.done (.ret (.int j s.toks))) { s with toks := s.toks + 1 }) : wpAny (model prog w) A (Builtin.«tuple.index» ⟨[.ref a, x], []⟩) P E s := by
  show wpAny _ _ (Builtin.Tuple.tupleItemsOf (.ref a) >>= _) _ _ s
  refine wpAny_bind (wpAny_tupleItemsOf ho hd ?_)
  dsimp only
  refine wpAny_bind (wpAny_pure (wpAny_bind (wpAny_pure (wpAny_bind ?_))))
  rw [Std.Legacy.Range.forIn_eq_forIn_range']
  refine wpAny_forIn_list _
    (fun rest r s' => r.1 = none ∧ s' = s ∧ ∃ i, i ≤ j ∧ rest = List.range' i (its.size - i))
    _ ?_ ?_ _ _ ⟨rfl, rfl, 0, Nat.zero_le _, ?_⟩
  · rintro k rest r s' ⟨hr, rfl, i, hi, hz⟩
    have hlt : i < its.size := by omega
    obtain ⟨m, hm⟩ : ∃ m, its.size - i = m + 1 := ⟨its.size - i - 1, by omega⟩
    rw [hm, List.range'_succ] at hz
    injection hz with z1 z2
    have z1 := z1.symm
    subst z1
    subst z2
    have hg : its[i]? = some its[i] := by simp [hlt]
    simp only [hg]
    refine wpAny_bind (he _ (Array.getElem_mem hlt) prog w _ _ _ _ ?_)
    by_cases hij : i = j
    · subst hij
      rw [hit]
      simp only [if_true]
      refine wpAny_bind ?_
      show wpAny _ _ (mkInt (i : Int) >>= fun v => ret v) _ _ _
      exact wpAny_bind (wpAny_mkInt (wpAny_pure (wpAny_pure (wpAny_pure h))))
    · rw [hno i hlt (by omega)]
      simp only [Bool.false_eq_true, if_false]
      exact wpAny_pure ⟨rfl, rfl, i + 1, by omega, by rw [show its.size - (i + 1) = m by omega]⟩
  · rintro ⟨r1, r2⟩ s' ⟨hr, rfl, i, hi, hz⟩
    exfalso
    have : (List.range' i (its.size - i)).length = 0 := by rw [← hz]; rfl
    rw [List.length_range'] at this
    omega
  · simp
end
theorem CRows.findT {K : PySem.W.Frag} {P : Params} (y : Str) {ds : List D} : ∀ {es : List DictEntry} {kvs : List (Str × D)}, CRows K P es kvs → kvs.lookup y = some (.tup ds) →
    ∃ e a its n osl, es.find? (fun e => Value.isStrOf y e.key) = some e ∧ e.val = .ref a ∧ K.lookup a = some ⟨.type "tuple", none, .seq its n, osl⟩ ∧ flatsIs its.toList ds = true
  | _, _, .nil, h => by simp at h
  | _, _, .tup (x := x) (t := t) (a := a) (ds := ds') hh l f tl, h => by
    by_cases e : y = x
    · subst e
      rw [List.lookup_cons_self] at h
      cases h
      rw [Bool.and_eq_true] at f
      exact ⟨_, a, _, _, _, List.find?_cons_of_pos (by simp [Value.isStrOf]), rfl, l, f.2⟩
    · rw [List.lookup_cons, beq_eq_false_iff_ne.mpr e] at h
      have nf : Value.isStrOf y (Value.str x t) = false := by
        rw [Bool.eq_false_iff]
        intro z
        obtain ⟨t', q⟩ := Value.isStrOf_shape z
        injection q with q1
        exact e q1.symm
      simp only [List.find?_cons, nf]
      exact tl.findT y h
  | _, _, .flat (x := x) (t := t) (u := u) (d := d) hh f tl, h => by
    by_cases e : y = x
    · subst e
      rw [List.lookup_cons_self] at h
      cases h
      cases u <;> simp [flatIs] at f
    · rw [List.lookup_cons, beq_eq_false_iff_ne.mpr e] at h
      have nf : Value.isStrOf y (Value.str x t) = false := by
        rw [Bool.eq_false_iff]
        intro z
        obtain ⟨t', q⟩ := Value.isStrOf_shape z
        injection q with q1
        exact e q1.symm
      simp only [List.find?_cons, nf]
      exact tl.findT y h
section
variable {X : Cx} {b e : Expr} {pos : Pos} {x : Str} {p : Pos}
def rTIx (K : PySem.W.Frag) : V → List V → Hp → VK → Prop := fun x xs H Q => ∃ (a : Addr) (o : Obj) (its : Array Value) (n : Nat) (zs : List Str) (y : Str), x = .ref a ∧ xs = [.str y] ∧ K.lookup a = some o ∧ o.cls = .type "tuple" ∧ o.data = .seq its n ∧ StrsAre its.toList zs ∧ zs.findIdx (· == y) < zs.length ∧ Q (.int (zs.findIdx (· == y) : Nat)) H
def eqToS (y : Str) : Value → Bool
  | .str z _ => z == y
  | _ => false
theorem strs_at : ∀ {its : List Value} {zs : List Str}, StrsAre its zs → ∀ (i : Nat) (hi : i < its.length), ∃ (h : i < zs.length) (t : Tok), its[i] = .str zs[i] t
  | _, _, .cons z t h, 0, _ => ⟨by simp, t, rfl⟩
  | _, _, .cons z t h, i + 1, hi => by
    obtain ⟨h', t', e⟩ := strs_at h i (by simpa using hi)
    exact ⟨by simpa using h', t', by simpa using e⟩
  | _, _, .nil, i, hi => by simp at hi
theorem strs_len : ∀ {its : List Value} {zs : List Str}, StrsAre its zs → its.length = zs.length
  | _, _, .nil => rfl
  | _, _, .cons _ _ h => by rw [List.length_cons, List.length_cons, strs_len h]
theorem m_tindex : MtR X "tuple.index" (rTIx X.K) := by
  intro pins s σ H x xs v us Q I rx rv h
  obtain ⟨a, o, its, n, zs, y, rfl, rfl, lk, hc, hd, hz, hk, q⟩ := h
  cases rx
  obtain ⟨u, rfl, ⟨t, rfl⟩⟩ := rv.one
  have ho := I.kIn a o lk
  have hl := strs_len hz
  rw [Array.length_toList] at hl
  have at' : ∀ (i : Nat) (hi : i < its.size), ∃ (h : i < zs.length) (t : Tok), its[i] = .str zs[i] t := fun i hi => by
    obtain ⟨h', t', e⟩ := strs_at hz i (by simpa using hi)
    exact ⟨h', t', by simpa using e⟩
  refine wpAny_call_entry PySem.F.slot_tuple_index ⟨o, ho, hc⟩ PySem.F.entry_tuple_index (index_tree (e := eqToS y) (j := zs.findIdx (· == y)) ho hd (fun z hm => ?_) (by omega) ?_ (fun m hm hlt => ?_) ⟨_, rfl, .int (zs.findIdx (· == y) : Nat), H, I.tok _, ⟨_, rfl⟩, q⟩) (PySem.F.args_tuple_index_2 _ _)
  · obtain ⟨i, hi, rfl⟩ := Array.mem_iff_getElem.mp hm
    obtain ⟨_, t', e'⟩ := at' i hi
    rw [e']
    exact eqGives_str _ _ _ _
  · obtain ⟨_, t', e'⟩ := at' (zs.findIdx (· == y)) (by omega)
    rw [e']
    exact List.findIdx_getElem (p := (· == y)) (w := hk)
  · obtain ⟨_, t', e'⟩ := at' m hm
    rw [e']
    have := List.not_of_lt_findIdx (p := (· == y)) (xs := zs) hlt
    simpa [eqToS] using this
@[simp] def cIdx (kvs : List (Str × D)) : D → D → Option (D × Bool)
  | .str y, .str z => match kvs.lookup y with
    | some (.tup ds) => (strsD ds).bind fun zs => if zs.findIdx (· == z) < zs.length then some (.int (zs.findIdx (· == z) : Nat), false) else none
    | _ => none
  | _, _ => none
theorem je_cidx {kvs : List (Str × D)} {f g : FE} {apos cpos : Pos} (h : ∃ d, X.mg x = some (.ref d) ∧ CDict X.K X.w.params d kvs) (hb : JE X b f) (he : JE X e g) (hg : Gl X x := by rfl) (hdb : (x == ("__debug__" : Str)) = false := by decide) (hs : PlainIx b := by intro _ _; rfl)
    (hbase : attributeBase (.Subscript (.Name x p) b pos) "index" X.env (eval (.Subscript (.Name x p) b pos) X.env) = eval (.Subscript (.Name x p) b pos) X.env := by rfl)
    (hfew : ((backTo cpos (starEach [e] X.env)).all (fun x => !x.1) && (backToKw cpos (keywordEach [] X.env)).all (fun x => x.1.isSome)
      && decide ([e].length + ([] : List Keyword).length + (if ([] : List Keyword).isEmpty then 0 else 1) < 30)) = true := by rfl)
    (hline : (apos.endLine == cpos.line) = true := by rfl) (hst : starEach [e] X.env = [(false, eval e X.env)] := by rfl) :
    JE X (.Call (.Attribute (.Subscript (.Name x p) b pos) "index" apos) [e] [] cpos) (f2 (cIdx kvs) f g) := by
  obtain ⟨d, hm, cd⟩ := h
  have ix : IxR X (fun x y H Q => ∃ z ds, x = .ref d ∧ y = .str z ∧ kvs.lookup z = some (.tup ds) ∧ ∀ a its n osl, X.K.lookup a = some ⟨.type "tuple", none, .seq its n, osl⟩ → flatsIs its.toList ds = true → Q (.ref a) H) := by
    intro value slice pins s σ H x y v u Q I rx ry q hs
    obtain ⟨z, ds, rfl, rfl, el, q⟩ := q
    cases rx
    obtain ⟨t, rfl⟩ := ry
    obtain ⟨es, n, l, r, sm⟩ := cd
    have hM := PySem.W.mapOf_K (prog := X.prog) (w := X.w) I.kIn l r.lit
    obtain ⟨en, a, its, n', osl, e1, e2, e3, e4⟩ := r.findT z el
    have ff : findBy Value.isStrOf es z = some (.ref a) := by
      unfold findBy
      obtain ⟨es⟩ := es
      rw [List.find?_toArray, e1, ← e2]
      rfl
    exact tail_any hM.typeIs slot_dict_getitem.lookup (wpAny_getItem_of (strKind_is X.prog X.w z t) hM ff ⟨.ref a, H, I.tok _, rfl, q a _ _ _ e3 e4⟩) hs
  refine PE.to (pe_bm (T := "tuple") PySem.F.plainAttrs_tuple PySem.F.slot_tuple_index PySem.F.type_tuple_index m_tindex (pe_ix ix (pe_glob (v := .ref d) hg hm rfl hdb) hb hs) (pa_cons he pa_nil hst) hbase hfew hline hst rfl) fun σ H Q q => ?_
  obtain ⟨B, ρ, d', bb, sB, r, ee, q⟩ := q
  obtain ⟨x1, ex, ee⟩ := Option.bind_eq_some_iff.mp ee
  obtain ⟨y1, ey, ee⟩ := Option.bind_eq_some_iff.mp ee
  obtain ⟨xd, xb⟩ := x1
  obtain ⟨yd, yb⟩ := y1
  cases xd with
  | str z =>
    cases yd with
    | str y =>
      refine ⟨B, ρ, _, xb, sB, r, ex, fun v H1 N1 xt i1 _ => ?_⟩
      cases i1
      simp only [cIdx] at ee
      split at ee
      · rename_i ds el
        obtain ⟨zs, ez, ee⟩ := Option.bind_eq_some_iff.mp ee
        split at ee
        · rename_i hk
          cases ee
          refine ⟨z, ds, rfl, rfl, el, fun a its n osl l fl => ⟨.inr (.inl ⟨rfl, _, l, rfl, rfl⟩), N1, ρ, _, yb, xt.nh, r.mono xt.bn, ey, fun v2 H2 N2 xt2 i2 _ => ?_⟩⟩
          cases i2
          obtain ⟨vs, rv, iv⟩ := flatsIs_is (K := X.K) fl
          exact ⟨a, _, its, n, zs, y, rfl, rfl, l, rfl, rfl, strs_are rv (iv N2) ez, hk, (q.into (xt.trans xt2)).one xt2.nh (.int _)⟩
        · cases ee
      · cases ee
    | _ => simp [cIdx] at ee
  | _ => simp [cIdx] at ee
end
end DL

namespace DL
open PySem PySem.Spec PyProof.Rows L2
open PySem.W (tabIn tabObj CodeHd kla_fn kla_obj kla_eval kla_makeFunction kla_makeFunctionHit kla_callFunE kla_codeExpr envX)
/-! ### a function made in a def: lambda y: .. -/
def CodeK (K : PySem.W.Frag) (c P : Addr) : Prop := ∃ o vs file tf flags tg inF text tt, K.lookup c = some o ∧ o.cls = .type "code" ∧ o.data = .fields vs ∧ vs[11]? = some (.ref P) ∧ vs.getD 11 .none = .ref P ∧ vs.getD 18 .none = .str file tf ∧
  vs.getD 7 .none = .int flags tg ∧ vs.getD 9 .none = .bool inF ∧ vs.getD 10 .none = .int text tt ∧ c ≠ P
/-- the def's code and its table, as K knows them -/
def LamK (K : PySem.W.Frag) (x : Str) : Prop := ∃ c P, tabIn K x = some (c, P) ∧ CodeK K c P
/-- the function object, known to the object, and its code -/
def LamV (H : Hp) (f : Addr) (q : Str) (params : Arguments) (body : Expr) (scope : Scope) (cl : List (Str × Addr)) : Prop :=
  ∃ pm c ctv u oc u' vs t, H f = some (.frz (kla_obj "<lambda>" q params body scope cl pm c ctv) u) ∧ H c = some (.frz oc u') ∧ oc.data = .fields vs ∧ vs[1]? = some (.str q t)
theorem LamV.mono {H H' : Hp} {f : Addr} {q : Str} {params : Arguments} {body : Expr} {scope : Scope} {cl : List (Str × Addr)} (h : LamV H f q params body scope cl) (e : Same H H') : LamV H' f q params body scope cl :=
  let ⟨pm, c, ctv, u, oc, u', vs, t, h1, h2, h3, h4⟩ := h; ⟨pm, c, ctv, u, oc, u', vs, t, e _ _ h1, e _ _ h2, h3, h4⟩
theorem lam_mk {K : PySem.W.Frag} {x : Str} {f c P : Addr} {oc : Value} {od od' : Option Addr} {osl osl' : Array (Option Value)} {fd : FuncData} {vs : Array Value} {file : Str} {tf tg tt : Tok} {flags text : Int} {inF : Bool} (e1 : PySem.W.nsIn K mainGlobals x = some (some (.ref f))) (e2 : K.lookup f = some ⟨oc, od, .func fd, osl⟩)
    (e3 : fd.code = .ref c) (e4 : K.lookup c = some ⟨.type "code", od', .fields vs, osl'⟩) (e5 : vs[11]? = some (.ref P)) (e6 : vs.getD 11 .none = .ref P) (e7 : vs.getD 18 .none = .str file tf) (e8 : vs.getD 7 .none = .int flags tg) (e9 : vs.getD 9 .none = .bool inF) (e10 : vs.getD 10 .none = .int text tt) (e11 : (c == P) = false) : LamK K x :=
  ⟨c, P, tab_yes e1 e2 e3 e4 e5, _, vs, file, tf, flags, tg, inF, text, tt, e4, rfl, rfl, e5, e6, e7, e8, e9, e10, fun z => by rw [z] at e11; simp at e11⟩
theorem among_snoc {pos : Pos} {a b : Int} {c cv : Value} (l : List Value) (h : TriplesOk l) (e : codeAmong pos (l ++ [rawInt a, rawInt b, c]) = some cv) : codeAmong pos l = some cv ∨ cv = c := by
  fun_induction TriplesOk l with
  | case1 =>
    simp only [List.nil_append, rawInt, codeAmong] at e
    split at e
    · cases e; exact .inr rfl
    · cases e
  | case2 a' t b' u x rest ih =>
    simp only [List.cons_append, codeAmong] at e ⊢
    split at e
    · rename_i hc; rw [if_pos hc]; exact .inl e
    · rename_i hc; rw [if_neg hc]; exact ih h e
  | case3 l h1 h2 => exact h.elim
section
variable {X : Cx} {pins : List (Addr × Obj)} {σ : St} {H : Hp} {s : Shared}
theorem lam_make {x : Str} {params : Arguments} {body : Expr} {scope : Scope} {pos : Pos} {cl : List (Str × Addr)} {Q : Value → Shared → Prop} {E : Value → Shared → Prop}
    (hx : x ∈ lamNames) (L : LamK X.K x) (hc : ∀ c P, tabIn X.K x = some (c, P) → X.env.code = .ref c) (hq : X.env.qual ++ "<lambda>" = lamQ x) (hdef : defaultsOf params X.env = ([], [])) (hcl : closureFor scope X.env = pure cl)
    (I : Inv X pins σ H s) (tb : Tb X.K H) (k : ∀ f H' s', Inv X pins σ H' s' → Same H H' → LamV H' f (lamQ x) params body scope cl → Q (.ref f) s') :
    wpAny (model X.prog X.w) X.A (eval (.Lambda params body scope pos) X.env) Q E s := by
  refine kla_eval hdef ?_
  rw [hq]
  obtain ⟨c, P, ht, o, vs, file, tf, flags, tg, inF, text, tt, lk, ck⟩ := L
  have hcode := hc c P ht
  have hP := tb x hx c P ht
  obtain ⟨ps, e, tr, co⟩ := I.hok P _ hP
  have C : CodeHd s.heap c P := ⟨o, vs, file, tf, flags, tg, inF, text, tt, I.kIn c o lk, ck⟩
  have hg : s.heap.Ns mainGlobals X.mg := I.mod.glob.keeps I.bk
  have nP : ∀ b, H b = none → b ≠ P := fun b n z => by rw [z, hP] at n; cases n
  have hgP : mainGlobals ≠ P := by
    obtain ⟨og, _, _, eg, _⟩ := I.mod.glob
    exact nP _ (I.bs _ _ eg).2
  have hb : s.heap.BuiltinsAt X.mg P := by
    obtain ⟨bm, ob, b1, b2, b3, b4, b5, b6⟩ := I.mod.bmain
    refine ⟨bm, ob, b1, b2, fun z => ?_, nP _ (I.bs _ _ b3).2, I.bk _ _ b3, b4, b5, b6⟩
    obtain ⟨og, es, ep, eg, dg, _⟩ := I.mod.glob
    rw [z, eg] at b3; cases b3
    rw [dg] at b6; cases b6
  cases hf : codeAmong pos ps.toList with
  | some cv =>
    obtain ⟨c', oc, u, ws, t, rfl, hH, hd, hv⟩ := co pos cv hf
    refine kla_makeFunctionHit (mg := X.mg) hcl I.ok.glob hg hcode C e tr hf hb fun ctv h' tk hk hsz => ?_
    have hn : H h'.objs.size = none := I.hok.fresh hsz
    have sm : Same H (upd H h'.objs.size (.frz (kla_obj "<lambda>" (lamQ x) params body scope cl ((X.mg "__name__").getD .none) c' ctv) (.own h'.objs.size))) := fun b u q => by rw [upd_ne (ne_of_none q hn)]; exact q
    refine k _ _ _ (I.laid (t' := tk) (fun b u q => Heap.get?_push_of_some _ (hk b u q)) hsz (show ObjOk X.prog X.w _ _ _ (.frz _ (.own h'.objs.size)) from ⟨Heap.get?_push_size _ rfl, _, Heap.get?_push_size _ rfl⟩)) sm ?_
    exact ⟨_, c', ctv, _, oc, u, ws, t, upd_same, sm _ _ hH, hd, hv⟩
  | none =>
    refine kla_makeFunction (mg := X.mg) hcl I.ok.glob hg hcode C e tr hf hgP hb fun c' ctv h' tk hx' hge hlt hrec htb => ?_
    obtain ⟨c2, oc, ws, t, e2, hoc, hd, hv⟩ := hrec
    cases e2
    have hnc : H c' = none := I.hok.fresh hge
    have hsz : s.heap.objs.size ≤ h'.objs.size := Nat.le_trans hge (Nat.le_of_lt hlt)
    have hnf : H h'.objs.size = none := I.hok.fresh hsz
    have ncf : c' ≠ h'.objs.size := Nat.ne_of_lt hlt
    let fo : Obj := kla_obj "<lambda>" (lamQ x) params body scope cl ((X.mg "__name__").getD .none) c' ctv
    let H1 : Hp := upd (upd H c' (.frz oc (.own c'))) h'.objs.size (.frz fo (.own h'.objs.size))
    have sm : Same H H1 := fun b u q => by
      show upd _ _ _ b = _
      rw [upd_ne (ne_of_none q hnf), upd_ne (ne_of_none q hnc)]; exact q
    have H1c : H1 c' = some (.frz oc (.own c')) := by show upd _ _ _ c' = _; rw [upd_ne ncf, upd_same]
    have keep : ∀ b u, b ≠ P → s.heap.get? b = some u → (h'.push fo).get? b = some u := fun b u n q => Heap.get?_push_of_some _ (hx' b u n q)
    have lt : ∀ b u, s.heap.get? b = some u → b ≠ c' ∧ b ≠ h'.objs.size := fun b u q => ⟨Nat.ne_of_lt (Nat.lt_of_lt_of_le (Heap.lt_size q) hge), Nat.ne_of_lt (Nat.lt_of_lt_of_le (Heap.lt_size q) hsz)⟩
    have htb' : (h'.push fo).get? P = some (tabObj (ps ++ #[rawInt pos.line, rawInt pos.col, .ref c'])) := Heap.get?_push_of_some _ htb
    refine k _ H1 _ (I.un (t' := tk) (h' := h'.push fo) ⟨fun b u q n _ _ => keep b u (nP b n) q, fun b u q n _ _ => ⟨u.slots, keep b u (nP b n) q⟩, fun b u q n _ => ?_, fun b u q _ => ?_, fun b xs q => sm _ _ q, fun b ob u q => sm _ _ q, fun b u q => sm _ _ q⟩ fun b u q => ?_) sm ⟨_, c', ctv, _, oc, _, ws, t, upd_same, H1c, hd, hv⟩
    · show upd _ _ _ b = _
      rw [upd_ne (lt b u q).2, upd_ne (lt b u q).1]; exact n
    · by_cases z : b = P
      · subst z; exact ⟨_, htb'⟩
      · exact ⟨u, keep b u z q⟩
    · by_cases z1 : b = h'.objs.size
      · subst z1
        have q' : some (HO.frz fo (.own h'.objs.size)) = some u := by rw [← q]; exact upd_same.symm
        cases q'
        exact ⟨Heap.get?_push_size _ rfl, _, Heap.get?_push_size _ rfl⟩
      · by_cases z2 : b = c'
        · subst z2
          rw [H1c] at q; cases q
          exact ⟨Heap.get?_push_of_some _ hoc, _, Heap.get?_push_of_some _ hoc⟩
        · have q' : H b = some u := by
            have : H1 b = H b := by show upd _ _ _ b = _; rw [upd_ne z1, upd_ne z2]
            rw [← this]; exact q
          by_cases z3 : b = P
          · subst z3
            rw [hP] at q'; cases q'
            refine ⟨_, htb', ?_, fun pos' cv' ea => ?_⟩
            · rw [Array.toList_append]; exact TriplesOk_snoc _ _ _ _ tr
            · rw [Array.toList_append] at ea
              rcases among_snoc _ tr ea with ea | rfl
              · obtain ⟨c3, oc3, u3, vs3, t3, y1, y2, y3⟩ := co pos' cv' ea
                exact ⟨c3, oc3, u3, vs3, t3, y1, sm _ _ y2, y3⟩
              · exact ⟨c', oc, _, ws, t, rfl, H1c, hd, hv⟩
          · refine (I.hok b u q').stay (fun d v hd' r => keep d v ?_ r) (fun d r => sm _ _ r) (fun d xs r => sm _ _ r) fun d ob v r => sm _ _ r
            rcases hd' with rfl | r
            · exact z3
            · intro z; rw [z, hP] at r; cases r
end
section
variable {P : Program} {w : World} {K : PySem.W.Frag} {mg : Str → Option Value} {base : Heap}
/-- a def that makes a function: its code is known -/
theorem Def.fnL {x : Str} {st : Stmt} {N ps : List Str} {k : Nat} {g : FS} {h : Heap} (F : Def K x st) (X : K.In h) (G : h.Ns mainGlobals mg) (S : FnScope N ps (defScope st))
    (hbd : ∀ (kV doc pm : Value) (an : Option Addr) (cdv ct : Value) (us : List Value), us.length = ps.length → bindArgs (PySem.W.fnOf x x (defArgs st) (defBody st) (defScope st) .none kV doc pm an cdv ct) ⟨us, []⟩ = pure (ps.zip us))
    (hb : ∀ (f : Addr) (cdv : Value) (A : Around) (outer : List PySem.Env) (s : Shared) (H : Hp) (E : XK), (∀ c P, tabIn K x = some (c, P) → cdv = .ref c) → Room k (A.deeper (envOfC x (defScope st) s.heap.objs.size f cdv)) → JSs (cxOf CX0 P w K mg base N x (defScope st) f cdv A outer s H E).nox (defBody st) g) :
    Fn P w K mg base (k + 1) x (bodyF g ps.length (N.length - ps.length)) := by
  obtain ⟨f, fd, F1, a⟩ := F
  have F2 := F1
  obtain ⟨oc, od, kV, doc, pm, an, cdv, ct, osl, rfl, lk, hcd⟩ := F2.ex
  have hc : ∀ c P, tabIn K x = some (c, P) → cdv = .ref c := fun c P e => by
    unfold tabIn at e
    simp only [a, lk] at e
    split at e
    · rename_i c' _
      split at e
      · split at e
        · cases e; rfl
        · cases e
      · cases e
    · cases e
  have len : ∀ vs H Q E, spD K (bodyF g ps.length (N.length - ps.length)) vs H Q E → vs.length = ps.length := fun vs H Q E h => by
    obtain ⟨B, ds, d, b, sB, i, e, q⟩ := h
    unfold bodyF at e
    split at e
    · rename_i hl; rw [i.length]; exact hl
    · cases e
  refine ⟨f, _, ps, fn_of lk hcd S len fun A outer s H vs Q E hr h => ⟨_, PSs.nox (hb f cdv A outer s H E hc hr), ?_⟩, PySem.W.mg_of X G a, F1.kp, F1.binds hbd⟩
  have hlen := len vs H Q E h
  obtain ⟨B, ds, d, b, sB, i, e, q⟩ := h
  unfold bodyF at e
  rw [if_pos (by rw [← i.length]; exact hlen)] at e
  have s0 := start_ok (N := N) sB.1 sB.2 i
  rw [hlen] at s0
  split at e
  · rename_i d' b' eg
    cases e
    exact ⟨B, H, _, _, ⟨B, s0⟩, eg, fun v H' N' x' i' f' => q v H' N' x' i' f'⟩
  · rename_i ρ' eg
    cases e
    exact ⟨B, H, _, _, ⟨B, s0⟩, eg, fun σ' H' ⟨N', s'⟩ => q .non H' N' s'.ext .non (by simp)⟩
  · cases e
end
/-- which of the names around stand in the lambda's slots, from j on -/
inductive LCaps (X : Cx) (N' : List Str) (scope : Scope) (cl : List (Str × Addr)) : Nat → List Nat → Prop where
  | nil {j : Nat} (h : N'.length = j) : LCaps X N' scope cl j []
  | cons {j i : Nat} {r : List Nat} {x : Str} (h1 : N'[j]? = some x) (h2 : X.N[i]? = some x) (h3 : X.env.kindOf x = some .cell ∨ X.env.kindOf x = some .free)
      (h4 : scope.names.lookup x = some .free) (h5 : cl.lookup x = X.env.cells.lookup x) (t : LCaps X N' scope cl (j + 1) r) : LCaps X N' scope cl j (i :: r)
theorem LCaps.len {X : Cx} {N' : List Str} {scope : Scope} {cl : List (Str × Addr)} : ∀ {j : Nat} {cap : List Nat}, LCaps X N' scope cl j cap → N'.length = j + cap.length
  | _, _, .nil h => by rw [h]; rfl
  | j, i :: r, .cons _ _ _ _ _ t => by rw [t.len, List.length_cons]; omega
theorem LCaps.get {X : Cx} {N' : List Str} {scope : Scope} {cl : List (Str × Addr)} : ∀ {j : Nat} {cap : List Nat} {k i : Nat}, LCaps X N' scope cl j cap → cap[k]? = some i → ∃ x, N'[j + k]? = some x ∧ X.N[i]? = some x ∧ (X.env.kindOf x = some .cell ∨ X.env.kindOf x = some .free) ∧
    scope.names.lookup x = some .free ∧ cl.lookup x = X.env.cells.lookup x
  | _, _, _, _, .nil _, e => by simp at e
  | j, _, 0, _, .cons h1 h2 h3 h4 h5 _, e => by simp at e; subst e; exact ⟨_, h1, h2, h3, h4, h5⟩
  | j, _, k + 1, i, .cons _ _ _ _ _ t, e => by
    obtain ⟨x, q, r⟩ := t.get (k := k) (i := i) (by simpa using e)
    exact ⟨x, by rw [show j + (k + 1) = j + 1 + k by omega]; exact q, r⟩
/-- the lambda's body, called from within X -/
abbrev cxLam (X : Cx) (N' : List Str) (scope : Scope) (cl : List (Str × Addr)) (q : Str) (A : Around) (f c : Addr) (s : Shared) (H : Hp) : Cx :=
  { X with A := A.deeper (envX q scope s.heap.objs.size f (.ref c) cl), N := N', s₀ := s, H₀ := H, env := envX q scope s.heap.objs.size f (.ref c) cl, outer := X.stack, stack := envX q scope s.heap.objs.size f (.ref c) cl :: X.stack, ex := [], fn := fun _ => false, calm := true, pn := [], xe := fun _ _ => False }
/-- the lambda's scope -/
structure LamSc (X : Cx) (scope : Scope) (cl : List (Str × Addr)) (y : Str) : Prop where
  clos : closureFor scope X.env = pure cl
  nocell : ∀ z ∈ scope.names, z.2 ≠ .cell
  kind : scope.kind = .function
  co : scope.isCoroutine = false
  gen : scope.isGenerator = false
  par : scope.names.lookup y = some .local
  sub : ∀ x c, cl.lookup x = some c → X.env.cells.lookup x = some c
  has : ∀ x, scope.names.lookup x = some .free → ∃ c, cl.lookup x = some c
theorem lamSc {X : Cx} {scope : Scope} {y : Str} (h1 : ∀ z ∈ scope.names, z.2 ≠ .cell) (h2 : scope.kind = .function) (h3 : scope.isCoroutine = false) (h3' : scope.isGenerator = false) (hp : scope.names.lookup y = some .local)
    (h4' : (scope.names.all fun z => !(z.2 == NameKind.free) || (X.env.cells.lookup z.1).isSome) = true) : LamSc X scope (clOf scope.names X.env.cells []) y := by
  have h4 : ∀ z ∈ scope.names, z.2 = .free → (X.env.cells.lookup z.1).isSome = true := fun z hz e => by
    have := List.all_eq_true.mp h4' z hz
    rw [e] at this
    simpa using this
  exact ⟨clOf_clos scope.names [] h4, h1, h2, h3, h3', hp, fun x c e => clOf_sub scope.names [] (fun y d q => by cases q) e, fun x h => by
    have := clOf_has (x := x) scope.names [] (lookup_mem h) (h4 _ (lookup_mem h) rfl)
    exact Option.isSome_iff_exists.mp this⟩
section
variable {X : Cx} {pins : List (Addr × Obj)} {σ : St} {H : Hp} {s : Shared} {A : Around} {N' : List Str} {scope : Scope} {cl : List (Str × Addr)} {q y : Str} {cap : List Nat}
theorem inv_lam {f c : Addr} {v : V} {u : Value} {h₁ : Heap} {tk : Nat} (S : LamSc X scope cl y) (N0 : N'[0]? = some y) (cp : LCaps X N' scope cl 1 cap) (I : Inv X pins σ H s) (hA : A.frames = some X.stack) (hh : A.handled = none) (r : RelV v u)
    (hns : h₁.Ns s.heap.objs.size (fun x => [(y, u)].reverse.lookup x)) (hk : ∀ b o, s.heap.get? b = some o → h₁.get? b = some o) :
    Inv (cxLam X N' scope cl q A f c s H) [] (some v :: capS 0 cap σ) H { s with heap := h₁, toks := tk } := by
  have noA : ∀ b : Addr, b ∉ (cxLam X N' scope cl q A f c s H).ex := fun b z => absurd (show b ∈ ([] : List Addr) from z) (by simp)
  refine ⟨⟨I.ok.mod, S.kind, rfl, rfl, Nat.le_refl _, fun x z d e1 e2 => I.ok.inj x z d (S.sub _ _ e1) (S.sub _ _ e2), fun x hx => ?_, (fun x d e => by cases e), fun _ => hh, Around.frames_deeper hA, .inr ⟨rfl, rfl⟩, fun b z => absurd z (noA b), I.bs, Nat.le_trans I.ok.bsz I.sz, fun b _ _ => noA b, fun b z => absurd z (noA b), I.stack, I.stkFree⟩,
    rfl, I.bare, Un.kept hk, ⟨_, hns, fun i x v' e1 e2 e3 => ?_⟩, fun x d e => ?_, I.hok.fresh (Nat.le_refl _), fun x d e => I.freeC x d (S.sub _ _ e), fun p hp => absurd (show p ∈ ([] : List (Addr × Obj)) from hp) (by simp), I.hok.kept hk, ?_⟩
  · have hx' : scope.names.lookup x = some .cell ∨ scope.names.lookup x = some .free := hx
    rcases hx' with hx' | hx'
    · exact absurd rfl (S.nocell _ (lookup_mem hx'))
    · exact S.has x hx'
  · cases i with
    | zero =>
      have e1' : N'[0]? = some x := e1
      rw [N0] at e1'; cases e1'
      have e2' : some v = some v' := by simpa using e2
      cases e2'
      exact ⟨u, r, .inl ⟨S.par, by simp⟩⟩
    | succ k =>
      have e2' : (capS 0 cap σ)[k]? = some (some v') := by simpa using e2
      obtain ⟨k', i', hk', g1, g2⟩ := cap_get e2'
      have : k = k' := by omega
      subst this
      obtain ⟨x', n1, n2, n3, n4, n5⟩ := cp.get g1
      have : x' = x := by
        have e1' : N'[k + 1]? = some x := e1
        rw [show 1 + k = k + 1 by omega] at n1
        rw [n1] at e1'; exact Option.some.inj e1'
      subst this
      have g2' : σ[i']? = some (some v') := by
        cases z : σ[i']? with
        | none => rw [z] at g2; cases g2
        | some w => rw [z] at g2; cases w with
          | none => cases g2
          | some w => cases g2; rfl
      obtain ⟨m, _, hl⟩ := I.loc
      obtain ⟨u', ru, lk⟩ := hl i' x' v' n2 g2' (by
        rcases n3 with n3 | n3
        · exact .inr (.inl n3)
        · exact .inr (.inr n3))
      refine ⟨u', ru, .inr ⟨.inr n4, ?_⟩⟩
      rcases lk with ⟨l1, _⟩ | ⟨_, d, l2, l3⟩
      · rcases n3 with n3 | n3 <;> (rw [l1] at n3; cases n3)
      · obtain ⟨ob, ho, hd⟩ := l3
        exact ⟨d, by show cl.lookup x' = _; rw [n5]; exact l2, ob, hk _ _ ho, hd⟩
  · obtain ⟨w, ob, ho, hd⟩ := I.cell x d (S.sub _ _ e)
    exact ⟨w, ob, hk _ _ ho, hd⟩
  · have := cp.len
    show (some v :: capS 0 cap σ).length = N'.length
    unfold capS
    rw [this]; simp; omega
/-- the lambda is called -/
theorem lam_run {f : Addr} {params : Arguments} {body : Expr} {fb : FE} {B : Hp} {ρ : Env} {v : V} {u : Value} {d d' : D} {b' : Bool} {Q : VK} (S : LamSc X scope cl y) (N0 : N'[0]? = some y) (cp : LCaps X N' scope cl 1 cap) (I : Inv X pins σ H s)
    (hA : A.frames = some X.stack) (hh : A.handled = none) (hroom : A.depth < recursionLimit) (lv : LamV H f q params body scope cl)
    (hbind : ∀ pm c ctv u, bindArgs (kla_fn "<lambda>" q params body scope cl pm (.ref c) ctv) ⟨[u], []⟩ = pure [(y, u)])
    (hb : ∀ (f c : Addr) (s : Shared) (H : Hp), JE (cxLam X N' scope cl q A f c s H) body fb)
    (rep : RepE X.K B σ ρ) (sB : Same B H) (r : RelV v u) (i : Is X.K B v d) (e : fb (some (d, false) :: capE 0 cap ρ) = some (d', b')) (qf : Fin X.K B H d' b' Q) :
    wpAny (model X.prog X.w) A (call (.ref f) [u]) (EP X pins σ Q) (fun _ _ => False) s := by
  obtain ⟨pm, c, ctv, uf, oc, u', ws, t, hf, hc, hd, hv⟩ := lv
  have ho := (I.hok f _ hf).1
  have hoc := (I.hok c _ hc).1
  refine wpAny_call (codeAny_mono (R := fun r s' => CR CX0 X.stack X.prog X.w H s Q (fun _ _ _ => False) r s') ?_ fun r s' hq => ?_)
  · refine kla_callFunE hroom ho rfl S.co S.gen rfl ⟨c, oc, ws, t, rfl, hoc, hd, hv⟩ ?_
    rw [hbind]
    refine wpAny_pure (wpAny_newFunctionEnv S.nocell (fun z hz => by rw [List.mem_singleton.mp hz]; exact S.par) (fun h₁ hns hsb => ⟨I.nolimit.fresh _ hsb, ?_⟩) S.kind)
    have hk₁ : ∀ b o, s.heap.get? b = some o → h₁.get? b = some o := fun b o e => hsb.extBut b o (Nat.ne_of_lt (Heap.lt_size e)) (Heap.get?_push_of_some _ e)
    have J := inv_lam (f := f) (c := c) (q := q) (tk := s.toks + 1) S N0 cp I hA hh r hns hk₁
    refine kla_codeExpr (wpAny_mono (hb f c s H [] _ _ H Q J ⟨B, _, d', b', sB, ⟨rep.tb, fun j e0 b0 z => ?_⟩, e, qf⟩) (fun w s' hw => ?_) fun _ _ z => z.elim)
    · cases j with
      | zero => 
        have z' : some (d, false) = some (e0, b0) := by simpa using z
        cases z'
        exact ⟨v, rfl, i⟩
      | succ j =>
        obtain ⟨w, h1, h2⟩ := (rep.caps (nT := 0) (cap := cap)).at' j e0 b0 (by simpa using z)
        exact ⟨w, by simpa using h1, h2⟩
    · obtain ⟨v', H', J', rv, qv⟩ := hw
      exact ⟨v', H', J'.os, J'.bare, J'.base, J'.hok, rv, qv⟩
  · cases r with
    | error e => exact False.elim hq
    | ok fl =>
      cases fl with
      | ret w => exact I.after hq
      | next => exact False.elim hq
      | brk => exact False.elim hq
      | cont => exact False.elim hq
end
end DL

namespace DL
open PySem PySem.Spec PySem.W PyProof.Rows L2
/-! ### records of our own, known to the object while a builtin works with them -/
section
variable {X : Cx} {pins : List (Addr × Obj)} {σ : St} {H : Hp} {s : Shared} {h' : Heap} {t' : Nat}
theorem pin_cells {p : Addr} {o : Obj} (I : Inv X ((p, o) :: pins) σ H s) : ∀ x c, X.env.cells.lookup x = some c → c ≠ p := fun x c e z => by
  have pf := I.pin (p, o) (List.mem_append_right _ List.mem_cons_self)
  obtain ⟨v, ob, ho, hd⟩ := I.cell x c e
  rw [z, pf.1] at ho; cases ho
  exact pf.2.2.2.2 v hd
theorem pin_drop {p : Addr × Obj} (I : Inv X (p :: pins) σ H s) : Inv X pins σ H s := I.pins_of fun q hq => I.pin q (List.mem_append_right _ (List.mem_cons_of_mem _ hq))
theorem pin_turn {p : Addr} {o o' : Obj} (I : Inv X ((p, o) :: pins) σ H s) (h0 : X.s₀.heap.objs.size ≤ p) (hp : ∀ q ∈ X.pn ++ pins, q.1 ≠ p) (k : ∀ b u, b ≠ p → s.heap.get? b = some u → h'.get? b = some u) (e' : h'.get? p = some o') (nc : ∀ v, o'.data ≠ .cell v) :
    Inv X ((p, o') :: pins) σ H { s with heap := h', toks := t' } := by
  have pf := I.pin (p, o) (List.mem_append_right _ List.mem_cons_self)
  have J := (pin_drop I).turned (t' := t') k pf.2.1 pf.2.2.1 (.inr h0) (pin_cells I) hp
  refine J.pins_of fun q hq => ?_
  rcases List.mem_cons.mp hq with rfl | hq
  · exact ⟨e', pf.2.1, pf.2.2.1, pf.2.2.2.1, nc⟩
  · exact J.pin q (List.mem_append_right _ hq)
theorem pin_new {p : Addr} {o : Obj} (I : Inv X pins σ H s) (k : ∀ b u, s.heap.get? b = some u → h'.get? b = some u) (hs : s.heap.objs.size ≤ p) (e' : h'.get? p = some o) (nc : ∀ v, o.data ≠ .cell v) : Inv X ((p, o) :: pins) σ H { s with heap := h', toks := t' } := by
  have J := I.kept (t' := t') k
  refine J.pins_of fun q hq => ?_
  rcases List.mem_cons.mp hq with rfl | hq
  · exact ⟨e', I.hok.fresh hs, Nat.ne_of_gt (Nat.lt_of_lt_of_le I.lt hs), I.nofs hs, nc⟩
  · exact J.pin q (List.mem_append_right _ hq)
end
/-! ### a key: what a function tells of a value -/
def KeyFn (X : Cx) (A : Around) (σ : St) (qv : Value) (B H1 : Hp) (kf : D → Option D) : Prop :=
  ∀ (pins : List (Addr × Obj)) (s : Shared) (H N : Hp) (v : V) (u : Value) (d d' : D), Inv X pins σ H s → Same H1 H → Same B N → Same N H → Is X.K N v d → RelV v u → kf d = some d' →
    wpAny (model X.prog X.w) A (call qv [u]) (EP X pins σ fun v' H' => ∃ N', Ext N N' H H' ∧ Is X.K N' v' d') (fun _ _ => False) s
/-- an expression that tells such a function -/
def JK (X : Cx) (A : Around) (e : Expr) (kf : Env → D → Option D) : Prop := ∀ (pins : List (Addr × Obj)) (s : Shared) (σ : St) (H B : Hp) (ρ : Env) (Q : Value → Shared → Prop) (E : Value → Shared → Prop), Inv X pins σ H s → Same B H → RepE X.K B σ ρ →
  (∀ qa H1 s1, Inv X pins σ H1 s1 → Same H H1 → KeyFn X A σ (.ref qa) B H1 (kf ρ) → Q (.ref qa) s1) → wpAny (model X.prog X.w) X.A (eval e X.env) Q E s
section
variable {X : Cx} {A : Around}
@[simp] def keyL (cap : List Nat) (fb : FE) : Env → D → Option D := fun ρ d => (fb (some (d, false) :: capE 0 cap ρ)).map (·.1)
theorem jk_lam {x y : Str} {params : Arguments} {body : Expr} {scope : Scope} {pos : Pos} {N' : List Str} {cap : List Nat} {fb : FE} (hx : x ∈ lamNames) (L : LamK X.K x) (hc : ∀ c P, tabIn X.K x = some (c, P) → X.env.code = .ref c) (hq : X.env.qual ++ "<lambda>" = lamQ x)
    (hdef : defaultsOf params X.env = ([], [])) (S : LamSc X scope (clOf scope.names X.env.cells []) y) (N0 : N'[0]? = some y) (cp : LCaps X N' scope (clOf scope.names X.env.cells []) 1 cap) {k : Nat} (hA : A.frames = X.A.frames) (hr : Room (k + 1) A)
    (hbind : ∀ pm c ctv u, bindArgs (kla_fn "<lambda>" (lamQ x) params body scope (clOf scope.names X.env.cells []) pm (.ref c) ctv) ⟨[u], []⟩ = pure [(y, u)])
    (hb : ∀ (f c : Addr) (s : Shared) (H : Hp), Room k (cxLam X N' scope (clOf scope.names X.env.cells []) (lamQ x) A f c s H).A → JE (cxLam X N' scope (clOf scope.names X.env.cells []) (lamQ x) A f c s H) body fb) : JK X A (.Lambda params body scope pos) (keyL cap fb) := by
  intro pins s σ H B ρ Q E I sB rep kk
  refine lam_make hx L hc hq hdef S.clos I (rep.tb.mono sB) fun f H1 s1 I1 sm lv => kk f H1 s1 I1 sm ?_
  intro pins' s' H' N v u d d' I' m1 m2 m3 iv r e
  simp only [keyL] at e
  obtain ⟨⟨d2, b2⟩, e1, e2⟩ := Option.map_eq_some_iff.mp e
  cases e2
  exact lam_run S N0 cp I' (hA.trans I'.ok.frames) hr.hd hr.depth (lv.mono m1) hbind (fun f c s H => hb f c s H (hr.deeper _)) (rep.mono m2) m3 r iv e1 fun v' H2 N2 x2 i2 _ => ⟨N2, x2, i2⟩
@[simp] def keyF (g : List D → Option (D × Bool)) : Env → D → Option D := fun _ d => (g [d]).map (·.1)
end
def mapO (f : D → Option D) : List D → Option (List D)
  | [] => some []
  | d :: ds => (f d).bind fun x => (mapO f ds).map (x :: ·)
theorem mapO_len {f : D → Option D} : ∀ {ds ks : List D}, mapO f ds = some ks → ks.length = ds.length
  | [], _, h => by simp only [mapO] at h; cases h; rfl
  | d :: ds, _, h => by
    simp only [mapO] at h
    obtain ⟨a, h1, h⟩ := Option.bind_eq_some_iff.mp h
    obtain ⟨r, h2, h⟩ := Option.map_eq_some_iff.mp h
    subst h
    simp [mapO_len h2]
theorem mapO_get {f : D → Option D} : ∀ {ds ks : List D}, mapO f ds = some ks → ∀ {i : Nat} {d : D}, ds[i]? = some d → ∃ k, ks[i]? = some k ∧ f d = some k
  | [], _, h, i, d, e => by simp at e
  | d :: ds, _, h, 0, e, q => by
    simp only [mapO] at h
    obtain ⟨a, h1, h⟩ := Option.bind_eq_some_iff.mp h
    obtain ⟨r, h2, h⟩ := Option.map_eq_some_iff.mp h
    subst h
    simp at q; subst q
    exact ⟨a, by simp, h1⟩
  | d :: ds, _, h, i + 1, e, q => by
    simp only [mapO] at h
    obtain ⟨a, h1, h⟩ := Option.bind_eq_some_iff.mp h
    obtain ⟨r, h2, h⟩ := Option.map_eq_some_iff.mp h
    subst h
    obtain ⟨k, z1, z2⟩ := mapO_get h2 (i := i) (d := e) (by simpa using q)
    exact ⟨k, by simpa using z1, z2⟩
end DL

namespace DL
open PySem PySem.Spec PySem.W PyProof.Rows L2
/-! ### sorted(xs, key = ..): the keys are tuples of numbers and texts, all unlike -/
section
variable {X : Cx} {pins : List (Addr × Obj)} {σ : St} {s : Shared}
theorem nocell_seq {c : Value} {od : Option Addr} {its : Array Value} {n : Nat} {sl : Array (Option Value)} : ∀ v, (Obj.mk c od (.seq its n) sl).data ≠ .cell v := fun v z => by cases z
end
/-! ### its value -/
def sortKeyD (ks : List (List At)) (ds : List D) : List D := (sortF (fun p : List At × D => encs p.1) (ks.zip ds)).map (·.2)
@[simp] def fSortK (f : FE) (kf : Env → D → Option D) : FE := fun ρ => (f ρ).bind fun x => match x.1 with
  | .lst ds => (mapO (kf ρ) ds).bind fun kds => (keysD kds).bind fun ks => if ks.length < 64 ∧ compA ks = true ∧ firstsOk ks = true ∧ (ks.map encs).Nodup then some (.lst (sortKeyD ks ds), true) else none
  | _ => none
section
variable {X : Cx} {e ke : Expr} {p pos kp : Pos}
end
end DL

namespace DL
open PySem PySem.Spec PySem.W PyProof.Rows L2
/-! ### tuples of numbers and texts, compared -/
section
variable {prog : Program} {w : World} {A : Around} {E : Value → Shared → Prop} {s : Shared}
theorem TupV.type {xs : List At} {v : Value} (h : TupV s.heap xs v) : s.TypeIs v "tuple" := by
  obtain ⟨a, o, its, n, rfl, ho, hc, _⟩ := h
  exact ⟨o, ho, hc⟩
theorem tgt_tree {xs ys : List At} {a b : Addr} {r : Bool} {P : PySem.Fin → Shared → Prop} (hx : TupV s.heap xs (.ref a)) (hy : TupV s.heap ys (.ref b)) (h : lexA ys xs = some r) (q : P (.done (.ret (.bool r))) s) : wpAny (model prog w) A (Builtin.«tuple.__gt__» ⟨[.ref a, .ref b], []⟩) P E s := by
  have hTb := hy.type
  obtain ⟨a', oa, its, na, ea, hoa, _, hda, ra⟩ := hx
  obtain ⟨b', ob, jts, nb, eb, hob, _, hdb, rb⟩ := hy
  cases ea
  cases eb
  show wpAny _ _ (isInstance (.ref _) (.type "tuple") >>= _) _ _ s
  refine wpAny_bind (wpAny_isInstance hTb isSubtype_tuple_tuple ?_)
  simp only [Bool.not_true, Bool.false_eq_true, if_false]
  refine wpAny_bind (wpAny_tupleItemsOf hoa hda ?_)
  refine wpAny_bind (wpAny_tupleItemsOf hob hdb ?_)
  refine wpAny_bind ?_
  refine wpAny_forIn_list _
    (fun rest z s' => z.1 = none ∧ s' = s ∧ ∃ xs' ys' its' jts' n, rest = List.zip its' jts' ∧ Paired atV xs' its' ∧ Paired atV ys' jts' ∧ lexA ys' xs' = some r ∧ its'.length + n = its.size ∧ jts'.length + n = jts.size)
    _ ?_ ?_ _ _ ⟨rfl, rfl, xs, ys, its.toList, jts.toList, 0, rfl, ra, rb, h, by simp, by simp⟩
  · rintro ⟨u, v⟩ rest z s' ⟨hz, rfl, xs', ys', its', jts', n, e, p1, p2, hl, n1, n2⟩
    cases p1 with
    | nil => simp at e
    | @cons x u' xs'' its'' r1 p1' =>
      cases p2 with
      | nil => simp at e
      | @cons y v' ys'' jts'' r2 p2' =>
        simp only [List.zip_cons_cons, List.cons.injEq, Prod.mk.injEq] at e
        obtain ⟨⟨rfl, rfl⟩, rfl⟩ := e
        cases x with
        | i i =>
          cases y with
          | s j => simp [lexA] at hl
          | i j =>
            obtain ⟨t, rfl⟩ := r1
            obtain ⟨t', rfl⟩ := r2
            rw [lexA] at hl
            refine wpAny_bind (wpAny_eqBool_int ?_)
            by_cases hk : j = i
            · rw [if_pos hk] at hl
              rw [show (i == j) = true by simp [hk]]
              simp only [Bool.not_true, Bool.false_eq_true, if_false]
              exact wpAny_pure ⟨rfl, rfl, xs'', ys'', its'', jts'', n + 1, rfl, p1', p2', hl, by rw [← n1, List.length_cons]; omega, by rw [← n2, List.length_cons]; omega⟩
            · rw [if_neg hk] at hl
              cases hl
              rw [show (i == j) = false by simp; exact fun z => hk z.symm]
              simp only [Bool.not_false, if_true]
              refine wpAny_bind (wpAny_rule (wpAny_bind (m := richCompare .Gt (.int i t) (.int j t')) (wpAny_mono (show wpAny _ _ (richCompare .Gt (.int i t) (.int j t')) (fun v s'' => v = .bool (decide (j < i)) ∧ s'' = s') E s' from PyProof.Rows.gt_int ⟨rfl, rfl⟩) (fun v s'' hv => ?_) fun _ _ z => z)))
              obtain ⟨rfl, rfl⟩ := hv
              exact wpAny_bind (wpAny_pure (wpAny_pure (wpAny_pure q)))
        | s i =>
          cases y with
          | i j => simp [lexA] at hl
          | s j =>
            obtain ⟨t, rfl⟩ := r1
            obtain ⟨t', rfl⟩ := r2
            rw [lexA] at hl
            refine wpAny_bind (wpAny_eqBool_str ?_)
            by_cases hk : j = i
            · rw [if_pos hk] at hl
              rw [decide_eq_true hk.symm]
              simp only [Bool.not_true, Bool.false_eq_true, if_false]
              exact wpAny_pure ⟨rfl, rfl, xs'', ys'', its'', jts'', n + 1, rfl, p1', p2', hl, by rw [← n1, List.length_cons]; omega, by rw [← n2, List.length_cons]; omega⟩
            · rw [if_neg hk] at hl
              cases hl
              rw [decide_eq_false fun z => hk z.symm]
              simp only [Bool.not_false, if_true]
              refine wpAny_bind (wpAny_rule (wpAny_bind (m := richCompare .Gt (.str i t) (.str j t')) (wpAny_mono (show wpAny _ _ (richCompare .Gt (.str i t) (.str j t')) (fun v s'' => v = .bool (decide (j.cps.toList < i.cps.toList)) ∧ s'' = s') E s' from PySem.P.gt_str ⟨rfl, rfl⟩) (fun v s'' hv => ?_) fun _ _ z => z)))
              obtain ⟨rfl, rfl⟩ := hv
              exact wpAny_bind (wpAny_pure (wpAny_pure (wpAny_pure q)))
  · rintro ⟨z1, z2⟩ s' ⟨hz, rfl, xs', ys', its', jts', n, e, p1, p2, hl, n1, n2⟩
    simp only at hz
    subst hz
    refine wpAny_pure ?_
    have : decide (jts.size < its.size) = r := by
      cases p1 with
      | nil =>
        cases p2 with
        | nil => simp [lexA] at hl; subst hl; simp at n1 n2; simp; omega
        | cons _ _ => simp [lexA] at hl; subst hl; simp at n1 n2; simp; omega
      | cons _ _ =>
        cases p2 with
        | nil => simp [lexA] at hl; subst hl; simp at n1 n2; simp; omega
        | cons _ _ => simp at e
    show P (.done (.ret (.bool (decide (jts.size < its.size))))) s'
    rw [this]; exact q
theorem rc_gt {xs ys : List At} {x y : Value} {r : Bool} {Q : Value → Shared → Prop} (hx : TupV s.heap xs x) (hy : TupV s.heap ys y) (h : lexA ys xs = some r) (hu : A.units < cLine) (q : Q (.bool r) s) : wpAny (model prog w) A (richCompare .Gt x y) Q E s := by
  have tx := hx.type
  have ty := hy.type
  obtain ⟨a, _, _, _, rfl, _⟩ := id hx
  obtain ⟨b, _, _, _, rfl, _⟩ := id hy
  exact wpAny_richCompare_same_room (op := .Gt) tx ty PySem.F.slot_tuple_gt (wpAny_call_entry PySem.F.slot_tuple_gt tx PySem.F.entry_tuple_gt (tgt_tree hx hy h ⟨_, rfl, (fun e => nomatch e), q⟩) (PySem.F.args_tuple_gt_2 _ _)) hu
end
end DL

namespace DL
open PySem PySem.Spec PySem.W PyProof.Rows L2
/-! ### max(xs, key = ..): the first of the greatest -/
def maxGo : List At × D → List (List At × D) → D
  | b, [] => b.2
  | b, x :: r => if lexA b.1 x.1 = some true then maxGo x r else maxGo b r
theorem max_key_args (a v : Value) : argsOk "max" ⟨[a], [(Str.ofString "key", v)]⟩ := by unfold argsOk; kernel_rfl
section
variable {X : Cx} {pins : List (Addr × Obj)} {σ : St}
theorem key_tup {pins : List (Addr × Obj)} {H : Hp} {s : Shared} {v : V} {u : Value} {d : D} {k : List At} (I : Inv X pins σ H s) (r : RelV v u) (i : Is X.K H v d) (e : keyD d = some k) : TupV s.heap k u := by
  have := tups_at I (ys := [v]) (ds := [d]) (ks := [k]) (its := [u]) (.cons r .nil) (.cons i .nil) (by simp only [keysD, e]; rfl)
  cases this; assumption
theorem max_loop {qv : Value} {l S It : Addr} {vs : List V} {ds kds : List D} {ks : List (List At)} {B H1 : Hp} {kf : D → Option D} {d0 : D} {R : Result → Shared → Prop} (hh : X.A.handled = none) (hu : X.A.in1.units < cLine) (kfn : KeyFn X X.A.in1 σ qv B H1 kf) (hqv : ∃ a, qv = .ref a) (hq : SqL X.K B l vs) (iv : IsL X.K B vs ds)
    (em : mapO kf ds = some kds) (ek : keysD kds = some ks) (hc : compA ks = true) (S0 : X.s₀.heap.objs.size ≤ S) (I0 : X.s₀.heap.objs.size ≤ It) (hSp : ∀ q ∈ X.pn ++ pins, q.1 ≠ S) (hIp : ∀ q ∈ X.pn ++ pins, q.1 ≠ It) (hSI : S ≠ It) (hSl : S ≠ l) (hIl : l ≠ It)
    (hR : ∀ (s' : Shared) (H' N : Hp) (v : V) (u : Value), Inv X pins σ H' s' → Ext B N H1 H' → RelV v u → Is X.K N v d0 → R (.ok (.ret u)) s') :
    ∀ (r j : Nat) (s : Shared) (H N : Hp) (ub kub : Value) (vb kvb : V) (db kdb : D) (kb : List At) (c : Nat) (oI : Obj), vs.length - j = r → j ≤ vs.length → Inv X ((S, seqObj "list" #[ub, kub] c) :: (It, oI) :: pins) σ H s → s.heap.IsListIter It l j → Ext B N H1 H →
      RelV vb ub → Is X.K N vb db → RelV kvb kub → Is X.K N kvb kdb → keyD kdb = some kb → kb ∈ ks → maxGo (kb, db) ((ks.zip ds).drop j) = d0 →
      codeAny (model X.prog X.w) X.A (.builtin "max.loop" ⟨[.ref It, qv, .ref S], []⟩) R s := by
  have hname : (toString "max" ++ toString ".loop" : String) = "max.loop" := by decide
  obtain ⟨qa, rfl⟩ := hqv
  intro r
  induction r with
  | zero =>
    intro j s H N ub kub vb kvb db kdb kb c oI hr hj I hit x1 r1 i1 r2 i2 ekb mk hd
    have pS := I.pin (S, seqObj "list" #[ub, kub] c) (List.mem_append_right _ List.mem_cons_self)
    have sB : Same B H := x1.bn.trans x1.nh
    obtain ⟨its, rv, pl, _⟩ := I.list (sB.seq hq)
    have hl := pl.isList
    have W := Walks.list (prog := X.prog) (w := X.w) (A := X.A.in1) hh It l hIl its.toArray
    have hsz : its.toArray.size = its.length := List.size_toArray ..
    have hvl : vs.length = its.length := rv.length
    have hdl : ds.length = its.length := by rw [← iv.length]; exact rv.length
    have hkl : ks.length = ds.length := by rw [keysD_len ek, mapO_len em]
    have hd' : db = d0 := by
      rw [List.drop_of_length_le (by rw [List.length_zip]; omega)] at hd
      exact hd
    subst hd'
    refine codeAny_builtin PySem.F.entry_max_loop ?_
    rw [Around.under_plainId PySem.F.plain_max_loop _]
    show wpAny _ X.A.in1 (seqItems? (.ref S) >>= _) _ _ _
    refine wpAny_bind (wpAny_seqItems pS.1 rfl ?_)
    show wpAny _ X.A.in1 (tryCatch (pyNext (.ref It)) _ >>= _) _ _ _
    refine wpAny_bind (wpAny_tryCatch (W.done _ _ _ ⟨by rw [hsz, show its.length = j by omega]; exact hit, hl⟩ fun h' tk' hk' => ?_))
    have J1 : Inv X ((It, oI) :: (S, seqObj "list" #[ub, kub] c) :: pins) σ H s := I.pins_of fun q hq => I.pin q (by
      rcases List.mem_cons.mp hq with rfl | hq
      · exact List.mem_append_right _ (List.mem_cons_of_mem _ List.mem_cons_self)
      · rcases List.mem_cons.mp hq with rfl | hq
        · exact List.mem_append_right _ List.mem_cons_self
        · exact List.mem_append_right _ (List.mem_cons_of_mem _ (List.mem_cons_of_mem _ hq)))
    have hIp' : ∀ q ∈ X.pn ++ ((S, seqObj "list" #[ub, kub] c) :: pins), q.1 ≠ It := fun q hq => by
      rcases List.mem_append.mp hq with hq | hq
      · exact hIp q (List.mem_append_left _ hq)
      · rcases List.mem_cons.mp hq with rfl | hq
        · exact hSI
        · exact hIp q (List.mem_append_right _ hq)
    have J2 : Inv X ((S, seqObj "list" #[ub, kub] c) :: pins) σ H { s with heap := h', toks := tk' } :=
      (pin_drop J1).turned (t' := tk') (fun b o n e => hk' b o (by simpa using n) e) (J1.pin (It, oI) (List.mem_append_right _ List.mem_cons_self)).2.1 (J1.pin (It, oI) (List.mem_append_right _ List.mem_cons_self)).2.2.1 (.inr I0) (pin_cells J1) hIp'
    have pS2 := J2.pin (S, seqObj "list" #[ub, kub] c) (List.mem_append_right _ List.mem_cons_self)
    obtain ⟨c2, hc2⟩ : ∃ c2, (h'.update S (Obj.mapSeq fun _ => (#[] : Array Value))).get? S = some (seqObj "list" #[] c2) := ⟨_, get?_update_seq pS2.1 fun _ => #[]⟩
    have u2 := Heap.SameBut.update h' S (Obj.mapSeq fun _ => (#[] : Array Value))
    show wpAny _ X.A.in1 (updateSeq S (fun _ => #[]) >>= _) _ _ _
    refine wpAny_bind ?_
    refine wpAny_updateSeq pS2.1 rfl (wpAny_bind (wpAny_letGo (wpAny_pure ?_)))
    exact hR _ H N vb ub (pin_drop (pin_turn (t' := tk') J2 S0 hSp (fun b o n e => (u2.2 b n).trans e) hc2 nocell_seq)) x1 r1 i1
  | succ r ih =>
    intro j s H N ub kub vb kvb db kdb kb c oI hr hj I hit x1 r1 i1 r2 i2 ekb mk hd
    have hlt : j < vs.length := by omega
    have pS := I.pin (S, seqObj "list" #[ub, kub] c) (List.mem_append_right _ List.mem_cons_self)
    have sB : Same B H := x1.bn.trans x1.nh
    obtain ⟨its, rv, pl, _⟩ := I.list (sB.seq hq)
    have hl := pl.isList
    have W := Walks.list (prog := X.prog) (w := X.w) (A := X.A.in1) hh It l hIl its.toArray
    have hsz : its.toArray.size = its.length := List.size_toArray ..
    have hvl : vs.length = its.length := rv.length
    have hdl : ds.length = its.length := by rw [← iv.length]; exact rv.length
    have hkl : ks.length = ds.length := by rw [keysD_len ek, mapO_len em]
    refine codeAny_builtin PySem.F.entry_max_loop ?_
    rw [Around.under_plainId PySem.F.plain_max_loop _]
    show wpAny _ X.A.in1 (seqItems? (.ref S) >>= _) _ _ _
    refine wpAny_bind (wpAny_seqItems pS.1 rfl ?_)
    show wpAny _ X.A.in1 (tryCatch (pyNext (.ref It)) _ >>= _) _ _ _
    refine wpAny_bind (wpAny_tryCatch (W.item j _ _ _ (by rw [hsz]; omega) ⟨hit, hl⟩ fun u h' tk' hP hst' hk' => ?_))
    have hu' : its[j]? = some u := by simpa using hP
    obtain ⟨d, hdj⟩ : ∃ d, ds[j]? = some d := ⟨_, List.getElem?_eq_getElem (by omega)⟩
    obtain ⟨v, hv, iv'⟩ := iv.get hdj
    obtain ⟨kd, hkj, hkf⟩ := mapO_get em hdj
    obtain ⟨u2, hu2, ru⟩ := rv.get hv
    rw [hu'] at hu2; cases hu2
    obtain ⟨k, hk1⟩ : ∃ k, ks[j]? = some k := ⟨_, List.getElem?_eq_getElem (by omega)⟩
    have ekd : keyD kd = some k := by
      have := keysD_get ek (i := j) (by rw [mapO_len em]; omega)
      rw [List.getD_eq_getElem?_getD, hkj, List.getD_eq_getElem?_getD, hk1] at this
      exact this
    have hm : k ∈ ks := List.mem_of_getElem? hk1
    obtain ⟨oI', hoI', hoc, hod⟩ := id hst'.1
    have J1 : Inv X ((It, oI) :: (S, seqObj "list" #[ub, kub] c) :: pins) σ H s := I.pins_of fun q hq => I.pin q (by
      rcases List.mem_cons.mp hq with rfl | hq
      · exact List.mem_append_right _ (List.mem_cons_of_mem _ List.mem_cons_self)
      · rcases List.mem_cons.mp hq with rfl | hq
        · exact List.mem_append_right _ List.mem_cons_self
        · exact List.mem_append_right _ (List.mem_cons_of_mem _ (List.mem_cons_of_mem _ hq)))
    have hIp' : ∀ q ∈ X.pn ++ ((S, seqObj "list" #[ub, kub] c) :: pins), q.1 ≠ It := fun q hq => by
      rcases List.mem_append.mp hq with hq | hq
      · exact hIp q (List.mem_append_left _ hq)
      · rcases List.mem_cons.mp hq with rfl | hq
        · exact hSI
        · exact hIp q (List.mem_append_right _ hq)
    have hSp' : ∀ q ∈ X.pn ++ ((It, oI') :: pins), q.1 ≠ S := fun q hq => by
      rcases List.mem_append.mp hq with hq | hq
      · exact hSp q (List.mem_append_left _ hq)
      · rcases List.mem_cons.mp hq with rfl | hq
        · exact hSI.symm
        · exact hSp q (List.mem_append_right _ hq)
    have J2 : Inv X ((It, oI') :: (S, seqObj "list" #[ub, kub] c) :: pins) σ H { s with heap := h', toks := tk' } :=
      pin_turn (t' := tk') J1 I0 hIp' (fun b o n e => hk' b o (by simpa using n) e) hoI' (fun v z => by rw [hod] at z; cases z)
    have J3 : Inv X ((S, seqObj "list" #[ub, kub] c) :: (It, oI') :: pins) σ H { s with heap := h', toks := tk' } := J2.pins_of fun q hq => J2.pin q (by
      rcases List.mem_cons.mp hq with rfl | hq
      · exact List.mem_append_right _ (List.mem_cons_of_mem _ List.mem_cons_self)
      · rcases List.mem_cons.mp hq with rfl | hq
        · exact List.mem_append_right _ List.mem_cons_self
        · exact List.mem_append_right _ (List.mem_cons_of_mem _ (List.mem_cons_of_mem _ hq)))
    show wpAny _ X.A.in1 (tryCatch (holding [u] (call (.ref qa) [u])) _ >>= _) _ _ _
    refine wpAny_bind (wpAny_tryCatch (wpAny_holding (wpAny_mono (kfn _ _ H N v u d kd J3 x1.hh x1.bn x1.nh (iv'.mono x1.bn) ru hkf) (fun ku s2 he => ?_) fun _ _ hF => hF.elim)))
    obtain ⟨kv, H2, J4, rk, N2, x2, ik⟩ := he
    have pI4 := J4.pin (It, oI') (List.mem_append_right _ (List.mem_cons_of_mem _ List.mem_cons_self))
    have pS4 := J4.pin (S, seqObj "list" #[ub, kub] c) (List.mem_append_right _ List.mem_cons_self)
    have hit2 : s2.heap.IsListIter It l (j + 1) := ⟨oI', pI4.1, hoc, hod⟩
    have t1 := key_tup J4 rk (ik.mono x2.nh) ekd
    have t2 := key_tup J4 r2 (i2.mono (x2.bn.trans x2.nh)) ekb
    have hz : (ks.zip ds).drop j = (k, d) :: (ks.zip ds).drop (j + 1) := by
      have hj' : j < (ks.zip ds).length := by rw [List.length_zip]; omega
      rw [List.drop_eq_getElem_cons hj']
      have : (ks.zip ds)[j]? = some (k, d) := List.getElem?_zip_eq_some.mpr ⟨hk1, hdj⟩
      rw [List.getElem?_eq_getElem hj'] at this
      rw [Option.some.inj this]
    rw [hz, maxGo] at hd
    have hlx := compA_get hc mk hm
    show wpAny _ X.A.in1 (tryCatch (holding [u, ku] (richCompare .Gt ku kub >>= _)) _ >>= _) _ _ _
    refine wpAny_bind (wpAny_tryCatch (wpAny_holding (wpAny_bind (rc_gt t1 t2 hlx hu ?_))))
    refine wpAny_bind (wpAny_holding (wpAny_truthy_bool ?_))
    refine wpAny_bind (wpAny_letGo (wpAny_pure ?_))
    by_cases hb : encs kb < encs k
    · rw [if_pos (by rw [hlx]; simp [hb])] at hd
      obtain ⟨c2, hc2⟩ : ∃ c2, (s2.heap.update S (Obj.mapSeq fun _ => #[u, ku])).get? S = some (seqObj "list" #[u, ku] c2) := ⟨_, get?_update_seq pS4.1 fun _ => #[u, ku]⟩
      have u2 := Heap.SameBut.update s2.heap S (Obj.mapSeq fun _ => #[u, ku])
      simp only [hb, decide_true, if_true]
      refine wpAny_bind ?_
      refine wpAny_updateSeq pS4.1 rfl (wpAny_bind (wpAny_letGo ?_))
      rw [hname]
      exact wpAny_pure ⟨plainId_quiet PySem.F.plain_max_loop _, ih (j + 1) _ H2 N2 u ku v kv d kd k c2 oI' (by omega) hlt (pin_turn (t' := s2.toks) J4 S0 hSp' (fun b o n e => (u2.2 b n).trans e) hc2 nocell_seq) ⟨oI', (u2.2 It hSI.symm).trans pI4.1, hoc, hod⟩ (x1.trans x2) ru (iv'.mono (x1.bn.trans x2.bn)) rk ik ekd hm hd⟩
    · rw [if_neg (by rw [hlx]; simp [hb])] at hd
      simp only [hb, decide_false, Bool.false_eq_true, if_false]
      refine wpAny_bind (wpAny_letGo ?_)
      rw [hname]
      exact wpAny_pure ⟨plainId_quiet PySem.F.plain_max_loop _, ih (j + 1) _ H2 N2 ub kub vb kvb db kdb kb c oI' (by omega) hlt J4 hit2 (x1.trans x2) r1 (i1.mono x2.bn) r2 (i2.mono x2.bn) ekb mk hd⟩
end
@[simp] def fMaxK (f : FE) (kf : Env → D → Option D) : FE := fun ρ => (f ρ).bind fun x => match x.1 with
  | .lst ds => (mapO (kf ρ) ds).bind fun kds => (keysD kds).bind fun ks => if compA ks = true then match ks.zip ds with
    | [] => none
    | y :: r => some (maxGo y r, false)
    else none
  | _ => none
section
variable {X : Cx} {e ke : Expr} {p pos kp : Pos}
theorem je_maxK {f : FE} {kf : Env → D → Option D} {k : Nat} (hm : X.mg "max" = none) (he : JE X e f) (hk : JK X X.A.in1 ke kf) (hr : Room k X.A) (hg : Gl X "max" := by rfl)
    (hes : starEach [e] X.env = [(false, eval e X.env)] := by rfl) (heb : backTo pos (starEach [e] X.env) = (false, eval e X.env) :: backTo pos (starEach [] X.env) := by rfl) (hpl : (backTo pos (starEach [e] X.env)).any (·.1) = false := by rfl)
    (hall : (backToKw pos (keywordEach [⟨some "key", ke, kp⟩] X.env)).all (·.1.isSome) = true := by rfl) (hkw : (backToKw pos (keywordEach [⟨some "key", ke, kp⟩] X.env)).any (·.1.isNone) = false := by rfl)
    (hnm : (backToKw pos (keywordEach [⟨some "key", ke, kp⟩] X.env)).filterMap (·.1) = [("key" : Str)] := by rfl) :
    JE X (.Call (.Name "max" p) [e] [⟨some "key", ke, kp⟩] pos) (fMaxK f kf) := by
  have hname : (toString "max" ++ toString ".loop" : String) = "max.loop" := by decide
  intro pins s σ H Q I h
  obtain ⟨B, ρ, d, b, sB, rep, ee, q⟩ := h
  obtain ⟨⟨xd, xb⟩, ex, ee⟩ := Option.bind_eq_some_iff.mp ee
  cases xd <;> try (cases ee; done)
  rename_i ds
  obtain ⟨kds, em, ee⟩ := Option.bind_eq_some_iff.mp ee
  obtain ⟨ks, ek, ee⟩ := Option.bind_eq_some_iff.mp ee
  split at ee
  · rename_i hc
    split at ee
    · cases ee
    · rename_i y rest ez
      cases ee
      refine wpAny_Call_Name_kw (ld_blt I hg hm (u := .builtin "max") rfl ?_)
      refine callWith_kw (thn ((pa_cons he pa_nil hes) pos pins s σ H (fun vs H1 => ∃ v N, vs = [v] ∧ Ext B N H H1 ∧ Is X.K N v (.lst ds)) I ⟨B, ρ, _, _, sB, rep, ex, fun v H1 N x1 i1 _ => ⟨v, N, rfl, x1, i1⟩⟩) fun us s1 hA => ?_) heb hpl hall hkw
      obtain ⟨vs1, H1, I1, r1, v, N, rfl, x1, i1⟩ := hA
      obtain ⟨u, rfl, ru⟩ := vals1 r1
      refine kws_cons (hk pins s1 σ H1 N ρ _ _ I1 x1.nh (rep.mono x1.bn) fun qa H2 s2 I2 m2 kfn => kws_nil ?_)
      rw [hnm]
      show wpAny _ _ (call (.builtin "max") [u] [(("key" : Str), .ref qa)]) _ _ _
      cases i1
      rename_i l vs hq il
      cases ru
      have sN : Same N H2 := x1.nh.trans m2
      obtain ⟨its, rv, pl, hz⟩ := I2.list (sN.seq hq)
      have hvl : vs.length = its.length := rv.length
      have hdl : ds.length = vs.length := il.length.symm
      have hkd : kds.length = ds.length := mapO_len em
      have hks : ks.length = kds.length := keysD_len ek
      have hll : l < s2.heap.objs.size := by
        obtain ⟨ol, hol, _⟩ := pl.isList
        exact Heap.lt_size hol
      -- the first item
      obtain ⟨k0, d0⟩ := y
      have hne : 0 < its.length := by
        have := congrArg List.length ez
        rw [List.length_zip, List.length_cons] at this
        omega
      have z0 : (ks.zip ds)[0]? = some (k0, d0) := by rw [ez]; rfl
      obtain ⟨hk0, hd0⟩ := List.getElem?_zip_eq_some.mp z0
      have hrest : (ks.zip ds).drop 1 = rest := by rw [ez]; rfl
      refine kmk_tree PySem.F.kind_max PySem.F.plain_max PySem.F.entry_max (max_key_args _ _) ?_
      show wpAny _ X.A.in1 (Builtin.Builtins.bindParams "max" ["key", "default"] 0 ⟨[], [(Str.ofString "key", .ref qa)]⟩ >>= _) _ _ s2
      refine wpAny_bind (wpAny_of_eq (show Builtin.Builtins.bindParams "max" ["key", "default"] 0 ⟨[], [(Str.ofString "key", .ref qa)]⟩ = pure [some (.ref qa), none] from rfl) ?_)
      refine wpAny_bind (wpAny_pure ?_)
      refine wpAny_bind (wpAny_pyIter_list pl.isList ?_)
      refine wpAny_bind (wpAny_newList ?_ (Nat.zero_le _))
      rw [hname]
      let It : Addr := s2.heap.objs.size
      let oI : Obj := { cls := .type "list_iterator", data := .fields #[.ref l, .int 0 0] }
      let S : Addr := (s2.heap.push oI).objs.size
      have hS : S = s2.heap.objs.size + 1 := size_push' ..
      have hSI : S ≠ It := by rw [hS]; exact Nat.ne_of_gt (Nat.lt_succ_self _)
      have J1 : Inv X ((It, oI) :: pins) σ H2 { s2 with heap := s2.heap.push oI } := pin_new (t' := s2.toks) I2 (fun b u q => Heap.get?_push_of_some _ q) (Nat.le_refl _) (Heap.get?_push_size _ rfl) (fun v z => by cases z)
      have J2 : Inv X ((S, seqObj "list" #[] 0) :: (It, oI) :: pins) σ H2 { s2 with heap := (s2.heap.push oI).push (seqObj "list" #[] 0) } := pin_new (s := { s2 with heap := s2.heap.push oI }) (t' := s2.toks) J1 (fun b u q => Heap.get?_push_of_some _ q) (Nat.le_refl _) (Heap.get?_push_size _ rfl) nocell_seq
      have I0 : X.s₀.heap.objs.size ≤ It := I2.sz
      have S0 : X.s₀.heap.objs.size ≤ S := by rw [hS]; exact Nat.le_succ_of_le I2.sz
      have hIp : ∀ q ∈ X.pn ++ pins, q.1 ≠ It := fun q hq => Nat.ne_of_lt (Heap.lt_size (I2.pin q hq).1)
      have hSp : ∀ q ∈ X.pn ++ pins, q.1 ≠ S := fun q hq => by rw [hS]; exact Nat.ne_of_lt (Nat.lt_succ_of_lt (Heap.lt_size (I2.pin q hq).1))
      have hIl : l ≠ It := Nat.ne_of_lt hll
      have hSl : S ≠ l := by rw [hS]; exact Nat.ne_of_gt (Nat.lt_succ_of_lt hll)
      have hh : X.A.handled = none := hr.hd
      have hu : X.A.in1.units < cLine := by have := hr.un; show X.A.units + 1 < cLine; omega
      have pS := J2.pin (S, seqObj "list" #[] 0) (List.mem_append_right _ List.mem_cons_self)
      have pI := J2.pin (It, oI) (List.mem_append_right _ (List.mem_cons_of_mem _ List.mem_cons_self))
      obtain ⟨its2, rv2, pl2, _⟩ := J2.list (sN.seq hq)
      have hv2 : vs.length = its2.length := rv2.length
      have W := Walks.list (prog := X.prog) (w := X.w) (A := X.A.in1) hh It l hIl its2.toArray
      have hsz : its2.toArray.size = its2.length := List.size_toArray ..
      refine wpAny_pure ⟨plainId_quiet PySem.F.plain_max_loop _, ?_⟩
      refine codeAny_builtin PySem.F.entry_max_loop ?_
      rw [Around.under_plainId PySem.F.plain_max_loop _]
      show wpAny _ X.A.in1 (seqItems? (.ref S) >>= _) _ _ { s2 with heap := (s2.heap.push oI).push (seqObj "list" #[] 0) }
      refine wpAny_bind (wpAny_seqItems pS.1 rfl ?_)
      show wpAny _ X.A.in1 (tryCatch (pyNext (.ref It)) _ >>= _) _ _ _
      refine wpAny_bind (wpAny_tryCatch (W.item 0 _ _ _ (by rw [hsz]; omega) ⟨⟨oI, pI.1, rfl, rfl⟩, pl2.isList⟩ fun u h' tk' hP hst' hk' => ?_))
      have hu' : its2[0]? = some u := by simpa using hP
      obtain ⟨v, hv, iv'⟩ := il.get hd0
      obtain ⟨kd, hkj, hkf⟩ := mapO_get em hd0
      obtain ⟨u2, hu2, ru⟩ := rv2.get hv
      rw [hu'] at hu2; cases hu2
      have ekd : keyD kd = some k0 := by
        have := keysD_get ek (i := 0) (by omega)
        rw [List.getD_eq_getElem?_getD, hkj, List.getD_eq_getElem?_getD, hk0] at this
        exact this
      obtain ⟨oI', hoI', hoc, hod⟩ := id hst'.1
      have swap : ∀ {o1 o2 : Obj} {H' : Hp} {s' : Shared} {a1 a2 : Addr}, Inv X ((a1, o1) :: (a2, o2) :: pins) σ H' s' → Inv X ((a2, o2) :: (a1, o1) :: pins) σ H' s' := fun {o1 o2 H' s' a1 a2} J => J.pins_of fun q hq => J.pin q (by
        rcases List.mem_cons.mp hq with rfl | hq
        · exact List.mem_append_right _ (List.mem_cons_of_mem _ List.mem_cons_self)
        · rcases List.mem_cons.mp hq with rfl | hq
          · exact List.mem_append_right _ List.mem_cons_self
          · exact List.mem_append_right _ (List.mem_cons_of_mem _ (List.mem_cons_of_mem _ hq)))
      have hIp' : ∀ q ∈ X.pn ++ ((S, seqObj "list" #[] 0) :: pins), q.1 ≠ It := fun q hq => by
        rcases List.mem_append.mp hq with hq | hq
        · exact hIp q (List.mem_append_left _ hq)
        · rcases List.mem_cons.mp hq with rfl | hq
          · exact hSI
          · exact hIp q (List.mem_append_right _ hq)
      have hSp' : ∀ q ∈ X.pn ++ ((It, oI') :: pins), q.1 ≠ S := fun q hq => by
        rcases List.mem_append.mp hq with hq | hq
        · exact hSp q (List.mem_append_left _ hq)
        · rcases List.mem_cons.mp hq with rfl | hq
          · exact hSI.symm
          · exact hSp q (List.mem_append_right _ hq)
      have J3 := swap (pin_turn (t' := tk') (swap J2) I0 hIp' (fun b o n e => hk' b o (by simpa using n) e) hoI' (fun v z => by rw [hod] at z; cases z))
      show wpAny _ X.A.in1 (tryCatch (holding [u] (call (.ref qa) [u])) _ >>= _) _ _ _
      refine wpAny_bind (wpAny_tryCatch (wpAny_holding (wpAny_mono (kfn _ _ H2 N v u d0 kd J3 (.refl _) (.refl _) sN iv' ru hkf) (fun ku s3 he => ?_) fun _ _ hF => hF.elim)))
      obtain ⟨kv, H3, J4, rk, N3, x3, ik⟩ := he
      have pI4 := J4.pin (It, oI') (List.mem_append_right _ (List.mem_cons_of_mem _ List.mem_cons_self))
      have pS4 := J4.pin (S, seqObj "list" #[] 0) (List.mem_append_right _ List.mem_cons_self)
      obtain ⟨c2, hc2⟩ : ∃ c2, (s3.heap.update S (Obj.mapSeq fun _ => #[u, ku])).get? S = some (seqObj "list" #[u, ku] c2) := ⟨_, get?_update_seq pS4.1 fun _ => #[u, ku]⟩
      have u2 := Heap.SameBut.update s3.heap S (Obj.mapSeq fun _ => #[u, ku])
      show wpAny _ X.A.in1 (updateSeq S (fun _ => #[u, ku]) >>= _) _ _ _
      refine wpAny_bind ?_
      refine wpAny_updateSeq pS4.1 rfl ?_
      rw [hname]
      have xx : Ext B N H H2 := x1.trans (.grow x1.nh m2)
      refine wpAny_pure ⟨plainId_quiet PySem.F.plain_max_loop _, max_loop (S := S) (It := It) hh hu kfn ⟨qa, rfl⟩ hq il em ek hc S0 I0 hSp hIp hSI hSl hIl (fun s' H' N' v' u' J' x' r' i' => ⟨v', H', J', r', q _ _ _ (xx.trans x') i' (by simp)⟩) _ 1 _ H3 N3 u ku v kv d0 kd k0 c2 oI' rfl (by omega)
        (pin_turn (t' := s3.toks) J4 S0 hSp' (fun b o n e => (u2.2 b n).trans e) hc2 nocell_seq) ⟨oI', (u2.2 It hSI.symm).trans pI4.1, hoc, hod⟩ x3 ru (iv'.mono x3.bn) rk ik ekd (List.mem_of_getElem? hk0) (by rw [hrest])⟩
  · cases ee
end
end DL

namespace DL
open PySem PySem.Spec PySem.W PyProof.Rows L2
/-! ### min(xs, key = ..): the first of the least -/
def minGo : List At × D → List (List At × D) → D
  | b, [] => b.2
  | b, x :: r => if lexA x.1 b.1 = some true then minGo x r else minGo b r
section
variable {X : Cx} {pins : List (Addr × Obj)} {σ : St}
end
@[simp] def fMinK (f : FE) (kf : Env → D → Option D) : FE := fun ρ => (f ρ).bind fun x => match x.1 with
  | .lst ds => (mapO (kf ρ) ds).bind fun kds => (keysD kds).bind fun ks => if compA ks = true then match ks.zip ds with
    | [] => none
    | y :: r => some (minGo y r, false)
    else none
  | _ => none
section
variable {X : Cx} {e ke : Expr} {p pos kp : Pos}
end
end DL

namespace DL
open PySem PySem.Spec PySem.W PyProof.Rows L2
/-! ### tuples of numbers and texts: < and > -/
section
variable {X : Cx}
@[simp] def tLt : D → D → Option (D × Bool)
  | .tup xs, .tup ys => (atomsD xs).bind fun as => (atomsD ys).bind fun bs => (lexA as bs).map fun r => (.bl r, false)
  | _, _ => none
@[simp] def tGt : D → D → Option (D × Bool)
  | .tup xs, .tup ys => (atomsD xs).bind fun as => (atomsD ys).bind fun bs => (lexA bs as).map fun r => (.bl r, false)
  | _, _ => none
end
end DL

namespace DL
open PySem PySem.Spec PySem.W PyProof.Rows L2
/-! ### range(lo, hi) -/
section
variable {X : Cx} {a b : Expr} {p pos : Pos}
@[simp] def iRange2 (f g : FE) : FA := fun ρ => (f ρ).bind fun x => (g ρ).bind fun y => match x.1, y.1 with
  | .int i, .int j => if -1000 ≤ i ∧ i ≤ 1000 ∧ -1000 ≤ j ∧ j ≤ 1000 then some (rangeD i (j - i).toNat) else none
  | _, _ => none
theorem jr_range2 {tg : Expr} {f g : FE} (hm : X.mg "range" = none) (h : JE X a f) (h' : JE X b g) (hg : Gl X "range" := by rfl) (hs : starEach [a, b] X.env = [(false, eval a X.env), (false, eval b X.env)] := by rfl) (hs2 : starEach [b] X.env = [(false, eval b X.env)] := by rfl) : PI X tg (.Call (.Name "range" p) [a, b] [] pos) (tDR X.K (iRange2 f g)) := by
  refine PI.to (pi_range2 hg hm (ja_cons h (ja_cons h' ja_nil hs2) (by rw [hs, hs2])) hs hs2) fun σ H R q => ?_
  obtain ⟨B, ρ, ds, sB, r, e', q⟩ := q
  obtain ⟨⟨x, xb⟩, ex, e'⟩ := Option.bind_eq_some_iff.mp e'
  obtain ⟨⟨y, yb⟩, ey, e'⟩ := Option.bind_eq_some_iff.mp e'
  match x, y, ex, ey, e' with
  | .int i, .int j, ex, ey, e' =>
    dsimp only at e'
    split at e'
    · rename_i hj
      cases e'
      refine ⟨B, ρ, [.int i, .int j], sB, r, by simp [fCons, fNil, ex, ey], fun vs H1 N1 x1 i1 => ?_⟩
      cases i1 with
      | cons i1 i2 =>
        cases i1
        cases i2 with
        | cons i2 i3 =>
          cases i2; cases i3
          exact ⟨i, j, rfl, by omega, q _ H1 N1 x1 fun _ => it_range i (j - i).toNat⟩
    · cases e'
end
/-! ### max of two tuples -/
@[simp] def maxTD : List D → Option (D × Bool)
  | [.tup xs, .tup ys] => (atomsD xs).bind fun as => (atomsD ys).bind fun bs => (lexA as bs).map fun r => (if r = true then .tup ys else .tup xs, false)
  | _ => none
section
variable {prog : Program} {w : World} {A : Around} {E : Value → Shared → Prop} {s : Shared}
end
section
variable {X : Cx}
end
end DL

namespace DL
open PySem PySem.Spec PyProof.Rows L2
/-! ### () + t is t itself -/
section
variable {X : Cx}
def tCat0 : D → D → Option (D × Bool)
  | .tup xs, .tup ys => if xs.isEmpty = true then some (.tup ys, false) else none
  | _, _ => none
theorem o_tcat0 : OpR X (binaryOp .Add) (rD X.K tCat0) := by
  intro pins s σ H x y v u Q I rx ry q
  obtain ⟨B, dx, dy, d, bb, sB, ix, iy, ee, q⟩ := q
  cases ix <;> cases iy <;> try (simp [tCat0] at ee; done)
  rename_i l vs ds h hl l' ws es h' hl'
  simp only [tCat0] at ee
  split at ee
  · rename_i hz
    cases ee
    cases rx
    cases ry
    obtain ⟨its, r1, p1, _⟩ := I.tuple (same_seqT sB h)
    obtain ⟨its2, r2, p2, _⟩ := I.tuple (same_seqT sB h')
    have he : its.toArray.isEmpty = true := by
      have e1 := hl.length
      have e2 := r1.length
      have e3 := List.isEmpty_iff.mp hz
      rw [e3] at e1
      cases its with
      | nil => rfl
      | cons a b => rw [e1] at e2; simp at e2
    obtain ⟨⟨cls, dd, data, sl⟩, ho, hc, n, hd⟩ := id p1
    obtain ⟨⟨cls2, dd2, data2, sl2⟩, ho2, hc2, n2, hd2⟩ := id p2
    dsimp only at hc hd hc2 hd2
    subst hc; subst hd; subst hc2; subst hd2
    exact concat_meets ⟨_, ho, rfl⟩ ⟨_, ho2, rfl⟩ noFill_tuple_add seq_tuple_add PySem.F.slot_tuple_add PySem.F.entry_tuple_add (PySem.F.args_tuple_add_2 _ _)
      (tuple_addW0 l l' its.toArray its2.toArray n n2 dd dd2 sl sl2 he) ⟨ho, ho2, ⟨.ref l', H, I, rfl, q.one sB (.tup h' hl')⟩⟩
  · cases ee
@[simp] def tAddD : D → D → Option (D × Bool)
  | .tup xs, .tup ys => if xs.length + ys.length ≤ sizeLine then some (.tup (xs ++ ys), false) else none
  | _, _ => none
theorem or_tadd (xs ys : List D) (z : xs.length + ys.length ≤ sizeLine) : orD tCat tCat0 (.tup xs) (.tup ys) = some (.tup (xs ++ ys), false) := by
  cases xs with
  | nil =>
    have : tCat (.tup []) (.tup ys) = none := if_neg (fun h => by cases h.2)
    show (match tCat (.tup []) (.tup ys) with | some z => some z | none => tCat0 (.tup []) (.tup ys)) = _
    rw [this]
    rfl
  | cons a l =>
    have : tCat (.tup (a :: l)) (.tup ys) = some (.tup (a :: l ++ ys), false) := if_pos ⟨z, rfl⟩
    show (match tCat (.tup (a :: l)) (.tup ys) with | some z => some z | none => tCat0 (.tup (a :: l)) (.tup ys)) = _
    rw [this]
theorem o_tadd : OpR X (binaryOp .Add) (rD X.K tAddD) := by
  refine opr_to (r := rD X.K (orD tCat tCat0)) (opr_or o_tcat o_tcat0) fun x y H Q q => ?_
  obtain ⟨B, dx, dy, d, bb, sB, ix, iy, ee, q⟩ := q
  refine ⟨B, dx, dy, d, bb, sB, ix, iy, ?_, q⟩
  cases ix <;> try (cases ee; done)
  cases iy <;> try (cases ee; done)
  rename_i l vs ds h hl l' ws es h' hl'
  simp only [tAddD] at ee
  split at ee
  · rename_i hz
    rw [or_tadd _ _ hz]
    exact ee
  · cases ee
end
end DL

namespace DL
open PySem L2
/-! ### the pure side: tools -/
theorem forL_inv {tg : FG} {g : FS} (I : Nat → Env → Prop) (ds : List D) (ρ0 : Env) (h0 : I 0 ρ0)
    (step : ∀ i d ρ, ds[i]? = some d → I i ρ → ∃ ρ1 ρ', tg d ρ = some ρ1 ∧ (g ρ1 = some (.nx ρ') ∨ g ρ1 = some (.ct ρ')) ∧ I (i + 1) ρ') :
    ∃ ρ', forL tg g ds ρ0 = some (.nx ρ') ∧ I ds.length ρ' := by
  have key : ∀ (es : List D) (i : Nat) (ρ : Env), ds.drop i = es → i + es.length = ds.length → I i ρ → ∃ ρ', forL tg g es ρ = some (.nx ρ') ∧ I ds.length ρ' := by
    intro es
    induction es with
    | nil => intro i ρ e hl h; refine ⟨ρ, by rw [forL_nil], ?_⟩; rw [← hl]; exact h
    | cons d es ih =>
      intro i ρ e hl h
      have hd : ds[i]? = some d := by
        have : (ds.drop i)[0]? = some d := by rw [e]; rfl
        rwa [List.getElem?_drop, Nat.add_zero] at this
      obtain ⟨ρ1, ρ', h1, h2, h3⟩ := step i d ρ hd h
      have he : ds.drop (i + 1) = es := by rw [← List.drop_drop, e]; rfl
      obtain ⟨ρ2, k1, k2⟩ := ih (i + 1) ρ' he (by simp at hl; omega) h3
      refine ⟨ρ2, ?_, k2⟩
      rw [forL_cons, h1]
      rcases h2 with h2 | h2 <;> simp only [Option.bind_some, h2] <;> exact k1
  exact key ds 0 ρ0 (by simp) (by simp) h0
/-- a loop over ints from nought on -/
theorem forR_inv {tg : FG} {g : FS} (n : Nat) (I : Nat → Env → Prop) (ρ0 : Env) (h0 : I 0 ρ0)
    (step : ∀ (i : Nat) ρ, i < n → I i ρ → ∃ ρ1 ρ', tg (.int (i : Int)) ρ = some ρ1 ∧ (g ρ1 = some (.nx ρ') ∨ g ρ1 = some (.ct ρ')) ∧ I (i + 1) ρ') :
    ∃ ρ', forL tg g (rangeD 0 n) ρ0 = some (.nx ρ') ∧ I n ρ' := by
  have hl : (rangeD 0 n).length = n := by simp [rangeD]
  obtain ⟨ρ', h1, h2⟩ := forL_inv (tg := tg) (g := g) I (rangeD 0 n) ρ0 h0 fun i d ρ hd h => by
    unfold rangeD at hd
    rw [List.getElem?_map] at hd
    obtain ⟨k, hk, hd⟩ := Option.map_eq_some_iff.mp hd
    obtain ⟨hlt, hk⟩ := List.getElem?_eq_some_iff.mp hk
    rw [List.length_range] at hlt
    rw [List.getElem_range] at hk
    subst hk
    rw [Int.zero_add] at hd
    subst hd
    exact step i ρ hlt h
  rw [hl] at h2
  exact ⟨ρ', h1, h2⟩
theorem atI_ge {α : Type} {xs : List α} {j : Nat} (h : j < xs.length) : atI xs (j : Int) = some xs[j] := atI_nat (by simp [h])
theorem atI_int {α : Type} {xs : List α} {i : Int} (h0 : 0 ≤ i) (h : i.toNat < xs.length) : atI xs i = some xs[i.toNat] := by
  have := atI_ge h
  rwa [Int.toNat_of_nonneg h0] at this
@[simp] theorem noLsts_ints (xs : List Int) : noLsts (xs.map D.int) = true := by
  induction xs with
  | nil => simp
  | cons x xs ih => simp [ih]
@[simp] theorem allPlain_ints (n : Nat) (xs : List Int) : (xs.map D.int).all (plainN n) = true := by
  induction xs with
  | nil => simp
  | cons x xs ih => simpa using ih
@[simp] theorem allFlat_ints (xs : List Int) : (xs.map D.int).all flatD = true := by
  induction xs with
  | nil => simp
  | cons x xs ih => simpa using ih
theorem rangeD_eq (n : Nat) : rangeD 0 n = ((List.range n).map fun (k : Nat) => (k : Int)).map D.int := by
  unfold rangeD
  rw [List.map_map]
  apply List.map_congr_left
  intro k _
  simp
mutual
def sameD : D → D → Bool
  | .non, .non => true
  | .bl a, .bl b => a == b
  | .int a, .int b => decide (a = b)
  | .str a, .str b => decide (a = b)
  | .ty a, .ty b => decide (a = b)
  | .tup xs, .tup ys => sameDs xs ys
  | .lst xs, .lst ys => sameDs xs ys
  | _, _ => false
def sameDs : List D → List D → Bool
  | [], [] => true
  | x :: xs, y :: ys => sameD x y && sameDs xs ys
  | _, _ => false
end
mutual
theorem same_eq : ∀ {x y : D}, sameD x y = true → x = y
  | .non, .non, _ => rfl
  | .bl a, .bl b, h => by simp [sameD] at h; rw [h]
  | .int a, .int b, h => by simp [sameD] at h; rw [h]
  | .str a, .str b, h => by simp [sameD] at h; rw [h]
  | .ty a, .ty b, h => by simp [sameD] at h; rw [h]
  | .tup xs, .tup ys, h => by rw [sameD] at h; rw [sames_eq h]
  | .lst xs, .lst ys, h => by rw [sameD] at h; rw [sames_eq h]
theorem sames_eq : ∀ {xs ys : List D}, sameDs xs ys = true → xs = ys
  | [], [], _ => rfl
  | x :: xs, y :: ys, h => by
    rw [sameDs, Bool.and_eq_true] at h
    rw [same_eq h.1, sames_eq h.2]
end
/-- an answer, decided -/
def isR (r : Option (D × Bool)) (d : D) (b : Bool) : Bool := match r with
  | some (e, c) => sameD e d && c == b
  | none => false
theorem isR_eq {r : Option (D × Bool)} {d : D} {b : Bool} (h : isR r d b = true) : r = some (d, b) := by
  unfold isR at h
  split at h
  · rw [Bool.and_eq_true] at h
    rw [same_eq h.1, eq_of_beq h.2]
  · cases h
end DL

namespace DL
open PySem L2
/-! ### running a body, statement by statement -/
section
variable {f : FE} {c : FT} {g g' h : FS} {ρ ρ' : Env} {i : Nat} {d : D} {b : Bool} {r : Option Res} {ds : List D}
theorem body_rt {n k : Nat} (hl : ds.length = n) (e : g (ds.map (fun d => some (d, false)) ++ List.replicate k none) = some (.rt d b)) : bodyF g n k ds = some (d, b) := by
  unfold bodyF; rw [if_pos hl, e]
theorem setE_flat (n : noLst d = true) : setE ρ i d b = ρ.set i (some (d, false)) := by unfold setE; rw [if_pos n]
theorem setE_own (n : noLsts ds = true) : setE ρ i (.lst ds) true = ρ.set i (some (.lst ds, true)) := by
  unfold setE
  rw [if_neg (by simp), if_pos ⟨rfl, by simpa using n⟩]
theorem r_set (e : f ρ = some (d, b)) (k : h (setE ρ i d b) = r) : gSeq (gSet i f) h ρ = r := by simp [e]; exact k
theorem r_flat (e : f ρ = some (d, b)) (n : noLst d = true) (k : h (ρ.set i (some (d, false))) = r) : gSeq (gSet i f) h ρ = r := r_set e (by rw [setE_flat n]; exact k)
theorem r_own (e : f ρ = some (.lst ds, true)) (n : noLsts ds = true) (k : h (ρ.set i (some (.lst ds, true))) = r) : gSeq (gSet i f) h ρ = r := r_set e (by rw [setE_own n]; exact k)
theorem r_seq (e : g ρ = some (.nx ρ')) (k : h ρ' = r) : gSeq g h ρ = r := by unfold gSeq; rw [e]; exact k
theorem r_rt (e : g ρ = some (.rt d b)) : gSeq g h ρ = some (.rt d b) := by unfold gSeq; rw [e]
theorem if_t (e : c ρ = some true) (k : g ρ = r) : gIf c g g' ρ = r := by unfold gIf; rw [e]; exact k
theorem if_f (e : c ρ = some false) (k : g' ρ = r) : gIf c g g' ρ = r := by unfold gIf; rw [e]; exact k
theorem r_if_t (e : c ρ = some true) (k : g ρ = some (.rt d b)) : gSeq (gIf c g g') h ρ = some (.rt d b) := r_rt (if_t e k)
theorem r_if_f (e : c ρ = some false) (k : h ρ = r) : gSeq (gIf c g gNext) h ρ = r := r_seq (if_f e rfl) k
theorem ret_ok (e : f ρ = some (d, b)) : gRet f ρ = some (.rt d b) := by simp [e]
theorem retV_ok (e : ρ[i]? = some (some (d, b))) : gRetV i ρ = some (.rt d b) := by simp [e]
theorem app_ok (e : ρ[i]? = some (some (.lst ds, true))) (ef : f ρ = some (d, b)) (n : noLst d = true) (l : ds.length < sizeLine) : gApp i f ρ = some (.nx (ρ.set i (some (.lst (ds ++ [d]), true)))) := by
  simp [e, ef, n, l]
theorem forR_run {fi : FA} {tg : FG} {ds : List D} (e : fi ρ = some ds) (k : forL tg g ds ρ = some (.nx ρ')) : gForR fi tg g ρ = some (.nx ρ') := by unfold gForR; rw [e]; exact k
theorem for_run {fi : FA} {tg : FG} {ds : List D} (e : fi (hide ρ) = some ds) (k : forL tg g ds ρ = some (.nx ρ')) : gFor fi tg g ρ = some (.nx ρ') := by unfold gFor; rw [e]; exact k
theorem iRange_ok {f : FE} {j : Nat} (e : f ρ = some (.int j, b)) (hj : j ≤ 1000) : iRange f ρ = some (rangeD 0 j) := by
  unfold iRange; rw [e]; simp only []; rw [if_pos (by omega)]; simp
theorem tOf_ok {x : Bool} (e : f ρ = some (.bl x, b)) : tOf f ρ = some x := by unfold tOf; rw [e]
theorem call_ok {F : List D → Option (D × Bool)} {fa : FA} {x : Option (D × Bool)} (e : fa ρ = some ds) (k : F ds = x) : fA F fa ρ = x := by unfold fA; rw [e, Option.bind_some]; exact k
theorem chain_ok {f1 g1 : D → D → Option (D × Bool)} {fa fb fc : FE} {x y z : D} {b1 b2 b3 b4 p q : Bool} (ea : fa ρ = some (x, b1)) (eb : fb ρ = some (y, b2)) (ec : fc ρ = some (z, b3)) (e1 : f1 x y = some (.bl p, b4)) (e2 : p = true → g1 y z = some (.bl q, false)) : fChain f1 g1 fa fb fc ρ = some (.bl (p && q), false) := by
  unfold fChain
  rw [ea, eb, ec]
  simp only [Option.bind_some, e1]
  cases p
  · rfl
  · exact e2 rfl
theorem and_ok {f1 f2 : FE} {p q b1 : Bool} (e1 : f1 ρ = some (.bl p, b1)) (e2 : p = true → f2 ρ = some (.bl q, false)) : fAnd f1 f2 ρ = some (.bl (p && q), false) := by
  unfold fAnd
  rw [e1]
  cases p
  · rfl
  · exact e2 rfl
theorem a_cons {fr : FA} {xs : List D} (e1 : f ρ = some (d, b)) (e2 : fr ρ = some xs) : fCons f fr ρ = some (d :: xs) := by
  unfold fCons; rw [e1, Option.bind_some, e2, Option.bind_some]
theorem e_op {op : D → D → Option (D × Bool)} {fa fb : FE} {x y : D} {b1 b2 : Bool} {z : Option (D × Bool)} (e1 : fa ρ = some (x, b1)) (e2 : fb ρ = some (y, b2)) (e3 : op x y = z) : f2 op fa fb ρ = z := by
  unfold f2; rw [e1, Option.bind_some, e2, Option.bind_some]; exact e3
theorem tand_ok {c1 c2 : FT} {p q : Bool} (e1 : c1 ρ = some p) (e2 : p = true → c2 ρ = some q) : tAndF c1 c2 ρ = some (p && q) := by
  unfold tAndF
  rw [e1]
  cases p
  · rfl
  · exact e2 rfl
theorem tor_ok {c1 c2 : FT} {p q : Bool} (e1 : c1 ρ = some p) (e2 : p = false → c2 ρ = some q) : tOrF c1 c2 ρ = some (p || q) := by
  unfold tOrF
  rw [e1]
  cases p
  · exact e2 rfl
  · rfl
theorem tnot_ok {c1 : FT} {p : Bool} (e1 : c1 ρ = some p) : tNotF c1 ρ = some (!p) := by
  unfold tNotF; rw [e1]; rfl
end
theorem lt1 (a c : Nat) : decide ([a] < [c]) = decide (a < c) := by
  congr 1
  rw [List.cons_lt_cons_iff]
  simp
@[simp] theorem le_sign (a c : Nat) : dLe (.str ⟨#[a]⟩) (.str ⟨#[c]⟩) = some (.bl (decide (a ≤ c)), false) := by
  unfold dLe
  show some (D.bl (!decide ([c] < [a])), false) = _
  rw [lt1]
  congr 3
  by_cases h : c < a
  · rw [decide_eq_true h, decide_eq_false (by omega)]; rfl
  · rw [decide_eq_false h, decide_eq_true (by omega)]; rfl
theorem small_size {n : Nat} (h : n ≤ 100000) : n < sizeLine := Nat.lt_of_le_of_lt h (by decide)
theorem small_le {n : Nat} (h : n ≤ 100000) : n ≤ sizeLine := Nat.le_of_lt (small_size h)
end DL

namespace DL
open PySem L2
/-! ### the drawn numbers that the laws' texts share -/
end DL

namespace DL
open PySem L2
theorem compM {α : Type} {fi : FA} {nT : Nat} {cap : List Nat} {tg : FG} {c : FT} {fe : FE} {ρ : DL.Env} (l : List α) (g : α → D) (p : α → Bool) (h : α → D) (e : fi ρ = some (l.map g)) (hl : l.length ≤ 100000)
    (k : ∀ x ∈ l, ∃ ρ1, tg (g x) (capE nT cap ρ) = some ρ1 ∧ c ρ1 = some (p x) ∧ (p x = true → ∃ b, fe ρ1 = some (h x, b))) : fComp fi nT cap tg c fe ρ = some (.lst ((l.filter p).map h), true) := by
  have key : ∀ l' : List α, (∀ x ∈ l', x ∈ l) → compL tg c fe (capE nT cap ρ) (l'.map g) = some ((l'.filter p).map h) := by
    intro l'
    induction l' with
    | nil => intro _; simp
    | cons x l' ih =>
      intro hm
      obtain ⟨ρ1, h1, h2, h3⟩ := k x (hm x List.mem_cons_self)
      have ih := ih fun y hy => hm y (List.mem_cons_of_mem _ hy)
      rw [List.map_cons, compL_cons, h1, Option.bind_some, h2, Option.bind_some]
      cases hp : p x with
      | false => simp [hp, ih]
      | true =>
        obtain ⟨b, h4⟩ := h3 hp
        simp [hp, ih, h4]
  unfold fComp
  rw [e, Option.bind_some, if_pos (small_le (by simpa using hl)), key l fun _ h => h, Option.map_some]
/-- .. without a test -/
theorem compT {α : Type} {fi : FA} {nT : Nat} {cap : List Nat} {tg : FG} {fe : FE} {ρ : DL.Env} (l : List α) (g : α → D) (h : α → D) (e : fi ρ = some (l.map g)) (hl : l.length ≤ 100000)
    (k : ∀ x ∈ l, ∃ ρ1, tg (g x) (capE nT cap ρ) = some ρ1 ∧ ∃ b, fe ρ1 = some (h x, b)) : fComp fi nT cap tg cTrue fe ρ = some (.lst (l.map h), true) := by
  have := compM (c := cTrue) (fe := fe) l g (fun _ => true) h e hl fun x hx => by
    obtain ⟨ρ1, h1, h2⟩ := k x hx
    exact ⟨ρ1, h1, rfl, fun _ => h2⟩
  rw [List.filter_eq_self.mpr fun _ _ => rfl] at this
  exact this
@[simp] theorem blsD_map {α : Type} (f : α → Bool) (l : List α) : blsD (l.map fun x => .bl (f x)) = some (l.map f) := by
  induction l with
  | nil => rfl
  | cons x l ih => simp [ih]
theorem ix_str {z : Str} {i : Int} (h0 : 0 ≤ i) (h : i.toNat < z.cps.size) (hz : z.length ≤ 100000) : ixD (.str z) (.int i) = some (.str ⟨#[z.cps.toList.getD i.toNat 0]⟩, false) := by
  have hh : i.toNat < z.cps.toList.length := by simpa using h
  simp only [ixD]
  rw [if_pos (small_le hz), atI_int h0 hh]
  simp [List.getD, h]
theorem ix_lst {ds : List D} {i : Int} (h0 : 0 ≤ i) (h : i.toNat < ds.length) : ixD (.lst ds) (.int i) = some (ds.getD i.toNat .non, false) := by
  simp only [ixD]
  rw [atI_int h0 h]
  simp [List.getD, h]
theorem ix_tup {ds : List D} {i : Int} (h0 : 0 ≤ i) (h : i.toNat < ds.length) : ixD (.tup ds) (.int i) = some (ds.getD i.toNat .non, false) := by
  simp only [ixD]
  rw [atI_int h0 h]
  simp [List.getD, h]
theorem ix_ints {xs : List Int} {i : Int} (h0 : 0 ≤ i) (h : i.toNat < xs.length) : ixD (.lst (xs.map .int)) (.int i) = some (.int (xs.getD i.toNat 0), false) := by
  rw [ix_lst h0 (by simpa using h)]
  simp [List.getD, h]
/-- an item of a short list, by cases -/
theorem mod_lt {x m : Int} (hm : 0 < m) : 0 ≤ x % m ∧ x % m < m := ⟨Int.emod_nonneg _ (by omega), Int.emod_lt_of_pos _ hm⟩
theorem len_lst {ds : List D} : lenD [.lst ds] = some (.int ds.length, false) := rfl
theorem eq_ints {i j : Int} : dEq (.int i) (.int j) = some (.bl (decide (i = j)), false) := by simp
theorem sIx_some {n d : Nat} {v : Int} (h : 0 ≤ v) : HT.sIx n d (some v) = min v.toNat n := by
  show (if v < 0 then (v + (n : Int)).toNat else min v.toNat n) = _
  rw [if_neg (by omega)]
def cutL {α : Type} (xs : List α) (lo hi : Option Int) : List α := (xs.drop (HT.sIx xs.length 0 lo)).take (HT.sIx xs.length xs.length hi - HT.sIx xs.length 0 lo)
theorem cutD_map {α : Type} (f : α → D) (xs : List α) (lo hi : Option Int) : cutD (xs.map f) lo hi = (cutL xs lo hi).map f := by
  unfold cutD cutL
  rw [List.length_map, List.map_take, List.map_drop]
end DL

namespace Lw
open PySem DL
def c_PARTS : List (PySem.Str × D) := [(("root" : PySem.Str), (.tup [(.str ("office" : PySem.Str)), (.str ("matters" : PySem.Str)), (.str ("further" : PySem.Str)), (.str ("rule" : PySem.Str))])), (("named" : PySem.Str), (.tup [(.str ("day" : PySem.Str)), (.str ("office" : PySem.Str)), (.str ("person" : PySem.Str))])), (("chosen" : PySem.Str), (.tup [(.str ("day" : PySem.Str)), (.str ("by" : PySem.Str)), (.str ("office" : PySem.Str)), (.str ("person" : PySem.Str)), (.str ("since" : PySem.Str))])), (("heir" : PySem.Str), (.tup [(.str ("day" : PySem.Str)), (.str ("by" : PySem.Str)), (.str ("office" : PySem.Str)), (.str ("person" : PySem.Str))])), (("death" : PySem.Str), (.tup [(.str ("day" : PySem.Str)), (.str ("person" : PySem.Str))])), (("lost" : PySem.Str), (.tup [(.str ("day" : PySem.Str)), (.str ("person" : PySem.Str))])), (("found" : PySem.Str), (.tup [(.str ("day" : PySem.Str)), (.str ("person" : PySem.Str))])), (("leave" : PySem.Str), (.tup [(.str ("day" : PySem.Str)), (.str ("by" : PySem.Str)), (.str ("person" : PySem.Str)), (.str ("matters" : PySem.Str)), (.str ("stretch" : PySem.Str)), (.str ("further" : PySem.Str))])), (("paper" : PySem.Str), (.tup [(.str ("day" : PySem.Str)), (.str ("by" : PySem.Str)), (.str ("matters" : PySem.Str)), (.str ("stretch" : PySem.Str)), (.str ("whom" : PySem.Str)), (.str ("pieces" : PySem.Str))])), (("like" : PySem.Str), (.tup [(.str ("day" : PySem.Str)), (.str ("by" : PySem.Str)), (.str ("matters" : PySem.Str)), (.str ("stretch" : PySem.Str)), (.str ("whom" : PySem.Str)), (.str ("of" : PySem.Str)), (.str ("changes" : PySem.Str))])), (("copy" : PySem.Str), (.tup [(.str ("day" : PySem.Str)), (.str ("by" : PySem.Str)), (.str ("of" : PySem.Str))])), (("call" : PySem.Str), (.tup [(.str ("day" : PySem.Str)), (.str ("by" : PySem.Str)), (.str ("of" : PySem.Str))]))]
def c_SEALINGS : D := (.tup [(.str ("chosen" : PySem.Str)), (.str ("heir" : PySem.Str)), (.str ("leave" : PySem.Str)), (.str ("paper" : PySem.Str)), (.str ("like" : PySem.Str)), (.str ("copy" : PySem.Str)), (.str ("call" : PySem.Str))])
def g_w_cell_at : FS :=
    (gSeq (gIf (tOf (f2 dLt (fVar 1) (fA lenD (fCons (fVar 0) fNil)))) (gRet (f2 ixD (fVar 0) (fVar 1))) gNext)
    (gRet (fC (.int 0))))
def F_w_cell_at : List D → Option (D × Bool) := bodyF g_w_cell_at 2 0
def B1_w_names : FS :=
    (gSeq (gSet 7 (f2 ixD (fC (.str ("bqcxdlenhusv" : PySem.Str))) (f2 iMod (f2 dAdd (f2 iDiv (fVar 0) (fC (.int 64))) (f2 dMul (fC (.int 5)) (fVar 6))) (fC (.int 12)))))
    (gApp 5 (f2 dAdd (f2 dAdd (fSl (fVar 3) oNone (oSome (fVar 4))) (fVar 7)) (fSl (fVar 3) (oSome (f2 dAdd (fVar 4) (fC (.int 1)))) oNone))))
def g_w_names : FS :=
    (gSeq (gSet 2 (f2 dAdd (fC (.int 1)) (f2 iMod (fVar 0) (fC (.int 8)))))
    (gSeq (gSet 3 (fSl (fC (.str ("gmtazkfw" : PySem.Str))) oNone (oSome (fVar 2))))
    (gSeq (gSet 4 (f2 iMod (f2 iDiv (fVar 0) (fC (.int 8))) (fVar 2)))
    (gSeq (gSet 5 (fA mkLst fNil))
    (gSeq (gForR (iRange (fVar 1)) (tgN 6) B1_w_names)
    (gRetV 5))))))
def F_w_names : List D → Option (D × Bool) := bodyF g_w_names 2 6
def B1_w_cells : FS :=
    (gSeq (gSet 4 (f2 iMod (f2 dAdd (f2 dAdd (f2 dMul (fVar 4) (fC (.int 48271))) (fA lenD (fCons (fVar 3) fNil))) (fC (.int 1))) (fC (.int 2147483647))))
    (gApp 3 (fVar 4)))
def g_w_cells : FS :=
    (gSeq (gSet 3 (fSl (fVar 0) (oSome (fVar 1)) (oSome (f2 dAdd (fVar 1) (fVar 2)))))
    (gSeq (gSet 4 (f2 iMod (fA F_w_cell_at (fCons (fVar 0) (fCons (fC (.int 1)) fNil))) (fC (.int 2147483647))))
    (gSeq (whileF (tAndF (tOf (f2 dEq (f2 iMod (f2 iDiv (fA F_w_cell_at (fCons (fVar 0) (fCons (fC (.int 0)) fNil))) (fC (.int 21))) (fC (.int 8))) (fC (.int 5)))) (tOf (f2 dLt (fA lenD (fCons (fVar 3) fNil)) (fVar 2)))) B1_w_cells 1000)
    (gRetV 3))))
def F_w_cells : List D → Option (D × Bool) := bodyF g_w_cells 3 2
def g_w_deed : FS :=
    (gSeq (gSet 4 (f2 iMod (f2 iDiv (fVar 0) (fC (.int 1000))) (fC (.int 60))))
    (gSeq (gSet 5 (fA mkLst (fCons (fA mkTup (fCons (fC (.str ("death" : PySem.Str))) (fCons (fVar 1) (fCons (fVar 2) fNil)))) (fCons (fA mkTup (fCons (fC (.str ("lost" : PySem.Str))) (fCons (fVar 1) (fCons (fVar 2) fNil)))) (fCons (fA mkTup (fCons (fC (.str ("found" : PySem.Str))) (fCons (fVar 1) (fCons (fVar 2) fNil)))) (fCons (fA mkTup (fCons (fC (.str ("lost" : PySem.Str))) (fCons (fVar 1) (fCons (fVar 3) fNil)))) fNil))))))
    (gSeq (gSet 5 (f2 dAdd (fVar 5) (fA mkLst (fCons (fA mkTup (fCons (fC (.str ("paper" : PySem.Str))) (fCons (fVar 1) (fCons (fVar 2) (fCons (f2 dAdd (fC (.int 1)) (fVar 4)) (fCons (fA mkTup (fCons (fVar 1) (fCons (fC .non) fNil))) (fCons (fVar 3) (fCons (fA mkTup (fCons (fC (.str ("found" : PySem.Str))) (fCons (fVar 2) fNil))) fNil)))))))) (fCons (fA mkTup (fCons (fC (.str ("copy" : PySem.Str))) (fCons (fVar 1) (fCons (fVar 3) (fCons (fVar 4) fNil))))) fNil)))))
    (gSeq (gSet 5 (f2 dAdd (fVar 5) (fA mkLst (fCons (fA mkTup (fCons (fC (.str ("leave" : PySem.Str))) (fCons (fVar 1) (fCons (fVar 2) (fCons (fVar 3) (fCons (fC (.int 3)) (fCons (fA mkTup (fCons (fVar 1) (fCons (f2 dAdd (fVar 1) (fC (.int 1))) fNil))) (fCons (f2 iMod (fVar 4) (fC (.int 10))) fNil)))))))) (fCons (fA mkTup (fCons (fC (.str ("call" : PySem.Str))) (fCons (fVar 1) (fCons (fVar 2) (fCons (fVar 4) fNil))))) fNil)))))
    (gRet (f2 ixD (fVar 5) (f2 iMod (fVar 0) (fC (.int 8)))))))))
def F_w_deed : List D → Option (D × Bool) := bodyF g_w_deed 4 2
def B1_w_rows : FS :=
    (gSeq (gSet 4 (f2 iMod (f2 iDiv (fVar 3) (fC (.int 8))) (fC (.int 13))))
    (gSeq (gSet 5 (f2 ixD (fVar 1) (f2 iMod (f2 iDiv (fVar 3) (fC (.int 104))) (fA lenD (fCons (fVar 1) fNil)))))
    (gSeq (gSet 6 (f2 ixD (fVar 1) (f2 iMod (f2 iDiv (fVar 3) (fC (.int 520))) (fA lenD (fCons (fVar 1) fNil)))))
    (gApp 2 (fA mkTup (fCons (f2 dAdd (fVar 4) (f2 ixD (fA mkLst (fCons (fC (.int 0)) (fCons (fC (.int 0)) (fCons (fC (.int 1)) (fCons (fC (.int 6)) fNil))))) (f2 iMod (f2 iDiv (fVar 3) (fC (.int 2600))) (fC (.int 4))))) (fCons (fA F_w_deed (fCons (fVar 3) (fCons (fVar 4) (fCons (fVar 5) (fCons (fVar 6) fNil))))) fNil)))))))
def g_w_rows : FS :=
    (gSeq (gSet 2 (fA mkLst fNil))
    (gSeq (gFor (iSeq (fA F_w_cells (fCons (fVar 0) (fCons (fC (.int 4)) (fCons (fC (.int 30)) fNil))))) (tgN 3) B1_w_rows)
    (gRet (fA to_tuple (fCons (fVar 2) fNil)))))
def F_w_rows : List D → Option (D × Bool) := bodyF g_w_rows 2 5
def g_w_unknown : FS :=
    (gSeq (gSet 4 (f2 dAdd (fA F_w_cell_at (fCons (fVar 0) (fCons (f2 dAdd (fC (.int 34)) (f2 iMod (fVar 1) (fC (.int 30)))) fNil))) (f2 dMul (fC (.int 7)) (fVar 1))))
    (gSeq (gSet 5 (f2 iMod (f2 iDiv (fVar 4) (fC (.int 8))) (fC (.int 13))))
    (gSeq (gSet 6 (f2 ixD (fVar 2) (f2 iMod (f2 iDiv (fVar 4) (fC (.int 104))) (fA lenD (fCons (fVar 2) fNil)))))
    (gRet (fA mkTup (fCons (f2 dAdd (f2 dAdd (f2 dAdd (fVar 3) (fC (.int 1))) (f2 iMod (f2 iDiv (fVar 4) (fC (.int 5))) (fC (.int 3)))) (fVar 5)) (fCons (fA F_w_deed (fCons (f2 iDiv (fVar 4) (fC (.int 3))) (fCons (fVar 5) (fCons (fVar 6) (fCons (f2 ixD (fVar 2) (f2 iMod (f2 iDiv (fVar 4) (fC (.int 7))) (fA lenD (fCons (fVar 2) fNil)))) fNil))))) fNil)))))))
def F_w_unknown : List D → Option (D × Bool) := bodyF g_w_unknown 4 3
def g_heard : FS :=
    (gRet (fComp (iEnum (fVar 0)) 2 [1] (tgT [0, 1]) (tOf (f2 dLe (f2 ixD (fVar 1) (fC (.int 0))) (fVar 2))) (fVar 0)))
def F_heard : List D → Option (D × Bool) := bodyF g_heard 2 0
def g_word_of : FS :=
    (gRet (f2 ixD (f2 ixD (fVar 0) (fC (.int 1))) (fC (.int 0))))
def F_word_of : List D → Option (D × Bool) := bodyF g_word_of 1 0
def g_part_of : FS :=
    (gRet (f2 ixD (f2 ixD (fVar 0) (fC (.int 1))) (f2 dAdd (fC (.int 1)) (f2 (cIdx c_PARTS) (fA F_word_of (fCons (fVar 0) fNil)) (fVar 1)))))
def F_part_of : List D → Option (D × Bool) := bodyF g_part_of 2 0
def g_day_of : FS :=
    (gSeq (gIf (tOf (f2 dEq (fA F_word_of (fCons (fVar 0) fNil)) (fC (.str ("root" : PySem.Str))))) (gRet (fC .non)) gNext)
    (gRet (fA F_part_of (fCons (fVar 0) (fCons (fC (.str ("day" : PySem.Str))) fNil)))))
def F_day_of : List D → Option (D × Bool) := bodyF g_day_of 1 0
def g_tells : FS :=
    (gRet (fAnd (f2 dIn (fA F_word_of (fCons (fVar 0) fNil)) (fVar 1)) (fAnd (f2 dEq (fA F_part_of (fCons (fVar 0) (fCons (fC (.str ("person" : PySem.Str))) fNil))) (fVar 2)) (f2 dLe (fA F_day_of (fCons (fVar 0) fNil)) (fVar 3)))))
def F_tells : List D → Option (D × Bool) := bodyF g_tells 4 0
def g_told_of : FS :=
    (gRet (fComp (iSeq (fA F_heard (fCons (fVar 0) (fCons (fVar 1) fNil)))) 1 [2, 3, 4, 0] (tgN 0) (tOf (fA F_tells (fCons (f2 ixD (fVar 4) (fVar 0)) (fCons (fVar 1) (fCons (fVar 2) (fCons (fVar 3) fNil)))))) (fVar 0)))
def F_told_of : List D → Option (D × Bool) := bodyF g_told_of 5 0
def g_lives : FS :=
    (gRet (f2 dEq (fA lenD (fCons (fA F_told_of (fCons (fVar 0) (fCons (fVar 1) (fCons (fA mkTup (fCons (fC (.str ("death" : PySem.Str))) fNil)) (fCons (fVar 2) (fCons (fVar 3) fNil)))))) fNil)) (fC (.int 0))))
def F_lives : List D → Option (D × Bool) := bodyF g_lives 4 0
def g_rank : FS :=
    (gRet (fA mkTup (fCons (fA F_day_of (fCons (f2 ixD (fVar 0) (fVar 1)) fNil)) (fCons (fVar 1) fNil))))
def F_rank : List D → Option (D × Bool) := bodyF g_rank 2 0
def g_has_seal : FS :=
    (gSeq (gSet 4 (fA F_told_of (fCons (fVar 0) (fCons (fVar 1) (fCons (fA mkTup (fCons (fC (.str ("lost" : PySem.Str))) (fCons (fC (.str ("found" : PySem.Str))) fNil))) (fCons (fVar 2) (fCons (fVar 3) fNil)))))))
    (gSeq (gIf (tOf (f2 dEq (fA lenD (fCons (fVar 4) fNil)) (fC (.int 0)))) (gRet (fC (.bl true))) gNext)
    (gRet (f2 dEq (fA F_word_of (fCons (f2 ixD (fVar 0) (fMaxK (fVar 4) (keyL [0] (fA F_rank (fCons (fVar 1) (fCons (fVar 0) fNil)))))) fNil)) (fC (.str ("found" : PySem.Str)))))))
def F_has_seal : List D → Option (D × Bool) := bodyF g_has_seal 4 1
def g_is_known : FS :=
    (gRet (fAnd (fChain dLe dLt (fC (.int 0)) (fVar 2) (fA lenD (fCons (fVar 0) fNil))) (f2 dLe (f2 ixD (f2 ixD (fVar 0) (fVar 2)) (fC (.int 0))) (fVar 1))))
def F_is_known : List D → Option (D × Bool) := bodyF g_is_known 3 0
def g_is_sound : FS :=
    (gSeq (gIf (tOrF (tNotF (tOf (fA F_is_known (fCons (fVar 0) (fCons (fVar 1) (fCons (fVar 2) fNil)))))) (tOf (f2 dNotIn (fA F_word_of (fCons (f2 ixD (fVar 0) (fVar 2)) fNil)) (fC c_SEALINGS)))) (gRet (fC (.bl false))) gNext)
    (gSeq (gSet 3 (fA F_part_of (fCons (f2 ixD (fVar 0) (fVar 2)) (fCons (fC (.str ("by" : PySem.Str))) fNil))))
    (gSeq (gSet 4 (fA F_day_of (fCons (f2 ixD (fVar 0) (fVar 2)) fNil)))
    (gRet (fAnd (fA F_lives (fCons (fVar 0) (fCons (fVar 1) (fCons (fVar 3) (fCons (fVar 4) fNil))))) (fA F_has_seal (fCons (fVar 0) (fCons (fVar 1) (fCons (fVar 3) (fCons (fVar 4) fNil))))))))))
def F_is_sound : List D → Option (D × Bool) := bodyF g_is_sound 3 2
def B1_w_told : FS :=
    (gApp 4 (fA mkTup (fCons (fA F_lives (fCons (fVar 0) (fCons (fVar 1) (fCons (fVar 5) (fCons (fVar 6) fNil))))) (fCons (fA F_has_seal (fCons (fVar 0) (fCons (fVar 1) (fCons (fVar 5) (fCons (fVar 6) fNil))))) fNil))))
def B2_w_told : FS :=
    (gForR (iRange2 (fC (.int 0)) (fC (.int 14))) (tgN 6) B1_w_told)
def g_w_told : FS :=
    (gSeq (gSet 4 (fA mkLst fNil))
    (gSeq (gFor (iSeq (fVar 2)) (tgN 5) B2_w_told)
    (gRet (f2 dAdd (fVar 4) (fComp (iRange (fVar 3)) 1 [0, 1] (tgN 0) cTrue (fA F_is_sound (fCons (fVar 1) (fCons (fVar 2) (fCons (fVar 0) fNil)))))))))
def F_w_told : List D → Option (D × Bool) := bodyF g_w_told 4 3
def B1_w_stay_dead : FS :=
    (gIf (tOrF (tAndF (tOf (f2 ixD (fVar 5) (fVar 6))) (tNotF (tOf (f2 ixD (fVar 4) (fVar 6))))) (tAndF (tOf (f2 iGt (fVar 6) (fC (.int 0)))) (tAndF (tOf (f2 ixD (fVar 4) (fVar 6))) (tNotF (tOf (f2 ixD (fVar 4) (f2 iSub (fVar 6) (fC (.int 1))))))))) (gRet (fC (.bl false))) gNext)
def B2_w_stay_dead : FS :=
    (gSeq (gSet 4 (fComp (iRange (fC (.int 14))) 1 [0, 1, 3] (tgN 0) cTrue (fA F_lives (fCons (fVar 1) (fCons (fVar 2) (fCons (fVar 3) (fCons (fVar 0) fNil)))))))
    (gSeq (gSet 5 (fComp (iRange (fC (.int 14))) 1 [0, 3, 1] (tgN 0) cTrue (fA F_lives (fCons (fVar 1) (fCons (f2 dAdd (fVar 3) (fC (.int 3))) (fCons (fVar 2) (fCons (fVar 0) fNil)))))))
    (gForR (iRange (fC (.int 14))) (tgN 6) B1_w_stay_dead)))
def g_w_stay_dead : FS :=
    (gSeq (gFor (iSeq (fVar 2)) (tgN 3) B2_w_stay_dead)
    (gRet (fC (.bl true))))
def F_w_stay_dead : List D → Option (D × Bool) := bodyF g_w_stay_dead 3 4
def B1_law : FS :=
    (gSeq (gApp 5 (f2 ixD (fVar 2) (fVar 6)))
    (gIf (tOf (f2 iGt (f2 ixD (f2 ixD (fVar 2) (fVar 6)) (fC (.int 0))) (fVar 3))) (gPut 5 (fVar 6) (fA F_w_unknown (fCons (fVar 0) (fCons (fVar 6) (fCons (fVar 1) (fCons (fVar 3) fNil)))))) gNext))
def B2_law : FS :=
    (gApp 5 (fA F_w_unknown (fCons (fVar 0) (fCons (f2 dAdd (fC (.int 30)) (fVar 6)) (fCons (fVar 1) (fCons (fVar 3) fNil))))))
def B3_law : FS :=
    (gSeq (gSet 7 (f2 iMod (f2 iDiv (fA F_w_cell_at (fCons (fVar 0) (fCons (fC (.int 3)) fNil))) (f2 dAdd (fC (.int 7)) (fVar 6))) (fA lenD (fCons (fVar 2) fNil))))
    (gSeq (gSet 8 (f2 tAddD (f2 tAddD (fSl (fVar 2) oNone (oSome (fVar 7))) (fA mkTup (fCons (fA mkTup (fCons (fC (.int 100)) (fCons (f2 ixD (f2 ixD (fVar 2) (fVar 7)) (fC (.int 1))) fNil))) fNil))) (fSl (fVar 2) (oSome (f2 dAdd (fVar 7) (fC (.int 1)))) oNone)))
    (gSeq (gSet 9 (f2 tAddD (f2 tAddD (fSl (fVar 2) oNone (oSome (fVar 7))) (fA mkTup (fCons (fA F_w_unknown (fCons (fVar 0) (fCons (fVar 7) (fCons (fVar 1) (fCons (fC (.int 99)) fNil))))) fNil))) (fSl (fVar 2) (oSome (f2 dAdd (fVar 7) (fC (.int 1)))) oNone)))
    (gIf (tOf (f2 dNe (fA F_w_told (fCons (fVar 8) (fCons (fC (.int 99)) (fCons (fVar 1) (fCons (fA lenD (fCons (fVar 2) fNil)) fNil))))) (fA F_w_told (fCons (fVar 9) (fCons (fC (.int 99)) (fCons (fVar 1) (fCons (fA lenD (fCons (fVar 2) fNil)) fNil))))))) (gRet (fC (.bl false))) gNext))))
def g_law : FS :=
    (gSeq (gSet 1 (fA F_w_names (fCons (fA F_w_cell_at (fCons (fVar 0) (fCons (fC (.int 1)) fNil))) (fCons (f2 dAdd (fC (.int 2)) (f2 iMod (fA F_w_cell_at (fCons (fVar 0) (fCons (fC (.int 0)) fNil))) (fC (.int 4)))) fNil))))
    (gSeq (gSet 2 (fA F_w_rows (fCons (fVar 0) (fCons (fVar 1) fNil))))
    (gSeq (gSet 3 (f2 iMod (fA F_w_cell_at (fCons (fVar 0) (fCons (fC (.int 2)) fNil))) (fC (.int 16))))
    (gSeq (gSet 4 (fA F_w_told (fCons (fVar 2) (fCons (fVar 3) (fCons (fVar 1) (fCons (fA lenD (fCons (fVar 2) fNil)) fNil))))))
    (gSeq (gSet 5 (fA mkLst fNil))
    (gSeq (gForR (iRange (fA lenD (fCons (fVar 2) fNil))) (tgN 6) B1_law)
    (gSeq (gForR (iRange (f2 iMod (fA F_w_cell_at (fCons (fVar 0) (fCons (fC (.int 3)) fNil))) (fC (.int 7)))) (tgN 6) B2_law)
    (gSeq (gIf (tOrF (tOf (f2 dNe (fA F_w_told (fCons (fA to_tuple (fCons (fVar 5) fNil)) (fCons (fVar 3) (fCons (fVar 1) (fCons (fA lenD (fCons (fVar 2) fNil)) fNil))))) (fVar 4))) (tNotF (tOf (fA F_w_stay_dead (fCons (fVar 2) (fCons (fVar 3) (fCons (fVar 1) fNil))))))) (gRet (fC (.bl false))) gNext)
    (gSeq (gForR (iRange (fA minD (fCons (fA lenD (fCons (fVar 2) fNil)) (fCons (fC (.int 3)) fNil)))) (tgN 6) B3_law)
    (gRet (fC (.bl true))))))))))))
def F_law : List D → Option (D × Bool) := bodyF g_law 1 9
end Lw

namespace Lw
open PySem DL L2
/-! ### cells of the script, and names alike but for a letter -/
theorem cell_ok (ns : List Int) (k : Nat) : F_w_cell_at [.lst (ns.map .int), .int k] = some (.int (ns.getD k 0), false) := by
  by_cases h : k < ns.length
  · refine body_rt rfl (r_if_t (tOf_ok (b := false) (by simp; omega)) (ret_ok ?_))
    exact e_op (x := .lst (ns.map .int)) (y := .int k) (b1 := false) (b2 := false) rfl rfl (by have := ix_ints (xs := ns) (i := k) (by omega) (by simpa using h); simpa using this)
  · have z : ns.getD k 0 = 0 := by simp [List.getD_eq_getElem?_getD, List.getElem?_eq_none (Nat.not_lt.mp h)]
    rw [z]
    exact body_rt rfl (r_if_f (tOf_ok (b := false) (by simp; omega)) (ret_ok rfl))
theorem while_run {c : FT} {g : FS} (I : Nat → DL.Env → Prop) (step : ∀ m ρ, I m ρ → c ρ = some false ∨ (c ρ = some true ∧ ∃ m' ρ', m = m' + 1 ∧ g ρ = some (.nx ρ') ∧ I m' ρ')) : ∀ (n m : Nat) (ρ : DL.Env), m < n → I m ρ → ∃ m' ρ', whileF c g n ρ = some (.nx ρ') ∧ I m' ρ'
  | 0, m, ρ, h, _ => by omega
  | n + 1, m, ρ, h, i => by
    rw [whileF]
    rcases step m ρ i with e | ⟨e, m', ρ', rfl, e2, i'⟩
    · exact ⟨m, ρ, by rw [e], i⟩
    · obtain ⟨m2, ρ2, h1, h2⟩ := while_run I step n m' ρ' (by omega) i'
      exact ⟨m2, ρ2, by rw [e]; dsimp only; rw [e2]; exact h1, h2⟩
theorem cells_run (ns : List Int) (most : Nat) (hm : most ≤ 900) : ∃ cs : List Int, F_w_cells [.lst (ns.map .int), .int 4, .int most] = some (.lst (cs.map .int), true) ∧ cs.length ≤ most := by
  have c1 := cell_ok ns 1
  have c0 := cell_ok ns 0
  let cs0 : List Int := cutL ns (some 4) (some (4 + most))
  have hl0 : cs0.length ≤ most := by
    show (cutL ns (some 4) (some (4 + most))).length ≤ most
    unfold cutL
    rw [List.length_take, sIx_some (by omega), sIx_some (by omega)]
    omega
  have e0 : fSl (fVar 0) (oSome (fVar 1)) (oSome (f2 dAdd (fVar 1) (fVar 2))) [some (.lst (ns.map .int), false), some (.int 4, false), some (.int most, false), none, none] = some (.lst (cs0.map .int), true) := by
    simp [cs0, cutD_map]
  obtain ⟨m', ρ', hw, cs, num, rfl, hl, _⟩ := while_run (c := tAndF (tOf (f2 dEq (f2 iMod (f2 iDiv (fA F_w_cell_at (fCons (fVar 0) (fCons (fC (.int 0)) fNil))) (fC (.int 21))) (fC (.int 8))) (fC (.int 5)))) (tOf (f2 dLt (fA lenD (fCons (fVar 3) fNil)) (fVar 2)))) (g := B1_w_cells)
    (fun m ρ => ∃ (cs : List Int) (num : Int), ρ = [some (.lst (ns.map .int), false), some (.int 4, false), some (.int most, false), some (.lst (cs.map .int), true), some (.int num, false)] ∧ cs.length + m = most ∧ m ≤ most) (fun m ρ hI => by
      obtain ⟨cs, num, rfl, hl, hm'⟩ := hI
      have t1 : tOf (f2 dEq (f2 iMod (f2 iDiv (fA F_w_cell_at (fCons (fVar 0) (fCons (fC (.int 0)) fNil))) (fC (.int 21))) (fC (.int 8))) (fC (.int 5))) [some (.lst (ns.map .int), false), some (.int 4, false), some (.int most, false), some (.lst (cs.map .int), true), some (.int num, false)] = some (decide (ns.getD 0 0 / 21 % 8 = 5)) := by
        refine tOf_ok (b := false) (e_op (x := .int (ns.getD 0 0 / 21 % 8)) (y := .int 5) (b1 := false) (b2 := false) (e_op (x := .int (ns.getD 0 0 / 21)) (y := .int 8) (b1 := false) (b2 := false) (e_op (x := .int (ns.getD 0 0)) (y := .int 21) (b1 := false) (b2 := false) (call_ok (ds := [.lst (ns.map .int), .int 0]) rfl (by simpa using c0)) rfl (by simp [])) rfl (by simp)) rfl (by simp))
      have t2 : tOf (f2 dLt (fA lenD (fCons (fVar 3) fNil)) (fVar 2)) [some (.lst (ns.map .int), false), some (.int 4, false), some (.int most, false), some (.lst (cs.map .int), true), some (.int num, false)] = some (decide (cs.length < most)) := by simp
      by_cases h1 : ns.getD 0 0 / 21 % 8 = 5
      · by_cases h2 : cs.length < most
        · refine .inr ⟨by rw [tand_ok (p := true) (q := true) (by rw [t1, decide_eq_true h1]) fun _ => by rw [t2, decide_eq_true h2]]; rfl, m - 1, [some (.lst (ns.map .int), false), some (.int 4, false), some (.int most, false), some (.lst ((cs ++ [(num * 48271 + cs.length + 1) % 2147483647]).map .int), true), some (.int ((num * 48271 + cs.length + 1) % 2147483647), false)], by omega, ?_, cs ++ [(num * 48271 + cs.length + 1) % 2147483647], _, rfl, by simp; omega, by omega⟩
          refine r_flat (d := .int ((num * 48271 + cs.length + 1) % 2147483647)) (b := false) (by simp) rfl ?_
          rw [app_ok (ds := cs.map .int) (d := .int ((num * 48271 + cs.length + 1) % 2147483647)) (b := false) rfl rfl rfl (small_size (by simp; omega))]
          simp
        · exact .inl (by rw [tand_ok (p := true) (q := false) (by rw [t1, decide_eq_true h1]) fun _ => by rw [t2, decide_eq_false h2]]; rfl)
      · exact .inl (by rw [tand_ok (p := false) (q := false) (by rw [t1, decide_eq_false h1]) (by simp)]; rfl)) 1000 (most - cs0.length) [some (.lst (ns.map .int), false), some (.int 4, false), some (.int most, false), some (.lst (cs0.map .int), true), some (.int (ns.getD 1 0 % 2147483647), false)] (by omega) ⟨cs0, _, rfl, by omega, by omega⟩
  refine ⟨cs, body_rt rfl (r_own (ds := cs0.map .int) e0 (by simp) (r_flat (d := .int (ns.getD 1 0 % 2147483647)) (b := false) ?_ rfl (r_seq hw (retV_ok rfl)))), by omega⟩
  exact e_op (x := .int (ns.getD 1 0)) (y := .int 2147483647) (b1 := false) (b2 := false) (call_ok (ds := [.lst (ns.map .int), .int 1]) rfl (by simpa using c1)) rfl (by simp)
theorem str_app (a b : Str) : (a ++ b).length = a.length + b.length := by
  show (a.cps ++ b.cps).size = _
  exact Array.size_append
theorem names_run (c : Int) (n : Nat) (hn : n ≤ 100) : ∃ zs : List Str, F_w_names [.int c, .int n] = some (.lst (zs.map .str), true) ∧ zs.length = n ∧ ∀ z ∈ zs, z.length ≤ 20 := by
  have h8 := mod_lt (x := c) (m := 8) (by decide)
  obtain ⟨sz, hsz⟩ : ∃ sz : Int, 1 + c % 8 = sz := ⟨_, rfl⟩
  have hs0 : 0 < sz := by omega
  have hs1 : sz < 1073741824 := by omega
  obtain ⟨base, hbase⟩ : ∃ base : Str, Txt.slice ("gmtazkfw" : PySem.Str) none (some sz) = base := ⟨_, rfl⟩
  have hb8 : base.length ≤ 8 := by rw [← hbase]; exact Nat.le_trans (Txt.slice_le _ _ _) (by decide +kernel)
  obtain ⟨aa, haa⟩ : ∃ aa : Int, c / 8 % sz = aa := ⟨_, rfl⟩
  obtain ⟨b1, hb1⟩ : ∃ b1 : Str, Txt.slice base none (some aa) = b1 := ⟨_, rfl⟩
  obtain ⟨b2, hb2⟩ : ∃ b2 : Str, Txt.slice base (some (aa + 1)) none = b2 := ⟨_, rfl⟩
  have l1 : b1.length ≤ 8 := by rw [← hb1]; exact Nat.le_trans (Txt.slice_le _ _ _) hb8
  have l2 : b2.length ≤ 8 := by rw [← hb2]; exact Nat.le_trans (Txt.slice_le _ _ _) hb8
  let ltr : Nat → Str := fun k => ⟨#[("bqcxdlenhusv" : PySem.Str).cps.toList.getD ((c / 64 + 5 * k) % 12).toNat 0]⟩
  let nm : Nat → Str := fun k => b1 ++ ltr k ++ b2
  have ln : ∀ k, (nm k).length ≤ 20 := fun k => by
    show (b1 ++ ltr k ++ b2).length ≤ 20
    rw [str_app, str_app]
    have : (ltr k).length = 1 := rfl
    omega
  obtain ⟨ρ', e, v6, v7, rfl⟩ := forR_inv (tg := tgN 6) (g := B1_w_names) n (fun i ρ => ∃ v6 v7 : Option (D × Bool), ρ = [some (.int c, false), some (.int n, false), some (.int sz, false), some (.str base, false), some (.int aa, false), some (.lst (((List.range i).map nm).map .str), true), v6, v7])
    [some (.int c, false), some (.int n, false), some (.int sz, false), some (.str base, false), some (.int aa, false), some (.lst [], true), none, none] ⟨none, none, rfl⟩ (by
      rintro i ρ hi ⟨v6, v7, rfl⟩
      have h12 := mod_lt (x := c / 64 + 5 * (i : Int)) (m := 12) (by decide)
      have hi2 : -18446744073709551616 < (i : Int) ∧ (i : Int) < 18446744073709551616 := by omega
      refine ⟨_, _, rfl, .inl (r_flat (d := .str (ltr i)) (b := false) ?_ rfl (app_ok (ds := ((List.range i).map nm).map .str) (d := .str (nm i)) (b := false) rfl ?_ rfl (small_size (by simp; omega)))), some (.int i, false), some (.str (ltr i), false), ?_⟩
      · refine e_op (x := .str ("bqcxdlenhusv" : PySem.Str)) (y := .int ((c / 64 + 5 * i) % 12)) (b1 := false) (b2 := false) rfl (by simp) ?_
        exact DL.ix_str h12.1 (by rw [show ("bqcxdlenhusv" : PySem.Str).cps.size = 12 by decide +kernel]; omega) (by decide +kernel)
      · refine e_op (x := .str (b1 ++ ltr i)) (y := .str b2) (b1 := false) (b2 := false) (e_op (x := .str b1) (y := .str (ltr i)) (b1 := false) (b2 := false) ?_ rfl ?_) ?_ ?_
        · simp [hb1]; exact small_le (by omega)
        · simp; exact small_le (by have : (ltr i).length = 1 := rfl; omega)
        · simp [hb2]; exact small_le (by omega)
        · have hh : (b1 ++ ltr i).length + b2.length ≤ sizeLine := small_le (by rw [str_app]; have : (ltr i).length = 1 := rfl; omega)
          show dAdd (.str (b1 ++ ltr i)) (.str b2) = some (.str (b1 ++ ltr i ++ b2), false)
          simp only [dAdd, if_pos hh]
      · simp [List.range_succ])
  refine ⟨(List.range n).map nm, body_rt rfl (r_flat (d := .int sz) (b := false) (by simp [hsz]) rfl (r_flat (d := .str base) (b := false) ?_ rfl (r_flat (d := .int aa) (b := false) (by simp [hs0, hs1, haa]) rfl (r_own (ds := []) (by simp [sizeLine]) (by simp) (r_seq (forR_run (iRange_ok (j := n) (b := false) (by simp) (by omega)) e) (retV_ok rfl)))))), by simp, ?_⟩
  · simp [hbase]; decide +kernel
  · intro z hz
    obtain ⟨k, _, rfl⟩ := List.mem_map.mp hz
    exact ln k
end Lw

namespace DL
open PySem L2
/-! ### equality of plain values, reflexive -/
theorem plain_mono : ∀ (n m : Nat) (d : D), n ≤ m → plainN n d = true → plainN m d = true
  | n, m, .non, _, _ => by simp
  | n, m, .bl _, _, _ => by simp
  | n, m, .int _, _, _ => by simp
  | n, m, .str _, _, _ => by simp
  | n, m, .ty _, _, h => by cases n <;> simp [plainN] at h
  | 0, m, .tup _, _, h => by simp [plainN] at h
  | 0, m, .lst _, _, h => by simp [plainN] at h
  | n + 1, 0, _, h, _ => by omega
  | n + 1, m + 1, .tup ds, hl, h => by
    simp only [plainN, List.all_eq_true] at h ⊢
    exact fun d hd => plain_mono n m d (by omega) (h d hd)
  | n + 1, m + 1, .lst ds, hl, h => by
    simp only [plainN, List.all_eq_true] at h ⊢
    exact fun d hd => plain_mono n m d (by omega) (h d hd)
theorem eqDs_same : ∀ (ds : List D), (∀ d ∈ ds, eqD d d = true) → eqDs ds ds = true
  | [], _ => by simp only [eqDs]
  | d :: ds, h => by
    simp only [eqDs, h d List.mem_cons_self, Bool.true_and]
    exact eqDs_same ds fun e he => h e (List.mem_cons_of_mem _ he)
theorem eqD_same : ∀ (n : Nat) (d : D), plainN n d = true → eqD d d = true
  | n, .non, _ => by simp
  | n, .bl _, _ => by simp
  | n, .int _, _ => by simp
  | n, .str _, _ => by simp
  | n, .ty _, h => by cases n <;> simp [plainN] at h
  | 0, .tup _, h => by simp [plainN] at h
  | 0, .lst _, h => by simp [plainN] at h
  | n + 1, .tup ds, h => by
    simp only [plainN, List.all_eq_true] at h
    simp only [eqD]
    exact eqDs_same ds fun d hd => eqD_same n d (h d hd)
  | n + 1, .lst ds, h => by
    simp only [plainN, List.all_eq_true] at h
    simp only [eqD]
    exact eqDs_same ds fun d hd => eqD_same n d (h d hd)
end DL
namespace DL
open PySem L2
end DL

namespace Lw
open PySem DL L2
/-! ### who lives, whose seal is lost: rows by values -/
theorem at0 (d : D) (r : List D) : atI (d :: r) 0 = some d := by have := atI_ge (xs := d :: r) (j := 0) (by simp); simpa using this
theorem at1 (d e : D) (r : List D) : atI (d :: e :: r) 1 = some e := by have := atI_ge (xs := d :: e :: r) (j := 1) (by simp); simpa using this
def isThree (k : Str) : Bool := decide (k = ("death" : PySem.Str)) || decide (k = ("lost" : PySem.Str)) || decide (k = ("found" : PySem.Str))
def isSeal (k : Str) : Bool := decide (k = ("chosen" : PySem.Str)) || decide (k = ("heir" : PySem.Str)) || decide (k = ("leave" : PySem.Str)) || decide (k = ("paper" : PySem.Str)) || decide (k = ("like" : PySem.Str)) || decide (k = ("copy" : PySem.Str)) || decide (k = ("call" : PySem.Str))
/-- a deed: its word, the rest -/
structure DeedP (kind : Str) (rest : List D) : Prop where
  flat : noLsts rest = true
  plain : rest.all (plainN 5) = true
  three : isThree kind = true → ∃ (day : Int) (p : Str), rest = [.int day, .str p]
  slg : isSeal kind = true → ∃ (day : Int) (p : Str) (r : List D), rest = .int day :: .str p :: r
def row (h : Int) (kind : Str) (rest : List D) : D := .tup [.int h, .tup (.str kind :: rest)]
def RowP (r : D) : Prop := ∃ h kind rest, r = row h kind rest ∧ DeedP kind rest
theorem RowP.flat {r : D} (h : RowP r) : noLst r = true := by obtain ⟨a, k, rest, rfl, dp⟩ := h; simp [row, dp.flat]
theorem RowP.plain {r : D} (h : RowP r) : plainN 39 r = true := by
  obtain ⟨a, k, rest, rfl, dp⟩ := h
  refine plain_mono 7 39 _ (by decide) ?_
  have := dp.plain
  simp only [row, plainN, List.all_cons, List.all_nil, Bool.and_true, Bool.true_and]
  exact this
theorem noLsts_all {ds : List D} (h : ∀ d ∈ ds, noLst d = true) : noLsts ds = true := by
  induction ds with
  | nil => rfl
  | cons d r ih => simp [h d (by simp), ih fun e he => h e (by simp [he])]
theorem noLsts_strs (zs : List Str) : noLsts (zs.map D.str) = true := by
  induction zs with
  | nil => rfl
  | cons a l ih => simp [ih]
def heardAt : D → Int
  | .tup (.int h :: _) => h
  | _ => 0
def kindOf : D → Str
  | .tup [_, .tup (.str k :: _)] => k
  | _ => ("" : PySem.Str)
def dayOf : D → Int
  | .tup [_, .tup (_ :: .int d :: _)] => d
  | _ => 0
def restR (p : Str) (day : Int) : List D → Bool
  | [.int d, .str q] => decide (q = p) && decide (d ≤ day)
  | _ => false
/-- what tells says of a row -/
def told (ws : List Str) (p : Str) (day : Int) : D → Bool
  | .tup [_, .tup (.str kind :: rest)] => decide (kind ∈ ws) && restR p day rest
  | _ => false
theorem word_ok (h : Int) (kind : Str) (rest : List D) : F_word_of [row h kind rest] = some (.str kind, false) := body_rt rfl (ret_ok (by simp [row, at1, at0]))
theorem three_cases {k : Str} (h : isThree k = true) : k = ("death" : PySem.Str) ∨ k = ("lost" : PySem.Str) ∨ k = ("found" : PySem.Str) := by
  unfold isThree at h
  simp only [Bool.or_eq_true, decide_eq_true_eq] at h
  rcases h with (h | h) | h
  · exact .inl h
  · exact .inr (.inl h)
  · exact .inr (.inr h)
theorem seal_cases {k : Str} (h : isSeal k = true) : k = ("chosen" : PySem.Str) ∨ k = ("heir" : PySem.Str) ∨ k = ("leave" : PySem.Str) ∨ k = ("paper" : PySem.Str) ∨ k = ("like" : PySem.Str) ∨ k = ("copy" : PySem.Str) ∨ k = ("call" : PySem.Str) := by
  unfold isSeal at h
  simp only [Bool.or_eq_true, decide_eq_true_eq] at h
  rcases h with (((((h | h) | h) | h) | h) | h) | h
  · exact .inl h
  · exact .inr (.inl h)
  · exact .inr (.inr (.inl h))
  · exact .inr (.inr (.inr (.inl h)))
  · exact .inr (.inr (.inr (.inr (.inl h))))
  · exact .inr (.inr (.inr (.inr (.inr (.inl h)))))
  · exact .inr (.inr (.inr (.inr (.inr (.inr h)))))
/-- the places of the parts -/
theorem idx_day {k : Str} (h : isThree k = true ∨ isSeal k = true) : cIdx c_PARTS (.str k) (.str ("day" : PySem.Str)) = some (.int 0, false) := by
  rcases h with h | h
  · rcases three_cases h with rfl | rfl | rfl <;> exact isR_eq (by decide +kernel)
  · rcases seal_cases h with rfl | rfl | rfl | rfl | rfl | rfl | rfl <;> exact isR_eq (by decide +kernel)
theorem idx_person {k : Str} (h : isThree k = true) : cIdx c_PARTS (.str k) (.str ("person" : PySem.Str)) = some (.int 1, false) := by
  rcases three_cases h with rfl | rfl | rfl <;> exact isR_eq (by decide +kernel)
theorem not_root {k : Str} (h : isThree k = true ∨ isSeal k = true) : dEq (.str k) (.str ("root" : PySem.Str)) = some (.bl false, false) := by
  rcases h with h | h
  · rcases three_cases h with rfl | rfl | rfl <;> exact isR_eq (by decide +kernel)
  · rcases seal_cases h with rfl | rfl | rfl | rfl | rfl | rfl | rfl <;> exact isR_eq (by decide +kernel)
theorem part_ok {h : Int} {k : Str} {rest : List D} {part : Str} {i : Nat} {d : D} (hi : cIdx c_PARTS (.str k) (.str part) = some (.int i, false)) (hd : rest[i]? = some d) : F_part_of [row h k rest, .str part] = some (d, false) := by
  refine body_rt rfl (ret_ok ?_)
  refine e_op (x := .tup (.str k :: rest)) (y := .int (1 + i)) (b1 := false) (b2 := false) (by simp [row, at1]) (e_op (x := .int 1) (y := .int i) (b1 := false) (b2 := false) rfl (e_op (x := .str k) (y := .str part) (b1 := false) (b2 := false) (call_ok (ds := [row h k rest]) rfl (word_ok _ _ _)) rfl hi) (by simp)) ?_
  have hlt : i < rest.length := (List.getElem?_eq_some_iff.mp hd).1
  have : atI (.str k :: rest) (1 + (i : Int)) = some d := by
    have := atI_ge (xs := (.str k : D) :: rest) (j := i + 1) (by simp; omega)
    rw [show (1 + (i : Int)) = ((i + 1 : Nat) : Int) by omega, this]
    simp only [List.getElem_cons_succ]
    rw [List.getElem?_eq_getElem hlt] at hd
    exact hd
  simp [this]
theorem dayof_ok {h : Int} {k : Str} {rest : List D} {d : Int} {r : List D} (hk : isThree k = true ∨ isSeal k = true) (hr : rest = .int d :: r) : F_day_of [row h k rest] = some (.int d, false) := by
  subst hr
  refine body_rt rfl (r_if_f (tOf_ok (b := false) (e_op (x := .str k) (y := .str ("root" : PySem.Str)) (b1 := false) (b2 := false) (call_ok (ds := [row h k (.int d :: r)]) rfl (word_ok _ _ _)) rfl (not_root hk))) (ret_ok (call_ok (ds := [row h k (.int d :: r), .str ("day" : PySem.Str)]) rfl (part_ok (i := 0) (idx_day hk) rfl))))
theorem inD_strs (k : Str) (ws : List Str) : inD (.str k) (ws.map .str) = decide (k ∈ ws) := by
  induction ws with
  | nil => simp [inD]
  | cons w ws ih =>
    have : inD (.str k) ((w :: ws).map .str) = (eqD (.str w) (.str k) || inD (.str k) (ws.map .str)) := rfl
    rw [this, ih, eqD_str_str]
    by_cases e : w = k
    · simp [e]
    · have e' : ¬ k = w := fun z => e z.symm
      simp [e, e']
theorem flat_strs (ws : List Str) : (ws.map D.str).all flatD = true := by
  induction ws with
  | nil => rfl
  | cons w ws ih => simp [flatD]
theorem dIn_strs (k : Str) (ws : List Str) : dIn (.str k) (.tup (ws.map .str)) = some (.bl (decide (k ∈ ws)), false) := by
  simp only [dIn, seqOf, Option.bind_some, inD_strs]
  rw [if_pos ⟨rfl, flat_strs ws⟩]
theorem tells_ok {r : D} (hr : RowP r) (ws : List Str) (hw : ∀ w ∈ ws, isThree w = true) (p : Str) (day : Int) : F_tells [r, .tup (ws.map .str), .str p, .int day] = some (.bl (told ws p day r), false) := by
  obtain ⟨h, kind, rest, rfl, dp⟩ := hr
  have hin : f2 dIn (fA F_word_of (fCons (fVar 0) fNil)) (fVar 1) [some (row h kind rest, false), some (.tup (ws.map .str), false), some (.str p, false), some (.int day, false)] = some (.bl (decide (kind ∈ ws)), false) :=
    e_op (x := .str kind) (y := .tup (ws.map .str)) (b1 := false) (b2 := false) (call_ok (ds := [row h kind rest]) rfl (word_ok _ _ _)) rfl (dIn_strs kind ws)
  have ht : told ws p day (row h kind rest) = (decide (kind ∈ ws) && restR p day rest) := rfl
  rw [ht]
  refine body_rt rfl (ret_ok (and_ok (b1 := false) hin fun hk => ?_))
  have h3 := hw kind (of_decide_eq_true hk)
  obtain ⟨d, q, rfl⟩ := dp.three h3
  show fAnd _ _ _ = some (.bl (decide (q = p) && decide (d ≤ day)), false)
  refine and_ok (b1 := false) ?_ fun _ => ?_
  · exact e_op (x := .str q) (y := .str p) (b1 := false) (b2 := false) (call_ok (ds := [row h kind [.int d, .str q], .str ("person" : PySem.Str)]) rfl (part_ok (i := 1) (idx_person h3) rfl)) rfl (by simp)
  · exact e_op (x := .int d) (y := .int day) (b1 := false) (b2 := false) (call_ok (ds := [row h kind [.int d, .str q]]) rfl (dayof_ok (.inl h3) rfl)) rfl (by simp)
theorem enum_zip (ds : List D) : enumD ds = ds.zipIdx.map fun x => .tup [.int x.2, x.1] := by
  unfold enumD
  apply List.ext_getElem?
  intro i
  simp [List.getElem?_mapIdx, List.getElem?_zipIdx]
  cases ds[i]? <;> simp
def heardL (rows : List D) (known : Int) : List (D × Nat) := rows.zipIdx.filter fun x => decide (heardAt x.1 ≤ known)
theorem heard_ok (rows : List D) (hr : ∀ r ∈ rows, RowP r) (hl : rows.length ≤ 1000) (known : Int) : F_heard [.tup rows, .int known] = some (.lst ((heardL rows known).map fun x => .int x.2), true) := by
  have hc := compM (fi := iEnum (fVar 0)) (nT := 2) (cap := [1]) (tg := tgT [0, 1]) (c := tOf (f2 dLe (f2 ixD (fVar 1) (fC (.int 0))) (fVar 2))) (fe := fVar 0) (ρ := [some (.tup rows, false), some (.int known, false)]) rows.zipIdx (fun x => .tup [.int x.2, x.1]) (fun x => decide (heardAt x.1 ≤ known)) (fun x => .int x.2)
    (by simp [enum_zip]) (by simp; omega) fun x hx => by
      obtain ⟨h, kind, rest, e, _⟩ := hr x.1 (List.fst_mem_of_mem_zipIdx hx)
      refine ⟨_, rfl, tOf_ok (b := false) ?_, fun _ => ⟨false, by simp [capE]⟩⟩
      simp [capE, e, row, at0, heardAt]
  exact body_rt rfl (ret_ok hc)
def selL (rows : List D) (known : Int) (ws : List Str) (p : Str) (day : Int) : List (D × Nat) := (heardL rows known).filter fun x => told ws p day x.1
theorem sel_row {rows : List D} {known : Int} {ws : List Str} {p : Str} {day : Int} {x : D × Nat} (h : x ∈ selL rows known ws p day) : rows[x.2]? = some x.1 ∧ told ws p day x.1 = true := by
  obtain ⟨h1, h2⟩ := List.mem_filter.mp h
  exact ⟨(List.mk_mem_zipIdx_iff_getElem? (x := x.1) (i := x.2)).mp (List.mem_filter.mp h1).1, h2⟩
theorem at_row {rows : List D} {i : Nat} {r : D} (h : rows[i]? = some r) : atI rows (i : Int) = some r := by
  obtain ⟨hlt, e⟩ := List.getElem?_eq_some_iff.mp h
  rw [atI_ge hlt, e]
theorem sel_len (rows : List D) (known : Int) (ws : List Str) (p : Str) (day : Int) : (selL rows known ws p day).length ≤ rows.length := by
  have h1 := List.length_filter_le (fun x : D × Nat => told ws p day x.1) (heardL rows known)
  have h2 := List.length_filter_le (fun x : D × Nat => decide (heardAt x.1 ≤ known)) rows.zipIdx
  rw [List.length_zipIdx] at h2
  exact Nat.le_trans h1 h2
theorem told_ok (rows : List D) (hr : ∀ r ∈ rows, RowP r) (hl : rows.length ≤ 1000) (known : Int) (ws : List Str) (hw : ∀ w ∈ ws, isThree w = true) (p : Str) (day : Int) :
    F_told_of [.tup rows, .int known, .tup (ws.map .str), .str p, .int day] = some (.lst ((selL rows known ws p day).map fun x => .int x.2), true) := by
  have hc := compM (fi := iSeq (fA F_heard (fCons (fVar 0) (fCons (fVar 1) fNil)))) (nT := 1) (cap := [2, 3, 4, 0]) (tg := tgN 0) (c := tOf (fA F_tells (fCons (f2 ixD (fVar 4) (fVar 0)) (fCons (fVar 1) (fCons (fVar 2) (fCons (fVar 3) fNil)))))) (fe := fVar 0)
    (ρ := [some (.tup rows, false), some (.int known, false), some (.tup (ws.map .str), false), some (.str p, false), some (.int day, false)]) (heardL rows known) (fun x => .int x.2) (fun x => told ws p day x.1) (fun x => .int x.2)
    (by
      show (fA F_heard (fCons (fVar 0) (fCons (fVar 1) fNil)) _).bind _ = _
      rw [call_ok (ds := [.tup rows, .int known]) rfl (heard_ok rows hr hl known)]
      rfl) (by have := List.length_filter_le (fun x : D × Nat => decide (heardAt x.1 ≤ known)) rows.zipIdx; rw [List.length_zipIdx] at this; exact Nat.le_trans this (by omega)) fun x hx => by
      have hg : rows[x.2]? = some x.1 := (List.mk_mem_zipIdx_iff_getElem? (x := x.1) (i := x.2)).mp (List.mem_filter.mp hx).1
      refine ⟨_, rfl, tOf_ok (b := false) (call_ok (ds := [x.1, .tup (ws.map .str), .str p, .int day]) ?_ (tells_ok (hr _ (List.mem_of_getElem? hg)) ws hw p day)), fun _ => ⟨false, by simp [capE]⟩⟩
      have ha := at_row hg
      simp [capE, ha]
  exact body_rt rfl (ret_ok hc)
/-! the last in order -/
def kA (x : D × Nat) : List At := [.i (dayOf x.1), .i x.2]
def keyLt (a b : D × Nat) : Bool := decide (dayOf a.1 < dayOf b.1 ∨ (dayOf a.1 = dayOf b.1 ∧ (a.2 : Int) < b.2))
def bestGo : D × Nat → List (D × Nat) → D × Nat
  | b, [] => b
  | b, x :: r => if keyLt b x = true then bestGo x r else bestGo b r
def bestL : List (D × Nat) → Option (D × Nat)
  | [] => none
  | x :: r => some (bestGo x r)
theorem lex2 (a b c d : Int) : lexA [.i a, .i b] [.i c, .i d] = some (decide (a < c ∨ (a = c ∧ b < d))) := by
  rw [lexA]
  by_cases h : a = c
  · rw [if_pos h, lexA]
    by_cases h2 : b = d
    · rw [if_pos h2, lexA]; simp [h, h2]
    · rw [if_neg h2]; simp [h]
  · rw [if_neg h]; simp [h]
theorem lex_kA (a b : D × Nat) : lexA (kA a) (kA b) = some (keyLt a b) := lex2 _ _ _ _
theorem comp_kA (l : List (D × Nat)) : compA (l.map kA) = true := by
  unfold compA
  simp [List.all_eq_true, lex_kA]
theorem maxGo_sel : ∀ (r : List (D × Nat)) (b : D × Nat), maxGo (kA b, .int b.2) (r.map fun x => (kA x, D.int x.2)) = .int (bestGo b r).2
  | [], b => rfl
  | x :: r, b => by
    rw [List.map_cons, maxGo, bestGo]
    show (if lexA (kA b) (kA x) = some true then _ else _) = _
    rw [lex_kA]
    by_cases h : keyLt b x = true
    · rw [if_pos h, if_pos (by rw [h])]; exact maxGo_sel r x
    · rw [if_neg h, if_neg (by simpa using h)]; exact maxGo_sel r b
theorem best_mem : ∀ (r : List (D × Nat)) (b : D × Nat), bestGo b r ∈ b :: r
  | [], b => by simp [bestGo]
  | x :: r, b => by
    rw [bestGo]
    split
    · exact List.mem_cons_of_mem _ (best_mem r x)
    · rcases List.mem_cons.mp (best_mem r b) with h | h
      · rw [h]; exact List.mem_cons_self
      · exact List.mem_cons_of_mem _ (List.mem_cons_of_mem _ h)
theorem mapO_map {α : Type} {f : D → Option D} {g h : α → D} : ∀ (l : List α), (∀ x ∈ l, f (g x) = some (h x)) → mapO f (l.map g) = some (l.map h)
  | [], _ => rfl
  | x :: l, hx => by
    rw [List.map_cons, mapO, hx x List.mem_cons_self, Option.bind_some, mapO_map l fun y hy => hx y (List.mem_cons_of_mem _ hy)]
    rfl
theorem keysD_map {α : Type} {g : α → D} {h : α → List At} : ∀ (l : List α), (∀ x ∈ l, keyD (g x) = some (h x)) → keysD (l.map g) = some (l.map h)
  | [], _ => rfl
  | x :: l, hx => by
    rw [List.map_cons, keysD, hx x List.mem_cons_self, Option.bind_some, keysD_map l fun y hy => hx y (List.mem_cons_of_mem _ hy)]
    rfl
def lostW : List Str := [("lost" : PySem.Str), ("found" : PySem.Str)]
theorem lostW_three : ∀ w ∈ lostW, isThree w = true := by
  intro w hw
  rcases List.mem_cons.mp hw with rfl | hw
  · decide +kernel
  · rcases List.mem_cons.mp hw with rfl | hw
    · decide +kernel
    · cases hw
def sealV (rows : List D) (known : Int) (p : Str) (day : Int) : Bool := match bestL (selL rows known lostW p day) with
  | none => true
  | some b => decide (kindOf b.1 = ("found" : PySem.Str))
theorem told_three {ws : List Str} (hw : ∀ w ∈ ws, isThree w = true) {p : Str} {day : Int} {r : D} (hr : RowP r) (ht : told ws p day r = true) : ∃ h k d, r = row h k [.int d, .str p] ∧ isThree k = true ∧ k ∈ ws ∧ d ≤ day := by
  obtain ⟨h, kind, rest, rfl, dp⟩ := hr
  have ht' : (decide (kind ∈ ws) && restR p day rest) = true := ht
  rw [Bool.and_eq_true] at ht'
  have hm := of_decide_eq_true ht'.1
  obtain ⟨d, q, rfl⟩ := dp.three (hw _ hm)
  have hq : (decide (q = p) && decide (d ≤ day)) = true := ht'.2
  rw [Bool.and_eq_true] at hq
  have := of_decide_eq_true hq.1
  subst this
  exact ⟨h, kind, d, rfl, hw _ hm, hm, of_decide_eq_true hq.2⟩
theorem rank_ok {rows : List D} {i : Nat} {h d : Int} {k p : Str} (hg : rows[i]? = some (row h k [.int d, .str p])) (h3 : isThree k = true) : F_rank [.tup rows, .int i] = some (.tup [.int d, .int i], false) := by
  have ha := at_row hg
  refine body_rt rfl (ret_ok (call_ok (ds := [.int d, .int i]) (a_cons (d := .int d) (b := false) (call_ok (ds := [row h k [.int d, .str p]]) (by simp [ha]) (dayof_ok (.inl h3) rfl)) rfl) (by simp [sizeLine])))
theorem seal_ok (rows : List D) (hr : ∀ r ∈ rows, RowP r) (hl : rows.length ≤ 1000) (known : Int) (p : Str) (day : Int) : F_has_seal [.tup rows, .int known, .str p, .int day] = some (.bl (sealV rows known p day), false) := by
  have ht := told_ok rows hr hl known lostW lostW_three p day
  have hsl := sel_len rows known lostW p day
  have key : ∀ x ∈ selL rows known lostW p day, ∃ h k d, rows[x.2]? = some (row h k [.int d, .str p]) ∧ x.1 = row h k [.int d, .str p] ∧ isThree k = true := fun x hx => by
    obtain ⟨hg, htl⟩ := sel_row hx
    obtain ⟨h, k, d, e, h3, _⟩ := told_three lostW_three (hr _ (List.mem_of_getElem? hg)) htl
    exact ⟨h, k, d, by rw [hg, e], e, h3⟩
  unfold sealV
  generalize hsel : selL rows known lostW p day = sel at ht key hsl ⊢
  have hset : fA F_told_of (fCons (fVar 0) (fCons (fVar 1) (fCons (fA mkTup (fCons (fC (.str ("lost" : PySem.Str))) (fCons (fC (.str ("found" : PySem.Str))) fNil))) (fCons (fVar 2) (fCons (fVar 3) fNil))))) [some (.tup rows, false), some (.int known, false), some (.str p, false), some (.int day, false), none] = some (.lst (sel.map fun x => .int x.2), true) :=
    call_ok (ds := [.tup rows, .int known, .tup (lostW.map .str), .str p, .int day]) (by simp [lostW, sizeLine]) ht
  have hnl : noLsts (sel.map fun x => D.int x.2) = true := noLsts_all fun d hd => by obtain ⟨x, _, rfl⟩ := List.mem_map.mp hd; rfl
  cases sel with
  | nil => exact body_rt rfl (r_own hset hnl (r_if_t (tOf_ok (b := false) (by simp)) (ret_ok rfl)))
  | cons x r =>
    refine body_rt rfl (r_own hset hnl (r_if_f (tOf_ok (b := false) (by simp; omega)) (ret_ok ?_)))
    obtain ⟨h, k, d, hg, e, h3⟩ := key (bestGo x r) (best_mem r x)
    have hb : kindOf (bestGo x r).1 = k := by rw [e]; rfl
    show _ = some (D.bl (decide (kindOf (bestGo x r).1 = ("found" : PySem.Str))), false)
    rw [hb]
    refine e_op (x := .str k) (y := .str ("found" : PySem.Str)) (b1 := false) (b2 := false) (call_ok (ds := [row h k [.int d, .str p]]) (a_cons (d := row h k [.int d, .str p]) (b := false) (e_op (x := .tup rows) (y := .int (bestGo x r).2) (b1 := false) (b2 := false) rfl ?_ (by simp [at_row hg])) rfl) (word_ok _ _ _)) rfl (by simp)
    have hm : ∀ ρ : DL.Env, ρ[0]? = some (some (.tup rows, false)) → mapO (keyL [0] (fA F_rank (fCons (fVar 1) (fCons (fVar 0) fNil))) ρ) ((x :: r).map fun x => D.int x.2) = some ((x :: r).map fun x => .tup [.int (dayOf x.1), .int x.2]) := fun ρ h0 =>
      mapO_map (x :: r) fun y hy => by
        obtain ⟨h, k, d, hg, e, h3⟩ := key y hy
        have hd : dayOf y.1 = d := by rw [e]; rfl
        rw [hd]
        show (fA F_rank _ _).map _ = _
        rw [call_ok (ds := [.tup rows, .int y.2]) (by simp [capE, h0]) (rank_ok hg h3)]
        rfl
    have hk : keysD ((x :: r).map fun x => D.tup [.int (dayOf x.1), .int x.2]) = some ((x :: r).map kA) := keysD_map (x :: r) fun y _ => rfl
    have hz : ((x :: r).map kA).zip ((x :: r).map fun x => D.int x.2) = (kA x, .int x.2) :: r.map fun x => (kA x, D.int x.2) := by
      rw [List.zip_map']
      rfl
    show (fMaxK (fVar 4) _ _) = _
    unfold fMaxK
    show ((some (D.lst ((x :: r).map fun x => D.int x.2), false)).bind _) = _
    simp only [Option.bind_some]
    rw [hm _ rfl]
    simp only [Option.bind_some]
    rw [hk]
    simp only [Option.bind_some]
    rw [if_pos (comp_kA _), hz]
    simp only [maxGo_sel]
end Lw

namespace Lw
open PySem DL L2
/-! ### lives and is_sound -/
def deathW : List Str := [("death" : PySem.Str)]
theorem deathW_three : ∀ w ∈ deathW, isThree w = true := by
  intro w hw
  rcases List.mem_cons.mp hw with rfl | hw
  · decide +kernel
  · cases hw
def livesV (rows : List D) (known : Int) (p : Str) (day : Int) : Bool := (selL rows known deathW p day).isEmpty
theorem lives_ok (rows : List D) (hr : ∀ r ∈ rows, RowP r) (hl : rows.length ≤ 1000) (known : Int) (p : Str) (day : Int) : F_lives [.tup rows, .int known, .str p, .int day] = some (.bl (livesV rows known p day), false) := by
  have ht := told_ok rows hr hl known deathW deathW_three p day
  unfold livesV
  generalize selL rows known deathW p day = sel at ht ⊢
  refine body_rt rfl (ret_ok (e_op (x := .int ((sel.map fun x => D.int x.2).length : Nat)) (y := .int 0) (b1 := false) (b2 := false) ?_ rfl ?_))
  · exact call_ok (ds := [.lst (sel.map fun x => .int x.2)]) (a_cons (d := .lst (sel.map fun x => .int x.2)) (b := true) (call_ok (ds := [.tup rows, .int known, .tup (deathW.map .str), .str p, .int day]) (by simp [sizeLine, deathW]) ht) rfl) len_lst
  · rw [eq_ints]
    cases sel <;> simp
    omega
def byOf : D → Str
  | .tup [_, .tup (_ :: _ :: .str p :: _)] => p
  | _ => ("" : PySem.Str)
def sealW : List Str := [("chosen" : PySem.Str), ("heir" : PySem.Str), ("leave" : PySem.Str), ("paper" : PySem.Str), ("like" : PySem.Str), ("copy" : PySem.Str), ("call" : PySem.Str)]
theorem isSeal_mem (k : Str) : isSeal k = decide (k ∈ sealW) := by
  unfold isSeal sealW
  simp [List.mem_cons, Bool.or_assoc]
theorem seal_const : c_SEALINGS = .tup (sealW.map .str) := rfl
theorem dNotIn_strs (k : Str) (ws : List Str) : dNotIn (.str k) (.tup (ws.map .str)) = some (.bl (!decide (k ∈ ws)), false) := by
  simp only [dNotIn, seqOf, Option.bind_some, inD_strs]
  rw [if_pos ⟨rfl, flat_strs ws⟩]
theorem idx_by {k : Str} (h : isSeal k = true) : cIdx c_PARTS (.str k) (.str ("by" : PySem.Str)) = some (.int 1, false) := by
  rcases seal_cases h with rfl | rfl | rfl | rfl | rfl | rfl | rfl <;> exact isR_eq (by decide +kernel)
def soundR (rows : List D) (known : Int) (r : D) : Bool := (decide (heardAt r ≤ known) && isSeal (kindOf r)) && (livesV rows known (byOf r) (dayOf r) && sealV rows known (byOf r) (dayOf r))
theorem known_ok {rows : List D} {i : Nat} {h : Int} {kind : Str} {rest : List D} (hg : rows[i]? = some (row h kind rest)) (known : Int) : F_is_known [.tup rows, .int known, .int i] = some (.bl (decide (h ≤ known)), false) := by
  have hlt : i < rows.length := (List.getElem?_eq_some_iff.mp hg).1
  have ha := at_row hg
  refine body_rt rfl (ret_ok ?_)
  have := and_ok (f1 := fChain dLe dLt (fC (.int 0)) (fVar 2) (fA lenD (fCons (fVar 0) fNil))) (f2 := f2 dLe (f2 ixD (f2 ixD (fVar 0) (fVar 2)) (fC (.int 0))) (fVar 1)) (ρ := [some (.tup rows, false), some (.int known, false), some (.int i, false)]) (p := true) (q := decide (h ≤ known)) (b1 := false)
    (by
      refine (chain_ok (x := .int 0) (y := .int i) (z := .int rows.length) (b1 := false) (b2 := false) (b3 := false) (b4 := false) (p := true) (q := true) rfl rfl (by simp) (by simp) fun _ => ?_).trans rfl
      simp; omega) fun _ => by simp [ha, row, at0]
  exact this
theorem sound_ok (rows : List D) (hr : ∀ r ∈ rows, RowP r) (hl : rows.length ≤ 1000) (known : Int) {i : Nat} {r : D} (hg : rows[i]? = some r) : F_is_sound [.tup rows, .int known, .int i] = some (.bl (soundR rows known r), false) := by
  obtain ⟨h, kind, rest, rfl, dp⟩ := hr r (List.mem_of_getElem? hg)
  have hk := known_ok hg known
  have ha := at_row hg
  have hword : ∀ (ρ : DL.Env), f2 ixD (fVar 0) (fVar 2) ρ = some (row h kind rest, false) → fA F_word_of (fCons (f2 ixD (fVar 0) (fVar 2)) fNil) ρ = some (.str kind, false) := fun ρ e => call_ok (ds := [row h kind rest]) (a_cons e rfl) (word_ok _ _ _)
  have hrow : f2 ixD (fVar 0) (fVar 2) [some (.tup rows, false), some (.int known, false), some (.int i, false), none, none] = some (row h kind rest, false) := by simp [ha]
  have hc : (tOrF (tNotF (tOf (fA F_is_known (fCons (fVar 0) (fCons (fVar 1) (fCons (fVar 2) fNil)))))) (tOf (f2 dNotIn (fA F_word_of (fCons (f2 ixD (fVar 0) (fVar 2)) fNil)) (fC c_SEALINGS)))) [some (.tup rows, false), some (.int known, false), some (.int i, false), none, none] = some (!decide (h ≤ known) || !isSeal kind) := by
    refine tor_ok (tnot_ok (tOf_ok (b := false) (call_ok (ds := [.tup rows, .int known, .int i]) rfl hk))) fun _ => tOf_ok (b := false) (e_op (x := .str kind) (y := c_SEALINGS) (b1 := false) (b2 := false) (hword _ hrow) rfl ?_)
    rw [seal_const, isSeal_mem]
    exact dNotIn_strs kind sealW
  have hs : soundR rows known (row h kind rest) = ((decide (h ≤ known) && isSeal kind) && (livesV rows known (byOf (row h kind rest)) (dayOf (row h kind rest)) && sealV rows known (byOf (row h kind rest)) (dayOf (row h kind rest)))) := rfl
  cases hb : (decide (h ≤ known) && isSeal kind) with
  | false =>
    rw [hs, hb]
    refine body_rt rfl (r_if_t (hc.trans ?_) (ret_ok rfl))
    rw [← Bool.not_and, hb]; rfl
  | true =>
    rw [hs, hb]
    rw [Bool.and_eq_true] at hb
    obtain ⟨day, p, r', rfl⟩ := dp.slg hb.2
    show _ = some (D.bl (true && (livesV rows known p day && sealV rows known p day)), false)
    rw [Bool.true_and]
    refine body_rt rfl (r_if_f (hc.trans (by rw [hb.1, hb.2]; rfl)) (r_flat (d := .str p) (b := false) (call_ok (ds := [row h kind (.int day :: .str p :: r'), .str ("by" : PySem.Str)]) (a_cons hrow rfl) (part_ok (i := 1) (idx_by hb.2) rfl)) rfl (r_flat (d := .int day) (b := false) (call_ok (ds := [row h kind (.int day :: .str p :: r')]) (a_cons (d := row h kind (.int day :: .str p :: r')) (b := false) (by simp [ha]) rfl) (dayof_ok (.inr hb.2) rfl)) rfl (ret_ok ?_))))
    exact and_ok (b1 := false) (call_ok (ds := [.tup rows, .int known, .str p, .int day]) (by simp) (lives_ok rows hr hl known p day)) fun _ => call_ok (ds := [.tup rows, .int known, .str p, .int day]) (by simp) (seal_ok rows hr hl known p day)
end Lw

namespace Lw
open PySem DL L2
/-! ### what isn't known changes nothing -/
theorem heard_same (known : Int) : ∀ (rows others : List D) (n : Nat), (∀ (j : Nat) r, rows[j]? = some r → ∃ o, others[j]? = some o ∧ (o = r ∨ (known < heardAt r ∧ known < heardAt o))) → (∀ (j : Nat) o, rows.length ≤ j → others[j]? = some o → known < heardAt o) →
    (rows.zipIdx n).filter (fun x => decide (heardAt x.1 ≤ known)) = (others.zipIdx n).filter fun x => decide (heardAt x.1 ≤ known)
  | [], [], _, _, _ => rfl
  | [], o :: os, n, h1, h2 => by
    have h := h2 0 o (by simp) rfl
    rw [List.zipIdx_cons, List.filter_cons, if_neg (by simp; omega)]
    exact heard_same known [] os (n + 1) (fun j r e => by cases e) fun j o' _ e => h2 (j + 1) o' (by simp) (by simpa using e)
  | r :: rs, [], n, h1, h2 => by
    obtain ⟨o, e, _⟩ := h1 0 r rfl
    cases e
  | r :: rs, o :: os, n, h1, h2 => by
    have ih := heard_same known rs os (n + 1) (fun j r' e => by
      obtain ⟨o', e1, e2⟩ := h1 (j + 1) r' (by simpa using e)
      exact ⟨o', by simpa using e1, e2⟩) fun j o' hj e => h2 (j + 1) o' (by simp; omega) (by simpa using e)
    obtain ⟨o', e1, e2⟩ := h1 0 r rfl
    cases e1
    rw [List.zipIdx_cons, List.zipIdx_cons, List.filter_cons, List.filter_cons, ih]
    rcases e2 with rfl | ⟨e2, e3⟩
    · rfl
    · rw [if_neg (by simp; omega), if_neg (by simp; omega)]
theorem sound_same {rows others : List D} {known : Int} (hs : heardL rows known = heardL others known) {i : Nat} {r o : D} (hr : rows[i]? = some r) (ho : others[i]? = some o) : soundR rows known r = soundR others known o := by
  have hlv : ∀ p day, livesV rows known p day = livesV others known p day := fun p day => by unfold livesV selL; rw [hs]
  have hsv : ∀ p day, sealV rows known p day = sealV others known p day := fun p day => by unfold sealV selL; rw [hs]
  have mem : ∀ {xs : List D} {x : D}, xs[i]? = some x → heardAt x ≤ known → (x, i) ∈ heardL xs known := fun {xs x} e h => List.mem_filter.mpr ⟨(List.mk_mem_zipIdx_iff_getElem? (x := x) (i := i)).mpr e, decide_eq_true h⟩
  have back : ∀ {xs : List D} {x : D}, (x, i) ∈ heardL xs known → xs[i]? = some x := fun {xs x} h => (List.mk_mem_zipIdx_iff_getElem? (x := x) (i := i)).mp (List.mem_filter.mp h).1
  by_cases h : heardAt r ≤ known
  · have := back (xs := others) (by rw [← hs]; exact mem hr h)
    rw [ho] at this
    cases this
    unfold soundR
    rw [hlv, hsv]
  · by_cases h' : heardAt o ≤ known
    · have := back (xs := rows) (by rw [hs]; exact mem ho h')
      rw [hr] at this
      cases this
      exact absurd h' h
    · unfold soundR
      rw [decide_eq_false h, decide_eq_false h']
      rfl
def pairs (rows : List D) (known : Int) (p : Str) (n : Nat) : List D := (List.range n).map fun (day : Nat) => .tup [.bl (livesV rows known p day), .bl (sealV rows known p day)]
def toldL (rows : List D) (known : Int) (zs : List Str) (many : Nat) : List D := zs.flatMap (fun p => pairs rows known p 14) ++ (List.range many).map fun i => .bl (soundR rows known (rows.getD i .non))
theorem getD_some {rows : List D} {i : Nat} (h : i < rows.length) : rows[i]? = some (rows.getD i .non) := by rw [List.getD_eq_getElem?_getD, List.getElem?_eq_getElem h]; rfl
theorem told_same {rows others : List D} {known : Int} (hs : heardL rows known = heardL others known) (zs : List Str) (many : Nat) (h1 : many ≤ rows.length) (h2 : many ≤ others.length) : toldL rows known zs many = toldL others known zs many := by
  have hlv : ∀ p day, livesV rows known p day = livesV others known p day := fun p day => by unfold livesV selL; rw [hs]
  have hsv : ∀ p day, sealV rows known p day = sealV others known p day := fun p day => by unfold sealV selL; rw [hs]
  unfold toldL
  have e1 : (fun p => pairs rows known p 14) = fun p => pairs others known p 14 := by
    funext p
    unfold pairs
    refine List.map_congr_left fun day _ => ?_
    rw [hlv, hsv]
  have e2 : ((List.range many).map fun i => D.bl (soundR rows known (rows.getD i .non))) = (List.range many).map fun i => D.bl (soundR others known (others.getD i .non)) := by
    refine List.map_congr_left fun i hi => ?_
    have hi := List.mem_range.mp hi
    rw [sound_same hs (getD_some (rows := rows) (by omega)) (getD_some (rows := others) (by omega))]
  rw [e1, e2]
theorem pairs_flat (rows : List D) (known : Int) (p : Str) (n : Nat) : ∀ d ∈ pairs rows known p n, noLst d = true ∧ plainN 39 d = true := fun d hd => by
  obtain ⟨x, _, rfl⟩ := List.mem_map.mp hd
  exact ⟨by simp, by simp [plainN]⟩
theorem toldL_flat (rows : List D) (known : Int) (zs : List Str) (many : Nat) : ∀ d ∈ toldL rows known zs many, noLst d = true ∧ plainN 39 d = true := fun d hd => by
  rcases List.mem_append.mp hd with h | h
  · obtain ⟨p, _, h⟩ := List.mem_flatMap.mp h
    exact pairs_flat _ _ _ _ d h
  · obtain ⟨x, _, rfl⟩ := List.mem_map.mp h
    exact ⟨rfl, rfl⟩
theorem toldL_ne (rows : List D) (known : Int) (zs : List Str) (many : Nat) : dNe (.lst (toldL rows known zs many)) (.lst (toldL rows known zs many)) = some (.bl false, false) := by
  have h : plainN 40 (.lst (toldL rows known zs many)) = true := by
    simp only [plainN, List.all_eq_true]
    exact fun d hd => (toldL_flat _ _ _ _ d hd).2
  unfold dNe
  rw [if_pos ⟨h, h⟩, eqD_same 40 _ h]
  rfl
theorem flat_len (rows : List D) (known : Int) : ∀ (zs : List Str), (zs.flatMap fun p => pairs rows known p 14).length = 14 * zs.length
  | [] => rfl
  | z :: zs => by
    rw [List.flatMap_cons, List.length_append, flat_len rows known zs]
    simp [pairs]
    omega
theorem told_run (rows : List D) (hr : ∀ r ∈ rows, RowP r) (hl : rows.length ≤ 1000) (known : Int) (zs : List Str) (hz : zs.length ≤ 100) (many : Nat) (hm : many ≤ rows.length) : F_w_told [.tup rows, .int known, .lst (zs.map .str), .int many] = some (.lst (toldL rows known zs many), true) := by
  have inner : ∀ (acc : List D) (p : Str) (v6 : Option (D × Bool)), acc.length ≤ 2000 → ∃ v6', B2_w_told [some (.tup rows, false), some (.int known, false), some (.lst (zs.map .str), false), some (.int many, false), some (.lst acc, true), some (.str p, false), v6] = some (.nx [some (.tup rows, false), some (.int known, false), some (.lst (zs.map .str), false), some (.int many, false), some (.lst (acc ++ pairs rows known p 14), true), some (.str p, false), v6']) := by
    intro acc p v6 ha
    obtain ⟨ρ', e, v6', rfl⟩ := forR_inv (tg := tgN 6) (g := B1_w_told) 14 (fun i ρ => ∃ v6 : Option (D × Bool), ρ = [some (.tup rows, false), some (.int known, false), some (.lst (zs.map .str), false), some (.int many, false), some (.lst (acc ++ pairs rows known p i), true), some (.str p, false), v6])
      [some (.tup rows, false), some (.int known, false), some (.lst (zs.map .str), false), some (.int many, false), some (.lst acc, true), some (.str p, false), v6] ⟨v6, by simp [pairs]⟩ (by
        rintro i ρ hi ⟨v6, rfl⟩
        refine ⟨_, _, rfl, .inl (app_ok (ds := acc ++ pairs rows known p i) (d := .tup [.bl (livesV rows known p i), .bl (sealV rows known p i)]) (b := false) rfl ?_ (by simp) (small_size (by simp [pairs]; omega))), some (.int i, false), ?_⟩
        · exact call_ok (ds := [.bl (livesV rows known p i), .bl (sealV rows known p i)]) (a_cons (b := false) (call_ok (ds := [.tup rows, .int known, .str p, .int i]) (by simp) (lives_ok rows hr hl known p i)) (a_cons (b := false) (call_ok (ds := [.tup rows, .int known, .str p, .int i]) (by simp) (seal_ok rows hr hl known p i)) rfl)) (by simp [sizeLine])
        · simp [pairs, List.range_succ])
    exact ⟨v6', forR_run (ds := rangeD 0 14) (by simp) e⟩
  obtain ⟨ρ', e, v5, v6, rfl⟩ := forL_inv (tg := tgN 5) (g := B2_w_told) (fun i ρ => ∃ v5 v6 : Option (D × Bool), ρ = [some (.tup rows, false), some (.int known, false), some (.lst (zs.map .str), false), some (.int many, false), some (.lst ((zs.take i).flatMap fun p => pairs rows known p 14), true), v5, v6]) (zs.map .str)
    [some (.tup rows, false), some (.int known, false), some (.lst (zs.map .str), false), some (.int many, false), some (.lst [], true), none, none] ⟨none, none, by simp⟩ (by
      rintro i d ρ hd ⟨v5, v6, rfl⟩
      rw [List.getElem?_map] at hd
      obtain ⟨p, hp, rfl⟩ := Option.map_eq_some_iff.mp hd
      obtain ⟨v6', hi⟩ := inner ((zs.take i).flatMap fun p => pairs rows known p 14) p v6 (by rw [flat_len, List.length_take]; omega)
      refine ⟨_, _, rfl, .inl hi, some (.str p, false), v6', ?_⟩
      rw [List.take_add_one, hp]
      simp)
  rw [List.length_map, List.take_length] at e
  have hc := compT (fi := iRange (fVar 3)) (nT := 1) (cap := [0, 1]) (tg := tgN 0) (fe := fA F_is_sound (fCons (fVar 1) (fCons (fVar 2) (fCons (fVar 0) fNil))))
    (ρ := [some (.tup rows, false), some (.int known, false), some (.lst (zs.map .str), false), some (.int many, false), some (.lst (zs.flatMap fun p => pairs rows known p 14), true), v5, v6]) (List.range many) (fun (k : Nat) => .int k) (fun i => .bl (soundR rows known (rows.getD i .non)))
    (by rw [iRange_ok (j := many) (b := false) rfl (by omega), rangeD_eq]; simp) (by simp; omega) fun k hk => by
      have hk := List.mem_range.mp hk
      exact ⟨_, rfl, false, call_ok (ds := [.tup rows, .int known, .int k]) (by simp [capE]) (sound_ok rows hr hl known (getD_some (by omega)))⟩
  refine body_rt rfl (r_own (ds := []) (by simp [sizeLine]) rfl (r_seq (for_run (ds := zs.map .str) (by simp [hide]) e) (ret_ok (e_op (x := .lst (zs.flatMap fun p => pairs rows known p 14)) (y := .lst ((List.range many).map fun i => .bl (soundR rows known (rows.getD i .non)))) (b1 := false) (b2 := true) rfl hc ?_))))
  have hz : (zs.flatMap fun p => pairs rows known p 14).length + ((List.range many).map fun i => D.bl (soundR rows known (rows.getD i .non))).length ≤ sizeLine := small_le (by rw [flat_len]; simp; omega)
  simp only [dAdd, if_pos hz]
  rfl
/-! who doesn't live on a day lives on no later one -/
theorem restR_mono {p : Str} {day day' : Int} (h : day ≤ day') : ∀ {rest : List D}, restR p day rest = true → restR p day' rest = true
  | [.int d, .str q], e => by
    have e' : (decide (q = p) && decide (d ≤ day)) = true := e
    rw [Bool.and_eq_true] at e'
    show (decide (q = p) && decide (d ≤ day')) = true
    rw [e'.1, Bool.true_and]
    exact decide_eq_true (Int.le_trans (of_decide_eq_true e'.2) h)
theorem told_mono {ws : List Str} {p : Str} {day day' : Int} (h : day ≤ day') {r : D} (hr : RowP r) (ht : told ws p day r = true) : told ws p day' r = true := by
  obtain ⟨a, kind, rest, rfl, _⟩ := hr
  have e : (decide (kind ∈ ws) && restR p day rest) = true := ht
  rw [Bool.and_eq_true] at e
  show (decide (kind ∈ ws) && restR p day' rest) = true
  rw [e.1, restR_mono h e.2]
  rfl
theorem lives_mono {rows : List D} (hr : ∀ r ∈ rows, RowP r) {known known' : Int} {p : Str} {day day' : Int} (hk : known ≤ known') (hd : day ≤ day') (h : livesV rows known' p day' = true) : livesV rows known p day = true := by
  unfold livesV at h ⊢
  rw [List.isEmpty_iff] at h ⊢
  rw [List.eq_nil_iff_forall_not_mem]
  intro x hx
  obtain ⟨h1, h2⟩ := List.mem_filter.mp hx
  obtain ⟨h3, h4⟩ := List.mem_filter.mp h1
  have : x ∈ selL rows known' deathW p day' := List.mem_filter.mpr ⟨List.mem_filter.mpr ⟨h3, decide_eq_true (Int.le_trans (of_decide_eq_true h4) hk)⟩, told_mono hd (hr _ (List.fst_mem_of_mem_zipIdx h3)) h2⟩
  rw [h] at this
  cases this
theorem dead_run (rows : List D) (hr : ∀ r ∈ rows, RowP r) (hl : rows.length ≤ 1000) (known : Int) (zs : List Str) : F_w_stay_dead [.tup rows, .int known, .lst (zs.map .str)] = some (.bl true, false) := by
  have ixb : ∀ (f : Nat → Bool) (i : Nat), i < 14 → ixD (.lst ((List.range 14).map fun (d : Nat) => D.bl (f d))) (.int i) = some (.bl (f i), false) := fun f i hi => by
    rw [ix_lst (by omega) (by simp; omega)]
    have : ((i : Int)).toNat = i := by omega
    rw [this, List.getD_eq_getElem?_getD, List.getElem?_map, List.getElem?_range hi]
    rfl
  obtain ⟨ρ', e, v3, v4, v5, v6, rfl⟩ := forL_inv (tg := tgN 3) (g := B2_w_stay_dead) (fun i ρ => ∃ v3 v4 v5 v6 : Option (D × Bool), ρ = [some (.tup rows, false), some (.int known, false), some (.lst (zs.map .str), false), v3, v4, v5, v6]) (zs.map .str)
    [some (.tup rows, false), some (.int known, false), some (.lst (zs.map .str), false), none, none, none, none] ⟨none, none, none, none, rfl⟩ (by
      rintro i d ρ hd ⟨v3, v4, v5, v6, rfl⟩
      rw [List.getElem?_map] at hd
      obtain ⟨p, hp, rfl⟩ := Option.map_eq_some_iff.mp hd
      have c1 := compT (fi := iRange (fC (.int 14))) (nT := 1) (cap := [0, 1, 3]) (tg := tgN 0) (fe := fA F_lives (fCons (fVar 1) (fCons (fVar 2) (fCons (fVar 3) (fCons (fVar 0) fNil)))))
        (ρ := [some (.tup rows, false), some (.int known, false), some (.lst (zs.map .str), false), some (.str p, false), v4, v5, v6]) (List.range 14) (fun (k : Nat) => .int k) (fun (k : Nat) => .bl (livesV rows known p k))
        (by rw [iRange_ok (j := 14) (b := false) rfl (by decide), rangeD_eq]; simp) (by simp) fun k hk => ⟨_, rfl, false, call_ok (ds := [.tup rows, .int known, .str p, .int k]) (by simp [capE]) (lives_ok rows hr hl known p k)⟩
      have c2 := compT (fi := iRange (fC (.int 14))) (nT := 1) (cap := [0, 3, 1]) (tg := tgN 0) (fe := fA F_lives (fCons (fVar 1) (fCons (f2 dAdd (fVar 3) (fC (.int 3))) (fCons (fVar 2) (fCons (fVar 0) fNil)))))
        (ρ := [some (.tup rows, false), some (.int known, false), some (.lst (zs.map .str), false), some (.str p, false), some (.lst ((List.range 14).map fun (k : Nat) => .bl (livesV rows known p k)), true), v5, v6]) (List.range 14) (fun (k : Nat) => .int k) (fun (k : Nat) => .bl (livesV rows (known + 3) p k))
        (by rw [iRange_ok (j := 14) (b := false) rfl (by decide), rangeD_eq]; simp) (by simp) fun k hk => ⟨_, rfl, false, call_ok (ds := [.tup rows, .int (known + 3), .str p, .int k]) (by simp [capE]) (lives_ok rows hr hl (known + 3) p k)⟩
      obtain ⟨ρ', e, v6', rfl⟩ := forR_inv (tg := tgN 6) (g := B1_w_stay_dead) 14 (fun i ρ => ∃ v6 : Option (D × Bool), ρ = [some (.tup rows, false), some (.int known, false), some (.lst (zs.map .str), false), some (.str p, false), some (.lst ((List.range 14).map fun (k : Nat) => .bl (livesV rows known p k)), true), some (.lst ((List.range 14).map fun (k : Nat) => .bl (livesV rows (known + 3) p k)), true), v6])
        [some (.tup rows, false), some (.int known, false), some (.lst (zs.map .str), false), some (.str p, false), some (.lst ((List.range 14).map fun (k : Nat) => .bl (livesV rows known p k)), true), some (.lst ((List.range 14).map fun (k : Nat) => .bl (livesV rows (known + 3) p k)), true), v6] ⟨v6, rfl⟩ (by
          rintro i ρ hi ⟨v6, rfl⟩
          have b4 : ∀ j : Nat, j < 14 → ixD (.lst ((List.range 14).map fun (k : Nat) => .bl (livesV rows known p k))) (.int j) = some (.bl (livesV rows known p j), false) := fun j hj => ixb (fun (k : Nat) => livesV rows known p k) j hj
          have b5 := ixb (fun (k : Nat) => livesV rows (known + 3) p k) i hi
          refine ⟨_, _, rfl, .inl (if_f (tor_ok (p := false) (q := false) ?_ fun _ => ?_) rfl), some (.int i, false), rfl⟩
          · refine (tand_ok (p := livesV rows (known + 3) p i) (q := !livesV rows known p i) (tOf_ok (b := false) (e_op (b1 := false) (b2 := false) rfl rfl b5)) fun _ => tnot_ok (tOf_ok (b := false) (e_op (b1 := false) (b2 := false) rfl rfl (b4 i hi)))).trans ?_
            cases h : livesV rows (known + 3) p i with
            | false => rfl
            | true => rw [lives_mono hr (known := known) (by omega) (Int.le_refl _) h]; rfl
          · refine (tand_ok (p := decide (0 < i)) (q := livesV rows known p i && !livesV rows known p ((i - 1 : Nat) : Int)) (tOf_ok (b := false) (by simp)) fun h0 => ?_).trans ?_
            · have h0 := of_decide_eq_true h0
              refine tand_ok (tOf_ok (b := false) (e_op (b1 := false) (b2 := false) rfl rfl (b4 i hi))) fun _ => tnot_ok (tOf_ok (b := false) (e_op (y := .int ((i - 1 : Nat) : Int)) (b1 := false) (b2 := false) rfl ?_ (b4 (i - 1) (by omega))))
              simp
              omega
            · cases h : livesV rows known p i with
              | false => simp
              | true =>
                rw [lives_mono hr (known := known) (day := ((i - 1 : Nat) : Int)) (Int.le_refl _) (by omega) h]
                simp)
      have fb : ∀ k : Int, noLsts ((List.range 14).map fun (d : Nat) => D.bl (livesV rows k p d)) = true := fun k => noLsts_all fun d hd => by obtain ⟨x, _, rfl⟩ := List.mem_map.mp hd; rfl
      exact ⟨_, _, rfl, .inl (r_own c1 (fb _) (r_own c2 (fb _) (forR_run (iRange_ok (j := 14) (b := false) rfl (by decide)) e))), _, _, _, _, rfl⟩)
  exact body_rt rfl (r_seq (for_run (ds := zs.map .str) (by simp [hide]) e) (ret_ok rfl))
end Lw
namespace Lw
open PySem DL L2
theorem not3 (kind : Str) (h : isThree kind = false) (P : Prop) : isThree kind = true → P := fun z => by rw [h] at z; cases z
theorem not7 (kind : Str) (h : isSeal kind = false) (P : Prop) : isSeal kind = true → P := fun z => by rw [h] at z; cases z
theorem deed_ok (c day : Int) (one other : Str) : ∃ kind rest, F_w_deed [.int c, .int day, .str one, .str other] = some (.tup (.str kind :: rest), false) ∧ DeedP kind rest := by
  have h60 := mod_lt (x := c / 1000) (m := 60) (by decide)
  obtain ⟨far, hfar⟩ : ∃ far : Int, c / 1000 % 60 = far := ⟨_, rfl⟩
  have h8 := mod_lt (x := c) (m := 8) (by decide)
  let L1 : List D := [.tup [.str ("death" : PySem.Str), .int day, .str one], .tup [.str ("lost" : PySem.Str), .int day, .str one], .tup [.str ("found" : PySem.Str), .int day, .str one], .tup [.str ("lost" : PySem.Str), .int day, .str other]]
  let L2 : List D := L1 ++ [.tup [.str ("paper" : PySem.Str), .int day, .str one, .int (1 + far), .tup [.int day, .non], .str other, .tup [.str ("found" : PySem.Str), .str one]], .tup [.str ("copy" : PySem.Str), .int day, .str other, .int far]]
  let L3 : List D := L2 ++ [.tup [.str ("leave" : PySem.Str), .int day, .str one, .str other, .int 3, .tup [.int day, .int (day + 1)], .int (far % 10)], .tup [.str ("call" : PySem.Str), .int day, .str one, .int far]]
  have run : F_w_deed [.int c, .int day, .str one, .str other] = some (L3.getD (c % 8).toNat .non, false) := by
    refine body_rt rfl (r_flat (d := .int far) (b := false) (by simp [hfar]) rfl (r_own (ds := L1) (by simp [L1, sizeLine]) (by simp [L1]) (r_own (ds := L2) (by simp [L1, L2, sizeLine]) (by simp [L1, L2]) (r_own (ds := L3) (by simp [L1, L2, L3, sizeLine]) (by simp [L1, L2, L3]) (ret_ok ?_)))))
    refine e_op (x := .lst L3) (y := .int (c % 8)) (b1 := false) (b2 := false) rfl (by simp) ?_
    exact ix_lst h8.1 (by simp [L1, L2, L3]; omega)
  rw [run]
  obtain ⟨i, hi⟩ : ∃ i : Nat, (c % 8).toNat = i := ⟨_, rfl⟩
  have hi8 : i < 8 := by omega
  rw [hi]
  match i, hi8 with
  | 0, _ => exact ⟨_, _, rfl, ⟨rfl, rfl, fun _ => ⟨day, one, rfl⟩, not7 _ (by decide +kernel) _⟩⟩
  | 1, _ => exact ⟨_, _, rfl, ⟨rfl, rfl, fun _ => ⟨day, one, rfl⟩, not7 _ (by decide +kernel) _⟩⟩
  | 2, _ => exact ⟨_, _, rfl, ⟨rfl, rfl, fun _ => ⟨day, one, rfl⟩, not7 _ (by decide +kernel) _⟩⟩
  | 3, _ => exact ⟨_, _, rfl, ⟨rfl, rfl, fun _ => ⟨day, other, rfl⟩, not7 _ (by decide +kernel) _⟩⟩
  | 4, _ => exact ⟨_, _, rfl, ⟨rfl, rfl, not3 _ (by decide +kernel) _, fun _ => ⟨day, one, _, rfl⟩⟩⟩
  | 5, _ => exact ⟨_, _, rfl, ⟨rfl, rfl, not3 _ (by decide +kernel) _, fun _ => ⟨day, other, _, rfl⟩⟩⟩
  | 6, _ => exact ⟨_, _, rfl, ⟨rfl, rfl, not3 _ (by decide +kernel) _, fun _ => ⟨day, one, _, rfl⟩⟩⟩
  | 7, _ => exact ⟨_, _, rfl, ⟨rfl, rfl, not3 _ (by decide +kernel) _, fun _ => ⟨day, one, _, rfl⟩⟩⟩
  | n + 8, hn => exact absurd hn (by omega)
theorem ixs_ok (zs : List Str) (i : Int) (h0 : 0 ≤ i) (h1 : i < zs.length) : ixD (.lst (zs.map .str)) (.int i) = some (.str (zs.getD i.toNat ("" : PySem.Str)), false) := by
  have := ix_lst (ds := zs.map .str) h0 (by simp; omega)
  rw [this]
  have hlt : i.toNat < zs.length := by omega
  simp [hlt]
theorem rows_ok (ns : List Int) (zs : List Str) (hz : 0 < zs.length ∧ zs.length ≤ 100) : ∃ rows : List D, F_w_rows [.lst (ns.map .int), .lst (zs.map .str)] = some (.tup rows, false) ∧ rows.length ≤ 30 ∧ ∀ r ∈ rows, RowP r := by
  obtain ⟨cs, hc, hcl⟩ := cells_run ns 30 (by omega)
  obtain ⟨ρ', e, rs, v3, v4, v5, v6, rfl, hl, hR⟩ := forL_inv (tg := tgN 3) (g := B1_w_rows) (fun i ρ => ∃ (rs : List D) (v3 v4 v5 v6 : Option (D × Bool)), ρ = [some (.lst (ns.map .int), false), some (.lst (zs.map .str), false), some (.lst rs, true), v3, v4, v5, v6] ∧ rs.length = i ∧ ∀ r ∈ rs, RowP r) (cs.map .int)
    [some (.lst (ns.map .int), false), some (.lst (zs.map .str), false), some (.lst [], true), none, none, none, none] ⟨[], none, none, none, none, rfl, rfl, by simp⟩ (by
      rintro i d ρ hd ⟨rs, v3, v4, v5, v6, rfl, hl, hR⟩
      rw [List.getElem?_map] at hd
      obtain ⟨c, hci, rfl⟩ := Option.map_eq_some_iff.mp hd
      have hil : i < cs.length := (List.getElem?_eq_some_iff.mp hci).1
      have m1 := mod_lt (x := c / 104) (m := zs.length) (by omega)
      have m2 := mod_lt (x := c / 520) (m := zs.length) (by omega)
      have m4 := mod_lt (x := c / 2600) (m := 4) (by decide)
      obtain ⟨day, hday⟩ : ∃ day : Int, c / 8 % 13 = day := ⟨_, rfl⟩
      obtain ⟨one, hone⟩ : ∃ z : Str, zs.getD (c / 104 % zs.length).toNat ("" : PySem.Str) = z := ⟨_, rfl⟩
      obtain ⟨oth, hoth⟩ : ∃ z : Str, zs.getD (c / 520 % zs.length).toNat ("" : PySem.Str) = z := ⟨_, rfl⟩
      obtain ⟨kind, rest, hdeed, dp⟩ := deed_ok c day one oth
      obtain ⟨add, hadd⟩ : ∃ add : Int, ixD (.lst [.int 0, .int 0, .int 1, .int 6]) (.int (c / 2600 % 4)) = some (.int add, false) := ⟨_, ix_ints (xs := [0, 0, 1, 6]) m4.1 (by simp; omega)⟩
      refine ⟨_, _, rfl, .inl (r_flat (d := .int day) (b := false) (by simp [hday]) rfl (r_flat (d := .str one) (b := false) (e_op (x := .lst (zs.map .str)) (y := .int (c / 104 % zs.length)) (b1 := false) (b2 := false) rfl (by have := hz.1; simp [this]) (by rw [ixs_ok _ _ m1.1 m1.2, hone])) rfl (r_flat (d := .str oth) (b := false) (e_op (x := .lst (zs.map .str)) (y := .int (c / 520 % zs.length)) (b1 := false) (b2 := false) rfl (by have := hz.1; simp [this]) (by rw [ixs_ok _ _ m2.1 m2.2, hoth])) rfl
        (app_ok (ds := rs) (d := row (day + add) kind rest) (b := false) rfl ?_ ?_ (small_size (by omega)))))), rs ++ [row (day + add) kind rest], _, _, _, _, rfl, by simp [hl], ?_⟩
      · refine call_ok (ds := [.int (day + add), .tup (.str kind :: rest)]) (a_cons (d := .int (day + add)) (b := false) (e_op (x := .int day) (y := .int add) (b1 := false) (b2 := false) rfl (e_op (x := .lst [.int 0, .int 0, .int 1, .int 6]) (y := .int (c / 2600 % 4)) (b1 := true) (b2 := false) (by simp [sizeLine]) (by simp) hadd) (by simp)) (a_cons (d := .tup (.str kind :: rest)) (b := false) (call_ok (ds := [.int c, .int day, .str one, .str oth]) (by simp) hdeed) rfl)) (by simp [row, sizeLine])
      · simp [row, dp.flat]
      · intro r hr
        rcases List.mem_append.mp hr with hr | hr
        · exact hR r hr
        · rw [List.mem_singleton.mp hr]; exact ⟨_, kind, rest, rfl, dp⟩)
  rw [List.length_map] at hl
  refine ⟨rs, body_rt rfl (r_own (ds := []) (by simp [sizeLine]) (by simp) (r_seq (for_run (ds := cs.map .int) ?_ e) (ret_ok (call_ok (ds := [.lst rs]) rfl ?_)))), by omega, hR⟩
  · show (fA F_w_cells _ _).bind _ = _
    rw [call_ok (ds := [.lst (ns.map .int), .int 4, .int 30]) (by simp [hide]) hc]
    rfl
  · simp [to_tuple]
theorem unknown_ok (ns : List Int) (zs : List Str) (hz : 0 < zs.length ∧ zs.length ≤ 100) (k : Nat) (known : Int) : ∃ r, F_w_unknown [.lst (ns.map .int), .int k, .lst (zs.map .str), .int known] = some (r, false) ∧ RowP r ∧ known < heardAt r := by
  obtain ⟨c, hc⟩ : ∃ c : Int, ns.getD (34 + k % 30) 0 + 7 * k = c := ⟨_, rfl⟩
  have hcell := cell_ok ns (34 + k % 30)
  have m1 := mod_lt (x := c / 104) (m := zs.length) (by omega)
  have m2 := mod_lt (x := c / 7) (m := zs.length) (by omega)
  have m13 := mod_lt (x := c / 8) (m := 13) (by decide)
  have m3 := mod_lt (x := c / 5) (m := 3) (by decide)
  obtain ⟨day, hday⟩ : ∃ day : Int, c / 8 % 13 = day := ⟨_, rfl⟩
  obtain ⟨one, hone⟩ : ∃ z : Str, zs.getD (c / 104 % zs.length).toNat ("" : PySem.Str) = z := ⟨_, rfl⟩
  obtain ⟨oth, hoth⟩ : ∃ z : Str, zs.getD (c / 7 % zs.length).toNat ("" : PySem.Str) = z := ⟨_, rfl⟩
  obtain ⟨kind, rest, hdeed, dp⟩ := deed_ok (c / 3) day one oth
  refine ⟨row (known + 1 + c / 5 % 3 + day) kind rest, body_rt rfl (r_flat (d := .int c) (b := false) ?_ rfl (r_flat (d := .int day) (b := false) (by simp [hday]) rfl (r_flat (d := .str one) (b := false) (e_op (x := .lst (zs.map .str)) (y := .int (c / 104 % zs.length)) (b1 := false) (b2 := false) rfl (by have := hz.1; simp [this]) (by rw [ixs_ok _ _ m1.1 m1.2, hone])) rfl (ret_ok ?_)))), ⟨_, kind, rest, rfl, dp⟩, ?_⟩
  · refine e_op (x := .int (ns.getD (34 + k % 30) 0)) (y := .int (7 * k)) (b1 := false) (b2 := false) (call_ok (ds := [.lst (ns.map .int), .int (34 + k % 30 : Nat)]) ?_ hcell) ?_ (by simp only [dAdd, hc])
    · simp
    · simp
  · refine call_ok (ds := [.int (known + 1 + c / 5 % 3 + day), .tup (.str kind :: rest)]) (a_cons (d := .int (known + 1 + c / 5 % 3 + day)) (b := false) (by simp) (a_cons (d := .tup (.str kind :: rest)) (b := false) (call_ok (ds := [.int (c / 3), .int day, .str one, .str oth]) (a_cons (d := .int (c / 3)) (b := false) (by simp) (a_cons (b := false) rfl (a_cons (b := false) rfl (a_cons (d := .str oth) (b := false) (e_op (x := .lst (zs.map .str)) (y := .int (c / 7 % zs.length)) (b1 := false) (b2 := false) rfl (by have := hz.1; simp [this]) (by rw [ixs_ok _ _ m2.1 m2.2, hoth])) rfl)))) hdeed) rfl)) (by simp [row, sizeLine])
  · show known < known + 1 + c / 5 % 3 + day
    omega
theorem put_ok {ρ : DL.Env} {i n : Nat} {ds : List D} {fk fv : FE} {d : D} {b b' : Bool} (e : ρ[i]? = some (some (.lst ds, true))) (ev : fv ρ = some (d, b)) (ek : fk ρ = some (.int n, b')) (hn : n < ds.length) (hf : noLst d = true) : gPut i fk fv ρ = some (.nx (ρ.set i (some (.lst (ds.set n d), true)))) := by
  have hix : ixN ds.length (n : Int) = some n := by
    unfold ixN
    rw [if_pos (by omega), if_pos (by omega)]
    rfl
  simp only [gPut, e, ev, ek, Option.bind_some, hix]
  rw [if_pos hf]
theorem cut_take (rows : List D) (n : Nat) : cutD rows none (some (n : Int)) = rows.take n := by
  unfold cutD
  rw [HT.sIx_none, HT.sIx_nat]
  simp
theorem cut_drop (rows : List D) (n : Nat) : cutD rows (some (n : Int)) none = rows.drop n := by
  unfold cutD
  rw [HT.sIx_none, HT.sIx_nat]
  rcases Nat.le_total n rows.length with h | h
  · rw [Nat.min_eq_left h, List.take_of_length_le (by simp)]
  · rw [Nat.min_eq_right h, List.drop_of_length_le h]; simp
end Lw
namespace Lw
open PySem DL L2
theorem splice_ok (rows : List D) (n : Nat) (x y : D) (known : Int) (hx : known < heardAt x) (hy : known < heardAt y) : heardL (rows.take n ++ [x] ++ rows.drop (n + 1)) known = heardL (rows.take n ++ [y] ++ rows.drop (n + 1)) known := by
  refine heard_same known _ _ 0 (fun j r hj => ?_) fun j o hl ho => ?_
  · by_cases h1 : j < (rows.take n).length
    · refine ⟨r, ?_, .inl rfl⟩
      rw [List.append_assoc, List.getElem?_append_left h1] at hj ⊢
      exact hj
    · by_cases h2 : j = (rows.take n).length
      · subst h2
        rw [List.append_assoc, List.getElem?_append_right (Nat.le_refl _), Nat.sub_self] at hj
        cases hj
        refine ⟨y, ?_, .inr ⟨hx, hy⟩⟩
        rw [List.append_assoc, List.getElem?_append_right (Nat.le_refl _), Nat.sub_self]
        rfl
      · refine ⟨r, ?_, .inl rfl⟩
        rw [List.getElem?_append_right (by simp at h1 h2 ⊢; omega)] at hj ⊢
        simpa using hj
  · have := (List.getElem?_eq_some_iff.mp ho).1
    simp at this hl
    omega
theorem law_true (ns : List Int) (hn : ns.length ≤ 63) : ∃ b, F_law [.lst (ns.map .int)] = some (.bl true, b) := by
  have m4 := mod_lt (x := ns.getD 0 0) (m := 4) (by decide)
  obtain ⟨many, hmany⟩ : ∃ many : Nat, 2 + ns.getD 0 0 % 4 = many := ⟨(2 + ns.getD 0 0 % 4).toNat, by omega⟩
  obtain ⟨zs, hz, hzl, _⟩ := names_run (ns.getD 1 0) many (by omega)
  have hzz : 0 < zs.length ∧ zs.length ≤ 100 := by omega
  obtain ⟨rows, hrows, hrl, hR⟩ := rows_ok ns zs hzz
  obtain ⟨kn, hkn⟩ : ∃ kn : Int, ns.getD 2 0 % 16 = kn := ⟨_, rfl⟩
  have cel : ∀ (k : Nat) (ρ : DL.Env) (f : FE), fVar 0 ρ = some (.lst (ns.map .int), false) → f ρ = some (.int k, false) → fA F_w_cell_at (fCons (fVar 0) (fCons f fNil)) ρ = some (.int (ns.getD k 0), false) := fun k ρ f h1 h2 => call_ok (ds := [.lst (ns.map .int), .int k]) (a_cons h1 (a_cons h2 rfl)) (cell_ok ns k)
  have hflat : noLsts rows = true := noLsts_all fun r hr => (hR r hr).flat
  let due : List D := toldL rows kn zs rows.length
  have hdue : noLsts due = true := noLsts_all fun d hd => (toldL_flat _ _ _ _ d hd).1
  -- the exchanged rows
  obtain ⟨ρ1, e1, os, v6, rfl, hol, hor⟩ := forR_inv (tg := tgN 6) (g := B1_law) rows.length (fun i ρ => ∃ (os : List D) (v6 : Option (D × Bool)), ρ = [some (.lst (ns.map .int), false), some (.lst (zs.map .str), true), some (.tup rows, false), some (.int kn, false), some (.lst due, true), some (.lst os, true), v6, none, none, none] ∧ os.length = i ∧ ∀ (j : Nat) o, os[j]? = some o → RowP o ∧ (rows[j]? = some o ∨ ∃ r, rows[j]? = some r ∧ kn < heardAt r ∧ kn < heardAt o))
    [some (.lst (ns.map .int), false), some (.lst (zs.map .str), true), some (.tup rows, false), some (.int kn, false), some (.lst due, true), some (.lst [], true), none, none, none, none] ⟨[], none, rfl, rfl, by simp⟩ (by
      rintro i ρ hi ⟨os, v6, rfl, hol, hor⟩
      obtain ⟨r, hg⟩ : ∃ r, rows[i]? = some r := ⟨_, List.getElem?_eq_getElem hi⟩
      have hrp := hR r (List.mem_of_getElem? hg)
      have ha := at_row hg
      have happ : gApp 5 (f2 ixD (fVar 2) (fVar 6)) [some (.lst (ns.map .int), false), some (.lst (zs.map .str), true), some (.tup rows, false), some (.int kn, false), some (.lst due, true), some (.lst os, true), some (.int i, false), none, none, none] = some (.nx [some (.lst (ns.map .int), false), some (.lst (zs.map .str), true), some (.tup rows, false), some (.int kn, false), some (.lst due, true), some (.lst (os ++ [r]), true), some (.int i, false), none, none, none]) := by
        rw [app_ok (ds := os) (d := r) (b := false) rfl (by simp [ha]) hrp.flat (small_size (by omega))]
        rfl
      have hc : tOf (f2 iGt (f2 ixD (f2 ixD (fVar 2) (fVar 6)) (fC (.int 0))) (fVar 3)) [some (.lst (ns.map .int), false), some (.lst (zs.map .str), true), some (.tup rows, false), some (.int kn, false), some (.lst due, true), some (.lst (os ++ [r]), true), some (.int i, false), none, none, none] = some (decide (kn < heardAt r)) := by
        obtain ⟨h, kind, rest, rfl, dp⟩ := hrp
        refine tOf_ok (b := false) ?_
        simp [ha, row, at0, heardAt]
        rfl
      by_cases hk : kn < heardAt r
      · obtain ⟨u, hu, hup, hua⟩ := unknown_ok ns zs hzz i kn
        refine ⟨_, _, rfl, .inl (r_seq happ (if_t (hc.trans (by rw [decide_eq_true hk])) (put_ok (ds := os ++ [r]) (n := i) (d := u) (b := false) (b' := false) rfl (call_ok (ds := [.lst (ns.map .int), .int i, .lst (zs.map .str), .int kn]) (by simp) hu) rfl (by simp; omega) hup.flat))), os ++ [u], some (.int i, false), ?_, by simp [hol], ?_⟩
        · have : (os ++ [r]).set i u = os ++ [u] := by subst hol; simp
          rw [this]
          rfl
        · intro j o hj
          by_cases hjl : j < os.length
          · rw [List.getElem?_append_left hjl] at hj; exact hor j o hj
          · have hj2 := (List.getElem?_eq_some_iff.mp hj).1
            have : j = os.length := by simp at hj2; omega
            subst this
            rw [List.getElem?_append_right (Nat.le_refl _), Nat.sub_self] at hj
            cases hj
            exact ⟨hup, .inr ⟨r, by rw [hol]; exact hg, hk, hua⟩⟩
      · refine ⟨_, _, rfl, .inl (r_seq happ (if_f (hc.trans (by rw [decide_eq_false hk])) rfl)), os ++ [r], some (.int i, false), rfl, by simp [hol], ?_⟩
        intro j o hj
        by_cases hjl : j < os.length
        · rw [List.getElem?_append_left hjl] at hj; exact hor j o hj
        · have hj2 := (List.getElem?_eq_some_iff.mp hj).1
          have : j = os.length := by simp at hj2; omega
          subst this
          rw [List.getElem?_append_right (Nat.le_refl _), Nat.sub_self] at hj
          cases hj
          exact ⟨hrp, .inl (by rw [hol]; exact hg)⟩)
  -- and more behind
  have m7 := mod_lt (x := ns.getD 3 0) (m := 7) (by decide)
  obtain ⟨mo, hmo⟩ : ∃ mo : Nat, ns.getD 3 0 % 7 = mo := ⟨(ns.getD 3 0 % 7).toNat, by omega⟩
  obtain ⟨ρ2, e2, us, v6', rfl, hul, hur⟩ := forR_inv (tg := tgN 6) (g := B2_law) mo (fun i ρ => ∃ (us : List D) (v6 : Option (D × Bool)), ρ = [some (.lst (ns.map .int), false), some (.lst (zs.map .str), true), some (.tup rows, false), some (.int kn, false), some (.lst due, true), some (.lst (os ++ us), true), v6, none, none, none] ∧ us.length = i ∧ ∀ u ∈ us, RowP u ∧ kn < heardAt u)
    [some (.lst (ns.map .int), false), some (.lst (zs.map .str), true), some (.tup rows, false), some (.int kn, false), some (.lst due, true), some (.lst os, true), v6, none, none, none] ⟨[], v6, by simp, rfl, by simp⟩ (by
      rintro i ρ hi ⟨us, v6, rfl, hul, hur⟩
      obtain ⟨u, hu, hup, hua⟩ := unknown_ok ns zs hzz (30 + i) kn
      refine ⟨_, _, rfl, .inl (app_ok (ds := os ++ us) (d := u) (b := false) rfl (call_ok (ds := [.lst (ns.map .int), .int (30 + i : Nat), .lst (zs.map .str), .int kn]) (by simp) hu) hup.flat (small_size (by simp; omega))), us ++ [u], some (.int i, false), by simp, by simp [hul], ?_⟩
      intro w hw
      rcases List.mem_append.mp hw with hw | hw
      · exact hur w hw
      · rw [List.mem_singleton.mp hw]; exact ⟨hup, hua⟩)
  have hoR : ∀ o ∈ os ++ us, RowP o := fun o ho => by
    rcases List.mem_append.mp ho with h | h
    · obtain ⟨j, hj⟩ := List.mem_iff_getElem?.mp h
      exact (hor j o hj).1
    · exact (hur o h).1
  have hsame : heardL rows kn = heardL (os ++ us) kn := by
    refine heard_same kn _ _ 0 (fun j r hj => ?_) fun j o hl ho => ?_
    · have hjl := (List.getElem?_eq_some_iff.mp hj).1
      have hjo : j < os.length := by omega
      refine ⟨os[j], by rw [List.getElem?_append_left hjo, List.getElem?_eq_getElem hjo], ?_⟩
      rcases (hor j os[j] (List.getElem?_eq_getElem hjo)).2 with h | ⟨r', h, h1, h2⟩
      · rw [hj] at h; cases h; exact .inl rfl
      · rw [hj] at h; cases h; exact .inr ⟨h1, h2⟩
    · rw [List.getElem?_append_right (by omega)] at ho
      exact (hur o (List.mem_of_getElem? ho)).2
  have htold : F_w_told [.tup (os ++ us), .int kn, .lst (zs.map .str), .int rows.length] = some (.lst due, true) := by
    rw [told_run (os ++ us) hoR (by simp; omega) kn zs hzz.2 rows.length (by simp; omega)]
    have := told_same hsame zs rows.length (Nat.le_refl _) (by simp; omega)
    rw [← this]
  -- one row heard later
  obtain ⟨ρ3, e3, w6, w7, w8, w9, rfl⟩ := forR_inv (tg := tgN 6) (g := B3_law) (min rows.length 3) (fun i ρ => ∃ v6 v7 v8 v9 : Option (D × Bool), ρ = [some (.lst (ns.map .int), false), some (.lst (zs.map .str), true), some (.tup rows, false), some (.int kn, false), some (.lst due, true), some (.lst (os ++ us), true), v6, v7, v8, v9])
    [some (.lst (ns.map .int), false), some (.lst (zs.map .str), true), some (.tup rows, false), some (.int kn, false), some (.lst due, true), some (.lst (os ++ us), true), v6', none, none, none] ⟨v6', none, none, none, rfl⟩ (by
      rintro i ρ hi ⟨v6, v7, v8, v9, rfl⟩
      have hpos : 0 < rows.length := by omega
      obtain ⟨q, hq⟩ : ∃ q : Int, ns.getD 3 0 / (7 + i) = q := ⟨_, rfl⟩
      have ma := mod_lt (x := q) (m := rows.length) (by omega)
      obtain ⟨n, hn⟩ : ∃ n : Nat, q % rows.length = n := ⟨(q % rows.length).toNat, by omega⟩
      have hnl : n < rows.length := by omega
      obtain ⟨r, hg⟩ : ∃ r, rows[n]? = some r := ⟨_, List.getElem?_eq_getElem hnl⟩
      have ha := at_row hg
      obtain ⟨h, kind, rest, rfl, dp⟩ := hR r (List.mem_of_getElem? hg)
      obtain ⟨u, hu, hup, hua⟩ := unknown_ok ns zs hzz n 99
      let A : List D := rows.take n ++ [row 100 kind rest] ++ rows.drop (n + 1)
      let B : List D := rows.take n ++ [u] ++ rows.drop (n + 1)
      have memR : ∀ (x : D), RowP x → ∀ z ∈ rows.take n ++ [x] ++ rows.drop (n + 1), RowP z := fun x hx z hz => by
        rcases List.mem_append.mp hz with hz | hz
        · rcases List.mem_append.mp hz with hz | hz
          · exact hR z (List.mem_of_mem_take hz)
          · rw [List.mem_singleton.mp hz]; exact hx
        · exact hR z (List.mem_of_mem_drop hz)
      have lenR : ∀ (x : D), (rows.take n ++ [x] ++ rows.drop (n + 1)).length = rows.length := fun x => by simp; omega
      have hA := memR (row 100 kind rest) ⟨_, _, _, rfl, dp⟩
      have hB := memR u hup
      have flA : noLsts A = true := noLsts_all fun r hr => (hA r hr).flat
      have flB : noLsts B = true := noLsts_all fun r hr => (hB r hr).flat
      have tA := told_run A hA (by rw [lenR]; omega) 99 zs hzz.2 rows.length (by rw [lenR]; omega)
      have tB := told_run B hB (by rw [lenR]; omega) 99 zs hzz.2 rows.length (by rw [lenR]; omega)
      have hAB : toldL A 99 zs rows.length = toldL B 99 zs rows.length := told_same (splice_ok rows n (row 100 kind rest) u 99 (show (99 : Int) < 100 by decide) hua) zs rows.length (by rw [lenR]; omega) (by rw [lenR]; omega)
      rw [← hAB] at tB
      have spl : ∀ (f : FE) (x : D) (ρ : DL.Env), ρ[2]? = some (some (.tup rows, false)) → ρ[7]? = some (some (.int n, false)) → f ρ = some (x, false) → f2 tAddD (f2 tAddD (fSl (fVar 2) oNone (oSome (fVar 7))) (fA mkTup (fCons f fNil))) (fSl (fVar 2) (oSome (f2 dAdd (fVar 7) (fC (.int 1)))) oNone) ρ = some (.tup (rows.take n ++ [x] ++ rows.drop (n + 1)), false) := fun f x ρ h2 h7 hf => by
        have s1 : fSl (fVar 2) oNone (oSome (fVar 7)) ρ = some (.tup (rows.take n), false) := by simp [h2, h7, cut_take]
        have s2 : fSl (fVar 2) (oSome (f2 dAdd (fVar 7) (fC (.int 1)))) oNone ρ = some (.tup (rows.drop (n + 1)), false) := by
          have := cut_drop rows (n + 1)
          rw [Int.natCast_add] at this
          simp [h2, h7]
          exact this
        have z1 : (rows.take n).length + [x].length ≤ sizeLine := small_le (by simp; omega)
        have z2 : (rows.take n ++ [x]).length + (rows.drop (n + 1)).length ≤ sizeLine := small_le (by simp; omega)
        refine e_op (x := .tup (rows.take n ++ [x])) (y := .tup (rows.drop (n + 1))) (b1 := false) (b2 := false) (e_op (x := .tup (rows.take n)) (y := .tup [x]) (b1 := false) (b2 := false) s1 (call_ok (ds := [x]) (a_cons hf rfl) (by simp [sizeLine])) ?_) s2 ?_
        · simp only [tAddD, if_pos z1]
        · simp only [tAddD, if_pos z2]
      refine ⟨_, _, rfl, .inl (r_flat (d := .int n) (b := false) ?_ rfl (r_flat (d := .tup A) (b := false) (spl _ (row 100 kind rest) _ rfl rfl ?_) (by simp [flA]) (r_flat (d := .tup B) (b := false) (spl _ u _ rfl rfl (call_ok (ds := [.lst (ns.map .int), .int n, .lst (zs.map .str), .int 99]) (by simp) hu)) (by simp [flB]) (if_f (tOf_ok (b := false) (e_op (x := .lst (toldL A 99 zs rows.length)) (y := .lst (toldL A 99 zs rows.length)) (b1 := true) (b2 := true) (call_ok (ds := [.tup A, .int 99, .lst (zs.map .str), .int rows.length]) (by simp) tA) (call_ok (ds := [.tup B, .int 99, .lst (zs.map .str), .int rows.length]) (by simp) tB) (toldL_ne _ _ _ _))) rfl)))), _, _, _, _, rfl⟩
      · refine e_op (x := .int q) (y := .int rows.length) (b1 := false) (b2 := false) (e_op (x := .int (ns.getD 3 0)) (y := .int (7 + i)) (b1 := false) (b2 := false) (cel 3 _ _ rfl rfl) (by simp) ?_) (by simp) ?_
        · rw [← hq]; simp; omega
        · rw [← hn]; simp [hpos]
      · refine call_ok (ds := [.int 100, .tup (.str kind :: rest)]) ?_ (by simp [row, sizeLine])
        simp [ha, row, at1])
  refine ⟨false, body_rt rfl (r_own (ds := zs.map .str) ?_ (noLsts_strs zs) (r_flat (d := .tup rows) (b := false) ?_ (by simp [hflat]) (r_flat (d := .int kn) (b := false) ?_ rfl (r_own (ds := due) ?_ hdue (r_own (ds := []) (by simp [sizeLine]) rfl (r_seq (forR_run (iRange_ok (j := rows.length) (b := false) (by simp) (by omega)) e1) (r_seq (forR_run (iRange_ok (j := mo) (b := false) ?_ (by omega)) e2) (r_if_f (tor_ok (p := false) (q := false) ?_ fun _ => ?_) (r_seq (forR_run (iRange_ok (j := min rows.length 3) (b := false) ?_ (by omega)) e3) (ret_ok rfl))))))))))⟩
  · refine call_ok (ds := [.int (ns.getD 1 0), .int many]) (a_cons (cel 1 _ _ rfl rfl) (a_cons (d := .int many) (b := false) (e_op (x := .int 2) (y := .int (ns.getD 0 0 % 4)) (b1 := false) (b2 := false) rfl (e_op (x := .int (ns.getD 0 0)) (y := .int 4) (b1 := false) (b2 := false) (cel 0 _ _ rfl rfl) rfl (by simp)) (by simp only [dAdd, hmany])) rfl)) hz
  · exact call_ok (ds := [.lst (ns.map .int), .lst (zs.map .str)]) (by simp) hrows
  · exact e_op (x := .int (ns.getD 2 0)) (y := .int 16) (b1 := false) (b2 := false) (cel 2 _ _ rfl rfl) rfl (by rw [← hkn]; simp)
  · exact call_ok (ds := [.tup rows, .int kn, .lst (zs.map .str), .int rows.length]) (by simp) (told_run rows hR (by omega) kn zs hzz.2 rows.length (Nat.le_refl _))
  · exact e_op (x := .int (ns.getD 3 0)) (y := .int 7) (b1 := false) (b2 := false) (cel 3 _ _ rfl rfl) rfl (by rw [← hmo]; simp)
  · exact tOf_ok (b := false) (e_op (x := .lst due) (y := .lst due) (b1 := true) (b2 := false) (call_ok (ds := [.tup (os ++ us), .int kn, .lst (zs.map .str), .int rows.length]) (by simp) htold) rfl (toldL_ne _ _ _ _))
  · exact tnot_ok (p := true) (tOf_ok (b := false) (call_ok (ds := [.tup rows, .int kn, .lst (zs.map .str)]) (by simp) (dead_run rows hR (by omega) kn zs)))
  · refine call_ok (ds := [.int rows.length, .int 3]) (by simp) ?_
    simp only [minD]
    congr 2
    congr 1
    split <;> omega
end Lw

namespace Lw
open PySem PySem.Spec PyProof.Rows L2 DL

def top (i : Nat) : Stmt := PySem.Challenge.pw_sealchain_k16_whole_seals_by_what_is_kno.main.body.getD i (.Pass ⟨0, 0, 0, 0⟩)
structure Tx (K : PySem.W.Frag) (P : Params) (mg : Str → Option Value) : Prop where
  n_enumerate : mg ("enumerate" : PySem.Str) = none
  n_len : mg ("len" : PySem.Str) = none
  n_max : mg ("max" : PySem.Str) = none
  n_min : mg ("min" : PySem.Str) = none
  n_range : mg ("range" : PySem.Str) = none
  n_tuple : mg ("tuple" : PySem.Str) = none
  k_PARTS : ∃ d, mg ("PARTS" : PySem.Str) = some (.ref d) ∧ CDict K P d c_PARTS
  k_SEALINGS : ∃ u v, mg ("SEALINGS" : PySem.Str) = some u ∧ RelV v u ∧ ∀ B, Is K B v c_SEALINGS
abbrev s_w_cell_at : Stmt := top 17
theorem sc_w_cell_at : FnScope [("_law_script" : PySem.Str), ("_law_k" : PySem.Str)] [("_law_script" : PySem.Str), ("_law_k" : PySem.Str)] (defScope s_w_cell_at) := ⟨rfl, rfl, rfl, by decide +kernel, rfl, by decide +kernel, by decide +kernel⟩
theorem fn_w_cell_at {P : Program} {w : World} {K : PySem.W.Frag} {mg : Str → Option Value} {base h : Heap} (T : Tx K w.params mg) (F : Def K ("_law_cell_at" : PySem.Str) s_w_cell_at) (KX : K.In h) (G : h.Ns mainGlobals mg)  : Fn P w K mg base 1 ("_law_cell_at" : PySem.Str) F_w_cell_at :=
  F.fn (k := 0) KX G sc_w_cell_at (fun _ _ _ _ _ _ us hl => match us, hl with | [_, _], _ => rfl) fun f cdv A outer s H E hr =>
    have hu := hu40 hr
    have nd := sc_w_cell_at.nd
    (show JSs _ _ g_w_cell_at from
      (js_cons (js_if (jt_cmp o_dlt (je_var 1) (je_callB c_len T.n_len b_len (ja_cons (je_var 0) ja_nil))) (js_one (js_ret (je_ix (je_var 0) (je_var 1)))) js_nil)
      (js_one (js_ret je_int))))
abbrev s_w_names : Stmt := top 19
theorem sc_w_names : FnScope [("_law_cell" : PySem.Str), ("_law_many" : PySem.Str), ("_law_size" : PySem.Str), ("_law_base" : PySem.Str), ("_law_at" : PySem.Str), ("_law_names_here" : PySem.Str), ("_law_k" : PySem.Str), ("_law_letter" : PySem.Str)] [("_law_cell" : PySem.Str), ("_law_many" : PySem.Str)] (defScope s_w_names) := ⟨rfl, rfl, rfl, by decide +kernel, rfl, by decide +kernel, by decide +kernel⟩
theorem fn_w_names {P : Program} {w : World} {K : PySem.W.Frag} {mg : Str → Option Value} {base h : Heap} (T : Tx K w.params mg) (F : Def K ("_law_names" : PySem.Str) s_w_names) (KX : K.In h) (G : h.Ns mainGlobals mg)  : Fn P w K mg base 1 ("_law_names" : PySem.Str) F_w_names :=
  F.fn (k := 0) KX G sc_w_names (fun _ _ _ _ _ _ us hl => match us, hl with | [_, _], _ => rfl) fun f cdv A outer s H E hr =>
    have hu := hu40 hr
    have nd := sc_w_names.nd
    (show JSs _ _ g_w_names from
      (js_cons (js_set (i := 2) nd (je_op o_dadd je_int (je_op o_mod (je_var 0) je_int)))
      (js_cons (js_set (i := 3) nd (je_slice je_str jo_none (jo_some (je_var 2))))
      (js_cons (js_set (i := 4) nd (je_op o_mod (je_op o_fdiv (je_var 0) je_int) (je_var 2)))
      (js_cons (js_set (i := 5) nd (je_lst ja_nil))
      (js_cons (js_forR PassesOwn.never rfl (jr_range T.n_range (je_var 1)) (pg_name (i := 6) nd rfl (Or.inl rfl)) tDG_name (js_cons (js_set (i := 7) nd (je_ix je_str (je_op o_mod (je_op o_dadd (je_op o_fdiv (je_var 0) je_int) (je_op o_dmul je_int (je_var 6))) je_int)))
      (js_one (js_app (i := 5) (je_op o_dadd (je_op o_dadd (je_slice (je_var 3) jo_none (jo_some (je_var 4))) (je_var 7)) (je_slice (je_var 3) (jo_some (je_op o_dadd (je_var 4) je_int)) jo_none))))))
      (js_one (js_retV 5))))))))
abbrev s_w_cells : Stmt := top 18
theorem sc_w_cells : FnScope [("_law_script" : PySem.Str), ("_law_first" : PySem.Str), ("_law_most" : PySem.Str), ("_law_cells_here" : PySem.Str), ("_law_number" : PySem.Str)] [("_law_script" : PySem.Str), ("_law_first" : PySem.Str), ("_law_most" : PySem.Str)] (defScope s_w_cells) := ⟨rfl, rfl, rfl, by decide +kernel, rfl, by decide +kernel, by decide +kernel⟩
theorem fn_w_cells {P : Program} {w : World} {K : PySem.W.Frag} {mg : Str → Option Value} {base h : Heap} (T : Tx K w.params mg) (F : Def K ("_law_cells" : PySem.Str) s_w_cells) (KX : K.In h) (G : h.Ns mainGlobals mg) (f_w_cell_at : Fn P w K mg base 1 ("_law_cell_at" : PySem.Str) F_w_cell_at) : Fn P w K mg base 2 ("_law_cells" : PySem.Str) F_w_cells :=
  F.fn (k := 1) KX G sc_w_cells (fun _ _ _ _ _ _ us hl => match us, hl with | [_, _, _], _ => rfl) fun f cdv A outer s H E hr =>
    have hu := hu40 hr
    have nd := sc_w_cells.nd
    (show JSs _ _ g_w_cells from
      (js_cons (js_set (i := 3) nd (je_slice (je_var 0) (jo_some (je_var 1)) (jo_some (je_op o_dadd (je_var 1) (je_var 2)))))
      (js_cons (js_set (i := 4) nd (je_op o_mod (je_call f_w_cell_at (hr.mono (by decide)) (ja_cons (je_var 0) (ja_cons je_int ja_nil))) je_int))
      (js_cons (js_while 1000 PassesOwn.never (jt_w (jw_and (jt_cmp (o_eq hu) (je_op o_mod (je_op o_fdiv (je_call f_w_cell_at (hr.mono (by decide)) (ja_cons (je_var 0) (ja_cons je_int ja_nil))) je_int) je_int) je_int) (jw_and1 (jt_cmp o_dlt (je_callB c_len T.n_len b_len (ja_cons (je_var 3) ja_nil)) (je_var 2))))) (js_cons (js_set (i := 4) nd (je_op o_mod (je_op o_dadd (je_op o_dadd (je_op o_dmul (je_var 4) je_int) (je_callB c_len T.n_len b_len (ja_cons (je_var 3) ja_nil))) je_int) je_int))
      (js_one (js_app (i := 3) (je_var 4)))))
      (js_one (js_retV 3))))))
abbrev s_w_deed : Stmt := top 20
theorem sc_w_deed : FnScope [("_law_cell" : PySem.Str), ("_law_day" : PySem.Str), ("_law_one" : PySem.Str), ("_law_other" : PySem.Str), ("_law_far" : PySem.Str), ("_law_some" : PySem.Str)] [("_law_cell" : PySem.Str), ("_law_day" : PySem.Str), ("_law_one" : PySem.Str), ("_law_other" : PySem.Str)] (defScope s_w_deed) := ⟨rfl, rfl, rfl, by decide +kernel, rfl, by decide +kernel, by decide +kernel⟩
theorem fn_w_deed {P : Program} {w : World} {K : PySem.W.Frag} {mg : Str → Option Value} {base h : Heap} (T : Tx K w.params mg) (F : Def K ("_law_deed" : PySem.Str) s_w_deed) (KX : K.In h) (G : h.Ns mainGlobals mg)  : Fn P w K mg base 1 ("_law_deed" : PySem.Str) F_w_deed :=
  F.fn (k := 0) KX G sc_w_deed (fun _ _ _ _ _ _ us hl => match us, hl with | [_, _, _, _], _ => rfl) fun f cdv A outer s H E hr =>
    have hu := hu40 hr
    have nd := sc_w_deed.nd
    (show JSs _ _ g_w_deed from
      (js_cons (js_set (i := 4) nd (je_op o_mod (je_op o_fdiv (je_var 0) je_int) je_int))
      (js_cons (js_set (i := 5) nd (je_lst (ja_cons (je_tup (ja_cons je_str (ja_cons (je_var 1) (ja_cons (je_var 2) ja_nil)))) (ja_cons (je_tup (ja_cons je_str (ja_cons (je_var 1) (ja_cons (je_var 2) ja_nil)))) (ja_cons (je_tup (ja_cons je_str (ja_cons (je_var 1) (ja_cons (je_var 2) ja_nil)))) (ja_cons (je_tup (ja_cons je_str (ja_cons (je_var 1) (ja_cons (je_var 3) ja_nil)))) ja_nil))))))
      (js_cons (js_set (i := 5) nd (je_op o_dadd (je_var 5) (je_lst (ja_cons (je_tup (ja_cons je_str (ja_cons (je_var 1) (ja_cons (je_var 2) (ja_cons (je_op o_dadd je_int (je_var 4)) (ja_cons (je_tup (ja_cons (je_var 1) (ja_cons je_non ja_nil))) (ja_cons (je_var 3) (ja_cons (je_tup (ja_cons je_str (ja_cons (je_var 2) ja_nil))) ja_nil)))))))) (ja_cons (je_tup (ja_cons je_str (ja_cons (je_var 1) (ja_cons (je_var 3) (ja_cons (je_var 4) ja_nil))))) ja_nil)))))
      (js_cons (js_set (i := 5) nd (je_op o_dadd (je_var 5) (je_lst (ja_cons (je_tup (ja_cons je_str (ja_cons (je_var 1) (ja_cons (je_var 2) (ja_cons (je_var 3) (ja_cons je_int (ja_cons (je_tup (ja_cons (je_var 1) (ja_cons (je_op o_dadd (je_var 1) je_int) ja_nil))) (ja_cons (je_op o_mod (je_var 4) je_int) ja_nil)))))))) (ja_cons (je_tup (ja_cons je_str (ja_cons (je_var 1) (ja_cons (je_var 2) (ja_cons (je_var 4) ja_nil))))) ja_nil)))))
      (js_one (js_ret (je_ix (je_var 5) (je_op o_mod (je_var 0) je_int)))))))))
abbrev s_w_rows : Stmt := top 21
theorem sc_w_rows : FnScope [("_law_script" : PySem.Str), ("_law_names_here" : PySem.Str), ("_law_rows_here" : PySem.Str), ("_law_cell" : PySem.Str), ("_law_day" : PySem.Str), ("_law_one" : PySem.Str), ("_law_other" : PySem.Str)] [("_law_script" : PySem.Str), ("_law_names_here" : PySem.Str)] (defScope s_w_rows) := ⟨rfl, rfl, rfl, by decide +kernel, rfl, by decide +kernel, by decide +kernel⟩
theorem fn_w_rows {P : Program} {w : World} {K : PySem.W.Frag} {mg : Str → Option Value} {base h : Heap} (T : Tx K w.params mg) (F : Def K ("_law_rows" : PySem.Str) s_w_rows) (KX : K.In h) (G : h.Ns mainGlobals mg) (f_w_cells : Fn P w K mg base 2 ("_law_cells" : PySem.Str) F_w_cells) (f_w_deed : Fn P w K mg base 1 ("_law_deed" : PySem.Str) F_w_deed) : Fn P w K mg base 3 ("_law_rows" : PySem.Str) F_w_rows :=
  F.fn (k := 2) KX G sc_w_rows (fun _ _ _ _ _ _ us hl => match us, hl with | [_, _], _ => rfl) fun f cdv A outer s H E hr =>
    have hu := hu40 hr
    have nd := sc_w_rows.nd
    (show JSs _ _ g_w_rows from
      (js_cons (js_set (i := 2) nd (je_lst ja_nil))
      (js_cons (js_for PassesOwn.never rfl (ji_seq (je_call f_w_cells (hr.mono (by decide)) (ja_cons (je_var 0) (ja_cons je_int (ja_cons je_int ja_nil))))) (pg_name (i := 3) nd rfl (Or.inl rfl)) tDG_name (js_cons (js_set (i := 4) nd (je_op o_mod (je_op o_fdiv (je_var 3) je_int) je_int))
      (js_cons (js_set (i := 5) nd (je_ix (je_var 1) (je_op o_mod (je_op o_fdiv (je_var 3) je_int) (je_callB c_len T.n_len b_len (ja_cons (je_var 1) ja_nil)))))
      (js_cons (js_set (i := 6) nd (je_ix (je_var 1) (je_op o_mod (je_op o_fdiv (je_var 3) je_int) (je_callB c_len T.n_len b_len (ja_cons (je_var 1) ja_nil)))))
      (js_one (js_app (i := 2) (je_tup (ja_cons (je_op o_dadd (je_var 4) (je_ix (je_lst (ja_cons je_int (ja_cons je_int (ja_cons je_int (ja_cons je_int ja_nil))))) (je_op o_mod (je_op o_fdiv (je_var 3) je_int) je_int))) (ja_cons (je_call f_w_deed (hr.mono (by decide)) (ja_cons (je_var 3) (ja_cons (je_var 4) (ja_cons (je_var 5) (ja_cons (je_var 6) ja_nil))))) ja_nil)))))))))
      (js_one (js_ret (je_callTy c_tuple T.n_tuple b_tuple (ja_cons (je_var 2) ja_nil)))))))
abbrev s_w_unknown : Stmt := top 22
theorem sc_w_unknown : FnScope [("_law_script" : PySem.Str), ("_law_k" : PySem.Str), ("_law_names_here" : PySem.Str), ("_law_known" : PySem.Str), ("_law_cell" : PySem.Str), ("_law_day" : PySem.Str), ("_law_one" : PySem.Str)] [("_law_script" : PySem.Str), ("_law_k" : PySem.Str), ("_law_names_here" : PySem.Str), ("_law_known" : PySem.Str)] (defScope s_w_unknown) := ⟨rfl, rfl, rfl, by decide +kernel, rfl, by decide +kernel, by decide +kernel⟩
theorem fn_w_unknown {P : Program} {w : World} {K : PySem.W.Frag} {mg : Str → Option Value} {base h : Heap} (T : Tx K w.params mg) (F : Def K ("_law_unknown" : PySem.Str) s_w_unknown) (KX : K.In h) (G : h.Ns mainGlobals mg) (f_w_cell_at : Fn P w K mg base 1 ("_law_cell_at" : PySem.Str) F_w_cell_at) (f_w_deed : Fn P w K mg base 1 ("_law_deed" : PySem.Str) F_w_deed) : Fn P w K mg base 2 ("_law_unknown" : PySem.Str) F_w_unknown :=
  F.fn (k := 1) KX G sc_w_unknown (fun _ _ _ _ _ _ us hl => match us, hl with | [_, _, _, _], _ => rfl) fun f cdv A outer s H E hr =>
    have hu := hu40 hr
    have nd := sc_w_unknown.nd
    (show JSs _ _ g_w_unknown from
      (js_cons (js_set (i := 4) nd (je_op o_dadd (je_call f_w_cell_at (hr.mono (by decide)) (ja_cons (je_var 0) (ja_cons (je_op o_dadd je_int (je_op o_mod (je_var 1) je_int)) ja_nil))) (je_op o_dmul je_int (je_var 1))))
      (js_cons (js_set (i := 5) nd (je_op o_mod (je_op o_fdiv (je_var 4) je_int) je_int))
      (js_cons (js_set (i := 6) nd (je_ix (je_var 2) (je_op o_mod (je_op o_fdiv (je_var 4) je_int) (je_callB c_len T.n_len b_len (ja_cons (je_var 2) ja_nil)))))
      (js_one (js_ret (je_tup (ja_cons (je_op o_dadd (je_op o_dadd (je_op o_dadd (je_var 3) je_int) (je_op o_mod (je_op o_fdiv (je_var 4) je_int) je_int)) (je_var 5)) (ja_cons (je_call f_w_deed (hr.mono (by decide)) (ja_cons (je_op o_fdiv (je_var 4) je_int) (ja_cons (je_var 5) (ja_cons (je_var 6) (ja_cons (je_ix (je_var 2) (je_op o_mod (je_op o_fdiv (je_var 4) je_int) (je_callB c_len T.n_len b_len (ja_cons (je_var 2) ja_nil)))) ja_nil))))) ja_nil)))))))))
abbrev s_heard : Stmt := top 6
theorem sc_heard : FnScope [("book" : PySem.Str), ("known" : PySem.Str)] [("book" : PySem.Str), ("known" : PySem.Str)] (defScope s_heard) := ⟨rfl, rfl, rfl, by decide +kernel, rfl, by decide +kernel, by decide +kernel⟩
theorem fn_heard {P : Program} {w : World} {K : PySem.W.Frag} {mg : Str → Option Value} {base h : Heap} (T : Tx K w.params mg) (F : Def K ("heard" : PySem.Str) s_heard) (KX : K.In h) (G : h.Ns mainGlobals mg)  : Fn P w K mg base 1 ("heard" : PySem.Str) F_heard :=
  F.fn (k := 0) KX G sc_heard (fun _ _ _ _ _ _ us hl => match us, hl with | [_, _], _ => rfl) fun f cdv A outer s H E hr =>
    have hu := hu40 hr
    have nd := sc_heard.nd
    (show JSs _ _ g_heard from
      (js_one (js_ret (je_comp rfl (nT := 2) (cap := [1]) (N' := [("number" : PySem.Str), ("row" : PySem.Str), ("known" : PySem.Str)]) (compSc (by decide +kernel) rfl (by decide +kernel) rfl) (.cons rfl rfl (Or.inl rfl) (Or.inl rfl) (cl_look (by decide +kernel) rfl) (.nil rfl)) (ji_enum T.n_enumerate (je_var 0)) (fun _ _ _ _ => (pg_tup rfl (pgs_cons (pg_name (i := 0) (show List.Nodup [("number" : PySem.Str), ("row" : PySem.Str), ("known" : PySem.Str)] by decide +kernel) rfl (Or.inl rfl)) (pgs_cons (pg_name (i := 1) (show List.Nodup [("number" : PySem.Str), ("row" : PySem.Str), ("known" : PySem.Str)] by decide +kernel) rfl (Or.inl rfl)) pgs_nil)))) (tge_T (by decide)) (fun _ _ _ _ => (jc_one (jt_cmp o_dle (je_ix (je_var 1) je_int) (je_var 2)))) (fun _ _ _ _ => (je_var 0))))))
abbrev s_word_of : Stmt := top 2
theorem sc_word_of : FnScope [("row" : PySem.Str)] [("row" : PySem.Str)] (defScope s_word_of) := ⟨rfl, rfl, rfl, by decide +kernel, rfl, by decide +kernel, by decide +kernel⟩
theorem fn_word_of {P : Program} {w : World} {K : PySem.W.Frag} {mg : Str → Option Value} {base h : Heap} (T : Tx K w.params mg) (F : Def K ("word_of" : PySem.Str) s_word_of) (KX : K.In h) (G : h.Ns mainGlobals mg)  : Fn P w K mg base 1 ("word_of" : PySem.Str) F_word_of :=
  F.fn (k := 0) KX G sc_word_of (fun _ _ _ _ _ _ us hl => match us, hl with | [_], _ => rfl) fun f cdv A outer s H E hr =>
    have hu := hu40 hr
    have nd := sc_word_of.nd
    (show JSs _ _ g_word_of from
      (js_one (js_ret (je_ix (je_ix (je_var 0) je_int) je_int))))
abbrev s_part_of : Stmt := top 3
theorem sc_part_of : FnScope [("row" : PySem.Str), ("part" : PySem.Str)] [("row" : PySem.Str), ("part" : PySem.Str)] (defScope s_part_of) := ⟨rfl, rfl, rfl, by decide +kernel, rfl, by decide +kernel, by decide +kernel⟩
theorem fn_part_of {P : Program} {w : World} {K : PySem.W.Frag} {mg : Str → Option Value} {base h : Heap} (T : Tx K w.params mg) (F : Def K ("part_of" : PySem.Str) s_part_of) (KX : K.In h) (G : h.Ns mainGlobals mg) (f_word_of : Fn P w K mg base 1 ("word_of" : PySem.Str) F_word_of) : Fn P w K mg base 2 ("part_of" : PySem.Str) F_part_of :=
  F.fn (k := 1) KX G sc_part_of (fun _ _ _ _ _ _ us hl => match us, hl with | [_, _], _ => rfl) fun f cdv A outer s H E hr =>
    have hu := hu40 hr
    have nd := sc_part_of.nd
    (show JSs _ _ g_part_of from
      (js_one (js_ret (je_ix (je_ix (je_var 0) je_int) (je_op o_dadd je_int (je_cidx T.k_PARTS (je_call f_word_of (hr.mono (by decide)) (ja_cons (je_var 0) ja_nil)) (je_var 1)))))))
abbrev s_day_of : Stmt := top 4
theorem sc_day_of : FnScope [("row" : PySem.Str)] [("row" : PySem.Str)] (defScope s_day_of) := ⟨rfl, rfl, rfl, by decide +kernel, rfl, by decide +kernel, by decide +kernel⟩
theorem fn_day_of {P : Program} {w : World} {K : PySem.W.Frag} {mg : Str → Option Value} {base h : Heap} (T : Tx K w.params mg) (F : Def K ("day_of" : PySem.Str) s_day_of) (KX : K.In h) (G : h.Ns mainGlobals mg) (f_word_of : Fn P w K mg base 1 ("word_of" : PySem.Str) F_word_of) (f_part_of : Fn P w K mg base 2 ("part_of" : PySem.Str) F_part_of) : Fn P w K mg base 3 ("day_of" : PySem.Str) F_day_of :=
  F.fn (k := 2) KX G sc_day_of (fun _ _ _ _ _ _ us hl => match us, hl with | [_], _ => rfl) fun f cdv A outer s H E hr =>
    have hu := hu40 hr
    have nd := sc_day_of.nd
    (show JSs _ _ g_day_of from
      (js_cons (js_if (jt_cmp (o_eq hu) (je_call f_word_of (hr.mono (by decide)) (ja_cons (je_var 0) ja_nil)) je_str) (js_one (js_ret je_non)) js_nil)
      (js_one (js_ret (je_call f_part_of (hr.mono (by decide)) (ja_cons (je_var 0) (ja_cons je_str ja_nil)))))))
abbrev s_tells : Stmt := top 11
theorem sc_tells : FnScope [("row" : PySem.Str), ("words" : PySem.Str), ("person" : PySem.Str), ("day" : PySem.Str)] [("row" : PySem.Str), ("words" : PySem.Str), ("person" : PySem.Str), ("day" : PySem.Str)] (defScope s_tells) := ⟨rfl, rfl, rfl, by decide +kernel, rfl, by decide +kernel, by decide +kernel⟩
theorem fn_tells {P : Program} {w : World} {K : PySem.W.Frag} {mg : Str → Option Value} {base h : Heap} (T : Tx K w.params mg) (F : Def K ("tells" : PySem.Str) s_tells) (KX : K.In h) (G : h.Ns mainGlobals mg) (f_word_of : Fn P w K mg base 1 ("word_of" : PySem.Str) F_word_of) (f_part_of : Fn P w K mg base 2 ("part_of" : PySem.Str) F_part_of) (f_day_of : Fn P w K mg base 3 ("day_of" : PySem.Str) F_day_of) : Fn P w K mg base 4 ("tells" : PySem.Str) F_tells :=
  F.fn (k := 3) KX G sc_tells (fun _ _ _ _ _ _ us hl => match us, hl with | [_, _, _, _], _ => rfl) fun f cdv A outer s H E hr =>
    have hu := hu40 hr
    have nd := sc_tells.nd
    (show JSs _ _ g_tells from
      (js_one (js_ret (je_and (je_cmp o_din (je_call f_word_of (hr.mono (by decide)) (ja_cons (je_var 0) ja_nil)) (je_var 1)) (je_and (je_cmp (o_eq hu) (je_call f_part_of (hr.mono (by decide)) (ja_cons (je_var 0) (ja_cons je_str ja_nil))) (je_var 2)) (je_one (je_cmp o_dle (je_call f_day_of (hr.mono (by decide)) (ja_cons (je_var 0) ja_nil)) (je_var 3))))))))
abbrev s_told_of : Stmt := top 12
theorem sc_told_of : FnScope [("book" : PySem.Str), ("known" : PySem.Str), ("words" : PySem.Str), ("person" : PySem.Str), ("day" : PySem.Str)] [("book" : PySem.Str), ("known" : PySem.Str), ("words" : PySem.Str), ("person" : PySem.Str), ("day" : PySem.Str)] (defScope s_told_of) := ⟨rfl, rfl, rfl, by decide +kernel, rfl, by decide +kernel, by decide +kernel⟩
theorem fn_told_of {P : Program} {w : World} {K : PySem.W.Frag} {mg : Str → Option Value} {base h : Heap} (T : Tx K w.params mg) (F : Def K ("told_of" : PySem.Str) s_told_of) (KX : K.In h) (G : h.Ns mainGlobals mg) (f_heard : Fn P w K mg base 1 ("heard" : PySem.Str) F_heard) (f_tells : Fn P w K mg base 4 ("tells" : PySem.Str) F_tells) : Fn P w K mg base 5 ("told_of" : PySem.Str) F_told_of :=
  F.fn (k := 4) KX G sc_told_of (fun _ _ _ _ _ _ us hl => match us, hl with | [_, _, _, _, _], _ => rfl) fun f cdv A outer s H E hr =>
    have hu := hu40 hr
    have nd := sc_told_of.nd
    (show JSs _ _ g_told_of from
      (js_one (js_ret (je_comp rfl (nT := 1) (cap := [2, 3, 4, 0]) (N' := [("number" : PySem.Str), ("words" : PySem.Str), ("person" : PySem.Str), ("day" : PySem.Str), ("book" : PySem.Str)]) (compSc (by decide +kernel) rfl (by decide +kernel) rfl) (.cons rfl rfl (Or.inl rfl) (Or.inl rfl) (cl_look (by decide +kernel) rfl) (.cons rfl rfl (Or.inl rfl) (Or.inl rfl) (cl_look (by decide +kernel) rfl) (.cons rfl rfl (Or.inl rfl) (Or.inl rfl) (cl_look (by decide +kernel) rfl) (.cons rfl rfl (Or.inl rfl) (Or.inl rfl) (cl_look (by decide +kernel) rfl) (.nil rfl))))) (ji_seq (je_call f_heard (hr.mono (by decide)) (ja_cons (je_var 0) (ja_cons (je_var 1) ja_nil)))) (fun _ _ _ _ => (pg_name (i := 0) (show List.Nodup [("number" : PySem.Str), ("words" : PySem.Str), ("person" : PySem.Str), ("day" : PySem.Str), ("book" : PySem.Str)] by decide +kernel) rfl (Or.inl rfl))) (tge_name (by decide)) (fun _ _ _ _ => (jc_one (jt_val (je_call f_tells (hr.mono (by decide)) (ja_cons (je_ix (je_var 4) (je_var 0)) (ja_cons (je_var 1) (ja_cons (je_var 2) (ja_cons (je_var 3) ja_nil)))))))) (fun _ _ _ _ => (je_var 0))))))
abbrev s_lives : Stmt := top 13
theorem sc_lives : FnScope [("book" : PySem.Str), ("known" : PySem.Str), ("person" : PySem.Str), ("day" : PySem.Str)] [("book" : PySem.Str), ("known" : PySem.Str), ("person" : PySem.Str), ("day" : PySem.Str)] (defScope s_lives) := ⟨rfl, rfl, rfl, by decide +kernel, rfl, by decide +kernel, by decide +kernel⟩
theorem fn_lives {P : Program} {w : World} {K : PySem.W.Frag} {mg : Str → Option Value} {base h : Heap} (T : Tx K w.params mg) (F : Def K ("lives" : PySem.Str) s_lives) (KX : K.In h) (G : h.Ns mainGlobals mg) (f_told_of : Fn P w K mg base 5 ("told_of" : PySem.Str) F_told_of) : Fn P w K mg base 6 ("lives" : PySem.Str) F_lives :=
  F.fn (k := 5) KX G sc_lives (fun _ _ _ _ _ _ us hl => match us, hl with | [_, _, _, _], _ => rfl) fun f cdv A outer s H E hr =>
    have hu := hu40 hr
    have nd := sc_lives.nd
    (show JSs _ _ g_lives from
      (js_one (js_ret (je_cmp (o_eq hu) (je_callB c_len T.n_len b_len (ja_cons (je_call f_told_of (hr.mono (by decide)) (ja_cons (je_var 0) (ja_cons (je_var 1) (ja_cons (je_tup (ja_cons je_str ja_nil)) (ja_cons (je_var 2) (ja_cons (je_var 3) ja_nil)))))) ja_nil)) je_int))))
abbrev s_rank : Stmt := top 8
theorem sc_rank : FnScope [("book" : PySem.Str), ("number" : PySem.Str)] [("book" : PySem.Str), ("number" : PySem.Str)] (defScope s_rank) := ⟨rfl, rfl, rfl, by decide +kernel, rfl, by decide +kernel, by decide +kernel⟩
theorem fn_rank {P : Program} {w : World} {K : PySem.W.Frag} {mg : Str → Option Value} {base h : Heap} (T : Tx K w.params mg) (F : Def K ("rank" : PySem.Str) s_rank) (KX : K.In h) (G : h.Ns mainGlobals mg) (f_day_of : Fn P w K mg base 3 ("day_of" : PySem.Str) F_day_of) : Fn P w K mg base 4 ("rank" : PySem.Str) F_rank :=
  F.fn (k := 3) KX G sc_rank (fun _ _ _ _ _ _ us hl => match us, hl with | [_, _], _ => rfl) fun f cdv A outer s H E hr =>
    have hu := hu40 hr
    have nd := sc_rank.nd
    (show JSs _ _ g_rank from
      (js_one (js_ret (je_tup (ja_cons (je_call f_day_of (hr.mono (by decide)) (ja_cons (je_ix (je_var 0) (je_var 1)) ja_nil)) (ja_cons (je_var 1) ja_nil))))))
abbrev s_has_seal : Stmt := top 14
theorem sc_has_seal : FnScope [("book" : PySem.Str), ("known" : PySem.Str), ("person" : PySem.Str), ("day" : PySem.Str), ("told" : PySem.Str)] [("book" : PySem.Str), ("known" : PySem.Str), ("person" : PySem.Str), ("day" : PySem.Str)] (defScope s_has_seal) := ⟨rfl, rfl, rfl, by decide +kernel, rfl, by decide +kernel, by decide +kernel⟩
theorem fn_has_seal {P : Program} {w : World} {K : PySem.W.Frag} {mg : Str → Option Value} {base h : Heap} (T : Tx K w.params mg) (F : Def K ("has_seal" : PySem.Str) s_has_seal) (KX : K.In h) (G : h.Ns mainGlobals mg) (f_word_of : Fn P w K mg base 1 ("word_of" : PySem.Str) F_word_of) (f_rank : Fn P w K mg base 4 ("rank" : PySem.Str) F_rank) (f_told_of : Fn P w K mg base 5 ("told_of" : PySem.Str) F_told_of) (l_has_seal : LamK K ("has_seal" : PySem.Str)) : Fn P w K mg base 8 ("has_seal" : PySem.Str) F_has_seal :=
  F.fnL (k := 7) KX G sc_has_seal (fun _ _ _ _ _ _ us hl => match us, hl with | [_, _, _, _], _ => rfl) fun f cdv A outer s H E hcd hr =>
    have hu := hu40 hr
    have nd := sc_has_seal.nd
    (show JSs _ _ g_has_seal from
      (js_cons (js_set (i := 4) nd (je_call f_told_of (hr.mono (by decide)) (ja_cons (je_var 0) (ja_cons (je_var 1) (ja_cons (je_tup (ja_cons je_str (ja_cons je_str ja_nil))) (ja_cons (je_var 2) (ja_cons (je_var 3) ja_nil)))))))
      (js_cons (js_if (jt_cmp (o_eq hu) (je_callB c_len T.n_len b_len (ja_cons (je_var 4) ja_nil)) je_int) (js_one (js_ret je_bl)) js_nil)
      (js_one (js_ret (je_cmp (o_eq hu) (je_call f_word_of (hr.mono (by decide)) (ja_cons (je_ix (je_var 0) (je_maxK T.n_max (je_var 4) (jk_lam (cap := [0]) (N' := [("number" : PySem.Str), ("book" : PySem.Str)]) (by decide +kernel) l_has_seal hcd rfl rfl (lamSc (by decide +kernel) rfl rfl rfl rfl rfl) rfl (.cons rfl rfl (Or.inl rfl) rfl (cl_look (by decide +kernel) rfl) (.nil rfl)) rfl hr.in1 (fun _ _ _ _ => rfl) fun _ _ _ _ hr => have hu := hu40 hr; (je_call f_rank (hr.mono (by decide)) (ja_cons (je_var 1) (ja_cons (je_var 0) ja_nil)))) hr)) ja_nil)) je_str))))))
abbrev s_is_known : Stmt := top 7
theorem sc_is_known : FnScope [("book" : PySem.Str), ("known" : PySem.Str), ("number" : PySem.Str)] [("book" : PySem.Str), ("known" : PySem.Str), ("number" : PySem.Str)] (defScope s_is_known) := ⟨rfl, rfl, rfl, by decide +kernel, rfl, by decide +kernel, by decide +kernel⟩
theorem fn_is_known {P : Program} {w : World} {K : PySem.W.Frag} {mg : Str → Option Value} {base h : Heap} (T : Tx K w.params mg) (F : Def K ("is_known" : PySem.Str) s_is_known) (KX : K.In h) (G : h.Ns mainGlobals mg)  : Fn P w K mg base 1 ("is_known" : PySem.Str) F_is_known :=
  F.fn (k := 0) KX G sc_is_known (fun _ _ _ _ _ _ us hl => match us, hl with | [_, _, _], _ => rfl) fun f cdv A outer s H E hr =>
    have hu := hu40 hr
    have nd := sc_is_known.nd
    (show JSs _ _ g_is_known from
      (js_one (js_ret (je_and (je_chain o_dle o_dlt je_int (je_var 2) (je_callB c_len T.n_len b_len (ja_cons (je_var 0) ja_nil))) (je_one (je_cmp o_dle (je_ix (je_ix (je_var 0) (je_var 2)) je_int) (je_var 1)))))))
abbrev s_is_sound : Stmt := top 15
theorem sc_is_sound : FnScope [("book" : PySem.Str), ("known" : PySem.Str), ("number" : PySem.Str), ("sealer" : PySem.Str), ("day" : PySem.Str)] [("book" : PySem.Str), ("known" : PySem.Str), ("number" : PySem.Str)] (defScope s_is_sound) := ⟨rfl, rfl, rfl, by decide +kernel, rfl, by decide +kernel, by decide +kernel⟩
theorem fn_is_sound {P : Program} {w : World} {K : PySem.W.Frag} {mg : Str → Option Value} {base h : Heap} (T : Tx K w.params mg) (F : Def K ("is_sound" : PySem.Str) s_is_sound) (KX : K.In h) (G : h.Ns mainGlobals mg) (f_word_of : Fn P w K mg base 1 ("word_of" : PySem.Str) F_word_of) (f_part_of : Fn P w K mg base 2 ("part_of" : PySem.Str) F_part_of) (f_day_of : Fn P w K mg base 3 ("day_of" : PySem.Str) F_day_of) (f_is_known : Fn P w K mg base 1 ("is_known" : PySem.Str) F_is_known) (f_lives : Fn P w K mg base 6 ("lives" : PySem.Str) F_lives) (f_has_seal : Fn P w K mg base 8 ("has_seal" : PySem.Str) F_has_seal) : Fn P w K mg base 9 ("is_sound" : PySem.Str) F_is_sound :=
  F.fn (k := 8) KX G sc_is_sound (fun _ _ _ _ _ _ us hl => match us, hl with | [_, _, _], _ => rfl) fun f cdv A outer s H E hr =>
    have hu := hu40 hr
    have nd := sc_is_sound.nd
    (show JSs _ _ g_is_sound from
      (js_cons (js_if (jt_w (jw_or (jt_not (jt_val (je_call f_is_known (hr.mono (by decide)) (ja_cons (je_var 0) (ja_cons (je_var 1) (ja_cons (je_var 2) ja_nil)))))) (jw_or1 (jt_cmp o_dnotin (je_call f_word_of (hr.mono (by decide)) (ja_cons (je_ix (je_var 0) (je_var 2)) ja_nil)) (je_const T.k_SEALINGS))))) (js_one (js_ret je_bl)) js_nil)
      (js_cons (js_set (i := 3) nd (je_call f_part_of (hr.mono (by decide)) (ja_cons (je_ix (je_var 0) (je_var 2)) (ja_cons je_str ja_nil))))
      (js_cons (js_set (i := 4) nd (je_call f_day_of (hr.mono (by decide)) (ja_cons (je_ix (je_var 0) (je_var 2)) ja_nil)))
      (js_one (js_ret (je_and (je_call f_lives (hr.mono (by decide)) (ja_cons (je_var 0) (ja_cons (je_var 1) (ja_cons (je_var 3) (ja_cons (je_var 4) ja_nil))))) (je_one (je_call f_has_seal (hr.mono (by decide)) (ja_cons (je_var 0) (ja_cons (je_var 1) (ja_cons (je_var 3) (ja_cons (je_var 4) ja_nil)))))))))))))
abbrev s_w_told : Stmt := top 23
theorem sc_w_told : FnScope [("_law_rows_here" : PySem.Str), ("_law_known" : PySem.Str), ("_law_names_here" : PySem.Str), ("_law_many" : PySem.Str), ("_law_found" : PySem.Str), ("_law_person" : PySem.Str), ("_law_day" : PySem.Str)] [("_law_rows_here" : PySem.Str), ("_law_known" : PySem.Str), ("_law_names_here" : PySem.Str), ("_law_many" : PySem.Str)] (defScope s_w_told) := ⟨rfl, rfl, rfl, by decide +kernel, rfl, by decide +kernel, by decide +kernel⟩
theorem fn_w_told {P : Program} {w : World} {K : PySem.W.Frag} {mg : Str → Option Value} {base h : Heap} (T : Tx K w.params mg) (F : Def K ("_law_told" : PySem.Str) s_w_told) (KX : K.In h) (G : h.Ns mainGlobals mg) (f_lives : Fn P w K mg base 6 ("lives" : PySem.Str) F_lives) (f_has_seal : Fn P w K mg base 8 ("has_seal" : PySem.Str) F_has_seal) (f_is_sound : Fn P w K mg base 9 ("is_sound" : PySem.Str) F_is_sound) : Fn P w K mg base 10 ("_law_told" : PySem.Str) F_w_told :=
  F.fn (k := 9) KX G sc_w_told (fun _ _ _ _ _ _ us hl => match us, hl with | [_, _, _, _], _ => rfl) fun f cdv A outer s H E hr =>
    have hu := hu40 hr
    have nd := sc_w_told.nd
    (show JSs _ _ g_w_told from
      (js_cons (js_set (i := 4) nd (je_lst ja_nil))
      (js_cons (js_for PassesOwn.never rfl (ji_seq (je_var 2)) (pg_name (i := 5) nd rfl (Or.inl rfl)) tDG_name (js_one (js_forR PassesOwn.never rfl (jr_range2 T.n_range je_int je_int) (pg_name (i := 6) nd rfl (Or.inl rfl)) tDG_name (js_one (js_app (i := 4) (je_tup (ja_cons (je_call f_lives (hr.mono (by decide)) (ja_cons (je_var 0) (ja_cons (je_var 1) (ja_cons (je_var 5) (ja_cons (je_var 6) ja_nil))))) (ja_cons (je_call f_has_seal (hr.mono (by decide)) (ja_cons (je_var 0) (ja_cons (je_var 1) (ja_cons (je_var 5) (ja_cons (je_var 6) ja_nil))))) ja_nil))))))))
      (js_one (js_ret (je_op o_dadd (je_var 4) (je_comp rfl (nT := 1) (cap := [0, 1]) (N' := [("_law_at" : PySem.Str), ("_law_rows_here" : PySem.Str), ("_law_known" : PySem.Str)]) (compSc (by decide +kernel) rfl (by decide +kernel) rfl) (.cons rfl rfl (Or.inl rfl) (Or.inl rfl) (cl_look (by decide +kernel) rfl) (.cons rfl rfl (Or.inl rfl) (Or.inl rfl) (cl_look (by decide +kernel) rfl) (.nil rfl))) (ji_range T.n_range (je_var 3)) (fun _ _ _ _ => (pg_name (i := 0) (show List.Nodup [("_law_at" : PySem.Str), ("_law_rows_here" : PySem.Str), ("_law_known" : PySem.Str)] by decide +kernel) rfl (Or.inl rfl))) (tge_name (by decide)) (fun _ _ _ _ => jc_nil) (fun _ _ _ _ => (je_call f_is_sound (hr.mono (by decide)) (ja_cons (je_var 1) (ja_cons (je_var 2) (ja_cons (je_var 0) ja_nil))))))))))))
abbrev s_w_stay_dead : Stmt := top 24
theorem sc_w_stay_dead : FnScope [("_law_rows_here" : PySem.Str), ("_law_known" : PySem.Str), ("_law_names_here" : PySem.Str), ("_law_person" : PySem.Str), ("_law_before" : PySem.Str), ("_law_later" : PySem.Str), ("_law_day" : PySem.Str)] [("_law_rows_here" : PySem.Str), ("_law_known" : PySem.Str), ("_law_names_here" : PySem.Str)] (defScope s_w_stay_dead) := ⟨rfl, rfl, rfl, by decide +kernel, rfl, by decide +kernel, by decide +kernel⟩
theorem fn_w_stay_dead {P : Program} {w : World} {K : PySem.W.Frag} {mg : Str → Option Value} {base h : Heap} (T : Tx K w.params mg) (F : Def K ("_law_stay_dead" : PySem.Str) s_w_stay_dead) (KX : K.In h) (G : h.Ns mainGlobals mg) (f_lives : Fn P w K mg base 6 ("lives" : PySem.Str) F_lives) : Fn P w K mg base 7 ("_law_stay_dead" : PySem.Str) F_w_stay_dead :=
  F.fn (k := 6) KX G sc_w_stay_dead (fun _ _ _ _ _ _ us hl => match us, hl with | [_, _, _], _ => rfl) fun f cdv A outer s H E hr =>
    have hu := hu40 hr
    have nd := sc_w_stay_dead.nd
    (show JSs _ _ g_w_stay_dead from
      (js_cons (js_for PassesOwn.never rfl (ji_seq (je_var 2)) (pg_name (i := 3) nd rfl (Or.inr rfl)) tDG_name (js_cons (js_comp (i := 4) rfl nd rfl rfl rfl (nT := 1) (cap := [0, 1, 3]) (N' := [("_law_day" : PySem.Str), ("_law_rows_here" : PySem.Str), ("_law_known" : PySem.Str), ("_law_person" : PySem.Str)]) (compSc (by decide +kernel) rfl (by decide +kernel) rfl) (.cons rfl rfl (Or.inl rfl) (Or.inl rfl) (cl_look (by decide +kernel) rfl) (.cons rfl rfl (Or.inl rfl) (Or.inl rfl) (cl_look (by decide +kernel) rfl) (.cons rfl rfl (Or.inl rfl) (Or.inl rfl) (cl_look (by decide +kernel) rfl) (.nil rfl)))) (ji_range T.n_range je_int) (fun _ _ _ _ => (pg_name (i := 0) (show List.Nodup [("_law_day" : PySem.Str), ("_law_rows_here" : PySem.Str), ("_law_known" : PySem.Str), ("_law_person" : PySem.Str)] by decide +kernel) rfl (Or.inl rfl))) (tge_name (by decide)) (fun _ _ _ _ => jc_nil) (fun _ _ _ _ => (je_call f_lives (hr.mono (by decide)) (ja_cons (je_var 1) (ja_cons (je_var 2) (ja_cons (je_var 3) (ja_cons (je_var 0) ja_nil)))))))
      (js_cons (js_comp (i := 5) rfl nd rfl rfl rfl (nT := 1) (cap := [0, 3, 1]) (N' := [("_law_day" : PySem.Str), ("_law_rows_here" : PySem.Str), ("_law_person" : PySem.Str), ("_law_known" : PySem.Str)]) (compSc (by decide +kernel) rfl (by decide +kernel) rfl) (.cons rfl rfl (Or.inl rfl) (Or.inl rfl) (cl_look (by decide +kernel) rfl) (.cons rfl rfl (Or.inl rfl) (Or.inl rfl) (cl_look (by decide +kernel) rfl) (.cons rfl rfl (Or.inl rfl) (Or.inl rfl) (cl_look (by decide +kernel) rfl) (.nil rfl)))) (ji_range T.n_range je_int) (fun _ _ _ _ => (pg_name (i := 0) (show List.Nodup [("_law_day" : PySem.Str), ("_law_rows_here" : PySem.Str), ("_law_person" : PySem.Str), ("_law_known" : PySem.Str)] by decide +kernel) rfl (Or.inl rfl))) (tge_name (by decide)) (fun _ _ _ _ => jc_nil) (fun _ _ _ _ => (je_call f_lives (hr.mono (by decide)) (ja_cons (je_var 1) (ja_cons (je_op o_dadd (je_var 3) je_int) (ja_cons (je_var 2) (ja_cons (je_var 0) ja_nil)))))))
      (js_one (js_forR PassesOwn.never rfl (jr_range T.n_range je_int) (pg_name (i := 6) nd rfl (Or.inl rfl)) tDG_name (js_one (js_if (jt_w (jw_or (jt_w (jw_and (jt_val (je_ix (je_var 5) (je_var 6))) (jw_and1 (jt_not (jt_val (je_ix (je_var 4) (je_var 6))))))) (jw_or1 (jt_w (jw_and (jt_cmp o_gt (je_var 6) je_int) (jw_and (jt_val (je_ix (je_var 4) (je_var 6))) (jw_and1 (jt_not (jt_val (je_ix (je_var 4) (je_op o_sub (je_var 6) je_int))))))))))) (js_one (js_ret je_bl)) js_nil)))))))
      (js_one (js_ret je_bl))))
abbrev s_law : Stmt := top 25
theorem sc_law : FnScope [("_law_script" : PySem.Str), ("_law_names_here" : PySem.Str), ("_law_rows_here" : PySem.Str), ("_law_known" : PySem.Str), ("_law_due" : PySem.Str), ("_law_others" : PySem.Str), ("_law_k" : PySem.Str), ("_law_at" : PySem.Str), ("_law_one" : PySem.Str), ("_law_other" : PySem.Str)] [("_law_script" : PySem.Str)] (defScope s_law) := ⟨rfl, rfl, rfl, by decide +kernel, rfl, by decide +kernel, by decide +kernel⟩
theorem js_law {P : Program} {w : World} {K : PySem.W.Frag} {mg : Str → Option Value} {base : Heap} (T : Tx K w.params mg) (f_w_cell_at : Fn P w K mg base 1 ("_law_cell_at" : PySem.Str) F_w_cell_at) (f_w_names : Fn P w K mg base 1 ("_law_names" : PySem.Str) F_w_names) (f_w_rows : Fn P w K mg base 3 ("_law_rows" : PySem.Str) F_w_rows) (f_w_unknown : Fn P w K mg base 2 ("_law_unknown" : PySem.Str) F_w_unknown) (f_w_told : Fn P w K mg base 10 ("_law_told" : PySem.Str) F_w_told) (f_w_stay_dead : Fn P w K mg base 7 ("_law_stay_dead" : PySem.Str) F_w_stay_dead) (f : Addr) (cdv : Value) (A : Around) (outer : List PySem.Env) (s : Shared) (H : Hp) (E : XK) (hr : Room 10 (A.deeper (envOfC "law" (defScope s_law) s.heap.objs.size f cdv))) : JSs (cxOf CX0 P w K mg base [("_law_script" : PySem.Str), ("_law_names_here" : PySem.Str), ("_law_rows_here" : PySem.Str), ("_law_known" : PySem.Str), ("_law_due" : PySem.Str), ("_law_others" : PySem.Str), ("_law_k" : PySem.Str), ("_law_at" : PySem.Str), ("_law_one" : PySem.Str), ("_law_other" : PySem.Str)] "law" (defScope s_law) f cdv A outer s H E).nox (defBody s_law) g_law :=
    have hu := hu40 hr
    have nd := sc_law.nd
    (show JSs _ _ g_law from
      (js_cons (js_set (i := 1) nd (je_call f_w_names (hr.mono (by decide)) (ja_cons (je_call f_w_cell_at (hr.mono (by decide)) (ja_cons (je_var 0) (ja_cons je_int ja_nil))) (ja_cons (je_op o_dadd je_int (je_op o_mod (je_call f_w_cell_at (hr.mono (by decide)) (ja_cons (je_var 0) (ja_cons je_int ja_nil))) je_int)) ja_nil))))
      (js_cons (js_set (i := 2) nd (je_call f_w_rows (hr.mono (by decide)) (ja_cons (je_var 0) (ja_cons (je_var 1) ja_nil))))
      (js_cons (js_set (i := 3) nd (je_op o_mod (je_call f_w_cell_at (hr.mono (by decide)) (ja_cons (je_var 0) (ja_cons je_int ja_nil))) je_int))
      (js_cons (js_set (i := 4) nd (je_call f_w_told (hr.mono (by decide)) (ja_cons (je_var 2) (ja_cons (je_var 3) (ja_cons (je_var 1) (ja_cons (je_callB c_len T.n_len b_len (ja_cons (je_var 2) ja_nil)) ja_nil))))))
      (js_cons (js_set (i := 5) nd (je_lst ja_nil))
      (js_cons (js_forR PassesOwn.never rfl (jr_range T.n_range (je_callB c_len T.n_len b_len (ja_cons (je_var 2) ja_nil))) (pg_name (i := 6) nd rfl (Or.inl rfl)) tDG_name (js_cons (js_app (i := 5) (je_ix (je_var 2) (je_var 6)))
      (js_one (js_if (jt_cmp o_gt (je_ix (je_ix (je_var 2) (je_var 6)) je_int) (je_var 3)) (js_one (js_put (i := 5) (je_call f_w_unknown (hr.mono (by decide)) (ja_cons (je_var 0) (ja_cons (je_var 6) (ja_cons (je_var 1) (ja_cons (je_var 3) ja_nil))))) (je_var 6))) js_nil))))
      (js_cons (js_forR PassesOwn.never rfl (jr_range T.n_range (je_op o_mod (je_call f_w_cell_at (hr.mono (by decide)) (ja_cons (je_var 0) (ja_cons je_int ja_nil))) je_int)) (pg_name (i := 6) nd rfl (Or.inl rfl)) tDG_name (js_one (js_app (i := 5) (je_call f_w_unknown (hr.mono (by decide)) (ja_cons (je_var 0) (ja_cons (je_op o_dadd je_int (je_var 6)) (ja_cons (je_var 1) (ja_cons (je_var 3) ja_nil))))))))
      (js_cons (js_if (jt_w (jw_or (jt_cmp (o_ne hu) (je_call f_w_told (hr.mono (by decide)) (ja_cons (je_callTy c_tuple T.n_tuple b_tuple (ja_cons (je_var 5) ja_nil)) (ja_cons (je_var 3) (ja_cons (je_var 1) (ja_cons (je_callB c_len T.n_len b_len (ja_cons (je_var 2) ja_nil)) ja_nil))))) (je_var 4)) (jw_or1 (jt_not (jt_val (je_call f_w_stay_dead (hr.mono (by decide)) (ja_cons (je_var 2) (ja_cons (je_var 3) (ja_cons (je_var 1) ja_nil))))))))) (js_one (js_ret je_bl)) js_nil)
      (js_cons (js_forR PassesOwn.never rfl (jr_range T.n_range (je_callB c_min T.n_min b_min (ja_cons (je_callB c_len T.n_len b_len (ja_cons (je_var 2) ja_nil)) (ja_cons je_int ja_nil)))) (pg_name (i := 6) nd rfl (Or.inl rfl)) tDG_name (js_cons (js_set (i := 7) nd (je_op o_mod (je_op o_fdiv (je_call f_w_cell_at (hr.mono (by decide)) (ja_cons (je_var 0) (ja_cons je_int ja_nil))) (je_op o_dadd je_int (je_var 6))) (je_callB c_len T.n_len b_len (ja_cons (je_var 2) ja_nil))))
      (js_cons (js_set (i := 8) nd (je_op o_tadd (je_op o_tadd (je_slice (je_var 2) jo_none (jo_some (je_var 7))) (je_tup (ja_cons (je_tup (ja_cons je_int (ja_cons (je_ix (je_ix (je_var 2) (je_var 7)) je_int) ja_nil))) ja_nil))) (je_slice (je_var 2) (jo_some (je_op o_dadd (je_var 7) je_int)) jo_none)))
      (js_cons (js_set (i := 9) nd (je_op o_tadd (je_op o_tadd (je_slice (je_var 2) jo_none (jo_some (je_var 7))) (je_tup (ja_cons (je_call f_w_unknown (hr.mono (by decide)) (ja_cons (je_var 0) (ja_cons (je_var 7) (ja_cons (je_var 1) (ja_cons je_int ja_nil))))) ja_nil))) (je_slice (je_var 2) (jo_some (je_op o_dadd (je_var 7) je_int)) jo_none)))
      (js_one (js_if (jt_cmp (o_ne hu) (je_call f_w_told (hr.mono (by decide)) (ja_cons (je_var 8) (ja_cons je_int (ja_cons (je_var 1) (ja_cons (je_callB c_len T.n_len b_len (ja_cons (je_var 2) ja_nil)) ja_nil))))) (je_call f_w_told (hr.mono (by decide)) (ja_cons (je_var 9) (ja_cons je_int (ja_cons (je_var 1) (ja_cons (je_callB c_len T.n_len b_len (ja_cons (je_var 2) ja_nil)) ja_nil)))))) (js_one (js_ret je_bl)) js_nil))))))
      (js_one (js_ret je_bl))))))))))))
theorem head {P : Program} {w : World} {K : PySem.W.Frag} {h : Heap} {mg : Str → Option Value} {fa : Addr} (X : K.In h) (G : h.Ns mainGlobals mg) (hfa : mg "law" = some (.ref fa))
    (d_w_cell_at : Def K ("_law_cell_at" : PySem.Str) s_w_cell_at) (d_w_names : Def K ("_law_names" : PySem.Str) s_w_names) (d_w_cells : Def K ("_law_cells" : PySem.Str) s_w_cells) (d_w_deed : Def K ("_law_deed" : PySem.Str) s_w_deed) (d_w_rows : Def K ("_law_rows" : PySem.Str) s_w_rows) (d_w_unknown : Def K ("_law_unknown" : PySem.Str) s_w_unknown) (d_heard : Def K ("heard" : PySem.Str) s_heard) (d_word_of : Def K ("word_of" : PySem.Str) s_word_of) (d_part_of : Def K ("part_of" : PySem.Str) s_part_of) (d_day_of : Def K ("day_of" : PySem.Str) s_day_of) (d_tells : Def K ("tells" : PySem.Str) s_tells) (d_told_of : Def K ("told_of" : PySem.Str) s_told_of) (d_lives : Def K ("lives" : PySem.Str) s_lives) (d_rank : Def K ("rank" : PySem.Str) s_rank) (d_has_seal : Def K ("has_seal" : PySem.Str) s_has_seal) (d_is_known : Def K ("is_known" : PySem.Str) s_is_known) (d_is_sound : Def K ("is_sound" : PySem.Str) s_is_sound) (d_w_told : Def K ("_law_told" : PySem.Str) s_w_told) (d_w_stay_dead : Def K ("_law_stay_dead" : PySem.Str) s_w_stay_dead) (d_law : Def K ("law" : PySem.Str) s_law)
    (z_enumerate : PySem.W.nsIn K mainGlobals ("enumerate" : PySem.Str) = some none) (z_len : PySem.W.nsIn K mainGlobals ("len" : PySem.Str) = some none) (z_max : PySem.W.nsIn K mainGlobals ("max" : PySem.Str) = some none) (z_min : PySem.W.nsIn K mainGlobals ("min" : PySem.Str) = some none) (z_range : PySem.W.nsIn K mainGlobals ("range" : PySem.Str) = some none) (z_tuple : PySem.W.nsIn K mainGlobals ("tuple" : PySem.Str) = some none)
    (k_PARTS : ∃ d, PySem.W.nsIn K mainGlobals ("PARTS" : PySem.Str) = some (some (.ref d)) ∧ CDict K w.params d c_PARTS) (k_SEALINGS : ∃ u v, PySem.W.nsIn K mainGlobals ("SEALINGS" : PySem.Str) = some (some u) ∧ RelV v u ∧ ∀ B, Is K B v c_SEALINGS)
    (l_has_seal : LamK K ("has_seal" : PySem.Str)) :
    ∃ fd : FuncData, (∀ (s : Shared) (u : Value), BindsTo s fd ⟨[u], []⟩ [(("_law_script" : PySem.Str), u)]) ∧ ∀ base : Heap, K.In base → base.Ns mainGlobals mg → FnOk P w K mg base CX0 11 fa fd [("_law_script" : PySem.Str)] (spD K F_law) := by
  have T : Tx K w.params mg := ⟨PySem.W.mg_none_of X G z_enumerate, PySem.W.mg_none_of X G z_len, PySem.W.mg_none_of X G z_max, PySem.W.mg_none_of X G z_min, PySem.W.mg_none_of X G z_range, PySem.W.mg_none_of X G z_tuple, (let ⟨d, e, r⟩ := k_PARTS; ⟨d, PySem.W.mg_of X G e, r⟩), (let ⟨u, v, e, r⟩ := k_SEALINGS; ⟨u, v, PySem.W.mg_of X G e, r⟩)⟩
  refine Def.law d_law X G hfa sc_law (fun _ _ _ _ _ _ u => rfl) fun base kb nb => ?_
  have f_w_cell_at := fn_w_cell_at (P := P) (w := w) (base := base) T d_w_cell_at X G 
  have f_w_names := fn_w_names (P := P) (w := w) (base := base) T d_w_names X G 
  have f_w_cells := fn_w_cells (P := P) (w := w) (base := base) T d_w_cells X G f_w_cell_at
  have f_w_deed := fn_w_deed (P := P) (w := w) (base := base) T d_w_deed X G 
  have f_w_rows := fn_w_rows (P := P) (w := w) (base := base) T d_w_rows X G f_w_cells f_w_deed
  have f_w_unknown := fn_w_unknown (P := P) (w := w) (base := base) T d_w_unknown X G f_w_cell_at f_w_deed
  have f_heard := fn_heard (P := P) (w := w) (base := base) T d_heard X G 
  have f_word_of := fn_word_of (P := P) (w := w) (base := base) T d_word_of X G 
  have f_part_of := fn_part_of (P := P) (w := w) (base := base) T d_part_of X G f_word_of
  have f_day_of := fn_day_of (P := P) (w := w) (base := base) T d_day_of X G f_word_of f_part_of
  have f_tells := fn_tells (P := P) (w := w) (base := base) T d_tells X G f_word_of f_part_of f_day_of
  have f_told_of := fn_told_of (P := P) (w := w) (base := base) T d_told_of X G f_heard f_tells
  have f_lives := fn_lives (P := P) (w := w) (base := base) T d_lives X G f_told_of
  have f_rank := fn_rank (P := P) (w := w) (base := base) T d_rank X G f_day_of
  have f_has_seal := fn_has_seal (P := P) (w := w) (base := base) T d_has_seal X G f_word_of f_rank f_told_of l_has_seal
  have f_is_known := fn_is_known (P := P) (w := w) (base := base) T d_is_known X G 
  have f_is_sound := fn_is_sound (P := P) (w := w) (base := base) T d_is_sound X G f_word_of f_part_of f_day_of f_is_known f_lives f_has_seal
  have f_w_told := fn_w_told (P := P) (w := w) (base := base) T d_w_told X G f_lives f_has_seal f_is_sound
  have f_w_stay_dead := fn_w_stay_dead (P := P) (w := w) (base := base) T d_w_stay_dead X G f_lives
  exact js_law T f_w_cell_at f_w_names f_w_rows f_w_unknown f_w_told f_w_stay_dead
end Lw

open PySem PySem.W PyProof.Rows
set_option maxRecDepth 100000 in
set_option maxHeartbeats 0 in
theorem PySem.Challenge.cw_sealchain_k16_whole_seals_by_what_is_kno_holds : PySem.Challenge.rw_sealchain_k16_whole_seals_by_what_is_kno.Holds := by
  w_on; o_law; k_head; (case hw => w_witness2)
  k_fill
  refine' DL.walkD (l := PySem.Challenge.rw_sealchain_k16_whole_seals_by_what_is_kno) (k := 11) (x := ("_law_script" : PySem.Str)) (f := Lw.F_law) (L := [(("in_order" : PySem.Str), ?t0), (("has_seal" : PySem.Str), ?t1), (("is_first_death" : PySem.Str), ?t2), (("bases_by" : PySem.Str), ?t3)]) rfl rfl ⟨rfl, by decide, by decide⟩ (fun w h Y => PySem.W.km_in_of Y) ?T ?D ?F Lw.law_true
  case T =>
    intro w
    refine' DL.tabs_fit ?h0 ?h1 ?h2 ?h3 ?ap ?nt
    (case h0 => refine' DL.tab_no ?a; (case a => k_is))
    (case h1 => refine' DL.tab_yes ?a ?l ?c ?m ?v; (case a => k_is); (case l => k_is); (case c => exact rfl); (case m => k_is); (case v => exact rfl))
    (case h2 => refine' DL.tab_no ?a; (case a => k_is))
    (case h3 => refine' DL.tab_no ?a; (case a => k_is))
    (case ap => decide)
    (case nt => kernel_rfl)
  case D => kernel_rfl
  case F =>
    intro w mg fa h KX G hmg
    refine' Lw.head KX G hmg ?d0 ?d1 ?d2 ?d3 ?d4 ?d5 ?d6 ?d7 ?d8 ?d9 ?d10 ?d11 ?d12 ?d13 ?d14 ?d15 ?d16 ?d17 ?d18 ?d19 ?z0 ?z1 ?z2 ?z3 ?z4 ?z5 ?k0 ?k1 ?q0
    (case d0 => refine' DL.def_mk ?a ?l ?c ?k; (case a => k_is); (case l => k_is); (case c => k_is); (case k => k_is))
    (case d1 => refine' DL.def_mk ?a ?l ?c ?k; (case a => k_is); (case l => k_is); (case c => k_is); (case k => k_is))
    (case d2 => refine' DL.def_mk ?a ?l ?c ?k; (case a => k_is); (case l => k_is); (case c => k_is); (case k => k_is))
    (case d3 => refine' DL.def_mk ?a ?l ?c ?k; (case a => k_is); (case l => k_is); (case c => k_is); (case k => k_is))
    (case d4 => refine' DL.def_mk ?a ?l ?c ?k; (case a => k_is); (case l => k_is); (case c => k_is); (case k => k_is))
    (case d5 => refine' DL.def_mk ?a ?l ?c ?k; (case a => k_is); (case l => k_is); (case c => k_is); (case k => k_is))
    (case d6 => refine' DL.def_mk ?a ?l ?c ?k; (case a => k_is); (case l => k_is); (case c => k_is); (case k => k_is))
    (case d7 => refine' DL.def_mk ?a ?l ?c ?k; (case a => k_is); (case l => k_is); (case c => k_is); (case k => k_is))
    (case d8 => refine' DL.def_mk ?a ?l ?c ?k; (case a => k_is); (case l => k_is); (case c => k_is); (case k => k_is))
    (case d9 => refine' DL.def_mk ?a ?l ?c ?k; (case a => k_is); (case l => k_is); (case c => k_is); (case k => k_is))
    (case d10 => refine' DL.def_mk ?a ?l ?c ?k; (case a => k_is); (case l => k_is); (case c => k_is); (case k => k_is))
    (case d11 => refine' DL.def_mk ?a ?l ?c ?k; (case a => k_is); (case l => k_is); (case c => k_is); (case k => k_is))
    (case d12 => refine' DL.def_mk ?a ?l ?c ?k; (case a => k_is); (case l => k_is); (case c => k_is); (case k => k_is))
    (case d13 => refine' DL.def_mk ?a ?l ?c ?k; (case a => k_is); (case l => k_is); (case c => k_is); (case k => k_is))
    (case d14 => refine' DL.def_mk ?a ?l ?c ?k; (case a => k_is); (case l => k_is); (case c => k_is); (case k => k_is))
    (case d15 => refine' DL.def_mk ?a ?l ?c ?k; (case a => k_is); (case l => k_is); (case c => k_is); (case k => k_is))
    (case d16 => refine' DL.def_mk ?a ?l ?c ?k; (case a => k_is); (case l => k_is); (case c => k_is); (case k => k_is))
    (case d17 => refine' DL.def_mk ?a ?l ?c ?k; (case a => k_is); (case l => k_is); (case c => k_is); (case k => k_is))
    (case d18 => refine' DL.def_mk ?a ?l ?c ?k; (case a => k_is); (case l => k_is); (case c => k_is); (case k => k_is))
    (case d19 => refine' DL.def_mk ?a ?l ?c ?k; (case a => k_is); (case l => k_is); (case c => k_is); (case k => k_is))
    (case z0 => k_is)
    (case z1 => k_is)
    (case z2 => k_is)
    (case z3 => k_is)
    (case z4 => k_is)
    (case z5 => k_is)
    (case k0 => refine' DL.const_dict ?e ?l ?r ?s; (case e => k_is); (case l => k_is); (case r => refine' (DL.CRows.tup rfl ?l0 ?f0 (DL.CRows.tup rfl ?l1 ?f1 (DL.CRows.tup rfl ?l2 ?f2 (DL.CRows.tup rfl ?l3 ?f3 (DL.CRows.tup rfl ?l4 ?f4 (DL.CRows.tup rfl ?l5 ?f5 (DL.CRows.tup rfl ?l6 ?f6 (DL.CRows.tup rfl ?l7 ?f7 (DL.CRows.tup rfl ?l8 ?f8 (DL.CRows.tup rfl ?l9 ?f9 (DL.CRows.tup rfl ?l10 ?f10 (DL.CRows.tup rfl ?l11 ?f11 DL.CRows.nil)))))))))))); (case l0 => k_is); (case f0 => decide +kernel); (case l1 => k_is); (case f1 => decide +kernel); (case l2 => k_is); (case f2 => decide +kernel); (case l3 => k_is); (case f3 => decide +kernel); (case l4 => k_is); (case f4 => decide +kernel); (case l5 => k_is); (case f5 => decide +kernel); (case l6 => k_is); (case f6 => decide +kernel); (case l7 => k_is); (case f7 => decide +kernel); (case l8 => k_is); (case f8 => decide +kernel); (case l9 => k_is); (case f9 => decide +kernel); (case l10 => k_is); (case f10 => decide +kernel); (case l11 => k_is); (case f11 => decide +kernel)); (case s => decide +kernel))
    (case k1 => refine' DL.const_tup ?e ?l ?v; (case e => k_is); (case l => k_is); (case v => decide +kernel))
    (case q0 => refine' DL.lam_mk ?a ?l ?c ?m ?v1 ?v2 ?v3 ?v4 ?v5 ?v6 ?v7; (case a => k_is); (case l => k_is); (case c => exact rfl); (case m => k_is); (case v1 => exact rfl); (case v2 => exact rfl); (case v3 => exact rfl); (case v4 => exact rfl); (case v5 => exact rfl); (case v6 => exact rfl); (case v7 => decide))


