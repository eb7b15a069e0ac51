import PyProof.Rows.All
import Wide.All
import OpenK.AllK
import Wide.FinOn
import Lean
import PyProof.EqAt
import PyProof.EqKinds
import PyProof.TupleCall
import PyProof.AttrMissHeap
import PySem.Challenge.RW_sealchain_k24_bases_of_copies
set_option Elab.async false
set_option linter.all false
set_option maxRecDepth 100000
set_option maxHeartbeats 4000000
namespace L2
open PySem PySem.Spec PyProof.Rows
abbrev Key := Sum Int Str
def keyIs : Key → Value → Bool
  | .inl k, v => Value.isInt k v
  | .inr x, v => Value.isStrOf x v
def keyH (w : World) : Key → Int
  | .inl k => hashInt k
  | .inr x => hashStr w x
theorem keyIs_shape : ∀ {k : Key} {v : Value}, keyIs k v = true → (∃ i t, k = Sum.inl i ∧ v = Value.int i t) ∨ (∃ x t, k = Sum.inr x ∧ v = Value.str x t)
  | .inl i, v, h => by
    obtain ⟨t, e⟩ := Value.isInt_shape (k := i) (v := v) h
    exact .inl ⟨i, t, rfl, e⟩
  | .inr x, v, h => by
    obtain ⟨t, e⟩ := Value.isStrOf_shape (x := x) (v := v) h
    exact .inr ⟨x, t, rfl, e⟩
theorem keyIs_int (i : Int) (t : Tok) : keyIs (.inl i) (.int i t) = true := by simp [keyIs, Value.isInt]
theorem keyIs_str (x : Str) (t : Tok) : keyIs (.inr x) (.str x t) = true := by simp [keyIs, Value.isStrOf]
theorem key_ll (a b : Int) : decide ((Sum.inl a : Key) = Sum.inl b) = (a == b) := by
  by_cases e : a = b
  · subst e; simp
  · have h : ¬ (Sum.inl a : Key) = Sum.inl b := fun q => e (Sum.inl.inj q)
    rw [decide_eq_false h]
    exact (beq_eq_false_iff_ne.mpr e).symm
theorem key_rr (a b : Str) : decide ((Sum.inr a : Key) = Sum.inr b) = decide (a = b) := by
  by_cases e : a = b
  · subst e; simp
  · have h : ¬ (Sum.inr a : Key) = Sum.inr b := fun q => e (Sum.inr.inj q)
    rw [decide_eq_false h, decide_eq_false e]
theorem key_lr (a : Int) (b : Str) : decide ((Sum.inl a : Key) = Sum.inr b) = false := decide_eq_false (fun q => nomatch q)
theorem key_rl (a : Str) (b : Int) : decide ((Sum.inr a : Key) = Sum.inl b) = false := decide_eq_false (fun q => nomatch q)
def mixKind (prog : Program) (w : World) : PySem.KeyKind prog w Key where
  is := keyIs
  hash := keyH w
  inj := fun v a b ha hb => by
    rcases keyIs_shape ha with ⟨i, t, rfl, rfl⟩ | ⟨x, t, rfl, rfl⟩
    · rcases keyIs_shape hb with ⟨j, u, rfl, e⟩ | ⟨y, u, rfl, e⟩
      · injection e with e1 _; rw [e1]
      · exact nomatch e
    · rcases keyIs_shape hb with ⟨j, u, rfl, e⟩ | ⟨y, u, rfl, e⟩
      · exact nomatch e
      · injection e with e1 _; rw [e1]
  byValue := fun k v h => by
    rcases keyIs_shape h with ⟨i, t, rfl, rfl⟩ | ⟨x, t, rfl, rfl⟩ <;> rfl
  pyHash := fun hv h => by
    rcases keyIs_shape hv with ⟨i, t, rfl, rfl⟩ | ⟨x, t, rfl, rfl⟩
    · exact wpAny_pyHash_int h
    · exact wpAny_pyHash_str h
  eqBool := fun hu hv h => by
    rcases keyIs_shape hu with ⟨i, t, rfl, rfl⟩ | ⟨x, t, rfl, rfl⟩
    · rcases keyIs_shape hv with ⟨j, u, rfl, rfl⟩ | ⟨y, u, rfl, rfl⟩
      · rw [key_ll] at h; exact wpAny_eqBool_int h
      · rw [key_lr] at h; exact SeqAt.EqAt.int_str i t y u _ _ _ _ h
    · rcases keyIs_shape hv with ⟨j, u, rfl, rfl⟩ | ⟨y, u, rfl, rfl⟩
      · rw [key_rl] at h; exact SeqAt.EqAt.str_int x t j u _ _ _ _ h
      · rw [key_rr] at h; exact wpAny_eqBool_str h
  «strs» := fun k x t v h => by
    rcases keyIs_shape h with ⟨i, u, rfl, e⟩ | ⟨y, u, rfl, e⟩
    · exact nomatch e
    · injection e with e1 _
      subst e1
      cases v <;> rfl
theorem mixKind_int (prog : Program) (w : World) (i : Int) (t : Tok) : (mixKind prog w).is (.inl i) (.int i t) = true := keyIs_int i t
theorem mixKind_str (prog : Program) (w : World) (x : Str) (t : Tok) : (mixKind prog w).is (.inr x) (.str x t) = true := keyIs_str x t
inductive V where
  | non | bl (b : Bool) | int (i : Int) | str (x : Str) | byt (b : Array UInt8) | flt (b : UInt64) | ref (a : Addr) | ty (n : String)
  deriving DecidableEq
def RelV : V → Value → Prop
  | .non, u => u = Value.none
  | .bl b, u => u = Value.bool b
  | .int i, u => ∃ t, u = Value.int i t
  | .str x, u => ∃ t, u = Value.str x t
  | .byt b, u => ∃ t, u = Value.bytes b t
  | .flt b, u => ∃ t, u = Value.float b t
  | .ref a, u => u = Value.ref a
  | .ty n, u => u = Value.type n
abbrev Vals : List V → List Value → Prop := Paired RelV
theorem Vals.length {xs : List V} {us : List Value} (r : Vals xs us) : xs.length = us.length := Paired.length r
theorem Vals.get : ∀ {xs : List V} {us : List Value} {i : Nat} {x : V}, Vals xs us → xs[i]? = some x → ∃ u, us[i]? = some u ∧ RelV x u
  | _, _, _, _, .nil, e => by simp at e
  | _, _, 0, _, .cons r _, e => by simp at e; subst e; exact ⟨_, rfl, r⟩
  | _, _, i + 1, x, .cons _ t, e => by
    obtain ⟨u, h1, h2⟩ := Vals.get (i := i) (x := x) t (by simpa using e)
    exact ⟨u, by simpa using h1, h2⟩
theorem Vals.set {x : V} {u : Value} (r : RelV x u) : ∀ {xs : List V} {us : List Value} (i : Nat), Vals xs us → Vals (xs.set i x) (us.set i u)
  | _, _, _, .nil => .nil
  | _, _, 0, .cons _ t => .cons r t
  | _, _, i + 1, .cons q t => .cons q (Vals.set r i t)
theorem Vals.append : ∀ {xs ys : List V} {us ws : List Value}, Vals xs us → Vals ys ws → Vals (xs ++ ys) (us ++ ws)
  | _, _, _, _, .nil, s => s
  | _, _, _, _, .cons r t, s => .cons r (Vals.append t s)
theorem Vals.take : ∀ {xs : List V} {us : List Value} (n : Nat), Vals xs us → Vals (xs.take n) (us.take n)
  | _, _, 0, _ => .nil
  | _, _, _ + 1, .nil => .nil
  | _, _, n + 1, .cons r t => .cons r (Vals.take n t)
theorem Vals.drop : ∀ {xs : List V} {us : List Value} (n : Nat), Vals xs us → Vals (xs.drop n) (us.drop n)
  | _, _, 0, r => r
  | _, _, _ + 1, .nil => .nil
  | _, _, n + 1, .cons _ t => Vals.drop n t
theorem Vals.none_of : ∀ {xs : List V} {us : List Value} {i : Nat}, Vals xs us → xs[i]? = none → us[i]? = none := fun {xs us i} r e => by
  have h1 := r.length
  have h2 : xs.length ≤ i := List.getElem?_eq_none_iff.mp e
  exact List.getElem?_eq_none_iff.mpr (by omega)
def RelO : Option V → Option Value → Prop
  | some v, some u => RelV v u
  | none, none => True
  | _, _ => False
def KV {κ : Type} : List (κ × V) → List (κ × Value) → Prop := Paired fun (p : κ × V) (q : κ × Value) => p.1 = q.1 ∧ RelV p.2 q.2
def kV : Key → V
  | .inl i => .int i
  | .inr x => .str x
inductive HO where
    | lst (xs : List V)
    | tup (xs : List V)
    | dK (kvs : List (Key × V)) | dT (kvs : List (List Key × V))
    | set (S : Int → Bool) (n : Nat)
    | ins (C dx : Addr) (fs : List (Str × V))
    | own (x : Addr)
    | xd (fs : List (Str × V))
    | met (f x : Addr)
    | rng (lo hi : Int)
    | frz (o : Obj) (u : HO)
    | tbl (q : Str)
    | ext (φ : Heap → Prop)
abbrev Hp := Addr → Option HO
def upd (H : Hp) (a : Addr) (o : HO) : Hp := fun b => if b = a then some o else H b
theorem upd_same {H : Hp} {a : Addr} {o : HO} : upd H a o a = some o := by unfold upd; rw [if_pos rfl]
theorem upd_ne {H : Hp} {a b : Addr} {o : HO} (h : b ≠ a) : upd H a o b = H b := by unfold upd; rw [if_neg h]
theorem upd_upd {H : Hp} {a : Addr} {o u : HO} : upd (upd H a o) a u = upd H a u := by
  funext b; unfold upd; split <;> rfl
theorem ne_of_none {H : Hp} {a b : Addr} {o : HO} (h : H a = some o) (h' : H b = none) : a ≠ b := by
  intro e; subst e; rw [h] at h'; cases h'
section
variable (P : Program) (w : World)
def ObjOk (H : Hp) (h : Heap) (a : Addr) : HO → Prop
  | .lst xs => xs.length ≤ sizeLine ∧ ∃ (its : List Value) (n : Nat), Vals xs its ∧ h.get? a = some { cls := .type "list", data := .seq its.toArray n }
  | .tup xs => xs.length ≤ sizeLine ∧ ∃ its : List Value, Vals xs its ∧ IsTup h a its.toArray
  | .dK kvs => kvs.length ≤ sizeLine ∧ (a == sysModules) = false ∧ ∃ vs, KV kvs vs ∧ h.DictOf (mixKind P w) a vs
  | .dT kvs => kvs.length ≤ sizeLine ∧ (a == sysModules) = false ∧ ∃ xs : List (List Key × Addr × Value),
      Paired (fun (p : List Key × V) (q : List Key × Addr × Value) => p.1 = q.1 ∧ H q.2.1 = some (.tup (p.1.map kV)) ∧ RelV p.2 q.2.2) kvs xs ∧
      ∃ o es ep, h.get? a = some o ∧ o.ExactDict ∧ o.data = .dict es ep ∧ es.toList = xs.map (entryOfKey (tupleKind (mixKind P w))) ∧ (xs.map (·.1)).Nodup
  | .set S n => h.SetOf (intKind P w) a S n
  | .ins C dx fs => H dx = some (.own a) ∧ fs.length ≤ 1000 ∧ dx ≠ a ∧ h.get? a = some (PySem.W.instObj C dx) ∧
      ∃ mA, h.Ns1 dx mA ∧ (∀ f, RelO (fs.lookup f) (mA f)) ∧ PySem.Within mA (fs.map (·.1))
  | .own _ => ∃ o, h.get? a = some o
  | .xd fs => ∃ mA, h.Ns1 a mA ∧ ∀ f, RelO (fs.lookup f) (mA f)
  | .rng lo hi => ∃ t u v, h.get? a = some { cls := .type "range", data := .fields #[.int lo t, .int hi u, .int 1 v] }
  | .frz o u => h.get? a = some o ∧ ObjOk H h a u
  | .tbl q => ∃ ps : Array Value, h.get? a = some { cls := .none, data := .fields ps } ∧ TriplesOk ps.toList ∧ ∀ pos cv, codeAmong pos ps.toList = some cv → ∃ (c : Addr) (oc : Obj) (u : HO) (vs : Array Value) (t : Tok), cv = .ref c ∧ H c = some (.frz oc u) ∧ oc.data = .fields vs ∧ vs[1]? = some (.str q t)
  | .met f x => h.get? a = some (PySem.W.methodObj (.ref f) (.ref x))
  | .ext φ => φ h ∧ (∃ o, h.get? a = some o) ∧ ∀ h1 h2 : Heap, φ h1 → (∀ o, h1.get? a = some o → h2.get? a = some o) → φ h2
def HOk (H : Hp) (h : Heap) : Prop := ∀ a o, H a = some o → ObjOk P w H h a o
end
section
variable {P : Program} {w : World} {H H' : Hp} {h h' : Heap} {a : Addr} {o : HO}
theorem ObjOk.lt (x : ObjOk P w H h a o) : a < h.objs.size := by
  cases o with
  | lst xs => obtain ⟨_, _, _, _, e⟩ := x; exact Heap.lt_size e
  | tup xs => obtain ⟨_, _, _, p⟩ := x; exact p.lt
  | dK kvs => obtain ⟨_, _, _, _, o, _, _, e, _⟩ := x; exact Heap.lt_size e
  | dT kvs => obtain ⟨_, _, _, _, o, _, _, e, _⟩ := x; exact Heap.lt_size e
  | set S n => obtain ⟨o, _, _, _, e, _⟩ := x; exact Heap.lt_size e
  | ins C dx fs => obtain ⟨_, _, _, e, _⟩ := x; exact Heap.lt_size e
  | own y => obtain ⟨_, e⟩ := x; exact Heap.lt_size e
  | xd fs => obtain ⟨_, ⟨_, _, _, e, _⟩, _⟩ := x; exact Heap.lt_size e
  | rng lo hi => obtain ⟨_, _, _, e⟩ := x; exact Heap.lt_size e
  | frz ob u => obtain ⟨e, _⟩ := x; exact Heap.lt_size e
  | tbl q => obtain ⟨_, e, _⟩ := x; exact Heap.lt_size e
  | met f y => exact Heap.lt_size (show h.get? a = some _ from x)
  | ext φ => obtain ⟨_, ⟨_, e⟩, _⟩ := x; exact Heap.lt_size e
theorem Paired.mapP {α β : Type} {F G : α → β → Prop} : ∀ {l₁ : List α} {l₂ : List β}, Paired F l₁ l₂ → (∀ a b, F a b → G a b) → Paired G l₁ l₂
  | _, _, .nil, _ => .nil
  | _, _, .cons r t, f => .cons (f _ _ r) (Paired.mapP t f)
theorem ObjOk.stay (x : ObjOk P w H h a o) (k : ∀ b u, (b = a ∨ H b = some (.own a)) → h.get? b = some u → h'.get? b = some u)
    (ho : ∀ b, H b = some (.own a) → H' b = some (.own a)) (ht : ∀ b xs, H b = some (.tup xs) → H' b = some (.tup xs)) (hf : ∀ b o u, H b = some (.frz o u) → H' b = some (.frz o u)) : ObjOk P w H' h' a o := by
  induction o with
  | lst xs => obtain ⟨z, its, n, r, e⟩ := x; exact ⟨z, its, n, r, k _ _ (.inl rfl) e⟩
  | tup xs => obtain ⟨z, its, r, ob, e, c⟩ := x; exact ⟨z, its, r, ob, k _ _ (.inl rfl) e, c⟩
  | dK kvs => obtain ⟨z, y, vs, r, ob, es, ep, e, c⟩ := x; exact ⟨z, y, vs, r, ob, es, ep, k _ _ (.inl rfl) e, c⟩
  | dT kvs =>
    obtain ⟨z, y, xs, r, ob, es, ep, e, c⟩ := x
    exact ⟨z, y, xs, Paired.mapP r fun p q z => ⟨z.1, ht _ _ z.2.1, z.2.2⟩, ob, es, ep, k _ _ (.inl rfl) e, c⟩
  | set S n => obtain ⟨ob, es, ep, t, e, c⟩ := x; exact ⟨ob, es, ep, t, k _ _ (.inl rfl) e, c⟩
  | ins C dx fs =>
    obtain ⟨d, z, ne, e, mA, ⟨od, es, ep, e2, c⟩, r⟩ := x
    exact ⟨ho _ d, z, ne, k _ _ (.inl rfl) e, mA, ⟨od, es, ep, k _ _ (.inr d) e2, c⟩, r⟩
  | own y => obtain ⟨ob, e⟩ := x; exact ⟨ob, k _ _ (.inl rfl) e⟩
  | xd fs => obtain ⟨mA, ⟨od, es, ep, e, c⟩, r⟩ := x; exact ⟨mA, ⟨od, es, ep, k _ _ (.inl rfl) e, c⟩, r⟩
  | rng lo hi => obtain ⟨t, u, v, e⟩ := x; exact ⟨t, u, v, k _ _ (.inl rfl) e⟩
  | frz ob u ih => obtain ⟨e, q⟩ := x; exact ⟨k _ _ (.inl rfl) e, ih q⟩
  | tbl q => obtain ⟨ps, e, t, c⟩ := x; exact ⟨ps, k a _ (.inl rfl) e, t, fun pos cv z => let ⟨d, oc, u, vs, tk, z1, z2, z3⟩ := c pos cv z; ⟨d, oc, u, vs, tk, z1, hf _ _ _ z2, z3⟩⟩
  | met f y =>
    have e : h.get? a = some (PySem.W.methodObj (.ref f) (.ref y)) := x
    show h'.get? a = some (PySem.W.methodObj (.ref f) (.ref y))
    exact k a _ (.inl rfl) e
  | ext φ => obtain ⟨p, ⟨o, e⟩, st⟩ := x; exact ⟨st _ _ p fun o q => k _ _ (.inl rfl) q, ⟨o, k _ _ (.inl rfl) e⟩, st⟩
theorem HOk.lt (x : HOk P w H h) (e : H a = some o) : a < h.objs.size := (x a o e).lt
theorem HOk.fresh (x : HOk P w H h) (e : h.objs.size ≤ a) : H a = none := by
  cases q : H a with
  | none => rfl
  | some u => exact absurd (Nat.lt_of_lt_of_le (x.lt q) e) (Nat.lt_irrefl _)
theorem HOk.kept (x : HOk P w H h) (k : ∀ b u, h.get? b = some u → h'.get? b = some u) : HOk P w H h' := fun a o e =>
  (x a o e).stay (fun b u _ q => k b u q) (fun _ q => q) (fun _ _ q => q) fun _ _ _ q => q
theorem HOk.laid (x : HOk P w H h) (k : ∀ b u, h.get? b = some u → h'.get? b = some u) (hp : h.objs.size ≤ a) (new : ObjOk P w (upd H a o) h' a o) : HOk P w (upd H a o) h' := fun b u e => by
  have hn := x.fresh hp
  by_cases hb : b = a
  · subst hb; rw [upd_same] at e; cases e; exact new
  · rw [upd_ne hb] at e
    exact (x b u e).stay (fun c v _ q => k c v q) (fun c q => by rw [upd_ne (ne_of_none q hn)]; exact q) (fun c xs q => by rw [upd_ne (ne_of_none q hn)]; exact q) fun c o xs q => by rw [upd_ne (ne_of_none q hn)]; exact q
end
def Rd (H : Hp) (a : Addr) (u : HO) : Prop := H a = some u ∨ ∃ o, H a = some (.frz o u)
theorem Rd.of {H : Hp} {a : Addr} {u : HO} (h : H a = some u) : Rd H a u := .inl h
theorem Rd.ok {P : Program} {w : World} {H : Hp} {h : Heap} {a : Addr} {u : HO} (r : Rd H a u) (x : HOk P w H h) : ObjOk P w H h a u := by
  rcases r with r | ⟨o, r⟩
  · exact x a u r
  · obtain ⟨_, q⟩ := x a _ r
    exact q
def Mut : Option HO → Prop
  | some (.lst _) => True
  | some (.dK _) => True
  | some (.dT _) => True
  | some (.set _ _) => True
  | some (.ins _ _ _) => True
  | some (.ext _) => True
  | _ => False
section
variable {P : Program} {w : World} {H : Hp} {h h' : Heap} {x e : Addr} {o' : HO}
theorem HOk.write (ok : HOk P w H h) (mu : Mut (H x)) (he : e = x ∨ H e = some (.own x)) (k : ∀ b u, b ≠ e → h.get? b = some u → h'.get? b = some u) (heo : ∃ u, h'.get? e = some u)
    (new : ObjOk P w (upd H x o') h' x o') : HOk P w (upd H x o') h' := fun b u q => by
  have nown : ∀ c y, H c = some (.own y) → c ≠ x := fun c y r z => by subst z; rw [r] at mu; exact mu
  have ntup : ∀ c xs, H c = some (.tup xs) → c ≠ x := fun c xs r z => by subst z; rw [r] at mu; exact mu
  by_cases hb : b = x
  · subst hb; rw [upd_same] at q; cases q; exact new
  · rw [upd_ne hb] at q
    by_cases hbe : b = e
    · have q' : H b = some (.own x) := by
        rcases he with z | z
        · exact absurd (hbe.trans z) hb
        · rw [hbe]; exact z
      rw [q] at q'; cases q'
      obtain ⟨v, hv⟩ := heo
      exact ⟨v, by rw [hbe]; exact hv⟩
    · refine (ok b u q).stay (fun c v hc r => k c v ?_ r) (fun c r => by rw [upd_ne (nown c b r)]; exact r) (fun c xs r => by rw [upd_ne (ntup c xs r)]; exact r) fun c o xs r => by rw [upd_ne (fun z => by subst z; rw [r] at mu; exact mu)]; exact r
      rcases hc with rfl | hc
      · exact hbe
      · rintro rfl
        rcases he with z | z
        · exact nown c b hc z
        · rw [hc] at z; cases z; exact hb rfl
end
structure Un (fs ex : List Addr) (H H' : Hp) (h h' : Heap) : Prop where
  keep : ∀ b o, h.get? b = some o → H b = none → b ∉ fs → b ∉ ex → h'.get? b = some o
  slot : ∀ b o, h.get? b = some o → H b = none → b ∈ fs → b ∉ ex → ∃ sl, h'.get? b = some { o with slots := sl }
  free : ∀ b o, h.get? b = some o → H b = none → b ∉ ex → H' b = none
  there : ∀ b o, h.get? b = some o → b ∉ ex → ∃ o', h'.get? b = some o'
  tups : ∀ b xs, H b = some (.tup xs) → H' b = some (.tup xs)
  frzs : ∀ b o u, H b = some (.frz o u) → H' b = some (.frz o u)
  tbls : ∀ b q, H b = some (.tbl q) → H' b = some (.tbl q)
section
variable {fs fs' ex ex' : List Addr} {H H1 H2 : Hp} {h h1 h2 h' : Heap} {a x e : Addr} {o : HO}
theorem Un.any (u : Un fs ex H H1 h h1) {b : Addr} {ob : Obj} (q : h.get? b = some ob) (n : H b = none) (hx : b ∉ ex) : ∃ sl, h1.get? b = some { ob with slots := sl } := by
  by_cases hb : b ∈ fs
  · exact u.slot b ob q n hb hx
  · exact ⟨ob.slots, u.keep b ob q n hb hx⟩
theorem Un.trans (a : Un fs ex H H1 h h1) (b : Un fs ex H1 H2 h1 h2) : Un fs ex H H2 h h2 where
  keep := fun c ob q n hc hx => b.keep c ob (a.keep c ob q n hc hx) (a.free c ob q n hx) hc hx
  slot := fun c ob q n hc hx => by
    obtain ⟨sl, e1⟩ := a.slot c ob q n hc hx
    obtain ⟨sl', e2⟩ := b.slot c _ e1 (a.free c ob q n hx) hc hx
    exact ⟨sl', e2⟩
  free := fun c ob q n hx => by
    obtain ⟨o', e1⟩ := a.there c ob q hx
    exact b.free c o' e1 (a.free c ob q n hx) hx
  there := fun c ob q hx => by
    obtain ⟨o', e1⟩ := a.there c ob q hx
    exact b.there c o' e1 hx
  tups := fun c xs q => b.tups c xs (a.tups c xs q)
  frzs := fun c ob xs q => b.frzs c ob xs (a.frzs c ob xs q)
  tbls := fun c ps q => b.tbls c ps (a.tbls c ps q)
theorem Un.kept (k : ∀ b u, h.get? b = some u → h'.get? b = some u) : Un fs ex H H h h' :=
  ⟨fun b ob q _ _ _ => k b ob q, fun b ob q _ _ _ => ⟨ob.slots, k b ob q⟩, fun _ _ _ n _ => n, fun b ob q _ => ⟨ob, k b ob q⟩, fun _ _ q => q, fun _ _ _ q => q, fun _ _ q => q⟩
theorem Un.refl : Un fs ex H H h h := Un.kept fun _ _ q => q
theorem Un.laid (k : ∀ b u, h.get? b = some u → h'.get? b = some u) (hp : h.objs.size ≤ a) (hn : H a = none) : Un fs ex H (upd H a o) h h' where
  keep := fun b u q _ _ _ => k b u q
  slot := fun b u q _ _ _ => ⟨u.slots, k b u q⟩
  free := fun b u q n _ => by rw [upd_ne (Nat.ne_of_lt (Nat.lt_of_lt_of_le (Heap.lt_size q) hp))]; exact n
  there := fun b u q _ => ⟨u, k b u q⟩
  tups := fun b xs q => by rw [upd_ne (ne_of_none q hn)]; exact q
  frzs := fun b u xs q => by rw [upd_ne (ne_of_none q hn)]; exact q
  tbls := fun b ps q => by rw [upd_ne (ne_of_none q hn)]; exact q
theorem Un.write (mu : Mut (H x)) (he : e = x ∨ H e = some (.own x)) (k : ∀ b u, b ≠ e → h.get? b = some u → h'.get? b = some u) (heo : ∃ u, h'.get? e = some u) : Un fs ex H (upd H x o) h h' := by
  have hx : ∀ b, H b = none → b ≠ x := fun b n z => by subst z; rw [n] at mu; exact mu
  have hb : ∀ b, H b = none → b ≠ e := fun b n z => by
    subst z
    rcases he with r | r
    · exact hx b n r
    · rw [n] at r; cases r
  have hm : ∀ b u, H b = some u → ¬ Mut (some u) → b ≠ x := fun b u q nm z => by subst z; rw [q] at mu; exact nm mu
  refine ⟨fun b u q n _ _ => k b u (hb b n) q, fun b u q n _ _ => ⟨u.slots, k b u (hb b n) q⟩, fun b u q n _ => by rw [upd_ne (hx b n)]; exact n, fun b u q _ => ?_,
    fun b xs q => by rw [upd_ne (hm b _ q fun z => z)]; exact q, fun b u xs q => by rw [upd_ne (hm b _ q fun z => z)]; exact q, fun b ps q => by rw [upd_ne (hm b _ q fun z => z)]; exact q⟩
  by_cases hbe : b = e
  · subst hbe; exact heo
  · exact ⟨u, k b u hbe q⟩
theorem Un.mono (u : Un fs ex H H1 h h1) (hs : ∀ b ∈ fs, b ∈ fs') (hx : ∀ b ∈ ex, b ∈ ex') : Un fs' ex' H H1 h h1 :=
  ⟨fun b ob q n hb he => u.keep b ob q n (fun z => hb (hs b z)) fun z => he (hx b z), fun _ _ q n _ he => u.any q n fun z => he (hx _ z), fun b ob q n he => u.free b ob q n fun z => he (hx b z), fun b ob q he => u.there b ob q fun z => he (hx b z), u.tups, u.frzs, u.tbls⟩
end
def trk (h : Heap) (H : Hp) : List Addr := (List.range h.objs.size).filter fun a => (H a).isSome
def hidT (h : Heap) (H : Hp) : Heap := PySem.W.hideAll h (trk h H)
theorem hidT_size (h : Heap) (H : Hp) : (hidT h H).objs.size = h.objs.size := PySem.W.hideAll_size _ _
theorem hidT_get {h : Heap} {H : Hp} {b : Addr} {o : Obj} (e : h.get? b = some o) (n : H b = none) : (hidT h H).get? b = some o :=
  PySem.W.hideAll_get _ e fun hm => by
    have q : (H b).isSome = true := (List.mem_filter.mp hm).2
    rw [n] at q; simp at q
theorem of_hidT {h : Heap} {H : Hp} {b : Addr} {o : Obj} (e : (hidT h H).get? b = some o) : h.get? b = some o ∧ H b = none := by
  have e' : h.get? b = some o := PySem.W.of_hideAll (trk h H) e
  refine ⟨e', ?_⟩
  cases q : H b with
  | none => rfl
  | some x =>
    have hm : b ∈ trk h H := List.mem_filter.mpr ⟨List.mem_range.mpr (Heap.lt_size e'), by simp [q]⟩
    have z : (hidT h H).get? b = none := PySem.W.hideAll_none (trk h H) hm
    rw [z] at e; cases e
def allNews (g h : Heap) (L : Addr) : List (Addr × Obj) := (List.range h.objs.size).filterMap fun a => if a = L ∨ (g.get? a).isSome = true then none else (h.get? a).map fun o => (a, o)
def rest (g h : Heap) (L d : Addr) : List (Addr × Obj) := (allNews g h L).filter fun p => decide (p.1 ≠ d)
structure Mod (K : PySem.W.Frag) (mg : Str → Option Value) (base : Heap) : Prop where
  kin : K.In base
  glob : base.Ns mainGlobals mg
  blt : ∃ mb, base.Ns builtinsNs mb ∧ ∀ x : Str, x ≠ "__name__" → mb x = bootBuiltins x
  nolimit : base.NoLimit
  bmain : ∃ bm ob, mg "__builtins__" = some (.ref bm) ∧ bm ≠ builtinsNs ∧ base.get? bm = some ob ∧ ob.cls = .type "module" ∧ ob.dict = some builtinsNs ∧ ob.data = .plain
structure Cx where
  prog : Program
  w : World
  K : PySem.W.Frag
  mg : Str → Option Value
  base : Heap
  A : Around
  N : List Str
  s₀ : Shared
  H₀ : Hp
  env : Env
  outer : List Env
  stack : List Env
  ex : List Addr
  fn : Str → Bool
  calm : Bool
  pn : List (Addr × Obj)
  xe : Value → Shared → Prop
def frs (l : List Env) : List Addr := l.filterMap (·.frame)
abbrev Cx.fs (X : Cx) : List Addr := frs X.outer
def Vis (sc : Scope) (x : Str) : Prop := sc.names.lookup x = some .local ∨ sc.names.lookup x = some .cell ∨ sc.names.lookup x = some .free
def Loc (sc : Scope) (x : Str) : Prop := sc.names.lookup x = some .local ∨ sc.names.lookup x = some .cell
def Look (env : Env) (h : Heap) (m : Str → Option Value) (x : Str) (u : Value) : Prop :=
  (env.kindOf x = some .local ∧ m x = some u) ∨ ((env.kindOf x = some .cell ∨ env.kindOf x = some .free) ∧ ∃ c, env.cells.lookup x = some c ∧ h.IsCell c (some u))
structure Cx.Ok (X : Cx) : Prop where
  mod : Mod X.K X.mg X.base
  kind : X.env.scope.kind = .function
  glob : X.env.globals = mainGlobals
  blt : X.env.builtins = builtinsNs
  above : X.s₀.heap.objs.size ≤ X.env.locals
  inj : ∀ x y c, X.env.cells.lookup x = some c → X.env.cells.lookup y = some c → x = y
  has : ∀ x, (X.env.kindOf x = some .cell ∨ X.env.kindOf x = some .free) → ∃ c, X.env.cells.lookup x = some c
  cab : ∀ x c, X.fn x = true → X.env.cells.lookup x = some c → X.s₀.heap.objs.size ≤ c
  hd : X.calm = true → X.A.handled = none
  frames : X.A.frames = some X.stack
  stk : X.stack = X.outer ∨ (X.stack = X.env :: X.outer ∧ X.env.frame = some X.env.locals)
  exf : ∀ b ∈ X.ex, b ≠ X.env.locals ∧ ∀ x c, X.env.cells.lookup x = some c → c ≠ b
  bs : ∀ b o, X.base.get? b = some o → X.s₀.heap.get? b = some o ∧ X.H₀ b = none
  bsz : X.base.objs.size ≤ X.s₀.heap.objs.size
  noex : ∀ b o, X.base.get? b = some o → b ∉ X.ex
  exfs : ∀ b ∈ X.ex, b ∉ X.fs
  funs : X.s₀.heap.FunFrames X.base X.outer
  frf : ∀ b ∈ X.fs, X.H₀ b = none
structure Inv (X : Cx) (pins : List (Addr × Obj)) (σ : List (Option V)) (H : Hp) (s : Shared) : Prop where
  ok : X.Ok
  os : s.os = X.s₀.os
  bare : AllBare s.gens
  base : Un X.fs X.ex X.H₀ H X.s₀.heap s.heap
  loc : ∃ m, s.heap.Ns X.env.locals m ∧ ∀ (i : Nat) (x : Str) (v : V), X.N[i]? = some x → σ[i]? = some (some v) → Vis X.env.scope x → ∃ u, RelV v u ∧ Look X.env s.heap m x u
  cell : ∀ x c, X.env.cells.lookup x = some c → ∃ v, s.heap.IsCell c v
  free : H X.env.locals = none
  freeC : ∀ x c, X.env.cells.lookup x = some c → H c = none
  pin : ∀ p ∈ X.pn ++ pins, s.heap.get? p.1 = some p.2 ∧ H p.1 = none ∧ p.1 ≠ X.env.locals ∧ p.1 ∉ X.fs ∧ ∀ v, p.2.data ≠ .cell v
  hok : HOk X.prog X.w H s.heap
  len : σ.length = X.N.length
section
variable {X : Cx} {pins : List (Addr × Obj)} {σ : List (Option V)} {H H' : Hp} {s : Shared} {h' : Heap}
theorem Cx.Ok.nofr (ok : X.Ok) {b : Addr} {o : Obj} (e : X.base.get? b = some o) : b ∉ X.fs := fun hb => by
  have := (ok.funs.mem hb).1
  rw [e] at this; cases this
theorem Inv.bs (I : Inv X pins σ H s) : ∀ b o, X.base.get? b = some o → s.heap.get? b = some o ∧ H b = none := fun b o e =>
  ⟨I.base.keep b o (I.ok.bs b o e).1 (I.ok.bs b o e).2 (I.ok.nofr e) (I.ok.noex b o e), I.base.free b o (I.ok.bs b o e).1 (I.ok.bs b o e).2 (I.ok.noex b o e)⟩
theorem Inv.bk (I : Inv X pins σ H s) : ∀ b o, X.base.get? b = some o → s.heap.get? b = some o := fun b o e => (I.bs b o e).1
theorem Inv.mod (I : Inv X pins σ H s) : Mod X.K X.mg X.base := I.ok.mod
theorem Inv.kIn (I : Inv X pins σ H s) : X.K.In s.heap := I.ok.mod.kin.keeps I.bk
theorem Inv.nolimit (I : Inv X pins σ H s) : s.heap.NoLimit := I.ok.mod.nolimit.keeps I.bk
theorem Inv.lt (I : Inv X pins σ H s) : X.env.locals < s.heap.objs.size := let ⟨_, hn, _⟩ := I.loc; hn.lt
theorem Inv.sz (I : Inv X pins σ H s) : X.s₀.heap.objs.size ≤ s.heap.objs.size := Nat.le_trans I.ok.above (Nat.le_of_lt I.lt)
theorem Inv.nofs (I : Inv X pins σ H s) {a : Addr} (h : s.heap.objs.size ≤ a) : a ∉ X.fs := fun hb => by
  obtain ⟨_, o, ho, _⟩ := I.ok.funs.mem hb
  exact absurd (Nat.lt_of_lt_of_le (Heap.lt_size ho) (Nat.le_trans I.sz h)) (Nat.lt_irrefl _)
theorem Inv.cne (I : Inv X pins σ H s) : ∀ x c, X.env.cells.lookup x = some c → c ≠ X.env.locals := fun x c e z => by
  obtain ⟨v, o, ho, hd⟩ := I.cell x c e
  obtain ⟨m, ⟨o', es, ep, ho', hd', _⟩, _⟩ := I.loc
  rw [z, ho'] at ho; cases ho; rw [hd'] at hd; cases hd
theorem Inv.funs (I : Inv X pins σ H s) : s.heap.FunFrames X.base X.outer := by
  have all : ∀ (l : List Env), (∀ b ∈ frs l, b ∈ X.fs) → X.s₀.heap.FunFrames X.base l → s.heap.FunFrames X.base l := by
    intro l
    induction l with
    | nil => intro _ _; trivial
    | cons env r ih =>
      intro hs hl
      obtain ⟨hk, ⟨L, o, hf, hn, ho, hd⟩, hr⟩ := hl
      have hL : L ∈ X.fs := hs L (by unfold frs; rw [List.filterMap_cons, hf]; exact List.mem_cons_self)
      obtain ⟨sl, e⟩ := I.base.slot L o ho (I.ok.frf L hL) hL fun z => I.ok.exfs L z hL
      exact ⟨hk, ⟨L, _, hf, hn, e, hd⟩, ih (fun b hb => hs b (by unfold frs; rw [List.filterMap_cons, hf]; exact List.mem_cons_of_mem _ hb)) hr⟩
  exact all X.outer (fun _ hb => hb) I.ok.funs
theorem Inv.stack (I : Inv X pins σ H s) : s.heap.FunFrames X.base X.stack := by
  rcases I.ok.stk with e | ⟨e, hf⟩
  · rw [e]; exact I.funs
  · rw [e]
    obtain ⟨m, hn, _⟩ := I.loc
    refine .cons (by rw [I.ok.kind]; decide) hf hn ?_ I.funs
    exact Heap.get?_none_of_le (Nat.le_trans I.ok.bsz I.ok.above)
theorem Inv.stkSub (I : Inv X pins σ H s) : ∀ b ∈ frs X.stack, b ∈ X.env.locals :: X.fs := fun b hb => by
  rcases I.ok.stk with e | ⟨e, hf⟩
  · rw [e] at hb; exact List.mem_cons_of_mem _ hb
  · rw [e] at hb
    unfold frs at hb
    rw [List.filterMap_cons, hf] at hb
    exact hb
theorem Inv.stkFree (I : Inv X pins σ H s) : ∀ b ∈ frs X.stack, H b = none := fun b hb => by
  rcases List.mem_cons.mp (I.stkSub b hb) with e | hb
  · rw [e]; exact I.free
  · obtain ⟨_, o, ho, _⟩ := I.ok.funs.mem hb
    exact I.base.free b o ho (I.ok.frf b hb) fun z => I.ok.exfs b z hb
theorem Inv.step {g' : Array GenState} {t' : Nat} {d' : Drawn} {ch : List Addr} (I : Inv X pins σ H s)
    (hch : ∀ b ∈ ch, (b ∈ X.ex ∨ X.s₀.heap.objs.size ≤ b) ∧ b ≠ X.env.locals ∧ (∀ x c, X.env.cells.lookup x = some c → c ≠ b) ∧ ∀ p ∈ X.pn ++ pins, p.1 ≠ b)
    (keep : ∀ b o, b ≠ X.env.locals → b ∉ X.fs → b ∉ ch → s.heap.get? b = some o → H b = none → h'.get? b = some o)
    (slot : ∀ b o, b ≠ X.env.locals → b ∈ X.fs → b ∉ ch → s.heap.get? b = some o → H b = none → ∃ sl, h'.get? b = some { o with slots := sl }) (free : ∀ b o, b ∉ ch → s.heap.get? b = some o → H b = none → H' b = none)
    (there : ∀ b o, b ∉ ch → s.heap.get? b = some o → ∃ o', h'.get? b = some o')
    (tups : ∀ b xs, H b = some (.tup xs) → H' b = some (.tup xs)) (frzs : ∀ b o u, H b = some (.frz o u) → H' b = some (.frz o u)) (tbls : ∀ b q, H b = some (.tbl q) → H' b = some (.tbl q))
    (ns : ∀ m, s.heap.Ns X.env.locals m → h'.Ns X.env.locals m) (hok : HOk X.prog X.w H' h') (hg : AllBare g') :
    Inv X pins σ H' { s with heap := h', gens := g', drawn := d', toks := t' } := by
  have neL : ∀ b o, X.s₀.heap.get? b = some o → b ≠ X.env.locals := fun b o e => Nat.ne_of_lt (Nat.lt_of_lt_of_le (Heap.lt_size e) I.ok.above)
  have neC : ∀ b o, X.s₀.heap.get? b = some o → b ∉ X.ex → b ∉ ch := fun b o e hx hb => by
    rcases (hch b hb).1 with z | z
    · exact hx z
    · exact absurd (Nat.lt_of_lt_of_le (Heap.lt_size e) z) (Nat.lt_irrefl _)
  have cellK : ∀ x c, X.env.cells.lookup x = some c → ∀ v, s.heap.IsCell c v → h'.IsCell c v := fun x c e v ⟨o, ho, hd⟩ => by
    have nch : c ∉ ch := fun z => (hch c z).2.2.1 x c e rfl
    by_cases hc : c ∈ X.fs
    · obtain ⟨sl, q⟩ := slot c o (I.cne x c e) hc nch ho (I.freeC x c e)
      exact ⟨_, q, hd⟩
    · exact ⟨o, keep c o (I.cne x c e) hc nch ho (I.freeC x c e), hd⟩
  refine ⟨I.ok, I.os, hg, ⟨fun b o e n hb hx => ?_, fun b o e n hb hx => ?_, fun b o e n hx => ?_, fun b o e hx => ?_, fun b xs e => tups b xs (I.base.tups b xs e), fun b o xs e => frzs b o xs (I.base.frzs b o xs e), fun b ps e => ?_⟩, ?_, fun x c e => ?_, ?_, fun x c e => ?_, fun p hp => ?_, hok, I.len⟩
  · exact keep b o (neL b o e) hb (neC b o e hx) (I.base.keep b o e n hb hx) (I.base.free b o e n hx)
  · obtain ⟨sl, e1⟩ := I.base.slot b o e n hb hx
    obtain ⟨sl', e2⟩ := slot b _ (neL b o e) hb (neC b o e hx) e1 (I.base.free b o e n hx)
    exact ⟨sl', e2⟩
  · obtain ⟨o', e1⟩ := I.base.there b o e hx
    exact free b o' (neC b o e hx) e1 (I.base.free b o e n hx)
  · obtain ⟨o', e1⟩ := I.base.there b o e hx
    exact there b o' (neC b o e hx) e1
  · exact tbls b _ (I.base.tbls b ps e)
  · obtain ⟨m, hn, hl⟩ := I.loc
    refine ⟨m, ns m hn, fun i x v e1 e2 e3 => ?_⟩
    obtain ⟨u, r, l⟩ := hl i x v e1 e2 e3
    refine ⟨u, r, ?_⟩
    rcases l with l | ⟨k, c, e, z⟩
    · exact .inl l
    · exact .inr ⟨k, c, e, cellK x c e _ z⟩
  · obtain ⟨v, z⟩ := I.cell x c e
    exact ⟨v, cellK x c e v z⟩
  · obtain ⟨m, ⟨o, _, _, ho, _⟩, _⟩ := I.loc
    exact free _ o (fun z => (hch _ z).2.1 rfl) ho I.free
  · obtain ⟨v, o, ho, hd⟩ := I.cell x c e
    exact free c o (fun z => (hch c z).2.2.1 x c e rfl) ho (I.freeC x c e)
  · obtain ⟨e, n, ne, nf, d⟩ := I.pin p hp
    have nch : p.1 ∉ ch := fun z => (hch p.1 z).2.2.2 p hp rfl
    exact ⟨keep p.1 p.2 ne nf nch e n, free p.1 p.2 nch e n, ne, nf, d⟩
theorem Inv.un {t' : Nat} (I : Inv X pins σ H s) (u : Un X.fs [] H H' s.heap h') (hok : HOk X.prog X.w H' h') : Inv X pins σ H' { s with heap := h', toks := t' } := by
  obtain ⟨m, ⟨o, es, ep, ho, r⟩, _⟩ := id I.loc
  obtain ⟨sl, hL⟩ := u.any ho I.free (by simp)
  exact I.step (g' := s.gens) (d' := s.drawn) (ch := []) (fun _ z => nomatch z) (fun b o _ hb _ e n => u.keep b o e n hb (by simp)) (fun b o _ hb _ e n => u.slot b o e n hb (by simp)) (fun b o _ e n => u.free b o e n (by simp)) (fun b o _ e => u.there b o e (by simp)) u.tups u.frzs u.tbls (fun m' hm => by
    obtain ⟨o', es', ep', ho', r'⟩ := hm
    rw [ho] at ho'; cases ho'
    exact ⟨_, es', ep', hL, r'⟩) hok I.bare
theorem Inv.call {g' : Array GenState} {t' : Nat} {d' : Drawn} {ch : List Addr} (I : Inv X pins σ H s) (u : Un (frs X.stack) ch H H' s.heap h') (hok : HOk X.prog X.w H' h') (hg : AllBare g')
    (hch : ∀ b ∈ ch, (b ∈ X.ex ∨ X.s₀.heap.objs.size ≤ b) ∧ b ≠ X.env.locals ∧ (∀ x c, X.env.cells.lookup x = some c → c ≠ b) ∧ ∀ p ∈ X.pn ++ pins, p.1 ≠ b) :
    Inv X pins σ H' { s with heap := h', gens := g', drawn := d', toks := t' } := by
  obtain ⟨m, ⟨o, es, ep, ho, r⟩, _⟩ := id I.loc
  obtain ⟨sl, hL⟩ := u.any ho I.free fun z => (hch _ z).2.1 rfl
  exact I.step (ch := ch) hch (fun b o hL hb hc e n => u.keep b o e n (fun z => (List.mem_cons.mp (I.stkSub b z)).elim hL hb) hc) (fun b o _ _ hc e n => u.any e n hc) (fun b o hc e n => u.free b o e n hc) (fun b o hc e => u.there b o e hc) u.tups u.frzs u.tbls (fun m' hm => by
    obtain ⟨o', es', ep', ho', r'⟩ := hm
    rw [ho] at ho'; cases ho'
    exact ⟨_, es', ep', hL, r'⟩) hok hg
theorem Inv.turned {t' : Nat} {it : Addr} (I : Inv X pins σ H s) (k : ∀ b o, b ≠ it → s.heap.get? b = some o → h'.get? b = some o) (hn : H it = none) (hL : it ≠ X.env.locals)
    (h1 : it ∈ X.ex ∨ X.s₀.heap.objs.size ≤ it) (h2 : ∀ x c, X.env.cells.lookup x = some c → c ≠ it) (h3 : ∀ p ∈ X.pn ++ pins, p.1 ≠ it) : Inv X pins σ H { s with heap := h', toks := t' } := by
  have nit : ∀ b u, H b = some u → b ≠ it := fun b u e z => by rw [z, hn] at e; cases e
  refine I.step (g' := s.gens) (d' := s.drawn) (ch := [it]) (fun b hb => ?_) (fun b o _ _ hc e _ => k b o (fun z => hc (by simp [z])) e) (fun b o _ _ hc e _ => ⟨o.slots, k b o (fun z => hc (by simp [z])) e⟩) (fun _ _ _ _ n => n)
    (fun b o hc e => ⟨o, k b o (fun z => hc (by simp [z])) e⟩) (fun _ _ e => e) (fun _ _ _ e => e) (fun _ _ e => e) (fun m hm => ?_) (fun b u e => ?_) I.bare
  · have e : b = it := by simpa using hb
    subst e
    exact ⟨h1, hL, h2, h3⟩
  · obtain ⟨o, es, ep, ho, r⟩ := hm
    exact ⟨o, es, ep, k _ o (Ne.symm hL) ho, r⟩
  · refine (I.hok b u e).stay (fun c v hc q => k c v ?_ q) (fun _ q => q) (fun _ _ q => q) fun _ _ _ q => q
    rcases hc with z | z
    · rw [z]; exact nit b u e
    · exact nit c _ z
theorem Inv.tok (I : Inv X pins σ H s) (t : Nat) : Inv X pins σ H { s with toks := t } := I.un (h' := s.heap) (t' := t) Un.refl I.hok
theorem Inv.kept {t' : Nat} (I : Inv X pins σ H s) (k : ∀ b u, s.heap.get? b = some u → h'.get? b = some u) : Inv X pins σ H { s with heap := h', toks := t' } := I.un (Un.kept k) (I.hok.kept k)
theorem Inv.laid {a : Addr} {o : HO} {t' : Nat} (I : Inv X pins σ H s) (k : ∀ b u, s.heap.get? b = some u → h'.get? b = some u) (hp : s.heap.objs.size ≤ a) (new : ObjOk X.prog X.w (upd H a o) h' a o) :
    Inv X pins σ (upd H a o) { s with heap := h', toks := t' } := I.un (Un.laid k hp (I.hok.fresh hp)) (I.hok.laid k hp new)
theorem Inv.write {x e : Addr} {o : HO} {t' : Nat} (I : Inv X pins σ H s) (mu : Mut (H x)) (he : e = x ∨ H e = some (.own x)) (k : ∀ b u, b ≠ e → s.heap.get? b = some u → h'.get? b = some u) (heo : ∃ u, h'.get? e = some u)
    (new : ObjOk X.prog X.w (upd H x o) h' x o) : Inv X pins σ (upd H x o) { s with heap := h', toks := t' } := I.un (Un.write mu he k heo) (I.hok.write mu he k heo new)
theorem Inv.pins_of {pins' : List (Addr × Obj)} (I : Inv X pins σ H s) (h : ∀ p ∈ pins', s.heap.get? p.1 = some p.2 ∧ H p.1 = none ∧ p.1 ≠ X.env.locals ∧ p.1 ∉ X.fs ∧ ∀ v, p.2.data ≠ .cell v) : Inv X pins' σ H s :=
  ⟨I.ok, I.os, I.bare, I.base, I.loc, I.cell, I.free, I.freeC, fun p hp => (List.mem_append.mp hp).elim (fun z => I.pin p (List.mem_append_left _ z)) (h p), I.hok, I.len⟩
theorem nodup_ix {N : List Str} (hN : N.Nodup) {i j : Nat} {x : Str} (a : N[i]? = some x) (b : N[j]? = some x) : i = j := by
  obtain ⟨h1, e1⟩ := List.getElem?_eq_some_iff.mp a
  obtain ⟨h2, e2⟩ := List.getElem?_eq_some_iff.mp b
  exact (List.getElem_inj hN).mp (e1.trans e2.symm)
theorem store_ok2 {M : Model} {A : Around} {E : Value → Shared → Prop} {i : Nat} {x : Str} {v : V} {u : Value} {Q : Unit → Shared → Prop} (I : Inv X pins σ H s) (hN : X.N.Nodup) (hi : X.N[i]? = some x) (hx : Loc X.env.scope x) (r : RelV v u)
    (h : ∀ s', Inv X pins (σ.set i (some v)) H s' → (∃ a, Heap.SameBut a s.heap s'.heap ∧ (a = X.env.locals ∨ X.env.cells.lookup x = some a)) → Q () s') (hf : X.fn x = true ∨ X.env.scope.names.lookup x = some .local := by first | exact .inl rfl | exact .inr rfl | assumption) : wpAny M A (storeName X.env x u) Q E s := by
  obtain ⟨m, hn, hl⟩ := id I.loc
  have hcls : (X.env.scope.kind == .class || (X.env.scope.kind == .module && X.env.locals != X.env.globals)) = false := by rw [I.ok.kind]; rfl
  have hiσ : i < σ.length := by rw [I.len]; exact (List.getElem?_eq_some_iff.mp hi).1
  have cne := I.cne
  have tracked : ∀ {a : Addr} {h' : Heap}, (∃ o, s.heap.get? a = some o ∧ H a = none) → Heap.SameBut a s.heap h' → HOk X.prog X.w H h' := fun {a h'} ha hs b ob e => by
    obtain ⟨_, _, hfree⟩ := ha
    refine (I.hok b ob e).stay (fun c w' hc q => (hs.2 c ?_).trans q) (fun _ q => q) (fun _ _ q => q) fun _ _ _ q => q
    rintro rfl
    rcases hc with rfl | hc
    · rw [hfree] at e; cases e
    · rw [hfree] at hc; cases hc
  rcases hx with hk | hk
  · refine wpAny_storeName_local hk hn (fun h' hn' hs => ?_) hcls
    obtain ⟨oL, _, _, hoL, _⟩ := id hn
    refine h _ ⟨I.ok, I.os, I.bare, ⟨fun b o e n hb hx => ?_, fun b o e n hb hx => ?_, I.base.free, fun b o e hx => ?_, I.base.tups, I.base.frzs, I.base.tbls⟩, ⟨_, hn', fun j y v' e1 e2 e3 => ?_⟩, fun y c e => ?_, I.free, I.freeC, fun p hp => ?_, tracked ⟨oL, hoL, I.free⟩ hs, by simpa using I.len⟩ ⟨_, hs, .inl rfl⟩
    · exact (hs.2 b (Nat.ne_of_lt (Nat.lt_of_lt_of_le (Heap.lt_size e) I.ok.above))).trans (I.base.keep b o e n hb hx)
    · obtain ⟨sl, e1⟩ := I.base.slot b o e n hb hx
      exact ⟨sl, (hs.2 b (Nat.ne_of_lt (Nat.lt_of_lt_of_le (Heap.lt_size e) I.ok.above))).trans e1⟩
    · obtain ⟨o', e1⟩ := I.base.there b o e hx
      exact ⟨o', (hs.2 b (Nat.ne_of_lt (Nat.lt_of_lt_of_le (Heap.lt_size e) I.ok.above))).trans e1⟩
    · by_cases hj : j = i
      · subst hj
        rw [hi] at e1; cases e1
        rw [List.getElem?_set_self hiσ] at e2
        cases e2
        exact ⟨u, r, .inl ⟨hk, by simp⟩⟩
      · rw [List.getElem?_set_ne (Ne.symm hj)] at e2
        obtain ⟨u', r', q⟩ := hl j y v' e1 e2 e3
        refine ⟨u', r', ?_⟩
        rcases q with ⟨k, e⟩ | ⟨k, c, e, z⟩
        · refine .inl ⟨k, ?_⟩
          have : y ≠ x := fun e => hj (nodup_ix hN e1 (e ▸ hi))
          simp [this, e]
        · exact .inr ⟨k, c, e, z.sameBut hs (cne y c e)⟩
    · obtain ⟨w', z⟩ := I.cell y c e
      exact ⟨w', z.sameBut hs (cne y c e)⟩
    · obtain ⟨e, n, ne, nf, d⟩ := I.pin p hp
      exact ⟨(hs.2 p.1 ne).trans e, n, ne, nf, d⟩
  · have hfn : X.fn x = true := by
      rcases hf with z | z
      · exact z
      · rw [z] at hk; cases hk
    obtain ⟨c, hc⟩ := I.ok.has x (.inl hk)
    obtain ⟨w', z⟩ := I.cell x c hc
    refine wpAny_storeName_cell I.ok.kind hk hc z (fun h' hc' hs => ?_)
    obtain ⟨oc, hoc, hocd⟩ := id z
    refine h { s with heap := h' } ⟨I.ok, I.os, I.bare, ⟨fun b o e n hb hx => ?_, fun b o e n hb hx => ?_, I.base.free, fun b o e hx => ?_, I.base.tups, I.base.frzs, I.base.tbls⟩, ⟨m, hn.sameBut hs (Ne.symm (cne x c hc)), fun j y v' e1 e2 e3 => ?_⟩, fun y c' e => ?_, I.free, I.freeC, fun p hp => ?_, tracked ⟨oc, hoc, I.freeC x c hc⟩ hs, by simpa using I.len⟩ ⟨c, hs, .inr hc⟩
    · exact (hs.2 b (Nat.ne_of_lt (Nat.lt_of_lt_of_le (Heap.lt_size e) (I.ok.cab x c hfn hc)))).trans (I.base.keep b o e n hb hx)
    · obtain ⟨sl, e1⟩ := I.base.slot b o e n hb hx
      exact ⟨sl, (hs.2 b (Nat.ne_of_lt (Nat.lt_of_lt_of_le (Heap.lt_size e) (I.ok.cab x c hfn hc)))).trans e1⟩
    · obtain ⟨o', e1⟩ := I.base.there b o e hx
      exact ⟨o', (hs.2 b (Nat.ne_of_lt (Nat.lt_of_lt_of_le (Heap.lt_size e) (I.ok.cab x c hfn hc)))).trans e1⟩
    · by_cases hj : j = i
      · subst hj
        rw [hi] at e1; cases e1
        rw [List.getElem?_set_self hiσ] at e2
        cases e2
        exact ⟨u, r, .inr ⟨.inl hk, c, hc, hc'⟩⟩
      · rw [List.getElem?_set_ne (Ne.symm hj)] at e2
        obtain ⟨u', r', q⟩ := hl j y v' e1 e2 e3
        refine ⟨u', r', ?_⟩
        rcases q with q | ⟨k, c', e, z'⟩
        · exact .inl q
        · refine .inr ⟨k, c', e, z'.sameBut hs ?_⟩
          rintro rfl
          exact hj (nodup_ix hN e1 (I.ok.inj _ _ _ e hc ▸ hi))
    · by_cases hcc : c' = c
      · subst hcc; exact ⟨_, hc'⟩
      · obtain ⟨w2, z2⟩ := I.cell y c' e
        exact ⟨w2, z2.sameBut hs hcc⟩
    · obtain ⟨e, n, ne, nf, d⟩ := I.pin p hp
      refine ⟨(hs.2 p.1 ?_).trans e, n, ne, nf, d⟩
      intro q
      rw [q, hoc] at e
      have q' : oc = p.2 := Option.some.inj e
      exact d w' (by rw [← q']; exact hocd)
theorem store_ok {M : Model} {A : Around} {E : Value → Shared → Prop} {i : Nat} {x : Str} {v : V} {u : Value} {Q : Unit → Shared → Prop} (I : Inv X pins σ H s) (hN : X.N.Nodup) (hi : X.N[i]? = some x) (hx : Loc X.env.scope x) (r : RelV v u)
    (h : ∀ s', Inv X pins (σ.set i (some v)) H s' → Q () s') (hf : X.fn x = true ∨ X.env.scope.names.lookup x = some .local := by first | exact .inl rfl | exact .inr rfl | assumption) : wpAny M A (storeName X.env x u) Q E s :=
  store_ok2 I hN hi hx r (fun s' I' _ => h s' I') hf
theorem Inv.call' {s' : Shared} {ch : List Addr} (I : Inv X pins σ H s) (ho : s'.os = s.os) (u : Un (frs X.stack) ch H H' s.heap s'.heap) (hok : HOk X.prog X.w H' s'.heap) (hg : AllBare s'.gens)
    (hch : ∀ b ∈ ch, (b ∈ X.ex ∨ X.s₀.heap.objs.size ≤ b) ∧ b ≠ X.env.locals ∧ (∀ x c, X.env.cells.lookup x = some c → c ≠ b) ∧ ∀ p ∈ X.pn ++ pins, p.1 ≠ b) : Inv X pins σ H' s' := by
  obtain ⟨h', g', d', t', o'⟩ := s'
  have e : o' = s.os := ho
  subst e
  exact I.call (g' := g') (t' := t') (d' := d') u hok hg hch
end
abbrev XK := Value → Option Addr → Hp → Prop
abbrev St := List (Option V)
abbrev VK := V → Hp → Prop
abbrev TE := St → Hp → VK → Prop
abbrev TT := St → Hp → (Bool → Hp → Prop) → Prop
abbrev TA := St → Hp → (List V → Hp → Prop) → Prop
structure Ends where
  nx : St → Hp → Prop
  rt : VK
  bk : St → Hp → Prop := fun _ _ => False
  ct : St → Hp → Prop := fun _ _ => False
abbrev TS := Ends → St → Hp → Prop
def EP (X : Cx) (pins : List (Addr × Obj)) (σ : St) (Q : VK) (u : Value) (s' : Shared) : Prop := ∃ v H', Inv X pins σ H' s' ∧ RelV v u ∧ Q v H'
def TP (X : Cx) (pins : List (Addr × Obj)) (σ : St) (Q : Bool → Hp → Prop) (b : Bool) (s' : Shared) : Prop := ∃ H', Inv X pins σ H' s' ∧ Q b H'
def AP (X : Cx) (pins : List (Addr × Obj)) (σ : St) (Q : List V → Hp → Prop) (us : List Value) (s' : Shared) : Prop := ∃ vs H', Inv X pins σ H' s' ∧ Vals vs us ∧ Q vs H'
def SP (X : Cx) (pins : List (Addr × Obj)) (D : Ends) (f : Flow) (s' : Shared) : Prop :=
  match f with
  | .next => ∃ σ' H', Inv X pins σ' H' s' ∧ D.nx σ' H'
  | .brk => ∃ σ' H', Inv X pins σ' H' s' ∧ D.bk σ' H'
  | .cont => ∃ σ' H', Inv X pins σ' H' s' ∧ D.ct σ' H'
  | .ret u => ∃ v σ' H', Inv X pins σ' H' s' ∧ RelV v u ∧ D.rt v H'
def PE (X : Cx) (e : Expr) (t : TE) : Prop :=
  ∀ (pins : List (Addr × Obj)) (s : Shared) (σ : St) (H : Hp) (Q : VK), Inv X pins σ H s → t σ H Q → wpAny (model X.prog X.w) X.A (eval e X.env) (EP X pins σ Q) X.xe s
def PT (X : Cx) (e : Expr) (t : TT) : Prop :=
  ∀ (pins : List (Addr × Obj)) (s : Shared) (σ : St) (H : Hp) (Q : Bool → Hp → Prop), Inv X pins σ H s → t σ H Q → wpAny (model X.prog X.w) X.A (isTrue e X.env (eval e X.env)) (TP X pins σ Q) X.xe s
def PW (X : Cx) (e : Expr) (t : TT) : Prop :=
  ∀ (whole : Sem Value) (pins : List (Addr × Obj)) (s : Shared) (σ : St) (H : Hp) (Q : Bool → Hp → Prop), Inv X pins σ H s → t σ H Q → wpAny (model X.prog X.w) X.A (isTrue e X.env whole) (TP X pins σ Q) X.xe s
theorem PW.pt {X : Cx} {e : Expr} {t : TT} (h : PW X e t) : PT X e t := h _
def PA (X : Cx) (es : List Expr) (t : TA) : Prop :=
  ∀ (pos : Pos) (pins : List (Addr × Obj)) (s : Shared) (σ : St) (H : Hp) (Q : List V → Hp → Prop), Inv X pins σ H s → t σ H Q → wpAny (model X.prog X.w) X.A (spliced (backTo pos (starEach es X.env))) (AP X pins σ Q) X.xe s
def PS (X : Cx) (st : Stmt) (t : TS) : Prop :=
  ∀ (pins : List (Addr × Obj)) (s : Shared) (σ : St) (H : Hp) (D : Ends), Inv X pins σ H s → t D σ H → wpAny (model X.prog X.w) X.A (exec st X.env) (SP X pins D) X.xe s
def PSs (X : Cx) (st : List Stmt) (t : TS) : Prop :=
  ∀ (pins : List (Addr × Obj)) (s : Shared) (σ : St) (H : Hp) (D : Ends), Inv X pins σ H s → t D σ H → wpAny (model X.prog X.w) X.A (execs st X.env) (SP X pins D) X.xe s
theorem thn {α : Type} {t : Sem α} {Q Q' : α → Shared → Prop} {M : Model} {A : Around} {E : Value → Shared → Prop} {s : Shared} (h : wpAny M A t Q E s) (hQ : ∀ a s, Q a s → Q' a s) : wpAny M A t Q' E s := wpAny_mono h hQ fun _ _ x => x
section
variable {X : Cx}
theorem bin {a b : Expr} {ta tb : TE} (ha : PE X a ta) (hb : PE X b tb) {pins : List (Addr × Obj)} {s : Shared} {σ : St} {H : Hp} {R : V → V → Hp → Prop} (I : Inv X pins σ H s) (h : ta σ H fun x H1 => tb σ H1 fun y H2 => R x y H2)
    {α : Type} {Q : α → Shared → Prop} {f : Value → Value → Sem α}
    (hf : ∀ v u s2 x y H2, Inv X pins σ H2 s2 → RelV x v → RelV y u → R x y H2 → wpAny (model X.prog X.w) X.A (f v u) Q X.xe s2) :
    wpAny (model X.prog X.w) X.A (eval a X.env) (fun v s₁ => wpAny (model X.prog X.w) X.A (eval b X.env) (fun u s₂ => wpAny (model X.prog X.w) X.A (f v u) Q X.xe s₂) X.xe s₁) X.xe s := by
  refine thn (ha pins s σ H _ I h) fun v s1 ⟨x, H1, I1, r1, q1⟩ => ?_
  refine thn (hb pins s1 σ H1 _ I1 q1) fun u s2 ⟨y, H2, I2, r2, q2⟩ => ?_
  exact hf v u s2 x y H2 I2 r1 r2 q2
def tVar (i : Nat) : TE := fun σ H Q => ∃ v, σ[i]? = some (some v) ∧ Q v H
def tC (v : V) : TE := fun _ H Q => Q v H
theorem pe_var {i : Nat} {x : Str} {pos : Pos} (hN : X.N[i]? = some x) (hv : Vis X.env.scope x) (hd : (x == ("__debug__" : Str)) = false := by decide) (hcd : (x == ("__classdict__" : Str)) = false := by decide) : PE X (.Name x pos) (tVar i) := by
  intro pins s σ H Q I h
  obtain ⟨v, e, h⟩ := h
  obtain ⟨m, hn, hl⟩ := I.loc
  obtain ⟨u, r, l⟩ := hl i x v hN e hv
  have fin : EP X pins σ Q u s := ⟨v, H, I, r, h⟩
  rcases l with ⟨hk, hm⟩ | ⟨hk, c, hc, hcell⟩
  · exact wpAny_Name (wpAny_loadName_local I.ok.kind hk hn hm fin) hd
  · rcases hk with hk | hk
    · exact wpAny_Name (wpAny_loadName_cell I.ok.kind hk hc hcell fin) hd
    · exact wpAny_Name (wpAny_loadName_free I.ok.kind hk hc hcell fin hcd) hd
theorem pe_int {i j pos} : PE X (.Constant (.int i) j pos) (tC (.int i)) := fun _ _ _ H _ I h => wpAny_Constant_int ⟨.int i, H, I.tok _, ⟨_, rfl⟩, h⟩
theorem pe_bl {b j pos} : PE X (.Constant (.bool b) j pos) (tC (.bl b)) := fun _ _ _ H _ I h => Constant_bool ⟨.bl b, H, I, rfl, h⟩
theorem pe_non {j pos} : PE X (.Constant .none j pos) (tC .non) := fun _ _ _ H _ I h => Constant_none ⟨.non, H, I, rfl, h⟩
theorem pe_str {x j pos} : PE X (.Constant (.str x) j pos) (tC (.str x)) := fun _ _ _ H _ I h => Calls.Constant_str ⟨.str x, H, I.tok _, ⟨_, rfl⟩, h⟩
def Gl (X : Cx) (x : Str) : Prop := X.env.kindOf x = some .globalImplicit
theorem ld_glob {E : Value → Shared → Prop} {pins : List (Addr × Obj)} {s : Shared} {σ : St} {H : Hp} {x : Str} {u : Value} {pos : Pos} {Q : Value → Shared → Prop} (I : Inv X pins σ H s) (hg : Gl X x) (hm : X.mg x = some u) (h : Q u s)
    (hd : (x == ("__debug__" : Str)) = false := by decide) : wpAny (model X.prog X.w) X.A (eval (.Name x pos) X.env) Q E s :=
  Calls.Name_function_global I.ok.kind hg (Calls.loadGlobal_global (by rw [I.ok.glob]; exact I.mod.glob.keeps I.bk) hm h) hd
theorem ld_blt {E : Value → Shared → Prop} {pins : List (Addr × Obj)} {s : Shared} {σ : St} {H : Hp} {x : Str} {u : Value} {pos : Pos} {Q : Value → Shared → Prop} (I : Inv X pins σ H s) (hg : Gl X x) (hm : X.mg x = none) (hv : bootBuiltins x = some u) (h : Q u s)
    (hn : x ≠ "__name__" := by decide) (hd : (x == ("__debug__" : Str)) = false := by decide) : wpAny (model X.prog X.w) X.A (eval (.Name x pos) X.env) Q E s := by
  obtain ⟨mb, h1, h2⟩ := I.mod.blt
  exact Calls.Name_function_global I.ok.kind hg (Calls.loadGlobal_builtin (by rw [I.ok.glob]; exact I.mod.glob.keeps I.bk) hm (by rw [I.ok.blt]; exact h1.keeps I.bk) ((h2 x hn).trans hv) h) hd
theorem pe_glob {x : Str} {v : V} {u : Value} {pos : Pos} (hg : Gl X x) (hm : X.mg x = some u) (r : RelV v u) (hd : (x == ("__debug__" : Str)) = false := by decide) : PE X (.Name x pos) (tC v) :=
  fun _ _ _ H _ I h => ld_glob I hg hm ⟨v, H, I, r, h⟩ hd
theorem pe_bltn {x : Str} {v : V} {u : Value} {pos : Pos} (hg : Gl X x) (hm : X.mg x = none) (hv : bootBuiltins x = some u) (r : RelV v u) (hn : x ≠ "__name__" := by decide) (hd : (x == ("__debug__" : Str)) = false := by decide) : PE X (.Name x pos) (tC v) :=
  fun _ _ _ H _ I h => ld_blt I hg hm hv ⟨v, H, I, r, h⟩ hn hd
def t2I (ta tb : TE) (k : Int → Int → Hp → Prop) : St → Hp → Prop := fun σ H => ta σ H fun x H1 => tb σ H1 fun y H2 => ∃ i j, x = .int i ∧ y = .int j ∧ k i j H2
variable {a b : Expr} {ta tb : TE} {pos : Pos}
def PC (X : Cx) (op : CmpOp) (a b : Expr) (t : TE) : Prop :=
  ∀ (pins : List (Addr × Obj)) (s : Shared) (σ : St) (H : Hp) (Q : VK), Inv X pins σ H s → t σ H Q →
    wpAny (model X.prog X.w) X.A (eval a X.env) (fun v s₁ => wpAny (model X.prog X.w) X.A (eval b X.env) (fun u s₂ => wpAny (model X.prog X.w) X.A (compareOp op v u) (EP X pins σ Q) X.xe s₂) X.xe s₁) X.xe s
theorem nobehind (b : Expr) {op : CmpOp} (h : op ≠ .In) (h2 : op ≠ .NotIn) : behindInMarks op b = false := by
  have e1 : (op == CmpOp.In) = false := by cases op <;> first | rfl | exact absurd rfl h
  have e2 : (op == CmpOp.NotIn) = false := by cases op <;> first | rfl | exact absurd rfl h2
  cases b <;> simp [behindInMarks, e1, e2]
def tCmp (p : Int → Int → Bool) (ta tb : TE) : TE := fun σ H Q => t2I ta tb (fun i j H2 => Q (.bl (p i j)) H2) σ H
abbrev tLt : TE → TE → TE := tCmp fun i j => decide (i < j)
abbrev tGt : TE → TE → TE := tCmp fun i j => decide (j < i)
def tB (t : TE) : TT := fun σ H Q => t σ H fun x H1 => ∃ c, x = .bl c ∧ Q c H1
theorem pt_cmp {op : CmpOp} {t : TE} (h : PC X op a b t) (h1 : behindInMarks op b = false := by first | exact nobehind _ (by decide) (by decide) | rfl) : PT X (.Compare a [op] [b] pos) (tB t) := by
  intro pins s σ H Q I hw
  refine wpAny_isTrue_Compare1 (thn (h pins s σ H _ I hw) fun v s1 h1 => thn h1 fun u s2 h2 => thn h2 fun c s3 ⟨x, H1, I1, r1, q1⟩ => ?_) h1
  obtain ⟨d, rfl, q⟩ := q1
  cases r1
  exact wpAny_truthy_bool ⟨H1, I1, q⟩
theorem pt_val {e : Expr} {t : TE} (h : PE X e t) (he : ∀ whole, isTrue e X.env whole = (do let v ← whole; standAt e.pos; holding [v] (truthy v)) := by intro _; rfl) : PT X e (tB t) := by
  intro pins s σ H Q I hw
  refine isTrue_plain (thn (h pins s σ H _ I hw) fun v s1 ⟨x, H1, I1, r1, q1⟩ => ?_) (he _)
  obtain ⟨d, rfl, q⟩ := q1
  cases r1
  exact wpAny_truthy_bool ⟨H1, I1, q⟩
variable {tA tB' : TT} {rest : List Expr}
def tAnd (t u : TT) : TT := fun σ H Q => t σ H fun c H1 => if c = true then u σ H1 Q else Q false H1
def tOr (t u : TT) : TT := fun σ H Q => t σ H fun c H1 => if c = true then Q true H1 else u σ H1 Q
def tNot (t : TT) : TT := fun σ H Q => t σ H fun c H1 => Q (!c) H1
theorem pw_and1 (ha : PT X a tA) : PW X (.BoolOp .And [a] pos) tA := by
  intro wh pins s σ H Q I h
  refine isTrue_and (thn (ha pins s σ H Q I h) fun c s1 e => ?_)
  cases c with
  | true => exact isTrue_and_nil e
  | false => exact e
theorem pw_or1 (ha : PT X a tA) : PW X (.BoolOp .Or [a] pos) tA := by
  intro wh pins s σ H Q I h
  refine isTrue_or (thn (ha pins s σ H Q I h) fun c s1 e => ?_)
  cases c with
  | false => exact isTrue_or_nil e
  | true => exact e
theorem pw_and (ha : PT X a tA) (hb : PW X (.BoolOp .And (b :: rest) pos) tB') : PW X (.BoolOp .And (a :: b :: rest) pos) (tAnd tA tB') := by
  intro wh pins s σ H Q I h
  refine isTrue_and (thn (ha pins s σ H _ I h) fun c s1 ⟨H1, I1, q1⟩ => ?_)
  cases c with
  | true => exact hb wh pins s1 σ H1 Q I1 q1
  | false => exact ⟨H1, I1, q1⟩
theorem pw_or (ha : PT X a tA) (hb : PW X (.BoolOp .Or (b :: rest) pos) tB') : PW X (.BoolOp .Or (a :: b :: rest) pos) (tOr tA tB') := by
  intro wh pins s σ H Q I h
  refine isTrue_or (thn (ha pins s σ H _ I h) fun c s1 ⟨H1, I1, q1⟩ => ?_)
  cases c with
  | true => exact ⟨H1, I1, q1⟩
  | false => exact hb wh pins s1 σ H1 Q I1 q1
theorem pt_not (ha : PT X a tA) : PT X (.UnaryOp .Not a pos) (tNot tA) := by
  intro pins s σ H Q I h
  exact isTrue_not (ha pins s σ H (fun c H1 => Q (!c) H1) I h)
def tAndV (ta tb : TE) : TE := fun σ H Q => ta σ H fun x H1 => ∃ c, x = .bl c ∧ if c = true then tb σ H1 Q else Q (.bl false) H1
def tOrV (ta tb : TE) : TE := fun σ H Q => ta σ H fun x H1 => ∃ c, x = .bl c ∧ if c = true then Q (.bl true) H1 else tb σ H1 Q
theorem pe_one {op} {t : TE} (h : PE X a t) : PE X (.BoolOp op [a] pos) t := fun pins s σ H Q I hw => BoolOp_one (h pins s σ H Q I hw)
theorem pe_and (ha : PE X a ta) (hb : PE X (.BoolOp .And (b :: rest) pos) tb) : PE X (.BoolOp .And (a :: b :: rest) pos) (tAndV ta tb) := by
  intro pins s σ H Q I h
  refine BoolOp_and (thn (ha pins s σ H _ I h) fun v s1 ⟨x, H1, I1, r1, q1⟩ => ?_)
  obtain ⟨c, rfl, q1⟩ := q1
  cases r1
  refine wpAny_truthy_bool ?_
  cases c with
  | true => exact hb pins s1 σ H1 Q I1 q1
  | false => exact ⟨.bl false, H1, I1, rfl, q1⟩
theorem pe_or (ha : PE X a ta) (hb : PE X (.BoolOp .Or (b :: rest) pos) tb) : PE X (.BoolOp .Or (a :: b :: rest) pos) (tOrV ta tb) := by
  intro pins s σ H Q I h
  refine BoolOp_or (thn (ha pins s σ H _ I h) fun v s1 ⟨x, H1, I1, r1, q1⟩ => ?_)
  obtain ⟨c, rfl, q1⟩ := q1
  cases r1
  refine wpAny_truthy_bool ?_
  cases c with
  | false => exact hb pins s1 σ H1 Q I1 q1
  | true => exact ⟨.bl true, H1, I1, rfl, q1⟩
end
def SqL (K : PySem.W.Frag) (H : Hp) (a : Addr) (xs : List V) : Prop :=
  Rd H a (.lst xs) ∨
    ∃ (o : Obj) (its : Array Value) (n : Nat), K.lookup a = some o ∧ o.cls = .type "list" ∧ o.dict = none ∧ o.data = .seq its n ∧ its.size ≤ sizeLine ∧ Vals xs its.toList
def SqT (K : PySem.W.Frag) (H : Hp) (a : Addr) (xs : List V) : Prop :=
  Rd H a (.tup xs) ∨
    ∃ (o : Obj) (its : Array Value) (n : Nat), K.lookup a = some o ∧ o.cls = .type "tuple" ∧ o.data = .seq its n ∧ its.size ≤ sizeLine ∧ Vals xs its.toList
def absV : Value → Option V
  | .none => some .non
  | .bool b => some (.bl b)
  | .int i _ => some (.int i)
  | .str x _ => some (.str x)
  | .bytes b _ => some (.byt b)
  | .float b _ => some (.flt b)
  | .ref a => some (.ref a)
  | .type n => some (.ty n)
  | _ => none
theorem RelV.abs {x : V} {u : Value} (r : RelV x u) : absV u = some x := by
  cases x with
  | non => cases r; rfl
  | bl _ => cases r; rfl
  | int _ => obtain ⟨t, rfl⟩ := r; rfl
  | str _ => obtain ⟨t, rfl⟩ := r; rfl
  | byt _ => obtain ⟨t, rfl⟩ := r; rfl
  | flt _ => obtain ⟨t, rfl⟩ := r; rfl
  | ref _ => cases r; rfl
  | ty _ => cases r; rfl
theorem RelV.inj {x y : V} {u : Value} (r : RelV x u) (q : RelV y u) : x = y := Option.some.inj (r.abs.symm.trans q.abs)
theorem Vals.inj : ∀ {xs ys : List V} {us : List Value}, Vals xs us → Vals ys us → xs = ys
  | _, _, _, .nil, .nil => rfl
  | _, _, _, .cons r t, .cons r' t' => by rw [r.inj r', Vals.inj t t']
section
variable {X : Cx} {pins : List (Addr × Obj)} {σ : St} {H : Hp} {s : Shared} {a : Addr} {xs ys : List V}
theorem SqL.of {K : PySem.W.Frag} (h : H a = some (.lst xs)) : SqL K H a xs := .inl (.inl h)
theorem SqT.of {K : PySem.W.Frag} (h : H a = some (.tup xs)) : SqT K H a xs := .inl (.inl h)
theorem Inv.list (I : Inv X pins σ H s) (h : SqL X.K H a xs) : ∃ its : List Value, Vals xs its ∧ PlainL s.heap a its.toArray ∧ xs.length ≤ sizeLine := by
  rcases h with h | ⟨o, its, n, hk, hc, hd, hs, hz, r⟩
  · obtain ⟨z, its, n, r, e⟩ := h.ok I.hok
    exact ⟨its, r, ⟨_, n, e, rfl, rfl, rfl⟩, z⟩
  · refine ⟨its.toList, r, ⟨o, n, I.kIn a o hk, hc, hd, by simpa using hs⟩, ?_⟩
    have e := r.length
    simp only [Array.length_toList] at e
    omega
theorem Inv.tuple (I : Inv X pins σ H s) (h : SqT X.K H a xs) : ∃ its : List Value, Vals xs its ∧ IsTup s.heap a its.toArray ∧ xs.length ≤ sizeLine := by
  rcases h with h | ⟨o, its, n, hk, hc, hs, hz, r⟩
  · obtain ⟨z, its, r, p⟩ := h.ok I.hok
    exact ⟨its, r, p, z⟩
  · refine ⟨its.toList, r, ⟨o, I.kIn a o hk, hc, n, by simpa using hs⟩, ?_⟩
    have e := r.length
    simp only [Array.length_toList] at e
    omega
theorem Inv.list_inj (I : Inv X pins σ H s) (h : SqL X.K H a xs) (h' : SqL X.K H a ys) : xs = ys := by
  obtain ⟨its, r, ⟨o, n, e, _, _, d⟩, _⟩ := I.list h
  obtain ⟨its', r', ⟨o', n', e', _, _, d'⟩, _⟩ := I.list h'
  rw [e] at e'; cases e'
  rw [d] at d'
  injection d' with d1 _
  have : its = its' := by simpa using congrArg Array.toList d1
  subst this
  exact r.inj r'
theorem Inv.tuple_inj (I : Inv X pins σ H s) (h : SqT X.K H a xs) (h' : SqT X.K H a ys) : xs = ys := by
  obtain ⟨its, r, ⟨o, e, _, n, d⟩, _⟩ := I.tuple h
  obtain ⟨its', r', ⟨o', e', _, n', d'⟩, _⟩ := I.tuple h'
  rw [e] at e'; cases e'
  rw [d] at d'
  injection d' with d1 _
  have : its = its' := by simpa using congrArg Array.toList d1
  subst this
  exact r.inj r'
end
abbrev Cx.wish (X : Cx) (E : Value → Shared → Prop) : Cx := { X with xe := E }
abbrev Cx.nox (X : Cx) : Cx := X.wish fun _ _ => False
theorem Cx.Ok.wish {X : Cx} (ok : X.Ok) (E : Value → Shared → Prop) : (X.wish E).Ok :=
  ⟨ok.mod, ok.kind, ok.glob, ok.blt, ok.above, ok.inj, ok.has, ok.cab, ok.hd, ok.frames, ok.stk, ok.exf, ok.bs, ok.bsz, ok.noex, ok.exfs, ok.funs, ok.frf⟩
theorem Cx.Ok.unwish {X : Cx} {E : Value → Shared → Prop} (ok : (X.wish E).Ok) : X.Ok :=
  ⟨ok.mod, ok.kind, ok.glob, ok.blt, ok.above, ok.inj, ok.has, ok.cab, ok.hd, ok.frames, ok.stk, ok.exf, ok.bs, ok.bsz, ok.noex, ok.exfs, ok.funs, ok.frf⟩
section
variable {X : Cx} {pins : List (Addr × Obj)} {σ : St} {H : Hp} {s : Shared} {E : Value → Shared → Prop}
theorem Inv.wish (I : Inv X pins σ H s) (E : Value → Shared → Prop) : Inv (X.wish E) pins σ H s := ⟨I.ok.wish E, I.os, I.bare, I.base, I.loc, I.cell, I.free, I.freeC, I.pin, I.hok, I.len⟩
theorem Inv.unwish (I : Inv (X.wish E) pins σ H s) : Inv X pins σ H s := ⟨I.ok.unwish, I.os, I.bare, I.base, I.loc, I.cell, I.free, I.freeC, I.pin, I.hok, I.len⟩
theorem SP.unwish {D : Ends} {f : Flow} {s' : Shared} (h : SP (X.wish E) pins D f s') : SP X pins D f s' := by
  cases f with
  | next => obtain ⟨σ', H', I, q⟩ := h; exact ⟨σ', H', I.unwish, q⟩
  | brk => obtain ⟨σ', H', I, q⟩ := h; exact ⟨σ', H', I.unwish, q⟩
  | cont => obtain ⟨σ', H', I, q⟩ := h; exact ⟨σ', H', I.unwish, q⟩
  | ret u => obtain ⟨v, σ', H', I, r, q⟩ := h; exact ⟨v, σ', H', I.unwish, r, q⟩
theorem PSs.nox {st : List Stmt} {t : TS} (h : PSs X.nox st t) : PSs X st t := fun pins s σ H D I hw =>
  wpAny_mono (h pins s σ H D (I.wish _) hw) (fun _ _ q => q.unwish) fun _ _ z => False.elim z
end
section
variable {X : Cx} {st : Stmt} {rest : List Stmt} {t u : TS} {e : Expr} {te : TE} {pos : Pos}
def tNext : TS := fun D σ H => D.nx σ H
def tSeq (t u : TS) : TS := fun D σ H => t { D with nx := u D } σ H
theorem pss_nil : PSs X [] tNext := fun _ _ σ H _ I h => wpAny_execs_nil ⟨σ, H, I, h⟩
theorem pss_cons (h1 : PS X st t) (h2 : PSs X rest u) : PSs X (st :: rest) (tSeq t u) := by
  intro pins s σ H D I h
  refine wpAny_execs_cons (thn (h1 pins s σ H { D with nx := u D } I h) fun f s1 q => ?_)
  cases f with
  | next =>
    obtain ⟨σ', H', I', q⟩ := q
    exact h2 pins s1 σ' H' D I' q
  | ret v => exact q
  | brk => exact q
  | cont => exact q
theorem pss_one (h1 : PS X st t) : PSs X [st] t := by
  intro pins s σ H D I h
  refine wpAny_execs_cons (thn (h1 pins s σ H D I h) fun f s1 q => ?_)
  cases f with
  | next => exact wpAny_execs_nil q
  | ret v => exact q
  | brk => exact q
  | cont => exact q
def tCont : TS := fun D σ H => D.ct σ H
theorem ps_continue : PS X (.Continue pos) tCont := fun _ _ σ H _ I h => wpAny_Continue ⟨σ, H, I, h⟩
theorem Inv.quiet {pins : List (Addr × Obj)} {σ : St} {H : Hp} {s : Shared} (I : Inv X pins σ H s) : interactive X.env = false := by simp [interactive, I.ok.kind]
def tDrop (te : TE) : TS := fun D σ H => te σ H fun _ H1 => D.nx σ H1
theorem ps_expr (he : PE X e te) (hs : swapsWith e none pos.line X.env = pure false := by rfl) : PS X (.Expr e pos) (tDrop te) := by
  intro pins s σ H D I h
  exact wpAny_Expr_any (thn (he pins s σ H _ I h) fun v s1 ⟨x, H1, I1, r1, q1⟩ => ⟨σ, H1, I1, q1⟩) I.quiet hs
def tRet (te : TE) : TS := fun D σ H => te σ H D.rt
theorem ps_ret (he : PE X e te) : PS X (.Return (some e) pos) (tRet te) := by
  intro pins s σ H D I h
  exact wpAny_Return_some (thn (he pins s σ H _ I h) fun v s1 ⟨x, H1, I1, r1, q1⟩ => ⟨x, σ, H1, I1, r1, q1⟩)
def tIfS (c : TT) (t u : TS) : TS := fun D σ H => c σ H fun b H1 => if b = true then t D σ H1 else u D σ H1
theorem ps_if {c : Expr} {a b : List Stmt} {tc : TT} (hc : PT X c tc) (ha : PSs X a t) (hb : PSs X b u) : PS X (.If c a b pos) (tIfS tc t u) := by
  intro pins s σ H D I h
  refine wpAny_If (thn (hc pins s σ H _ I h) fun d s1 ⟨H1, I1, q1⟩ => ?_)
  cases d with
  | true => exact ha pins s1 σ H1 D I1 q1
  | false => exact hb pins s1 σ H1 D I1 q1
end
abbrev TG := V → St → Hp → (St → Hp → Prop) → Prop
abbrev TGs := List V → St → Hp → (St → Hp → Prop) → Prop
def PG (X : Cx) (target : Expr) (t : TG) : Prop :=
  ∀ (pins : List (Addr × Obj)) (s : Shared) (σ : St) (H : Hp) (v : V) (u : Value) (Q : St → Hp → Prop), Inv X pins σ H s → RelV v u → t v σ H Q →
    wpAny (model X.prog X.w) X.A (assign target X.env u) (fun _ s' => ∃ σ' H', Inv X pins σ' H' s' ∧ Q σ' H') X.xe s
def PGs (X : Cx) (ts : List Expr) (t : TGs) : Prop :=
  ∀ (pins : List (Addr × Obj)) (s : Shared) (σ : St) (H : Hp) (vs : List V) (us : List Value) (Q : St → Hp → Prop), Inv X pins σ H s → Vals vs us → t vs σ H Q →
    wpAny (model X.prog X.w) X.A (assignInOrder ((assignEach ts X.env).map (·.2)) us) (fun _ s' => ∃ σ' H', Inv X pins σ' H' s' ∧ Q σ' H') X.xe s
abbrev TSet := V → V → V → Hp → (Hp → Prop) → Prop
def PSet (X : Cx) (t : TSet) : Prop :=
  ∀ (pins : List (Addr × Obj)) (s : Shared) (σ : St) (H : Hp) (o i v : V) (ov iv u : Value) (Q : Hp → Prop), Inv X pins σ H s → RelV o ov → RelV i iv → RelV v u → t o i v H Q →
    wpAny (model X.prog X.w) X.A (setItem ov iv u) (fun _ s' => ∃ H', Inv X pins σ H' s' ∧ Q H') X.xe s
section
variable {X : Cx} {pos : Pos}
def gName (i : Nat) : TG := fun v σ H Q => Q (σ.set i (some v)) H
theorem pg_name {i : Nat} {x : Str} (hN : X.N.Nodup) (hi : X.N[i]? = some x) (hx : Loc X.env.scope x) (hf : X.fn x = true ∨ X.env.scope.names.lookup x = some .local := by first | exact .inl rfl | exact .inr rfl | assumption) : PG X (.Name x pos) (gName i) := by
  intro pins s σ H v u Q I r h
  exact wpAny_assign_Name (store_ok I hN hi hx r (fun s' I' => ⟨_, H, I', h⟩) hf)
def gNil : TGs := fun vs σ H Q => vs = [] ∧ Q σ H
def gCons (t : TG) (u : TGs) : TGs := fun vs σ H Q => ∃ v r, vs = v :: r ∧ t v σ H fun σ' H' => u r σ' H' Q
theorem pgs_nil : PGs X [] gNil := by
  intro pins s σ H vs us Q I r h
  obtain ⟨e, h⟩ := h
  subst e
  cases r
  exact assignInOrder_nil ⟨σ, H, I, h⟩
theorem pgs_cons {e : Expr} {es : List Expr} {t : TG} {u : TGs} (h1 : PG X e t) (h2 : PGs X es u)
    (hs : (assignEach (e :: es) X.env).map (·.2) = assign e X.env :: (assignEach es X.env).map (·.2) := by rfl) : PGs X (e :: es) (gCons t u) := by
  intro pins s σ H vs us Q I r h
  obtain ⟨v, vr, e1, h⟩ := h
  subst e1
  cases r with
  | cons r rr =>
    rw [hs]
    refine assignInOrder_cons (thn (h1 pins s σ H _ _ _ I r h) fun _ s1 ⟨σ1, H1, I1, q1⟩ => ?_)
    exact h2 pins s1 σ1 H1 _ _ Q I1 rr q1
def gTup (K : PySem.W.Frag) (n : Nat) (t : TGs) : TG := fun v σ H Q => ∃ a xs, v = .ref a ∧ SqT K H a xs ∧ xs.length = n ∧ t xs σ H Q
theorem pg_tup {es : List Expr} {k : Nat} {t : TGs} {n : Nat} (hc : X.calm = true) (h : PGs X es t)
    (hn : (assignEach es X.env).length = n := by rfl) (hst : (assignEach es X.env).findIdx? (·.1) = none := by rfl) : PG X (.Tuple es k pos) (gTup X.K n t) := by
  intro pins s σ H v u Q I r hw
  obtain ⟨a, xs, e1, hq, hl, hw⟩ := hw
  subst e1
  cases r
  obtain ⟨its, rv, ht, hz⟩ := I.tuple hq
  refine assign_Tuple_tuple (I.ok.hd hc) ht (by simp [hn, ← hl, rv.length]) hst fun h' hx => ?_
  have I1 : Inv X pins σ H { s with heap := h' } := I.kept (t' := s.toks) fun b o e => hx b o (Nat.ne_of_lt (Heap.lt_size e)) e
  exact h pins _ σ H xs _ Q I1 (by simpa using rv) hw
def gSub (to ti : TE) (t : TSet) : TG := fun v σ H Q => to σ H fun o H1 => ti σ H1 fun i H2 => t o i v H2 fun H3 => Q σ H3
theorem pg_sub {o i : Expr} {to ti : TE} {t : TSet} (ho : PE X o to) (hi : PE X i ti) (hs : PSet X t)
    (ha : ∀ v, assign (.Subscript o i pos) X.env v = (do
      let ov ← holding [v] (eval o X.env)
      let iv ← holding [v, ov] (eval i X.env)
      standAt pos
      holding [v, ov, iv] (setItem ov iv v)
      release [v, ov, iv] []) := by intro _; rfl) : PG X (.Subscript o i pos) (gSub to ti t) := by
  intro pins s σ H v u Q I r h
  rw [ha]
  refine wpAny_bind (wpAny_holding (thn (ho pins s σ H _ I h) fun ov s1 ⟨x, H1, I1, r1, q1⟩ => ?_))
  refine wpAny_bind (wpAny_holding (thn (hi pins s1 σ H1 _ I1 q1) fun iv s2 ⟨y, H2, I2, r2, q2⟩ => ?_))
  refine wpAny_bind (wpAny_standAt (wpAny_bind (wpAny_holding (thn (hs pins s2 σ H2 x y v ov iv u _ I2 r1 r2 r q2) fun _ s3 ⟨H3, I3, q3⟩ => ?_))))
  exact wpAny_release ⟨σ, H3, I3, q3⟩
def tAsg (te : TE) (g : TG) : TS := fun D σ H => te σ H fun x H1 => g x σ H1 D.nx
theorem ps_asg {tg e : Expr} {te : TE} {g : TG} (he : PE X e te) (hg : PG X tg g) (hs : swapsWithSole [tg] e pos.line X.env = pure false := by rfl) (hw : swappedStores [tg] e X.env = pure none := by rfl)
    (h1 : (assignEach [tg] X.env).map (·.2) = [assign tg X.env] := by rfl) : PS X (.Assign [tg] e pos) (tAsg te g) := by
  intro pins s σ H D I h
  refine wpAny_Assign_stores (thn (he pins s σ H _ I h) fun v s1 ⟨x, H1, I1, r1, q1⟩ => ?_) hs hw
  rw [h1]
  exact thn (hg pins s1 σ H1 x v _ I1 r1 q1) fun _ s2 q => q
theorem ps_set {i : Nat} {x : Str} {e : Expr} {te : TE} {pos' : Pos} (hN : X.N.Nodup) (hi : X.N[i]? = some x) (hx : Loc X.env.scope x) (he : PE X e te) (hs : swapsWith e (some (.Name x pos')) pos.line X.env = pure false := by rfl) (hf : X.fn x = true ∨ X.env.scope.names.lookup x = some .local := by first | exact .inl rfl | exact .inr rfl | assumption) :
    PS X (.Assign [.Name x pos'] e pos) (tAsg te (gName i)) := by
  intro pins s σ H D I h
  refine wpAny_Assign_Name (thn (he pins s σ H _ I h) fun v s1 ⟨y, H1, I1, r1, q1⟩ => ?_) hs
  exact store_ok I1 hN hi hx r1 (fun s2 I2 => ⟨_, H1, I2, q1⟩) hf
end
structure It where
  go : Nat → Hp → Prop
  yld : Nat → Hp → V → Hp → Prop
  stop : Nat → Hp → Prop
def FpOk (X : Cx) (pins : List (Addr × Obj)) (H : Hp) (b : Addr) : Prop :=
  H b = none ∧ b ≠ X.env.locals ∧ b ∉ X.fs ∧ (b ∈ X.ex ∨ X.s₀.heap.objs.size ≤ b) ∧ (∀ x c, X.env.cells.lookup x = some c → c ≠ b) ∧ ∀ p ∈ X.pn ++ pins, p.1 ≠ b
theorem Inv.fpOk {X : Cx} {pins : List (Addr × Obj)} {σ : St} {H H' : Hp} {s : Shared} {b : Addr} (I : Inv X pins σ H s) (hb : s.heap.objs.size ≤ b) (hn : H' b = none) : FpOk X pins H' b := by
  refine ⟨hn, Nat.ne_of_gt (Nat.lt_of_lt_of_le I.lt hb), I.nofs hb, .inr (Nat.le_trans I.sz hb), fun x c e z => ?_, fun p hp z => ?_⟩
  · obtain ⟨v, q⟩ := I.cell x c e
    exact absurd (Nat.lt_of_lt_of_le q.lt (by rw [z]; exact hb)) (Nat.lt_irrefl _)
  · exact absurd (Nat.lt_of_lt_of_le (Heap.lt_size (I.pin p hp).1) (by rw [z]; exact hb)) (Nat.lt_irrefl _)
structure Turn (P : Program) (w : World) (K : PySem.W.Frag) (tg : Expr) (J : It) (fp : List Addr) (it : Addr) (tn : Nat → Heap → Prop) : Prop where
  mem : it ∈ fp
  obj : ∀ i h, tn i h → ∀ b ∈ fp, ∃ o, h.get? b = some o ∧ ∀ v, o.data ≠ .cell v
  keep : ∀ i h h', tn i h → (∀ b ∈ fp, ∀ o, h.get? b = some o → h'.get? b = some o) → tn i h'
  item : ∀ (X : Cx), X.prog = P → X.w = w → X.K = K → X.calm = true → ∀ (i : Nat) (pins : List (Addr × Obj)) (s : Shared) (σ : St) (H : Hp) (E : Value → Shared → Prop), Inv X pins σ H s → (∀ b ∈ fp, FpOk X pins H b) → tn i s.heap → J.go i H →
    wpAny (model P w) X.A (pyNext (.ref it)) (fun r s1 => ∃ u, r = some u ∧
      wpAny (model P w) X.A (letOwnedTupleGo tg (.ref it) u) (fun _ s2 => ∃ x H', Inv X pins σ H' s2 ∧ RelV x u ∧ J.yld i H x H' ∧ tn (i + 1) s2.heap ∧ ∀ b ∈ fp, H' b = none) E s1) E s
  done : ∀ (X : Cx), X.prog = P → X.w = w → X.K = K → X.calm = true → ∀ (i : Nat) (pins : List (Addr × Obj)) (s : Shared) (σ : St) (H : Hp) (E : Value → Shared → Prop), Inv X pins σ H s → (∀ b ∈ fp, FpOk X pins H b) → tn i s.heap → J.stop i H →
    wpAny (model P w) X.A (pyNext (.ref it)) (fun r s1 => r = none ∧ Inv X pins σ H s1) E s
  self : ∀ (A : Around) (i : Nat) (s : Shared) (Q : Value → Shared → Prop) (E : Value → Shared → Prop), tn i s.heap → Q (.ref it) s → wpAny (model P w) A (pyIter (.ref it)) Q E s
abbrev TI := St → Hp → (It → Hp → Prop) → Prop
def PIE (X : Cx) (pins : List (Addr × Obj)) (σ : St) (tg : Expr) (R : It → Hp → Prop) (itv : Value) (s2 : Shared) : Prop :=
  ∃ (it : Addr) (fp : List Addr) (tn : Nat → Heap → Prop) (J : It) (H' : Hp), itv = .ref it ∧ Inv X pins σ H' s2 ∧ Turn X.prog X.w X.K tg J fp it tn ∧ tn 0 s2.heap ∧ (∀ b ∈ fp, FpOk X pins H' b) ∧ R J H'
def PI (X : Cx) (tg iter : Expr) (wi : TI) : Prop :=
  ∀ (pins : List (Addr × Obj)) (s : Shared) (σ : St) (H : Hp) (R : It → Hp → Prop), Inv X pins σ H s → wi σ H R →
    wpAny (model X.prog X.w) X.A (eval iter X.env) (fun v s1 => wpAny (model X.prog X.w) X.A (pyIter v) (PIE X pins σ tg R) X.xe s1) X.xe s
theorem go_of {M : Model} {A : Around} {E : Value → Shared → Prop} {s : Shared} {tg : Expr} {it : Addr} {u : Value} {o : Obj} {n : String} {vs : Array Value} {Q : Unit → Shared → Prop} (ho : s.heap.get? it = some o) (hc : o.cls = .type n) (hd : o.data = .fields vs)
    (hn : ["enumerate", "zip", "dict_itemiterator", "dict_reverseitemiterator", "odict_iterator", "itertools.zip_longest", "itertools.pairwise"].contains n = false) (hQ : Q () s) : wpAny M A (letOwnedTupleGo tg (.ref it) u) Q E s := by
  unfold letOwnedTupleGo
  cases tg <;> first
    | exact wpAny_pure hQ
    | (cases u <;> first
        | exact wpAny_pure hQ
        | (refine wpAny_bind (wpAny_load ho ?_)
           rw [hc, hd]
           show wpAny M A (if (["enumerate", "zip", "dict_itemiterator", "dict_reverseitemiterator", "odict_iterator", "itertools.zip_longest", "itertools.pairwise"].contains n && vs[0]? == some (rawInt _)) = true then _ else _) Q E s
           rw [if_neg (by intro h; rw [hn, Bool.false_and] at h; cases h)]
           exact wpAny_pure hQ))
def Itl (K : PySem.W.Frag) (a : Addr) : It :=
  ⟨fun i H => ∃ xs x, SqL K H a xs ∧ xs[i]? = some x, fun i H x H' => H' = H ∧ ∀ xs, SqL K H a xs → xs[i]? = some x, fun i H => ∃ xs, SqL K H a xs ∧ xs.length ≤ i⟩
def Itt (K : PySem.W.Frag) (a : Addr) : It :=
  ⟨fun i H => ∃ xs x, SqT K H a xs ∧ xs[i]? = some x, fun i H x H' => H' = H ∧ ∀ xs, SqT K H a xs → xs[i]? = some x, fun i H => ∃ xs, SqT K H a xs ∧ xs.length ≤ i⟩
def Itr (lo : Int) (n : Nat) : It := ⟨fun i _ => i < n, fun i H x H' => H' = H ∧ x = .int (lo + i), fun i _ => n ≤ i⟩
theorem turn_list {P : Program} {w : World} {K : PySem.W.Frag} {tg : Expr} (a it : Addr) : Turn P w K tg (Itl K a) [it] it (fun i h => h.IsListIter it a i) where
  mem := by simp
  obj := fun i h st b hb => by
    have e : b = it := by simpa using hb
    subst e
    obtain ⟨o, e, c, d⟩ := st
    exact ⟨o, e, fun v z => by rw [d] at z; cases z⟩
  keep := fun i h h' st k => st.at fun o e => k it (by simp) o e
  item := by
    intro X hP hw hK hc i pins s σ H E I hf st hg
    subst hP hw hK
    obtain ⟨xs, x, hq, hx⟩ := hg
    obtain ⟨its, rv, p, hz⟩ := I.list hq
    obtain ⟨u, hu, ru⟩ := rv.get hx
    obtain ⟨f0, f1, f2, f3, f4, f5⟩ := hf it (by simp)
    refine wpAny_pyNext_list_item st p.isList (x := u) (by simpa using hu) fun h' st' sb => ?_
    have I1 : Inv X pins σ H { s with heap := h' } := I.turned (t' := s.toks) (fun b o hb e => (sb.2 b hb).trans e) f0 f1 f3 f4 f5
    obtain ⟨o, e, c, d⟩ := id st'
    exact ⟨u, rfl, go_of (s := { s with heap := h' }) e c d (by decide) ⟨x, H, I1, ru, ⟨rfl, fun ys hy => by rw [I.list_inj hy hq]; exact hx⟩, st', fun b hb => (hf b hb).1⟩⟩
  done := by
    intro X hP hw hK hc i pins s σ H E I hf st hg
    subst hP hw hK
    obtain ⟨xs, hq, hx⟩ := hg
    obtain ⟨its, rv, p, hz⟩ := I.list hq
    obtain ⟨f0, f1, f2, f3, f4, f5⟩ := hf it (by simp)
    have hl := rv.length
    exact wpAny_pyNext_list_end (I.ok.hd hc) st p.isList (by simp; omega) fun h' eb => ⟨rfl, I.turned (t' := s.toks) (fun b o hb e => eb b o hb e) f0 f1 f3 f4 f5⟩
  self := fun _ _ _ _ _ st h => wpAny_pyIter_listiter st h
theorem turn_tuple {P : Program} {w : World} {K : PySem.W.Frag} {tg : Expr} (a it : Addr) : Turn P w K tg (Itt K a) [it] it (fun i h => h.IsTupleIter it a i) where
  mem := by simp
  obj := fun i h st b hb => by
    have e : b = it := by simpa using hb
    subst e
    obtain ⟨o, e, c, d⟩ := st
    exact ⟨o, e, fun v z => by rw [d] at z; cases z⟩
  keep := fun i h h' st k => st.at fun o e => k it (by simp) o e
  item := by
    intro X hP hw hK hc i pins s σ H E I hf st hg
    subst hP hw hK
    obtain ⟨xs, x, hq, hx⟩ := hg
    obtain ⟨its, rv, p, hz⟩ := I.tuple hq
    obtain ⟨u, hu, ru⟩ := rv.get hx
    obtain ⟨f0, f1, f2, f3, f4, f5⟩ := hf it (by simp)
    refine wpAny_pyNext_tuple_item st (show s.heap.IsTuple a its.toArray from p) (x := u) (by simpa using hu) fun h' st' sb => ?_
    have I1 : Inv X pins σ H { s with heap := h' } := I.turned (t' := s.toks) (fun b o hb e => (sb.2 b hb).trans e) f0 f1 f3 f4 f5
    obtain ⟨o, e, c, d⟩ := id st'
    exact ⟨u, rfl, go_of (s := { s with heap := h' }) e c d (by decide) ⟨x, H, I1, ru, ⟨rfl, fun ys hy => by rw [I.tuple_inj hy hq]; exact hx⟩, st', fun b hb => (hf b hb).1⟩⟩
  done := by
    intro X hP hw hK hc i pins s σ H E I hf st hg
    subst hP hw hK
    obtain ⟨xs, hq, hx⟩ := hg
    obtain ⟨its, rv, p, hz⟩ := I.tuple hq
    obtain ⟨f0, f1, f2, f3, f4, f5⟩ := hf it (by simp)
    have hl := rv.length
    exact wpAny_pyNext_tuple_end (I.ok.hd hc) st (show s.heap.IsTuple a its.toArray from p) (by simp; omega) fun h' eb => ⟨rfl, I.turned (t' := s.toks) (fun b o hb e => eb b o hb e) f0 f1 f3 f4 f5⟩
  self := fun _ _ _ _ _ st h => wpAny_pyIter_tupleiter st h
theorem turn_range {P : Program} {w : World} {K : PySem.W.Frag} {tg : Expr} (it : Addr) (lo : Int) (n : Nat) : Turn P w K tg (Itr lo n) [it] it (fun i h => IsRangeIter h it (lo + (i : Nat) * 1) ((n : Int) - (i : Nat)) 1) where
  mem := by simp
  obj := fun i h st b hb => by
    have e : b = it := by simpa using hb
    subst e
    exact ⟨_, st, fun v z => by
      have z' : Data.fields _ = Data.cell v := z
      cases z'⟩
  keep := fun i h h' st k => k it (by simp) _ st
  item := by
    intro X hP hw hK hc i pins s σ H E I hf st hg
    subst hP hw hK
    obtain ⟨f0, f1, f2, f3, f4, f5⟩ := hf it (by simp)
    have W := Walks.range (prog := X.prog) (w := X.w) (I.ok.hd hc) it lo 1 n
    refine W.item i s _ _ hg st fun v h' tk hv st' kk => ?_
    obtain ⟨t, rfl⟩ := hv
    have I1 : Inv X pins σ H { s with heap := h', toks := tk } := I.turned (fun b o hb e => kk b o (by simpa using hb) e) f0 f1 f3 f4 f5
    refine ⟨_, rfl, go_of (s := { s with heap := h', toks := tk }) (n := "range_iterator") st' rfl rfl (by decide) ⟨.int (lo + i), H, I1, ⟨t, ?_⟩, ⟨rfl, rfl⟩, st', fun b hb => (hf b hb).1⟩⟩
    rw [Int.mul_one]
  done := by
    intro X hP hw hK hc i pins s σ H E I hf st hg
    subst hP hw hK
    obtain ⟨f0, f1, f2, f3, f4, f5⟩ := hf it (by simp)
    exact wpAny_pyNext_range_end (I.ok.hd hc) st (by have : n ≤ i := hg; omega) fun h' eb => ⟨rfl, I.turned (t' := s.toks) (fun b o hb e => eb b o hb e) f0 f1 f3 f4 f5⟩
  self := fun _ _ _ _ _ st h => wpAny_pyIter_rangeiter st h
section
variable {X : Cx} {tg : Expr}
def iList (K : PySem.W.Frag) (tl : TE) : TI := fun σ H R => tl σ H fun x H1 => ∃ a, x = .ref a ∧ (∃ xs, SqL K H1 a xs) ∧ R (Itl K a) H1
def iTup (K : PySem.W.Frag) (tl : TE) : TI := fun σ H R => tl σ H fun x H1 => ∃ a, x = .ref a ∧ (∃ xs, SqT K H1 a xs) ∧ R (Itt K a) H1
theorem pi_list {l : Expr} {tl : TE} (hl : PE X l tl) : PI X tg l (iList X.K tl) := by
  intro pins s σ H R I h
  refine thn (hl pins s σ H _ I h) fun v s1 ⟨x, H1, I1, r1, q1⟩ => ?_
  obtain ⟨a, e, ⟨xs, hq⟩, q⟩ := q1
  subst e
  cases r1
  obtain ⟨its, rv, p, hz⟩ := I1.list hq
  refine wpAny_pyIter_list p.isList ?_
  refine ⟨s1.heap.objs.size, [s1.heap.objs.size], _, _, H1, rfl, I1.kept (t' := s1.toks) fun b o e => Heap.get?_push_of_some _ e, turn_list a _, ⟨_, Heap.get?_push_size _ rfl, rfl, rfl⟩, fun b hb => ?_, q⟩
  have e : b = s1.heap.objs.size := by simpa using hb
  subst e
  exact I1.fpOk (Nat.le_refl _) (I1.hok.fresh (Nat.le_refl _))
theorem pi_tup {l : Expr} {tl : TE} (hl : PE X l tl) : PI X tg l (iTup X.K tl) := by
  intro pins s σ H R I h
  refine thn (hl pins s σ H _ I h) fun v s1 ⟨x, H1, I1, r1, q1⟩ => ?_
  obtain ⟨a, e, ⟨xs, hq⟩, q⟩ := q1
  subst e
  cases r1
  obtain ⟨its, rv, p, hz⟩ := I1.tuple hq
  refine wpAny_pyIter_tuple (show s1.heap.IsTuple a its.toArray from p) ?_
  refine ⟨s1.heap.objs.size, [s1.heap.objs.size], _, _, H1, rfl, I1.kept (t' := s1.toks) fun b o e => Heap.get?_push_of_some _ e, turn_tuple a _, ⟨_, Heap.get?_push_size _ rfl, rfl, rfl⟩, fun b hb => ?_, q⟩
  have e : b = s1.heap.objs.size := by simpa using hb
  subst e
  exact I1.fpOk (Nat.le_refl _) (I1.hok.fresh (Nat.le_refl _))
theorem range_it {pins : List (Addr × Obj)} {σ : St} {H : Hp} {s : Shared} {R : It → Hp → Prop} {E : Value → Shared → Prop} {lo hi : Int} {t u v : Tok} {tk : Nat} (I : Inv X pins σ H s) (h1 : -(2 ^ 62) ≤ lo) (h2 : lo < 2 ^ 62) (h3 : -(2 ^ 62) ≤ hi) (h4 : hi < 2 ^ 62)
    (q : R (Itr lo (hi - lo).toNat) H) : wpAny (model X.prog X.w) X.A (pyIter (.ref s.heap.objs.size)) (PIE X pins σ tg R) E { s with heap := s.heap.push { cls := .type "range", data := .fields #[.int lo t, .int hi u, .int 1 v] }, toks := tk } := by
  refine wpAny_pyIter_range (IsRange.new ..) (small_one h1 h2 h3 h4) ?_
  have I1 : Inv X pins σ H { s with heap := s.heap.push { cls := .type "range", data := .fields #[.int lo t, .int hi u, .int 1 v] }, toks := tk } := I.kept fun b o e => Heap.get?_push_of_some _ e
  refine ⟨(s.heap.push { cls := .type "range", data := .fields #[.int lo t, .int hi u, .int 1 v] }).objs.size, [(s.heap.push { cls := .type "range", data := .fields #[.int lo t, .int hi u, .int 1 v] }).objs.size], _, _, H, rfl,
    I1.kept (t' := tk) fun b o e => Heap.get?_push_of_some _ e, turn_range _ lo (hi - lo).toNat, ?_, fun b hb => ?_, q⟩
  · have e1 : lo + ((0 : Nat) : Int) * 1 = lo := by simp
    have e2 : (((hi - lo).toNat : Nat) : Int) - ((0 : Nat) : Int) = Builtin.Range.rangeSize lo hi 1 := by rw [rangeSize_one]; split <;> omega
    show IsRangeIter _ _ (lo + ((0 : Nat) : Int) * 1) ((((hi - lo).toNat : Nat) : Int) - ((0 : Nat) : Int)) 1
    rw [e1, e2]
    exact Heap.get?_push_size _ rfl
  · have e : b = (s.heap.push { cls := .type "range", data := .fields #[.int lo t, .int hi u, .int 1 v] }).objs.size := by simpa using hb
    subst e
    exact I1.fpOk (Nat.le_refl _) (I1.hok.fresh (Nat.le_refl _))
def iRng1 (ta : TA) : TI := fun σ H R => ta σ H fun vs H1 => ∃ j : Int, vs = [.int j] ∧ -(2 ^ 62) ≤ j ∧ j < 2 ^ 62 ∧ R (Itr 0 j.toNat) H1
theorem pi_range1 {a : Expr} {ta : TA} {p pos : Pos} (hg : Gl X "range") (hm : X.mg "range" = none) (ha : PA X [a] ta) (hs : starEach [a] X.env = [(false, eval a X.env)] := by rfl) : PI X tg (.Call (.Name "range" p) [a] [] pos) (iRng1 ta) := by
  intro pins s σ H R I h
  refine Call_ (ld_blt I hg hm boot_range (PyProof.Rows.callWith_type1 (thn (ha pos pins s σ H _ I h) fun us s1 ⟨vs, H1, I1, r1, q1⟩ => ?_) hs rfl))
  obtain ⟨j, e, q1, q2, q⟩ := q1
  subst e
  cases r1 with
  | cons r rr =>
    cases rr
    obtain ⟨t, rfl⟩ := r
    exact call_range_1 (range_it I1 (by omega) (by omega) q1 q2 (by simpa using q))
def tFor (wi : TI) (g : TG) (tb : TS) : TS := fun D σ H => wi σ H fun J H1 => ∃ W : Nat → Nat → St → Hp → Prop, (∃ m, W 0 m σ H1) ∧ ∀ i m σ H, W i m σ H →
  (J.stop i H ∧ D.nx σ H) ∨ (J.go i H ∧ ∃ N : St → Hp → Prop, (∀ σ' H', N σ' H' → ∃ m', m' < m ∧ W (i + 1) m' σ' H') ∧ ∀ x H', J.yld i H x H' → g x σ H' fun σ2 H2 => tb { D with nx := N, ct := N, bk := D.nx } σ2 H2)
def pinsAt (fp : List Addr) (h : Heap) : List (Addr × Obj) := fp.filterMap fun b => (h.get? b).map fun o => (b, o)
theorem mem_pinsAt {fp : List Addr} {h : Heap} {b : Addr} {o : Obj} (hb : b ∈ fp) (e : h.get? b = some o) : (b, o) ∈ pinsAt fp h := List.mem_filterMap.mpr ⟨b, hb, by rw [e]; rfl⟩
theorem of_pinsAt {fp : List Addr} {h : Heap} {p : Addr × Obj} (hp : p ∈ pinsAt fp h) : p.1 ∈ fp ∧ h.get? p.1 = some p.2 := by
  obtain ⟨b, hb, e⟩ := List.mem_filterMap.mp hp
  cases q : h.get? b with
  | none => rw [q] at e; cases e
  | some o =>
    rw [q] at e
    have e' : (b, o) = p := Option.some.inj e
    subst e'
    exact ⟨hb, q⟩
theorem Inv.pinned {pins : List (Addr × Obj)} {σ : St} {H : Hp} {s : Shared} {fp : List Addr} (I : Inv X pins σ H s) (hf : ∀ b ∈ fp, FpOk X pins H b) (ho : ∀ b ∈ fp, ∃ o, s.heap.get? b = some o ∧ ∀ v, o.data ≠ .cell v) : Inv X (pins ++ pinsAt fp s.heap) σ H s :=
  I.pins_of fun p hp => (List.mem_append.mp hp).elim (fun z => I.pin p (List.mem_append_right _ z)) fun z => by
    obtain ⟨hb, e⟩ := of_pinsAt z
    obtain ⟨f0, f1, f2, _⟩ := hf p.1 hb
    obtain ⟨o, e', d⟩ := ho p.1 hb
    rw [e] at e'; cases e'
    exact ⟨e, f0, f1, f2, d⟩
theorem Inv.unpinned {pins pl : List (Addr × Obj)} {σ : St} {H : Hp} {s : Shared} (I : Inv X (pins ++ pl) σ H s) : Inv X pins σ H s := I.pins_of fun p hp => I.pin p (List.mem_append_right _ (List.mem_append_left _ hp))
theorem ps_for {iter : Expr} {body : List Stmt} {wi : TI} {g : TG} {tb : TS} {pos : Pos} (hp : PassesOwn (model X.prog X.w) X.A X.env X.xe) (hc : X.calm = true) (hi : PI X tg iter wi) (hg : PG X tg g) (hb : PSs X body tb)
    (hs : ∀ x, foldedSetIterable iter X.env x = pure x := by intro _; rfl) : PS X (.For tg iter body [] pos) (tFor wi g tb) := by
  intro pins s σ H D I h
  refine wpAny_For (thn (hi pins s σ H _ I h) fun v s1 h1 => thn h1 fun itv s2 h2 => ?_) hs
  obtain ⟨it, fp, tn, J, H2, e, I2, T, st2, f2, W, ⟨m0, w0⟩, turn⟩ := h2
  subst e
  -- what stays true of the iterator's objects through the loop
  have stat : ∀ {H' : Hp}, (∀ b ∈ fp, H' b = none) → ∀ b ∈ fp, FpOk X pins H' b := fun hn b hb => ⟨hn b hb, (f2 b hb).2⟩
  refine codeAny_forLoop_any (fun n s' => ∃ i σ' H', Inv X pins σ' H' s' ∧ tn i s'.heap ∧ (∀ b ∈ fp, H' b = none) ∧ W i n σ' H') ?_ m0 ⟨0, σ, H2, I2, st2, fun b hb => (f2 b hb).1, w0⟩
  rintro n s3 ⟨i, σ3, H3, I3, st3, fr3, w3⟩
  rcases turn i n σ3 H3 w3 with ⟨stop, qn⟩ | ⟨go, N, hN, step⟩
  · refine wpAny_passesOwn hp (thn (T.done X rfl rfl rfl hc i pins s3 σ3 H3 X.xe I3 (stat fr3) st3 stop) fun r s4 ⟨hr, I4⟩ => ?_)
    subst hr
    exact wpAny_execs_nil ⟨σ3, H3, I4, qn⟩
  · refine wpAny_passesOwn hp (thn (T.item X rfl rfl rfl hc i pins s3 σ3 H3 X.xe I3 (stat fr3) st3 go) fun r s4 ⟨u, hr, h4⟩ => ?_)
    subst hr
    refine wpAny_passesOwn hp (thn h4 fun _ s5 ⟨x, H5, I5, r5, y5, st5, fr5⟩ => ?_)
    have I5' := I5.pinned (stat fr5) (T.obj _ _ st5)
    refine wpAny_passesOwn hp (thn (hg _ s5 σ3 H5 x u _ I5' r5 (step x H5 y5)) fun _ s6 ⟨σ6, H6, I6, q6⟩ => ?_)
    refine wpAny_passesOwn hp (thn (hb _ s6 σ6 H6 _ I6 q6) fun f s7 q7 => ?_)
    have again : ∀ {σ7 : St} {H7 : Hp}, Inv X (pins ++ pinsAt fp s5.heap) σ7 H7 s7 → N σ7 H7 → ∃ m, m < n ∧ ∃ i σ' H', Inv X pins σ' H' s7 ∧ tn i s7.heap ∧ (∀ b ∈ fp, H' b = none) ∧ W i m σ' H' := fun {σ7 H7} I7 n7 => by
      obtain ⟨m', hm, w7⟩ := hN σ7 H7 n7
      refine ⟨m', hm, i + 1, σ7, H7, I7.unpinned, T.keep _ _ _ st5 fun b hb o e => (I7.pin (b, o) (List.mem_append_right _ (List.mem_append_right _ (mem_pinsAt hb e)))).1, fun b hb => ?_, w7⟩
      obtain ⟨o, e, d⟩ := T.obj _ _ st5 b hb
      exact (I7.pin (b, o) (List.mem_append_right _ (List.mem_append_right _ (mem_pinsAt hb e)))).2.1
    cases f with
    | next => obtain ⟨σ7, H7, I7, n7⟩ := q7; exact again I7 n7
    | cont => obtain ⟨σ7, H7, I7, n7⟩ := q7; exact again I7 n7
    | brk => obtain ⟨σ7, H7, I7, q7⟩ := q7; exact ⟨σ7, H7, I7.unpinned, q7⟩
    | ret v => obtain ⟨x7, σ7, H7, I7, r7, q7⟩ := q7; exact ⟨x7, σ7, H7, I7.unpinned, r7, q7⟩
end
abbrev R2 := V → V → Hp → VK → Prop
def OpR (X : Cx) (f : Value → Value → Sem Value) (r : R2) : Prop :=
  ∀ (pins : List (Addr × Obj)) (s : Shared) (σ : St) (H : Hp) (x y : V) (v u : Value) (Q : VK), Inv X pins σ H s → RelV x v → RelV y u → r x y H Q →
    wpAny (model X.prog X.w) X.A (f v u) (EP X pins σ Q) X.xe s
def UnR (X : Cx) (f : Value → Sem Value) (r : V → Hp → VK → Prop) : Prop :=
  ∀ (pins : List (Addr × Obj)) (s : Shared) (σ : St) (H : Hp) (x : V) (v : Value) (Q : VK), Inv X pins σ H s → RelV x v → r x H Q →
    wpAny (model X.prog X.w) X.A (f v) (EP X pins σ Q) X.xe s
def CallR (X : Cx) (f : Value) (r : List V → Hp → VK → Prop) : Prop :=
  ∀ (pins : List (Addr × Obj)) (s : Shared) (σ : St) (H : Hp) (xs : List V) (us : List Value) (Q : VK), Inv X pins σ H s → Vals xs us → r xs H Q →
    wpAny (model X.prog X.w) X.A (call f us) (EP X pins σ Q) X.xe s
def tOp (r : R2) (ta tb : TE) : TE := fun σ H Q => ta σ H fun x H1 => tb σ H1 fun y H2 => r x y H2 Q
def tUn (r : V → Hp → VK → Prop) (ta : TE) : TE := fun σ H Q => ta σ H fun x H1 => r x H1 Q
def rI (C : Int → Int → Prop) (g : Int → Int → V) : R2 := fun x y H Q => ∃ i j, x = .int i ∧ y = .int j ∧ C i j ∧ Q (g i j) H
def rI0 (g : Int → Int → V) : R2 := fun x y H Q => ∃ i j, x = .int i ∧ y = .int j ∧ Q (g i j) H
def rU (g : Int → V) : V → Hp → VK → Prop := fun x H Q => ∃ i, x = .int i ∧ Q (g i) H
section
variable {X : Cx} {a b c : Expr} {ta tb tc : TE} {pos : Pos}
theorem binT (ha : PE X a ta) (hb : PE X b tb) {pins : List (Addr × Obj)} {s : Shared} {σ : St} {H : Hp} {R : V → V → Hp → Prop} (I : Inv X pins σ H s)
    (h : ta σ H fun x H1 => tb σ H1 fun y H2 => R x y H2) {Q : Value → Shared → Prop} {f : Value → Value → Sem Value}
    (hf : ∀ v u s2 x y H2, Inv X pins σ H2 s2 → RelV x v → RelV y u → R x y H2 → wpAny (model X.prog X.w) X.A (f v u) Q X.xe s2) :
    wpAny (model X.prog X.w) X.A (eval a X.env) (fun v s₁ => wpAny (model X.prog X.w) X.A (eval b X.env) (fun u s₂ => wpAny (model X.prog X.w) X.A (f v u) Q X.xe s₂) X.xe s₁) X.xe s := by
  refine thn (ha pins s σ H _ I h) fun v s1 ⟨x, H1, I1, r1, q1⟩ => ?_
  refine thn (hb pins s1 σ H1 _ I1 q1) fun u s2 ⟨y, H2, I2, r2, q2⟩ => ?_
  exact hf v u s2 x y H2 I2 r1 r2 q2
theorem pe_op {op : Operator} {r : R2} (ho : OpR X (binaryOp op) r) (ha : PE X a ta) (hb : PE X b tb) : PE X (.BinOp a op b pos) (tOp r ta tb) := by
  intro pins s σ H Q I h
  exact wpAny_BinOp (binT ha hb I h fun v u s2 x y H2 I2 rx ry q => ho pins s2 σ H2 x y v u Q I2 rx ry q)
theorem pe_un {op : UnaryOp} {r : V → Hp → VK → Prop} (ho : UnR X (unaryOp op) r) (ha : PE X a ta) : PE X (.UnaryOp op a pos) (tUn r ta) := by
  intro pins s σ H Q I h
  exact UnaryOp_ (thn (ha pins s σ H _ I h) fun v s1 ⟨x, H1, I1, r1, q1⟩ => ho pins s1 σ H1 x v Q I1 r1 q1)
theorem opI {f : Value → Value → Sem Value} {C : Int → Int → Prop} {g : Int → Int → Int}
    (rule : ∀ (i j : Int) (t u : Tok) (s : Shared) (Q : Value → Shared → Prop) (E : Value → Shared → Prop), C i j → Q (.int (g i j) s.toks) { s with toks := s.toks + 1 } → wpAny (model X.prog X.w) X.A (f (.int i t) (.int j u)) Q E s) :
    OpR X f (rI C fun i j => .int (g i j)) := by
  intro pins s σ H x y v u Q I rx ry h
  obtain ⟨i, j, rfl, rfl, hc, q⟩ := h
  obtain ⟨t, rfl⟩ := rx
  obtain ⟨t', rfl⟩ := ry
  exact rule i j t t' s _ _ hc ⟨.int (g i j), H, I.tok _, ⟨_, rfl⟩, q⟩
theorem opI0 {f : Value → Value → Sem Value} {g : Int → Int → Int}
    (rule : ∀ (i j : Int) (t u : Tok) (s : Shared) (Q : Value → Shared → Prop) (E : Value → Shared → Prop), Q (.int (g i j) s.toks) { s with toks := s.toks + 1 } → wpAny (model X.prog X.w) X.A (f (.int i t) (.int j u)) Q E s) :
    OpR X f (rI0 fun i j => .int (g i j)) := by
  intro pins s σ H x y v u Q I rx ry h
  obtain ⟨i, j, rfl, rfl, q⟩ := h
  obtain ⟨t, rfl⟩ := rx
  obtain ⟨t', rfl⟩ := ry
  exact rule i j t t' s _ _ ⟨.int (g i j), H, I.tok _, ⟨_, rfl⟩, q⟩
theorem opB0 {f : Value → Value → Sem Value} {g : Int → Int → Bool}
    (rule : ∀ (i j : Int) (t u : Tok) (s : Shared) (Q : Value → Shared → Prop) (E : Value → Shared → Prop), Q (.bool (g i j)) s → wpAny (model X.prog X.w) X.A (f (.int i t) (.int j u)) Q E s) :
    OpR X f (rI0 fun i j => .bl (g i j)) := by
  intro pins s σ H x y v u Q I rx ry h
  obtain ⟨i, j, rfl, rfl, q⟩ := h
  obtain ⟨t, rfl⟩ := rx
  obtain ⟨t', rfl⟩ := ry
  exact rule i j t t' s _ _ ⟨.bl (g i j), H, I, rfl, q⟩
def CDiv (i j : Int) : Prop := 0 < j ∧ j < 1073741824
def CMul (i j : Int) : Prop := (-(2 ^ 64) < i ∧ i < 2 ^ 64) ∨ (-(2 ^ 64) < j ∧ j < 2 ^ 64)
theorem CMul.ok {i j : Int} (h : CMul i j) : IntMulOk i j := by
  rcases h with ⟨h1, h2⟩ | ⟨h1, h2⟩
  · exact .of_left (intBits_le_64 h1 h2)
  · exact .of_right (intBits_le_64 h1 h2)
theorem op_add : OpR X (binaryOp .Add) (rI0 fun i j => .int (i + j)) := opI0 fun _ _ _ _ _ _ _ q => add_int q
theorem op_sub : OpR X (binaryOp .Sub) (rI0 fun i j => .int (i - j)) := opI0 fun _ _ _ _ _ _ _ q => sub_int q
theorem op_mul : OpR X (binaryOp .Mult) (rI CMul fun i j => .int (i * j)) := opI fun _ _ _ _ _ _ _ hc q => mul_int q hc.ok
theorem op_fdiv : OpR X (binaryOp .FloorDiv) (rI CDiv fun i j => .int (i / j)) := opI fun i j _ _ _ _ _ hc q => by
  have h1 : (0 : Int) < j := hc.1
  have h2 : j < 1073741824 := hc.2
  exact floordiv_int (by omega) (by rw [Int.fdiv_eq_ediv_of_nonneg i (by omega)]; exact q) (.inl (PyProof.noPylong_small (by omega)))
theorem op_mod : OpR X (binaryOp .Mod) (rI (fun _ j => 0 < j) fun i j => .int (i % j)) := opI fun i j _ _ _ _ _ hc q => by
  have h1 : (0 : Int) < j := hc
  exact mod_int' (by omega) (by rw [Int.fmod_eq_emod_of_nonneg i (by omega)]; exact q)
theorem unI {f : Value → Sem Value} {g : Int → Int}
    (rule : ∀ (i : Int) (t : Tok) (s : Shared) (Q : Value → Shared → Prop) (E : Value → Shared → Prop), Q (.int (g i) s.toks) { s with toks := s.toks + 1 } → wpAny (model X.prog X.w) X.A (f (.int i t)) Q E s) :
    UnR X f (rU fun i => .int (g i)) := by
  intro pins s σ H x v Q I rx h
  obtain ⟨i, rfl, q⟩ := h
  obtain ⟨t, rfl⟩ := rx
  exact rule i t s _ _ ⟨.int (g i), H, I.tok _, ⟨_, rfl⟩, q⟩
theorem un_neg : UnR X (unaryOp .USub) (rU fun i => .int (-i)) := unI fun _ _ _ _ _ q => neg_int q
theorem op_add_ib : OpR X (binaryOp .Add) (fun x y H Q => ∃ i k, x = .int i ∧ y = .bl k ∧ Q (.int (i + b2i k)) H) := by
  intro pins s σ H x y v u Q I rx ry h
  obtain ⟨i, k, rfl, rfl, q⟩ := h
  obtain ⟨t, rfl⟩ := rx
  cases ry
  exact add_int_bool ⟨.int (i + b2i k), H, I.tok _, ⟨_, rfl⟩, q⟩
end
section
variable {X : Cx} {a b c : Expr} {ta tb tc : TE} {pos : Pos}
theorem op_lt : OpR X (compareOp .Lt) (rI0 fun i j => .bl (decide (i < j))) := opB0 fun _ _ _ _ _ _ _ q => lt_int q
theorem op_le : OpR X (compareOp .LtE) (rI0 fun i j => .bl (decide (i ≤ j))) := opB0 fun _ _ _ _ _ _ _ q => le_int q
theorem op_gt : OpR X (compareOp .Gt) (rI0 fun i j => .bl (decide (j < i))) := opB0 fun _ _ _ _ _ _ _ q => gt_int q
theorem op_ge : OpR X (compareOp .GtE) (rI0 fun i j => .bl (decide (j ≤ i))) := opB0 fun _ _ _ _ _ _ _ q => ge_int q
theorem OpR.or {f : Value → Value → Sem Value} {r r' : R2} (h : OpR X f r) (h' : OpR X f r') : OpR X f (fun x y H Q => r x y H Q ∨ r' x y H Q) := by
  intro pins s σ H x y v u Q I rx ry q
  rcases q with q | q
  · exact h pins s σ H x y v u Q I rx ry q
  · exact h' pins s σ H x y v u Q I rx ry q
theorem nomark (b : Expr) {op : CmpOp} (h : op ≠ .In := by decide) (h2 : op ≠ .NotIn := by decide) : behindInMarks op b = false := by
  have e1 : (op == CmpOp.In) = false := by cases op <;> first | rfl | exact absurd rfl h
  have e2 : (op == CmpOp.NotIn) = false := by cases op <;> first | rfl | exact absurd rfl h2
  cases b <;> simp [behindInMarks, e1, e2]
theorem pe_cmpR {op : CmpOp} {r : R2} (ho : OpR X (compareOp op) r) (ha : PE X a ta) (hb : PE X b tb) (hm : behindInMarks op b = false) : PE X (.Compare a [op] [b] pos) (tOp r ta tb) := by
  intro pins s σ H Q I h
  exact wpAny_Compare1 (binT ha hb I h fun v u s2 x y H2 I2 rx ry q => ho pins s2 σ H2 x y v u Q I2 rx ry q) hm
def tTest (t : TE) : TT := fun σ H Q => t σ H fun x H' => ∃ k, x = .bl k ∧ Q k H'
theorem pt_cmpR {op : CmpOp} {r : R2} (ho : OpR X (compareOp op) r) (ha : PE X a ta) (hb : PE X b tb) (hm : behindInMarks op b = false) : PT X (.Compare a [op] [b] pos) (tTest (tOp r ta tb)) := by
  intro pins s σ H Q I h
  refine wpAny_isTrue_Compare1 (thn (ha pins s σ H _ I h) fun v s1 ⟨x, H1, I1, r1, q1⟩ => thn (hb pins s1 σ H1 _ I1 q1) fun u s2 ⟨y, H2, I2, r2, q2⟩ =>
    thn (ho pins s2 σ H2 x y v u _ I2 r1 r2 q2) fun c s3 ⟨z, H3, I3, r3, k, e, q3⟩ => ?_) hm
  subst e
  cases r3
  exact wpAny_truthy_bool ⟨H3, I3, q3⟩
def tChain (r r' : R2) (ta tb tc : TE) : TE := fun σ H Q => ta σ H fun x H1 => tb σ H1 fun y H2 => r x y H2 fun z H3 => ∃ k, z = .bl k ∧
  (if k = true then tc σ H3 fun w' H4 => r' y w' H4 Q else Q (.bl false) H3)
theorem pe_chain {op op' : CmpOp} {r r' : R2} (ho : OpR X (compareOp op) r) (ho' : OpR X (compareOp op') r') (ha : PE X a ta) (hb : PE X b tb) (hc : PE X c tc)
    (hm : lastMarks [op, op'] [b, c] = false := by with_unfolding_all rfl) : PE X (.Compare a [op, op'] [b, c] pos) (tChain r r' ta tb tc) := by
  intro pins s σ H Q I h
  refine Compare_chain (thn (ha pins s σ H _ I h) fun v s1 ⟨x, H1, I1, r1, q1⟩ => chain_link (thn (hb pins s1 σ H1 _ I1 q1) fun u s2 ⟨y, H2, I2, r2, q2⟩ =>
    thn (ho pins s2 σ H2 x y v u _ I2 r1 r2 q2) fun d s3 ⟨z, H3, I3, r3, k, e, q3⟩ => ?_)) hm
  subst e
  cases r3
  refine wpAny_truthy_bool ?_
  cases k with
  | false => exact ite_ff ⟨.bl false, H3, I3, rfl, q3⟩
  | true => exact ite_tt (chain_last (thn (hc pins s3 σ H3 _ I3 q3) fun w' s4 ⟨z', H4, I4, r4, q4⟩ => ho' pins s4 σ H4 y z' u w' Q I4 r2 r4 q4))
theorem line63 : (sizeLine : Nat) < 2 ^ 63 := by rw [sizeLine_eq]; decide
theorem op_add_str : OpR X (binaryOp .Add) (fun x y H Q => ∃ i j, x = .str i ∧ y = .str j ∧ i.length + j.length ≤ sizeLine ∧ Q (.str (i ++ j)) H) := by
  intro pins s σ H x y v u Q I rx ry h
  obtain ⟨i, j, rfl, rfl, hz, q⟩ := h
  obtain ⟨t, rfl⟩ := rx
  obtain ⟨t', rfl⟩ := ry
  exact add_str (fun t' tk => ⟨.str (i ++ j), H, I.tok _, ⟨_, rfl⟩, q⟩) hz
theorem vals1 {x : V} {us : List Value} (r : Vals [x] us) : ∃ u, us = [u] ∧ RelV x u := by
  cases r with
  | cons r1 r2 => cases r2; exact ⟨_, rfl, r1⟩
theorem vals2 {x y : V} {us : List Value} (r : Vals [x, y] us) : ∃ u w', us = [u, w'] ∧ RelV x u ∧ RelV y w' := by
  cases r with
  | cons r1 r2 =>
    cases r2 with
    | cons r3 r4 => cases r4; exact ⟨_, _, rfl, r1, r3⟩
theorem call_max2 (hc : X.calm = true) : CallR X (.builtin "max") (fun xs H Q => ∃ i j, xs = [.int i, .int j] ∧ Q (.int (if j > i then j else i)) H) := by
  intro pins s σ H xs us Q I r h
  obtain ⟨i, j, rfl, q⟩ := h
  obtain ⟨u, w', rfl, ⟨t, rfl⟩, ⟨t', rfl⟩⟩ := vals2 r
  refine max_two_ints (I.ok.hd hc) fun h' tk k => ⟨_, H, I.kept k, ?_, q⟩
  by_cases hj : j > i
  · rw [if_pos hj, if_pos hj]; exact ⟨_, rfl⟩
  · rw [if_neg hj, if_neg hj]; exact ⟨_, rfl⟩
theorem call_min2 (hc : X.calm = true) : CallR X (.builtin "min") (fun xs H Q => ∃ i j, xs = [.int i, .int j] ∧ Q (.int (if j < i then j else i)) H) := by
  intro pins s σ H xs us Q I r h
  obtain ⟨i, j, rfl, q⟩ := h
  obtain ⟨u, w', rfl, ⟨t, rfl⟩, ⟨t', rfl⟩⟩ := vals2 r
  refine min_two_ints (I.ok.hd hc) fun h' tk k => ⟨_, H, I.kept k, ?_, q⟩
  by_cases hj : j < i
  · rw [if_pos hj, if_pos hj]; exact ⟨_, rfl⟩
  · rw [if_neg hj, if_neg hj]; exact ⟨_, rfl⟩
theorem call_int1 : CallR X (.type "int") (fun xs H Q => (∃ i, xs = [.int i] ∧ Q (.int i) H) ∨ ∃ k, xs = [.bl k] ∧ Q (.int (if k then 1 else 0)) H) := by
  intro pins s σ H xs us Q I r h
  rcases h with ⟨i, rfl, q⟩ | ⟨k, rfl, q⟩
  · obtain ⟨u, rfl, t, rfl⟩ := vals1 r
    exact call_int_int ⟨.int i, H, I, ⟨_, rfl⟩, q⟩
  · obtain ⟨u, rfl, r1⟩ := vals1 r
    cases r1
    exact call_int_bool ⟨.int (if k then 1 else 0), H, I.tok _, ⟨_, rfl⟩, q⟩
end
structure ObjM (h : Heap) (x dx C : Addr) (mA : Str → Option Value) : Prop where
  obj : h.get? x = some (PySem.W.instObj C dx)
  ns : h.Ns1 dx mA
  ne : dx ≠ x
theorem lookIn_ns {h : Heap} {dx : Addr} {mA : Str → Option Value} (n : h.Ns1 dx mA) : ∃ od, h.get? dx = some od ∧ ∀ name, PySem.W.lookIn name od = some (mA name) := by
  obtain ⟨o, es, ep, ho, hd, hk, _, hm⟩ := n
  refine ⟨o, ho, fun name => ?_⟩
  have e := hm name
  unfold nsFind findBy at e
  rw [← Array.find?_toList] at e
  unfold PySem.W.lookIn
  rw [hd]
  dsimp only
  split
  · rename_i y q
    rw [q] at e
    exact congrArg some e
  · rename_i q
    rw [q] at e
    have a : es.toList.any (·.refKey) = false := by
      rw [List.any_eq_false]
      intro y hy
      obtain ⟨z, t, hkey⟩ := hk y (Array.mem_toList_iff.mp hy)
      simp [DictEntry.refKey, hkey]
    have a' : ¬ es.toList.any (·.refKey) = true := by rw [a]; exact Bool.false_ne_true
    rw [if_neg a']
    exact congrArg some e
theorem ObjM.look {h : Heap} {x dx C : Addr} {mA : Str → Option Value} (I : ObjM h x dx C mA) : ∃ od, PySem.W.InstAt h x (PySem.W.instObj C dx) C (some od) ∧ ∀ name, PySem.W.lookIn name od = some (mA name) :=
  let ⟨od, ho, hl⟩ := lookIn_ns I.ns
  ⟨od, ⟨I.obj, rfl, rfl, ho⟩, hl⟩
section
variable {prog : Program} {w : World} {A : Around} {E : Value → Shared → Prop} {s : Shared} {K : PySem.W.Frag} {x dx C f : Addr} {mA : Str → Option Value} {name : Str} {v : Value}
theorem get_meth {pl : Sem Bool} {Q : Value × List Value → Shared → Prop} (X : K.In s.heap) (I : ObjM s.heap x dx C mA) (hg : PySem.W.plainGet K C name = true)
    (hf : PySem.W.findIn K (.ref C) name = some (some (.ref f))) (ht : PySem.W.isFn K (.ref f) = true) (hv : mA name = none) (h : Q (.ref f, [.ref x]) s) :
    wpAny (model prog w) A (getMethod (.ref x) name pl) Q E s := by
  obtain ⟨od, J, hl⟩ := I.look
  exact PySem.W.method_fn X J (PySem.W.plainGet_of hg).1 (PySem.W.plainGet_of hg).2 hf (beq_iff_eq.mp ht) (by show (PySem.W.lookIn name od).map (·.isSome) = some false; rw [hl, hv]; rfl) h
theorem make_map {R : Result → Shared → Prop} {vs : List Value} {kw : List (Str × Value)} (X : K.In s.heap) (hm : PySem.W.makesIn K C = true)
    (hi : PySem.W.findIn K (.ref C) "__init__" = some (some (.ref f))) (hf : PySem.W.typeIn K (.ref f) = some (.type "function"))
    (h : codeAny (model prog w) (A.under (.builtin "type.__call__" ⟨.ref C :: vs, kw⟩)) (.call (.ref f) ⟨.ref (s.heap.objs.size + 1) :: vs, kw⟩) (PySem.W.InitBack (s.heap.objs.size + 1) R)
      { s with heap := (s.heap.push PySem.W.emptyDict).push (PySem.W.instObj C s.heap.objs.size) }) :
    codeAny (model prog w) A (.call (.ref C) ⟨vs, kw⟩) R s := by
  obtain ⟨hh, g, d, t, os⟩ := s
  exact PySem.W.make_core (PySem.W.makes_of X hm) (PySem.W.looks_findIn X hi) (fun self => PySem.W.bind_fn X self hf) (.inl rfl) h
end
theorem RelO.none_of {o : Option Value} (r : RelO none o) : o = none := by
  cases o with
  | none => rfl
  | some u => exact (show False from r).elim
section
variable {P : Program} {w : World} {H H' : Hp} {h h' : Heap} {a C dx : Addr} {fs fs' : List (Str × V)}
theorem ins_get (hok : HOk P w H h) (e : H a = some (.ins C dx fs)) : ∃ mA, ObjM h a dx C mA ∧ (∀ f, RelO (fs.lookup f) (mA f)) ∧ PySem.Within mA (fs.map (·.1)) ∧ fs.length ≤ 1000 ∧ H dx = some (.own a) := by
  obtain ⟨d, z, ne, ob, mA, n, r, q⟩ := (show ObjOk P w H h a (.ins C dx fs) from hok a _ e)
  exact ⟨mA, ⟨ob, n, ne⟩, r, q, z, d⟩
end
structure Cls (K : PySem.W.Frag) (C : Addr) : Prop where
  pg : PySem.W.plainGet K C Str.empty = true
  hd : PySem.W.hasDictIn K C = true
  po : PySem.W.plainOver K C = true
  sa : PySem.W.findIn K (.ref C) "__setattr__" = some (some (.builtin "object.__setattr__"))
theorem Cls.get {K : PySem.W.Frag} {C : Addr} (c : Cls K C) (f : Str) : PySem.W.plainGet K C f = true := c.pg
def NoAttr (K : PySem.W.Frag) (C : Addr) (f : Str) : Prop := PySem.W.findIn K (.ref C) f = some none
structure Meth (K : PySem.W.Frag) (C : Addr) (m : Str) (f : Addr) : Prop where
  at_ : PySem.W.findIn K (.ref C) m = some (some (.ref f))
  fn : PySem.W.isFn K (.ref f) = true
  kp : PySem.W.keepIn K (.ref f) = true
section
variable {X : Cx} {pins : List (Addr × Obj)} {σ : St} {H : Hp} {s : Shared} {a C dx : Addr} {fs : List (Str × V)} {f : Str} {v : V} {A : Around} {E : Value → Shared → Prop}
theorem getmeth_ok {m : Str} {g : Addr} {pl : Sem Bool} {Q : Value × List Value → Shared → Prop} (I : Inv X pins σ H s) (e : H a = some (.ins C dx fs)) (c : Cls X.K C) (k : Meth X.K C m g) (l : fs.lookup m = none)
    (h : Q (.ref g, [.ref a]) s) : wpAny (model X.prog X.w) A (getMethod (.ref a) m pl) Q E s := by
  obtain ⟨mA, O, r, _, _, _⟩ := ins_get I.hok e
  have hn : mA m = none := RelO.none_of (by rw [← l]; exact r m)
  exact get_meth I.kIn O (c.get m) k.at_ k.fn hn h
theorem Inv.made (I : Inv X pins σ H s) : Inv X pins σ (upd (upd H s.heap.objs.size (.own (s.heap.objs.size + 1))) (s.heap.objs.size + 1) (.ins C s.heap.objs.size []))
    { s with heap := (s.heap.push PySem.W.emptyDict).push (PySem.W.instObj C s.heap.objs.size) } := by
  have e1 : (s.heap.push PySem.W.emptyDict).get? s.heap.objs.size = some PySem.W.emptyDict := Heap.get?_push_size s.heap rfl
  have e2 : ((s.heap.push PySem.W.emptyDict).push (PySem.W.instObj C s.heap.objs.size)).get? (s.heap.objs.size + 1) = some (PySem.W.instObj C s.heap.objs.size) := by
    have := Heap.get?_push_size (s.heap.push PySem.W.emptyDict) (o := PySem.W.instObj C s.heap.objs.size) rfl
    rwa [Heap.size_push] at this
  have e3 : (s.heap.push PySem.W.emptyDict).Ns s.heap.objs.size (fun _ => none) := ⟨PySem.W.emptyDict, #[], _, e1, rfl, (fun e he => absurd he (by simp)), fun _ => rfl⟩
  have I1 := I.laid (a := s.heap.objs.size) (o := .own (s.heap.objs.size + 1)) (h' := s.heap.push PySem.W.emptyDict) (t' := s.toks) (fun b u q => Heap.get?_push_of_some _ q) (Nat.le_refl _) ⟨_, e1⟩
  refine I1.laid (a := s.heap.objs.size + 1) (o := .ins C s.heap.objs.size []) (t' := s.toks) (fun b u q => Heap.get?_push_of_some _ q) (Nat.le_of_eq (Heap.size_push _ _)) ?_
  have ne : s.heap.objs.size ≠ s.heap.objs.size + 1 := Nat.ne_of_lt (Nat.lt_succ_self _)
  refine ⟨by rw [upd_ne ne, upd_same], Nat.zero_le _, ne, e2, fun _ => none, (Heap.Ns1.of_empty e3).at fun o q => Heap.get?_push_of_some _ q, fun _ => True.intro, fun y hy => absurd rfl hy⟩
end
def tFld (K : PySem.W.Frag) (ta : TE) (f : Str) : TE := fun σ H Q => ta σ H fun x H1 => ∃ a C dx fs v, x = .ref a ∧ H1 a = some (.ins C dx fs) ∧ Cls K C ∧ NoAttr K C f ∧ fs.lookup f = some v ∧ Q v H1
section
variable {X : Cx} {o e value : Expr} {f : Str} {pos pos' tpos : Pos} {ta tv : TE}
theorem methcall_of {pl : Sem Bool} {m : Str} {apos : Pos} {args : List Expr} {pins : List (Addr × Obj)} {s : Shared} {σ : St} {H : Hp} {Q : Value → Shared → Prop} {te : TE} (he : PE X e te) (I : Inv X pins σ H s)
    (h : te σ H fun x H1 => ∃ a C dx fs g, x = .ref a ∧ H1 a = some (.ins C dx fs) ∧ Cls X.K C ∧ Meth X.K C m g ∧ fs.lookup m = none ∧
      ∀ s1, Inv X pins σ H1 s1 → wpAny (model X.prog X.w) X.A (callWith pos (.ref g) [.ref a] (backTo pos (starEach args X.env)) (backToKw pos (keywordEach [] X.env))) Q X.xe s1)
    (ht : eval (.Call (.Attribute e m apos) args [] pos) X.env = (do
      let ov ← eval e X.env
      standAt apos.atName
      let (f, first) ← holding [ov] (getMethod ov m pl)
      callWith pos f first (backTo pos (starEach args X.env)) (backToKw pos (keywordEach [] X.env)))) :
    wpAny (model X.prog X.w) X.A (eval (.Call (.Attribute e m apos) args [] pos) X.env) Q X.xe s := by
  refine PySem.W.methodCall_KW (pl := pl) (thn (he pins s σ H _ I h) fun u s1 ⟨x, H1, I1, rx, a, C, dx, fs, g, ex, ea, c, k, l, q⟩ => ?_) ht
  subst ex
  obtain rfl : u = Value.ref a := rx
  exact getmeth_ok I1 ea c k l (q s1 I1)
end
section
variable {X : Cx} {pins : List (Addr × Obj)} {σ : St} {H : Hp} {s : Shared} {A : Around} {E : Value → Shared → Prop} {Q : Value → Shared → Prop} {c : Value} {b : Bool}
inductive TyOf (K : PySem.W.Frag) (H : Hp) : V → Value → Prop where
  | non : TyOf K H .non (.type "NoneType")
  | bl (x : Bool) : TyOf K H (.bl x) (.type "bool")
  | int (i : Int) : TyOf K H (.int i) (.type "int")
  | str (x : Str) : TyOf K H (.str x) (.type "str")
  | flt (x : UInt64) : TyOf K H (.flt x) (.type "float")
  | lst {a : Addr} {xs : List V} (e : H a = some (.lst xs)) : TyOf K H (.ref a) (.type "list")
  | frz {a : Addr} {o : Obj} {xs : List V} (e : H a = some (.frz o (.lst xs))) : TyOf K H (.ref a) (.type "list")
  | tup {a : Addr} {xs : List V} (e : H a = some (.tup xs)) : TyOf K H (.ref a) (.type "tuple")
  | dK {a : Addr} {kvs : List (Key × V)} (e : H a = some (.dK kvs)) : TyOf K H (.ref a) (.type "dict")
  | dT {a : Addr} {kvs : List (List Key × V)} (e : H a = some (.dT kvs)) : TyOf K H (.ref a) (.type "dict")
  | ins {a C dx : Addr} {fs : List (Str × V)} (e : H a = some (.ins C dx fs)) (cl : Cls K C) (ha : PySem.W.findIn K (.ref C) "__class__" = some (some (.builtin "object.__class__")))
      (hn : PySem.W.specialIn K (.builtin "object.__class__") "__get__" = some (some (.builtin "getset_descriptor.__get__"))) (htk : PySem.W.takesIn K (.builtin "object.__class__") = some true)
      (hm : PySem.W.mroIn K C (.type "object") = some true) : TyOf K H (.ref a) (.ref C)
theorem isinst_ok {x : V} {u t : Value} (I : Inv X pins σ H s) (rx : RelV x u) (ty : TyOf X.K H x t) (e : PySem.W.kitOne X.K t c = some b) (h : ∀ tk, Q (.bool b) { s with toks := tk }) :
    wpAny (model X.prog X.w) A (call (.builtin "isinstance") [u, c]) Q E s := by
  cases ty with
  | non => cases (show u = Value.none from rx); exact PySem.W.kia_one PySem.W.kitx_none I.kIn True.intro e (fun z => nomatch z) h
  | bl y => cases (show u = Value.bool y from rx); exact PySem.W.kia_one PySem.W.kitx_bool I.kIn True.intro e (fun z => nomatch z) h
  | int i => obtain ⟨t, q⟩ := (show ∃ t, u = Value.int i t from rx); cases q; exact PySem.W.kia_one PySem.W.kitx_int I.kIn True.intro e (fun z => nomatch z) h
  | str y => obtain ⟨t, q⟩ := (show ∃ t, u = Value.str y t from rx); cases q; exact PySem.W.kia_one PySem.W.kitx_str I.kIn True.intro e (fun z => nomatch z) h
  | flt y => obtain ⟨t, q⟩ := (show ∃ t, u = Value.float y t from rx); cases q; exact PySem.W.kia_one PySem.W.kitx_float I.kIn True.intro e (fun z => nomatch z) h
  | @lst a xs ea =>
    cases (show u = Value.ref a from rx)
    obtain ⟨_, _, n, _, h1⟩ := (show ObjOk X.prog X.w H s.heap a (.lst xs) from I.hok a _ ea)
    exact PySem.W.kia_one PySem.W.kitx_list I.kIn ⟨_, h1, rfl⟩ e (fun z => nomatch z) h
  | @frz a ob xs ea =>
    cases (show u = Value.ref a from rx)
    obtain ⟨_, _, _, n, _, h1⟩ := (show ObjOk X.prog X.w H s.heap a (.frz ob (.lst xs)) from I.hok a _ ea)
    exact PySem.W.kia_one PySem.W.kitx_list I.kIn ⟨_, h1, rfl⟩ e (fun z => nomatch z) h
  | @tup a xs ea =>
    cases (show u = Value.ref a from rx)
    obtain ⟨_, _, _, p⟩ := (show ObjOk X.prog X.w H s.heap a (.tup xs) from I.hok a _ ea)
    obtain ⟨o, h1, h2, _⟩ := p
    exact PySem.W.kia_one PySem.W.kitx_tuple I.kIn ⟨o, h1, h2⟩ e (fun z => nomatch z) h
  | @dK a kvs ea =>
    cases (show u = Value.ref a from rx)
    obtain ⟨_, _, vs, _, p⟩ := (show ObjOk X.prog X.w H s.heap a (.dK kvs) from I.hok a _ ea)
    obtain ⟨o, es, ep, h1, h2, _⟩ := p
    exact PySem.W.kia_one PySem.W.kitx_dict I.kIn ⟨o, h1, h2.1⟩ e (fun z => nomatch z) h
  | @dT a kvs ea =>
    cases (show u = Value.ref a from rx)
    obtain ⟨_, _, xs, _, o, es, ep, h1, h2, _⟩ := (show ObjOk X.prog X.w H s.heap a (.dT kvs) from I.hok a _ ea)
    exact PySem.W.kia_one PySem.W.kitx_dict I.kIn ⟨o, h1, h2.1⟩ e (fun z => nomatch z) h
  | @ins a C dx fs ea cl ha hn htk hm =>
    cases (show u = Value.ref a from rx)
    obtain ⟨mA, O, _⟩ := ins_get I.hok ea
    obtain ⟨od, J, _⟩ := O.look
    exact PySem.W.kia_one (PySem.W.kitx_own (cl.get _) cl.hd ha hn htk hm) I.kIn J e (fun z => nomatch z) h
end
structure Room (k : Nat) (A : Around) : Prop where
  hd : A.handled = none
  dp : A.depth + 3 * k + 5 < recursionLimit
  un : A.units + 16 * k + 200 < cLine
theorem Room.mono {j k : Nat} {A : Around} (r : Room k A) (h : j ≤ k) : Room j A := ⟨r.hd, by have := r.dp; omega, by have := r.un; omega⟩
theorem Room.deeper {k : Nat} {A : Around} (r : Room (k + 1) A) (env : Env) : Room k (A.deeper env) :=
  ⟨r.hd, by have := r.dp; show A.depth + 1 + 3 * k + 5 < _; omega, by have := r.un; show A.units + 3 + 16 * k + 200 < _; omega⟩
theorem Room.in1 {k : Nat} {A : Around} (r : Room (k + 1) A) : Room k A.in1 :=
  ⟨r.hd, by have := r.dp; show A.depth + 3 * k + 5 < _; omega, by have := r.un; show A.units + 1 + 16 * k + 200 < _; omega⟩
theorem Room.depth {k : Nat} {A : Around} (r : Room k A) : A.depth < recursionLimit := by have := r.dp; omega
def tNil : TA := fun _ H Q => Q [] H
def tCons (ta : TE) (tr : TA) : TA := fun σ H Q => ta σ H fun x H1 => tr σ H1 fun xs H2 => Q (x :: xs) H2
section
variable {X : Cx} {e : Expr} {es : List Expr} {te : TE} {t : TA} {pos : Pos}
theorem pa_nil : PA X [] tNil := fun _ _ _ _ H Q I h => Calls.spliced_nil ⟨[], H, I, .nil, h⟩
theorem pa_cons (ha : PE X e te) (hr : PA X es t) (hs : starEach (e :: es) X.env = (false, eval e X.env) :: starEach es X.env := by rfl) : PA X (e :: es) (tCons te t) := by
  intro pos pins s σ H Q I h
  rw [hs]
  show wpAny _ _ (spliced ((false, eval e X.env) :: backTo pos (starEach es X.env))) _ _ s
  refine Calls.spliced_cons (thn (ha pins s σ H _ I h) fun u s1 ⟨x, H1, I1, r1, q1⟩ => ?_)
  exact thn (hr pos pins s1 σ H1 _ I1 q1) fun us s2 ⟨xs, H2, I2, r2, q2⟩ => ⟨x :: xs, H2, I2, .cons r1 r2, q2⟩
def tTup (t : TA) : TE := fun σ H Q => t σ H fun xs H1 => xs.length ≤ sizeLine ∧ ∀ p, H1 p = none → Q (.ref p) (upd H1 p (.tup xs))
def tLst (t : TA) : TE := fun σ H Q => t σ H fun xs H1 => xs.length ≤ sizeLine ∧ ∀ p, H1 p = none → Q (.ref p) (upd H1 p (.lst xs))
theorem pe_tup {x1} (h : PA X es t) : PE X (.Tuple es x1 pos) (tTup t) := by
  intro pins s σ H Q I hq
  refine wpAny_Tuple_spliced (thn (h pos pins s σ H _ I hq) fun us s1 ⟨xs, H1, I1, r, z, q⟩ => ⟨by rw [← r.length]; exact z, ?_⟩)
  have hf : H1 s1.heap.objs.size = none := I1.hok.fresh (Nat.le_refl _)
  refine ⟨.ref s1.heap.objs.size, upd H1 s1.heap.objs.size (.tup xs), I1.laid (t' := s1.toks) (fun b u e => Heap.get?_push_of_some _ e) (Nat.le_refl _) ?_, rfl, q _ hf⟩
  exact ⟨z, us, r, ⟨_, Heap.get?_push_size _ rfl, rfl, _, rfl⟩⟩
theorem pe_lst (h : PA X es t) : PE X (.List es pos) (tLst t) := by
  intro pins s σ H Q I hq
  refine wpAny_List_spliced (thn (h pos pins s σ H _ I hq) fun us s1 ⟨xs, H1, I1, r, z, q⟩ => ⟨by rw [← r.length]; exact z, ?_⟩)
  have hf : H1 s1.heap.objs.size = none := I1.hok.fresh (Nat.le_refl _)
  refine ⟨.ref s1.heap.objs.size, upd H1 s1.heap.objs.size (.lst xs), I1.laid (t' := s1.toks) (fun b u e => Heap.get?_push_of_some _ e) (Nat.le_refl _) ?_, rfl, q _ hf⟩
  exact ⟨z, us, 0, r, Heap.get?_push_size _ rfl⟩
end
abbrev Sp := List V → Hp → VK → XK → Prop
abbrev CXT := List Env → Hp → Shared → XK → Value → Shared → Prop
structure Env0 (P : Program) (w : World) (K : PySem.W.Frag) (mg : Str → Option Value) (base : Heap) (A : Around) (outer : List Env) (s : Shared) (H : Hp) : Prop where
  frames : A.frames = some outer
  mod : Mod K mg base
  bs : ∀ b o, base.get? b = some o → s.heap.get? b = some o ∧ H b = none
  bsz : base.objs.size ≤ s.heap.objs.size
  funs : s.heap.FunFrames base outer
  frf : ∀ b ∈ frs outer, H b = none
  hok : HOk P w H s.heap
  bare : AllBare s.gens
def CE (outer : List Env) (P : Program) (w : World) (H : Hp) (s : Shared) (Q : VK) (u : Value) (s' : Shared) : Prop :=
  ∃ v H', s'.os = s.os ∧ AllBare s'.gens ∧ Un (frs outer) [] H H' s.heap s'.heap ∧ HOk P w H' s'.heap ∧ RelV v u ∧ Q v H'
def CR (CX : CXT) (outer : List Env) (P : Program) (w : World) (H : Hp) (s : Shared) (Q : VK) (E : XK) (r : Result) (s' : Shared) : Prop :=
  match r with
  | .ok (.ret u) => CE outer P w H s Q u s'
  | .ok _ => False
  | .error e => CX outer H s E e s'
structure FnOk (P : Program) (w : World) (K : PySem.W.Frag) (mg : Str → Option Value) (base : Heap) (CX : CXT) (k : Nat) (f : Addr) (fd : FuncData) (ps : List Str) (sp : Sp) : Prop where
  len : ∀ vs H Q E, sp vs H Q E → vs.length = ps.length
  run : ∀ (A : Around) (outer : List Env) (s : Shared) (H : Hp) (args : Args) (us : List Value) (vs : List V) (Q : VK) (E : XK), Room k A → Env0 P w K mg base A outer s H → BindsTo s fd args (ps.zip us) → Vals vs us → sp vs H Q E →
    codeAny (model P w) A (.call (.ref f) args) (CR CX outer P w H s Q E) s
theorem FnOk.mono {P : Program} {w : World} {K : PySem.W.Frag} {mg : Str → Option Value} {base : Heap} {CX : CXT} {j k : Nat} {f : Addr} {fd : FuncData} {ps : List Str} {sp : Sp} (F : FnOk P w K mg base CX j f fd ps sp) (h : j ≤ k) :
    FnOk P w K mg base CX k f fd ps sp := ⟨F.len, fun A outer s H args us vs Q E hr => F.run A outer s H args us vs Q E (hr.mono h)⟩
section
variable {X : Cx} {pins : List (Addr × Obj)} {σ : St} {H : Hp} {s s' : Shared}
theorem Inv.env0 (I : Inv X pins σ H s) : Env0 X.prog X.w X.K X.mg X.base X.A X.stack s H :=
  ⟨I.ok.frames, I.ok.mod, I.bs, Nat.le_trans I.ok.bsz I.sz, I.stack, I.stkFree, I.hok, I.bare⟩
theorem Inv.after {Q : VK} {u : Value} (I : Inv X pins σ H s) (h : CE X.stack X.prog X.w H s Q u s') : EP X pins σ Q u s' := by
  obtain ⟨v, H', os, bare, un, hok, r, q⟩ := h
  obtain ⟨hh, g, d, t, os'⟩ := s'
  obtain rfl : os' = s.os := os
  exact ⟨v, H', I.call (h' := hh) (g' := g) (d' := d) (t' := t) (ch := []) un hok bare (fun b z => absurd z (by simp)), r, q⟩
end
def tCall (sp : Sp) (dvs : List V) (E : XK) (t : TA) : TE := fun σ H Q => t σ H fun vs H1 => sp (vs ++ dvs) H1 Q E
def tMeth (C : Addr) (m : Str) (sp : Sp) (dvs : List V) (E : XK) (ta : TE) (t : TA) : TE := fun σ H Q => ta σ H fun x H1 => ∃ a dx fs, x = .ref a ∧ H1 a = some (.ins C dx fs) ∧ fs.lookup m = none ∧
  t σ H1 fun vs H2 => sp (x :: (vs ++ dvs)) H2 Q E
def tMake (C : Addr) (sp : Sp) (dvs : List V) (E : XK) (t : TA) : TE := fun σ H Q => t σ H fun vs H1 => ∀ x dx, H1 x = none → H1 dx = none → dx ≠ x →
  sp (.ref x :: (vs ++ dvs)) (upd (upd H1 dx (.own x)) x (.ins C dx [])) (fun v H2 => v = .non ∧ Q (.ref x) H2) E
def Binds (K : PySem.W.Frag) (fd : FuncData) (ps : List Str) (ds : List Value) : Prop :=
  ∀ (s : Shared) (us : List Value), K.In s.heap → (us ++ ds).length = ps.length → BindsTo s fd ⟨us, []⟩ (ps.zip (us ++ ds))
theorem Binds.all {K : PySem.W.Frag} {fd : FuncData} {ps : List Str} (h : ∀ us : List Value, us.length = ps.length → bindArgs fd ⟨us, []⟩ = pure (ps.zip us)) : Binds K fd ps [] := fun s us _ hl => by
  rw [List.append_nil] at hl ⊢
  exact .of_eq (h us hl)
def Passes (CX : CXT) (X : Cx) (E : XK) : Prop := ∀ (pins : List (Addr × Obj)) (σ : St) (H : Hp) (s : Shared) (e : Value) (s' : Shared), Inv X pins σ H s → CX X.stack H s E e s' → X.xe e s'
section
variable {X : Cx} {CX : CXT} {k : Nat} {f C : Addr} {fd : FuncData} {ps : List Str} {sp : Sp} {dvs : List V} {ds : List Value} {E : XK} {x m : Str} {p pos apos : Pos} {e o : Expr} {es : List Expr} {ta : TE} {t : TA}
theorem run_fn {pins : List (Addr × Obj)} {σ : St} {H : Hp} {s : Shared} {Q : VK} {us : List Value} {vs : List V} (F : FnOk X.prog X.w X.K X.mg X.base CX k f fd ps sp) (hr : Room k X.A) (hb : Binds X.K fd ps ds) (hd : Vals dvs ds) (hx : Passes CX X E)
    (I : Inv X pins σ H s) (r : Vals vs us) (h : sp (vs ++ dvs) H Q E) : wpAny (model X.prog X.w) X.A (call (.ref f) us) (EP X pins σ Q) X.xe s := by
  have r2 : Vals (vs ++ dvs) (us ++ ds) := r.append hd
  have hl : (us ++ ds).length = ps.length := by rw [← r2.length]; exact F.len _ _ _ _ h
  refine wpAny_call (codeAny_mono (F.run X.A X.stack s H ⟨us, []⟩ (us ++ ds) (vs ++ dvs) Q E hr I.env0 (hb s us I.kIn hl) r2 h) fun r s' hq => ?_)
  cases r with
  | error e => exact hx pins σ H s e s' I hq
  | ok fl =>
    cases fl with
    | ret u => exact I.after hq
    | next => exact False.elim hq
    | brk => exact False.elim hq
    | cont => exact False.elim hq
theorem pe_call (F : FnOk X.prog X.w X.K X.mg X.base CX k f fd ps sp) (hr : Room k X.A) (hg : Gl X x) (hm : X.mg x = some (.ref f)) (hk : PySem.W.keepIn X.K (.ref f) = true) (hb : Binds X.K fd ps ds) (hd : Vals dvs ds) (hx : Passes CX X E)
    (ha : PA X (e :: es) t) (hdb : (x == ("__debug__" : Str)) = false := by decide) (he : starEach (e :: es) X.env = (false, eval e X.env) :: starEach es X.env := by rfl) (hpl : (backTo pos (starEach es X.env)).any (·.1) = false := by rfl) :
    PE X (.Call (.Name x p) (e :: es) [] pos) (tCall sp dvs E t) := by
  intro pins s σ H Q I h
  refine wpAny_Call_Name_kw (ld_glob I hg hm ?_ hdb)
  refine PySem.W.callWith_K (h₀ := X.base) I.ok.mod.kin hk (thn (ha pos pins s σ H _ I h) fun us s1 ⟨vs, H1, I1, r, q⟩ => ⟨I1.kIn, ?_⟩) he hpl
  exact run_fn F hr hb hd hx I1 r q
end
structure FnScope (N P : List Str) (sc : Scope) : Prop where
  kind : sc.kind = .function
  co : sc.isCoroutine = false
  gen : sc.isGenerator = false
  nd : N.Nodup
  pre : N.take P.length = P
  par : ∀ x ∈ P, sc.names.lookup x = some .local ∨ sc.names.lookup x = some .cell
  nofree : ∀ y ∈ sc.names, y.2 ≠ .free
theorem bindL_out {kindOf : Str → Option NameKind} {x : Str} : ∀ {binds : List (Str × Value)} {m : Str → Option Value}, (∀ v, (x, v) ∉ binds) → bindL kindOf binds m x = m x
  | [], _, _ => rfl
  | (n, v) :: r, m, h => by
    unfold bindL
    rw [bindL_out fun w hw => h w (List.mem_cons_of_mem _ hw)]
    split
    · have : x ≠ n := by rintro rfl; exact h v List.mem_cons_self
      simp [this]
    · rfl
theorem bindC_out {kindOf : Str → Option NameKind} {x : Str} : ∀ {binds : List (Str × Value)} {m : Str → Option Value}, (∀ v, (x, v) ∉ binds) → bindC kindOf binds m x = m x
  | [], _, _ => rfl
  | (n, v) :: r, m, h => by
    unfold bindC
    rw [bindC_out fun w hw => h w (List.mem_cons_of_mem _ hw)]
    split
    · rfl
    · have : x ≠ n := by rintro rfl; exact h v List.mem_cons_self
      simp [this]
theorem bindL_get {kindOf : Str → Option NameKind} {x : Str} {v : Value} : ∀ {P : List Str} {vs : List Value} {i : Nat} {m : Str → Option Value}, P.Nodup → P[i]? = some x → vs[i]? = some v → kindOf x = some .local →
    bindL kindOf (P.zip vs) m x = some v
  | [], _, _, _, _, h, _, _ => by simp at h
  | _ :: _, [], _, _, _, _, h, _ => by simp at h
  | p :: P, w :: vs, 0, m, nd, h1, h2, hk => by
    simp at h1 h2; subst h1; subst h2
    show bindL kindOf ((p, w) :: P.zip vs) m p = _
    unfold bindL
    rw [bindL_out fun v hv => (List.nodup_cons.mp nd).1 (List.of_mem_zip hv).1, if_pos hk]
    simp
  | p :: P, w :: vs, i + 1, m, nd, h1, h2, hk => by
    show bindL kindOf ((p, w) :: P.zip vs) m x = _
    unfold bindL
    exact bindL_get (i := i) (List.nodup_cons.mp nd).2 (by simpa using h1) (by simpa using h2) hk
theorem bindC_get {kindOf : Str → Option NameKind} {x : Str} {v : Value} : ∀ {P : List Str} {vs : List Value} {i : Nat} {m : Str → Option Value}, P.Nodup → P[i]? = some x → vs[i]? = some v → kindOf x ≠ some .local →
    bindC kindOf (P.zip vs) m x = some v
  | [], _, _, _, _, h, _, _ => by simp at h
  | _ :: _, [], _, _, _, _, h, _ => by simp at h
  | p :: P, w :: vs, 0, m, nd, h1, h2, hk => by
    simp at h1 h2; subst h1; subst h2
    show bindC kindOf ((p, w) :: P.zip vs) m p = _
    unfold bindC
    rw [bindC_out fun v hv => (List.nodup_cons.mp nd).1 (List.of_mem_zip hv).1, if_neg hk]
    simp
  | p :: P, w :: vs, i + 1, m, nd, h1, h2, hk => by
    show bindC kindOf ((p, w) :: P.zip vs) m x = _
    unfold bindC
    exact bindC_get (i := i) (List.nodup_cons.mp nd).2 (by simpa using h1) (by simpa using h2) hk
def start (N : List Str) (vs : List V) : St := vs.map some ++ List.replicate (N.length - vs.length) none
def cxOf (CX : CXT) (P : Program) (w : World) (K : PySem.W.Frag) (mg : Str → Option Value) (base : Heap) (N : List Str) (qual : Str) (scope : Scope) (f : Addr) (cd : Value) (A : Around) (outer : List Env) (s : Shared) (H : Hp) (E : XK) : Cx where
  prog := P
  w := w
  K := K
  mg := mg
  base := base
  A := A.deeper (envOfC qual scope s.heap.objs.size f cd)
  N := N
  s₀ := s
  H₀ := H
  env := envOfC qual scope s.heap.objs.size f cd
  outer := outer
  stack := envOfC qual scope s.heap.objs.size f cd :: outer
  ex := []
  calm := true
  fn := fun _ => true
  pn := []
  xe := fun e s' => wpAny (model P w) (A.deeper (envOfC qual scope s.heap.objs.size f cd)) (leaving (envOfC qual scope s.heap.objs.size f cd) e) (fun _ s'' => CX outer H s E e s'') (fun e' s'' => CX outer H s E e' s'') s'
theorem cell_has {sc : Scope} {n : Nat} {x : Str} (h : sc.names.lookup x = some .cell) : ∃ c, (cellsFrom n sc.names []).lookup x = some c := by
  have q := PySem.W.cellsFrom_some sc.names n [] (.inl h)
  exact Option.isSome_iff_exists.mp q
theorem inv_start {CX : CXT} {P : Program} {w : World} {K : PySem.W.Frag} {mg : Str → Option Value} {base : Heap} {N ps : List Str} {qual : Str} {scope : Scope} {f : Addr} {cd : Value} {A : Around} {outer : List Env} {s s1 : Shared} {H : Hp} {E : XK} {us : List Value} {vs : List V}
    (S : FnScope N ps scope) (hd : A.handled = none) (e0 : Env0 P w K mg base A outer s H) (hl : vs.length = ps.length) (r : Vals vs us)
    (x : InCallC s s.heap.objs.size (bindL (envOfC qual scope s.heap.objs.size f cd).kindOf (ps.zip us) fun _ => none) (cellsFrom (s.heap.objs.size + 1) scope.names []) (bindC (envOfC qual scope s.heap.objs.size f cd).kindOf (ps.zip us) fun _ => none) s1) :
    Inv (cxOf CX P w K mg base N qual scope f cd A outer s H E) [] (start N vs) H s1 := by
  have hpl : ps.length ≤ N.length := by have := congrArg List.length S.pre; rw [List.length_take] at this; omega
  obtain ⟨h1, tk, rfl, hk⟩ := x.done
  have noA : ∀ b : Addr, b ∉ (cxOf CX P w K mg base N qual scope f cd A outer s H E).ex := fun b z => absurd (show b ∈ ([] : List Addr) from z) (by simp)
  refine ⟨⟨e0.mod, S.kind, rfl, rfl, Nat.le_refl _, fun y z c h1 h2 => ?_, fun y hy => ?_, fun y c _ h => ?_, fun _ => hd, Around.frames_deeper e0.frames, .inr ⟨rfl, rfl⟩, fun b z => absurd z (noA b), e0.bs, e0.bsz, fun b _ _ => noA b, fun b z => absurd z (noA b), e0.funs, e0.frf⟩,
    rfl, e0.bare, Un.kept hk, ⟨_, x.toInCall.ns, fun i y v h1 h2 h3 => ?_⟩, fun y c h => ⟨_, x.cell y c h⟩, e0.hok.fresh (Nat.le_refl _), fun y c h => ?_, fun p hp => absurd (show p ∈ ([] : List (Addr × Obj)) from hp) (by simp), e0.hok.kept hk, ?_⟩
  · exact name_of_addr x.apart (PySem.mem_of_lookup h1) (PySem.mem_of_lookup h2)
  · have hy : scope.names.lookup y = some .cell ∨ scope.names.lookup y = some .free := hy
    rcases hy with hy | hy
    · exact cell_has hy
    · exact absurd rfl (S.nofree _ (PySem.mem_of_lookup hy))
  · exact Nat.le_of_lt (x.above y c (PySem.mem_of_lookup h))
  · have hi : i < vs.length := by
      unfold start at h2
      by_cases hi : i < vs.length
      · exact hi
      · rw [List.getElem?_append_right (by simpa using hi)] at h2
        rw [List.getElem?_replicate] at h2
        split at h2 <;> cases h2
    have ha : vs[i]? = some v := by
      unfold start at h2
      rw [List.getElem?_append_left (by simpa using hi), List.getElem?_map] at h2
      cases e : vs[i]? with
      | none => rw [e] at h2; cases h2
      | some a => rw [e] at h2; cases h2; rfl
    obtain ⟨u, hu, rv⟩ := r.get ha
    have hp : ps[i]? = some y := by
      rw [← S.pre, List.getElem?_take_of_lt (by omega)]; exact h1
    have ndP : ps.Nodup := by rw [← S.pre]; exact S.nd.sublist (List.take_sublist _ _)
    refine ⟨u, rv, ?_⟩
    rcases S.par y (List.mem_of_getElem? hp) with k | k
    · exact .inl ⟨k, bindL_get ndP hp hu k⟩
    · obtain ⟨c, e⟩ := cell_has (n := s.heap.objs.size + 1) k
      refine .inr ⟨.inl k, c, e, ?_⟩
      have q := x.cell y c e
      rw [bindC_get ndP hp hu (by show scope.names.lookup y ≠ _; rw [k]; decide)] at q
      exact q
  · exact e0.hok.fresh (Nat.le_of_lt (x.above y c (PySem.mem_of_lookup h)))
  · unfold start
    show _ = N.length
    rw [List.length_append, List.length_map, List.length_replicate]
    omega
theorem fn_of {CX : CXT} {P : Program} {w : World} {K : PySem.W.Frag} {mg : Str → Option Value} {base : Heap} {k : Nat} {f : Addr} {name qual : Str} {params : Arguments} {body : List Stmt} {scope : Scope} {dV kV doc pm cdv ct oc : Value} {an od : Option Addr}
    {osl : Array (Option Value)} {N ps : List Str} {sp : Sp} (lk : K.lookup f = some ⟨oc, od, .func (PySem.W.fnOf name qual params body scope dV kV doc pm an cdv ct), osl⟩) (hcd : PySem.W.codeIn K cdv qual = true) (S : FnScope N ps scope)
    (len : ∀ vs H Q E, sp vs H Q E → vs.length = ps.length)
    (hbody : ∀ (A : Around) (outer : List Env) (s : Shared) (H : Hp) (vs : List V) (Q : VK) (E : XK), Room k (A.deeper (envOfC qual scope s.heap.objs.size f cdv)) → sp vs H Q E →
      ∃ t, PSs (cxOf CX P w K mg base N qual scope f cdv A outer s H E) body t ∧ t { nx := fun _ H' => Q .non H', rt := Q } (start N vs) H) :
    FnOk P w K mg base CX (k + 1) f (PySem.W.fnOf name qual params body scope dV kV doc pm an cdv ct) ps sp := by
  refine ⟨len, fun A outer s H args us vs Q E hr e0 hb r hsp => ?_⟩
  have hl := len _ _ _ _ hsp
  have KX : K.In s.heap := e0.mod.kin.keeps fun b o e => (e0.bs b o e).1
  have lim : s.heap.NoLimit := e0.mod.nolimit.keeps fun b o e => (e0.bs b o e).1
  have hkind : ∀ y ∈ ps.zip us, scope.names.lookup y.1 = some .local ∨ (scope.names.lookup y.1 = some .cell ∧ ((cellsFrom (s.heap.objs.size + 1) scope.names []).lookup y.1).isSome = true) := fun ⟨n, v⟩ hy => by
    rcases S.par n (List.of_mem_zip hy).1 with q | q
    · exact .inl q
    · exact .inr ⟨q, PySem.W.cellsFrom_some _ _ _ (.inl q)⟩
  refine codeAny_call_function hr.depth (KX _ _ lk) rfl S.co S.gen rfl (PySem.W.codeRec_of KX hcd) (hb _ _ _ _ ?_)
  refine wpAny_newFunctionEnv_cells S.kind hkind fun env he s1 x => ?_
  subst he
  refine ⟨lim.keeps x.toInCall.keep, codeAny_func ?_⟩
  obtain ⟨t, ht, hq⟩ := hbody A outer s H vs Q E (hr.deeper _) hsp
  have I : Inv (cxOf CX P w K mg base N qual scope f cdv A outer s H E) [] (start N vs) H s1 := inv_start S hr.hd e0 hl r x
  refine wpAny_mono (ht [] s1 (start N vs) H _ I hq) (fun fl s' hs => ?_) fun e s' hs => hs
  have fin : ∀ {σ' : St} {H' : Hp} {v : V} {u : Value}, Inv (cxOf CX P w K mg base N qual scope f cdv A outer s H E) [] σ' H' s' → RelV v u → Q v H' → CE outer P w H s Q u s' :=
    fun {σ' H' v u} J rv q => ⟨v, H', J.os, J.bare, J.base, J.hok, rv, q⟩
  cases fl with
  | ret u =>
    obtain ⟨v, σ', H', J, rv, q⟩ := hs
    exact fin J rv q
  | next =>
    obtain ⟨σ', H', J, q⟩ := hs
    exact fin (v := V.non) (u := Value.none) J rfl q
  | brk =>
    obtain ⟨_, _, _, q⟩ := hs
    exact False.elim q
  | cont =>
    obtain ⟨_, _, _, q⟩ := hs
    exact False.elim q
section
variable {X : Cx} {x : Str} {p pos : Pos} {e : Expr} {es : List Expr} {t : TA} {id T : String} {r : List V → Hp → VK → Prop}
def tCB (r : List V → Hp → VK → Prop) (t : TA) : TE := fun σ H Q => t σ H fun vs H1 => r vs H1 Q
theorem pe_callB (hc : CallR X (.builtin id) r) (hg : Gl X x) (hm : X.mg x = none) (hv : bootBuiltins x = some (.builtin id)) (ha : PA X (e :: es) t) (hn : x ≠ "__name__" := by decide) (hdb : (x == ("__debug__" : Str)) = false := by decide)
    (he : starEach (e :: es) X.env = (false, eval e X.env) :: starEach es X.env := by rfl) (hpl : (backTo pos (starEach es X.env)).any (·.1) = false := by rfl) : PE X (.Call (.Name x p) (e :: es) [] pos) (tCB r t) := by
  intro pins s σ H Q I h
  refine wpAny_Call_Name_kw (ld_blt I hg hm hv ?_ hn hdb)
  exact PyProof.Rows.callWith_builtin1 (thn (ha pos pins s σ H _ I h) fun us s1 ⟨vs, H1, I1, r1, q1⟩ => hc pins s1 σ H1 vs us Q I1 r1 q1) he hpl
theorem pe_callTy (hc : CallR X (.type T) r) (hg : Gl X x) (hm : X.mg x = none) (hv : bootBuiltins x = some (.type T)) (ha : PA X (e :: es) t) (hn : x ≠ "__name__" := by decide) (hdb : (x == ("__debug__" : Str)) = false := by decide)
    (he : starEach (e :: es) X.env = (false, eval e X.env) :: starEach es X.env := by rfl) (hpl : (backTo pos (starEach es X.env)).any (·.1) = false := by rfl) : PE X (.Call (.Name x p) (e :: es) [] pos) (tCB r t) := by
  intro pins s σ H Q I h
  refine wpAny_Call_Name_kw (ld_blt I hg hm hv ?_ hn hdb)
  exact PyProof.Rows.callWith_type1 (thn (ha pos pins s σ H _ I h) fun us s1 ⟨vs, H1, I1, r1, q1⟩ => hc pins s1 σ H1 vs us Q I1 r1 q1) he hpl
end
end L2
namespace HT
open PySem PyProof.Rows
section
open PySem.SeqAt
open PySem.AutoSeq1 (wpAny_loadPart')
open PySem.MeetsSeq PySem.MeetsSeq2 PySem.MeetsSeq3
end
section
variable {prog : Program} {w : World} {A : Around} {E : Value → Shared → Prop} {s : Shared}
theorem cat_tup {t b : Addr} {vs ws : List Value} {Q : Value → Shared → Prop} (ht : IsTup s.heap t vs.toArray) (hb : IsTup s.heap b ws.toArray) (hv : vs ≠ [])
    (h1 : ws = [] → Q (.ref t) s) (h2 : ws ≠ [] → Q (.ref s.heap.objs.size) { s with heap := s.heap.push { cls := .type "tuple", data := .seq (vs ++ ws).toArray } })
    (hsz : vs.length + ws.length ≤ sizeLine) : wpAny (model prog w) A (binaryOp .Add (.ref t) (.ref b)) Q E s := by
  obtain ⟨⟨cls, dd, data, sl⟩, ho, hc, n, hd⟩ := id ht
  obtain ⟨⟨cls2, dd2, data2, sl2⟩, ho2, hc2, n2, hd2⟩ := id hb
  simp only at hc hd hc2 hd2
  subst hc hd hc2 hd2
  have e : vs.toArray ++ ws.toArray = (vs ++ ws).toArray := by simp
  by_cases hw : ws = []
  · exact concat_meets ⟨_, ho, rfl⟩ ⟨_, ho2, rfl⟩ noFill_tuple_add seq_tuple_add PySem.F.slot_tuple_add PySem.F.entry_tuple_add (PySem.F.args_tuple_add_2 _ _)
      (tuple_addW1 t b vs.toArray ws.toArray n n2 dd dd2 sl sl2 (by simpa using hv) (by simp [hw])) ⟨ho, ho2, h1 hw⟩
  · refine concat_meets ⟨_, ho, rfl⟩ ⟨_, ho2, rfl⟩ noFill_tuple_add seq_tuple_add PySem.F.slot_tuple_add PySem.F.entry_tuple_add (PySem.F.args_tuple_add_2 _ _)
      (tuple_addW2 t b vs.toArray ws.toArray n n2 dd dd2 sl sl2 (by simpa using hv) (by simpa using hw) (by rw [List.size_toArray, List.size_toArray]; exact hsz)) ⟨ho, ho2, ?_⟩
    rw [e]
    exact h2 hw
def sIx (n d : Nat) : Option Int → Nat
  | none => d
  | some v => if v < 0 then (v + (n : Int)).toNat else min v.toNat n
end
end HT
namespace L2
open PySem PySem.Spec PyProof.Rows
abbrev TO := St → Hp → (Option Int → Hp → Prop) → Prop
section
variable {X : Cx} {e : Expr} {te : TE} {lo hi : Option Expr} {tl th : TO} {pos p2 : Pos}
def SlR (X : Cx) (r : V → Option Int → Option Int → Hp → VK → Prop) : Prop :=
  ∀ (pins : List (Addr × Obj)) (s : Shared) (σ : St) (H : Hp) (x : V) (v vl vu : Value) (lo hi : Option Int) (sl : Addr) (Q : VK), Inv X pins σ H s → RelV x v → s.heap.IsSliceOf sl vl vu .none → IsPart vl lo → IsPart vu hi → r x lo hi H Q →
    ∃ T id, typeLookup (.type T) "__getitem__" = pure (some (.builtin id)) ∧ s.TypeIs v T ∧ wpAny (model X.prog X.w) X.A (getItem v (.ref sl)) (EP X pins σ Q) X.xe s
theorem SlR.or {r r' : V → Option Int → Option Int → Hp → VK → Prop} (h : SlR X r) (h' : SlR X r') : SlR X (fun x lo hi H Q => r x lo hi H Q ∨ r' x lo hi H Q) := by
  intro pins s σ H x v vl vu lo hi sl Q I rx hs pl pu q
  rcases q with q | q
  · exact h pins s σ H x v vl vu lo hi sl Q I rx hs pl pu q
  · exact h' pins s σ H x v vl vu lo hi sl Q I rx hs pl pu q
def cutV (xs : List V) (lo hi : Option Int) : List V := (xs.drop (HT.sIx xs.length 0 lo)).take (HT.sIx xs.length xs.length hi - HT.sIx xs.length 0 lo)
theorem cutV_length (xs : List V) (lo hi : Option Int) : (cutV xs lo hi).length ≤ xs.length := by
  unfold cutV
  rw [List.length_take, List.length_drop]
  omega
def rCatT (K : PySem.W.Frag) : R2 := fun x y H Q => ∃ a b xs ys, x = .ref a ∧ y = .ref b ∧ SqT K H a xs ∧ SqT K H b ys ∧ xs ≠ [] ∧ xs.length + ys.length ≤ sizeLine ∧
  (ys = [] → Q (.ref a) H) ∧ (ys ≠ [] → ∀ p, H p = none → Q (.ref p) (upd H p (.tup (xs ++ ys))))
theorem Vals.nil_iff {xs : List V} {us : List Value} (r : Vals xs us) : us = [] ↔ xs = [] := by
  cases r with
  | nil => simp
  | cons _ _ => simp
theorem op_catT : OpR X (binaryOp .Add) (rCatT X.K) := by
  intro pins s σ H x y v u Q I rx ry h
  obtain ⟨a, b, xs, ys, rfl, rfl, ha, hb, hx, hz, q1, q2⟩ := h
  cases rx
  cases ry
  obtain ⟨its, r1, p1, _⟩ := I.tuple ha
  obtain ⟨its2, r2, p2, _⟩ := I.tuple hb
  refine HT.cat_tup p1 p2 (fun z => hx (r1.nil_iff.mp z)) (fun z => ⟨.ref a, H, I, rfl, q1 (r2.nil_iff.mp z)⟩) (fun z => ?_) (by rw [← r1.length, ← r2.length]; exact hz)
  refine ⟨.ref s.heap.objs.size, _, I.laid (t' := s.toks) (o := .tup (xs ++ ys)) (fun b ob q => Heap.get?_push_of_some _ q) (Nat.le_refl _) ?_, rfl, q2 (fun w => z (r2.nil_iff.mpr w)) _ (I.hok.fresh (Nat.le_refl _))⟩
  exact ⟨by rw [List.length_append]; exact hz, _, r1.append r2, IsTup.new _ _⟩
end
def ixN (n : Nat) (i : Int) : Option Nat := if 0 ≤ i then (if i < n then some i.toNat else none) else if -(n : Int) ≤ i then some (i + n).toNat else none
def atI {α : Type} (xs : List α) (i : Int) : Option α := (ixN xs.length i).bind fun j => xs[j]?
theorem ixN_seq {n : Nat} {i : Int} {j : Nat} (h : ixN n i = some j) : seqIndex? i n = some j ∧ j < n ∧ -(n : Int) ≤ i ∧ i < n := by
  unfold ixN at h
  by_cases h0 : 0 ≤ i
  · rw [if_pos h0] at h
    by_cases h1 : i < n
    · rw [if_pos h1] at h
      have e : i.toNat = j := Option.some.inj h
      exact ⟨by rw [seqIndex_of h0 h1, e], by omega, by omega, h1⟩
    · rw [if_neg h1] at h; cases h
  · rw [if_neg h0] at h
    by_cases h1 : -(n : Int) ≤ i
    · rw [if_pos h1] at h
      have e : (i + n).toNat = j := Option.some.inj h
      exact ⟨by rw [seqIndex_neg (by omega) h1, e], by omega, h1, by omega⟩
    · rw [if_neg h1] at h; cases h
theorem atI_get {α : Type} {xs : List α} {i : Int} {v : α} (h : atI xs i = some v) : ∃ j, seqIndex? i xs.length = some j ∧ xs[j]? = some v ∧ j < xs.length ∧ -(xs.length : Int) ≤ i ∧ i < xs.length := by
  unfold atI at h
  cases e : ixN xs.length i with
  | none => rw [e] at h; cases h
  | some j =>
    rw [e] at h
    obtain ⟨h1, h2, h3, h4⟩ := ixN_seq e
    exact ⟨j, h1, h, h2, h3, h4⟩
theorem atI_nat {α : Type} {xs : List α} {j : Nat} {v : α} (h : xs[j]? = some v) : atI xs (j : Int) = some v := by
  have hj : j < xs.length := (List.getElem?_eq_some_iff.mp h).1
  have e : ixN xs.length (j : Int) = some j := by
    unfold ixN
    rw [if_pos (by omega), if_pos (by omega)]; simp
  unfold atI; rw [e]; exact h
def PlainIx (b : Expr) : Prop := ∀ o i, subscripted b false o i = operate [o, i] (getItem o i)
def IxR (X : Cx) (r : R2) : Prop :=
  ∀ (value slice : Expr) (pins : List (Addr × Obj)) (s : Shared) (σ : St) (H : Hp) (x y : V) (v u : Value) (Q : VK), Inv X pins σ H s → RelV x v → RelV y u → r x y H Q →
    subscripted slice false v u = operate [v, u] (getItem v u) → wpAny (model X.prog X.w) X.A (subscriptTail value slice v u) (EP X pins σ Q) X.xe s
def MtR (X : Cx) (id : String) (r : V → List V → Hp → VK → Prop) : Prop :=
  ∀ (pins : List (Addr × Obj)) (s : Shared) (σ : St) (H : Hp) (x : V) (xs : List V) (v : Value) (us : List Value) (Q : VK), Inv X pins σ H s → RelV x v → Vals xs us → r x xs H Q →
    wpAny (model X.prog X.w) X.A (call (.builtin id) (v :: us)) (EP X pins σ Q) X.xe s
section
variable {X : Cx} {a b : Expr} {ta tb : TE} {pos : Pos}
theorem IxR.or {r r' : R2} (h : IxR X r) (h' : IxR X r') : IxR X (fun x y H Q => r x y H Q ∨ r' x y H Q) := by
  intro value slice pins s σ H x y v u Q I rx ry q hs
  rcases q with q | q
  · exact h value slice pins s σ H x y v u Q I rx ry q hs
  · exact h' value slice pins s σ H x y v u Q I rx ry q hs
theorem MtR.or {id : String} {r r' : V → List V → Hp → VK → Prop} (h : MtR X id r) (h' : MtR X id r') : MtR X id (fun x xs H Q => r x xs H Q ∨ r' x xs H Q) := by
  intro pins s σ H x xs v us Q I rx rs q
  rcases q with q | q
  · exact h pins s σ H x xs v us Q I rx rs q
  · exact h' pins s σ H x xs v us Q I rx rs q
theorem pe_ix {r : R2} (hr : IxR X r) (ha : PE X a ta) (hb : PE X b tb) (hs : PlainIx b) : PE X (.Subscript a b pos) (tOp r ta tb) := by
  intro pins s σ H Q I h
  exact Subscript_ (binT ha hb I h fun v u s2 x y H2 I2 rx ry q => hr a b pins s2 σ H2 x y v u Q I2 rx ry q (hs _ _))
def rIxL (K : PySem.W.Frag) : R2 := fun x y H Q => ∃ p xs i v, x = .ref p ∧ y = .int i ∧ SqL K H p xs ∧ atI xs i = some v ∧ Q v H
def rIxT (K : PySem.W.Frag) : R2 := fun x y H Q => ∃ p xs i v, x = .ref p ∧ y = .int i ∧ SqT K H p xs ∧ atI xs i = some v ∧ Q v H
def rIxS : R2 := fun x y H Q => ∃ z i c, x = .str z ∧ y = .int i ∧ z.length ≤ sizeLine ∧ atI z.cps.toList i = some c ∧ Q (.str ⟨#[c]⟩) H
theorem ix_list : IxR X (rIxL X.K) := by
  intro value slice pins s σ H x y v u Q I rx ry h hs
  obtain ⟨p, xs, i, z, rfl, rfl, hq, he, q⟩ := h
  cases rx
  obtain ⟨t, rfl⟩ := ry
  obtain ⟨its, r, pl, hz⟩ := I.list hq
  obtain ⟨j, h1, h2, h3, h4, h5⟩ := atI_get he
  obtain ⟨w, ew, rw'⟩ := r.get h2
  have hl := r.length
  have hn := line63
  have fin : EP X pins σ Q w s := ⟨z, H, I, rw', q⟩
  by_cases h0 : 0 ≤ i
  · have hj : i.toNat = j := by
      rw [seqIndex_of h0 h5] at h1
      exact Option.some.inj h1
    exact item_listR pl.isList h0 (by omega) (by rw [hj]; simpa using ew) fin hs
  · have hj : (i + (its.toArray.size : Int)).toNat = j := by
      rw [seqIndex_neg (by omega) h4] at h1
      rw [List.size_toArray, ← hl]
      exact Option.some.inj h1
    exact subscriptTail_builtinR (x := w) pl.isList.typeIs slot_list_getitem.lookup
      (wpAny_getItem_list_neg (Q := fun r s' => r = w ∧ EP X pins σ Q r s') pl.isList (by omega) (by rw [List.size_toArray] <;> omega) (by omega) (by rw [hj]; simpa using ew) ⟨rfl, fin⟩) hs
theorem ix_tup : IxR X (rIxT X.K) := by
  intro value slice pins s σ H x y v u Q I rx ry h hs
  obtain ⟨p, xs, i, z, rfl, rfl, hq, he, q⟩ := h
  cases rx
  obtain ⟨t, rfl⟩ := ry
  obtain ⟨its, r, pl, hz⟩ := I.tuple hq
  obtain ⟨j, h1, h2, h3, h4, h5⟩ := atI_get he
  obtain ⟨w, ew, rw'⟩ := r.get h2
  have hl := r.length
  have hn := line63
  have fin : EP X pins σ Q w s := ⟨z, H, I, rw', q⟩
  exact subscriptTail_builtinR (x := w) pl.typeIs slot_tuple_getitem.lookup
    (getItem_tuple (j := j) (Q := fun r s' => r = w ∧ EP X pins σ Q r s') pl (by omega) (by omega) (by rw [List.size_toArray, ← hl]; exact h1) (by simpa using ew) ⟨rfl, fin⟩) hs
theorem ix_str : IxR X rIxS := by
  intro value slice pins s σ H x y v u Q I rx ry h hs
  obtain ⟨z, i, c, rfl, rfl, hz, he, q⟩ := h
  obtain ⟨t, rfl⟩ := rx
  obtain ⟨t', rfl⟩ := ry
  obtain ⟨j, h1, h2, h3, h4, h5⟩ := atI_get he
  have hl : z.cps.toList.length = z.length := by simp [Str.length]
  rw [hl] at h1 h4 h5
  have hn := line63
  exact tail_any (typeIs_str s z t) slot_str_getitem.lookup (getItem_str (c := c) (by
    have e1 : decide (i < -(2 ^ 63 : Int)) = false := decide_eq_false (by omega)
    have e2 : decide (i ≥ 2 ^ 63) = false := decide_eq_false (by omega)
    rw [e1, e2, Bool.or_false]) (by rw [h1]; simpa using h2) ⟨.str ⟨#[c]⟩, H, I.tok _, ⟨_, rfl⟩, q⟩) hs
theorem mapSeq_set (its : List Value) (n j : Nat) (u : Value) : Obj.mapSeq (·.setIfInBounds j u) { cls := .type "list", data := .seq its.toArray n } = { cls := .type "list", data := .seq (its.set j u).toArray n } := by
  simp [Obj.mapSeq]
theorem Inv.lst {pins : List (Addr × Obj)} {σ : St} {H : Hp} {s : Shared} {p : Addr} {xs : List V} (I : Inv X pins σ H s) (h : H p = some (.lst xs)) :
    ∃ (its : List Value) (n : Nat), Vals xs its ∧ s.heap.get? p = some { cls := .type "list", data := .seq its.toArray n } ∧ xs.length ≤ sizeLine := by
  obtain ⟨z, its, n, r, e⟩ := I.hok p _ h
  exact ⟨its, n, r, e, z⟩
theorem Inv.lstUpd {pins : List (Addr × Obj)} {σ : St} {H : Hp} {s : Shared} {p : Addr} {xs ys : List V} {its its' : List Value} {n n' : Nat} {f : Obj → Obj} (I : Inv X pins σ H s) (h : H p = some (.lst xs))
    (ho : s.heap.get? p = some { cls := .type "list", data := .seq its.toArray n }) (hf : f { cls := .type "list", data := .seq its.toArray n } = { cls := .type "list", data := .seq its'.toArray n' }) (r : Vals ys its') (hz : ys.length ≤ sizeLine) (t : Nat) :
    Inv X pins σ (upd H p (.lst ys)) { s with heap := s.heap.update p f, toks := t } := by
  have e : (s.heap.update p f).get? p = some { cls := .type "list", data := .seq its'.toArray n' } := by
    rw [Heap.get?_update_self f ho (by rw [hf] <;> rfl), hf]
  refine I.write (x := p) (e := p) (by rw [h]; trivial) (.inl rfl) (fun b u hb q => (Heap.get?_update_other _ _ (Ne.symm hb)).trans q) ⟨_, e⟩ ?_
  exact ⟨hz, its', n', r, e⟩
def rSetL : V → V → V → Hp → (Hp → Prop) → Prop := fun o i v H Q => ∃ p xs k j, o = .ref p ∧ i = .int k ∧ H p = some (.lst xs) ∧ ixN xs.length k = some j ∧ Q (upd H p (.lst (xs.set j v)))
theorem set_list : PSet X rSetL := by
  intro pins s σ H o i v ov iv u Q I ro ri rv h
  obtain ⟨p, xs, k, j, rfl, rfl, hp, hj, q⟩ := h
  cases ro
  obtain ⟨t, rfl⟩ := ri
  obtain ⟨its, n, r, ho, hz⟩ := I.lst hp
  obtain ⟨h1, h2, h3, h4⟩ := ixN_seq hj
  have hl := r.length
  have hn := line63
  have I' : Inv X pins σ (upd H p (.lst (xs.set j v))) { s with heap := s.heap.update p (Obj.mapSeq (·.setIfInBounds j u)) } :=
    I.lstUpd hp ho (mapSeq_set its n j u) (r.set rv j) (by rw [List.length_set]; exact hz) s.toks
  by_cases h0 : 0 ≤ k
  · have hk : k.toNat = j := by
      rw [seqIndex_of h0 h4] at h1
      exact Option.some.inj h1
    exact PySem.W.ki_setAt ho h0 (by omega) (by rw [List.size_toArray, ← hl]; exact h4) (by rw [hk]; exact ⟨_, I', q⟩)
  · have hk : (k + (its.toArray.size : Int)).toNat = j := by
      rw [seqIndex_neg (by omega) h3] at h1
      rw [List.size_toArray, ← hl]
      exact Option.some.inj h1
    exact PySem.W.ki_setBack ho (by omega) (by rw [List.size_toArray, ← hl]; exact h3) (by omega) (by rw [hk]; exact ⟨_, I', q⟩)
theorem slice_bounds (lo hi : Option Int) (n : Nat) : (sliceBounds lo hi none n).1 = ((HT.sIx n 0 lo : Nat) : Int) ∧ (sliceBounds lo hi none n).2.1 = ((HT.sIx n n hi : Nat) : Int) ∧ (sliceBounds lo hi none n).2.2 = 1 := by
  refine ⟨?_, ?_, rfl⟩
  · cases lo with
    | none => simp [sliceBounds, HT.sIx]
    | some i =>
      simp only [sliceBounds, HT.sIx, Option.getD_none, show (1 : Int) > 0 by decide, if_true]
      by_cases h : i < 0
      · simp only [h, if_true] <;> omega
      · simp only [h, if_false] <;> omega
  · cases hi with
    | none => simp [sliceBounds, HT.sIx]
    | some i =>
      simp only [sliceBounds, HT.sIx, Option.getD_none, show (1 : Int) > 0 by decide, if_true]
      by_cases h : i < 0
      · simp only [h, if_true] <;> omega
      · simp only [h, if_false] <;> omega
theorem slicePick_cut (its : List Value) (lo hi : Option Int) : slicePick its.toArray lo hi none = ((its.drop (HT.sIx its.length 0 lo)).take (HT.sIx its.length its.length hi - HT.sIx its.length 0 lo)).toArray := by
  obtain ⟨h1, h2, h3⟩ := slice_bounds lo hi its.toArray.size
  unfold slicePick
  rw [h1, h2, h3]
  simp only [sliceRange_one, pick_run, List.size_toArray] <;> rfl
def rSlL (K : PySem.W.Frag) : V → Option Int → Option Int → Hp → VK → Prop := fun x lo hi H Q => ∃ a xs, x = .ref a ∧ SqL K H a xs ∧ ∀ p, H p = none → Q (.ref p) (upd H p (.lst (cutV xs lo hi)))
theorem sl_list : SlR X (rSlL X.K) := by
  intro pins s σ H x v vl vu lo hi sl Q I rx hs pl pu h
  obtain ⟨a, xs, rfl, hx, q⟩ := h
  cases rx
  obtain ⟨its, r, ht, hz⟩ := I.list hx
  have hlen := r.length
  refine ⟨"list", _, slot_list_getitem.lookup, ht.isList.typeIs, ?_⟩
  refine wpAny_getItem_list_slice ht.isList hs pl pu .none (by simp) ?_ (by rw [List.size_toArray] <;> omega)
  rw [slicePick_cut, ← hlen]
  refine ⟨.ref s.heap.objs.size, _, I.laid (t' := s.toks) (o := .lst (cutV xs lo hi)) (fun b ob q => Heap.get?_push_of_some _ q) (Nat.le_refl _) ?_, rfl, q _ (I.hok.fresh (Nat.le_refl _))⟩
  exact ⟨Nat.le_trans (cutV_length xs lo hi) hz, _, 0, (r.drop (HT.sIx xs.length 0 lo)).take (HT.sIx xs.length xs.length hi - HT.sIx xs.length 0 lo), Heap.get?_push_size _ rfl⟩
def flatV : V → Bool
  | .non => true
  | .bl _ => true
  | .int _ => true
  | .str _ => true
  | _ => false
def eqV : V → V → Bool
  | .non, .non => true
  | .bl a, .bl b => a == b
  | .bl a, .int b => (if a then 1 else 0) == b
  | .int a, .bl b => a == (if b then 1 else 0)
  | .int a, .int b => a == b
  | .str a, .str b => a == b
  | _, _ => false
theorem eqAt_V {A : Around} {s : Shared} {y x : V} {u v : Value} (ry : RelV y u) (rx : RelV x v) (fy : flatV y = true) (fx : flatV x = true) : SeqAt.EqAt A s u v (eqV y x) := by
  cases y with
  | non =>
    cases ry
    cases x with
    | non => cases rx; exact SeqAt.EqAt.same _
    | bl b => cases rx; exact SeqAt.EqAt.none_bool b
    | int b => obtain ⟨t, rfl⟩ := rx; exact SeqAt.EqAt.none_int b t
    | str b => obtain ⟨t, rfl⟩ := rx; exact SeqAt.EqAt.none_str b t
    | _ => exact absurd (show false = true from fx) Bool.false_ne_true
  | bl a =>
    cases ry
    cases x with
    | non => cases rx; exact SeqAt.EqAt.bool_none a
    | bl b => cases rx; exact SeqAt.EqAt.bool_bool a b
    | int b => obtain ⟨t, rfl⟩ := rx; exact SeqAt.EqAt.bool_int a b t
    | str b => obtain ⟨t, rfl⟩ := rx; exact SeqAt.EqAt.bool_str a b t
    | _ => exact absurd (show false = true from fx) Bool.false_ne_true
  | int a =>
    obtain ⟨t', rfl⟩ := ry
    cases x with
    | non => cases rx; exact SeqAt.EqAt.int_none a t'
    | bl b => cases rx; exact SeqAt.EqAt.int_bool a t' b
    | int b => obtain ⟨t, rfl⟩ := rx; exact SeqAt.EqAt.int_int a t' b t
    | str b => obtain ⟨t, rfl⟩ := rx; exact SeqAt.EqAt.int_str a t' b t
    | _ => exact absurd (show false = true from fx) Bool.false_ne_true
  | str a =>
    obtain ⟨t', rfl⟩ := ry
    cases x with
    | non => cases rx; exact SeqAt.EqAt.str_none a t'
    | bl b => cases rx; exact SeqAt.EqAt.str_bool a t' b
    | int b => obtain ⟨t, rfl⟩ := rx; exact SeqAt.EqAt.str_int a t' b t
    | str b => obtain ⟨t, rfl⟩ := rx; exact SeqAt.EqAt.str_str a t' b t
    | _ => exact absurd (show false = true from fx) Bool.false_ne_true
  | _ => exact absurd (show false = true from fy) Bool.false_ne_true
def eqU (x : V) (u : Value) : Bool := match u with
  | .none => eqV .non x
  | .bool b => eqV (.bl b) x
  | .int i _ => eqV (.int i) x
  | .str z _ => eqV (.str z) x
  | _ => false
theorem eqU_of {x y : V} {u : Value} (r : RelV y u) (f : flatV y = true) : eqU x u = eqV y x := by
  cases y with
  | non => cases r; rfl
  | bl b => cases r; rfl
  | int i => obtain ⟨t, rfl⟩ := r; rfl
  | str z => obtain ⟨t, rfl⟩ := r; rfl
  | _ => exact absurd (show false = true from f) Bool.false_ne_true
theorem any_eqU {x : V} : ∀ {xs : List V} {us : List Value}, Vals xs us → xs.all flatV = true → us.any (eqU x) = xs.any fun y => eqV y x
  | _, _, .nil, _ => rfl
  | y :: xs, u :: us, .cons r t, f => by
    rw [List.all_cons, Bool.and_eq_true] at f
    rw [List.any_cons, List.any_cons, eqU_of r f.1, any_eqU t f.2]
theorem mem_eqAt {A : Around} {s : Shared} {x : V} {v : Value} (rx : RelV x v) (fx : flatV x = true) : ∀ {xs : List V} {us : List Value}, Vals xs us → xs.all flatV = true → ∀ u ∈ us, SeqAt.EqAt A s u v (eqU x u)
  | _, _, .nil, _ => fun u hu => by cases hu
  | y :: xs, u :: us, .cons r t, f => fun u' hu => by
    rw [List.all_cons, Bool.and_eq_true] at f
    rcases List.mem_cons.mp hu with rfl | hu
    · rw [eqU_of r f.1]; exact eqAt_V r rx f.1 fx
    · exact mem_eqAt rx fx t f.2 u' hu
def inV (x : V) (xs : List V) : Bool := xs.any fun y => eqV y x
def rIn (K : PySem.W.Frag) (neg : Bool) : R2 := fun x y H Q => ∃ p xs, y = .ref p ∧ (SqL K H p xs ∨ SqT K H p xs) ∧ flatV x = true ∧ xs.all flatV = true ∧ Q (.bl (if neg then !inV x xs else inV x xs)) H
theorem op_in_seq : OpR X (compareOp .In) (rIn X.K false) := by
  intro pins s σ H x y v u Q I rx ry h
  obtain ⟨p, xs, rfl, hq, fx, fs, q⟩ := h
  cases ry
  rcases hq with hq | hq
  · obtain ⟨its, r, pl, hz⟩ := I.list hq
    refine SeqAt.in_listAt (eqU x) pl.isList (fun w hw => mem_eqAt rx fx r fs w (by simpa using hw)) ⟨.bl _, H, I, rfl, ?_⟩
    rw [show its.toArray.any (eqU x) = its.any (eqU x) by simp, any_eqU r fs]
    exact q
  · obtain ⟨its, r, pl, hz⟩ := I.tuple hq
    refine SeqAt.in_tupleAt (eqU x) pl (fun w hw => mem_eqAt rx fx r fs w (by simpa using hw)) ⟨.bl _, H, I, rfl, ?_⟩
    rw [show its.toArray.any (eqU x) = its.any (eqU x) by simp, any_eqU r fs]
    exact q
theorem op_notIn_seq : OpR X (compareOp .NotIn) (rIn X.K true) := by
  intro pins s σ H x y v u Q I rx ry h
  obtain ⟨p, xs, rfl, hq, fx, fs, q⟩ := h
  cases ry
  rcases hq with hq | hq
  · obtain ⟨its, r, pl, hz⟩ := I.list hq
    refine SeqAt.notIn_listAt (eqU x) pl.isList (fun w hw => mem_eqAt rx fx r fs w (by simpa using hw)) ⟨.bl _, H, I, rfl, ?_⟩
    rw [show its.toArray.any (eqU x) = its.any (eqU x) by simp, any_eqU r fs]
    exact q
  · obtain ⟨its, r, pl, hz⟩ := I.tuple hq
    refine SeqAt.notIn_tupleAt (eqU x) pl (fun w hw => mem_eqAt rx fx r fs w (by simpa using hw)) ⟨.bl _, H, I, rfl, ?_⟩
    rw [show its.toArray.any (eqU x) = its.any (eqU x) by simp, any_eqU r fs]
    exact q
theorem call_len_seq : CallR X (.builtin "len") (fun xs H Q => ∃ p ys, xs = [.ref p] ∧ (SqL X.K H p ys ∨ SqT X.K H p ys) ∧ Q (.int ys.length) H) := by
  intro pins s σ H xs us Q I r h
  obtain ⟨p, ys, rfl, hq, q⟩ := h
  obtain ⟨u, rfl, rx⟩ := vals1 r
  cases rx
  have hn := line63
  rcases hq with hq | hq
  · obtain ⟨its, r', pl, hz⟩ := I.list hq
    have hlen := r'.length
    exact Calls.call_len_list pl.isList (by simp only [List.size_toArray] <;> omega) ⟨.int ys.length, H, I.tok _, ⟨s.toks + 1, by rw [List.size_toArray, hlen]⟩, q⟩
  · obtain ⟨its, r', pl, hz⟩ := I.tuple hq
    have hlen := r'.length
    exact len_tuple pl (by simp only [List.size_toArray] <;> omega) ⟨.int ys.length, H, I.tok _, ⟨s.toks + 1, by rw [List.size_toArray, hlen]⟩, q⟩
theorem call_len_str : CallR X (.builtin "len") (fun xs H Q => ∃ z, xs = [.str z] ∧ z.length ≤ sizeLine ∧ Q (.int z.length) H) := by
  intro pins s σ H xs us Q I r h
  obtain ⟨z, rfl, hz, q⟩ := h
  obtain ⟨u, rfl, t, rfl⟩ := vals1 r
  have hn := line63
  exact len_str (by omega) ⟨.int z.length, H, I.tok _, ⟨_, rfl⟩, q⟩
theorem CallR.or {f : Value} {r r' : List V → Hp → VK → Prop} (h : CallR X f r) (h' : CallR X f r') : CallR X f (fun xs H Q => r xs H Q ∨ r' xs H Q) := by
  intro pins s σ H xs us Q I rs q
  rcases q with q | q
  · exact h pins s σ H xs us Q I rs q
  · exact h' pins s σ H xs us Q I rs q
theorem call_list_of : CallR X (.type "list") (fun xs H Q => ∃ p ys, xs = [.ref p] ∧ (SqL X.K H p ys ∨ SqT X.K H p ys) ∧ ∀ l, H l = none → Q (.ref l) (upd H l (.lst ys))) := by
  intro pins s σ H xs us Q I r h
  obtain ⟨p, ys, rfl, hq, q⟩ := h
  obtain ⟨u, rfl, rx⟩ := vals1 r
  cases rx
  have fin : ∀ (its : List Value), Vals ys its → ys.length ≤ sizeLine → ∀ (h' : Heap) (c' : Nat), (∀ b o', s.heap.get? b = some o' → h'.get? b = some o') →
      h'.get? s.heap.objs.size = some { cls := .type "list", dict := none, data := .seq its.toArray c', slots := #[] } → EP X pins σ Q (.ref s.heap.objs.size) { s with heap := h' } := fun its r' hz h' c' kp e =>
    ⟨.ref s.heap.objs.size, _, I.laid (t' := s.toks) kp (Nat.le_refl _) (show ObjOk X.prog X.w _ h' _ (.lst ys) from ⟨hz, its, c', r', e⟩), rfl, q _ (I.hok.fresh (Nat.le_refl _))⟩
  rcases hq with hq | hq
  · obtain ⟨its, r', pl, hz⟩ := I.list hq
    have hlen := r'.length
    obtain ⟨o, ho, hc, n, hd⟩ := pl.isList
    exact call_list_seq p (.inl rfl) ho hc hd (fun h' c' kp e => fin its r' hz h' c' kp e) (by simp only [List.size_toArray] <;> omega)
  · obtain ⟨its, r', pl, hz⟩ := I.tuple hq
    have hlen := r'.length
    obtain ⟨o, ho, hc, n, hd⟩ := pl
    exact call_list_seq p (.inr rfl) ho hc hd (fun h' c' kp e => fin its r' hz h' c' kp e) (by simp only [List.size_toArray] <;> omega)
theorem call_tuple_of : CallR X (.type "tuple") (fun xs H Q => ∃ p ys, xs = [.ref p] ∧ ((SqL X.K H p ys ∧ ∀ l, H l = none → Q (.ref l) (upd H l (.tup ys))) ∨ (SqT X.K H p ys ∧ Q (.ref p) H))) := by
  intro pins s σ H xs us Q I r h
  obtain ⟨p, ys, rfl, h⟩ := h
  obtain ⟨u, rfl, rx⟩ := vals1 r
  cases rx
  rcases h with ⟨hq, q⟩ | ⟨hq, q⟩
  · obtain ⟨its, r', pl, hz⟩ := I.list hq
    have hlen := r'.length
    refine call_tuple_list pl.isList (fun h' kp => ?_) (by simp only [List.size_toArray] <;> omega)
    have I1 : Inv X pins σ H { s with heap := h' } := I.kept (t' := s.toks) kp
    have I2 : Inv X pins σ (upd H h'.objs.size (.tup ys)) { s with heap := h'.push { cls := .type "tuple", data := .seq its.toArray } } :=
      I1.laid (t' := s.toks) (fun b o e => Heap.get?_push_of_some _ e) (Nat.le_refl _) (show ObjOk X.prog X.w _ _ _ (.tup ys) from ⟨hz, its, r', IsTup.new _ _⟩)
    exact ⟨.ref h'.objs.size, _, I2, rfl, q _ (I1.hok.fresh (Nat.le_refl _))⟩
  · obtain ⟨its, r', pl, hz⟩ := I.tuple hq
    exact call_tuple_same pl ⟨.ref p, H, I, rfl, q⟩
def tyV (K : PySem.W.Frag) (T : String) (x : V) (H : Hp) : Prop := match x with
  | .str _ => T = "str"
  | .int _ => T = "int"
  | .ref p => (T = "list" ∧ ∃ xs, SqL K H p xs) ∨ (T = "tuple" ∧ ∃ o, K.lookup p = some o ∧ o.cls = .type "tuple" ∧ o.dict = none) ∨
      (T = "dict" ∧ ((∃ kvs, H p = some (.dK kvs)) ∨ ∃ kvs, H p = some (.dT kvs))) ∨ (T = "set" ∧ ∃ S n, H p = some (.set S n))
  | _ => False
theorem tyV_is {pins : List (Addr × Obj)} {σ : St} {H : Hp} {s : Shared} {T : String} {x : V} {v : Value} (I : Inv X pins σ H s) (r : RelV x v) (ty : tyV X.K T x H) :
    s.TypeIs v T ∧ ∀ a, v = .ref a → ∃ ob, s.heap.get? a = some ob ∧ ob.dict = none := by
  cases x with
  | str z =>
    obtain ⟨t, rfl⟩ := r
    cases (show T = "str" from ty)
    exact ⟨typeIs_str s z t, fun _ e => nomatch e⟩
  | int i =>
    obtain ⟨t, rfl⟩ := r
    cases (show T = "int" from ty)
    exact ⟨typeIs_int s i t, fun _ e => nomatch e⟩
  | ref p =>
    cases r
    rcases ty with ⟨rfl, xs, hq⟩ | ⟨rfl, o, hk, hc, hd⟩ | ⟨rfl, hk⟩ | ⟨rfl, S, n, hk⟩
    · obtain ⟨its, _, pl, _⟩ := I.list hq
      refine ⟨pl.isList.typeIs, fun a e => ?_⟩
      cases e
      obtain ⟨o, n, e, c, hd, _⟩ := pl
      exact ⟨o, e, hd⟩
    · refine ⟨⟨o, I.kIn p o hk, hc⟩, fun a e => ?_⟩
      cases e
      exact ⟨o, I.kIn _ o hk, hd⟩
    · have z : ∃ o, s.heap.get? p = some o ∧ o.ExactDict := by
        rcases hk with ⟨kvs, hk⟩ | ⟨kvs, hk⟩
        · obtain ⟨_, _, _, _, o, _, _, e, ex, _⟩ := I.hok p _ hk
          exact ⟨o, e, ex⟩
        · obtain ⟨_, _, _, _, o, _, _, e, ex, _⟩ := I.hok p _ hk
          exact ⟨o, e, ex⟩
      obtain ⟨o, e, ex⟩ := z
      refine ⟨⟨o, e, ex.1⟩, fun a e2 => ?_⟩
      cases e2
      exact ⟨o, e, ex.2.1⟩
    · obtain ⟨o, _, _, _, e, ex, _⟩ := I.hok p _ hk
      refine ⟨⟨o, e, ex.1⟩, fun a e2 => ?_⟩
      cases e2
      exact ⟨o, e, ex.2.1⟩
  | _ => exact False.elim ty
def tBM (K : PySem.W.Frag) (T : String) (r : V → List V → Hp → VK → Prop) (to : TE) (t : TA) : TE := fun σ H Q => to σ H fun x H1 => tyV K T x H1 ∧ t σ H1 fun xs H2 => r x xs H2 Q
variable {o e : Expr} {es : List Expr} {to : TE} {t : TA} {name : Str} {apos cpos : Pos} {T id : String} {r : V → List V → Hp → VK → Prop}
theorem pe_bm (pa : PlainAttrs T) (slot : Slot T name id) (hty : typeOf (.builtin id) = pure (.type "method_descriptor")) (hm : MtR X id r) (ho : PE X o to) (ha : PA X (e :: es) t)
    (hbase : attributeBase o name X.env (eval o X.env) = eval o X.env := by rfl)
    (hfew : ((backTo cpos (starEach (e :: es) X.env)).all (fun x => !x.1) && (backToKw cpos (keywordEach [] X.env)).all (fun x => x.1.isSome)
      && decide ((e :: es).length + ([] : List Keyword).length + (if ([] : List Keyword).isEmpty then 0 else 1) < 30)) = true := by rfl)
    (hline : (apos.endLine == cpos.line) = true := by rfl) (hs : starEach (e :: es) X.env = (false, eval e X.env) :: starEach es X.env := by rfl) (hplain : (backTo cpos (starEach es X.env)).any (·.1) = false := by rfl) :
    PE X (.Call (.Attribute o name apos) (e :: es) [] cpos) (tBM X.K T r to t) := by
  intro pins s σ H Q I h
  refine wpAny_Call_method_late hbase hfew hline rfl (thn (ho pins s σ H _ I h) fun v s1 ⟨x, H1, I1, r1, ty, q1⟩ => ?_)
  obtain ⟨h1, h2⟩ := tyV_is I1 r1 ty
  refine ⟨T, id, pa, slot, hty, h1, h2, ?_⟩
  have hA := ha cpos pins s1 σ H1 _ I1 q1
  rw [hs] at hA ⊢
  refine Calls.callWith_builtin (by show (false || (backTo cpos (starEach es X.env)).any (·.1)) = false; rw [hplain] <;> rfl) (Calls.evalArgs_plain ?_)
  exact thn hA fun us s2 ⟨vs, H2, I2, r2, q2⟩ => hm pins s2 σ H2 x vs v us Q I2 r1 r2 q2
/- xs.append(e), list.index on a module's tuple .. are MtR facts of 06m -/
end
def MtM (X : Cx) (id : String) (r : V → List V → Hp → VK → Prop) : Prop :=
  ∀ (pins : List (Addr × Obj)) (s : Shared) (σ : St) (H : Hp) (x : V) (xs : List V) (v : Value) (us : List Value) (Q : VK), Inv X pins σ H s → RelV x v → Vals xs us → r x xs H Q →
    wpAny (model X.prog X.w) X.A (call (.builtin id) (v :: us)) (EP X pins σ Q) X.xe s
theorem Vals.one : ∀ {x : V} {us : List Value}, Vals [x] us → ∃ u, us = [u] ∧ RelV x u
  | _, _, .cons r .nil => ⟨_, rfl, r⟩
theorem Vals.two : ∀ {x y : V} {us : List Value}, Vals [x, y] us → ∃ u v, us = [u, v] ∧ RelV x u ∧ RelV y v
  | _, _, _, .cons r (.cons q .nil) => ⟨_, _, rfl, r, q⟩
theorem Vals.eraseIdx : ∀ {xs : List V} {us : List Value} (i : Nat), Vals xs us → Vals (xs.eraseIdx i) (us.eraseIdx i)
  | _, _, _, .nil => .nil
  | _, _, 0, .cons _ t => t
  | _, _, i + 1, .cons r t => .cons r (Vals.eraseIdx i t)
theorem Vals.rep {xs : List V} {us : List Value} (h : Vals xs us) : ∀ k : Nat, Vals (List.replicate k xs).flatten (List.replicate k us).flatten
  | 0 => .nil
  | k + 1 => by
    rw [List.replicate_succ, List.replicate_succ, List.flatten_cons, List.flatten_cons]
    exact Vals.append h (Vals.rep h k)
theorem foldl_rep (its : List Value) : ∀ (k : Nat) (acc : List Value),
    List.foldl (fun x1 x2 => x1 ++ x2) acc.toArray (List.replicate k its.toArray) = (acc ++ (List.replicate k its).flatten).toArray
  | 0, acc => by simp
  | k + 1, acc => by
    have e : acc.toArray ++ its.toArray = (acc ++ its).toArray := by simp
    have e2 : (acc ++ its) ++ (List.replicate k its).flatten = acc ++ (List.replicate (k + 1) its).flatten := by
      rw [List.replicate_succ, List.flatten_cons, List.append_assoc]
    rw [← e2, ← foldl_rep its k (acc ++ its), ← e, List.replicate_succ, List.foldl_cons]
section
variable {X : Cx} {pins : List (Addr × Obj)} {σ : St} {H : Hp} {s : Shared} {l b : Addr} {xs ys zs : List V}
theorem Inv.lset {its its' : List Value} {n : Nat} {f : Array Value → Array Value} {t' : Nat} (I : Inv X pins σ H s) (hH : H l = some (.lst xs))
    (e : s.heap.get? l = some { cls := .type "list", data := .seq its.toArray n }) (hf : f its.toArray = its'.toArray) (hv : Vals ys its') (hz : ys.length ≤ sizeLine) :
    Inv X pins σ (upd H l (.lst ys)) { s with heap := s.heap.update l (Obj.mapSeq f), toks := t' } := by
  have q := PySem.IsL.update e f
  rw [hf] at q
  refine I.write (x := l) (e := l) (by rw [hH]; exact trivial) (.inl rfl) (fun b' u hb hu => (Heap.get?_update_other s.heap (Obj.mapSeq f) (Ne.symm hb)).trans hu) ⟨_, q⟩ ?_
  exact ⟨hz, its', _, hv, q⟩
theorem Inv.lnew {its : List Value} {t' : Nat} (I : Inv X pins σ H s) (hv : Vals ys its) (hz : ys.length ≤ sizeLine) :
    Inv X pins σ (upd H s.heap.objs.size (.lst ys)) { s with heap := s.heap.push { cls := .type "list", data := .seq its.toArray }, toks := t' } :=
  I.laid (fun _ _ q => Heap.get?_push_of_some _ q) (Nat.le_refl _) ⟨hz, its, 0, hv, Heap.get?_push_size _ rfl⟩
theorem Inv.fresh (I : Inv X pins σ H s) : H s.heap.objs.size = none := I.hok.fresh (Nat.le_refl _)
theorem Inv.lstM (I : Inv X pins σ H s) (hH : H l = some (.lst xs)) : xs.length ≤ sizeLine ∧ ∃ (its : List Value) (n : Nat), Vals xs its ∧ xs.length = its.length ∧ s.heap.get? l = some { cls := .type "list", data := .seq its.toArray n } := by
  obtain ⟨z, its, n, r, e⟩ := I.hok l _ hH
  exact ⟨z, its, n, r, r.length, e⟩
theorem notLongL {n : Nat} (h : n ≤ sizeLine) : Builtin.List.listTooLong n = false := by
  unfold Builtin.List.listTooLong
  exact decide_eq_false (by omega)
end
section
variable {X : Cx}
def rAppend : V → List V → Hp → VK → Prop := fun x vs H Q => ∃ l xs y, x = .ref l ∧ vs = [y] ∧ H l = some (.lst xs) ∧ xs.length < sizeLine ∧ Q .non (upd H l (.lst (xs ++ [y])))
theorem mt_append : MtM X "list.append" rAppend := by
  intro pins s σ H x vs v us Q I rx rv h
  obtain ⟨l, xs, y, rfl, rfl, hH, hz, q⟩ := h
  cases rx
  obtain ⟨u, rfl, ru⟩ := rv.one
  obtain ⟨z, its, n, r, hl, e⟩ := I.lstM hH
  refine call_meets F.slot_list_append ⟨_, e, rfl⟩ F.entry_list_append (F.args_list_append_2 _ _) (PySem.list_append l its.toArray n u (by rw [List.size_toArray]; omega)) ⟨e, ?_⟩
  refine ⟨.non, _, I.lset (its' := its ++ [u]) hH e (by simp) (r.append (.cons ru .nil)) ?_, rfl, q⟩
  rw [List.length_append, List.length_singleton]
  omega
def rRep : R2 := fun x y H Q => ∃ l k xs, x = .ref l ∧ y = .int k ∧ H l = some (.lst xs) ∧ -(2 ^ 63) ≤ k ∧ k < 2 ^ 63 ∧ xs.length * k.toNat ≤ sizeLine ∧
  ∀ p, H p = none → Q (.ref p) (upd H p (.lst (List.replicate k.toNat xs).flatten))
theorem len_rep {α : Type} (xs : List α) (k : Nat) : (List.replicate k xs).flatten.length = k * xs.length := by
  induction k with
  | zero => simp
  | succ k ih => rw [List.replicate_succ, List.flatten_cons, List.length_append, ih, Nat.succ_mul, Nat.add_comm]
theorem op_rep : OpR X (binaryOp .Mult) rRep := by
  intro pins s σ H x y v u Q I rx ry h
  obtain ⟨l, k, xs, rfl, rfl, hH, h1, h2, hz, q⟩ := h
  cases rx
  obtain ⟨t, rfl⟩ := ry
  obtain ⟨z, its, n, r, hl, e⟩ := I.lstM hH
  have hlen : its.toArray.size * k.toNat ≤ sizeLine := by rw [List.size_toArray, ← hl]; exact hz
  have hcap : ¬ its.toArray.size * k.toNat > (2 ^ 63 - 1) / 8 := by
    have : (sizeLine : Nat) ≤ (2 ^ 63 - 1) / 8 := by decide
    omega
  have hfit : ¬ (!Builtin.List.listFitsIndex k) = true := by
    rw [fitsIndex_both h1 h2]
    exact Bool.false_ne_true
  have hlong : ¬ Builtin.List.listTooLong (its.toArray.size * k.toNat) = true := by
    rw [notLongL hlen]
    exact Bool.false_ne_true
  have hnew : List.foldl (fun x1 x2 => x1 ++ x2) #[] (List.replicate (if its.toArray.isEmpty = true then 0 else k.toNat) its.toArray) = (List.replicate k.toNat its).flatten.toArray := by
    have f0 : ∀ m : Nat, List.foldl (fun x1 x2 => x1 ++ x2) #[] (List.replicate m its.toArray) = (List.replicate m its).flatten.toArray := fun m => by
      have := foldl_rep its m []
      rw [List.nil_append] at this
      exact this
    rw [f0]
    cases its with
    | nil => simp
    | cons a r' => rw [if_neg (by simp)]
  refine wpAny_binaryOp_repeat_ref (T := "list") (U := "int") (by decide) ⟨_, e, rfl⟩ (fun s' => typeIs_int s' k t) noFill_list_mul F.fills_int_mul F.slot_int_rmul repeat_list F.slot_int_index.lookup
    (call_meets F.slot_int_rmul (typeIs_int s k t) F.entry_int_rmul (F.args_int_rmul_2 _ _) (int___rmul___int_list k t l its.toArray n)
      ⟨e, rfl, ⟨_, e, rfl⟩, call_meets F.slot_list_mul ⟨_, e, rfl⟩ F.entry_list_mul (F.args_list_mul_2 _ _) (AutoListH.list___mul___list_int_3 l its.toArray n k t hfit hcap hlong) ⟨e, ?_⟩⟩)
  rw [hnew]
  exact ⟨.ref _, _, I.lnew (t' := s.toks) (r.rep k.toNat) (by rw [len_rep, Nat.mul_comm]; exact hz), rfl, q _ I.fresh⟩
end
end L2
namespace Att
open PySem PySem.W PySem.Calls PyProof.Rows
theorem ints_of_wellAll {P : Params} {h : Heap} : ∀ (ns : List Int) (vs : List Value), WellAll P h vs (ns.map WData.int) → IntsAre vs ns := by
  intro ns
  induction ns with
  | nil =>
    intro vs w
    rw [List.map_nil] at w
    cases w
    exact .nil
  | cons n ns ih =>
    intro vs w
    rw [List.map_cons] at w
    cases w with
    | cons a b =>
      cases a
      exact .cons _ _ (ih _ b)
theorem script_of {l : OpenLaw} {n : Nat} (hn : l.most = some n) {P : Params} {h : Heap} {args : List WData} {vals : List Value}
    (hpre : l.row.toRowW.claim.pre args = true) (hwl : WellAll P h vals args) :
    ∃ a vs ns, vals = [Value.ref a] ∧ args = [WData.list (ns.map WData.int)] ∧ h.get? a = some { cls := .type "list", data := .seq vs.toArray } ∧ IntsAre vs ns ∧ ns.length ≤ n := by
  have hsh : WShape.hasAll [] args [.list .int] = true := (pre_splitW hpre).1
  have hc : l.pre.holds [] { args := args } = true := (pre_splitW hpre).2
  obtain ⟨d, r, rfl, h1, h2⟩ := hasAllW_cons hsh
  obtain rfl := hasAllW_nil h2
  obtain ⟨xs, rfl, h3⟩ := hasW_list h1
  obtain ⟨ns, rfl⟩ := items_int h3
  have hlen : ns.length ≤ n := by
    unfold OpenLaw.pre at hc
    have h4 : (WTm.not (.lt (.lit (.int (n : Int))) (.len (.arg 0)))).holds [] { args := [.list (ns.map .int)] } = true := by
      have h4 := (holds_andW hc).1
      rw [hn] at h4
      exact h4
    have h5 := condW_of h4 (w_not (w_lt w_lit (w_len_list (w_arg rfl))))
    rw [List.length_map] at h5
    refine Nat.le_of_not_lt fun q => ?_
    have q' : (n : Int) < ((ns.length : Nat) : Int) := by omega
    first
      | (rw [decide_eq_true q'] at h5; exact absurd h5 (by decide))
      | (simp at h5; omega)
  cases hwl with
  | cons w1 w2 =>
    cases w2
    cases w1 with
    | list ho hall => exact ⟨_, _, ns, rfl, rfl, ho, ints_of_wellAll ns _ hall, hlen⟩
theorem post_true (l : OpenLaw) (args : List WData) : l.row.toRowW.claim.post args (.bool true) args = true :=
  postW_of (r := l.row.toRowW) (X := (true == true))
    (show WShape.has [] (.bool true) .bool = true by first | rfl | decide | simp [WShape.has, WShape.arms, WShape.armsAll])
    (show (WTm.eq .res (.lit (.bool true))).value [] { args := args, res := some (.bool true), after := args } = some (.bool (true == true)) from w_eq_bool (w_res rfl) w_lit) rfl
theorem attach_call {l : OpenLaw} {n : Nat} {q : Program} {loose : List Str} {XP : (Str → Option Value) → Heap → Prop} {YP : World → Heap → Prop} {d : DefRec}
    (hn : l.most = some n) (hdf : d.params.defaults = [])
    (call : ∀ (w : World) (s₀ s₁ : Shared) (mg mb : Str → Option Value) (fa : Addr) (o : Obj) (pm cd doc : Value) (a : Addr) (vs : List Value) (ns : List Int),
      Ground q loose [] XP w s₀ mg mb s₁.heap → YP w s₁.heap →
      s₁.heap.get? fa = some o → o.data = .func (docDef d.name d.params d.body d.scope pm cd doc) → s₁.heap.CodeRec cd d.name → mg d.name = some (.ref fa) →
      s₁.heap.get? a = some { cls := .type "list", data := .seq vs.toArray } → IntsAre vs ns → ns.length ≤ n → s₁.gens = #[] →
      codeAny (model l.prog w) callerA (.call (.ref fa) ⟨[.ref a], []⟩) (fun r s' => r = .ok (.ret (.bool true)) ∧ OldK s₁.heap s'.heap ∧ s'.os = s₁.os ∧ AllBare s'.gens) s₁) :
    WalkO q loose XP YP l.row.toRowW d [] (fun f vs => PySem.call f vs) := by
  intro w s₀ s₁ mg mb G Y fa o pm cd doc dV kV ho hd hcd hD hmg hg args vals as hpre hlay hrd hwl hlo
  obtain rfl : dV = .none := Dflts.none hD hdf
  obtain rfl : kV = .none := Dflts.noKw hD
  obtain ⟨a, vs, ns, rfl, rfl, hobj, hints, hlen⟩ := script_of hn hpre hwl
  refine enter_call (codeAny_mono (call w s₀ s₁ mg mb fa o pm cd doc a vs ns G Y ho (fd_plain hd) hcd hmg hobj hints hlen hg) fun r s' hq => ?_)
  obtain ⟨rfl, h2, h3, h4⟩ := hq
  exact ⟨.inl ⟨.bool true, .bool true, [], rfl, fun _ => rfl, .bool true, post_true l _, fun _ => ⟨List.Pairwise.nil, fun _ hm => (nomatch hm)⟩⟩, h2, h3, h4⟩
section
variable {prog : Program} {w : World} {A : Around} {E : Value → Shared → Prop} {s : Shared} {K : Frag}
theorem make_obj {R : Result → Shared → Prop} {C fI : Addr} {rest : List Value} {kw : List (Str × Value)}
    (X : K.In s.heap) (hm : makesIn K C = true) (hi : findIn K (.ref C) "__init__" = some (some (.ref fI))) (hf : isFn K (.ref fI) = true)
    (h : codeAny (model prog w) (A.under (.builtin "type.__call__" ⟨.ref C :: rest, kw⟩)) (.call (.ref fI) ⟨.ref (s.heap.objs.size + 1) :: rest, kw⟩) (InitBack (s.heap.objs.size + 1) R)
      { s with heap := (s.heap.push emptyDict).push (instObj C s.heap.objs.size) }) : codeAny (model prog w) A (.call (.ref C) ⟨rest, kw⟩) R s := by
  obtain ⟨hh, g, d, t, os⟩ := s
  exact make_core (makes_of X hm) (looks_findIn X hi) (fun self => bind_fn X self (beq_iff_eq.mp hf)) (.inl rfl) h
theorem get_field {x C : Addr} {ox : Obj} {es : List DictEntry} {n : Nat} {name : Str} {expr : Bool} {v : Value} {Q : Value → Shared → Prop}
    (X : K.In s.heap) (I : PySem.W.InstAt s.heap x ox C (some (dictOf es n))) (hg : plainGet K C name = true) (hh : hasDictIn K C = true) (ha : findIn K (.ref C) name = some none)
    (hl : getL name es = some (some v)) (hv : handedIn v = true) (h : Q v { s with toks := s.toks + 1 }) : wpAny (model prog w) A (getAttr (.ref x) name expr) Q E s :=
  get_value X I (plainGet_of hg).1 (findObj_own hh ha rfl hl) hv h
def ledger (h : Heap) (L d : Addr) : List (Addr × Obj) := (List.range h.objs.size).filterMap fun a => if a = L ∨ a = d then none else (h.get? a).map fun o => (a, o)
end
end Att
namespace L2
open PySem PySem.Spec PyProof.Rows
theorem vals_ints : ∀ {vs : List Value} {ns : List Int}, IntsAre vs ns → Vals (ns.map V.int) vs
  | _, _, .nil => .nil
  | _, _, .cons n t h => .cons ⟨t, rfl⟩ (vals_ints h)
def defArgs (s : Stmt) : Arguments := match s with
  | .FunctionDef _ a _ _ _ _ _ _ _ _ => a
  | _ => { posonlyargs := [], args := [], vararg := none, kwonlyargs := [], kw_defaults := [], kwarg := none, defaults := [] }
def defBody (s : Stmt) : List Stmt := match s with
  | .FunctionDef _ _ b _ _ _ _ _ _ _ => b
  | _ => []
def defScope (s : Stmt) : Scope := match s with
  | .FunctionDef _ _ _ _ _ _ sc _ _ _ => sc
  | _ => { kind := .function, names := [], isGenerator := false, isCoroutine := false }
abbrev CX0 : CXT := fun _ _ _ _ _ _ => False
abbrev E0 : XK := fun _ _ _ => False
theorem pass0 {X : Cx} : Passes CX0 X E0 := fun _ _ _ _ _ _ _ h => h.elim
structure Fun (K : PySem.W.Frag) (x qual : Str) (st : Stmt) (f : Addr) (fd : FuncData) : Prop where
  ex : ∃ (oc : Value) (od : Option Addr) (kV doc pm : Value) (an : Option Addr) (cdv ct : Value) (osl : Array (Option Value)),
    fd = PySem.W.fnOf x qual (defArgs st) (defBody st) (defScope st) .none kV doc pm an cdv ct ∧ K.lookup f = some ⟨oc, od, .func fd, osl⟩ ∧ PySem.W.codeIn K cdv qual = true
  kp : PySem.W.keepIn K (.ref f) = true
section
variable {P : Program} {w : World} {K : PySem.W.Frag} {mg : Str → Option Value} {base : Heap}
theorem Fun.ok {x qual : Str} {st : Stmt} {f : Addr} {fd : FuncData} {N ps : List Str} {k : Nat} {sp : Sp} (F : Fun K x qual st f fd) (S : FnScope N ps (defScope st)) (len : ∀ vs H Q E, sp vs H Q E → vs.length = ps.length)
    (hbody : ∀ (cdv : Value) (A : Around) (outer : List Env) (s : Shared) (H : Hp) (vs : List V) (Q : VK) (E : XK), Room k (A.deeper (envOfC qual (defScope st) s.heap.objs.size f cdv)) → sp vs H Q E →
      ∃ t, PSs (cxOf CX0 P w K mg base N qual (defScope st) f cdv A outer s H E).nox (defBody st) t ∧ t { nx := fun _ H' => Q .non H', rt := Q } (start N vs) H) : FnOk P w K mg base CX0 (k + 1) f fd ps sp := by
  obtain ⟨oc, od, kV, doc, pm, an, cdv, ct, osl, rfl, lk, hcd⟩ := F.ex
  refine fn_of lk hcd S len fun A outer s H vs Q E hr hsp => ?_
  obtain ⟨t, h, q⟩ := hbody cdv A outer s H vs Q E hr hsp
  exact ⟨t, h.nox, q⟩
theorem Fun.binds {x qual : Str} {st : Stmt} {f : Addr} {fd : FuncData} {ps : List Str} (F : Fun K x qual st f fd)
    (h : ∀ (kV doc pm : Value) (an : Option Addr) (cdv ct : Value) (us : List Value), us.length = ps.length → bindArgs (PySem.W.fnOf x qual (defArgs st) (defBody st) (defScope st) .none kV doc pm an cdv ct) ⟨us, []⟩ = pure (ps.zip us)) : Binds K fd ps [] := by
  obtain ⟨oc, od, kV, doc, pm, an, cdv, ct, osl, rfl, lk, hcd⟩ := F.ex
  exact .all (h kV doc pm an cdv ct)
theorem fun_mk {x qual : Str} {st : Stmt} {f : Addr} {oc : Value} {od an : Option Addr} {osl : Array (Option Value)} {kV doc pm cdv ct : Value} (l : K.lookup f = some ⟨oc, od, .func (PySem.W.fnOf x qual (defArgs st) (defBody st) (defScope st) .none kV doc pm an cdv ct), osl⟩)
    (c : PySem.W.codeIn K cdv qual = true) (k : PySem.W.keepIn K (.ref f) = true) : Fun K x qual st f (PySem.W.fnOf x qual (defArgs st) (defBody st) (defScope st) .none kV doc pm an cdv ct) := ⟨⟨oc, od, kV, doc, pm, an, cdv, ct, osl, rfl, l, c⟩, k⟩
end
def Same (H H' : Hp) : Prop := ∀ b o, H b = some o → H' b = some o
theorem Same.refl (H : Hp) : Same H H := fun _ _ h => h
theorem Same.trans {H H1 H2 : Hp} (a : Same H H1) (b : Same H1 H2) : Same H H2 := fun c o h => b c o (a c o h)
theorem Same.free {H H' : Hp} (e : Same H H') {l : Addr} (h : H' l = Option.none) : H l = Option.none := by
  cases q : H l with
  | none => rfl
  | some o =>
    rw [e l o q] at h
    cases h
theorem Same.seq {K : PySem.W.Frag} {H H' : Hp} {a : Addr} {xs : List V} (e : Same H H') (h : SqL K H a xs) : SqL K H' a xs := by
  rcases h with (h | ⟨o, h⟩) | h
  · exact .inl (.inl (e _ _ h))
  · exact .inl (.inr ⟨o, e _ _ h⟩)
  · exact .inr h
section
variable {κ : Type} [DecidableEq κ]
def valV (kvs : List (κ × V)) (k : κ) : Option V := (kvs.find? fun kv => decide (kv.1 = k)).map (·.2)
def putK (kvs : List (κ × V)) (k : κ) (v : V) : List (κ × V) :=
  if (kvs.any fun kv => decide (kv.1 = k)) = true then kvs.map (fun kv => if kv.1 = k then (kv.1, v) else kv) else kvs ++ [(k, v)]
def dropK (kvs : List (κ × V)) (k : κ) : List (κ × V) := kvs.filter fun kv => decide (kv.1 ≠ k)
theorem valV_pos {p : κ × V} {r : List (κ × V)} {k : κ} (e : p.1 = k) : valV (p :: r) k = some p.2 := by simp [valV, List.find?_cons, e]
theorem valV_neg {p : κ × V} {r : List (κ × V)} {k : κ} (e : ¬ p.1 = k) : valV (p :: r) k = valV r k := by simp [valV, List.find?_cons, e]
theorem length_putK (kvs : List (κ × V)) (k : κ) (v : V) : (putK kvs k v).length ≤ kvs.length + 1 := by
  unfold putK
  split
  · rw [List.length_map]; omega
  · rw [List.length_append, List.length_cons, List.length_nil]; omega
theorem RelO.getD {o : Option V} {u : Option Value} {d : V} {d' : Value} (r : RelO o u) (rd : RelV d d') : RelV (o.getD d) (u.getD d') := by
  cases o with
  | none => cases u with
    | none => exact rd
    | some _ => exact (show False from r).elim
  | some _ => cases u with
    | none => exact (show False from r).elim
    | some _ => exact r
theorem KV.val {kvs : List (κ × V)} {vs : List (κ × Value)} (r : KV kvs vs) (k : κ) : RelO (valV kvs k) (valueAt vs k) := by
  unfold KV at r
  induction r with
  | nil => exact True.intro
  | @cons p q ps qs h t ih =>
    obtain ⟨h1, h2⟩ := h
    by_cases e : p.1 = k
    · have e' : q.1 = k := h1.symm.trans e
      have b : valueAt (q :: qs) k = some q.2 := by simp [valueAt, List.find?_cons, e']
      rw [valV_pos e, b]; exact h2
    · have e' : ¬ q.1 = k := fun z => e (h1.trans z)
      have b : valueAt (q :: qs) k = valueAt qs k := by simp [valueAt, List.find?_cons, e']
      rw [valV_neg e, b]; exact ih
theorem KV.any {kvs : List (κ × V)} {vs : List (κ × Value)} (r : KV kvs vs) (k : κ) : (kvs.any fun kv => decide (kv.1 = k)) = vs.any fun kv => decide (kv.1 = k) := by
  unfold KV at r
  induction r with
  | nil => rfl
  | cons h t ih => rw [List.any_cons, List.any_cons, ih, h.1]
theorem KV.repl {kvs : List (κ × V)} {vs : List (κ × Value)} (r : KV kvs vs) (k : κ) {y : V} {u : Value} (ry : RelV y u) :
    KV (kvs.map fun kv => if kv.1 = k then (kv.1, y) else kv) (vs.map fun kv => if kv.1 = k then (kv.1, u) else kv) := by
  unfold KV at r ⊢
  induction r with
  | nil => exact .nil
  | @cons p q ps qs h t ih =>
    rw [List.map_cons, List.map_cons]
    refine .cons ?_ ih
    obtain ⟨h1, h2⟩ := h
    by_cases e : p.1 = k
    · rw [if_pos e, if_pos (h1.symm.trans e)]; exact ⟨h1, ry⟩
    · rw [if_neg e, if_neg (fun z => e (h1.trans z))]; exact ⟨h1, h2⟩
theorem KV.put {kvs : List (κ × V)} {vs : List (κ × Value)} (r : KV kvs vs) (k : κ) {y : V} {u : Value} (ry : RelV y u) : KV (putK kvs k y) (stored vs k u) := by
  unfold putK stored
  rw [r.any k]
  by_cases e : (vs.any fun kv => decide (kv.1 = k)) = true
  · rw [if_pos e, if_pos e]; exact r.repl k ry
  · rw [if_neg e, if_neg e]; exact Paired.snoc r ⟨rfl, ry⟩
theorem KV.drop {kvs : List (κ × V)} {vs : List (κ × Value)} (r : KV kvs vs) (k : κ) : KV (dropK kvs k) (without vs k) := by
  unfold KV at r ⊢
  unfold dropK without
  induction r with
  | nil => exact .nil
  | @cons p q ps qs h t ih =>
    obtain ⟨h1, h2⟩ := h
    rw [List.filter_cons, List.filter_cons]
    by_cases e : p.1 = k
    · have a : ¬ decide (p.1 ≠ k) = true := by simp [e]
      have b : ¬ decide (q.1 ≠ k) = true := by simp [h1.symm.trans e]
      rw [if_neg a, if_neg b]; exact ih
    · have e' : ¬ q.1 = k := fun z => e (h1.trans z)
      have a : decide (p.1 ≠ k) = true := by simp [e]
      have b : decide (q.1 ≠ k) = true := by simp [e']
      rw [if_pos a, if_pos b]; exact .cons ⟨h1, h2⟩ ih
theorem KV.length {kvs : List (κ × V)} {vs : List (κ × Value)} (r : KV kvs vs) : kvs.length = vs.length := Paired.length r
end
theorem kV_is {P : Program} {w : World} {k : Key} {u : Value} (r : RelV (kV k) u) : (mixKind P w).is k u = true := by
  cases k with
  | inl i => obtain ⟨t, e⟩ := (show ∃ t, u = Value.int i t from r); subst e; exact mixKind_int P w i t
  | inr x => obtain ⟨t, e⟩ := (show ∃ t, u = Value.str x t from r); subst e; exact mixKind_str P w x t
theorem items_are {P : Program} {w : World} : ∀ {ks : List Key} {us : List Value}, Vals (ks.map kV) us → ItemsAre (mixKind P w) ks us
  | [], _, r => by rw [List.map_nil] at r; cases r; exact .nil
  | k :: ks, _, r => by
    rw [List.map_cons] at r
    cases r with
    | cons h t => exact .cons (kV_is h) (items_are t)
abbrev KT (H : Hp) : List (List Key × V) → List (List Key × Addr × Value) → Prop := Paired fun p q => p.1 = q.1 ∧ H q.2.1 = some (.tup (p.1.map kV)) ∧ RelV p.2 q.2.2
theorem KT.val {H : Hp} {kvs : List (List Key × V)} {xs : List (List Key × Addr × Value)} (r : KT H kvs xs) (k : List Key) : RelO (valV kvs k) ((atKey xs k).map (·.2)) := by
  induction r with
  | nil => exact True.intro
  | @cons p q ps qs h t ih =>
    obtain ⟨h1, _, h2⟩ := h
    by_cases e : p.1 = k
    · have e' : q.1 = k := h1.symm.trans e
      have b : atKey (q :: qs) k = some q.2 := by simp [atKey, List.find?_cons, e']
      rw [valV_pos e, b]; exact h2
    · have e' : ¬ q.1 = k := fun z => e (h1.trans z)
      have b : atKey (q :: qs) k = atKey qs k := by simp [atKey, List.find?_cons, e']
      rw [valV_neg e, b]; exact ih
section
variable {P : Program} {w : World} {H : Hp} {h : Heap} {a : Addr}
theorem rd_of {u : HO} (ok : HOk P w H h) (e : Rd H a u) : ObjOk P w H h a u := e.ok ok
theorem dk_rd {kvs : List (Key × V)} (ok : HOk P w H h) (e : Rd H a (.dK kvs)) : kvs.length ≤ sizeLine ∧ (a == sysModules) = false ∧ ∃ vs, KV kvs vs ∧ h.DictOf (mixKind P w) a vs :=
  show ObjOk P w H h a (.dK kvs) from rd_of ok e
theorem dk_of {kvs : List (Key × V)} (ok : HOk P w H h) (e : H a = some (.dK kvs)) : kvs.length ≤ sizeLine ∧ (a == sysModules) = false ∧ ∃ vs, KV kvs vs ∧ h.DictOf (mixKind P w) a vs := dk_rd ok (.inl e)
theorem key_of {ks : List Key} (ok : HOk P w H h) (e : H a = some (.tup (ks.map kV))) : (tupleKind (mixKind P w)).is h ks a := by
  obtain ⟨_, its, r, o, h1, h2, n, h3⟩ := (show ObjOk P w H h a (.tup (ks.map kV)) from ok a _ e)
  exact ⟨o, its.toArray, n, h1, h2, h3, by simpa using items_are r⟩
theorem dt_rd {kvs : List (List Key × V)} (ok : HOk P w H h) (e : Rd H a (.dT kvs)) : kvs.length ≤ sizeLine ∧ (a == sysModules) = false ∧
    ∃ xs, KT H kvs xs ∧ h.DictOfH (tupleKind (mixKind P w)) a xs := by
  obtain ⟨z, y, xs, r, o, es, ep, h1, h2, h3, h4, h5⟩ := (show ObjOk P w H h a (.dT kvs) from rd_of ok e)
  refine ⟨z, y, xs, r, o, es, ep, h1, h2, h3, h4, fun x hx => ?_, h5⟩
  have all : ∀ {l : List (List Key × V)} {m : List (List Key × Addr × Value)}, KT H l m → ∀ x ∈ m, (tupleKind (mixKind P w)).is h x.1 x.2.1 := by
    intro l m q
    induction q with
    | nil => intro x hx; exact nomatch hx
    | @cons p q ps qs hq t ih =>
      intro x hx
      rcases List.mem_cons.mp hx with e | hx
      · subst e
        exact key_of ok (by rw [← hq.1]; exact hq.2.1)
      · exact ih x hx
  exact all r x hx
end
def DGet (H : Hp) (a : Addr) (y : V) (r : Option V) : Prop :=
  (∃ kvs k, Rd H a (.dK kvs) ∧ y = kV k ∧ r = valV kvs k) ∨ ∃ kvs k b, Rd H a (.dT kvs) ∧ y = .ref b ∧ H b = some (.tup (k.map kV)) ∧ r = valV kvs k
def DPut (H : Hp) (a : Addr) (y v : V) (H' : Hp) : Prop :=
  (∃ kvs k, H a = some (.dK kvs) ∧ y = kV k ∧ kvs.length < sizeLine ∧ H' = upd H a (.dK (putK kvs k v))) ∨
  ∃ kvs k b, H a = some (.dT kvs) ∧ y = .ref b ∧ H b = some (.tup (k.map kV)) ∧ kvs.length < sizeLine ∧ H' = upd H a (.dT (putK kvs k v))
theorem DGet.k {H : Hp} {a : Addr} {kvs : List (Key × V)} {k : Key} (e : H a = some (.dK kvs)) : DGet H a (kV k) (valV kvs k) := .inl ⟨kvs, k, .inl e, rfl, rfl⟩
theorem DGet.t {H : Hp} {a b : Addr} {kvs : List (List Key × V)} {k : List Key} (e : H a = some (.dT kvs)) (eb : H b = some (.tup (k.map kV))) : DGet H a (.ref b) (valV kvs k) := .inr ⟨kvs, k, b, .inl e, rfl, eb, rfl⟩
theorem DPut.k {H : Hp} {a : Addr} {kvs : List (Key × V)} {k : Key} {v : V} (e : H a = some (.dK kvs)) (hl : kvs.length < sizeLine) : DPut H a (kV k) v (upd H a (.dK (putK kvs k v))) := .inl ⟨kvs, k, e, rfl, hl, rfl⟩
theorem DPut.t {H : Hp} {a b : Addr} {kvs : List (List Key × V)} {k : List Key} {v : V} (e : H a = some (.dT kvs)) (eb : H b = some (.tup (k.map kV))) (hl : kvs.length < sizeLine) :
    DPut H a (.ref b) v (upd H a (.dT (putK kvs k v))) := .inr ⟨kvs, k, b, e, rfl, eb, hl, rfl⟩
section
variable {X : Cx} {pins : List (Addr × Obj)} {σ : St} {H : Hp} {s : Shared} {a : Addr} {y v : V} {u r : Value} {o : Option V} {A : Around} {E : Value → Shared → Prop}
theorem Inv.big (I : Inv X pins σ H s) : sysModules < s.heap.objs.size := by
  have h : mainGlobals < s.heap.objs.size := (I.mod.glob.keeps I.bk).lt
  exact Nat.lt_trans (by decide) h
theorem d_write {h' : Heap} {t' : Nat} {ob : HO} (I : Inv X pins σ H s) (mu : Mut (H a)) (hs : Heap.SameBut a s.heap h') (he : ∃ q, h'.get? a = some q) (new : ObjOk X.prog X.w (upd H a ob) h' a ob) :
    Inv X pins σ (upd H a ob) { s with heap := h', toks := t' } :=
  I.write (x := a) (e := a) mu (.inl rfl) (fun b q hb z => (hs.2 b hb).trans z) he new
theorem dk_new {P : Program} {w : World} {H' : Hp} {h' : Heap} {kvs : List (Key × V)} {vs : List (Key × Value)} (z : kvs.length ≤ sizeLine) (hd : (a == sysModules) = false) (rel : KV kvs vs) (dd : h'.DictOf (mixKind P w) a vs) :
    ObjOk P w H' h' a (.dK kvs) := ⟨z, hd, vs, rel, dd⟩
end
theorem dk_empty {P : Program} {w : World} {H : Hp} (h : Heap) (hb : sysModules < h.objs.size) : ObjOk P w H (h.push { cls := .type "dict", data := .dict #[] }) h.objs.size (.dK []) :=
  ⟨Nat.zero_le _, beq_eq_false_iff_ne.mpr (Ne.symm (Nat.ne_of_lt hb)), [], .nil, Heap.DictOf.new h⟩
theorem dt_empty {P : Program} {w : World} {H : Hp} (h : Heap) (hb : sysModules < h.objs.size) : ObjOk P w H (h.push { cls := .type "dict", data := .dict #[] }) h.objs.size (.dT []) :=
  ⟨Nat.zero_le _, beq_eq_false_iff_ne.mpr (Ne.symm (Nat.ne_of_lt hb)), [], .nil, _, #[], 0, Heap.get?_push_size _ rfl, ⟨rfl, rfl, rfl⟩, rfl, rfl, List.nodup_nil⟩
def tDNewT : TE := fun _ H Q => ∀ p, H p = none → Q (.ref p) (upd H p (.dT []))
section
variable {X : Cx} {pos : Pos}
theorem pe_dnewT : PE X (.Dict [] [] pos) tDNewT := fun pins s σ H Q I h =>
  wpAny_Dict_empty ⟨.ref s.heap.objs.size, _, I.laid (a := s.heap.objs.size) (o := .dT []) (t' := s.toks) (fun _ _ q => Heap.get?_push_of_some _ q) (Nat.le_refl _) (dt_empty s.heap I.big), rfl, h _ (I.hok.fresh (Nat.le_refl _))⟩
end
structure M1 (X : Cx) (o : Expr) (m : Str) (apos : Pos) (e : Expr) (cpos : Pos) : Prop where
  base : attributeBase o m X.env (eval o X.env) = eval o X.env
  few : ((backTo cpos (starEach [e] X.env)).all (fun x => !x.1) && (backToKw cpos (keywordEach [] X.env)).all (fun x => x.1.isSome)
    && decide (([e] : List Expr).length + ([] : List Keyword).length + (if ([] : List Keyword).isEmpty then 0 else 1) < 30)) = true
  line : (apos.endLine == cpos.line) = true
  trees : backTo cpos (starEach [e] X.env) = [(false, eval e X.env)]
def IsD (H : Hp) (a : Addr) : Prop := (∃ kvs, Rd H a (.dK kvs)) ∨ ∃ kvs, Rd H a (.dT kvs)
theorem isD_at {X : Cx} {pins : List (Addr × Obj)} {σ : St} {H : Hp} {s : Shared} {a : Addr} (I : Inv X pins σ H s) (d : IsD H a) :
    s.TypeIs (.ref a) "dict" ∧ (∀ b, Value.ref a = .ref b → ∃ ob, s.heap.get? b = some ob ∧ ob.dict = none) ∧ (a == sysModules) = false := by
  rcases d with ⟨kvs, e⟩ | ⟨kvs, e⟩
  · obtain ⟨_, hd, vs, _, dd⟩ := dk_rd I.hok e
    refine ⟨dd.typeIs, fun b q => ?_, hd⟩
    cases q
    obtain ⟨ob, _, _, h1, h2, _⟩ := dd
    exact ⟨ob, h1, h2.2.1⟩
  · obtain ⟨_, hd, xs, _, dd⟩ := dt_rd I.hok e
    refine ⟨dd.typeIs, fun b q => ?_, hd⟩
    cases q
    obtain ⟨ob, _, _, h1, h2, _⟩ := dd
    exact ⟨ob, h1, h2.2.1⟩
section
variable {X : Cx} {pins : List (Addr × Obj)} {σ : St} {H : Hp} {s : Shared} {a : Addr} {y d : V} {u r : Value} {o : Option V} {A : Around} {E : Value → Shared → Prop}
theorem d_get1 {Q : Value → Shared → Prop} (hu : A.units + 1 < cLine) (I : Inv X pins σ H s) (g : DGet H a y o) (ry : RelV y u) (h : ∀ w' s', Inv X pins σ H s' → RelV (o.getD .non) w' → Q w' s') :
    wpAny (model X.prog X.w) A (call (.builtin "dict.get") [.ref a, u]) Q E s := by
  rcases g with ⟨kvs, k, e, ey, l⟩ | ⟨kvs, k, b, e, ey, eb, l⟩
  · subst ey
    obtain ⟨z, hd, vs, rel, dd⟩ := dk_rd I.hok e
    refine call_meetsIn PySem.F.slot_dict_get dd.typeIs PySem.F.entry_dict_get (PySem.F.args_dict_get_2 _ _) (meets_dict_get (mixKind X.prog X.w) a (kV_is ry) hd) ⟨_, dd.mapOf, h _ _ (I.tok _) ?_⟩
    rw [l]
    exact (rel.val k).getD rfl
  · subst ey
    cases (show u = Value.ref b from ry)
    obtain ⟨z, hd, xs, rel, dd⟩ := dt_rd I.hok e
    refine call_meetsIn PySem.F.slot_dict_get dd.typeIs PySem.F.entry_dict_get (PySem.F.args_dict_get_2 _ _) (meetsH_dict_get (tupleKind (mixKind X.prog X.w)) a b hd) ⟨tupleKind_room_in1 hu, k, xs, key_of I.hok eb, dd, h _ _ (I.tok _) ?_⟩
    rw [l]
    exact (rel.val k).getD rfl
end
def tDGet1 (td ty : TE) : TE := fun σ H Q => td σ H fun x H1 => ∃ a, x = .ref a ∧ IsD H1 a ∧ ty σ H1 fun y H2 => ∃ o, DGet H2 a y o ∧ Q (o.getD .non) H2
section
variable {X : Cx} {o e f : Expr} {apos cpos : Pos} {td ty tx : TE}
theorem pe_dget1 (hu : X.A.units + 1 < cLine) (ho : PE X o td) (he : PE X e ty) (m : M1 X o "get" apos e cpos) : PE X (.Call (.Attribute o "get" apos) [e] [] cpos) (tDGet1 td ty) := by
  intro pins s σ H Q I h
  refine wpAny_Call_method m.base m.few m.line PySem.F.plainAttrs_dict PySem.F.slot_dict_get PySem.F.type_dict_get (thn (ho pins s σ H _ I h) fun u s1 ⟨x, H1, I1, rx, a, ex, d, q1⟩ => ?_)
  subst ex
  obtain rfl : u = Value.ref a := rx
  obtain ⟨t1, t2, _⟩ := isD_at I1 d
  refine ⟨t1, t2, ?_⟩
  rw [m.trees]
  refine Calls.callWith_builtin rfl (Calls.evalArgs_plain (Calls.spliced_cons (thn (he pins s1 σ H1 _ I1 q1) fun iv s2 ⟨y, H2, I2, ry, ov, g, q2⟩ => Calls.spliced_nil ?_)))
  exact d_get1 hu I2 g ry fun w' s3 I3 rw' => ⟨_, H2, I3, rw', q2⟩
end
end L2
namespace DL
open PySem L2
set_option linter.all false
abbrev St := L2.St
inductive D where
  | non | bl (b : Bool) | int (i : Int) | str (x : Str) | ty (n : String) | tup (ds : List D) | lst (ds : List D)
    | dk (ks : List Key) (vs : List D) | dt (ks : List (List Key)) (vs : List D)
mutual
inductive Is (K : PySem.W.Frag) (H : Hp) : V → D → Prop where
  | non : Is K H .non .non
  | bl (b : Bool) : Is K H (.bl b) (.bl b)
  | int (i : Int) : Is K H (.int i) (.int i)
  | str (x : Str) : Is K H (.str x) (.str x)
  | ty (n : String) : Is K H (.ty n) (.ty n)
  | tup {a : Addr} {vs : List V} {ds : List D} (h : SqT K H a vs) (hs : IsL K H vs ds) : Is K H (.ref a) (.tup ds)
  | lst {a : Addr} {vs : List V} {ds : List D} (h : SqL K H a vs) (hs : IsL K H vs ds) : Is K H (.ref a) (.lst ds)
  | dk {a : Addr} {ks : List Key} {vs : List V} {ds : List D} (h : H a = some (.dK (ks.zip vs))) (hl : ks.length = vs.length) (hs : IsL K H vs ds) : Is K H (.ref a) (.dk ks ds)
  | dt {a : Addr} {ks : List (List Key)} {vs : List V} {ds : List D} (h : H a = some (.dT (ks.zip vs))) (hl : ks.length = vs.length) (hs : IsL K H vs ds) : Is K H (.ref a) (.dt ks ds)
inductive IsL (K : PySem.W.Frag) (H : Hp) : List V → List D → Prop where
  | nil : IsL K H [] []
  | cons {v : V} {d : D} {vs : List V} {ds : List D} (h : Is K H v d) (hs : IsL K H vs ds) : IsL K H (v :: vs) (d :: ds)
end
mutual
def noLst : D → Bool
  | .lst _ => false
  | .dk _ _ => false
  | .dt _ _ => false
  | .tup ds => noLsts ds
  | _ => true
def noLsts : List D → Bool
  | [] => true
  | d :: ds => noLst d && noLsts ds
end
@[simp] theorem noLst_non : noLst .non = true := by simp only [noLst]
@[simp] theorem noLst_bl (b : Bool) : noLst (.bl b) = true := by simp only [noLst]
@[simp] theorem noLst_int (i : Int) : noLst (.int i) = true := by simp only [noLst]
@[simp] theorem noLst_str (x : Str) : noLst (.str x) = true := by simp only [noLst]
@[simp] theorem noLst_ty (x : String) : noLst (.ty x) = true := by simp only [noLst]
@[simp] theorem noLst_tup (ds : List D) : noLst (.tup ds) = noLsts ds := by rw [noLst]
@[simp] theorem noLst_lst (ds : List D) : noLst (.lst ds) = false := by rw [noLst]
@[simp] theorem noLst_dk (ks : List Key) (ds : List D) : noLst (.dk ks ds) = false := by rw [noLst]
@[simp] theorem noLst_dt (ks : List (List Key)) (ds : List D) : noLst (.dt ks ds) = false := by rw [noLst]
@[simp] theorem noLsts_nil : noLsts [] = true := by rw [noLsts]
@[simp] theorem noLsts_cons (d : D) (ds : List D) : noLsts (d :: ds) = (noLst d && noLsts ds) := by rw [noLsts]
section
variable {K : PySem.W.Frag} {H H' : Hp}
mutual
theorem Is.keep (hT : ∀ a vs, SqT K H a vs → SqT K H' a vs) (hL : ∀ a vs, SqL K H a vs → SqL K H' a vs) (hK : ∀ a kvs, H a = some (.dK kvs) → H' a = some (.dK kvs)) (hM : ∀ a kvs, H a = some (.dT kvs) → H' a = some (.dT kvs)) : ∀ {v : V} {d : D}, Is K H v d → Is K H' v d
  | _, _, .non => .non
  | _, _, .bl b => .bl b
  | _, _, .int i => .int i
  | _, _, .str x => .str x
  | _, _, .ty x => .ty x
  | _, _, .tup h hs => .tup (hT _ _ h) (IsL.keep hT hL hK hM hs)
  | _, _, .lst h hs => .lst (hL _ _ h) (IsL.keep hT hL hK hM hs)
  | _, _, .dk h hl hs => .dk (hK _ _ h) hl (IsL.keep hT hL hK hM hs)
  | _, _, .dt h hl hs => .dt (hM _ _ h) hl (IsL.keep hT hL hK hM hs)
theorem IsL.keep (hT : ∀ a vs, SqT K H a vs → SqT K H' a vs) (hL : ∀ a vs, SqL K H a vs → SqL K H' a vs) (hK : ∀ a kvs, H a = some (.dK kvs) → H' a = some (.dK kvs)) (hM : ∀ a kvs, H a = some (.dT kvs) → H' a = some (.dT kvs)) : ∀ {vs : List V} {ds : List D}, IsL K H vs ds → IsL K H' vs ds
  | _, _, .nil => .nil
  | _, _, .cons h hs => .cons (Is.keep hT hL hK hM h) (IsL.keep hT hL hK hM hs)
end
mutual
theorem Is.keepT (hT : ∀ a vs, SqT K H a vs → SqT K H' a vs) : ∀ {v : V} {d : D}, Is K H v d → noLst d = true → Is K H' v d
  | _, _, .non, _ => .non
  | _, _, .bl b, _ => .bl b
  | _, _, .int i, _ => .int i
  | _, _, .str x, _ => .str x
  | _, _, .ty x, _ => .ty x
  | _, _, .tup h hs, n => .tup (hT _ _ h) (IsL.keepT hT hs (by simpa using n))
  | _, _, .lst h hs, n => by simp at n
  | _, _, .dk h hl hs, n => by simp at n
  | _, _, .dt h hl hs, n => by simp at n
theorem IsL.keepT (hT : ∀ a vs, SqT K H a vs → SqT K H' a vs) : ∀ {vs : List V} {ds : List D}, IsL K H vs ds → noLsts ds = true → IsL K H' vs ds
  | _, _, .nil, _ => .nil
  | _, _, .cons h hs, n => by
    simp at n
    exact .cons (Is.keepT hT h n.1) (IsL.keepT hT hs n.2)
end
theorem same_seqT {a : Addr} {xs : List V} (e : Same H H') (h : SqT K H a xs) : SqT K H' a xs := by
  rcases h with (h | ⟨o, h⟩) | h
  · exact .inl (.inl (e _ _ h))
  · exact .inl (.inr ⟨o, e _ _ h⟩)
  · exact .inr h
theorem Is.mono {v : V} {d : D} (h : Is K H v d) (e : Same H H') : Is K H' v d := h.keep (fun _ _ => same_seqT e) (fun _ _ => e.seq) (fun _ _ q => e _ _ q) fun _ _ q => e _ _ q
theorem IsL.mono {v : List V} {d : List D} (h : IsL K H v d) (e : Same H H') : IsL K H' v d := h.keep (fun _ _ => same_seqT e) (fun _ _ => e.seq) (fun _ _ q => e _ _ q) fun _ _ q => e _ _ q
theorem IsL.length : ∀ {vs : List V} {ds : List D}, IsL K H vs ds → vs.length = ds.length
  | _, _, .nil => rfl
  | _, _, .cons _ t => congrArg (· + 1) t.length
theorem IsL.get : ∀ {vs : List V} {ds : List D} {i : Nat} {d : D}, IsL K H vs ds → ds[i]? = some d → ∃ v, vs[i]? = some v ∧ Is K H v d
  | _, _, _, _, .nil, e => by simp at e
  | _, _, 0, _, .cons h _, e => by simp at e; subst e; exact ⟨_, rfl, h⟩
  | _, _, i + 1, d, .cons _ t, e => by
    obtain ⟨u, h1, h2⟩ := t.get (i := i) (d := d) (by simpa using e)
    exact ⟨u, by simpa using h1, h2⟩
theorem IsL.append : ∀ {vs ws : List V} {ds es : List D}, IsL K H vs ds → IsL K H ws es → IsL K H (vs ++ ws) (ds ++ es)
  | _, _, _, _, .nil, s => s
  | _, _, _, _, .cons r t, s => .cons r (t.append s)
theorem IsL.take : ∀ {vs : List V} {ds : List D} (n : Nat), IsL K H vs ds → IsL K H (vs.take n) (ds.take n)
  | _, _, 0, _ => by simpa using IsL.nil
  | _, _, _ + 1, .nil => .nil
  | _, _, n + 1, .cons r t => .cons r (t.take n)
theorem IsL.drop : ∀ {vs : List V} {ds : List D} (n : Nat), IsL K H vs ds → IsL K H (vs.drop n) (ds.drop n)
  | _, _, 0, r => r
  | _, _, _ + 1, .nil => .nil
  | _, _, n + 1, .cons _ t => t.drop n
theorem IsL.set {v : V} {d : D} (h : Is K H v d) : ∀ {vs : List V} {ds : List D} (i : Nat), IsL K H vs ds → IsL K H (vs.set i v) (ds.set i d)
  | _, _, _, .nil => .nil
  | _, _, 0, .cons _ t => .cons h t
  | _, _, i + 1, .cons r t => .cons r (IsL.set h i t)
theorem IsL.eraseIdx : ∀ {vs : List V} {ds : List D} (i : Nat), IsL K H vs ds → IsL K H (vs.eraseIdx i) (ds.eraseIdx i)
  | _, _, _, .nil => .nil
  | _, _, 0, .cons _ t => t
  | _, _, i + 1, .cons r t => .cons r (t.eraseIdx i)
theorem IsL.flat {vs : List V} {ns : List Int} (h : vs = ns.map V.int) : IsL K H vs (ns.map D.int) := by
  subst h
  induction ns with
  | nil => exact .nil
  | cons n ns ih => exact .cons (.int n) ih
end
structure Ext (B N H H' : Hp) : Prop where
  hh : Same H H'
  bn : Same B N
  nh : Same N H'
  new : ∀ a o, N a = some o → B a = some o ∨ H a = none
theorem Ext.refl {B H : Hp} (h : Same B H) : Ext B B H H := ⟨.refl _, .refl _, h, fun _ _ e => .inl e⟩
theorem Ext.trans {B N H H1 N2 H2 : Hp} (x : Ext B N H H1) (y : Ext N N2 H1 H2) : Ext B N2 H H2 :=
  ⟨x.hh.trans y.hh, x.bn.trans y.bn, y.nh, fun a o e => (y.new a o e).elim (fun q => x.new a o q) fun q => .inr (x.hh.free q)⟩
theorem Ext.laid {B H : Hp} {p : Addr} {o : HO} (h : Same B H) (hp : H p = none) : Ext B (upd B p o) H (upd H p o) := by
  have hB : B p = none := h.free hp
  refine ⟨fun a u e => ?_, fun a u e => ?_, fun a u e => ?_, fun a u e => ?_⟩
  · rw [upd_ne (fun q => by subst q; rw [hp] at e; cases e)]; exact e
  · rw [upd_ne (fun q => by subst q; rw [hB] at e; cases e)]; exact e
  · by_cases q : a = p
    · subst q; rw [upd_same] at e ⊢; exact e
    · rw [upd_ne q] at e ⊢; exact h _ _ e
  · by_cases q : a = p
    · subst q; exact .inr hp
    · rw [upd_ne q] at e; exact .inl e
theorem Ext.grow {B H H' : Hp} (h : Same B H) (hh : Same H H') : Ext B B H H' := ⟨hh, .refl _, h.trans hh, fun _ _ e => .inl e⟩
abbrev Env := List (Option (D × Bool))
abbrev FE := Env → Option (D × Bool)
abbrev FA := Env → Option (List D)
abbrev FT := Env → Option Bool
def Fsh (K : PySem.W.Frag) (H N : Hp) (v : V) (d : D) : Prop := ∃ (a : Addr) (vs : List V) (ds : List D), v = .ref a ∧ d = .lst ds ∧ H a = none ∧ N a = some (.lst vs) ∧ IsL K N vs ds
theorem Fsh.back {K : PySem.W.Frag} {H H' N : Hp} {v : V} {d : D} (h : Fsh K H' N v d) (e : Same H H') : Fsh K H N v d := let ⟨a, vs, ds, q, y, z, r⟩ := h; ⟨a, vs, ds, q, y, e.free z, r⟩
def lamNames : List Str := ["in_order", "has_seal", "is_first_death", "bases_by"]
def lamQ (x : Str) : Str := x ++ ".<locals>." ++ "<lambda>"
def Tb (K : PySem.W.Frag) (B : Hp) : Prop := ∀ x ∈ lamNames, ∀ c P, PySem.W.tabIn K x = some (c, P) → B P = some (.tbl (lamQ x))
theorem Tb.mono {K : PySem.W.Frag} {B B' : Hp} (h : Tb K B) (e : Same B B') : Tb K B' := fun x hx c P q => e _ _ (h x hx c P q)
structure RepE (K : PySem.W.Frag) (B : Hp) (σ : St) (ρ : Env) : Prop where
  tb : Tb K B
  at' : ∀ (i : Nat) (d : D) (b : Bool), ρ[i]? = some (some (d, b)) → ∃ v, σ[i]? = some (some v) ∧ Is K B v d
theorem RepE.mono {K : PySem.W.Frag} {B B' : Hp} {σ : St} {ρ : Env} (h : RepE K B σ ρ) (e : Same B B') : RepE K B' σ ρ := ⟨h.tb.mono e, fun i d b q => let ⟨v, h1, h2⟩ := h.at' i d b q; ⟨v, h1, h2.mono e⟩⟩
def Fin (K : PySem.W.Frag) (B H : Hp) (d : D) (b : Bool) (Q : VK) : Prop := ∀ (v : V) (H' N : Hp), Ext B N H H' → Is K N v d → (b = true → Fsh K H N v d) → Q v H'
def tD (K : PySem.W.Frag) (f : FE) : TE := fun σ H Q => ∃ (B : Hp) (ρ : Env) (d : D) (b : Bool), Same B H ∧ RepE K B σ ρ ∧ f ρ = some (d, b) ∧ Fin K B H d b Q
def tDT (K : PySem.W.Frag) (f : FT) : TT := fun σ H Q => ∃ (B : Hp) (ρ : Env) (c : Bool), Same B H ∧ RepE K B σ ρ ∧ f ρ = some c ∧ ∀ H', Same H H' → Q c H'
def tDA (K : PySem.W.Frag) (f : FA) : TA := fun σ H Q => ∃ (B : Hp) (ρ : Env) (ds : List D), Same B H ∧ RepE K B σ ρ ∧ f ρ = some ds ∧ ∀ (vs : List V) (H' N : Hp), Ext B N H H' → IsL K N vs ds → Q vs H'
def rD (K : PySem.W.Frag) (op : D → D → Option (D × Bool)) : R2 := fun x y H Q => ∃ (B : Hp) (dx dy d : D) (b : Bool), Same B H ∧ Is K B x dx ∧ Is K B y dy ∧ op dx dy = some (d, b) ∧ Fin K B H d b Q
def rDU (K : PySem.W.Frag) (op : D → Option (D × Bool)) : V → Hp → VK → Prop := fun x H Q => ∃ (B : Hp) (dx d : D) (b : Bool), Same B H ∧ Is K B x dx ∧ op dx = some (d, b) ∧ Fin K B H d b Q
def rDA (K : PySem.W.Frag) (op : List D → Option (D × Bool)) : List V → Hp → VK → Prop := fun xs H Q => ∃ (B : Hp) (ds : List D) (d : D) (b : Bool), Same B H ∧ IsL K B xs ds ∧ op ds = some (d, b) ∧ Fin K B H d b Q
theorem Fin.one {K : PySem.W.Frag} {B H : Hp} {d : D} {Q : VK} (h : Fin K B H d false Q) (s : Same B H) {v : V} (i : Is K B v d) : Q v H := h v H B (.refl s) i (by simp)
theorem Fin.into {K : PySem.W.Frag} {B N H H1 : Hp} {d : D} {b : Bool} {Q : VK} (h : Fin K B H d b Q) (x : Ext B N H H1) : Fin K N H1 d b Q := fun v H' N' y i fr => h v H' N' (x.trans y) i fun e => (fr e).back x.hh
@[simp] def fC (d : D) : FE := fun _ => some (d, false)
@[simp] def fVar (i : Nat) : FE := fun ρ => match ρ[i]? with | some (some (d, _)) => some (d, false) | _ => none
@[simp] def f2 (op : D → D → Option (D × Bool)) (fa fb : FE) : FE := fun ρ => (fa ρ).bind fun x => (fb ρ).bind fun y => op x.1 y.1
@[simp] def f1 (op : D → Option (D × Bool)) (fa : FE) : FE := fun ρ => (fa ρ).bind fun x => op x.1
@[simp] def fNil : FA := fun _ => some []
@[simp] def fCons (fa : FE) (fr : FA) : FA := fun ρ => (fa ρ).bind fun x => (fr ρ).bind fun xs => some (x.1 :: xs)
@[simp] def fA (op : List D → Option (D × Bool)) (fa : FA) : FE := fun ρ => (fa ρ).bind op
theorem tD_var {K : PySem.W.Frag} {i : Nat} {σ : St} {H : Hp} {Q : VK} (h : tD K (fVar i) σ H Q) : ∃ v, σ[i]? = some (some v) ∧ Q v H := by
  obtain ⟨B, ρ, d, b, s, r, e, q⟩ := h
  unfold fVar at e
  split at e
  · rename_i d' b' e'
    cases e
    obtain ⟨v, h1, h2⟩ := r.at' i _ _ e'
    exact ⟨v, h1, q.one s h2⟩
  · cases e
theorem tD_2 {K : PySem.W.Frag} {op : D → D → Option (D × Bool)} {fa fb : FE} {σ : St} {H : Hp} {Q : VK} (h : tD K (f2 op fa fb) σ H Q) : tD K fa σ H fun x H1 => tD K fb σ H1 fun y H2 => rD K op x y H2 Q := by
  obtain ⟨B, ρ, d, b, s, r, e, q⟩ := h
  obtain ⟨x, ex, e⟩ := Option.bind_eq_some_iff.mp e
  obtain ⟨y, ey, e⟩ := Option.bind_eq_some_iff.mp e
  refine ⟨B, ρ, x.1, x.2, s, r, ex, fun v H1 N x1 i1 _ => ⟨N, ρ, y.1, y.2, x1.nh, r.mono x1.bn, ey, fun v2 H2 N2 x2 i2 _ => ⟨N2, x.1, y.1, d, b, x2.nh, i1.mono x2.bn, i2, e, ?_⟩⟩⟩
  exact q.into (x1.trans x2)
theorem tD_1 {K : PySem.W.Frag} {op : D → Option (D × Bool)} {fa : FE} {σ : St} {H : Hp} {Q : VK} (h : tD K (f1 op fa) σ H Q) : tD K fa σ H fun x H1 => rDU K op x H1 Q := by
  obtain ⟨B, ρ, d, b, s, r, e, q⟩ := h
  obtain ⟨x, ex, e⟩ := Option.bind_eq_some_iff.mp e
  exact ⟨B, ρ, x.1, x.2, s, r, ex, fun v H1 N x1 i1 _ => ⟨N, x.1, d, b, x1.nh, i1, e, q.into x1⟩⟩
theorem tD_A {K : PySem.W.Frag} {op : List D → Option (D × Bool)} {fa : FA} {σ : St} {H : Hp} {Q : VK} (h : tD K (fA op fa) σ H Q) : tDA K fa σ H fun xs H1 => rDA K op xs H1 Q := by
  obtain ⟨B, ρ, d, b, s, r, e, q⟩ := h
  obtain ⟨x, ex, e⟩ := Option.bind_eq_some_iff.mp e
  exact ⟨B, ρ, x, s, r, ex, fun v H1 N x1 i1 => ⟨N, x, d, b, x1.nh, i1, e, q.into x1⟩⟩
theorem tDA_nil {K : PySem.W.Frag} {σ : St} {H : Hp} {Q : List V → Hp → Prop} (h : tDA K fNil σ H Q) : Q [] H := by
  obtain ⟨B, ρ, ds, s, r, e, q⟩ := h
  cases e
  exact q [] H B (.refl s) .nil
theorem tDA_cons {K : PySem.W.Frag} {fa : FE} {fr : FA} {σ : St} {H : Hp} {Q : List V → Hp → Prop} (h : tDA K (fCons fa fr) σ H Q) : tD K fa σ H fun x H1 => tDA K fr σ H1 fun xs H2 => Q (x :: xs) H2 := by
  obtain ⟨B, ρ, ds, s, r, e, q⟩ := h
  obtain ⟨x, ex, e⟩ := Option.bind_eq_some_iff.mp e
  obtain ⟨y, ey, e⟩ := Option.bind_eq_some_iff.mp e
  cases e
  exact ⟨B, ρ, x.1, x.2, s, r, ex, fun v H1 N x1 i1 _ => ⟨N, ρ, y, x1.nh, r.mono x1.bn, ey, fun vs H2 N2 x2 i2 => q _ H2 N2 (x1.trans x2) (.cons (i1.mono x2.bn) i2)⟩⟩
@[simp] def tOf (f : FE) : FT := fun ρ => match f ρ with | some (.bl c, _) => some c | _ => none
@[simp] def tAndF (f g : FT) : FT := fun ρ => match f ρ with | some true => g ρ | some false => some false | none => none
@[simp] def tOrF (f g : FT) : FT := fun ρ => match f ρ with | some true => some true | some false => g ρ | none => none
@[simp] def tNotF (f : FT) : FT := fun ρ => (f ρ).map (!·)
@[simp] def fIf (c : FT) (f g : FE) : FE := fun ρ => match c ρ with | some true => f ρ | some false => g ρ | none => none
open Classical in
noncomputable def cut (H : Hp) (P : Addr → Prop) : Hp := fun a => if P a then none else H a
theorem cut_of {H : Hp} {P : Addr → Prop} {a : Addr} (h : ¬ P a) : cut H P a = H a := by unfold cut; rw [if_neg h]
theorem cut_in {H : Hp} {P : Addr → Prop} {a : Addr} (h : P a) : cut H P a = none := by unfold cut; rw [if_pos h]
theorem cut_some {H : Hp} {P : Addr → Prop} {a : Addr} {o : HO} (h : cut H P a = some o) : ¬ P a ∧ H a = some o := by
  by_cases q : P a
  · rw [cut_in q] at h; cases h
  · rw [cut_of q] at h; exact ⟨q, h⟩
theorem cut_same {H : Hp} {P : Addr → Prop} : Same (cut H P) H := fun _ _ e => (cut_some e).2
theorem cut_mono {H H' : Hp} {P P' : Addr → Prop} (e : ∀ a o, H a = some o → ¬ P a → H' a = some o ∧ ¬ P' a) : Same (cut H P) (cut H' P') := fun a o q => by
  obtain ⟨h1, h2⟩ := cut_some q
  obtain ⟨h3, h4⟩ := e a o h2 h1
  rw [cut_of h4]; exact h3
def join (N N' : Hp) : Hp := fun a => match N a with | some o => some o | none => N' a
theorem join_l {N N' : Hp} : Same N (join N N') := fun a o e => by unfold join; rw [e]
theorem join_none {N N' : Hp} {a : Addr} (e : N a = none) : join N N' a = N' a := by unfold join; rw [e]
def own (σ : St) (ρ : Env) (a : Addr) : Prop := ∃ (i : Nat) (d : D), ρ[i]? = some (some (d, true)) ∧ σ[i]? = some (some (V.ref a))
inductive Bx (K : PySem.W.Frag) (C : Hp) : HO → D → Prop where
  | lst {vs : List V} {ds : List D} (h : IsL K C vs ds) : Bx K C (.lst vs) (.lst ds)
  | dk {ks : List Key} {vs : List V} {ds : List D} (hl : ks.length = vs.length) (h : IsL K C vs ds) : Bx K C (.dK (ks.zip vs)) (.dk ks ds)
  | dt {ks : List (List Key)} {vs : List V} {ds : List D} (hl : ks.length = vs.length) (h : IsL K C vs ds) : Bx K C (.dT (ks.zip vs)) (.dt ks ds)
theorem Bx.mono {K : PySem.W.Frag} {C C' : Hp} {o : HO} {d : D} (h : Bx K C o d) (e : Same C C') : Bx K C' o d := by
  cases h with
  | lst h => exact .lst (h.mono e)
  | dk hl h => exact .dk hl (h.mono e)
  | dt hl h => exact .dt hl (h.mono e)
theorem Bx.is {K : PySem.W.Frag} {C : Hp} {o : HO} {d : D} {a : Addr} (h : Bx K C o d) (e : C a = some o) : Is K C (.ref a) d := by
  cases h with
  | lst h => exact .lst (SqL.of e) h
  | dk hl h => exact .dk e hl h
  | dt hl h => exact .dt e hl h
structure StN (K : PySem.W.Frag) (B0 H0 N H : Hp) (σ : St) (ρ : Env) : Prop where
  bh : Same B0 H0
  tb : Tb K B0
  ext : Ext B0 N H0 H
  len : ρ.length = σ.length
  sh : ∀ (i : Nat) (d : D), ρ[i]? = some (some (d, false)) → ∃ v, σ[i]? = some (some v) ∧ Is K (cut N (own σ ρ)) v d
  ow : ∀ (i : Nat) (d : D), ρ[i]? = some (some (d, true)) → ∃ (a : Addr) (o : HO), σ[i]? = some (some (V.ref a)) ∧ N a = some o ∧ H0 a = none ∧ Bx K (cut N (own σ ρ)) o d
  inj : ∀ (i j : Nat) (a : Addr) (d e : D), ρ[i]? = some (some (d, true)) → ρ[j]? = some (some (e, true)) → σ[i]? = some (some (V.ref a)) → σ[j]? = some (some (V.ref a)) → i = j
def StOk (K : PySem.W.Frag) (B0 H0 H : Hp) (σ : St) (ρ : Env) : Prop := ∃ N, StN K B0 H0 N H σ ρ
section
variable {K : PySem.W.Frag} {B0 H0 N H H' : Hp} {σ : St} {ρ : Env}
theorem StN.owL (s : StN K B0 H0 N H σ ρ) (i : Nat) (d : D) {es : List D} (q : ρ[i]? = some (some (.lst es, true))) (hd : d = .lst es := by rfl) : ∃ (a : Addr) (vs : List V) (ds : List D), d = .lst ds ∧ σ[i]? = some (some (V.ref a)) ∧ N a = some (.lst vs) ∧ H0 a = none ∧ IsL K (cut N (own σ ρ)) vs ds := by
  obtain ⟨a, o, h1, h2, h3, h4⟩ := s.ow i _ q
  cases h4 with
  | lst h4 => exact ⟨a, _, es, hd, h1, h2, h3, h4⟩
def boxed : HO → Prop
  | .lst _ | .dK _ | .dT _ => True
  | _ => False
theorem Bx.boxed {C : Hp} {o : HO} {d : D} (h : Bx K C o d) : boxed o := by cases h <;> exact trivial
theorem StN.owned (s : StN K B0 H0 N H σ ρ) {a : Addr} (h : own σ ρ a) : ∃ o, (N a = some o ∧ boxed o) ∧ H0 a = none := by
  obtain ⟨i, d, h1, h2⟩ := h
  obtain ⟨a', o, h3, h4, h5, h6⟩ := s.ow i d h1
  rw [h2] at h3; cases h3
  exact ⟨o, ⟨h4, h6.boxed⟩, h5⟩
theorem StN.rep (s : StN K B0 H0 N H σ ρ) : RepE K N σ ρ := ⟨s.tb.mono s.ext.bn, fun i d b q => by
  cases b with
  | false => obtain ⟨v, h1, h2⟩ := s.sh i d q; exact ⟨v, h1, h2.mono cut_same⟩
  | true =>
    obtain ⟨a, o, h2, h3, _, h4⟩ := s.ow i d q
    exact ⟨_, h2, (h4.mono cut_same).is h3⟩⟩
def hide (ρ : Env) : Env := ρ.map fun x => match x with | some (d, false) => some (d, false) | _ => none
theorem hide_get {i : Nat} {d : D} {b : Bool} (h : (hide ρ)[i]? = some (some (d, b))) : b = false ∧ ρ[i]? = some (some (d, false)) := by
  unfold hide at h
  rw [List.getElem?_map] at h
  cases e : ρ[i]? with
  | none => rw [e] at h; cases h
  | some x =>
    rw [e] at h
    match x, h with
    | some (d', false), h => cases h; exact ⟨rfl, rfl⟩
    | some (d', true), h => cases h
    | none, h => cases h
theorem StN.tbC (s : StN K B0 H0 N H σ ρ) : Tb K (cut N (own σ ρ)) := fun x hx c P q => by
  have z := s.tb.mono s.ext.bn x hx c P q
  rw [cut_of]
  · exact z
  · intro y
    obtain ⟨o, ⟨y, yb⟩, _⟩ := s.owned y
    rw [z] at y; cases y; exact yb
theorem StN.repH (s : StN K B0 H0 N H σ ρ) : RepE K (cut N (own σ ρ)) σ (hide ρ) := ⟨s.tbC, fun i d b q => by
  obtain ⟨rfl, q2⟩ := hide_get q
  exact s.sh i d q2⟩
theorem StN.grow (s : StN K B0 H0 N H σ ρ) {N' : Hp} (x : Ext N N' H H') : StN K B0 H0 N' H' σ ρ := by
  have c : Same (cut N (own σ ρ)) (cut N' (own σ ρ)) := cut_mono fun a o e q => ⟨x.bn a o e, q⟩
  refine ⟨s.bh, s.tb, s.ext.trans x, s.len, fun i d q => ?_, fun i d q => ?_, s.inj⟩
  · obtain ⟨v, h1, h2⟩ := s.sh i d q; exact ⟨v, h1, h2.mono c⟩
  · obtain ⟨a, o, h2, h3, h4, h5⟩ := s.ow i d q
    exact ⟨a, o, h2, x.bn _ _ h3, h4, h5.mono c⟩
theorem StN.growH (s : StN K B0 H0 N H σ ρ) {N' : Hp} (x : Ext (cut N (own σ ρ)) N' H H') : StN K B0 H0 (join N N') H' σ ρ ∧ Same N' (cut (join N N') (own σ ρ)) := by
  have x' : Ext N (join N N') H H' := by
    refine ⟨x.hh, join_l, fun a o e => ?_, fun a o e => ?_⟩
    · cases q : N a with
      | some u =>
        have : join N N' a = some u := join_l _ _ q
        rw [this] at e; cases e
        exact x.hh _ _ (s.ext.nh _ _ q)
      | none => rw [join_none q] at e; exact x.nh _ _ e
    · cases q : N a with
      | some u =>
        have : join N N' a = some u := join_l _ _ q
        rw [this] at e; cases e
        exact .inl rfl
      | none =>
        rw [join_none q] at e
        rcases x.new a o e with z | z
        · have := cut_same _ _ z; rw [q] at this; cases this
        · exact .inr z
  refine ⟨s.grow x', fun a o e => ?_⟩
  rcases x.new a o e with z | z
  · obtain ⟨z1, z2⟩ := cut_some z
    rw [cut_of z1]; exact join_l _ _ z2
  · have hN : N a = none := s.ext.nh.free z
    have : ¬ own σ ρ a := fun q => by obtain ⟨vs, ⟨q, _⟩, _⟩ := s.owned q; rw [hN] at q; cases q
    rw [cut_of this, join_none hN]; exact e
def unown (ρ : Env) : Env := ρ.map fun x => x.map fun y => (y.1, false)
theorem unown_get {i : Nat} {d : D} {b : Bool} (h : (unown ρ)[i]? = some (some (d, b))) : b = false ∧ ∃ c, ρ[i]? = some (some (d, c)) := by
  unfold unown at h
  rw [List.getElem?_map] at h
  cases e : ρ[i]? with
  | none => rw [e] at h; cases h
  | some x =>
    rw [e] at h
    match x, h with
    | some (d', c), h => cases h; exact ⟨rfl, c, rfl⟩
    | none, h => cases h
theorem own_unown {a : Addr} : ¬ own σ (unown ρ) a := fun ⟨i, d, h, _⟩ => by
  obtain ⟨z, _⟩ := unown_get h; cases z
theorem StN.unown (s : StN K B0 H0 N H σ ρ) : StN K B0 H0 N H σ (unown ρ) := by
  refine ⟨s.bh, s.tb, s.ext, by unfold DL.unown; rw [List.length_map]; exact s.len, fun i d q => ?_, fun i d q => ?_, fun i j a d e q => ?_⟩
  · obtain ⟨_, c, q⟩ := unown_get q
    obtain ⟨v, h1, h2⟩ := s.rep.at' i d c q
    exact ⟨v, h1, h2.mono fun a o e => by rw [cut_of own_unown]; exact e⟩
  · obtain ⟨z, _⟩ := unown_get q; cases z
  · obtain ⟨z, _⟩ := unown_get q; cases z
theorem set_get {α : Type} {l : List α} {i j : Nat} {x y : α} (h : (l.set i x)[j]? = some y) : (i = j ∧ x = y) ∨ (i ≠ j ∧ l[j]? = some y) := by
  by_cases e : i = j
  · subst e
    rw [List.getElem?_set] at h
    split at h
    · split at h
      · exact .inl ⟨rfl, Option.some.inj h⟩
      · cases h
    · contradiction
  · rw [List.getElem?_set_ne e] at h; exact .inr ⟨e, h⟩
theorem lt_of_set {α β : Type} {l : List α} {m : List β} {i : Nat} {x y : α} (h : (l.set i x)[i]? = some y) (e : l.length = m.length) : i < m.length := by
  obtain ⟨h, _⟩ := List.getElem?_eq_some_iff.mp h
  rw [List.length_set] at h; omega
theorem own_set {i : Nat} {v : V} {x : Option (D × Bool)} {a : Addr} (h : own (σ.set i (some v)) (ρ.set i x) a) : (v = .ref a ∧ ∃ d, x = some (d, true)) ∨ ∃ j, j ≠ i ∧ ∃ d, ρ[j]? = some (some (d, true)) ∧ σ[j]? = some (some (V.ref a)) := by
  obtain ⟨j, d, h1, h2⟩ := h
  rcases set_get h1 with ⟨e, q⟩ | ⟨e, q⟩
  · rcases set_get h2 with ⟨e2, q2⟩ | ⟨e2, q2⟩
    · cases q2; exact .inl ⟨rfl, d, q⟩
    · exact absurd e e2
  · rcases set_get h2 with ⟨e2, q2⟩ | ⟨e2, q2⟩
    · exact absurd e2 e
    · exact .inr ⟨j, fun z => e z.symm, d, q, q2⟩
theorem StN.bind (s : StN K B0 H0 N H σ ρ) {i : Nat} {v : V} {d : D} (h : Is K (cut N (own σ ρ)) v d) : StN K B0 H0 N H (σ.set i (some v)) (ρ.set i (some (d, false))) := by
  have o : ∀ a, own (σ.set i (some v)) (ρ.set i (some (d, false))) a → own σ ρ a := fun a q => by
    rcases own_set q with ⟨_, d', p⟩ | ⟨j, _, d', q1, q2⟩
    · cases p
    · exact ⟨j, d', q1, q2⟩
  have c : Same (cut N (own σ ρ)) (cut N (own (σ.set i (some v)) (ρ.set i (some (d, false))))) := cut_mono fun a u e q => ⟨e, fun z => q (o a z)⟩
  refine ⟨s.bh, s.tb, s.ext, by simp [s.len], fun j e q => ?_, fun j e q => ?_, fun j k a e f q q' h1 h2 => ?_⟩
  · rcases set_get q with ⟨rfl, p⟩ | ⟨ne, p⟩
    · cases p
      have hi := lt_of_set q s.len
      exact ⟨v, by simp [hi], h.mono c⟩
    · obtain ⟨w, h1, h2⟩ := s.sh j e p
      exact ⟨w, by rw [List.getElem?_set_ne ne]; exact h1, h2.mono c⟩
  · rcases set_get q with ⟨rfl, p⟩ | ⟨ne, p⟩
    · cases p
    · obtain ⟨a, o, h1, h2, h3, h4⟩ := s.ow j e p
      exact ⟨a, o, by rw [List.getElem?_set_ne ne]; exact h1, h2, h3, h4.mono c⟩
  · rcases set_get q with ⟨rfl, p⟩ | ⟨ne, p⟩
    · cases p
    · rcases set_get q' with ⟨rfl, p'⟩ | ⟨ne', p'⟩
      · cases p'
      · rw [List.getElem?_set_ne ne] at h1
        rw [List.getElem?_set_ne ne'] at h2
        exact s.inj j k a e f p p' h1 h2
theorem StN.bindOwn (s : StN K B0 H0 N H σ ρ) {i : Nat} {a : Addr} {ob : HO} {dd : D} (hN : N a = some ob) (h0 : H0 a = none) (hno : ∀ (j : Nat) (d : D), ρ[j]? = some (some (d, true)) → σ[j]? ≠ some (some (V.ref a)))
    (hsh : ∀ (j : Nat) (d : D), j ≠ i → ρ[j]? = some (some (d, false)) → ∃ v, σ[j]? = some (some v) ∧ Is K (cut N (fun b => own σ ρ b ∨ b = a)) v d) (how : ∀ (j : Nat) (d : D), j ≠ i → ρ[j]? = some (some (d, true)) → ∃ (a' : Addr) (o : HO), σ[j]? = some (some (V.ref a')) ∧ N a' = some o ∧ Bx K (cut N (fun b => own σ ρ b ∨ b = a)) o d)
    (hds : Bx K (cut N (fun b => own σ ρ b ∨ b = a)) ob dd) : StN K B0 H0 N H (σ.set i (some (.ref a))) (ρ.set i (some (dd, true))) := by
  have o : ∀ b, own (σ.set i (some (V.ref a))) (ρ.set i (some (dd, true))) b → own σ ρ b ∨ b = a := fun b q => by
    rcases own_set q with ⟨p, _⟩ | ⟨j, _, d', q1, q2⟩
    · cases p; exact .inr rfl
    · exact .inl ⟨j, d', q1, q2⟩
  have c : Same (cut N (fun b => own σ ρ b ∨ b = a)) (cut N (own (σ.set i (some (V.ref a))) (ρ.set i (some (dd, true))))) := cut_mono fun b u e q => ⟨e, fun z => q (o b z)⟩
  refine ⟨s.bh, s.tb, s.ext, by simp [s.len], fun j e q => ?_, fun j e q => ?_, fun j k b e f q q' h1 h2 => ?_⟩
  · rcases set_get q with ⟨rfl, p⟩ | ⟨ne, p⟩
    · cases p
    · obtain ⟨w, h1, h2⟩ := hsh j e (Ne.symm ne) p
      exact ⟨w, by rw [List.getElem?_set_ne ne]; exact h1, h2.mono c⟩
  · rcases set_get q with ⟨rfl, p⟩ | ⟨ne, p⟩
    · cases p
      have hi := lt_of_set q s.len
      exact ⟨a, ob, by simp [hi], hN, h0, hds.mono c⟩
    · obtain ⟨a', o', h1, h2, h4⟩ := how j e (Ne.symm ne) p
      have h3 : H0 a' = none := by
        obtain ⟨a2, _, k1, _, k3, _⟩ := s.ow j e p
        rw [h1] at k1; cases k1; exact k3
      exact ⟨a', o', by rw [List.getElem?_set_ne ne]; exact h1, h2, h3, h4.mono c⟩
  · rcases set_get q with ⟨rfl, p⟩ | ⟨ne, p⟩
    · rcases set_get q' with ⟨rfl, p'⟩ | ⟨ne', p'⟩
      · rfl
      · rw [List.getElem?_set_ne ne'] at h2
        have h1' : V.ref a = V.ref b := by
          rcases set_get h1 with ⟨_, z⟩ | ⟨z, _⟩
          · exact Option.some.inj z
          · exact absurd rfl z
        cases h1'
        exact absurd h2 (hno k f p')
    · rcases set_get q' with ⟨rfl, p'⟩ | ⟨ne', p'⟩
      · rw [List.getElem?_set_ne ne] at h1
        have h2' : V.ref a = V.ref b := by
          rcases set_get h2 with ⟨_, z⟩ | ⟨z, _⟩
          · exact Option.some.inj z
          · exact absurd rfl z
        cases h2'
        exact absurd h1 (hno j e p)
      · rw [List.getElem?_set_ne ne] at h1
        rw [List.getElem?_set_ne ne'] at h2
        exact s.inj j k b e f p p' h1 h2
end
inductive Res where
  | nx (ρ : Env) | rt (d : D) (b : Bool) | bk (ρ : Env) | ct (ρ : Env)
abbrev FS := Env → Option Res
def Post (K : PySem.W.Frag) (B0 H0 : Hp) (E : Ends) : Res → Prop
  | .nx ρ => ∀ σ H, StOk K B0 H0 H σ ρ → E.nx σ H
  | .rt d b => ∀ v H N, Ext B0 N H0 H → Is K N v d → (b = true → Fsh K H0 N v d) → E.rt v H
  | .bk ρ => ∀ σ H, StOk K B0 H0 H σ ρ → E.bk σ H
  | .ct ρ => ∀ σ H, StOk K B0 H0 H σ ρ → E.ct σ H
def tDS (K : PySem.W.Frag) (g : FS) : TS := fun E σ H => ∃ (B0 H0 : Hp) (ρ : Env) (r : Res), StOk K B0 H0 H σ ρ ∧ g ρ = some r ∧ Post K B0 H0 E r
section
variable {K : PySem.W.Frag} {B0 H0 N H H' : Hp} {σ : St} {ρ : Env} {E : Ends}
theorem StN.writeB (s : StN K B0 H0 N H σ ρ) {i : Nat} {d dd : D} {a : Addr} {ob : HO} (hi : ρ[i]? = some (some (d, true))) (hσ : σ[i]? = some (some (V.ref a))) (h : Bx K (cut N (own σ ρ)) ob dd) :
    StN K B0 H0 (upd N a ob) (upd H a ob) σ (ρ.set i (some (dd, true))) := by
  have oa : own σ ρ a := ⟨i, d, hi, hσ⟩
  obtain ⟨ws, hw, h0⟩ := s.owned oa
  have b0 : B0 a = none := s.bh.free h0
  have o : ∀ b, own σ (ρ.set i (some (dd, true))) b ↔ own σ ρ b := fun b => by
    constructor
    · rintro ⟨j, e, q1, q2⟩
      rcases set_get q1 with ⟨rfl, p⟩ | ⟨_, p⟩
      · exact ⟨i, d, hi, q2⟩
      · exact ⟨j, e, p, q2⟩
    · rintro ⟨j, e, q1, q2⟩
      by_cases z : i = j
      · subst z
        exact ⟨i, dd, by rw [List.getElem?_set_self (List.getElem?_eq_some_iff.mp hi).1], q2⟩
      · exact ⟨j, e, by rw [List.getElem?_set_ne z]; exact q1, q2⟩
  have c : Same (cut N (own σ ρ)) (cut (upd N a ob) (own σ (ρ.set i (some (dd, true))))) := cut_mono fun b u e q => by
    have ne : b ≠ a := fun z => q (z ▸ oa)
    exact ⟨by rw [upd_ne ne]; exact e, fun z => q ((o b).mp z)⟩
  refine ⟨s.bh, s.tb, ⟨fun b u e => ?_, fun b u e => ?_, fun b u e => ?_, fun b u e => ?_⟩, by rw [List.length_set]; exact s.len, fun j e q => ?_, fun j e q => ?_, fun j k b e f q q' h1 h2 => ?_⟩
  · rw [upd_ne (fun z => by subst z; rw [h0] at e; cases e)]; exact s.ext.hh _ _ e
  · rw [upd_ne (fun z => by subst z; rw [b0] at e; cases e)]; exact s.ext.bn _ _ e
  · by_cases z : b = a
    · subst z; rw [upd_same] at e ⊢; exact e
    · rw [upd_ne z] at e ⊢; exact s.ext.nh _ _ e
  · by_cases z : b = a
    · subst z; exact .inr h0
    · rw [upd_ne z] at e; exact s.ext.new _ _ e
  · rcases set_get q with ⟨rfl, p⟩ | ⟨ne, p⟩
    · cases p
    · obtain ⟨v, h1, h2⟩ := s.sh j e p
      exact ⟨v, h1, h2.mono c⟩
  · rcases set_get q with ⟨rfl, p⟩ | ⟨ne, p⟩
    · cases p
      exact ⟨a, ob, hσ, upd_same, h0, h.mono c⟩
    · obtain ⟨a', o', h1, h2, h3, h4⟩ := s.ow j e p
      have na : a' ≠ a := fun z => by subst z; exact ne (s.inj i j _ d e hi p hσ h1)
      exact ⟨a', o', h1, by rw [upd_ne na]; exact h2, h3, h4.mono c⟩
  · have get : ∀ {j : Nat} {e : D}, (ρ.set i (some (dd, true)))[j]? = some (some (e, true)) → ∃ e', ρ[j]? = some (some (e', true)) := fun {j e} q => by
      rcases set_get q with ⟨rfl, p⟩ | ⟨ne, p⟩
      · exact ⟨d, hi⟩
      · exact ⟨e, p⟩
    obtain ⟨e', q1⟩ := get q
    obtain ⟨f', q2⟩ := get q'
    exact s.inj j k b e' f' q1 q2 h1 h2
theorem StN.write (s : StN K B0 H0 N H σ ρ) {i : Nat} {d : D} {a : Addr} {vs : List V} {ds : List D} (hi : ρ[i]? = some (some (d, true))) (hσ : σ[i]? = some (some (V.ref a))) (h : IsL K (cut N (own σ ρ)) vs ds) :
    StN K B0 H0 (upd N a (.lst vs)) (upd H a (.lst vs)) σ (ρ.set i (some (.lst ds, true))) := s.writeB hi hσ (.lst h)
theorem StN.tups (s : StN K B0 H0 N H σ ρ) : ∀ a vs, SqT K N a vs → SqT K (cut N (own σ ρ)) a vs := fun a vs h => by
  have key : ∀ u, N a = some u → ¬ boxed u → cut N (own σ ρ) a = some u := fun u e hu => by
    rw [cut_of fun z => ?_]; exact e
    obtain ⟨ws, ⟨q, qb⟩, _⟩ := s.owned z
    rw [e] at q; cases q; exact hu qb
  rcases h with (h | ⟨o, h⟩) | h
  · exact .inl (.inl (key _ h (fun q => q)))
  · exact .inl (.inr ⟨o, key _ h (fun q => q)⟩)
  · exact .inr h
theorem StN.flat (s : StN K B0 H0 N H σ ρ) {v : V} {d : D} (h : Is K N v d) (n : noLst d = true) : Is K (cut N (own σ ρ)) v d := h.keepT s.tups n
theorem StN.flats (s : StN K B0 H0 N H σ ρ) {v : List V} {d : List D} (h : IsL K N v d) (n : noLsts d = true) : IsL K (cut N (own σ ρ)) v d := h.keepT s.tups n
theorem StN.rebase (s : StN K B0 H0 N H σ ρ) : StN K (cut N (own σ ρ)) (cut H (own σ ρ)) N H σ ρ :=
  ⟨cut_mono fun a o e q => ⟨s.ext.nh _ _ e, q⟩, s.tbC, ⟨cut_same, cut_same, s.ext.nh, fun a o e => by
    by_cases q : own σ ρ a
    · exact .inr (cut_in q)
    · exact .inl (by rw [cut_of q]; exact e)⟩, s.len, s.sh, fun i d q => by
      obtain ⟨a, o, h1, h2, _, h4⟩ := s.ow i d q
      exact ⟨a, o, h1, h2, cut_in ⟨i, d, q, h1⟩, h4⟩, s.inj⟩
theorem StN.unbase (s : StN K B0 H0 N H σ ρ) {N' H' : Hp} {σ' : St} {ρ' : Env} (t : StN K (cut N (own σ ρ)) (cut H (own σ ρ)) N' H' σ' ρ') : StN K B0 H0 N' H' σ' ρ' := by
  have h0 : Same H0 (cut H (own σ ρ)) := fun a o e => by
    rw [cut_of fun z => ?_]; exact s.ext.hh _ _ e
    obtain ⟨_, _, q⟩ := s.owned z
    rw [q] at e; cases e
  have b0 : Same B0 (cut N (own σ ρ)) := fun a o e => by
    rw [cut_of fun z => ?_]; exact s.ext.bn _ _ e
    obtain ⟨_, _, q⟩ := s.owned z
    rw [s.bh _ _ e] at q; cases q
  refine ⟨s.bh, s.tb, ⟨h0.trans t.ext.hh, b0.trans t.ext.bn, t.ext.nh, fun a o e => ?_⟩, t.len, t.sh, fun i d q => ?_, t.inj⟩
  · rcases t.ext.new a o e with z | z
    · exact s.ext.new a o (cut_same _ _ z)
    · exact .inr (h0.free z)
  · obtain ⟨a, o, h1, h2, h3, h4⟩ := t.ow i d q
    exact ⟨a, o, h1, h2, h0.free h3, h4⟩
theorem StN.based (t : StN K B0 H0 N H σ ρ) : Same B0 (cut N (own σ ρ)) := fun a o e => by
  rw [cut_of fun z => ?_]; exact t.ext.bn _ _ e
  obtain ⟨_, _, q⟩ := t.owned z
  rw [t.bh _ _ e] at q; cases q
@[simp] def gSeq (g h : FS) : FS := fun ρ => match g ρ with | some (.nx ρ') => h ρ' | r => r
@[simp] def gNext : FS := fun ρ => some (.nx ρ)
@[simp] def gIf (c : FT) (g h : FS) : FS := fun ρ => match c ρ with | some true => g ρ | some false => h ρ | none => none
@[simp] def gRet (f : FE) : FS := fun ρ => (f ρ).map fun x => .rt x.1 x.2
@[simp] def gRetN : FS := fun _ => some (.rt .non false)
@[simp] def gDrop (f : FE) : FS := fun ρ => (f ρ).map fun _ => .nx ρ
@[simp] def isBox : D → Bool
  | .dk _ _ => true
  | .dt _ _ => true
  | _ => false
@[simp] def gRetV (i : Nat) : FS := fun ρ => match ρ[i]? with | some (some (d, b)) => some (.rt d (b && !isBox d)) | _ => none
@[simp] def flatL : D → Bool
  | .lst ds => noLsts ds
  | _ => false
@[simp] def setE (ρ : Env) (i : Nat) (d : D) (b : Bool) : Env :=
  if noLst d = true then ρ.set i (some (d, false)) else if b = true ∧ flatL d = true then ρ.set i (some (d, true)) else (unown ρ).set i (some (d, false))
@[simp] def gSet (i : Nat) (f : FE) : FS := fun ρ => (f ρ).map fun x => .nx (setE ρ i x.1 x.2)
@[simp] def gSetH (i : Nat) (f : FE) : FS := fun ρ => (f (hide ρ)).map fun x => .nx (ρ.set i (some (x.1, false)))
@[simp] def gApp (i : Nat) (f : FE) : FS := fun ρ => match ρ[i]? with
  | some (some (.lst ds, true)) => (f ρ).bind fun x => if noLst x.1 = true ∧ ds.length < sizeLine then some (.nx (ρ.set i (some (.lst (ds ++ [x.1]), true)))) else none
  | _ => none
theorem tDS_seq {g h : FS} (q : tDS K (gSeq g h) E σ H) : tSeq (tDS K g) (tDS K h) E σ H := by
  obtain ⟨B0, H0, ρ, r, s, e, p⟩ := q
  unfold gSeq at e
  cases eg : g ρ with
  | none => rw [eg] at e; cases e
  | some r1 =>
    rw [eg] at e
    cases r1 with
    | nx ρ' => exact ⟨B0, H0, ρ, .nx ρ', s, eg, fun σ' H' s' => ⟨B0, H0, ρ', r, s', e, p⟩⟩
    | rt d b => cases e; exact ⟨B0, H0, ρ, _, s, eg, p⟩
    | bk ρ' => cases e; exact ⟨B0, H0, ρ, _, s, eg, p⟩
    | ct ρ' => cases e; exact ⟨B0, H0, ρ, _, s, eg, p⟩
theorem tDS_next (q : tDS K gNext E σ H) : tNext E σ H := by
  obtain ⟨B0, H0, ρ, r, s, e, p⟩ := q
  cases e
  exact p σ H s
theorem StOk.grown {H' : Hp} (s : StN K B0 H0 N H σ ρ) (h : Same H H') : StOk K B0 H0 H' σ ρ := ⟨N, s.grow (.grow s.ext.nh h)⟩
theorem tDS_if {c : FT} {g h : FS} (q : tDS K (gIf c g h) E σ H) : tIfS (tDT K c) (tDS K g) (tDS K h) E σ H := by
  obtain ⟨B0, H0, ρ, r, ⟨N, s⟩, e, p⟩ := q
  unfold gIf at e
  cases ec : c ρ with
  | none => rw [ec] at e; cases e
  | some b =>
    rw [ec] at e
    refine ⟨N, ρ, b, s.ext.nh, s.rep, ec, fun H1 h1 => ?_⟩
    cases b with
    | true => rw [if_pos rfl]; exact ⟨B0, H0, ρ, r, .grown s h1, e, p⟩
    | false => rw [if_neg (by decide)]; exact ⟨B0, H0, ρ, r, .grown s h1, e, p⟩
theorem tDS_ret {f : FE} (q : tDS K (gRet f) E σ H) : tRet (tD K f) E σ H := by
  obtain ⟨B0, H0, ρ, r, ⟨N, s⟩, e, p⟩ := q
  obtain ⟨x, ex, e⟩ := Option.map_eq_some_iff.mp e
  subst e
  exact ⟨N, ρ, x.1, x.2, s.ext.nh, s.rep, ex, fun v H1 N1 x1 i1 f1 => p v H1 N1 (s.ext.trans x1) i1 fun b => (f1 b).back s.ext.hh⟩
theorem tDS_retV {i : Nat} (q : tDS K (gRetV i) E σ H) : tRet (tVar i) E σ H := by
  obtain ⟨B0, H0, ρ, r, ⟨N, s⟩, e, p⟩ := q
  unfold gRetV at e
  split at e
  · rename_i d b ei
    cases e
    cases b with
    | false =>
      obtain ⟨v, h1, h2⟩ := s.sh i d ei
      exact ⟨v, h1, p v H N s.ext (h2.mono cut_same) (by simp)⟩
    | true =>
      obtain ⟨a, o, h1, h2, h3, h4⟩ := s.ow i d ei
      cases h4 with
      | lst h4 => exact ⟨_, h1, p _ H N s.ext (.lst (SqL.of h2) (h4.mono cut_same)) fun _ => ⟨a, _, _, rfl, rfl, h3, h2, h4.mono cut_same⟩⟩
      | dk hl h4 => exact ⟨_, h1, p _ H N s.ext (.dk h2 hl (h4.mono cut_same)) (by simp)⟩
      | dt hl h4 => exact ⟨_, h1, p _ H N s.ext (.dt h2 hl (h4.mono cut_same)) (by simp)⟩
  · cases e
theorem StN.setE (s : StN K B0 H0 N H σ ρ) {i : Nat} {v : V} {d : D} {b : Bool} {N1 H1 : Hp} (x : Ext N N1 H H1) (h : Is K N1 v d) (f : b = true → Fsh K H N1 v d) : StN K B0 H0 N1 H1 (σ.set i (some v)) (setE ρ i d b) := by
  have s1 := s.grow x
  unfold DL.setE
  by_cases hn : noLst d = true
  · rw [if_pos hn]
    exact s1.bind (s1.flat h hn)
  · rw [if_neg hn]
    by_cases hb : b = true ∧ flatL d = true
    · rw [if_pos hb]
      obtain ⟨a, vs, ds, rfl, rfl, ha, hN, hs⟩ := f hb.1
      have hNa : N a = none := s.ext.nh.free ha
      have hoa : ¬ own σ ρ a := fun z => by obtain ⟨ws, ⟨q, _⟩, _⟩ := s.owned z; rw [hNa] at q; cases q
      have c : Same (cut N (own σ ρ)) (cut N1 (fun b => own σ ρ b ∨ b = a)) := cut_mono fun b u e q => ⟨x.bn _ _ e, fun z => z.elim q fun z => by subst z; rw [hNa] at e; cases e⟩
      refine s1.bindOwn hN (s.ext.hh.free ha) (fun j e q z => hoa ⟨j, e, q, z⟩) (fun j e _ q => ?_) (fun j e _ q => ?_) (.lst (hs.keepT (fun t ts st => ?_) hb.2))
      · obtain ⟨w, h1, h2⟩ := s.sh j e q; exact ⟨w, h1, h2.mono c⟩
      · obtain ⟨a', o', h1, h2, _, h4⟩ := s.ow j e q
        exact ⟨a', o', h1, x.bn _ _ h2, h4.mono c⟩
      · have key : ∀ u, N1 t = some u → ¬ boxed u → cut N1 (fun b => own σ ρ b ∨ b = a) t = some u := fun u e hu => by
          rw [cut_of fun z => ?_]; exact e
          rcases z with z | z
          · obtain ⟨ws, ⟨q, qb⟩, _⟩ := s1.owned z
            rw [e] at q; cases q; exact hu qb
          · subst z; rw [e] at hN; cases hN; exact hu trivial
        rcases st with (st | ⟨o, st⟩) | st
        · exact .inl (.inl (key _ st (fun q => q)))
        · exact .inl (.inr ⟨o, key _ st (fun q => q)⟩)
        · exact .inr st
    · rw [if_neg hb]
      exact s1.unown.bind (h.mono fun a o e => by rw [cut_of own_unown]; exact e)
theorem tDS_set {i : Nat} {f : FE} (q : tDS K (gSet i f) E σ H) : tAsg (tD K f) (gName i) E σ H := by
  obtain ⟨B0, H0, ρ, r, ⟨N, s⟩, e, p⟩ := q
  obtain ⟨x, ex, e⟩ := Option.map_eq_some_iff.mp e
  subst e
  exact ⟨N, ρ, x.1, x.2, s.ext.nh, s.rep, ex, fun v H1 N1 x1 i1 f1 => p _ H1 ⟨N1, s.setE x1 i1 f1⟩⟩
theorem tDS_app {i : Nat} {f : FE} (q : tDS K (gApp i f) E σ H) : ∃ (a : Addr) (us : List V), σ[i]? = some (some (V.ref a)) ∧ H a = some (.lst us) ∧ tCons (tD K f) tNil σ H fun xs H2 => rAppend (.ref a) xs H2 fun _ H3 => E.nx σ H3 := by
  obtain ⟨B0, H0, ρ, r, ⟨N, s⟩, e, p⟩ := q
  unfold gApp at e
  split at e
  · rename_i ds ei
    obtain ⟨x, ex, e⟩ := Option.bind_eq_some_iff.mp e
    split at e
    · rename_i hx
      cases e
      obtain ⟨a, vs, ds', z, h1, h2, h3, h4⟩ := s.owL i _ ei
      cases z
      refine ⟨a, vs, h1, s.ext.nh _ _ h2, N, ρ, x.1, x.2, s.ext.nh, s.rep, ex, fun v H1 N1 x1 i1 f1 => ⟨a, vs, v, rfl, rfl, x1.hh _ _ (s.ext.nh _ _ h2), by rw [h4.length]; exact hx.2, ?_⟩⟩
      have s1 := s.grow x1
      obtain ⟨a', vs', ds', z, k1, k2, _, k4⟩ := s1.owL i _ ei
      cases z
      rw [h1] at k1; cases k1
      rw [x1.bn _ _ h2] at k2; cases k2
      exact p σ _ ⟨_, s1.write ei h1 (k4.append (.cons (s1.flat i1 hx.1) .nil))⟩
    · cases e
  · cases e
end
def whileF (c : FT) (g : FS) : Nat → Env → Option Res
  | 0, _ => none
  | n + 1, ρ => match c ρ with
    | some true => match g ρ with
      | some (.nx ρ') => whileF c g n ρ'
      | some (.ct ρ') => whileF c g n ρ'
      | some (.bk ρ') => some (.nx ρ')
      | r => r
    | some false => some (.nx ρ)
    | none => none
def ItOk (K : PySem.W.Frag) (J : It) (B : Hp) (ds : List D) : Prop := ∀ (i : Nat) (H : Hp), Same B H →
  (∀ d, ds[i]? = some d → J.go i H ∧ ∀ x H', J.yld i H x H' → ∃ N, Ext B N H H' ∧ Is K N x d) ∧ (ds.length ≤ i → J.stop i H)
def tDI (K : PySem.W.Frag) (f : FA) : TI := fun σ H R => ∃ (B : Hp) (ρ : Env) (ds : List D), Same B H ∧ RepE K B σ ρ ∧ f ρ = some ds ∧ ∀ (J : It) (H' N : Hp), Ext B N H H' → ItOk K J N ds → R J H'
abbrev FG := D → Env → Option Env
def tDG (K : PySem.W.Frag) (tg : FG) (g : TG) : Prop := ∀ (B0 H0 N H : Hp) (σ : St) (ρ ρ' : Env) (v : V) (d : D) (Q : St → Hp → Prop), StN K B0 H0 N H σ ρ → Is K (cut N (own σ ρ)) v d → tg d ρ = some ρ' →
  (∀ σ' H', StOk K B0 H0 H' σ' ρ' → Q σ' H') → g v σ H Q
@[simp] def tgN (i : Nat) : FG := fun d ρ => some (ρ.set i (some (d, false)))
theorem tDG_name {K : PySem.W.Frag} {i : Nat} : tDG K (tgN i) (gName i) := by
  intro B0 H0 N H σ ρ ρ' v d Q s h e k
  cases e
  exact k _ H ⟨N, s.bind h⟩
def forL (tg : FG) (g : FS) : List D → Env → Option Res
  | [], ρ => some (.nx ρ)
  | d :: ds, ρ => (tg d ρ).bind fun ρ1 => match g ρ1 with
    | some (.nx ρ') => forL tg g ds ρ'
    | some (.ct ρ') => forL tg g ds ρ'
    | some (.bk ρ') => some (.nx ρ')
    | r => r
@[simp] theorem forL_nil (tg : FG) (g : FS) (ρ : Env) : forL tg g [] ρ = some (.nx ρ) := by rw [forL]
@[simp] theorem forL_cons (tg : FG) (g : FS) (d : D) (ds : List D) (ρ : Env) : forL tg g (d :: ds) ρ = (tg d ρ).bind fun ρ1 => match g ρ1 with
    | some (.nx ρ') => forL tg g ds ρ'
    | some (.ct ρ') => forL tg g ds ρ'
    | some (.bk ρ') => some (.nx ρ')
    | r => r := by rw [forL]
@[simp] def gFor (f : FA) (tg : FG) (g : FS) : FS := fun ρ => (f (hide ρ)).bind fun ds => forL tg g ds ρ
theorem for_core {K : PySem.W.Frag} {tg : FG} {t : TG} {g : FS} {E : Ends} {σ : St} {H1 B0 H0 N N1 : Hp} {ρ : Env} {r : Res} {J : It} {ds : List D} (ht : tDG K tg t) (s1 : StN K B0 H0 N H1 σ ρ) (c : Same N1 (cut N (own σ ρ))) (J1 : ItOk K J N1 ds) (e : forL tg g ds ρ = some r) (p : Post K B0 H0 E r) :
    ∃ W : Nat → Nat → St → Hp → Prop, (∃ m, W 0 m σ H1) ∧ ∀ i m σ H, W i m σ H → (J.stop i H ∧ E.nx σ H) ∨ (J.go i H ∧ ∃ N : St → Hp → Prop, (∀ σ' H', N σ' H' → ∃ m', m' < m ∧ W (i + 1) m' σ' H') ∧ ∀ x H', J.yld i H x H' → t x σ H' fun σ2 H2 => tDS K g { E with nx := N, ct := N, bk := E.nx } σ2 H2) := by
  refine ⟨fun i m σ H => ∃ (N : Hp) (ρ : Env), StN K B0 H0 N H σ ρ ∧ Same N1 (cut N (own σ ρ)) ∧ m = ds.length - i ∧ i ≤ ds.length ∧ forL tg g (ds.drop i) ρ = some r, ⟨ds.length, _, ρ, s1, c, rfl, Nat.zero_le _, e⟩, ?_⟩
  clear e s1 c
  rintro i m σ H ⟨N, ρ, s, c, rfl, hi, e⟩
  have hs : Same N1 H := c.trans (cut_same.trans s.ext.nh)
  obtain ⟨j1, j2⟩ := J1 i H hs
  by_cases hlt : i < ds.length
  · obtain ⟨go, yl⟩ := j1 ds[i] (by simp [hlt])
    rw [List.drop_eq_getElem_cons hlt] at e
    obtain ⟨ρ1, e1, e⟩ := Option.bind_eq_some_iff.mp e
    refine .inr ⟨go, fun σ' H' => ∃ (N : Hp) (ρ : Env), StN K B0 H0 N H' σ' ρ ∧ Same N1 (cut N (own σ' ρ)) ∧ forL tg g (ds.drop (i + 1)) ρ = some r, fun σ' H' ⟨N', ρ', s', c', e'⟩ => ⟨_, by omega, N', ρ', s', c', rfl, hlt, e'⟩, fun x H' y => ?_⟩
    obtain ⟨N2, x2, i2⟩ := yl x H' y
    have x3 : Ext (cut N (own σ ρ)) (join (cut N (own σ ρ)) N2) H H' := by
      refine ⟨x2.hh, join_l, fun a o e => ?_, fun a o e => ?_⟩
      · cases q : cut N (own σ ρ) a with
        | some u => rw [join_l _ _ q] at e; cases e; exact x2.hh _ _ (s.ext.nh _ _ (cut_same _ _ q))
        | none => rw [join_none q] at e; exact x2.nh _ _ e
      · cases q : cut N (own σ ρ) a with
        | some u => rw [join_l _ _ q] at e; cases e; exact .inl rfl
        | none =>
          rw [join_none q] at e
          rcases x2.new a o e with z | z
          · rw [c _ _ z] at q; cases q
          · exact .inr z
    obtain ⟨s2, c2⟩ := s.growH x3
    have c3 : Same N2 (join (cut N (own σ ρ)) N2) := fun a o e => by
      rcases x2.new a o e with z | z
      · exact join_l _ _ (c _ _ z)
      · rw [join_none ((cut_same.trans s.ext.nh).free z)]; exact e
    have i3 := i2.mono (c3.trans c2)
    have c4 : Same N1 (cut (join N (join (cut N (own σ ρ)) N2)) (own σ ρ)) := (x2.bn.trans c3).trans c2
    refine ht _ _ _ _ _ _ _ _ _ _ s2.rebase i3 e1 fun σ2 H2 ⟨N4, s4⟩ => ?_
    cases eg : g ρ1 with
    | none => rw [eg] at e; cases e
    | some r1 =>
      rw [eg] at e
      refine ⟨_, _, ρ1, r1, ⟨N4, s4⟩, eg, ?_⟩
      have back : ∀ {σ' : St} {H' : Hp} {ρ' : Env} {N' : Hp}, StN K _ _ N' H' σ' ρ' → StN K B0 H0 N' H' σ' ρ' ∧ Same N1 (cut N' (own σ' ρ')) := fun t => ⟨s2.unbase t, c4.trans t.based⟩
      cases r1 with
      | nx ρ' => exact fun σ' H' ⟨N', t⟩ => ⟨N', ρ', (back t).1, (back t).2, e⟩
      | ct ρ' => exact fun σ' H' ⟨N', t⟩ => ⟨N', ρ', (back t).1, (back t).2, e⟩
      | bk ρ' => cases e; exact fun σ' H' ⟨N', t⟩ => p σ' H' ⟨N', (back t).1⟩
      | rt d b =>
        cases e
        intro v H' N' x' i' f'
        have y := s2.rebase.ext
        have h0 : Same H0 (cut H' (fun _ => False)) := fun a o e => by rw [cut_of (fun z => z)]; exact x'.hh _ _ (by
          rw [cut_of fun z => ?_]; exact s2.ext.hh _ _ e
          obtain ⟨_, _, q⟩ := s2.owned z
          rw [q] at e; cases e)
        have h0' : Same H0 (cut H' (fun _ => False)) := h0
        have hH : Same H0 (cut H' (fun _ => False)) := h0
        have hc : ∀ a, cut H' (fun _ => False) a = H' a := fun a => cut_of (fun z => z)
        have hb : Same H0 (cut _ (own σ ρ)) := fun a o e => by
          rw [cut_of fun z => ?_]; exact s2.ext.hh _ _ e
          obtain ⟨_, _, q⟩ := s2.owned z
          rw [q] at e; cases e
        have bb : Same B0 (cut _ (own σ ρ)) := fun a o e => by
          rw [cut_of fun z => ?_]; exact s2.ext.bn _ _ e
          obtain ⟨_, _, q⟩ := s2.owned z
          rw [s2.bh _ _ e] at q; cases q
        refine p v H' N' ⟨hb.trans x'.hh, bb.trans x'.bn, x'.nh, fun a o e => ?_⟩ i' fun z => (f' z).back hb
        rcases x'.new a o e with z | z
        · exact s2.ext.new a o (cut_same _ _ z)
        · exact .inr (hb.free z)
  · have ei : i = ds.length := by omega
    subst ei
    rw [List.drop_eq_nil_of_le (Nat.le_refl _)] at e
    cases e
    exact .inl ⟨j2 (Nat.le_refl _), p σ H ⟨N, s⟩⟩
theorem tDS_for {K : PySem.W.Frag} {f : FA} {tg : FG} {t : TG} {g : FS} {E : Ends} {σ : St} {H : Hp} (ht : tDG K tg t) (q : tDS K (gFor f tg g) E σ H) : tFor (tDI K f) t (tDS K g) E σ H := by
  obtain ⟨B0, H0, ρ, r, ⟨N, s⟩, e, p⟩ := q
  obtain ⟨ds, ef, e⟩ := Option.bind_eq_some_iff.mp e
  refine ⟨cut N (own σ ρ), hide ρ, ds, cut_same.trans s.ext.nh, s.repH, ef, fun J H1 N1 x1 J1 => ?_⟩
  obtain ⟨s1, c⟩ := s.growH x1
  exact for_core ht s1 c J1 e p
def tDR (K : PySem.W.Frag) (f : FA) : TI := fun σ H R => ∃ (B : Hp) (ρ : Env) (ds : List D), Same B H ∧ RepE K B σ ρ ∧ f ρ = some ds ∧ ∀ (J : It) (H' N : Hp), Ext B N H H' → (∀ B', ItOk K J B' ds) → R J H'
@[simp] def gForR (f : FA) (tg : FG) (g : FS) : FS := fun ρ => (f ρ).bind fun ds => forL tg g ds ρ
theorem tDS_forR {K : PySem.W.Frag} {f : FA} {tg : FG} {t : TG} {g : FS} {E : Ends} {σ : St} {H : Hp} (ht : tDG K tg t) (q : tDS K (gForR f tg g) E σ H) : tFor (tDR K f) t (tDS K g) E σ H := by
  obtain ⟨B0, H0, ρ, r, ⟨N, s⟩, e, p⟩ := q
  obtain ⟨ds, ef, e⟩ := Option.bind_eq_some_iff.mp e
  refine ⟨N, ρ, ds, s.ext.nh, s.rep, ef, fun J H1 N1 x1 J1 => ?_⟩
  exact for_core ht (s.grow x1) (Same.refl _) (J1 _) e p
end DL
namespace DL
open PySem PySem.Spec PyProof.Rows L2
abbrev JE (X : Cx) (e : Expr) (f : FE) : Prop := PE X e (tD X.K f)
abbrev JT (X : Cx) (e : Expr) (f : FT) : Prop := PT X e (tDT X.K f)
abbrev JW (X : Cx) (e : Expr) (f : FT) : Prop := PW X e (tDT X.K f)
abbrev JA (X : Cx) (es : List Expr) (f : FA) : Prop := PA X es (tDA X.K f)
abbrev JS (X : Cx) (st : Stmt) (g : FS) : Prop := PS X st (tDS X.K g)
abbrev JSs (X : Cx) (st : List Stmt) (g : FS) : Prop := PSs X st (tDS X.K g)
abbrev JI (X : Cx) (tg iter : Expr) (f : FA) : Prop := PI X tg iter (tDI X.K f)
theorem compLoop_gen {prog : Program} {w : World} {A : Around} {R : Result → Shared → Prop} {s : Shared} {elt target iter : Expr} {ifs : List Expr} {scope : Scope} {pos : Pos} {it acc : Value} {env : PySem.Env} (I : Nat → Shared → Prop)
    (turn : ∀ n s, I n s → wpAny (model prog w) A (pyNext it) (fun r s₁ => match r with
      | none => R (.ok .next) s₁
      | some v => wpAny (model prog w) A (letOwnedTupleGo target it v) (fun _ s₁ => wpAny (model prog w) A (assign target env v) (fun _ s₂ =>
          wpAny (model prog w) A (forIn ifs true fun c r => if r = true then do let ok ← isTrue c env (eval c env); pure (ForInStep.yield ok) else pure (ForInStep.yield r)) (fun ok s₃ =>
            if ok = true then wpAny (model prog w) A (eval elt env) (fun x s₄ =>
              wpAny (model prog w) A (call (.builtin "list.append") [acc, x]) (fun _ s₅ => ∃ m, m < n ∧ I m s₅) (fun _ _ => False) s₄) (fun _ _ => False) s₃
            else ∃ m, m < n ∧ I m s₃) (fun _ _ => False) s₂) (fun _ _ => False) s₁) (fun _ _ => False) s₁) (fun _ _ => False) s)
    (n : Nat) (h : I n s) : codeAny (model prog w) A (.compLoop (.ListComp elt [⟨target, iter, ifs, 0⟩] scope pos) 0 it acc env) R s := by
  refine codeAny_loop rfl I (fun n s hI => ?_) n h
  show wpAny _ A ((compTurn (.ListComp elt [⟨target, iter, ifs, 0⟩] scope pos) 0 it acc env).onRaise (fun x => do noteFrame x env; theTreesLotGoes x)) _ _ s
  refine wpAny_noted (wpAny_mono (E := fun _ _ => False) ?_ (fun _ _ q => q) fun _ _ z => z.elim)
  rw [compTurn_list]
  refine wpAny_bind (wpAny_standAt (wpAny_bind (wpAny_mono (turn n s hI) (fun r s₁ h₁ => ?_) fun _ _ h' => h')))
  cases r with
  | none => exact wpAny_pure h₁
  | some v =>
    refine wpAny_bind (wpAny_mono h₁ (fun _ s₁ h₁ => ?_) fun _ _ h' => h')
    refine wpAny_bind (wpAny_mono h₁ (fun _ s₂ h₂ => wpAny_bind (wpAny_mono h₂ (fun ok s₃ h₃ => ?_) fun _ _ h' => h')) fun _ _ h' => h')
    cases ok with
    | false => exact wpAny_pure ⟨rfl, h₃⟩
    | true => exact wpAny_bind (wpAny_bind (wpAny_mono h₃ (fun x s₄ h₄ => wpAny_bind (wpAny_mono h₄ (fun _ s₅ h₅ => wpAny_pure (wpAny_pure ⟨rfl, h₅⟩)) fun _ _ h' => h')) fun _ _ h' => h'))
theorem Ext.upd {B N H H' : Hp} {a : Addr} {o : HO} (x : Ext B N H H') (h : H a = none) (hN : N a = none) : Ext B N H (upd H' a o) :=
  ⟨fun b u e => by rw [upd_ne (fun z => by subst z; rw [h] at e; cases e)]; exact x.hh _ _ e, x.bn, fun b u e => by rw [upd_ne (fun z => by subst z; rw [hN] at e; cases e)]; exact x.nh _ _ e, x.new⟩
abbrev cxIn (X : Cx) (N' : List Str) (scope : Scope) (cl : List (Str × Addr)) (C : Addr) (s₃ : Shared) (H₃ : Hp) (fp : List Addr) : Cx :=
  { X with N := N', s₀ := s₃, H₀ := H₃, env := compEnvC scope cl C X.env, outer := X.stack, stack := X.stack, ex := fp, fn := fun _ => false, pn := [], xe := fun _ _ => False }
inductive Caps (X : Cx) (N' : List Str) (scope : Scope) (cl : List (Str × Addr)) : Nat → List Nat → Prop where
  | nil {j : Nat} (h : N'.length = j) : Caps X N' scope cl j []
  | cons {j i : Nat} {r : List Nat} {x : Str} (h1 : N'[j]? = some x) (h2 : X.N[i]? = some x) (h3 : X.env.kindOf x = some .cell ∨ X.env.kindOf x = some .free)
      (h4 : (relabel scope X.env).names.lookup x = some .cell ∨ (relabel scope X.env).names.lookup x = some .free) (h5 : cl.lookup x = X.env.cells.lookup x) (t : Caps X N' scope cl (j + 1) r) : Caps X N' scope cl j (i :: r)
theorem Caps.len {X : Cx} {N' : List Str} {scope : Scope} {cl : List (Str × Addr)} : ∀ {j : Nat} {cap : List Nat}, Caps X N' scope cl j cap → N'.length = j + cap.length
  | _, _, .nil h => by rw [h]; rfl
  | j, i :: r, .cons _ _ _ _ _ t => by rw [t.len, List.length_cons]; omega
theorem Caps.get {X : Cx} {N' : List Str} {scope : Scope} {cl : List (Str × Addr)} : ∀ {j : Nat} {cap : List Nat} {k i : Nat}, Caps X N' scope cl j cap → cap[k]? = some i → ∃ x, N'[j + k]? = some x ∧ X.N[i]? = some x ∧ (X.env.kindOf x = some .cell ∨ X.env.kindOf x = some .free) ∧
    ((relabel scope X.env).names.lookup x = some .cell ∨ (relabel scope X.env).names.lookup x = some .free) ∧ cl.lookup x = X.env.cells.lookup x
  | _, _, _, _, .nil _, e => by simp at e
  | j, _, 0, _, .cons h1 h2 h3 h4 h5 _, e => by simp at e; subst e; exact ⟨_, h1, h2, h3, h4, h5⟩
  | j, _, k + 1, i, .cons _ _ _ _ _ t, e => by
    obtain ⟨x, q, r⟩ := t.get (k := k) (i := i) (by simpa using e)
    exact ⟨x, by rw [show j + (k + 1) = j + 1 + k by omega]; exact q, r⟩
structure CompSc (X : Cx) (scope : Scope) (cl : List (Str × Addr)) : Prop where
  clos : closureFor scope X.env = pure cl
  nocell : ∀ y ∈ scope.names, y.2 ≠ .cell
  kind : scope.kind = .function
  names : ∀ y ∈ scope.names, y.2 = .local → scope.names.lookup y.1 = some .local
  sub : ∀ x c, cl.lookup x = some c → X.env.cells.lookup x = some c
  has : ∀ x, ((relabel scope X.env).names.lookup x = some .cell ∨ (relabel scope X.env).names.lookup x = some .free) → ∃ c, cl.lookup x = some c
def clOf : List (Str × NameKind) → List (Str × Addr) → List (Str × Addr) → List (Str × Addr)
  | [], _, cs => cs
  | (n, k) :: r, cells, cs => clOf r cells (if k == .free then (match cells.lookup n with | some c => (n, c) :: cs | none => cs) else cs)
theorem clOf_clos {env : PySem.Env} : ∀ (names : List (Str × NameKind)) (cs : List (Str × Addr)), (∀ y ∈ names, y.2 = .free → (env.cells.lookup y.1).isSome = true) →
    (do let mut cs := cs
        for (name, kind) in names do
          if kind == .free then cs := (name, ← cellOf env name) :: cs
        return cs : Sem (List (Str × Addr))) = pure (clOf names env.cells cs) := by
  intro names
  induction names with
  | nil => intro cs _; rfl
  | cons y r ih =>
    intro cs h
    obtain ⟨n, k⟩ := y
    have ih' := fun cs => ih cs fun y hy => h y (List.mem_cons_of_mem _ hy)
    by_cases hk : k = .free
    · subst hk
      have hc := h (n, .free) List.mem_cons_self rfl
      cases q : env.cells.lookup n with
      | none => rw [q] at hc; cases hc
      | some c =>
        have e1 : clOf ((n, .free) :: r) env.cells cs = clOf r env.cells ((n, c) :: cs) := by
          rw [clOf, q]; rfl
        rw [e1, ← ih' ((n, c) :: cs)]
        have e2 : cellOf env n = pure c := by unfold cellOf; rw [q]
        simp only [List.forIn_cons, beq_self_eq_true, if_true, e2]
        rfl
    · have hb : (k == NameKind.free) = false := by simpa using hk
      have e1 : clOf ((n, k) :: r) env.cells cs = clOf r env.cells cs := by rw [clOf, hb]; rfl
      rw [e1, ← ih' cs]
      simp only [List.forIn_cons, hb, Bool.false_eq_true, if_false]
      rfl
theorem clOf_sub {cells : List (Str × Addr)} {x : Str} {c : Addr} : ∀ (names : List (Str × NameKind)) (cs : List (Str × Addr)), (∀ y d, cs.lookup y = some d → cells.lookup y = some d) → (clOf names cells cs).lookup x = some c → cells.lookup x = some c
  | [], cs, h, e => h x c e
  | (n, k) :: r, cs, h, e => by
    rw [clOf] at e
    refine clOf_sub r _ (fun y d q => ?_) e
    split at q
    · split at q
      · rename_i c' ec
        rw [List.lookup_cons] at q
        split at q
        · rename_i hy
          cases q
          rw [eq_of_beq hy]; exact ec
        · exact h y d q
      · exact h y d q
    · exact h y d q
theorem clOf_keep {cells : List (Str × Addr)} {x : Str} : ∀ (names : List (Str × NameKind)) (cs : List (Str × Addr)), (cs.lookup x).isSome = true → ((clOf names cells cs).lookup x).isSome = true
  | [], cs, h => h
  | (n, k) :: r, cs, h => by
    rw [clOf]
    refine clOf_keep r _ ?_
    split
    · split
      · rw [List.lookup_cons]
        split
        · rfl
        · exact h
      · exact h
    · exact h
theorem clOf_has {cells : List (Str × Addr)} {x : Str} : ∀ (names : List (Str × NameKind)) (cs : List (Str × Addr)), (x, NameKind.free) ∈ names → (cells.lookup x).isSome = true → ((clOf names cells cs).lookup x).isSome = true
  | (n, k) :: r, cs, hm, hc => by
    rw [clOf]
    rcases List.mem_cons.mp hm with e | e
    · cases e
      refine clOf_keep r _ ?_
      cases q : cells.lookup x with
      | none => rw [q] at hc; cases hc
      | some c => simp
    · exact clOf_has r _ e hc
theorem lookup_mem {α : Type} {x : Str} {k : α} : ∀ {l : List (Str × α)}, l.lookup x = some k → (x, k) ∈ l
  | (n, j) :: r, h => by
    rw [List.lookup_cons] at h
    split at h
    · rename_i e
      cases h
      rw [eq_of_beq e]; exact List.mem_cons_self
    · exact List.mem_cons_of_mem _ (lookup_mem h)
theorem compSc {X : Cx} {scope : Scope} (h1 : ∀ y ∈ scope.names, y.2 ≠ .cell) (h2 : scope.kind = .function) (h3 : ∀ y ∈ scope.names, y.2 = .local → scope.names.lookup y.1 = some .local) (h4' : (scope.names.all fun y => !(y.2 == NameKind.free) || (X.env.cells.lookup y.1).isSome) = true) :
    CompSc X scope (clOf scope.names X.env.cells []) := by
  have h4 : ∀ y ∈ scope.names, y.2 = .free → (X.env.cells.lookup y.1).isSome = true := fun y hy e => by
    have := List.all_eq_true.mp h4' y hy
    rw [e] at this
    simpa using this
  have frees : ∀ x, ((relabel scope X.env).names.lookup x = some .cell ∨ (relabel scope X.env).names.lookup x = some .free) → (x, NameKind.free) ∈ scope.names := fun x h => by
    have : ∃ k, (x, k) ∈ (relabel scope X.env).names ∧ (k = .cell ∨ k = .free) := by
      rcases h with h | h
      · exact ⟨_, lookup_mem h, .inl rfl⟩
      · exact ⟨_, lookup_mem h, .inr rfl⟩
    obtain ⟨k, hm, hk⟩ := this
    obtain ⟨⟨n, j⟩, hj, e⟩ := List.mem_map.mp hm
    dsimp only at e
    split at e
    · rename_i hc
      rw [Bool.and_eq_true, Bool.and_eq_true] at hc
      cases e
      rw [← eq_of_beq hc.1.1]; exact hj
    · cases e
      rcases hk with rfl | rfl
      · exact absurd rfl (h1 _ hj)
      · exact hj
  exact ⟨clOf_clos scope.names [] h4, h1, h2, h3, fun x c e => clOf_sub scope.names [] (fun y d q => by cases q) e, fun x h => by
    have := clOf_has (x := x) scope.names [] (frees x h) (h4 _ (frees x h) rfl)
    exact Option.isSome_iff_exists.mp this⟩
theorem cl_look {scope : Scope} {cells : List (Str × Addr)} {x : Str} (h : (x, NameKind.free) ∈ scope.names) (hc : (cells.lookup x).isSome = true) : (clOf scope.names cells []).lookup x = cells.lookup x := by
  obtain ⟨c, e⟩ := Option.isSome_iff_exists.mp (clOf_has (x := x) scope.names [] h hc)
  rw [e, clOf_sub scope.names [] (fun y d q => by cases q) e]
def capS (nT : Nat) (cap : List Nat) (σ : St) : St := List.replicate nT none ++ cap.map fun i => (σ[i]?).join
def capE (nT : Nat) (cap : List Nat) (ρ : Env) : Env := List.replicate nT none ++ cap.map fun i => match ρ[i]? with | some (some (d, _)) => some (d, false) | _ => none
theorem cap_get {α : Type} {nT : Nat} {cap : List Nat} {f : Nat → Option α} {j : Nat} {v : α} (h : (List.replicate nT none ++ cap.map f)[j]? = some (some v)) : ∃ k i, j = nT + k ∧ cap[k]? = some i ∧ f i = some v := by
  by_cases hj : j < nT
  · rw [List.getElem?_append_left (by simpa using hj), List.getElem?_replicate, if_pos hj] at h
    cases h
  · rw [List.getElem?_append_right (by simpa using Nat.not_lt.mp hj), List.length_replicate, List.getElem?_map] at h
    obtain ⟨i, h1, h2⟩ := Option.map_eq_some_iff.mp h
    exact ⟨j - nT, i, by omega, h1, h2⟩
theorem cap_set {α : Type} {nT : Nat} {cap : List Nat} {f : Nat → Option α} {k i : Nat} {v : α} (h1 : cap[k]? = some i) (h2 : f i = some v) : (List.replicate nT none ++ cap.map f)[nT + k]? = some (some v) := by
  rw [List.getElem?_append_right (by simp), List.length_replicate, List.getElem?_map, Nat.add_sub_cancel_left, h1]
  simp [h2]
theorem RepE.caps {K : PySem.W.Frag} {B : Hp} {σ : St} {ρ : Env} {nT : Nat} {cap : List Nat} (h : RepE K B σ ρ) : RepE K B (capS nT cap σ) (capE nT cap ρ) := ⟨h.tb, fun j d b q => by
  obtain ⟨k, i, rfl, h1, h2⟩ := cap_get q
  split at h2
  · rename_i d' b' e
    cases h2
    obtain ⟨v, g1, g2⟩ := h.at' i _ _ e
    exact ⟨v, cap_set h1 (by rw [g1]; rfl), g2⟩
  · cases h2⟩
def compL (tg : FG) (c : FT) (fe : FE) (ρ : Env) : List D → Option (List D)
  | [] => some []
  | d :: r => (tg d ρ).bind fun ρ1 => (c ρ1).bind fun b => if b = true then (fe ρ1).bind fun x => (compL tg c fe ρ r).map (x.1 :: ·) else compL tg c fe ρ r
@[simp] theorem compL_nil (tg : FG) (c : FT) (fe : FE) (ρ : Env) : compL tg c fe ρ [] = some [] := by rw [compL]
@[simp] theorem compL_cons (tg : FG) (c : FT) (fe : FE) (ρ : Env) (d : D) (r : List D) : compL tg c fe ρ (d :: r) = (tg d ρ).bind fun ρ1 => (c ρ1).bind fun b => if b = true then (fe ρ1).bind fun x => (compL tg c fe ρ r).map (x.1 :: ·) else compL tg c fe ρ r := by rw [compL]
@[simp] def fComp (fi : FA) (nT : Nat) (cap : List Nat) (tg : FG) (c : FT) (fe : FE) : FE := fun ρ => (fi ρ).bind fun items => if items.length ≤ sizeLine then (compL tg c fe (capE nT cap ρ) items).map fun ds => (.lst ds, true) else none
def TGE (K : PySem.W.Frag) (n : Nat) (tg : FG) (g : TG) : Prop := ∀ (B H : Hp) (σ : St) (ρ ρ1 : Env) (v : V) (d : D) (Q : St → Hp → Prop), (∀ i, i < n → ρ[i]? = some none) → RepE K B σ ρ → Same B H → Is K B v d → tg d ρ = some ρ1 →
  ρ.length = σ.length → (∀ σ1, RepE K B σ1 ρ1 → (∀ B', RepE K B' σ ρ → RepE K B' σ1 ρ) → ρ.length = σ1.length → Q σ1 H) → g v σ H Q
theorem tge_name {K : PySem.W.Frag} {n i : Nat} (hi : i < n) : TGE K n (tgN i) (gName i) := by
  intro B H σ ρ ρ1 v d Q cl rep s h e hl k
  cases e
  have hiσ : i < σ.length := by
    have := (List.getElem?_eq_some_iff.mp (cl i hi)).1
    omega
  refine k _ ⟨rep.tb, fun j e b q => ?_⟩ ?_ (by simpa using hl)
  · rcases set_get q with ⟨rfl, p⟩ | ⟨ne, p⟩
    · cases p
      exact ⟨v, by simp [hiσ], h⟩
    · obtain ⟨w, h1, h2⟩ := rep.at' j e b p
      exact ⟨w, by rw [List.getElem?_set_ne ne]; exact h1, h2⟩
  · intro B' rep'
    refine ⟨rep'.tb, fun j e b q => ?_⟩
    obtain ⟨w, h1, h2⟩ := rep'.at' j e b q
    have ne : i ≠ j := fun z => by subst z; rw [cl i hi] at q; cases q
    exact ⟨w, by rw [List.getElem?_set_ne ne]; exact h1, h2⟩
def JC (X : Cx) (ifs : List Expr) (c : FT) : Prop := ∀ (pins : List (Addr × Obj)) (s : Shared) (σ : St) (H : Hp) (Q : Bool → Hp → Prop), Inv X pins σ H s → tDT X.K c σ H Q →
  wpAny (model X.prog X.w) X.A (forIn ifs true fun c r => if r = true then do let ok ← isTrue c X.env (eval c X.env); pure (ForInStep.yield ok) else pure (ForInStep.yield r)) (TP X pins σ Q) X.xe s
@[simp] def cTrue : FT := fun _ => some true
theorem jc_nil {X : Cx} : JC X [] cTrue := by
  intro pins s σ H Q I h
  obtain ⟨B, ρ, c, sB, rep, e, q⟩ := h
  cases e
  exact wpAny_tests_nil ⟨H, I, q H (.refl H)⟩
theorem jc_one {X : Cx} {e : Expr} {f : FT} (h : JT X e f) : JC X [e] f := fun pins s σ H Q I q => wpAny_tests_one (h pins s σ H Q I q)
theorem comp_block {X : Cx} (hcalm : X.calm = true) {tg iter elt : Expr} {ifs : List Expr} {scope : Scope} {pos : Pos} {cl : List (Str × Addr)} {N' : List Str} {nT : Nat} {cap : List Nat} {tgF : FG} {g : TG} {fc : FT} {fe : FE}
    (S : CompSc X scope cl) (cp : Caps X N' scope cl nT cap)
    (hg : ∀ C s H fp, PG (cxIn X N' scope cl C s H fp) tg g) (htg : TGE X.K nT tgF g) (hc : ∀ C s H fp, JC (cxIn X N' scope cl C s H fp) ifs fc) (he : ∀ C s H fp, JE (cxIn X N' scope cl C s H fp) elt fe)
    {pins : List (Addr × Obj)} {σ : St} {H2 : Hp} {s2 : Shared} {it : Addr} {fp : List Addr} {tn : Nat → Heap → Prop} {J : It} {N1 : Hp} {ρ : Env} {items ds : List D} {E : Value → Shared → Prop}
    (I2 : Inv X pins σ H2 s2) (T : Turn X.prog X.w X.K tg J fp it tn) (st2 : tn 0 s2.heap) (f2 : ∀ b ∈ fp, FpOk X pins H2 b)
    (rep : RepE X.K N1 σ ρ) (sN : Same N1 H2) (J1 : ItOk X.K J N1 items) (hsz : items.length ≤ sizeLine) (ec : compL tgF fc fe (capE nT cap ρ) items = some ds) {RR : Value → Addr → Result → Shared → Prop}
    (hRR : ∀ (Dd C : Addr) (s' : Shared) (H' N : Hp) (vs : List V) (m : Str → Option Value), H2 Dd = none → Inv X pins σ H' s' → s'.heap.Ns C m → FpOk X pins H' C → Ext N1 N H2 H' → N Dd = some (.lst vs) → IsL X.K N vs ds → RR (.ref Dd) C (.ok .next) s') :
    wpAny (model X.prog X.w) X.A (newList []) (fun acc s₃ => wpAny (model X.prog X.w) X.A (newFunctionEnv scope X.env.globals cl [] X.env.qual none .none (some X.env)) (fun cenv s₄ =>
      codeAny (model X.prog X.w) X.A (.compStart (.ListComp elt [⟨tg, iter, ifs, 0⟩] scope pos) 0 (.ref it) acc { cenv with scope := relabel scope X.env }) (RR acc cenv.locals) s₄) E s₃) E s2 := by
  refine wpAny_newObj_type (wpAny_newFunctionEnv S.nocell (by intro y hy; simp at hy) (fun h₁ hns₁ hsb₁ => ?_) S.kind)
  dsimp only at hns₁ hsb₁ ⊢
  have hD : H2 s2.heap.objs.size = none := I2.fresh
  have I3 : Inv X pins σ (upd H2 s2.heap.objs.size (.lst [])) { s2 with heap := s2.heap.push { cls := .type "list", dict := none, data := .seq ([] : List Value).toArray } } := I2.lnew (t' := s2.toks) (ys := []) (its := []) .nil (Nat.zero_le _)
  generalize hH3 : s2.heap.push { cls := .type "list", dict := none, data := .seq ([] : List Value).toArray } = g3 at hns₁ hsb₁ I3 ⊢
  have hC : g3.objs.size = s2.heap.objs.size + 1 := by rw [← hH3, Heap.size_push]
  have old2 : ∀ b o, s2.heap.get? b = some o → g3.get? b = some o := fun b o e => hH3 ▸ Heap.get?_push_of_some _ e
  have old3 : ∀ b o, g3.get? b = some o → h₁.get? b = some o := fun b o e => hsb₁.extBut b o (Nat.ne_of_lt (Heap.lt_size e)) (Heap.get?_push_of_some _ e)
  have neC : ∀ b o, g3.get? b = some o → b ≠ g3.objs.size := fun b o e => Nat.ne_of_lt (Heap.lt_size e)
  have fpo : ∀ b ∈ fp, ∃ o, s2.heap.get? b = some o := fun b hb => let ⟨o, e, _⟩ := T.obj 0 s2.heap st2 b hb; ⟨o, e⟩
  have fpD : ∀ b ∈ fp, b ≠ s2.heap.objs.size := fun b hb => let ⟨o, e⟩ := fpo b hb; Nat.ne_of_lt (Heap.lt_size e)
  have fpC : ∀ b ∈ fp, b ≠ g3.objs.size := fun b hb => let ⟨o, e⟩ := fpo b hb; neC b o (old2 b o e)
  have cellC : ∀ x c, X.env.cells.lookup x = some c → c ≠ g3.objs.size := fun x c e => by
    obtain ⟨v, z⟩ := I3.cell x c e
    exact Nat.ne_of_lt z.lt
  have hHC : (upd H2 s2.heap.objs.size (HO.lst [])) g3.objs.size = none := I3.hok.fresh (Nat.le_refl _)
  have stk : ∀ b ∈ frs X.stack, ∃ o, s2.heap.get? b = some o := fun b hb => by
    obtain ⟨_, o, ho, _⟩ := (I2.stack).mem hb
    exact ⟨o, ho⟩
  -- the block's context
  have ok : (cxIn X N' scope cl g3.objs.size { s2 with heap := g3 } (upd H2 s2.heap.objs.size (.lst [])) fp).Ok := by
    refine ⟨I2.ok.mod, ?_, I2.ok.glob, I2.ok.blt, Nat.le_refl _, fun x y c e1 e2 => I2.ok.inj x y c (S.sub x c e1) (S.sub y c e2), fun x h => S.has x h, fun x c h => absurd h Bool.false_ne_true, I2.ok.hd, I2.ok.frames, .inl rfl, fun b hb => ⟨fpC b hb, fun x c e => (f2 b hb).2.2.2.2.1 x c (S.sub x c e)⟩, fun b o e => ?_, ?_, fun b o e hb => ?_, fun b hb hz => ?_, I3.stack, fun b hb => I3.stkFree b hb⟩
    · show (relabel scope X.env).kind = .function
      exact S.kind
    · exact I3.bs b o e
    · exact Nat.le_trans I3.ok.bsz I3.sz
    · have h1 := (f2 b hb).2.2.2.1
      rcases h1 with z | z
      · exact I2.ok.noex b o e z
      · exact absurd (Nat.lt_of_lt_of_le (Heap.lt_size e) (Nat.le_trans I2.ok.bsz z)) (Nat.lt_irrefl _)
    · rcases List.mem_cons.mp (I2.stkSub b hz) with z | z
      · exact (f2 b hb).2.1 z
      · exact (f2 b hb).2.2.1 z
  have I4 : Inv (cxIn X N' scope cl g3.objs.size { s2 with heap := g3 } (upd H2 s2.heap.objs.size (.lst [])) fp) [] (capS nT cap σ) (upd H2 s2.heap.objs.size (.lst [])) { s2 with heap := h₁, toks := s2.toks + ([] : List (Str × Value)).length } := by
    refine ⟨ok, rfl, I2.bare, Un.kept old3, ⟨_, hns₁, fun j x v e1 e2 e3 => ?_⟩, fun x c e => ?_, hHC, fun x c e => I3.freeC x c (S.sub x c e), fun p hp => by simp at hp, I3.hok.kept old3, ?_⟩
    · obtain ⟨k, i, rfl, h1, h2⟩ := cap_get e2
      obtain ⟨y, g1, g2, g3', g4, g5⟩ := cp.get h1
      have e1' : N'[nT + k]? = some x := e1
      rw [g1] at e1'; cases e1'
      have h2' : σ[i]? = some (some v) := by
        cases q : σ[i]? with
        | none => rw [q] at h2; cases h2
        | some z => rw [q] at h2; have : z = some v := h2; rw [this]
      obtain ⟨m, _, hl⟩ := I3.loc
      obtain ⟨u, r, l⟩ := hl i _ v g2 h2' (g3'.elim (fun z => .inr (.inl z)) fun z => .inr (.inr z))
      refine ⟨u, r, ?_⟩
      rcases l with ⟨l, _⟩ | ⟨_, c, lc, ic⟩
      · rcases g3' with z | z <;> (rw [z] at l; cases l)
      · refine .inr ⟨g4, c, by show cl.lookup _ = some c; rw [g5]; exact lc, ?_⟩
        obtain ⟨o, ho, hd⟩ := ic
        exact ⟨o, old3 _ _ ho, hd⟩
    · obtain ⟨v, o, ho, hd⟩ := I3.cell x c (S.sub x c e)
      exact ⟨v, o, old3 _ _ ho, hd⟩
    · show (capS nT cap σ).length = N'.length
      unfold capS
      rw [cp.len]; simp
  have fpX : ∀ {H' : Hp}, (∀ b ∈ fp, H' b = none) → ∀ b ∈ fp, FpOk (cxIn X N' scope cl g3.objs.size { s2 with heap := g3 } (upd H2 s2.heap.objs.size (.lst [])) fp) [] H' b := fun hn b hb =>
    ⟨hn b hb, fpC b hb, ok.exfs b hb, .inl hb, fun x c e => (f2 b hb).2.2.2.2.1 x c (S.sub x c e), fun p hp => by simp at hp⟩
  have clean : ∀ i, i < nT → (capE nT cap ρ)[i]? = some none := fun i hi => by
    unfold capE
    rw [List.getElem?_append_left (by simpa using hi), List.getElem?_replicate, if_pos hi]
  have hND : N1 s2.heap.objs.size = none := sN.free hD
  have loop : ∀ s₃ : Shared, s₃ = { s2 with heap := h₁, toks := s2.toks + ([] : List (Str × Value)).length } →
      codeAny (model X.prog X.w) X.A (.compLoop (.ListComp elt [⟨tg, iter, ifs, 0⟩] scope pos) 0 (.ref it) (.ref s2.heap.objs.size) (compEnvC scope cl g3.objs.size X.env)) (RR (.ref s2.heap.objs.size) g3.objs.size) s₃ := by
    rintro s₃ rfl
    refine compLoop_gen (fun n s' => ∃ (i : Nat) (N : Hp) (vs : List V) (es : List D) (σ' : St) (H' : Hp), Inv (cxIn X N' scope cl g3.objs.size { s2 with heap := g3 } (upd H2 s2.heap.objs.size (.lst [])) fp) [] σ' H' s' ∧ tn i s'.heap ∧ (∀ b ∈ fp, H' b = none) ∧
      n = items.length - i ∧ i ≤ items.length ∧ RepE X.K N1 σ' (capE nT cap ρ) ∧ (capE nT cap ρ).length = σ'.length ∧ Ext N1 N H2 H' ∧ N s2.heap.objs.size = none ∧ H' s2.heap.objs.size = some (.lst vs) ∧ vs.length ≤ i ∧ IsL X.K N vs es ∧
      ∃ r, compL tgF fc fe (capE nT cap ρ) (items.drop i) = some r ∧ es ++ r = ds) ?_ items.length ?_
    · rintro n s' ⟨i, N, vs, es, σ', H', I', ti, hn, rfl, hi, rp, hlen, x, hN0, hH0, hvl, hvs, r, er, eds⟩
      have sH : Same N1 H' := x.bn.trans x.nh
      by_cases hlt : i < items.length
      · obtain ⟨j1, _⟩ := J1 i H' sH
        obtain ⟨go, yl⟩ := j1 items[i] (by simp [hlt])
        rw [List.drop_eq_getElem_cons hlt] at er
        unfold compL at er
        obtain ⟨ρ1, e1, er⟩ := Option.bind_eq_some_iff.mp er
        obtain ⟨b, e2, er⟩ := Option.bind_eq_some_iff.mp er
        refine thn (T.item (cxIn X N' scope cl g3.objs.size { s2 with heap := g3 } (upd H2 s2.heap.objs.size (.lst [])) fp) rfl rfl rfl hcalm i [] s' σ' H' (fun _ _ => False) I' (fpX hn) ti go) fun q s4 hq => ?_
        obtain ⟨u, rfl, hq⟩ := hq
        refine thn hq fun _ s5 hq => ?_
        obtain ⟨xv, H5, I5, rx, y5, t5, fr5⟩ := hq
        obtain ⟨N5, x5, i5⟩ := yl xv H5 y5
        -- all that may be named at this turn
        have x6 : Ext N (join N N5) H' H5 := by
          refine ⟨x5.hh, join_l, fun a o e => ?_, fun a o e => ?_⟩
          · cases z : N a with
            | some u' => rw [join_l _ _ z] at e; cases e; exact x5.hh _ _ (x.nh _ _ z)
            | none => rw [join_none z] at e; exact x5.nh _ _ e
          · cases z : N a with
            | some u' => rw [join_l _ _ z] at e; cases e; exact .inl rfl
            | none =>
              rw [join_none z] at e
              rcases x5.new a o e with z' | z'
              · rw [x.bn _ _ z'] at z; cases z
              · exact .inr z'
        have c5 : Same N5 (join N N5) := fun a o e => by
          rcases x5.new a o e with z | z
          · exact join_l _ _ (x.bn _ _ z)
          · rw [join_none (x.nh.free z)]; exact e
        have hN5 : (join N N5) s2.heap.objs.size = none := by
          cases z : join N N5 s2.heap.objs.size with
          | none => rfl
          | some o =>
            rcases x6.new _ _ z with z' | z'
            · rw [hN0] at z'; cases z'
            · rw [hH0] at z'; cases z'
        have fin : ∀ (s9 : Shared) (σ9 : St) (H9 N9 : Hp) (vs9 : List V) (es9 : List D), Inv (cxIn X N' scope cl g3.objs.size { s2 with heap := g3 } (upd H2 s2.heap.objs.size (.lst [])) fp) (pinsAt fp s5.heap) σ9 H9 s9 →
            RepE X.K N1 σ9 (capE nT cap ρ) → (capE nT cap ρ).length = σ9.length → Ext N1 N9 H2 H9 → N9 s2.heap.objs.size = none → H9 s2.heap.objs.size = some (.lst vs9) → vs9.length ≤ i + 1 → IsL X.K N9 vs9 es9 →
            (∃ r, compL tgF fc fe (capE nT cap ρ) (items.drop (i + 1)) = some r ∧ es9 ++ r = ds) → ∃ m, m < items.length - i ∧ ∃ (i : Nat) (N : Hp) (vs : List V) (es : List D) (σ' : St) (H' : Hp), Inv (cxIn X N' scope cl g3.objs.size { s2 with heap := g3 } (upd H2 s2.heap.objs.size (.lst [])) fp) [] σ' H' s9 ∧ tn i s9.heap ∧ (∀ b ∈ fp, H' b = none) ∧
              m = items.length - i ∧ i ≤ items.length ∧ RepE X.K N1 σ' (capE nT cap ρ) ∧ (capE nT cap ρ).length = σ'.length ∧ Ext N1 N H2 H' ∧ N s2.heap.objs.size = none ∧ H' s2.heap.objs.size = some (.lst vs) ∧ vs.length ≤ i ∧ IsL X.K N vs es ∧
              ∃ r, compL tgF fc fe (capE nT cap ρ) (items.drop i) = some r ∧ es ++ r = ds := fun s9 σ9 H9 N9 vs9 es9 I9 rp9 l9 x9 n9 h9 v9 i9 er9 => by
          refine ⟨items.length - (i + 1), by omega, i + 1, N9, vs9, es9, σ9, H9, I9.pins_of fun p hp => by simp at hp, T.keep _ _ _ t5 fun b hb o e => (I9.pin (b, o) (List.mem_append_right _ (mem_pinsAt hb e))).1, fun b hb => ?_, rfl, hlt, rp9, l9, x9, n9, h9, v9, i9, er9⟩
          obtain ⟨o, e, d⟩ := T.obj _ _ t5 b hb
          exact (I9.pin (b, o) (List.mem_append_right _ (mem_pinsAt hb e))).2.1
        have I5' : Inv (cxIn X N' scope cl g3.objs.size { s2 with heap := g3 } (upd H2 s2.heap.objs.size (.lst [])) fp) (pinsAt fp s5.heap) σ' H5 s5 := by
          have := I5.pinned (fpX fr5) (T.obj _ _ t5)
          rwa [List.nil_append] at this
        have sN5 : Same (join N N5) H5 := x6.nh
        refine thn (hg _ _ _ _ _ s5 σ' H5 xv u (fun σ6 H6 => H6 = H5 ∧ RepE X.K (join N N5) σ6 ρ1 ∧ RepE X.K N1 σ6 (capE nT cap ρ) ∧ (capE nT cap ρ).length = σ6.length) I5' rx ?_) fun _ s6 ⟨σ6, H6, I6, eH, rp6, rq6, l6⟩ => ?_
        · refine htg (join N N5) H5 σ' (capE nT cap ρ) ρ1 xv items[i] _ clean (rp.mono (x.bn.trans join_l)) sN5 (i5.mono c5) e1 hlen fun σ1 r1 r2 l1 => ⟨rfl, r1, r2 N1 rp, l1⟩
        · subst eH
          have hH5 : H6 s2.heap.objs.size = some (.lst vs) := x5.hh _ _ hH0
          refine thn (hc _ _ _ _ _ s6 σ6 H6 (fun c H7 => c = b ∧ Same H6 H7) I6 ⟨join N N5, ρ1, b, sN5, rp6, e2, fun H7 h7 => ⟨rfl, h7⟩⟩) fun ok s7 ⟨H7, I7, eb, h7⟩ => ?_
          subst eb
          have x7 : Ext N1 (join N N5) H2 H7 := (x.trans x6).trans (.grow sN5 h7)
          cases ok with
          | false =>
            rw [if_neg (by decide)] at er ⊢
            exact fin s7 σ6 H7 (join N N5) vs es I7 rq6 l6 x7 hN5 (h7 _ _ hH5) (Nat.le_succ_of_le hvl) (hvs.mono join_l) ⟨r, er, eds⟩
          | true =>
            rw [if_pos rfl] at er ⊢
            obtain ⟨y, e3, er⟩ := Option.bind_eq_some_iff.mp er
            obtain ⟨r', e4, er⟩ := Option.map_eq_some_iff.mp er
            subst er
            refine thn (he _ _ _ _ _ s7 σ6 H7 (fun v H8 => ∃ N8, Ext (join N N5) N8 H7 H8 ∧ Is X.K N8 v y.1) I7 ⟨join N N5, ρ1, y.1, y.2, sN5.trans h7, rp6, e3, fun v H8 N8 x8 i8 _ => ⟨N8, x8, i8⟩⟩) fun w8 s8 ⟨v8, H8, I8, r8, N8, x8, i8⟩ => ?_
            have hH8 : H8 s2.heap.objs.size = some (.lst vs) := x8.hh _ _ (h7 _ _ hH5)
            refine thn (mt_append _ s8 σ6 H8 (.ref s2.heap.objs.size) [v8] (.ref s2.heap.objs.size) [w8] (fun _ H9 => H9 = upd H8 s2.heap.objs.size (.lst (vs ++ [v8]))) I8 rfl (.cons r8 .nil) ⟨_, vs, v8, rfl, rfl, hH8, by omega, rfl⟩) fun _ s9 ⟨_, H9, I9, _, e9⟩ => ?_
            subst e9
            have hN8 : N8 s2.heap.objs.size = none := by
              cases z : N8 s2.heap.objs.size with
              | none => rfl
              | some o =>
                rcases x8.new _ _ z with z' | z'
                · rw [hN5] at z'; cases z'
                · rw [h7 _ _ hH5] at z'; cases z'
            refine fin s9 σ6 _ N8 (vs ++ [v8]) (es ++ [y.1]) I9 rq6 l6 ((x7.trans x8).upd hD hN8) hN8 upd_same (by rw [List.length_append, List.length_singleton]; omega) ((hvs.mono (join_l.trans x8.bn)).append (.cons i8 .nil)) ⟨r', e4, by rw [List.append_assoc]; exact eds⟩
      · have ei : i = items.length := by omega
        subst ei
        rw [List.drop_eq_nil_of_le (Nat.le_refl _)] at er
        cases er
        rw [List.append_nil] at eds
        subst eds
        refine thn (T.done (cxIn X N' scope cl g3.objs.size { s2 with heap := g3 } (upd H2 s2.heap.objs.size (.lst [])) fp) rfl rfl rfl hcalm items.length [] s' σ' H' (fun _ _ => False) I' (fpX hn) ti ((J1 _ H' sH).2 (Nat.le_refl _))) fun q s4 ⟨hq, I9⟩ => ?_
        subst hq
        obtain ⟨m, hm, _⟩ := I9.loc
        have u1 : Un (frs X.stack) fp H2 (upd H2 s2.heap.objs.size (.lst [])) s2.heap g3 := Un.laid old2 (Nat.le_refl _) hD
        have x9 : Ext N1 (upd N s2.heap.objs.size (.lst vs)) H2 H' := by
          refine ⟨x.hh, x.bn.trans fun a o e => by rw [upd_ne (fun z => by subst z; rw [hN0] at e; cases e)]; exact e, fun a o e => ?_, fun a o e => ?_⟩
          · by_cases z : a = s2.heap.objs.size
            · subst z; rw [upd_same] at e; cases e; exact hH0
            · rw [upd_ne z] at e; exact x.nh _ _ e
          · by_cases z : a = s2.heap.objs.size
            · subst z; exact .inr hD
            · rw [upd_ne z] at e; exact x.new _ _ e
        refine hRR s2.heap.objs.size g3.objs.size s4 H' (upd N s2.heap.objs.size (.lst vs)) vs m hD (I2.call' (ch := fp) I9.os (u1.trans I9.base) I9.hok I9.bare fun b hb => ⟨(f2 b hb).2.2.2.1, (f2 b hb).2.1, (f2 b hb).2.2.2.2.1, (f2 b hb).2.2.2.2.2⟩) hm (I2.fpOk (by rw [hC]; exact Nat.le_succ _) I9.free) x9 upd_same
          (hvs.mono fun a o e => by rw [upd_ne (fun z => by subst z; rw [hN0] at e; cases e)]; exact e)
    · refine ⟨0, N1, [], [], capS nT cap σ, _, I4, T.keep _ _ _ st2 fun b hb o e => old3 _ _ (old2 _ _ e), fun b hb => ?_, rfl, Nat.zero_le _, rep.caps, ?_, (Ext.refl sN).upd hD hND, hND, upd_same, Nat.zero_le _, .nil, ds, by simpa using ec, rfl⟩
      · rw [upd_ne (fpD b hb)]; exact (f2 b hb).1
      · unfold capE capS; simp
  exact codeAny_compStart_list (loop _ rfl) (T.self _ 0 _ _ _ (T.keep _ _ _ st2 fun b hb o e => old3 _ _ (old2 _ _ e)) (loop _ rfl))
theorem je_comp {X : Cx} (hcalm : X.calm = true) {tg iter elt : Expr} {ifs : List Expr} {scope : Scope} {pos : Pos} {cl : List (Str × Addr)} {N' : List Str} {nT : Nat} {cap : List Nat} {fi : FA} {tgF : FG} {g : TG} {fc : FT} {fe : FE}
    (S : CompSc X scope cl) (cp : Caps X N' scope cl nT cap) (hi : JI X tg iter fi)
    (hg : ∀ C s H fp, PG (cxIn X N' scope cl C s H fp) tg g) (htg : TGE X.K nT tgF g) (hc : ∀ C s H fp, JC (cxIn X N' scope cl C s H fp) ifs fc) (he : ∀ C s H fp, JE (cxIn X N' scope cl C s H fp) elt fe)
    (hs : ∀ x, foldedSetIterable iter X.env x = pure x := by intro _; rfl) :
    JE X (.ListComp elt [⟨tg, iter, ifs, 0⟩] scope pos) (fComp fi nT cap tgF fc fe) := by
  intro pins s σ H Q I h
  obtain ⟨B, ρ, d, b, sB, rep, e, q⟩ := h
  obtain ⟨items, ei, e⟩ := Option.bind_eq_some_iff.mp e
  have hsz : items.length ≤ sizeLine := Decidable.byContradiction fun z => by rw [if_neg z] at e; cases e
  rw [if_pos hsz] at e
  obtain ⟨ds, ec, e⟩ := Option.map_eq_some_iff.mp e
  cases e
  rw [eval_ListComp]
  refine wpAny_comprehension_free (use := none) rfl hs S.clos S.kind S.names (thn (hi pins s σ H (fun J H2 => ∃ N1, Ext B N1 H H2 ∧ ItOk X.K J N1 items) I ⟨B, ρ, items, sB, rep, ei, fun J H2 N1 x1 j1 => ⟨N1, x1, j1⟩⟩) fun v s1 h1 => thn h1 fun itv s2 h2 => ?_)
  obtain ⟨it, fp, tn, J, H2, e, I2, T, st2, f2, N1, x1, j1⟩ := h2
  subst e
  refine comp_block hcalm S cp hg htg hc he I2 T st2 f2 (rep.mono x1.bn) x1.nh j1 hsz ec (RR := fun acc C => compPost (model X.prog X.w) X.A X.xe none (EP X pins σ Q) acc C) ?_
  intro Dd C s' H' N vs m hD I' hm fC x hN hl
  refine ⟨m, hm, fun h' hs' => ⟨.ref Dd, H', ?_, rfl, q _ H' N (x1.trans x) (.lst (SqL.of hN) hl) fun _ => ⟨Dd, vs, ds, rfl, rfl, x1.hh.free hD, hN, hl⟩⟩⟩
  obtain ⟨c0, c1, c2, c3, c4, c5⟩ := fC
  exact I'.turned (t' := s'.toks) (fun b o hb e => (hs'.2 b hb).trans e) c0 c1 c3 c4 c5
theorem js_comp {X : Cx} (hcalm : X.calm = true) {tg iter elt : Expr} {ifs : List Expr} {scope : Scope} {pos spos py : Pos} {cl : List (Str × Addr)} {N' : List Str} {nT : Nat} {cap : List Nat} {fi : FA} {tgF : FG} {g : TG} {fc : FT} {fe : FE} {y : Str} {i : Nat}
    (hN : X.N.Nodup) (hi' : X.N[i]? = some y) (hy : X.env.kindOf y = some .local)
    (hsw : swapsWith (.ListComp elt [⟨tg, iter, ifs, 0⟩] scope pos) (some (.Name y py)) spos.line X.env = pure true)
    (S : CompSc X scope cl) (cp : Caps X N' scope cl nT cap) (hi : JI X tg iter fi)
    (hg : ∀ C s H fp, PG (cxIn X N' scope cl C s H fp) tg g) (htg : TGE X.K nT tgF g) (hc : ∀ C s H fp, JC (cxIn X N' scope cl C s H fp) ifs fc) (he : ∀ C s H fp, JE (cxIn X N' scope cl C s H fp) elt fe)
    (hs : ∀ x, foldedSetIterable iter X.env x = pure x := by intro _; rfl) :
    JS X (.Assign [.Name y py] (.ListComp elt [⟨tg, iter, ifs, 0⟩] scope pos) spos) (gSet i (fComp fi nT cap tgF fc fe)) := by
  intro pins s σ H E I h
  have h2 : tAsg (tD X.K (fComp fi nT cap tgF fc fe)) (gName i) E σ H := tDS_set h
  obtain ⟨B, ρ, d, b, sB, rep, e, q⟩ := h2
  obtain ⟨items, ei, e⟩ := Option.bind_eq_some_iff.mp e
  have hsz : items.length ≤ sizeLine := Decidable.byContradiction fun z => by rw [if_neg z] at e; cases e
  rw [if_pos hsz] at e
  obtain ⟨ds, ec, e⟩ := Option.map_eq_some_iff.mp e
  cases e
  rw [exec_Assign_Name_used _ _ _ _ hsw]
  refine wpAny_bind (wpAny_standAt (wpAny_bind ?_))
  show wpAny _ _ (do let _ ← comprehension (.ListComp elt [⟨tg, iter, ifs, 0⟩] scope pos) scope X.env _ (newList []) false (eval iter X.env) (some (assign (.Name y py) X.env))) _ _ s
  refine wpAny_bind (wpAny_mono (wpAny_comprehension_free (use := some (assign (.Name y py) X.env)) (Q := fun _ s' => SP X pins E .next s') rfl hs S.clos S.kind S.names
    (thn (hi pins s σ H (fun J H2 => ∃ N1, Ext B N1 H H2 ∧ ItOk X.K J N1 items) I ⟨B, ρ, items, sB, rep, ei, fun J H2 N1 x1 j1 => ⟨N1, x1, j1⟩⟩) fun v s1 h1 => thn h1 fun itv s2 h2 => ?_)) (fun _ s' hq => wpAny_pure (wpAny_pure hq)) fun _ _ e => e)
  obtain ⟨it, fp, tn, J, H2, e, I2, T, st2, f2, N1, x1, j1⟩ := h2
  subst e
  refine comp_block hcalm S cp hg htg hc he I2 T st2 f2 (rep.mono x1.bn) x1.nh j1 hsz ec (RR := fun acc C => compPost (model X.prog X.w) X.A X.xe (some (assign (.Name y py) X.env)) (fun _ s' => SP X pins E .next s') acc C) ?_
  intro Dd C s' H' N vs m hD I' hm fC x hN' hl
  show wpAny _ _ (assign (.Name y py) X.env (.ref Dd)) _ _ s'
  obtain ⟨c0, c1, c2, c3, c4, c5⟩ := fC
  refine wpAny_assign_Name (store_ok2 I' hN hi' (.inl hy) (r := show RelV (.ref Dd) (.ref Dd) from rfl) (fun s9 I9 ⟨a, sb, ha⟩ => ?_) (.inr hy))
  have nC : C ≠ a := by
    rcases ha with z | z
    · rw [z]; exact c1
    · exact fun w => c4 y a z w.symm
  refine ⟨m, hm.sameBut sb nC, fun h' hs' => ⟨_, H', ?_, q _ H' N (x1.trans x) (.lst (SqL.of hN') hl) fun _ => ⟨Dd, vs, ds, rfl, rfl, x1.hh.free hD, hN', hl⟩⟩⟩
  exact I9.turned (t' := s9.toks) (fun b o hb e => (hs'.2 b hb).trans e) c0 c1 c3 c4 c5
section
variable {X : Cx} {a b c e : Expr} {pos : Pos}
theorem PE.to {t t' : TE} (h : PE X e t) (k : ∀ σ H Q, t' σ H Q → t σ H Q) : PE X e t' := fun pins s σ H Q I q => h pins s σ H Q I (k σ H Q q)
theorem PT.to {t t' : TT} (h : PT X e t) (k : ∀ σ H Q, t' σ H Q → t σ H Q) : PT X e t' := fun pins s σ H Q I q => h pins s σ H Q I (k σ H Q q)
theorem PW.to {t t' : TT} (h : PW X e t) (k : ∀ σ H Q, t' σ H Q → t σ H Q) : PW X e t' := fun wh pins s σ H Q I q => h wh pins s σ H Q I (k σ H Q q)
theorem PA.to {es : List Expr} {t t' : TA} (h : PA X es t) (k : ∀ σ H Q, t' σ H Q → t σ H Q) : PA X es t' := fun pos pins s σ H Q I q => h pos pins s σ H Q I (k σ H Q q)
theorem PS.to {st : Stmt} {t t' : TS} (h : PS X st t) (k : ∀ E σ H, t' E σ H → t E σ H) : PS X st t' := fun pins s σ H E I q => h pins s σ H E I (k E σ H q)
theorem PSs.to {st : List Stmt} {t t' : TS} (h : PSs X st t) (k : ∀ E σ H, t' E σ H → t E σ H) : PSs X st t' := fun pins s σ H E I q => h pins s σ H E I (k E σ H q)
theorem PI.to {tg it : Expr} {t t' : TI} (h : PI X tg it t) (k : ∀ σ H Q, t' σ H Q → t σ H Q) : PI X tg it t' := fun pins s σ H Q I q => h pins s σ H Q I (k σ H Q q)
theorem tD_C {K : PySem.W.Frag} {d : D} {v : V} (i : ∀ B, Is K B v d) {σ : St} {H : Hp} {Q : VK} (h : tD K (fC d) σ H Q) : tC v σ H Q := by
  obtain ⟨B, ρ, d', b, s, r, e, q⟩ := h
  cases e
  exact q.one s (i B)
theorem je_var (i : Nat) {x : Str} (hN : X.N[i]? = some x := by rfl) (hv : Vis X.env.scope x := by first | exact Or.inl rfl | exact Or.inr (Or.inl rfl) | exact Or.inr (Or.inr rfl)) (hd : (x == ("__debug__" : Str)) = false := by decide)
    (hcd : (x == ("__classdict__" : Str)) = false := by decide) : JE X (.Name x pos) (fVar i) := PE.to (pe_var hN hv hd hcd) fun _ _ _ h => tD_var h
theorem je_int {i : Int} {j : Nat} : JE X (.Constant (.int i) j pos) (fC (.int i)) := PE.to pe_int fun _ _ _ h => tD_C (fun _ => .int i) h
theorem je_bl {i : Bool} {j : Nat} : JE X (.Constant (.bool i) j pos) (fC (.bl i)) := PE.to pe_bl fun _ _ _ h => tD_C (fun _ => .bl i) h
theorem je_non {j : Nat} : JE X (.Constant .none j pos) (fC .non) := PE.to pe_non fun _ _ _ h => tD_C (fun _ => .non) h
theorem je_str {x : Str} {j : Nat} : JE X (.Constant (.str x) j pos) (fC (.str x)) := PE.to pe_str fun _ _ _ h => tD_C (fun _ => .str x) h
theorem je_glob {x : Str} {v : V} {d : D} {u : Value} (hg : Gl X x) (hm : X.mg x = some u) (r : RelV v u) (i : ∀ B, Is X.K B v d) (hd : (x == ("__debug__" : Str)) = false := by decide) : JE X (.Name x pos) (fC d) := PE.to (pe_glob hg hm r hd) fun _ _ _ h => tD_C i h
theorem je_op {op : Operator} {f : D → D → Option (D × Bool)} {fa fb : FE} (ho : OpR X (binaryOp op) (rD X.K f)) (ha : JE X a fa) (hb : JE X b fb) : JE X (.BinOp a op b pos) (f2 f fa fb) := PE.to (pe_op ho ha hb) fun _ _ _ h => tD_2 h
theorem je_un {op : UnaryOp} {f : D → Option (D × Bool)} {fa : FE} (ho : UnR X (unaryOp op) (rDU X.K f)) (ha : JE X a fa) : JE X (.UnaryOp op a pos) (f1 f fa) := PE.to (pe_un ho ha) fun _ _ _ h => tD_1 h
theorem je_cmp {op : CmpOp} {f : D → D → Option (D × Bool)} {fa fb : FE} (ho : OpR X (compareOp op) (rD X.K f)) (ha : JE X a fa) (hb : JE X b fb) (hm : behindInMarks op b = false := by first | exact nobehind _ (by decide) (by decide) | rfl) : JE X (.Compare a [op] [b] pos) (f2 f fa fb) := PE.to (pe_cmpR ho ha hb hm) fun _ _ _ h => tD_2 h
theorem tDT_of {K : PySem.W.Frag} {f : FE} {σ : St} {H : Hp} {Q : Bool → Hp → Prop} (h : tDT K (tOf f) σ H Q) : tD K f σ H fun x H' => ∃ k, x = .bl k ∧ Q k H' := by
  obtain ⟨B, ρ, c, s, r, e, q⟩ := h
  unfold tOf at e
  split at e
  · rename_i c' b' ef
    cases e
    refine ⟨B, ρ, .bl c, b', s, r, ef, fun v H' N x i _ => ?_⟩
    cases i
    exact ⟨c, rfl, q H' x.hh⟩
  · cases e
theorem jt_cmp {op : CmpOp} {f : D → D → Option (D × Bool)} {fa fb : FE} (ho : OpR X (compareOp op) (rD X.K f)) (ha : JE X a fa) (hb : JE X b fb) (hm : behindInMarks op b = false := by first | exact nobehind _ (by decide) (by decide) | rfl) : JT X (.Compare a [op] [b] pos) (tOf (f2 f fa fb)) :=
  PT.to (pt_cmpR ho ha hb hm) fun _ _ _ h => tD_2 (tDT_of h)
theorem jt_val {f : FE} (h : JE X e f) (he : ∀ whole, isTrue e X.env whole = (do let v ← whole; standAt e.pos; holding [v] (truthy v)) := by intro _; rfl) : JT X e (tOf f) := PT.to (pt_val h he) fun _ _ _ q => tDT_of q
@[simp] def fChain (f g : D → D → Option (D × Bool)) (fa fb fc : FE) : FE := fun ρ => (fa ρ).bind fun x => (fb ρ).bind fun y => match f x.1 y.1 with
  | some (.bl true, _) => (fc ρ).bind fun z => g y.1 z.1
  | some (.bl false, _) => some (.bl false, false)
  | _ => none
theorem tD_chain {K : PySem.W.Frag} {f g : D → D → Option (D × Bool)} {fa fb fc : FE} {σ : St} {H : Hp} {Q : VK} (h : tD K (fChain f g fa fb fc) σ H Q) : tChain (rD K f) (rD K g) (tD K fa) (tD K fb) (tD K fc) σ H Q := by
  obtain ⟨B, ρ, d, b, s, r, e, q⟩ := h
  obtain ⟨x, ex, e⟩ := Option.bind_eq_some_iff.mp e
  obtain ⟨y, ey, e⟩ := Option.bind_eq_some_iff.mp e
  refine ⟨B, ρ, x.1, x.2, s, r, ex, fun v H1 N1 x1 i1 _ => ⟨N1, ρ, y.1, y.2, x1.nh, r.mono x1.bn, ey, fun v2 H2 N2 x2 i2 _ => ?_⟩⟩
  split at e
  · rename_i b' ef
    obtain ⟨z, ez, e⟩ := Option.bind_eq_some_iff.mp e
    refine ⟨N2, x.1, y.1, .bl true, b', x2.nh, i1.mono x2.bn, i2, ef, fun v3 H3 N3 x3 i3 _ => ?_⟩
    cases i3
    refine ⟨true, rfl, ?_⟩
    rw [if_pos rfl]
    refine ⟨N3, ρ, z.1, z.2, x3.nh, r.mono (x1.bn.trans (x2.bn.trans x3.bn)), ez, fun v4 H4 N4 x4 i4 _ => ⟨N4, y.1, z.1, d, b, x4.nh, i2.mono (x3.bn.trans x4.bn), i4, e, ?_⟩⟩
    exact q.into ((x1.trans x2).trans (x3.trans x4))
  · rename_i b' ef
    cases e
    refine ⟨N2, x.1, y.1, .bl false, b', x2.nh, i1.mono x2.bn, i2, ef, fun v3 H3 N3 x3 i3 _ => ?_⟩
    cases i3
    refine ⟨false, rfl, ?_⟩
    rw [if_neg (by decide)]
    exact (q.into ((x1.trans x2).trans x3)).one x3.nh (.bl false)
  · cases e
theorem je_chain {op op' : CmpOp} {f g : D → D → Option (D × Bool)} {fa fb fc : FE} (ho : OpR X (compareOp op) (rD X.K f)) (ho' : OpR X (compareOp op') (rD X.K g)) (ha : JE X a fa) (hb : JE X b fb) (hc : JE X c fc)
    (hm : lastMarks [op, op'] [b, c] = false := by with_unfolding_all rfl) : JE X (.Compare a [op, op'] [b, c] pos) (fChain f g fa fb fc) := PE.to (pe_chain ho ho' ha hb hc hm) fun _ _ _ h => tD_chain h
theorem tDT_and {K : PySem.W.Frag} {f g : FT} {σ : St} {H : Hp} {Q : Bool → Hp → Prop} (h : tDT K (tAndF f g) σ H Q) : tAnd (tDT K f) (tDT K g) σ H Q := by
  obtain ⟨B, ρ, c, s, r, e, q⟩ := h
  unfold tAndF at e
  cases ef : f ρ with
  | none => rw [ef] at e; cases e
  | some k =>
    rw [ef] at e
    refine ⟨B, ρ, k, s, r, ef, fun H1 h1 => ?_⟩
    cases k with
    | true => rw [if_pos rfl]; exact ⟨B, ρ, c, s.trans h1, r, e, fun H2 h2 => q H2 (h1.trans h2)⟩
    | false => rw [if_neg (by decide)]; cases e; exact q H1 h1
theorem tDT_or {K : PySem.W.Frag} {f g : FT} {σ : St} {H : Hp} {Q : Bool → Hp → Prop} (h : tDT K (tOrF f g) σ H Q) : tOr (tDT K f) (tDT K g) σ H Q := by
  obtain ⟨B, ρ, c, s, r, e, q⟩ := h
  unfold tOrF at e
  cases ef : f ρ with
  | none => rw [ef] at e; cases e
  | some k =>
    rw [ef] at e
    refine ⟨B, ρ, k, s, r, ef, fun H1 h1 => ?_⟩
    cases k with
    | false => rw [if_neg (by decide)]; exact ⟨B, ρ, c, s.trans h1, r, e, fun H2 h2 => q H2 (h1.trans h2)⟩
    | true => rw [if_pos rfl]; cases e; exact q H1 h1
theorem tDT_not {K : PySem.W.Frag} {f : FT} {σ : St} {H : Hp} {Q : Bool → Hp → Prop} (h : tDT K (tNotF f) σ H Q) : tNot (tDT K f) σ H Q := by
  obtain ⟨B, ρ, c, s, r, e, q⟩ := h
  obtain ⟨k, ek, e⟩ := Option.map_eq_some_iff.mp e
  subst e
  exact ⟨B, ρ, k, s, r, ek, fun H1 h1 => q H1 h1⟩
variable {rest : List Expr}
theorem jw_and1 {f : FT} (ha : JT X a f) : JW X (.BoolOp .And [a] pos) f := pw_and1 ha
theorem jw_or1 {f : FT} (ha : JT X a f) : JW X (.BoolOp .Or [a] pos) f := pw_or1 ha
theorem jw_and {f g : FT} (ha : JT X a f) (hb : JW X (.BoolOp .And (b :: rest) pos) g) : JW X (.BoolOp .And (a :: b :: rest) pos) (tAndF f g) := PW.to (pw_and ha hb) fun _ _ _ h => tDT_and h
theorem jw_or {f g : FT} (ha : JT X a f) (hb : JW X (.BoolOp .Or (b :: rest) pos) g) : JW X (.BoolOp .Or (a :: b :: rest) pos) (tOrF f g) := PW.to (pw_or ha hb) fun _ _ _ h => tDT_or h
theorem jt_w {f : FT} (h : JW X e f) : JT X e f := h.pt
theorem jt_not {f : FT} (ha : JT X a f) : JT X (.UnaryOp .Not a pos) (tNotF f) := PT.to (pt_not ha) fun _ _ _ h => tDT_not h
@[simp] def fAnd (f g : FE) : FE := fun ρ => match f ρ with | some (.bl true, _) => g ρ | some (.bl false, _) => some (.bl false, false) | _ => none
@[simp] def fOr (f g : FE) : FE := fun ρ => match f ρ with | some (.bl true, _) => some (.bl true, false) | some (.bl false, _) => g ρ | _ => none
@[simp] def fNot (f : FE) : FE := fun ρ => match f ρ with | some (.bl c, _) => some (.bl (!c), false) | _ => none
theorem je_and {f g : FE} (ha : JE X a f) (hb : JE X (.BoolOp .And (b :: rest) pos) g) : JE X (.BoolOp .And (a :: b :: rest) pos) (fAnd f g) := PE.to (pe_and ha hb) fun σ H Q h => by
  obtain ⟨B, ρ, d, k, s, r, e, q⟩ := h
  unfold fAnd at e
  split at e
  · rename_i b' ef
    refine ⟨B, ρ, _, _, s, r, ef, fun v H1 N1 x1 i1 _ => ?_⟩
    cases i1
    refine ⟨true, rfl, ?_⟩
    rw [if_pos rfl]
    exact ⟨N1, ρ, d, k, x1.nh, r.mono x1.bn, e, q.into x1⟩
  · rename_i b' ef
    cases e
    refine ⟨B, ρ, _, _, s, r, ef, fun v H1 N1 x1 i1 _ => ?_⟩
    cases i1
    refine ⟨false, rfl, ?_⟩
    rw [if_neg (by decide)]
    exact (q.into x1).one x1.nh (.bl false)
  · cases e
theorem je_or {f g : FE} (ha : JE X a f) (hb : JE X (.BoolOp .Or (b :: rest) pos) g) : JE X (.BoolOp .Or (a :: b :: rest) pos) (fOr f g) := PE.to (pe_or ha hb) fun σ H Q h => by
  obtain ⟨B, ρ, d, k, s, r, e, q⟩ := h
  unfold fOr at e
  split at e
  · rename_i b' ef
    cases e
    refine ⟨B, ρ, _, _, s, r, ef, fun v H1 N1 x1 i1 _ => ?_⟩
    cases i1
    refine ⟨true, rfl, ?_⟩
    rw [if_pos rfl]
    exact (q.into x1).one x1.nh (.bl true)
  · rename_i b' ef
    refine ⟨B, ρ, _, _, s, r, ef, fun v H1 N1 x1 i1 _ => ?_⟩
    cases i1
    refine ⟨false, rfl, ?_⟩
    rw [if_neg (by decide)]
    exact ⟨N1, ρ, d, k, x1.nh, r.mono x1.bn, e, q.into x1⟩
  · cases e
theorem je_one {op : BoolOp} {f : FE} (h : JE X a f) : JE X (.BoolOp op [a] pos) f := pe_one h
variable {es : List Expr}
theorem ja_nil : JA X [] fNil := PA.to pa_nil fun _ _ _ h => tDA_nil h
theorem ja_cons {f : FE} {g : FA} (ha : JE X e f) (hr : JA X es g) (hs : starEach (e :: es) X.env = (false, eval e X.env) :: starEach es X.env := by rfl) : JA X (e :: es) (fCons f g) := PA.to (pa_cons ha hr hs) fun _ _ _ h => tDA_cons h
@[simp] def mkTup : List D → Option (D × Bool) := fun ds => if ds.length ≤ sizeLine then some (.tup ds, false) else none
@[simp] def mkLst : List D → Option (D × Bool) := fun ds => if ds.length ≤ sizeLine then some (.lst ds, true) else none
theorem je_tup {x1} {f : FA} (h : JA X es f) : JE X (.Tuple es x1 pos) (fA mkTup f) := PE.to (pe_tup h) fun σ H Q q => by
  obtain ⟨B, ρ, ds, s, r, e, k⟩ := tD_A q
  refine ⟨B, ρ, ds, s, r, e, fun vs H1 N1 x1 i1 => ?_⟩
  obtain ⟨B2, ds2, d, b, s2, i2, e2, k2⟩ := k vs H1 N1 x1 i1
  unfold mkTup at e2
  split at e2
  · rename_i hz
    cases e2
    refine ⟨by rw [i2.length]; exact hz, fun p hp => k2 _ _ (upd B2 p (.tup vs)) (.laid s2 hp) (.tup (SqT.of upd_same) (i2.mono (Ext.laid s2 hp).bn)) (by simp)⟩
  · cases e2
theorem je_lst {f : FA} (h : JA X es f) : JE X (.List es pos) (fA mkLst f) := PE.to (pe_lst h) fun σ H Q q => by
  obtain ⟨B, ρ, ds, s, r, e, k⟩ := tD_A q
  refine ⟨B, ρ, ds, s, r, e, fun vs H1 N1 x1 i1 => ?_⟩
  obtain ⟨B2, ds2, d, b, s2, i2, e2, k2⟩ := k vs H1 N1 x1 i1
  unfold mkLst at e2
  split at e2
  · rename_i hz
    cases e2
    refine ⟨by rw [i2.length]; exact hz, fun p hp => k2 _ _ (upd B2 p (.lst vs)) (.laid s2 hp) (.lst (SqL.of upd_same) (i2.mono (Ext.laid s2 hp).bn)) fun _ => ⟨p, vs, ds2, rfl, rfl, hp, upd_same, i2.mono (Ext.laid s2 hp).bn⟩⟩
  · cases e2
end
section
variable {X : Cx}
theorem opr_to {f : Value → Value → Sem Value} {r r' : R2} (h : OpR X f r) (k : ∀ x y H Q, r' x y H Q → r x y H Q) : OpR X f r' := fun pins s σ H x y v u Q I rx ry q => h pins s σ H x y v u Q I rx ry (k x y H Q q)
def orD (f g : D → D → Option (D × Bool)) : D → D → Option (D × Bool) := fun x y => match f x y with | some r => some r | none => g x y
theorem opr_or {s : Value → Value → Sem Value} {f g : D → D → Option (D × Bool)} (h : OpR X s (rD X.K f)) (h' : OpR X s (rD X.K g)) : OpR X s (rD X.K (orD f g)) := by
  intro pins st σ H x y v u Q I rx ry q
  obtain ⟨B, dx, dy, d, b, sB, ix, iy, e, q⟩ := q
  unfold orD at e
  split at e
  · rename_i r ef
    cases e
    exact h pins st σ H x y v u Q I rx ry ⟨B, dx, dy, _, _, sB, ix, iy, ef, q⟩
  · exact h' pins st σ H x y v u Q I rx ry ⟨B, dx, dy, _, _, sB, ix, iy, e, q⟩
@[simp] def iop (C : Int → Int → Bool) (g : Int → Int → D) : D → D → Option (D × Bool)
  | .int i, .int j => if C i j = true then some (g i j, false) else none
  | _, _ => none
theorem opr_iop {s : Value → Value → Sem Value} {C : Int → Int → Prop} {C' : Int → Int → Bool} {g : Int → Int → V} {g' : Int → Int → D} (h : OpR X s (rI C g)) (hC : ∀ i j, C' i j = true → C i j) (hg : ∀ i j B, Is X.K B (g i j) (g' i j)) : OpR X s (rD X.K (iop C' g')) := by
  refine opr_to h fun x y H Q q => ?_
  obtain ⟨B, dx, dy, d, b, sB, ix, iy, e, q⟩ := q
  cases ix <;> cases iy <;> try (simp [iop] at e; done)
  rename_i i j
  simp only [iop] at e
  split at e
  · rename_i hc
    cases e
    exact ⟨i, j, rfl, rfl, hC i j hc, q.one sB (hg i j B)⟩
  · cases e
theorem opr_iop0 {s : Value → Value → Sem Value} {g : Int → Int → V} {g' : Int → Int → D} (h : OpR X s (rI0 g)) (hg : ∀ i j B, Is X.K B (g i j) (g' i j)) : OpR X s (rD X.K (iop (fun _ _ => true) g')) := by
  refine opr_to h fun x y H Q q => ?_
  obtain ⟨B, dx, dy, d, b, sB, ix, iy, e, q⟩ := q
  cases ix <;> cases iy <;> try (simp [iop] at e; done)
  rename_i i j
  simp only [iop, if_true] at e
  cases e
  exact ⟨i, j, rfl, rfl, q.one sB (hg i j B)⟩
abbrev iAdd : D → D → Option (D × Bool) := iop (fun _ _ => true) fun i j => .int (i + j)
abbrev iSub : D → D → Option (D × Bool) := iop (fun _ _ => true) fun i j => .int (i - j)
abbrev iMul : D → D → Option (D × Bool) := iop (fun i j => decide ((-18446744073709551616 < i ∧ i < 18446744073709551616) ∨ (-18446744073709551616 < j ∧ j < 18446744073709551616))) fun i j => .int (i * j)
abbrev iDiv : D → D → Option (D × Bool) := iop (fun _ j => decide (0 < j ∧ j < 1073741824)) fun i j => .int (i / j)
abbrev iMod : D → D → Option (D × Bool) := iop (fun _ j => decide (0 < j)) fun i j => .int (i % j)
abbrev iLt : D → D → Option (D × Bool) := iop (fun _ _ => true) fun i j => .bl (decide (i < j))
abbrev iLe : D → D → Option (D × Bool) := iop (fun _ _ => true) fun i j => .bl (decide (i ≤ j))
abbrev iGt : D → D → Option (D × Bool) := iop (fun _ _ => true) fun i j => .bl (decide (j < i))
abbrev iGe : D → D → Option (D × Bool) := iop (fun _ _ => true) fun i j => .bl (decide (j ≤ i))
theorem o_add : OpR X (binaryOp .Add) (rD X.K iAdd) := opr_iop0 op_add fun _ _ _ => .int _
theorem o_sub : OpR X (binaryOp .Sub) (rD X.K iSub) := opr_iop0 op_sub fun _ _ _ => .int _
theorem o_mul : OpR X (binaryOp .Mult) (rD X.K iMul) := opr_iop op_mul (fun i j h => by have h := of_decide_eq_true h; unfold CMul; omega) fun _ _ _ => .int _
theorem o_fdiv : OpR X (binaryOp .FloorDiv) (rD X.K iDiv) := opr_iop op_fdiv (fun i j h => by have h := of_decide_eq_true h; unfold CDiv; omega) fun _ _ _ => .int _
theorem o_mod : OpR X (binaryOp .Mod) (rD X.K iMod) := opr_iop op_mod (fun _ _ h => of_decide_eq_true h) fun _ _ _ => .int _
theorem o_lt : OpR X (compareOp .Lt) (rD X.K iLt) := opr_iop0 op_lt fun _ _ _ => .bl _
theorem o_le : OpR X (compareOp .LtE) (rD X.K iLe) := opr_iop0 op_le fun _ _ _ => .bl _
theorem o_gt : OpR X (compareOp .Gt) (rD X.K iGt) := opr_iop0 op_gt fun _ _ _ => .bl _
theorem o_ge : OpR X (compareOp .GtE) (rD X.K iGe) := opr_iop0 op_ge fun _ _ _ => .bl _
@[simp] def sop (C : Str → Str → Bool) (g : Str → Str → D) : D → D → Option (D × Bool)
  | .str i, .str j => if C i j = true then some (g i j, false) else none
  | _, _ => none
abbrev sAdd : D → D → Option (D × Bool) := sop (fun i j => decide (i.length + j.length ≤ sizeLine)) fun i j => .str (i ++ j)
abbrev sLe : D → D → Option (D × Bool) := sop (fun _ _ => true) fun i j => .bl (!decide (j.cps.toList < i.cps.toList))
theorem o_adds : OpR X (binaryOp .Add) (rD X.K sAdd) := by
  refine opr_to op_add_str fun x y H Q q => ?_
  obtain ⟨B, dx, dy, d, b, sB, ix, iy, e, q⟩ := q
  cases ix <;> cases iy <;> try (simp [sAdd, sop] at e; done)
  rename_i i j
  simp only [sAdd, sop] at e
  split at e
  · rename_i hc
    cases e
    exact ⟨i, j, rfl, rfl, of_decide_eq_true hc, q.one sB (.str _)⟩
  · cases e
theorem o_les : OpR X (compareOp .LtE) (rD X.K sLe) := by
  intro pins s σ H x y v u Q I rx ry q
  obtain ⟨B, dx, dy, d, b, sB, ix, iy, e, q⟩ := q
  cases ix <;> cases iy <;> try (simp [sLe, sop] at e; done)
  rename_i i j
  simp only [sLe, sop, if_true] at e
  cases e
  obtain ⟨t, rfl⟩ := rx
  obtain ⟨t', rfl⟩ := ry
  exact PySem.P.le_str ⟨.bl _, H, I, rfl, q.one sB (.bl _)⟩
end
section
variable {X : Cx} {a b c e : Expr} {pos : Pos} {st : Stmt} {rest : List Stmt}
theorem js_nil : JSs X [] gNext := PSs.to pss_nil fun _ _ _ h => tDS_next h
theorem js_cons {g h : FS} (h1 : JS X st g) (h2 : JSs X rest h) : JSs X (st :: rest) (gSeq g h) := PSs.to (pss_cons h1 h2) fun _ _ _ q => tDS_seq q
theorem js_one {g : FS} (h1 : JS X st g) : JSs X [st] g := pss_one h1
theorem js_if {c : Expr} {a b : List Stmt} {fc : FT} {g h : FS} (hc : JT X c fc) (ha : JSs X a g) (hb : JSs X b h) : JS X (.If c a b pos) (gIf fc g h) := PS.to (ps_if hc ha hb) fun _ _ _ q => tDS_if q
theorem js_ret {f : FE} (he : JE X e f) : JS X (.Return (some e) pos) (gRet f) := PS.to (ps_ret he) fun _ _ _ q => tDS_ret q
theorem js_retV (i : Nat) {x : Str} {p : Pos} (hN : X.N[i]? = some x := by rfl) (hv : Vis X.env.scope x := by first | exact Or.inl rfl | exact Or.inr (Or.inl rfl) | exact Or.inr (Or.inr rfl)) (hd : (x == ("__debug__" : Str)) = false := by decide)
    (hcd : (x == ("__classdict__" : Str)) = false := by decide) : JS X (.Return (some (.Name x p)) pos) (gRetV i) := PS.to (ps_ret (pe_var hN hv hd hcd)) fun _ _ _ q => tDS_retV q
theorem js_set {i : Nat} {x : Str} {p : Pos} {f : FE} (hN : X.N.Nodup) (he : JE X e f) (hi : X.N[i]? = some x := by rfl) (hx : Loc X.env.scope x := by first | exact Or.inl rfl | exact Or.inr rfl) (hs : swapsWith e (some (.Name x p)) pos.line X.env = pure false := by rfl)
    (hf : X.fn x = true ∨ X.env.scope.names.lookup x = some .local := by first | exact .inl rfl | exact .inr rfl) : JS X (.Assign [.Name x p] e pos) (gSet i f) := PS.to (ps_set hN hi hx he hs hf) fun _ _ _ q => tDS_set q
theorem js_for {tg iter : Expr} {body : List Stmt} {fi : FA} {tgF : FG} {t : TG} {g : FS} (hp : PassesOwn (model X.prog X.w) X.A X.env X.xe) (hc : X.calm = true) (hi : JI X tg iter fi) (hg : PG X tg t) (ht : tDG X.K tgF t) (hb : JSs X body g)
    (hs : ∀ x, foldedSetIterable iter X.env x = pure x := by intro _; rfl) : JS X (.For tg iter body [] pos) (gFor fi tgF g) := PS.to (ps_for hp hc hi hg hb hs) fun _ _ _ q => tDS_for ht q
theorem js_forR {tg iter : Expr} {body : List Stmt} {fi : FA} {tgF : FG} {t : TG} {g : FS} (hp : PassesOwn (model X.prog X.w) X.A X.env X.xe) (hc : X.calm = true) (hi : PI X tg iter (tDR X.K fi)) (hg : PG X tg t) (ht : tDG X.K tgF t) (hb : JSs X body g)
    (hs : ∀ x, foldedSetIterable iter X.env x = pure x := by intro _; rfl) : JS X (.For tg iter body [] pos) (gForR fi tgF g) := PS.to (ps_for hp hc hi hg hb hs) fun _ _ _ q => tDS_forR ht q
theorem js_app {i : Nat} {x : Str} {p apos cpos : Pos} {f : FE} (he : JE X e f) (hN : X.N[i]? = some x := by rfl) (hv : Vis X.env.scope x := by first | exact Or.inl rfl | exact Or.inr (Or.inl rfl) | exact Or.inr (Or.inr rfl)) (hd : (x == ("__debug__" : Str)) = false := by decide)
    (hcd : (x == ("__classdict__" : Str)) = false := by decide)
    (hbase : attributeBase (.Name x p) "append" X.env (eval (.Name x p) X.env) = eval (.Name x p) X.env := by rfl)
    (hfew : ((backTo cpos (starEach [e] X.env)).all (fun x => !x.1) && (backToKw cpos (keywordEach [] X.env)).all (fun x => x.1.isSome)
      && decide ([e].length + ([] : List Keyword).length + (if ([] : List Keyword).isEmpty then 0 else 1) < 30)) = true := by rfl)
    (hline : (apos.endLine == cpos.line) = true := by rfl) (hs : starEach [e] X.env = [(false, eval e X.env)] := by rfl) (hsw : swapsWith (.Call (.Attribute (.Name x p) "append" apos) [e] [] cpos) none pos.line X.env = pure false := by rfl) :
    JS X (.Expr (.Call (.Attribute (.Name x p) "append" apos) [e] [] cpos) pos) (gApp i f) := by
  refine PS.to (ps_expr (pe_bm PySem.F.plainAttrs_list PySem.F.slot_list_append PySem.F.type_list_append mt_append (pe_var hN hv hd hcd) (pa_cons he pa_nil hs) hbase hfew hline hs rfl) hsw) fun E σ H q => ?_
  obtain ⟨a, us, h1, h2, k⟩ := tDS_app q
  exact ⟨_, h1, .inl ⟨rfl, us, SqL.of h2⟩, k⟩
end
@[simp] def bodyF (g : FS) (n k : Nat) : List D → Option (D × Bool) := fun ds => if ds.length = n then
  match g (ds.map (fun d => some (d, false)) ++ List.replicate k none) with
  | some (.rt d b) => some (d, b)
  | some (.nx _) => some (.non, false)
  | _ => none
  else none
def spD (K : PySem.W.Frag) (f : List D → Option (D × Bool)) : Sp := fun vs H Q _ => ∃ (B : Hp) (ds : List D) (d : D) (b : Bool), (Same B H ∧ Tb K B) ∧ IsL K B vs ds ∧ f ds = some (d, b) ∧ Fin K B H d b Q
theorem start_ok {K : PySem.W.Frag} {B H : Hp} {vs : List V} {ds : List D} {N : List Str} (sB : Same B H) (tb : Tb K B) (i : IsL K B vs ds) : StN K B H B H (L2.start N vs) (ds.map (fun d => some (d, false)) ++ List.replicate (N.length - vs.length) none) := by
  have nf : ∀ (j : Nat) (d : D) (b : Bool), (ds.map (fun d => some (d, false)) ++ List.replicate (N.length - vs.length) none : Env)[j]? = some (some (d, b)) → b = false ∧ ds[j]? = some d := fun j d b e => by
    by_cases hj : j < ds.length
    · rw [List.getElem?_append_left (by simpa using hj), List.getElem?_map] at e
      obtain ⟨d', h1, h2⟩ := Option.map_eq_some_iff.mp e
      cases h2
      exact ⟨rfl, h1⟩
    · rw [List.getElem?_append_right (by simpa using Nat.not_lt.mp hj), List.getElem?_replicate] at e
      split at e <;> cases e
  have no : ∀ a, ¬ own (L2.start N vs) (ds.map (fun d => some (d, false)) ++ List.replicate (N.length - vs.length) none) a := fun a ⟨j, d, h, _⟩ => by
    obtain ⟨z, _⟩ := nf j d true h; cases z
  refine ⟨sB, tb, .refl sB, ?_, fun j d e => ?_, fun j d e => ?_, fun j k a d e h => ?_⟩
  · unfold L2.start; rw [List.length_append, List.length_append, List.length_map, List.length_map, List.length_replicate, List.length_replicate, i.length]
  · obtain ⟨_, e1⟩ := nf j d false e
    obtain ⟨v, h1, h2⟩ := i.get e1
    refine ⟨v, ?_, h2.mono fun a o e => by rw [cut_of (no a)]; exact e⟩
    unfold L2.start
    have hj : j < vs.length := (List.getElem?_eq_some_iff.mp h1).1
    rw [List.getElem?_append_left (by simpa using hj), List.getElem?_map, h1] <;> rfl
  · obtain ⟨z, _⟩ := nf j d true e; cases z
  · obtain ⟨z, _⟩ := nf j d true h; cases z
section
variable {P : Program} {w : World} {K : PySem.W.Frag} {mg : Str → Option Value} {base : Heap}
theorem fn_D {x qual : Str} {st : Stmt} {f : Addr} {fd : FuncData} {N ps : List Str} {k : Nat} {g : FS} (F : Fun K x qual st f fd) (S : FnScope N ps (defScope st))
    (hb : ∀ (cdv : Value) (A : Around) (outer : List PySem.Env) (s : Shared) (H : Hp) (E : XK), Room k (A.deeper (envOfC qual (defScope st) s.heap.objs.size f cdv)) → JSs (cxOf CX0 P w K mg base N qual (defScope st) f cdv A outer s H E).nox (defBody st) g) :
    FnOk P w K mg base CX0 (k + 1) f fd ps (spD K (bodyF g ps.length (N.length - ps.length))) := by
  have len : ∀ vs H Q E, spD K (bodyF g ps.length (N.length - ps.length)) vs H Q E → vs.length = ps.length := fun vs H Q E h => by
    obtain ⟨B, ds, d, b, sB, i, e, q⟩ := h
    unfold bodyF at e
    split at e
    · rename_i hl; rw [i.length]; exact hl
    · cases e
  refine F.ok S len fun cdv A outer s H vs Q E hr h => ⟨_, hb cdv A outer s H E hr, ?_⟩
  have hlen := len vs H Q E h
  obtain ⟨B, ds, d, b, sB, i, e, q⟩ := h
  unfold bodyF at e
  rw [if_pos (by rw [← i.length]; exact hlen)] at e
  have s0 := start_ok (N := N) sB.1 sB.2 i
  rw [hlen] at s0
  split at e
  · rename_i d' b' eg
    cases e
    exact ⟨B, H, _, _, ⟨B, s0⟩, eg, fun v H' N' x' i' f' => q v H' N' x' i' f'⟩
  · rename_i ρ' eg
    cases e
    exact ⟨B, H, _, _, ⟨B, s0⟩, eg, fun σ' H' ⟨N', s'⟩ => q .non H' N' s'.ext .non (by simp)⟩
  · cases e
structure Fn (P : Program) (w : World) (K : PySem.W.Frag) (mg : Str → Option Value) (base : Heap) (k : Nat) (x : Str) (f : List D → Option (D × Bool)) : Prop where
  ex : ∃ (ad : Addr) (fd : FuncData) (ps : List Str), FnOk P w K mg base CX0 k ad fd ps (spD K f) ∧ mg x = some (.ref ad) ∧ PySem.W.keepIn K (.ref ad) = true ∧ Binds K fd ps []
theorem Fn.mono {j k : Nat} {x : Str} {f : List D → Option (D × Bool)} (F : Fn P w K mg base j x f) (h : j ≤ k) : Fn P w K mg base k x f := by
  obtain ⟨ad, fd, ps, F1, h2⟩ := F.ex
  exact ⟨ad, fd, ps, F1.mono h, h2⟩
end
theorem je_call {X : Cx} {k : Nat} {x : Str} {f : List D → Option (D × Bool)} {fa : FA} {e : Expr} {es : List Expr} {p pos : Pos} (F : Fn X.prog X.w X.K X.mg X.base k x f) (hr : Room k X.A) (ha : JA X (e :: es) fa) (hg : Gl X x := by rfl)
    (hdb : (x == ("__debug__" : Str)) = false := by decide) (he : starEach (e :: es) X.env = (false, eval e X.env) :: starEach es X.env := by rfl) (hpl : (backTo pos (starEach es X.env)).any (·.1) = false := by rfl) :
    JE X (.Call (.Name x p) (e :: es) [] pos) (fA f fa) := by
  obtain ⟨ad, fd, ps, F1, hm, hk, hb⟩ := F.ex
  refine PE.to (pe_call F1 hr hg hm hk hb .nil pass0 ha hdb he hpl) fun σ H Q q => ?_
  obtain ⟨B, ρ, d, b, s, r, e, q⟩ := q
  obtain ⟨ds, ex, e⟩ := Option.bind_eq_some_iff.mp e
  exact ⟨B, ρ, ds, s, r, ex, fun vs H1 N1 x1 i1 => by
    show spD X.K f (vs ++ []) H1 Q _
    rw [List.append_nil]
    exact ⟨N1, ds, d, b, ⟨x1.nh, r.tb.mono x1.bn⟩, i1, e, q.into x1⟩⟩
mutual
def eqD : D → D → Bool
  | .non, .non => true
  | .bl a, .bl b => a == b
  | .bl a, .int b => decide ((if a then 1 else 0) = b)
  | .int a, .bl b => decide (a = (if b then 1 else 0))
  | .int a, .int b => decide (a = b)
  | .str a, .str b => decide (a = b)
  | .tup xs, .tup ys => eqDs xs ys
  | .lst xs, .lst ys => eqDs xs ys
  | _, _ => false
def eqDs : List D → List D → Bool
  | [], [] => true
  | x :: xs, y :: ys => eqD x y && eqDs xs ys
  | _, _ => false
end
@[simp] theorem eqD_non_non : eqD .non .non = true := by simp only [eqD]
@[simp] theorem eqD_non_bl (b : Bool) : eqD .non (.bl b) = false := by simp only [eqD]
@[simp] theorem eqD_non_int (b : Int) : eqD .non (.int b) = false := by simp only [eqD]
@[simp] theorem eqD_non_str (b : Str) : eqD .non (.str b) = false := by simp only [eqD]
@[simp] theorem eqD_non_tup (b : List D) : eqD .non (.tup b) = false := by simp only [eqD]
@[simp] theorem eqD_non_lst (b : List D) : eqD .non (.lst b) = false := by simp only [eqD]
@[simp] theorem eqD_bl_non (a : Bool) : eqD (.bl a) .non = false := by simp only [eqD]
@[simp] theorem eqD_bl_bl (a : Bool) (b : Bool) : eqD (.bl a) (.bl b) = (a == b) := by simp only [eqD]
@[simp] theorem eqD_bl_int (a : Bool) (b : Int) : eqD (.bl a) (.int b) = decide ((if a then 1 else 0) = b) := by simp only [eqD]
@[simp] theorem eqD_bl_str (a : Bool) (b : Str) : eqD (.bl a) (.str b) = false := by simp only [eqD]
@[simp] theorem eqD_bl_tup (a : Bool) (b : List D) : eqD (.bl a) (.tup b) = false := by simp only [eqD]
@[simp] theorem eqD_bl_lst (a : Bool) (b : List D) : eqD (.bl a) (.lst b) = false := by simp only [eqD]
@[simp] theorem eqD_int_non (a : Int) : eqD (.int a) .non = false := by simp only [eqD]
@[simp] theorem eqD_int_bl (a : Int) (b : Bool) : eqD (.int a) (.bl b) = decide (a = (if b then 1 else 0)) := by simp only [eqD]
@[simp] theorem eqD_int_int (a : Int) (b : Int) : eqD (.int a) (.int b) = decide (a = b) := by simp only [eqD]
@[simp] theorem eqD_int_str (a : Int) (b : Str) : eqD (.int a) (.str b) = false := by simp only [eqD]
@[simp] theorem eqD_int_tup (a : Int) (b : List D) : eqD (.int a) (.tup b) = false := by simp only [eqD]
@[simp] theorem eqD_int_lst (a : Int) (b : List D) : eqD (.int a) (.lst b) = false := by simp only [eqD]
@[simp] theorem eqD_str_non (a : Str) : eqD (.str a) .non = false := by simp only [eqD]
@[simp] theorem eqD_str_bl (a : Str) (b : Bool) : eqD (.str a) (.bl b) = false := by simp only [eqD]
@[simp] theorem eqD_str_int (a : Str) (b : Int) : eqD (.str a) (.int b) = false := by simp only [eqD]
@[simp] theorem eqD_str_str (a : Str) (b : Str) : eqD (.str a) (.str b) = decide (a = b) := by simp only [eqD]
@[simp] theorem eqD_str_tup (a : Str) (b : List D) : eqD (.str a) (.tup b) = false := by simp only [eqD]
@[simp] theorem eqD_str_lst (a : Str) (b : List D) : eqD (.str a) (.lst b) = false := by simp only [eqD]
@[simp] theorem eqD_tup_non (a : List D) : eqD (.tup a) .non = false := by simp only [eqD]
@[simp] theorem eqD_tup_bl (a : List D) (b : Bool) : eqD (.tup a) (.bl b) = false := by simp only [eqD]
@[simp] theorem eqD_tup_int (a : List D) (b : Int) : eqD (.tup a) (.int b) = false := by simp only [eqD]
@[simp] theorem eqD_tup_str (a : List D) (b : Str) : eqD (.tup a) (.str b) = false := by simp only [eqD]
@[simp] theorem eqD_tup_tup (a : List D) (b : List D) : eqD (.tup a) (.tup b) = eqDs a b := by simp only [eqD]
@[simp] theorem eqD_tup_lst (a : List D) (b : List D) : eqD (.tup a) (.lst b) = false := by simp only [eqD]
@[simp] theorem eqD_lst_non (a : List D) : eqD (.lst a) .non = false := by simp only [eqD]
@[simp] theorem eqD_lst_bl (a : List D) (b : Bool) : eqD (.lst a) (.bl b) = false := by simp only [eqD]
@[simp] theorem eqD_lst_int (a : List D) (b : Int) : eqD (.lst a) (.int b) = false := by simp only [eqD]
@[simp] theorem eqD_lst_str (a : List D) (b : Str) : eqD (.lst a) (.str b) = false := by simp only [eqD]
@[simp] theorem eqD_lst_tup (a : List D) (b : List D) : eqD (.lst a) (.tup b) = false := by simp only [eqD]
@[simp] theorem eqD_lst_lst (a : List D) (b : List D) : eqD (.lst a) (.lst b) = eqDs a b := by simp only [eqD]
@[simp] theorem eqDs_nil : eqDs [] [] = true := by rw [eqDs]
@[simp] theorem eqDs_cons (x y : D) (xs ys : List D) : eqDs (x :: xs) (y :: ys) = (eqD x y && eqDs xs ys) := by rw [eqDs]
@[simp] theorem eqDs_nc (y : D) (ys : List D) : eqDs [] (y :: ys) = false := by simp only [eqDs]
@[simp] theorem eqDs_cn (x : D) (xs : List D) : eqDs (x :: xs) [] = false := by simp only [eqDs]
def plainN : Nat → D → Bool
  | _, .non => true
  | _, .bl _ => true
  | _, .int _ => true
  | _, .str _ => true
  | _, .ty _ => false
  | _, .dk _ _ => false
  | _, .dt _ _ => false
  | 0, .tup _ => false
  | 0, .lst _ => false
  | n + 1, .tup ds => ds.all (plainN n)
  | n + 1, .lst ds => ds.all (plainN n)
@[simp] theorem plainN_non (n : Nat) : plainN n .non = true := by cases n <;> simp only [plainN]
@[simp] theorem plainN_bl (n : Nat) (a : Bool) : plainN n (.bl a) = true := by cases n <;> simp only [plainN]
@[simp] theorem plainN_int (n : Nat) (a : Int) : plainN n (.int a) = true := by cases n <;> simp only [plainN]
@[simp] theorem plainN_str (n : Nat) (a : Str) : plainN n (.str a) = true := by cases n <;> simp only [plainN]
@[simp] theorem plainN_dk (n : Nat) (ks : List Key) (vs : List D) : plainN n (.dk ks vs) = false := by cases n <;> simp only [plainN]
@[simp] theorem plainN_dt (n : Nat) (ks : List (List Key)) (vs : List D) : plainN n (.dt ks vs) = false := by cases n <;> simp only [plainN]
@[simp] theorem plainN_tup (n : Nat) (ds : List D) : plainN (n + 1) (.tup ds) = ds.all (plainN n) := by simp only [plainN]
@[simp] theorem plainN_lst (n : Nat) (ds : List D) : plainN (n + 1) (.lst ds) = ds.all (plainN n) := by simp only [plainN]
theorem eqDs_len : ∀ {xs ys : List D}, eqDs xs ys = true → xs.length = ys.length
  | [], [], _ => rfl
  | x :: xs, y :: ys, h => by
    simp only [eqDs, Bool.and_eq_true] at h
    rw [List.length_cons, List.length_cons, eqDs_len h.2]
  | [], _ :: _, h => by simp [eqDs] at h
  | _ :: _, [], h => by simp [eqDs] at h
theorem eqDs_ne {xs ys : List D} (h : xs.length ≠ ys.length) : eqDs xs ys = false := by
  cases e : eqDs xs ys with
  | false => rfl
  | true => exact absurd (eqDs_len e) h
theorem eqDs_range (f : Nat → Bool) : ∀ {xs ys : List D}, xs.length = ys.length → (∀ (j : Nat) x y, xs[j]? = some x → ys[j]? = some y → f j = eqD x y) → (List.range xs.length).all f = eqDs xs ys
  | [], [], _, _ => by simp [eqDs]
  | x :: xs, y :: ys, hl, h => by
    have e := eqDs_range (fun j => f (j + 1)) (xs := xs) (ys := ys) (by simpa using hl) fun j a b h1 h2 => h (j + 1) a b (by simpa using h1) (by simpa using h2)
    rw [List.length_cons, List.range_succ_eq_map, List.all_cons, List.all_map, eqDs, ← h 0 x y rfl rfl, ← e]
    rfl
  | [], _ :: _, hl, _ => by simp at hl
  | _ :: _, [], hl, _ => by simp at hl
section
variable {X : Cx} {pins : List (Addr × Obj)} {σ : St} {H : Hp} {s : Shared}
theorem no_both (I : Inv X pins σ H s) {a : Addr} {vs ws : List V} (h1 : SqT X.K H a vs) (h2 : SqL X.K H a ws) : False := by
  obtain ⟨its, _, ⟨o, e, c, _⟩, _⟩ := I.tuple h1
  obtain ⟨its', _, ⟨o', n', e', c', _⟩, _⟩ := I.list h2
  rw [e] at e'; cases e'
  rw [c] at c'
  injection c' with z
  exact absurd z (by decide)
theorem no_dict (I : Inv X pins σ H s) {a : Addr} {o : Obj} {its : Array Value} {n : Nat} (e : s.heap.get? a = some o) (d : o.data = .seq its n) : (∀ kvs, H a ≠ some (.dK kvs)) ∧ ∀ kvs, H a ≠ some (.dT kvs) := by
  refine ⟨fun kvs h => ?_, fun kvs h => ?_⟩
  · obtain ⟨_, _, _, _, o', es, ep, e', _, d', _⟩ := (show ObjOk X.prog X.w H s.heap a (.dK kvs) from I.hok a _ h)
    rw [e] at e'; cases e'; rw [d] at d'; cases d'
  · obtain ⟨_, _, _, _, o', es, ep, e', _, d', _⟩ := (show ObjOk X.prog X.w H s.heap a (.dT kvs) from I.hok a _ h)
    rw [e] at e'; cases e'; rw [d] at d'; cases d'
theorem no_dictT (I : Inv X pins σ H s) {a : Addr} {vs : List V} (h1 : SqT X.K H a vs) : (∀ kvs, H a ≠ some (.dK kvs)) ∧ ∀ kvs, H a ≠ some (.dT kvs) := by
  obtain ⟨its, _, ⟨o, e, c, n, d⟩, _⟩ := I.tuple h1
  exact no_dict I e d
theorem no_dictL (I : Inv X pins σ H s) {a : Addr} {vs : List V} (h1 : SqL X.K H a vs) : (∀ kvs, H a ≠ some (.dK kvs)) ∧ ∀ kvs, H a ≠ some (.dT kvs) := by
  obtain ⟨its, _, p, _⟩ := I.list h1
  obtain ⟨o, e, c, n, d⟩ := p.isList
  exact no_dict I e d
theorem eq_same (I : Inv X pins σ H s) : ∀ (n : Nat) {v : V} {d d' : D}, Is X.K H v d → Is X.K H v d' → plainN n d = true → eqD d d' = true := by
  have lists : ∀ {p : D → Bool} (ih : ∀ {v : V} {d d' : D}, Is X.K H v d → Is X.K H v d' → p d = true → eqD d d' = true) {vs : List V} {ds ds' : List D}, IsL X.K H vs ds → IsL X.K H vs ds' → ds.all p = true → eqDs ds ds' = true := by
    intro p ih vs
    induction vs with
    | nil => intro ds ds' h h' _; cases h; cases h'; simp [eqDs]
    | cons v vs ihv =>
      intro ds ds' h h' hp
      cases h with
      | cons h1 h2 =>
        cases h' with
        | cons h3 h4 =>
          rw [List.all_cons, Bool.and_eq_true] at hp
          rw [eqDs, ih h1 h3 hp.1, ihv h2 h4 hp.2]; rfl
  intro n
  induction n with
  | zero =>
    intro v d d' h h' hp
    cases h <;> cases h' <;> first | (simp [plainN] at hp; done) | simp [eqD]
  | succ n ih =>
    intro v d d' h h' hp
    cases h with
    | tup h1 h2 =>
      cases h' with
      | tup h3 h4 =>
        rw [I.tuple_inj h3 h1] at h4
        rw [eqD]; exact lists ih h2 h4 (by simpa [plainN] using hp)
      | lst h3 h4 => exact (no_both I h1 h3).elim
      | dk h3 _ _ => exact ((no_dictT I h1).1 _ h3).elim
      | dt h3 _ _ => exact ((no_dictT I h1).2 _ h3).elim
    | lst h1 h2 =>
      cases h' with
      | lst h3 h4 =>
        rw [I.list_inj h3 h1] at h4
        rw [eqD]; exact lists ih h2 h4 (by simpa [plainN] using hp)
      | tup h3 h4 => exact (no_both I h3 h1).elim
      | dk h3 _ _ => exact ((no_dictL I h1).1 _ h3).elim
      | dt h3 _ _ => exact ((no_dictL I h1).2 _ h3).elim
    | ty => simp [plainN] at hp
    | dk => simp [plainN] at hp
    | dt => simp [plainN] at hp
    | _ => cases h' <;> simp [eqD]
theorem at_of {α : Type} {p : α → Bool} {l : List α} {j : Nat} {x : α} (h : l.all p = true) (e : l[j]? = some x) : p x = true := List.all_eq_true.mp h x (List.mem_of_getElem? e)
theorem items_eq {A : Around} {p : D → Bool} (ih : ∀ {v1 v2 : V} {d1 d2 : D} {u1 u2 : Value}, p d1 = true → p d2 = true → Is X.K H v1 d1 → Is X.K H v2 d2 → RelV v1 u1 → RelV v2 u2 → SeqAt.EqAt A s u1 u2 (eqD d1 d2))
    {vs ws : List V} {ds es : List D} {its jts : List Value} (i1 : IsL X.K H vs ds) (i2 : IsL X.K H ws es) (r1 : Vals vs its) (r2 : Vals ws jts) (p1 : ds.all p = true) (p2 : es.all p = true) :
    ∀ j (h1 : j < its.toArray.size) (h2 : j < jts.toArray.size), SeqAt.EqAt A s its.toArray[j] jts.toArray[j] (eqD (ds.getD j .non) (es.getD j .non)) := by
  intro j h1 h2
  rw [List.size_toArray] at h1 h2
  have l1 := r1.length; have l2 := r2.length; have l3 := i1.length; have l4 := i2.length
  have hv : j < vs.length := by omega
  have hw : j < ws.length := by omega
  have hd : j < ds.length := by omega
  have he : j < es.length := by omega
  obtain ⟨u, e1, q1⟩ := r1.get (i := j) (x := vs[j]) (by simp [hv])
  obtain ⟨u', e2, q2⟩ := r2.get (i := j) (x := ws[j]) (by simp [hw])
  obtain ⟨v, e3, q3⟩ := i1.get (i := j) (d := ds[j]) (by simp [hd])
  obtain ⟨w, e4, q4⟩ := i2.get (i := j) (d := es[j]) (by simp [he])
  have a1 : its.toArray[j] = u := by have z := (List.getElem?_eq_some_iff.mp e1).2; simpa using z
  have a2 : jts.toArray[j] = u' := by have z := (List.getElem?_eq_some_iff.mp e2).2; simpa using z
  have a3 : vs[j] = v := by simpa [hv] using e3
  have a4 : ws[j] = w := by simpa [hw] using e4
  have a5 : ds.getD j .non = ds[j] := by simp [List.getD, hd]
  have a6 : es.getD j .non = es[j] := by simp [List.getD, he]
  rw [a1, a2, a5, a6]
  exact ih (at_of p1 (j := j) (by simp [hd])) (at_of p2 (j := j) (by simp [he])) (a3 ▸ q3) (a4 ▸ q4) q1 q2
theorem getD_eq {xs ys : List D} (j : Nat) (x y : D) (h1 : xs[j]? = some x) (h2 : ys[j]? = some y) : eqD (xs.getD j .non) (ys.getD j .non) = eqD x y := by
  simp [List.getD, h1, h2]
abbrev Tri (A : Around) (s : Shared) (u1 u2 : Value) (b : Bool) : Prop := SeqAt.RcAt A s u1 u2 b ∧ SeqAt.EqAt A s u1 u2 b ∧ SeqAt.RcNeAt A s u1 u2 (!b)
theorem tri_flat {A : Around} {v1 v2 : V} {d1 d2 : D} {u1 u2 : Value} (p1 : plainN 0 d1 = true) (p2 : plainN 0 d2 = true) (i1 : Is X.K H v1 d1) (i2 : Is X.K H v2 d2) (r1 : RelV v1 u1) (r2 : RelV v2 u2) : Tri A s u1 u2 (eqD d1 d2) := by
  cases i1 with
  | non =>
    cases r1
    cases i2 with
    | non =>
      cases r2
      rw [eqD_non_non]
      exact ⟨SeqAt.RcAt.none_none, SeqAt.EqAt.same _, SeqAt.RcNeAt.none_none⟩
    | bl b =>
      cases r2
      rw [eqD_non_bl]
      exact ⟨SeqAt.RcAt.none_bool _, SeqAt.EqAt.none_bool _, SeqAt.RcNeAt.none_bool _⟩
    | int b =>
      obtain ⟨t', rfl⟩ := r2
      rw [eqD_non_int]
      exact ⟨SeqAt.RcAt.none_int _ _, SeqAt.EqAt.none_int _ _, SeqAt.RcNeAt.none_int _ _⟩
    | str b =>
      obtain ⟨t', rfl⟩ := r2
      rw [eqD_non_str]
      exact ⟨SeqAt.RcAt.none_str _ _, SeqAt.EqAt.none_str _ _, SeqAt.RcNeAt.none_str _ _⟩
    | ty => simp [plainN] at p2
    | dk => simp [plainN] at p2
    | dt => simp [plainN] at p2
    | tup => simp [plainN] at p2
    | lst => simp [plainN] at p2
  | bl a =>
    cases r1
    cases i2 with
    | non =>
      cases r2
      rw [eqD_bl_non]
      exact ⟨SeqAt.RcAt.bool_none _, SeqAt.EqAt.bool_none _, SeqAt.RcNeAt.bool_none _⟩
    | bl b =>
      cases r2
      rw [eqD_bl_bl]
      exact ⟨SeqAt.RcAt.bool_bool _ _, SeqAt.EqAt.bool_bool _ _, SeqAt.RcNeAt.bool_bool _ _⟩
    | int b =>
      obtain ⟨t', rfl⟩ := r2
      rw [eqD_bl_int, ← Bool.beq_eq_decide_eq]
      exact ⟨SeqAt.RcAt.bool_int _ _ _, SeqAt.EqAt.bool_int _ _ _, SeqAt.RcNeAt.bool_int _ _ _⟩
    | str b =>
      obtain ⟨t', rfl⟩ := r2
      rw [eqD_bl_str]
      exact ⟨SeqAt.RcAt.bool_str _ _ _, SeqAt.EqAt.bool_str _ _ _, SeqAt.RcNeAt.bool_str _ _ _⟩
    | ty => simp [plainN] at p2
    | dk => simp [plainN] at p2
    | dt => simp [plainN] at p2
    | tup => simp [plainN] at p2
    | lst => simp [plainN] at p2
  | int a =>
    obtain ⟨t, rfl⟩ := r1
    cases i2 with
    | non =>
      cases r2
      rw [eqD_int_non]
      exact ⟨SeqAt.RcAt.int_none _ _, SeqAt.EqAt.int_none _ _, SeqAt.RcNeAt.int_none _ _⟩
    | bl b =>
      cases r2
      rw [eqD_int_bl, ← Bool.beq_eq_decide_eq]
      exact ⟨SeqAt.RcAt.int_bool _ _ _, SeqAt.EqAt.int_bool _ _ _, SeqAt.RcNeAt.int_bool _ _ _⟩
    | int b =>
      obtain ⟨t', rfl⟩ := r2
      rw [eqD_int_int, ← Bool.beq_eq_decide_eq]
      exact ⟨SeqAt.RcAt.int_int _ _ _ _, SeqAt.EqAt.int_int _ _ _ _, SeqAt.RcNeAt.int_int _ _ _ _⟩
    | str b =>
      obtain ⟨t', rfl⟩ := r2
      rw [eqD_int_str]
      exact ⟨SeqAt.RcAt.int_str _ _ _ _, SeqAt.EqAt.int_str _ _ _ _, SeqAt.RcNeAt.int_str _ _ _ _⟩
    | ty => simp [plainN] at p2
    | dk => simp [plainN] at p2
    | dt => simp [plainN] at p2
    | tup => simp [plainN] at p2
    | lst => simp [plainN] at p2
  | str a =>
    obtain ⟨t, rfl⟩ := r1
    cases i2 with
    | non =>
      cases r2
      rw [eqD_str_non]
      exact ⟨SeqAt.RcAt.str_none _ _, SeqAt.EqAt.str_none _ _, SeqAt.RcNeAt.str_none _ _⟩
    | bl b =>
      cases r2
      rw [eqD_str_bl]
      exact ⟨SeqAt.RcAt.str_bool _ _ _, SeqAt.EqAt.str_bool _ _ _, SeqAt.RcNeAt.str_bool _ _ _⟩
    | int b =>
      obtain ⟨t', rfl⟩ := r2
      rw [eqD_str_int]
      exact ⟨SeqAt.RcAt.str_int _ _ _ _, SeqAt.EqAt.str_int _ _ _ _, SeqAt.RcNeAt.str_int _ _ _ _⟩
    | str b =>
      obtain ⟨t', rfl⟩ := r2
      rw [eqD_str_str, ← Bool.beq_eq_decide_eq]
      exact ⟨SeqAt.RcAt.str_str _ _ _ _, SeqAt.EqAt.str_str _ _ _ _, SeqAt.RcNeAt.str_str _ _ _ _⟩
    | ty => simp [plainN] at p2
    | dk => simp [plainN] at p2
    | dt => simp [plainN] at p2
    | tup => simp [plainN] at p2
    | lst => simp [plainN] at p2
  | ty => simp [plainN] at p1
  | dk => simp [plainN] at p1
  | dt => simp [plainN] at p1
  | tup => simp [plainN] at p1
  | lst => simp [plainN] at p1
theorem tri_D (I : Inv X pins σ H s) : ∀ (n : Nat) {A : Around} {v1 v2 : V} {d1 d2 : D} {u1 u2 : Value}, A.units + n < cLine → plainN n d1 = true → plainN n d2 = true → Is X.K H v1 d1 → Is X.K H v2 d2 → RelV v1 u1 → RelV v2 u2 → Tri A s u1 u2 (eqD d1 d2) := by
  intro n
  induction n with
  | zero => exact fun _ p1 p2 i1 i2 r1 r2 => tri_flat p1 p2 i1 i2 r1 r2
  | succ n ih =>
    intro A v1 v2 d1 d2 u1 u2 hu p1 p2 i1 i2 r1 r2
    have hu0 : A.units < cLine := by omega
    have ih' : ∀ {v1 v2 : V} {d1 d2 : D} {u1 u2 : Value}, plainN n d1 = true → plainN n d2 = true → Is X.K H v1 d1 → Is X.K H v2 d2 → RelV v1 u1 → RelV v2 u2 → SeqAt.EqAt A.in1 s u1 u2 (eqD d1 d2) := fun p1 p2 i1 i2 r1 r2 => (ih (A := A.in1) (by show A.units + 1 + n < cLine; omega) p1 p2 i1 i2 r1 r2).2.1
    cases i1 with
    | tup h1 k1 =>
      cases r1
      obtain ⟨its, rv1, t1, z1⟩ := I.tuple h1
      have t1' : s.heap.IsTuple _ its.toArray := t1
      have q1 := p1
      simp only [plainN] at q1
      cases i2 with
      | tup h2 k2 =>
        cases r2
        obtain ⟨jts, rv2, t2, z2⟩ := I.tuple h2
        have t2' : s.heap.IsTuple _ jts.toArray := t2
        have q2 := p2
        simp only [plainN] at q2
        rename_i a1 vs ds a2 ws es
        have he := items_eq (A := A.in1) (p := plainN n) ih' k1 k2 rv1 rv2 q1 q2
        have eqv : ((List.range (min its.toArray.size jts.toArray.size)).all (fun j => eqD (ds.getD j .non) (es.getD j .non)) && its.toArray.size == jts.toArray.size) = eqD (.tup ds) (.tup es) := by
          rw [eqD, List.size_toArray, List.size_toArray, ← rv1.length, ← rv2.length, k1.length, k2.length]
          by_cases hl : ds.length = es.length
          · rw [← hl, Nat.min_self, beq_self_eq_true, Bool.and_true]
            exact eqDs_range _ hl fun j x y e1 e2 => getD_eq j x y e1 e2
          · rw [eqDs_ne hl, beq_eq_false_iff_ne.mpr hl, Bool.and_false]
        have rc := SeqAt.RcAt.tuples t1' t2' hu0 he
        have rn := SeqAt.RcNeAt.tuples t1' t2' hu0 he
        rw [eqv] at rc rn
        refine ⟨rc, ?_, rn⟩
        by_cases ha : a1 = a2
        · subst ha
          rw [eq_same I (n + 1) (.tup h1 k1) (.tup h2 k2) p1]
          exact SeqAt.EqAt.same _
        · exact SeqAt.EqAt.of_refs ha rc
      | lst h2 k2 =>
        cases r2
        obtain ⟨jts, rv2, t2, z2⟩ := I.list h2
        rw [show eqD (.tup _) (.lst _) = false by simp only [eqD]]
        exact ⟨SeqAt.RcAt.tuple_list t1' t2.isList hu0, SeqAt.EqAt.tuple_list t1' t2.isList hu0, SeqAt.RcNeAt.tuple_list t1' t2.isList hu0⟩
      | ty => simp [plainN] at p2
      | dk => simp [plainN] at p2
      | dt => simp [plainN] at p2
      | non => cases r2; simp only [eqD]; exact ⟨SeqAt.RcAt.tuple_none t1' hu0, SeqAt.EqAt.tuple_none t1' hu0, SeqAt.RcNeAt.tuple_none t1' hu0⟩
      | bl => cases r2; simp only [eqD]; exact ⟨SeqAt.RcAt.tuple_bool _ t1' hu0, SeqAt.EqAt.tuple_bool _ t1' hu0, SeqAt.RcNeAt.tuple_bool _ t1' hu0⟩
      | int => obtain ⟨t, rfl⟩ := r2; simp only [eqD]; exact ⟨SeqAt.RcAt.tuple_int _ _ t1' hu0, SeqAt.EqAt.tuple_int _ _ t1' hu0, SeqAt.RcNeAt.tuple_int _ _ t1' hu0⟩
      | str => obtain ⟨t, rfl⟩ := r2; simp only [eqD]; exact ⟨SeqAt.RcAt.tuple_str _ _ t1' hu0, SeqAt.EqAt.tuple_str _ _ t1' hu0, SeqAt.RcNeAt.tuple_str _ _ t1' hu0⟩
    | lst h1 k1 =>
      cases r1
      obtain ⟨its, rv1, t1, z1⟩ := I.list h1
      have t1' : s.heap.IsList _ its.toArray := t1.isList
      have q1 := p1
      simp only [plainN] at q1
      cases i2 with
      | lst h2 k2 =>
        cases r2
        obtain ⟨jts, rv2, t2, z2⟩ := I.list h2
        have t2' : s.heap.IsList _ jts.toArray := t2.isList
        have q2 := p2
        simp only [plainN] at q2
        rename_i a1 vs ds a2 ws es
        have he := items_eq (A := A.in1) (p := plainN n) ih' k1 k2 rv1 rv2 q1 q2
        have both : SeqAt.RcAt A s (.ref a1) (.ref a2) (eqD (.lst ds) (.lst es)) ∧ SeqAt.RcNeAt A s (.ref a1) (.ref a2) (!eqD (.lst ds) (.lst es)) := by
          by_cases hl : ds.length = es.length
          · have hs : its.toArray.size = jts.toArray.size := by rw [List.size_toArray, List.size_toArray, ← rv1.length, ← rv2.length, k1.length, k2.length]; exact hl
            have eqv : (List.range its.toArray.size).all (fun j => eqD (ds.getD j .non) (es.getD j .non)) = eqD (.lst ds) (.lst es) := by
              rw [eqD, List.size_toArray, ← rv1.length, k1.length]
              exact eqDs_range _ hl fun j x y e1 e2 => getD_eq j x y e1 e2
            have rc := SeqAt.RcAt.lists t1' t2' hs hu0 he
            have rn := SeqAt.RcNeAt.lists t1' t2' hs hu0 he
            rw [eqv] at rc rn
            exact ⟨rc, rn⟩
          · have hs : (its.toArray.size != jts.toArray.size) = true := by rw [List.size_toArray, List.size_toArray, ← rv1.length, ← rv2.length, k1.length, k2.length]; exact bne_iff_ne.mpr hl
            rw [eqD, eqDs_ne hl]
            exact ⟨SeqAt.RcAt.lists_lengths t1' t2' hs hu0, SeqAt.RcNeAt.lists_lengths t1' t2' hs hu0⟩
        refine ⟨both.1, ?_, both.2⟩
        by_cases ha : a1 = a2
        · subst ha
          rw [eq_same I (n + 1) (.lst h1 k1) (.lst h2 k2) p1]
          exact SeqAt.EqAt.same _
        · exact SeqAt.EqAt.of_refs ha both.1
      | tup h2 k2 =>
        cases r2
        obtain ⟨jts, rv2, t2, z2⟩ := I.tuple h2
        have t2' : s.heap.IsTuple _ jts.toArray := t2
        rw [show eqD (.lst _) (.tup _) = false by simp only [eqD]]
        exact ⟨SeqAt.RcAt.list_tuple t1' t2' hu0, SeqAt.EqAt.list_tuple t1' t2' hu0, SeqAt.RcNeAt.list_tuple t1' t2' hu0⟩
      | ty => simp [plainN] at p2
      | dk => simp [plainN] at p2
      | dt => simp [plainN] at p2
      | non => cases r2; simp only [eqD]; exact ⟨SeqAt.RcAt.list_none t1' hu0, SeqAt.EqAt.list_none t1' hu0, SeqAt.RcNeAt.list_none t1' hu0⟩
      | bl => cases r2; simp only [eqD]; exact ⟨SeqAt.RcAt.list_bool _ t1' hu0, SeqAt.EqAt.list_bool _ t1' hu0, SeqAt.RcNeAt.list_bool _ t1' hu0⟩
      | int => obtain ⟨t, rfl⟩ := r2; simp only [eqD]; exact ⟨SeqAt.RcAt.list_int _ _ t1' hu0, SeqAt.EqAt.list_int _ _ t1' hu0, SeqAt.RcNeAt.list_int _ _ t1' hu0⟩
      | str => obtain ⟨t, rfl⟩ := r2; simp only [eqD]; exact ⟨SeqAt.RcAt.list_str _ _ t1' hu0, SeqAt.EqAt.list_str _ _ t1' hu0, SeqAt.RcNeAt.list_str _ _ t1' hu0⟩
    | ty => simp [plainN] at p1
    | dk => simp [plainN] at p1
    | dt => simp [plainN] at p1
    | non =>
      cases i2 with
      | tup h2 k2 => cases r1; cases r2; obtain ⟨jts, rv2, t2, z2⟩ := I.tuple h2; have t2' : s.heap.IsTuple _ jts.toArray := t2; simp only [eqD]; exact ⟨SeqAt.RcAt.none_tuple t2' hu0, SeqAt.EqAt.none_tuple t2' hu0, SeqAt.RcNeAt.none_tuple t2' hu0⟩
      | lst h2 k2 => cases r1; cases r2; obtain ⟨jts, rv2, t2, z2⟩ := I.list h2; simp only [eqD]; exact ⟨SeqAt.RcAt.none_list t2.isList hu0, SeqAt.EqAt.none_list t2.isList hu0, SeqAt.RcNeAt.none_list t2.isList hu0⟩
      | ty => simp [plainN] at p2
      | dk => simp [plainN] at p2
      | dt => simp [plainN] at p2
      | non => exact tri_flat (X := X) (H := H) (by simp [plainN]) (by simp [plainN]) .non .non r1 r2
      | bl x => exact tri_flat (X := X) (H := H) (by simp [plainN]) (by simp [plainN]) .non (.bl x) r1 r2
      | int x => exact tri_flat (X := X) (H := H) (by simp [plainN]) (by simp [plainN]) .non (.int x) r1 r2
      | str x => exact tri_flat (X := X) (H := H) (by simp [plainN]) (by simp [plainN]) .non (.str x) r1 r2
    | bl y =>
      cases i2 with
      | tup h2 k2 => cases r1; cases r2; obtain ⟨jts, rv2, t2, z2⟩ := I.tuple h2; have t2' : s.heap.IsTuple _ jts.toArray := t2; simp only [eqD]; exact ⟨SeqAt.RcAt.bool_tuple _ t2' hu0, SeqAt.EqAt.bool_tuple _ t2' hu0, SeqAt.RcNeAt.bool_tuple _ t2' hu0⟩
      | lst h2 k2 => cases r1; cases r2; obtain ⟨jts, rv2, t2, z2⟩ := I.list h2; simp only [eqD]; exact ⟨SeqAt.RcAt.bool_list _ t2.isList hu0, SeqAt.EqAt.bool_list _ t2.isList hu0, SeqAt.RcNeAt.bool_list _ t2.isList hu0⟩
      | ty => simp [plainN] at p2
      | dk => simp [plainN] at p2
      | dt => simp [plainN] at p2
      | non => exact tri_flat (X := X) (H := H) (by simp [plainN]) (by simp [plainN]) (.bl y) .non r1 r2
      | bl x => exact tri_flat (X := X) (H := H) (by simp [plainN]) (by simp [plainN]) (.bl y) (.bl x) r1 r2
      | int x => exact tri_flat (X := X) (H := H) (by simp [plainN]) (by simp [plainN]) (.bl y) (.int x) r1 r2
      | str x => exact tri_flat (X := X) (H := H) (by simp [plainN]) (by simp [plainN]) (.bl y) (.str x) r1 r2
    | int y =>
      cases i2 with
      | tup h2 k2 => obtain ⟨t, rfl⟩ := r1; cases r2; obtain ⟨jts, rv2, t2, z2⟩ := I.tuple h2; have t2' : s.heap.IsTuple _ jts.toArray := t2; simp only [eqD]; exact ⟨SeqAt.RcAt.int_tuple _ _ t2' hu0, SeqAt.EqAt.int_tuple _ _ t2' hu0, SeqAt.RcNeAt.int_tuple _ _ t2' hu0⟩
      | lst h2 k2 => obtain ⟨t, rfl⟩ := r1; cases r2; obtain ⟨jts, rv2, t2, z2⟩ := I.list h2; simp only [eqD]; exact ⟨SeqAt.RcAt.int_list _ _ t2.isList hu0, SeqAt.EqAt.int_list _ _ t2.isList hu0, SeqAt.RcNeAt.int_list _ _ t2.isList hu0⟩
      | ty => simp [plainN] at p2
      | dk => simp [plainN] at p2
      | dt => simp [plainN] at p2
      | non => exact tri_flat (X := X) (H := H) (by simp [plainN]) (by simp [plainN]) (.int y) .non r1 r2
      | bl x => exact tri_flat (X := X) (H := H) (by simp [plainN]) (by simp [plainN]) (.int y) (.bl x) r1 r2
      | int x => exact tri_flat (X := X) (H := H) (by simp [plainN]) (by simp [plainN]) (.int y) (.int x) r1 r2
      | str x => exact tri_flat (X := X) (H := H) (by simp [plainN]) (by simp [plainN]) (.int y) (.str x) r1 r2
    | str y =>
      cases i2 with
      | tup h2 k2 => obtain ⟨t, rfl⟩ := r1; cases r2; obtain ⟨jts, rv2, t2, z2⟩ := I.tuple h2; have t2' : s.heap.IsTuple _ jts.toArray := t2; simp only [eqD]; exact ⟨SeqAt.RcAt.str_tuple _ _ t2' hu0, SeqAt.EqAt.str_tuple _ _ t2' hu0, SeqAt.RcNeAt.str_tuple _ _ t2' hu0⟩
      | lst h2 k2 => obtain ⟨t, rfl⟩ := r1; cases r2; obtain ⟨jts, rv2, t2, z2⟩ := I.list h2; simp only [eqD]; exact ⟨SeqAt.RcAt.str_list _ _ t2.isList hu0, SeqAt.EqAt.str_list _ _ t2.isList hu0, SeqAt.RcNeAt.str_list _ _ t2.isList hu0⟩
      | ty => simp [plainN] at p2
      | dk => simp [plainN] at p2
      | dt => simp [plainN] at p2
      | non => exact tri_flat (X := X) (H := H) (by simp [plainN]) (by simp [plainN]) (.str y) .non r1 r2
      | bl x => exact tri_flat (X := X) (H := H) (by simp [plainN]) (by simp [plainN]) (.str y) (.bl x) r1 r2
      | int x => exact tri_flat (X := X) (H := H) (by simp [plainN]) (by simp [plainN]) (.str y) (.int x) r1 r2
      | str x => exact tri_flat (X := X) (H := H) (by simp [plainN]) (by simp [plainN]) (.str y) (.str x) r1 r2
@[simp] def dEq : D → D → Option (D × Bool) := fun x y => if plainN 40 x = true ∧ plainN 40 y = true then some (.bl (eqD x y), false) else none
@[simp] def dNe : D → D → Option (D × Bool) := fun x y => if plainN 40 x = true ∧ plainN 40 y = true then some (.bl (!eqD x y), false) else none
theorem o_eq (hu : X.A.units + 40 < cLine) : OpR X (compareOp .Eq) (rD X.K dEq) := by
  intro pins s σ H x y v u Q I rx ry q
  obtain ⟨B, dx, dy, d, b, sB, ix, iy, e, q⟩ := q
  unfold dEq at e
  split at e
  · rename_i hp
    cases e
    exact (tri_D I 40 hu hp.1 hp.2 (ix.mono sB) (iy.mono sB) rx ry).1 _ _ _ _ ⟨.bl _, H, I, rfl, q.one sB (.bl _)⟩
  · cases e
theorem o_ne (hu : X.A.units + 40 < cLine) : OpR X (compareOp .NotEq) (rD X.K dNe) := by
  intro pins s σ H x y v u Q I rx ry q
  obtain ⟨B, dx, dy, d, b, sB, ix, iy, e, q⟩ := q
  unfold dNe at e
  split at e
  · rename_i hp
    cases e
    exact (tri_D I 40 hu hp.1 hp.2 (ix.mono sB) (iy.mono sB) rx ry).2.2 _ _ _ _ ⟨.bl _, H, I, rfl, q.one sB (.bl _)⟩
  · cases e
end
section
variable {X : Cx} {a b e : Expr} {pos : Pos}
theorem atI_isL {K : PySem.W.Frag} {H : Hp} {vs : List V} {ds : List D} {i : Int} {d : D} (h : IsL K H vs ds) (e : atI ds i = some d) : ∃ v, atI vs i = some v ∧ Is K H v d := by
  unfold atI at e ⊢
  rw [h.length]
  cases q : ixN ds.length i with
  | none => rw [q] at e; cases e
  | some j => rw [q] at e; exact h.get e
@[simp] def ixD : D → D → Option (D × Bool)
  | .lst ds, .int i => (atI ds i).map fun d => (d, false)
  | .tup ds, .int i => (atI ds i).map fun d => (d, false)
  | .str z, .int i => if z.length ≤ sizeLine then (atI z.cps.toList i).map fun c => (.str ⟨#[c]⟩, false) else none
  | _, _ => none
theorem ix_D : IxR X (rD X.K ixD) := by
  intro value slice pins s σ H x y v u Q I rx ry q hs
  obtain ⟨B, dx, dy, d, b, sB, ix, iy, e, q⟩ := q
  cases ix <;> cases iy <;> try (simp [ixD] at e; done)
  · simp only [ixD] at e
    split at e
    · rename_i hz
      obtain ⟨c, e1, e2⟩ := Option.map_eq_some_iff.mp e
      cases e2
      exact ix_str value slice pins s σ H _ _ v u Q I rx ry ⟨_, _, c, rfl, rfl, hz, e1, q.one sB (.str _)⟩ hs
    · cases e
  · rename_i h hl i
    simp only [ixD] at e
    obtain ⟨c, e1, e2⟩ := Option.map_eq_some_iff.mp e
    cases e2
    obtain ⟨w, h1, h2⟩ := atI_isL hl e1
    exact ix_tup value slice pins s σ H _ _ v u Q I rx ry ⟨_, _, _, w, rfl, rfl, same_seqT sB h, h1, q.one sB h2⟩ hs
  · rename_i h hl i
    simp only [ixD] at e
    obtain ⟨c, e1, e2⟩ := Option.map_eq_some_iff.mp e
    cases e2
    obtain ⟨w, h1, h2⟩ := atI_isL hl e1
    exact ix_list value slice pins s σ H _ _ v u Q I rx ry ⟨_, _, _, w, rfl, rfl, sB.seq h, h1, q.one sB h2⟩ hs
theorem je_ix {fa fb : FE} (ha : JE X a fa) (hb : JE X b fb) (hs : PlainIx b := by intro _ _; rfl) : JE X (.Subscript a b pos) (f2 ixD fa fb) := PE.to (pe_ix ix_D ha hb hs) fun _ _ _ h => tD_2 h
abbrev FO := Env → Option (Option Int)
@[simp] def oNone : FO := fun _ => some none
@[simp] def oSome (f : FE) : FO := fun ρ => match f ρ with | some (.int i, _) => some (some i) | _ => none
def cutD (ds : List D) (lo hi : Option Int) : List D := (ds.drop (HT.sIx ds.length 0 lo)).take (HT.sIx ds.length ds.length hi - HT.sIx ds.length 0 lo)
@[simp] def fSl0 (fa : FE) (fl fh : FO) : FE := fun ρ => (fa ρ).bind fun x => (fl ρ).bind fun l => (fh ρ).bind fun h => match x.1 with
  | .lst ds => some (.lst (cutD ds l h), true)
  | .tup ds => if HT.sIx ds.length 0 l = 0 ∧ HT.sIx ds.length ds.length h = ds.length then none else some (.tup (cutD ds l h), false)
  | _ => none
theorem CallR.to {f : Value} {r r' : List V → Hp → VK → Prop} (h : CallR X f r) (k : ∀ xs H Q, r' xs H Q → r xs H Q) : CallR X f r' := fun pins s σ H xs us Q I rs q => h pins s σ H xs us Q I rs (k xs H Q q)
variable {es : List Expr} {x : Str} {p : Pos} {id T : String}
theorem je_callB {f : List D → Option (D × Bool)} {fa : FA} (hc : CallR X (.builtin id) (rDA X.K f)) (hm : X.mg x = none) (hv : bootBuiltins x = some (.builtin id)) (ha : JA X (e :: es) fa) (hg : Gl X x := by rfl) (hn : x ≠ "__name__" := by decide) (hdb : (x == ("__debug__" : Str)) = false := by decide)
    (he : starEach (e :: es) X.env = (false, eval e X.env) :: starEach es X.env := by rfl) (hpl : (backTo pos (starEach es X.env)).any (·.1) = false := by rfl) : JE X (.Call (.Name x p) (e :: es) [] pos) (fA f fa) := PE.to (pe_callB hc hg hm hv ha hn hdb he hpl) fun _ _ _ h => tD_A h
theorem je_callTy {f : List D → Option (D × Bool)} {fa : FA} (hc : CallR X (.type T) (rDA X.K f)) (hm : X.mg x = none) (hv : bootBuiltins x = some (.type T)) (ha : JA X (e :: es) fa) (hg : Gl X x := by rfl) (hn : x ≠ "__name__" := by decide) (hdb : (x == ("__debug__" : Str)) = false := by decide)
    (he : starEach (e :: es) X.env = (false, eval e X.env) :: starEach es X.env := by rfl) (hpl : (backTo pos (starEach es X.env)).any (·.1) = false := by rfl) : JE X (.Call (.Name x p) (e :: es) [] pos) (fA f fa) := PE.to (pe_callTy hc hg hm hv ha hn hdb he hpl) fun _ _ _ h => tD_A h
@[simp] def lenD : List D → Option (D × Bool)
  | [.lst ds] => some (.int ds.length, false)
  | [.tup ds] => some (.int ds.length, false)
  | [.str z] => if z.length ≤ sizeLine then some (.int z.length, false) else none
  | _ => none
theorem c_len : CallR X (.builtin "len") (rDA X.K lenD) := by
  refine CallR.to (CallR.or call_len_seq call_len_str) fun xs H Q q => ?_
  obtain ⟨B, ds, d, b, sB, i, e, q⟩ := q
  cases i with
  | nil => simp [lenD] at e
  | cons i1 i2 =>
    cases i2 with
    | cons _ _ => cases i1 <;> simp [lenD] at e
    | nil =>
      cases i1 <;> try (simp [lenD] at e; done)
      · simp only [lenD] at e
        split at e
        · rename_i hz
          cases e
          exact .inr ⟨_, rfl, hz, q.one sB (.int _)⟩
        · cases e
      · rename_i h hl
        simp only [lenD] at e
        cases e
        refine .inl ⟨_, _, rfl, .inr (same_seqT sB h), ?_⟩
        rw [hl.length]; exact q.one sB (.int _)
      · rename_i h hl
        simp only [lenD] at e
        cases e
        refine .inl ⟨_, _, rfl, .inl (sB.seq h), ?_⟩
        rw [hl.length]; exact q.one sB (.int _)
theorem je_ty {n : String} (hm : X.mg x = none) (hv : bootBuiltins x = some (.type n)) (hg : Gl X x := by rfl) (hn : x ≠ "__name__" := by decide) (hd : (x == ("__debug__" : Str)) = false := by decide) : JE X (.Name x pos) (fC (.ty n)) :=
  PE.to (pe_bltn hg hm hv (v := .ty n) rfl hn hd) fun _ _ _ h => tD_C (fun _ => .ty n) h
end
theorem hu40 {A : Around} {k : Nat} (hr : Room k A) : A.units + 40 < cLine := by have := hr.un; omega
section
variable {X : Cx} {a b e : Expr} {pos : Pos} {x : Str} {p : Pos}
theorem je_const {d : D} (h : ∃ u v, X.mg x = some u ∧ RelV v u ∧ ∀ B, Is X.K B v d) (hg : Gl X x := by rfl) (hd : (x == ("__debug__" : Str)) = false := by decide) : JE X (.Name x pos) (fC d) := by
  obtain ⟨u, v, hm, r, i⟩ := h
  exact je_glob hg hm r i hd
@[simp] def dAdd0 : D → D → Option (D × Bool)
  | .int i, .int j => some (.int (i + j), false)
  | .str i, .str j => if i.length + j.length ≤ sizeLine then some (.str (i ++ j), false) else none
  | _, _ => none
theorem o_dadd0 : OpR X (binaryOp .Add) (rD X.K dAdd0) := by
  refine opr_to (r := rD X.K (orD iAdd sAdd)) (opr_or o_add o_adds) fun x y H Q q => ?_
  obtain ⟨B, dx, dy, d, b, sB, ix, iy, e, q⟩ := q
  refine ⟨B, dx, dy, d, b, sB, ix, iy, ?_, q⟩
  cases dx <;> cases dy <;> simp [dAdd0] at e <;> simp [orD, iAdd, sAdd, iop, sop, e]
@[simp] def dMul : D → D → Option (D × Bool) := iMul
theorem o_dmul : OpR X (binaryOp .Mult) (rD X.K dMul) := o_mul
@[simp] def dLt : D → D → Option (D × Bool) := iLt
theorem o_dlt : OpR X (compareOp .Lt) (rD X.K dLt) := o_lt
@[simp] def dLe : D → D → Option (D × Bool)
  | .int i, .int j => some (.bl (decide (i ≤ j)), false)
  | .str i, .str j => some (.bl (!decide (j.cps.toList < i.cps.toList)), false)
  | _, _ => none
theorem o_dle : OpR X (compareOp .LtE) (rD X.K dLe) := by
  refine opr_to (r := rD X.K (orD iLe sLe)) (opr_or o_le o_les) fun x y H Q q => ?_
  obtain ⟨B, dx, dy, d, b, sB, ix, iy, e, q⟩ := q
  refine ⟨B, dx, dy, d, b, sB, ix, iy, ?_, q⟩
  cases dx <;> cases dy <;> simp [dLe] at e <;> simp [orD, iLe, sLe, iop, sop, e]
@[simp] def iNeg : D → Option (D × Bool)
  | .int i => some (.int (-i), false)
  | _ => none
theorem o_neg : UnR X (unaryOp .USub) (rDU X.K iNeg) := by
  intro pins s σ H x v Q I rx q
  obtain ⟨B, dx, d, b, sB, ix, e, q⟩ := q
  cases ix <;> try (simp [iNeg] at e; done)
  simp only [iNeg] at e
  cases e
  exact un_neg pins s σ H _ v Q I rx ⟨_, rfl, q.one sB (.int _)⟩
@[simp] def isSm : D → D → Option Bool
  | .non, .non => some true
  | _, .non => some false
  | .bl a, .bl b => some (a == b)
  | _, .bl _ => some false
  | _, _ => none
@[simp] def dIs : D → D → Option (D × Bool) := fun x y => (isSm x y).map fun b => (.bl b, false)
@[simp] def dIsNot : D → D → Option (D × Bool) := fun x y => (isSm x y).map fun b => (.bl (!b), false)
theorem isSm_ok {K : PySem.W.Frag} {B : Hp} {x y : V} {v u : Value} {dx dy : D} {k : Bool} (ix : Is K B x dx) (iy : Is K B y dy) (rx : RelV x v) (ry : RelV y u) (e : isSm dx dy = some k) : plainIs v u = true ∧ (v == u) = k := by
  cases iy <;> (first | (cases dx <;> simp [isSm] at e; done) | skip)
  all_goals (cases ix)
  all_goals (first | (obtain ⟨t, rfl⟩ := rx) | cases rx)
  all_goals (cases ry)
  all_goals (simp only [isSm, Option.some.injEq] at e; subst e)
  all_goals (first | exact ⟨rfl, rfl⟩ | skip)
  all_goals (rename_i c d; cases c <;> cases d <;> exact ⟨rfl, rfl⟩)
theorem o_is : OpR X (compareOp .Is) (rD X.K dIs) := by
  intro pins s σ H x y v u Q I rx ry q
  obtain ⟨B, dx, dy, d, b, sB, ix, iy, e, q⟩ := q
  obtain ⟨k, ek, e⟩ := Option.map_eq_some_iff.mp e
  cases e
  obtain ⟨h1, h2⟩ := isSm_ok ix iy rx ry ek
  refine wpAny_is_plain h1 ⟨.bl k, H, I, by rw [h2]; rfl, q.one sB (.bl _)⟩
theorem o_isnot : OpR X (compareOp .IsNot) (rD X.K dIsNot) := by
  intro pins s σ H x y v u Q I rx ry q
  obtain ⟨B, dx, dy, d, b, sB, ix, iy, e, q⟩ := q
  obtain ⟨k, ek, e⟩ := Option.map_eq_some_iff.mp e
  cases e
  obtain ⟨h1, h2⟩ := isSm_ok ix iy rx ry ek
  refine wpAny_isNot_plain h1 ⟨.bl (!k), H, I, by rw [h2]; rfl, q.one sB (.bl _)⟩
@[simp] def flatD : D → Bool
  | .non => true | .bl _ => true | .int _ => true | .str _ => true
  | _ => false
def inD (x : D) (ds : List D) : Bool := ds.any fun y => eqD y x
@[simp] def seqOf : D → Option (List D)
  | .lst ds => some ds
  | .tup ds => some ds
  | _ => none
@[simp] def dIn : D → D → Option (D × Bool) := fun x y => (seqOf y).bind fun ds => if flatD x = true ∧ ds.all flatD = true then some (.bl (inD x ds), false) else none
@[simp] def dNotIn : D → D → Option (D × Bool) := fun x y => (seqOf y).bind fun ds => if flatD x = true ∧ ds.all flatD = true then some (.bl (!inD x ds), false) else none
theorem flat_V {K : PySem.W.Frag} {B : Hp} {v : V} {d : D} (i : Is K B v d) (h : flatD d = true) : flatV v = true := by
  cases i <;> first | rfl | (simp [flatD] at h)
theorem eq_V {K : PySem.W.Frag} {B : Hp} {v w : V} {d e : D} (i : Is K B v d) (j : Is K B w e) (h : flatD d = true) (h' : flatD e = true) : eqV v w = eqD d e := by
  cases i <;> (first | (simp [flatD] at h; done) | skip)
  all_goals (cases j <;> (first | (simp [flatD] at h'; done) | skip))
  all_goals (simp only [eqV, eqD, Bool.beq_eq_decide_eq])
theorem all_V {K : PySem.W.Frag} {B : Hp} : ∀ {vs : List V} {ds : List D}, IsL K B vs ds → ds.all flatD = true → vs.all flatV = true
  | _, _, .nil, _ => rfl
  | _, _, .cons i t, h => by
    rw [List.all_cons, Bool.and_eq_true] at h
    rw [List.all_cons, flat_V i h.1, all_V t h.2]; rfl
theorem in_V {K : PySem.W.Frag} {B : Hp} {v : V} {d : D} (j : Is K B v d) (hd : flatD d = true) : ∀ {vs : List V} {ds : List D}, IsL K B vs ds → ds.all flatD = true → inV v vs = inD d ds
  | _, _, .nil, _ => rfl
  | _, _, .cons i t, h => by
    rw [List.all_cons, Bool.and_eq_true] at h
    have e := in_V j hd t h.2
    unfold inV inD at *
    rw [List.any_cons, List.any_cons, e, eq_V i j h.1 hd]
theorem o_din : OpR X (compareOp .In) (rD X.K dIn) := by
  refine opr_to op_in_seq fun x y H Q q => ?_
  obtain ⟨B, dx, dy, d, b, sB, ix, iy, e, q⟩ := q
  obtain ⟨ds, es, e⟩ := Option.bind_eq_some_iff.mp e
  split at e
  · rename_i hf
    cases e
    cases iy <;> simp only [seqOf] at es <;> try (cases es; done)
    · rename_i h hl
      cases es
      exact ⟨_, _, rfl, .inr (same_seqT sB h), flat_V ix hf.1, all_V hl hf.2, by rw [if_neg (by decide), in_V ix hf.1 hl hf.2]; exact q.one sB (.bl _)⟩
    · rename_i h hl
      cases es
      exact ⟨_, _, rfl, .inl (sB.seq h), flat_V ix hf.1, all_V hl hf.2, by rw [if_neg (by decide), in_V ix hf.1 hl hf.2]; exact q.one sB (.bl _)⟩
  · cases e
theorem o_dnotin : OpR X (compareOp .NotIn) (rD X.K dNotIn) := by
  refine opr_to op_notIn_seq fun x y H Q q => ?_
  obtain ⟨B, dx, dy, d, b, sB, ix, iy, e, q⟩ := q
  obtain ⟨ds, es, e⟩ := Option.bind_eq_some_iff.mp e
  split at e
  · rename_i hf
    cases e
    cases iy <;> simp only [seqOf] at es <;> try (cases es; done)
    · rename_i h hl
      cases es
      exact ⟨_, _, rfl, .inr (same_seqT sB h), flat_V ix hf.1, all_V hl hf.2, by rw [if_pos rfl, in_V ix hf.1 hl hf.2]; exact q.one sB (.bl _)⟩
    · rename_i h hl
      cases es
      exact ⟨_, _, rfl, .inl (sB.seq h), flat_V ix hf.1, all_V hl hf.2, by rw [if_pos rfl, in_V ix hf.1 hl hf.2]; exact q.one sB (.bl _)⟩
  · cases e
theorem b_len : bootBuiltins "len" = some (.builtin "len") := PySem.boot_len
theorem b_isinstance : bootBuiltins "isinstance" = some (.builtin "isinstance") := by decide +kernel
theorem b_max : bootBuiltins "max" = some (.builtin "max") := by decide +kernel
theorem b_min : bootBuiltins "min" = some (.builtin "min") := by decide +kernel
theorem b_int : bootBuiltins "int" = some (.type "int") := by decide +kernel
theorem b_bool : bootBuiltins "bool" = some (.type "bool") := by decide +kernel
theorem b_list : bootBuiltins "list" = some (.type "list") := by decide +kernel
theorem b_tuple : bootBuiltins "tuple" = some (.type "tuple") := by decide +kernel
@[simp] def maxD : List D → Option (D × Bool)
  | [.int i, .int j] => some (.int (if j > i then j else i), false)
  | _ => none
@[simp] def minD : List D → Option (D × Bool)
  | [.int i, .int j] => some (.int (if j < i then j else i), false)
  | _ => none
theorem two_ints {K : PySem.W.Frag} {B : Hp} {xs : List V} {i j : Int} (h : IsL K B xs [.int i, .int j]) : xs = [.int i, .int j] := by
  cases h with
  | cons h1 h2 => cases h1; cases h2 with | cons h3 h4 => cases h3; cases h4; rfl
theorem c_max (hc : X.calm = true := by rfl) : CallR X (.builtin "max") (rDA X.K maxD) := by
  refine CallR.to (call_max2 hc) fun xs H Q q => ?_
  obtain ⟨B, ds, d, b, sB, i, e, q⟩ := q
  match ds, e with
  | [.int i', .int j'], e => simp only [maxD] at e; cases e; exact ⟨i', j', two_ints i, q.one sB (.int _)⟩
theorem c_min (hc : X.calm = true := by rfl) : CallR X (.builtin "min") (rDA X.K minD) := by
  refine CallR.to (call_min2 hc) fun xs H Q q => ?_
  obtain ⟨B, ds, d, b, sB, i, e, q⟩ := q
  match ds, e with
  | [.int i', .int j'], e => simp only [minD] at e; cases e; exact ⟨i', j', two_ints i, q.one sB (.int _)⟩
@[simp] def tyOf : D → String
  | .non => "NoneType" | .bl _ => "bool" | .int _ => "int" | .str _ => "str" | .ty _ => "type" | .tup _ => "tuple" | .lst _ => "list" | .dk _ _ => "dict" | .dt _ _ => "dict"
@[simp] def isTy : D → Bool
  | .ty _ => true
  | _ => false
@[simp] def instAns (t n : String) : Option (D × Bool) :=
  if n = "int" then some (.bl (t == "int" || t == "bool"), false) else if n = "bool" then some (.bl (t == "bool"), false) else if n = "str" then some (.bl (t == "str"), false)
  else if n = "list" then some (.bl (t == "list"), false) else if n = "tuple" then some (.bl (t == "tuple"), false) else none
@[simp] def isinstanceD : List D → Option (D × Bool)
  | [d, .ty n] => if isTy d = true then none else instAns (tyOf d) n
  | _ => none
theorem inst_ok {pins : List (Addr × Obj)} {σ : St} {H : Hp} {s : Shared} {A : Around} {E : Value → Shared → Prop} {Q : Value → Shared → Prop} {c : Value} {b : Bool} {v : V} {d : D} {u : Value} (I : Inv X pins σ H s) (i : Is X.K H v d) (hd : ∀ n, d ≠ .ty n) (rx : RelV v u) (e : PySem.W.kitOne X.K (.type (tyOf d)) c = some b) (h : ∀ tk, Q (.bool b) { s with toks := tk }) :
    wpAny (model X.prog X.w) A (call (.builtin "isinstance") [u, c]) Q E s := by
  cases i with
  | non => exact isinst_ok I rx .non e h
  | bl y => exact isinst_ok I rx (.bl y) e h
  | int y => exact isinst_ok I rx (.int y) e h
  | str y => exact isinst_ok I rx (.str y) e h
  | ty n => exact absurd rfl (hd n)
  | dk h1 _ _ => exact isinst_ok I rx (.dK h1) e h
  | dt h1 _ _ => exact isinst_ok I rx (.dT h1) e h
  | tup ht _ =>
    cases rx
    obtain ⟨its, _, ⟨o, h1, h2, _⟩, _⟩ := I.tuple ht
    exact PySem.W.kia_one PySem.W.kitx_tuple I.kIn ⟨o, h1, h2⟩ e (fun z => nomatch z) h
  | lst hl _ =>
    cases rx
    obtain ⟨its, _, ⟨o, n, h1, h2, _⟩, _⟩ := I.list hl
    exact PySem.W.kia_one PySem.W.kitx_list I.kIn ⟨o, h1, h2⟩ e (fun z => nomatch z) h
theorem kit_of (K : PySem.W.Frag) (d : D) (hd : ∀ n, d ≠ .ty n) :
    PySem.W.kitOne K (.type (tyOf d)) (.type "int") = some (tyOf d == "int" || tyOf d == "bool") ∧ PySem.W.kitOne K (.type (tyOf d)) (.type "bool") = some (tyOf d == "bool") ∧ PySem.W.kitOne K (.type (tyOf d)) (.type "str") = some (tyOf d == "str") ∧
      PySem.W.kitOne K (.type (tyOf d)) (.type "list") = some (tyOf d == "list") ∧ PySem.W.kitOne K (.type (tyOf d)) (.type "tuple") = some (tyOf d == "tuple") := by
  cases d <;> (first | exact absurd rfl (hd _) | skip)
  all_goals (simp only [tyOf]; refine ⟨?_, ?_, ?_, ?_, ?_⟩ <;> kernel_rfl)
theorem c_isinstance : CallR X (.builtin "isinstance") (rDA X.K isinstanceD) := by
  intro pins s σ H xs us Q I rs q
  obtain ⟨B, ds, d, b, sB, i, e, q⟩ := q
  match ds, i, e with
  | [dx, .ty n], .cons i1 (.cons i2 .nil), e =>
    obtain ⟨u1, u2, rfl, r1, r2⟩ := vals2 rs
    cases i2
    cases r2
    simp only [isinstanceD] at e
    split at e
    · cases e
    · rename_i ht
      have hd : ∀ n, dx ≠ .ty n := fun n z => by subst z; exact ht rfl
      obtain ⟨k1, k2, k3, k4, k5⟩ := kit_of X.K dx hd
      have fin : ∀ {k : Bool}, PySem.W.kitOne X.K (.type (tyOf dx)) (.type n) = some k → Fin X.K B H (.bl k) false Q → wpAny (model X.prog X.w) X.A (call (.builtin "isinstance") [u1, .type n]) (EP X pins σ Q) X.xe s := fun {k} hk q =>
        inst_ok I (i1.mono sB) hd r1 hk fun tk => ⟨.bl k, H, I.tok tk, rfl, q.one sB (.bl k)⟩
      unfold instAns at e
      split at e
      · rename_i z; subst z; cases e; exact fin k1 q
      split at e
      · rename_i z; subst z; cases e; exact fin k2 q
      split at e
      · rename_i z; subst z; cases e; exact fin k3 q
      split at e
      · rename_i z; subst z; cases e; exact fin k4 q
      split at e
      · rename_i z; subst z; cases e; exact fin k5 q
      · cases e
@[simp] def bitsD : D → Option (D × Bool)
  | .int i => some (.int (Builtin.Int.intBits i), false)
  | _ => none
@[simp] def iSeq0 (f : FE) : FA := fun ρ => (f ρ).bind fun x => seqOf x.1
theorem ji_seq0 {tg : Expr} {f : FE} (h : JE X e f) : JI X tg e (iSeq0 f) := by
  intro pins s σ H R I q
  obtain ⟨B, ρ, ds, sB, r, e', q⟩ := q
  obtain ⟨x, ex, es⟩ := Option.bind_eq_some_iff.mp e'
  obtain ⟨xd, xb⟩ := x
  cases xd <;> simp only [seqOf] at es <;> try (cases es; done)
  · cases es
    refine pi_tup h pins s σ H R I ⟨B, ρ, _, _, sB, r, ex, fun v H1 N1 x1 i1 _ => ?_⟩
    cases i1 with
    | @tup a vs _ ht hl =>
      refine ⟨a, rfl, ⟨vs, same_seqT x1.nh ht⟩, q _ H1 N1 x1 fun i H2 s2 => ⟨fun d ed => ?_, fun hlen => ⟨vs, same_seqT s2 ht, by rw [hl.length]; exact hlen⟩⟩⟩
      obtain ⟨v, ev, iv⟩ := hl.get ed
      refine ⟨⟨vs, v, same_seqT s2 ht, ev⟩, fun y H3 hy => ?_⟩
      obtain ⟨rfl, hy⟩ := hy
      have := hy vs (same_seqT s2 ht)
      rw [ev] at this; cases this
      exact ⟨N1, .refl s2, iv⟩
  · cases es
    refine pi_list h pins s σ H R I ⟨B, ρ, _, _, sB, r, ex, fun v H1 N1 x1 i1 _ => ?_⟩
    cases i1 with
    | @lst a vs _ ht hl =>
      refine ⟨a, rfl, ⟨vs, x1.nh.seq ht⟩, q _ H1 N1 x1 fun i H2 s2 => ⟨fun d ed => ?_, fun hlen => ⟨vs, s2.seq ht, by rw [hl.length]; exact hlen⟩⟩⟩
      obtain ⟨v, ev, iv⟩ := hl.get ed
      refine ⟨⟨vs, v, s2.seq ht, ev⟩, fun y H3 hy => ?_⟩
      obtain ⟨rfl, hy⟩ := hy
      have := hy vs (s2.seq ht)
      rw [ev] at this; cases this
      exact ⟨N1, .refl s2, iv⟩
def rangeD (lo : Int) (n : Nat) : List D := (List.range n).map fun (k : Nat) => .int (lo + (k : Int))
theorem it_range {K : PySem.W.Frag} {B : Hp} (lo : Int) (n : Nat) : ItOk K (Itr lo n) B (rangeD lo n) := by
  intro i H s
  unfold rangeD
  refine ⟨fun d ed => ?_, fun hl => by rw [List.length_map, List.length_range] at hl; exact hl⟩
  rw [List.getElem?_map] at ed
  obtain ⟨k, ek, ed⟩ := Option.map_eq_some_iff.mp ed
  have hk := List.getElem?_eq_some_iff.mp ek
  obtain ⟨hlt, hk⟩ := hk
  rw [List.length_range] at hlt
  rw [List.getElem_range] at hk
  subst hk
  subst ed
  refine ⟨hlt, fun x H' hy => ?_⟩
  obtain ⟨rfl, rfl⟩ := hy
  exact ⟨B, .refl s, .int _⟩
@[simp] def iRange (f : FE) : FA := fun ρ => match f ρ with
  | some (.int j, _) => if -1000 ≤ j ∧ j ≤ 1000 then some (rangeD 0 j.toNat) else none
  | _ => none
theorem jr_range {tg : Expr} {f : FE} (hm : X.mg "range" = none) (h : JE X a f) (hg : Gl X "range" := by rfl) (hs : starEach [a] X.env = [(false, eval a X.env)] := by rfl) : PI X tg (.Call (.Name "range" p) [a] [] pos) (tDR X.K (iRange f)) := by
  refine PI.to (pi_range1 hg hm (ja_cons h ja_nil hs) hs) fun σ H R q => ?_
  obtain ⟨B, ρ, ds, sB, r, e', q⟩ := q
  unfold iRange at e'
  split at e'
  · rename_i j b' ef
    split at e'
    · rename_i hj
      cases e'
      refine ⟨B, ρ, [.int j], sB, r, by simp [fCons, fNil, ef], fun vs H1 N1 x1 i1 => ?_⟩
      cases i1 with
      | cons i1 i2 =>
        cases i1; cases i2
        exact ⟨j, rfl, by omega, by omega, q _ H1 N1 x1 fun _ => it_range 0 j.toNat⟩
    · cases e'
  · cases e'
theorem ji_range {tg : Expr} {f : FE} (hm : X.mg "range" = none) (h : JE X a f) (hg : Gl X "range" := by rfl) (hs : starEach [a] X.env = [(false, eval a X.env)] := by rfl) : JI X tg (.Call (.Name "range" p) [a] [] pos) (iRange f) :=
  PI.to (jr_range hm h hg hs) fun σ H R ⟨B, ρ, ds, sB, r, e', q⟩ => ⟨B, ρ, ds, sB, r, e', fun J H' N x h => q J H' N x (h _)⟩
end
def Def (K : PySem.W.Frag) (x : Str) (st : Stmt) : Prop := ∃ (f : Addr) (fd : FuncData), Fun K x x st f fd ∧ PySem.W.nsIn K mainGlobals x = some (some (.ref f))
theorem def_mk {K : PySem.W.Frag} {x : Str} {st : Stmt} {f : Addr} {oc : Value} {od an : Option Addr} {osl : Array (Option Value)} {kV doc pm cdv ct : Value} (a : PySem.W.nsIn K mainGlobals x = some (some (.ref f)))
    (l : K.lookup f = some ⟨oc, od, .func (PySem.W.fnOf x x (defArgs st) (defBody st) (defScope st) .none kV doc pm an cdv ct), osl⟩) (c : PySem.W.codeIn K cdv x = true) (k : PySem.W.keepIn K (.ref f) = true) : Def K x st := ⟨f, _, fun_mk l c k, a⟩
section
variable {P : Program} {w : World} {K : PySem.W.Frag} {mg : Str → Option Value} {base : Heap}
theorem Def.fn {x : Str} {st : Stmt} {N ps : List Str} {k : Nat} {g : FS} {h : Heap} (F : Def K x st) (X : K.In h) (G : h.Ns mainGlobals mg) (S : FnScope N ps (defScope st))
    (hbd : ∀ (kV doc pm : Value) (an : Option Addr) (cdv ct : Value) (us : List Value), us.length = ps.length → bindArgs (PySem.W.fnOf x x (defArgs st) (defBody st) (defScope st) .none kV doc pm an cdv ct) ⟨us, []⟩ = pure (ps.zip us))
    (hb : ∀ (f : Addr) (cdv : Value) (A : Around) (outer : List PySem.Env) (s : Shared) (H : Hp) (E : XK), Room k (A.deeper (envOfC x (defScope st) s.heap.objs.size f cdv)) → JSs (cxOf CX0 P w K mg base N x (defScope st) f cdv A outer s H E).nox (defBody st) g) :
    Fn P w K mg base (k + 1) x (bodyF g ps.length (N.length - ps.length)) := by
  obtain ⟨f, fd, F1, a⟩ := F
  exact ⟨f, fd, ps, fn_D F1 S (hb f), PySem.W.mg_of X G a, F1.kp, F1.binds hbd⟩
end
def OnlyT (H : Hp) : Prop := ∀ b, H b = none ∨ (∃ o xs, H b = some (.frz o (.lst xs))) ∨ ∃ q, H b = some (.tbl q)
def tabsH (tabs : List (Addr × Str)) (G : Hp) : Hp := fun b => match tabs.lookup b with | some q => some (.tbl q) | none => G b
theorem tabsH_in {tabs : List (Addr × Str)} {G : Hp} {b : Addr} {q : Str} (e : tabs.lookup b = some q) : tabsH tabs G b = some (.tbl q) := by unfold tabsH; rw [e]
theorem tabsH_out {tabs : List (Addr × Str)} {G : Hp} {b : Addr} (e : tabs.lookup b = none) : tabsH tabs G b = G b := by unfold tabsH; rw [e]
theorem call_head {P : Program} {w : World} {K : PySem.W.Frag} {mg mb : Str → Option Value} {k : Nat} {fa a : Addr} {fd : FuncData} {x : Str} {sp : Sp} {s₁ : Shared} {vs : List Value} {ns : List Int} (tabs : List (Addr × Str))
    (ht : ∀ b q, tabs.lookup b = some q → s₁.heap.get? b = some (PySem.W.tabObj #[]) ∧ isCodeTable s₁.heap b) (hnt : PySem.W.noTabs K = true)
    (KX : K.In s₁.heap) (hns : s₁.heap.Ns mainGlobals mg) (hb : s₁.heap.Ns builtinsNs mb) (hbb : ∀ x : Str, x ≠ "__name__" → mb x = bootBuiltins x) (hlim : s₁.heap.NoLimit)
    (hbm : ∃ bm ob, mg "__builtins__" = some (.ref bm) ∧ bm ≠ builtinsNs ∧ s₁.heap.get? bm = some ob ∧ ob.cls = .type "module" ∧ ob.dict = some builtinsNs ∧ ob.data = .plain) (hg : s₁.gens = #[])
    (ha : s₁.heap.get? a = some { cls := .type "list", data := .seq vs.toArray }) (hi : IntsAre vs ns) (hl : ns.length ≤ sizeLine) (hr : Room k callerA)
    (F : ∀ base : Heap, K.In base → base.Ns mainGlobals mg → FnOk P w K mg base CX0 k fa fd [x] sp) (hbind : ∀ (s : Shared) (u : Value), BindsTo s fd ⟨[u], []⟩ [(x, u)])
    (hsp : ∀ H : Hp, (∀ b q, tabs.lookup b = some q → H b = some (.tbl q)) → SqL K H a (ns.map V.int) → sp [.ref a] H (fun v _ => v = .bl true) fun _ _ _ => False) :
    codeAny (model P w) callerA (.call (.ref fa) ⟨[.ref a], []⟩) (fun r s' => r = .ok (.ret (.bool true)) ∧ OldK s₁.heap s'.heap ∧ s'.os = s₁.os ∧ AllBare s'.gens) s₁ := by
  have rv := L2.vals_ints hi
  have lenV := hi.length
  have core : ∀ H : Hp, OnlyT H → (∀ b q, tabs.lookup b = some q → H b = some (.tbl q)) → SqL K H a (ns.map V.int) → HOk P w H s₁.heap → (∀ b q, H b = some (.tbl q) → s₁.heap.get? b = some (PySem.W.tabObj #[]) ∧ isCodeTable s₁.heap b) →
      (∀ b o u, H b = some (.frz o u) → b = a) → (∀ b o u, H b = some (.frz o u) → K.lookup b = none) →
      codeAny (model P w) callerA (.call (.ref fa) ⟨[.ref a], []⟩) (fun r s' => r = .ok (.ret (.bool true)) ∧ OldK s₁.heap s'.heap ∧ s'.os = s₁.os ∧ AllBare s'.gens) s₁ := by
    intro H hO hT hS hok hA hB hK
    have noA : ∀ {b : Addr} {o : Obj}, s₁.heap.get? b = some o → (o.cls ≠ .none) → (o.cls ≠ .type "list") → H b = none := fun {b o} e d d' => by
      rcases hO b with q | ⟨ob, xs, q⟩ | ⟨u, q⟩
      · exact q
      · have e' : b = a := hB b _ _ q
        subst e'
        rw [ha] at e; cases e
        exact absurd rfl d'
      · rw [(hA b u q).1] at e; cases e
        exact absurd rfl d
    have noD : ∀ {b : Addr} {o : Obj} {es : Array DictEntry} {ep : Nat}, s₁.heap.get? b = some o → o.data = .dict es ep → H b = none := fun {b o es ep} e d => by
      rcases hO b with q | ⟨ob, xs, q⟩ | ⟨u, q⟩
      · exact q
      · have e' : b = a := hB b _ _ q
        subst e'
        rw [ha] at e; cases e
        cases d
      · rw [(hA b u q).1] at e; cases e
        cases d
    have nsK : ∀ {b : Addr} {m : Str → Option Value}, s₁.heap.Ns b m → (hidT s₁.heap H).Ns b m := fun {b m} ⟨o, es, ep, e, d, r⟩ => ⟨o, es, ep, hidT_get e (noD e d), d, r⟩
    have hKb : K.In (hidT s₁.heap H) := fun b o e => hidT_get (KX b o e) (by
      rcases hO b with q | ⟨ob, xs, q⟩ | ⟨u, q⟩
      · exact q
      · rw [hK b _ _ q] at e; cases e
      · have z := (hA b u q).1
        rw [KX b o e] at z
        cases z
        have := List.all_eq_true.mp hnt _ (PySem.W.mem_of_lookupK e)
        simp at this)
    have hM : Mod K mg (hidT s₁.heap H) := ⟨hKb, nsK hns, ⟨mb, nsK hb, hbb⟩, let ⟨mc, h1, h2⟩ := hlim; ⟨mc, nsK h1, h2⟩, by
      obtain ⟨bm, ob, b1, b2, b3, b4, b5⟩ := hbm
      exact ⟨bm, ob, b1, b2, hidT_get b3 (noA b3 (by rw [b4]; exact fun z => nomatch z) (by rw [b4]; intro z; injection z with z; exact absurd z (by decide))), b4, b5⟩⟩
    have e0 : Env0 P w K mg (hidT s₁.heap H) callerA [] s₁ H := ⟨rfl, hM, fun b o e => of_hidT e, Nat.le_of_eq (hidT_size _ _), trivial, fun b hb => absurd (show b ∈ ([] : List Addr) from hb) (by simp), hok, .of_eq hg⟩
    refine codeAny_mono ((F _ hKb (nsK hns)).run callerA [] s₁ H ⟨[.ref a], []⟩ [.ref a] [.ref a] _ _ hr e0 (hbind s₁ (.ref a)) (.cons rfl .nil) (hsp H hT hS)) fun r s' h => ?_
    cases r with
    | error e => exact False.elim h
    | ok fl =>
      cases fl with
      | next => exact False.elim h
      | brk => exact False.elim h
      | cont => exact False.elim h
      | ret u =>
        obtain ⟨v, H', os, bare, un, hok', r', q⟩ := h
        have q' : v = .bl true := q
        subst q'
        obtain rfl : u = Value.bool true := r'
        have kp : ∀ b o, H b = none → s₁.heap.get? b = some o → s'.heap.get? b = some o := fun b o n e => un.keep b o e n (by intro z; exact absurd (show b ∈ ([] : List Addr) from z) (by simp)) (by simp)
        refine ⟨rfl, ⟨fun b o e => ?_, fun b o e => un.there b o e (by simp)⟩, os, bare⟩
        rcases hO b with z | ⟨ob, xs, z⟩ | ⟨u, z⟩
        · exact .inl (kp b o z e)
        · have z2 := un.frzs b ob _ z
          obtain ⟨e1, _⟩ := hok b _ z
          obtain ⟨e2, _⟩ := hok' b _ z2
          rw [e] at e1; cases e1
          exact .inl e2
        · obtain ⟨e1, e2⟩ := hA b u z
          rw [e] at e1; cases e1
          obtain ⟨ps, e3, _⟩ := hok' b _ (un.tbls b u z)
          exact .inr (.inl ⟨e2, rfl, #[], ps, rfl, by simpa using e3⟩)
  have tabNot : ∀ q, tabs.lookup a ≠ some q := fun q z => by
    have := (ht a q z).1
    rw [ha] at this; cases this
  have ta : tabs.lookup a = none := by
    cases z : tabs.lookup a with
    | none => rfl
    | some q => exact absurd z (tabNot q)
  have tabOk : ∀ (G : Hp) b q, tabs.lookup b = some q → ObjOk P w (tabsH tabs G) s₁.heap b (.tbl q) := fun G b q z => ⟨#[], (ht b q z).1, trivial, fun pos cv c => by cases c⟩
  cases hk : K.lookup a with
  | some o =>
    have e := KX a o hk
    rw [ha] at e
    cases e
    refine core (tabsH tabs fun _ => none) (fun b => ?_) (fun b q z => tabsH_in z) (.inr ⟨_, vs.toArray, _, hk, rfl, rfl, rfl, by rw [List.size_toArray, lenV]; exact hl, by simpa using rv⟩) (fun b u z => ?_) (fun b q z => ?_) (fun b o u z => ?_) fun b o u z => ?_
    all_goals cases zt : tabs.lookup b with
      | none => first | exact .inl (tabsH_out zt) | (rw [tabsH_out zt] at z; cases z)
      | some q' => first | exact .inr (.inr ⟨q', tabsH_in zt⟩) | (rw [tabsH_in zt] at z; cases z; done) | (rw [tabsH_in zt] at z; cases z; first | exact tabOk _ b _ zt | exact ht b _ zt)
  | none =>
    refine core (tabsH tabs fun b => if b = a then some (.frz { cls := .type "list", data := .seq vs.toArray } (.lst (ns.map V.int))) else none) (fun b => ?_) (fun b q z => tabsH_in z) (.inl (.inr ⟨{ cls := .type "list", data := .seq vs.toArray }, by rw [tabsH_out ta, if_pos rfl]⟩)) (fun b u z => ?_) (fun b q z => ?_) (fun b o u z => ?_) fun b o u z => ?_
    all_goals cases zt : tabs.lookup b with
      | some q' => first | exact .inr (.inr ⟨q', tabsH_in zt⟩) | (rw [tabsH_in zt] at z; cases z; done) | (rw [tabsH_in zt] at z; cases z; first | exact tabOk _ b _ zt | exact ht b _ zt)
      | none =>
        first
        | rw [tabsH_out zt] at z
        | rw [tabsH_out zt]
        by_cases hb : b = a
        · first
          | rw [if_pos hb] at z
          | rw [if_pos hb]
          first
          | exact .inr (.inl ⟨_, _, rfl⟩)
          | (cases z; subst hb; exact ⟨ha, by rw [List.length_map]; exact hl, vs, _, rv, ha⟩)
          | exact hb
          | (rw [hb]; exact hk)
          | cases z
        · first
          | (rw [if_neg hb] at z; cases z)
          | exact .inl (if_neg hb)
def tabsOf (L : List (Str × Option (Addr × Addr))) : List (Addr × Str) := L.filterMap fun p => p.2.map fun q => (q.2, lamQ p.1)
structure TabsFit (K : PySem.W.Frag) (L : List (Str × Option (Addr × Addr))) : Prop where
  names : L = lamNames.map fun x => (x, PySem.W.tabIn K x)
  apart : ((tabsOf L).map (·.1)).Nodup
  none : PySem.W.noTabs K = true
theorem lookup_of_mem {α β : Type} [BEq α] [LawfulBEq α] : ∀ {l : List (α × β)} {a : α} {b : β}, (l.map (·.1)).Nodup → (a, b) ∈ l → l.lookup a = some b
  | (c, d) :: l, a, b, nd, h => by
    rw [List.lookup_cons]
    rcases List.mem_cons.mp h with e | h
    · cases e; simp
    · have ne : a ≠ c := fun z => (List.nodup_cons.mp nd).1 (by rw [← z]; exact List.mem_map.mpr ⟨(a, b), h, rfl⟩)
      rw [show (a == c) = false by simpa using ne]
      exact lookup_of_mem (List.nodup_cons.mp nd).2 h
theorem mem_of_lookup' {α β : Type} [BEq α] [LawfulBEq α] : ∀ {l : List (α × β)} {a : α} {b : β}, l.lookup a = some b → (a, b) ∈ l
  | (c, d) :: l, a, b, h => by
    rw [List.lookup_cons] at h
    cases e : a == c with
    | true => rw [e] at h; cases h; rw [eq_of_beq e]; exact List.mem_cons_self
    | false => rw [e] at h; exact List.mem_cons_of_mem _ (mem_of_lookup' h)
theorem TabsFit.tb {K : PySem.W.Frag} {L : List (Str × Option (Addr × Addr))} (F : TabsFit K L) {H : Hp} (h : ∀ b q, (tabsOf L).lookup b = some q → H b = some (.tbl q)) : Tb K H := fun x hx c P e => by
  refine h P (lamQ x) (lookup_of_mem F.apart ?_)
  rw [F.names]
  exact List.mem_filterMap.mpr ⟨(x, PySem.W.tabIn K x), List.mem_map.mpr ⟨x, hx, rfl⟩, by rw [e]; rfl⟩
theorem tab_yes {K : PySem.W.Frag} {x : Str} {f c P : Addr} {oc oc' : Value} {od od' : Option Addr} {osl osl' : Array (Option Value)} {fd : FuncData} {vs : Array Value} (e1 : PySem.W.nsIn K mainGlobals x = some (some (.ref f))) (e2 : K.lookup f = some ⟨oc, od, .func fd, osl⟩) (e3 : fd.code = .ref c)
    (e4 : K.lookup c = some ⟨oc', od', .fields vs, osl'⟩) (e5 : vs[11]? = some (.ref P)) : PySem.W.tabIn K x = some (c, P) := by unfold PySem.W.tabIn; simp only [e1, e2, e3, e4, e5]
theorem tabs_fit {K : PySem.W.Frag} {t0 t1 t2 t3 : Option (Addr × Addr)} (h0 : PySem.W.tabIn K "in_order" = t0) (h1 : PySem.W.tabIn K "has_seal" = t1) (h2 : PySem.W.tabIn K "is_first_death" = t2) (h3 : PySem.W.tabIn K "bases_by" = t3)
    (ap : ((tabsOf [("in_order", t0), ("has_seal", t1), ("is_first_death", t2), ("bases_by", t3)]).map (·.1)).Nodup) (nt : PySem.W.noTabs K = true) : TabsFit K [("in_order", t0), ("has_seal", t1), ("is_first_death", t2), ("bases_by", t3)] :=
  ⟨by subst h0; subst h1; subst h2; subst h3; rfl, ap, nt⟩
theorem walkD {l : PySem.W.OpenLaw} {q : Program} {loose : List Str} {XP : (Str → Option Value) → Heap → Prop} {YP : World → Heap → Prop} {d : DefRec} {K : Params → PySem.W.Frag} {k : Nat} {x : Str} {f : List D → Option (D × Bool)} {L : List (Str × Option (Addr × Addr))} (hn : l.most = some 63) (hdf : d.params.defaults = []) (hr : Room k callerA)
    (hY : ∀ (w : World) (h : Heap), YP w h → (K w.params).In h) (hT : ∀ w : World, TabsFit (K w.params) L) (hD : (L.all fun p => p.2.isNone || ((recsOf q).find? fun e => e.name == p.1).isSome) = true)
    (F : ∀ (w : World) (mg : Str → Option Value) (fa : Addr) (h : Heap), (K w.params).In h → h.Ns mainGlobals mg → mg d.name = some (.ref fa) →
      ∃ fd : FuncData, (∀ (s : Shared) (u : Value), BindsTo s fd ⟨[u], []⟩ [(x, u)]) ∧ ∀ base : Heap, (K w.params).In base → base.Ns mainGlobals mg → FnOk l.prog w (K w.params) mg base CX0 k fa fd [x] (spD (K w.params) f))
    (ht : ∀ ns : List Int, ns.length ≤ 63 → ∃ b, f [.lst (ns.map .int)] = some (.bl true, b)) : PySem.W.WalkO q loose XP YP l.row.toRowW d [] (fun f vs => PySem.call f vs) := by
  refine Att.attach_call hn hdf fun w s₀ s₁ mg mb fa o pm cd doc a vs ns G Y ho hd hcd hmg hobj hints hlen hg => ?_
  have KX := hY w _ Y
  obtain ⟨fd, hb, hF⟩ := F w mg fa _ KX G.T.g hmg
  refine call_head (tabsOf L) (fun b u e => ?_) (hT w).none KX G.T.g G.T.b G.T.builtins G.T.nolimit G.T.bmain hg hobj hints (Nat.le_trans hlen (by decide)) hr hF hb fun H hH hS => ?_
  · obtain ⟨p, hp, e2⟩ := List.mem_filterMap.mp (mem_of_lookup' e)
    obtain ⟨⟨c, P⟩, e3, e4⟩ := Option.map_eq_some_iff.mp e2
    cases e4
    have hp' := List.all_eq_true.mp hD p hp
    rw [e3] at hp'
    rw [Option.isNone_some, Bool.false_or] at hp'
    obtain ⟨r, hr'⟩ := Option.isSome_iff_exists.mp hp'
    have ht' : PySem.W.tabIn (K w.params) p.1 = some (c, P) := by
      rw [(hT w).names] at hp
      obtain ⟨y, _, rfl⟩ := List.mem_map.mp hp
      exact e3
    obtain ⟨h1, h2⟩ := PySem.W.tab_of G.T KX hr' ht'
    exact ⟨h2, (h1.tab h2).isCodeTable⟩
  · obtain ⟨b, e⟩ := ht ns hlen
    exact ⟨H, _, _, b, ⟨.refl H, (hT w).tb hH⟩, .cons (.lst hS (.flat rfl)) .nil, e, fun v H' N x' i' _ => by cases i'; rfl⟩
theorem Def.law {P : Program} {w : World} {K : PySem.W.Frag} {mg : Str → Option Value} {x y : Str} {st : Stmt} {N : List Str} {k : Nat} {g : FS} {h : Heap} {fa : Addr} (F : Def K x st) (X : K.In h) (G : h.Ns mainGlobals mg) (hfa : mg x = some (.ref fa)) (S : FnScope N [y] (defScope st))
    (hbd : ∀ (kV doc pm : Value) (an : Option Addr) (cdv ct : Value) (u : Value), bindArgs (PySem.W.fnOf x x (defArgs st) (defBody st) (defScope st) .none kV doc pm an cdv ct) ⟨[u], []⟩ = pure [(y, u)])
    (hb : ∀ (base : Heap), K.In base → base.Ns mainGlobals mg → ∀ (f : Addr) (cdv : Value) (A : Around) (outer : List PySem.Env) (s : Shared) (H : Hp) (E : XK), Room k (A.deeper (envOfC x (defScope st) s.heap.objs.size f cdv)) → JSs (cxOf CX0 P w K mg base N x (defScope st) f cdv A outer s H E).nox (defBody st) g) :
    ∃ fd : FuncData, (∀ (s : Shared) (u : Value), BindsTo s fd ⟨[u], []⟩ [(y, u)]) ∧ ∀ base : Heap, K.In base → base.Ns mainGlobals mg → FnOk P w K mg base CX0 (k + 1) fa fd [y] (spD K (bodyF g 1 (N.length - 1))) := by
  obtain ⟨f, fd, F1, a⟩ := F
  have e := hfa.symm.trans (PySem.W.mg_of X G a)
  cases e
  refine ⟨fd, fun s u => ?_, fun base kb nb => fn_D F1 S (hb base kb nb _)⟩
  obtain ⟨oc, od, kV, doc, pm, an, cdv, ct, osl, rfl, lk, hcd⟩ := F1.ex
  exact .of_eq (hbd kV doc pm an cdv ct u)
section
variable {X : Cx} {a b e : Expr} {pos : Pos} {x : Str} {p : Pos}
@[simp] def lCat : D → D → Option (D × Bool)
  | .lst xs, .lst ys => if xs.length + ys.length ≤ sizeLine then some (.lst (xs ++ ys), true) else none
  | _, _ => none
theorem o_lcat : OpR X (binaryOp .Add) (rD X.K lCat) := by
  intro pins s σ H x y v u Q I rx ry q
  obtain ⟨B, dx, dy, d, bb, sB, ix, iy, ee, q⟩ := q
  cases ix <;> cases iy <;> try (simp [lCat] at ee; done)
  rename_i l vs ds h hl l' ws es h' hl'
  simp only [lCat] at ee
  split at ee
  · rename_i hz
    cases ee
    cases rx
    cases ry
    obtain ⟨its, r1, p1, z1⟩ := I.list (sB.seq h)
    obtain ⟨jts, r2, p2, z2⟩ := I.list (sB.seq h')
    obtain ⟨⟨c1, d1, t1, s1⟩, o1, e1, n1, k1⟩ := p1.isList
    obtain ⟨⟨c2, d2, t2, s2⟩, o2, e2, n2, k2⟩ := p2.isList
    dsimp only at e1 k1 e2 k2
    subst e1; subst k1; subst e2; subst k2
    have hsz : its.toArray.size + jts.toArray.size ≤ sizeLine := by
      rw [List.size_toArray, List.size_toArray, ← r1.length, ← r2.length, hl.length, hl'.length]; exact hz
    have ea : its.toArray ++ jts.toArray = (its ++ jts).toArray := by simp
    refine concat_meets ⟨_, o1, rfl⟩ ⟨_, o2, rfl⟩ noFill_list_add seq_list_add PySem.F.slot_list_add PySem.F.entry_list_add (PySem.F.args_list_add_2 _ _) (list_addW l l' its.toArray jts.toArray n1 n2 d1 d2 s1 s2 hsz) ⟨o1, o2, ?_⟩
    rw [ea]
    have xt := Ext.laid (o := .lst (vs ++ ws)) sB I.fresh
    have il := (hl.append hl').mono xt.bn
    exact ⟨.ref s.heap.objs.size, _, I.lnew (t' := s.toks) (r1.append r2) (by rw [List.length_append, hl.length, hl'.length]; exact hz), rfl, q _ _ _ xt (.lst (SqL.of upd_same) il) fun _ => ⟨_, _, _, rfl, rfl, I.fresh, upd_same, il⟩⟩
  · cases ee
@[simp] def tCat : D → D → Option (D × Bool)
  | .tup xs, .tup ys => if xs.length + ys.length ≤ sizeLine ∧ xs.isEmpty = false then some (.tup (xs ++ ys), false) else none
  | _, _ => none
theorem o_tcat : OpR X (binaryOp .Add) (rD X.K tCat) := by
  refine opr_to op_catT fun x y H Q q => ?_
  obtain ⟨B, dx, dy, d, bb, sB, ix, iy, ee, q⟩ := q
  cases ix <;> cases iy <;> try (simp [tCat] at ee; done)
  rename_i l vs ds h hl l' ws es h' hl'
  simp only [tCat] at ee
  split at ee
  · rename_i hz
    cases ee
    have l1 := hl.length
    have l2 := hl'.length
    refine ⟨l, l', vs, ws, rfl, rfl, same_seqT sB h, same_seqT sB h', fun z => ?_, by omega, fun z => ?_, fun _ pp hp => ?_⟩
    · subst z
      cases hl
      simp at hz
    · subst z
      cases hl'
      rw [List.append_nil] at q
      exact q.one sB (.tup h hl)
    · have xt := Ext.laid (o := .tup (vs ++ ws)) sB hp
      exact q _ _ _ xt (.tup (SqT.of upd_same) ((hl.append hl').mono xt.bn)) (by simp)
  · cases ee
@[simp] def bAdd : D → D → Option (D × Bool)
  | .bl i, .int j => some (.int ((if i = true then 1 else 0) + j), false)
  | .int i, .bl j => some (.int (i + b2i j), false)
  | _, _ => none
theorem o_badd : OpR X (binaryOp .Add) (rD X.K bAdd) := by
  intro pins s σ H x y v u Q I rx ry q
  obtain ⟨B, dx, dy, d, bb, sB, ix, iy, ee, q⟩ := q
  cases ix <;> cases iy <;> try (simp [bAdd] at ee; done)
  · simp only [bAdd] at ee
    cases ee
    cases rx
    obtain ⟨t, rfl⟩ := ry
    exact IntBool.add_bool_int ⟨.int _, H, I.tok _, ⟨_, rfl⟩, q.one sB (.int _)⟩
  · simp only [bAdd] at ee
    cases ee
    exact op_add_ib pins s σ H _ _ v u Q I rx ry ⟨_, _, rfl, rfl, q.one sB (.int _)⟩
@[simp] def dAdd : D → D → Option (D × Bool)
  | .int i, .int j => some (.int (i + j), false)
  | .str i, .str j => if i.length + j.length ≤ sizeLine then some (.str (i ++ j), false) else none
  | .lst xs, .lst ys => if xs.length + ys.length ≤ sizeLine then some (.lst (xs ++ ys), true) else none
  | .tup xs, .tup ys => if xs.length + ys.length ≤ sizeLine ∧ xs.isEmpty = false then some (.tup (xs ++ ys), false) else none
  | .bl i, .int j => some (.int ((if i = true then 1 else 0) + j), false)
  | .int i, .bl j => some (.int (i + b2i j), false)
  | _, _ => none
theorem o_dadd : OpR X (binaryOp .Add) (rD X.K dAdd) := by
  refine opr_to (r := rD X.K (orD dAdd0 (orD lCat (orD tCat bAdd)))) (opr_or o_dadd0 (opr_or o_lcat (opr_or o_tcat o_badd))) fun x y H Q q => ?_
  obtain ⟨B, dx, dy, d, bb, sB, ix, iy, ee, q⟩ := q
  refine ⟨B, dx, dy, d, bb, sB, ix, iy, ?_, q⟩
  cases dx <;> cases dy <;> simp [dAdd] at ee <;> simp [orD, dAdd0, lCat, tCat, bAdd, ee]
@[simp] def blD : D → Option Bool
  | .bl b => some b
  | _ => none
def blsD : List D → Option (List Bool)
  | [] => some []
  | d :: ds => (blD d).bind fun b => (blsD ds).map (b :: ·)
@[simp] theorem blsD_nil : blsD [] = some [] := rfl
@[simp] theorem blsD_cons (d : D) (ds : List D) : blsD (d :: ds) = (blD d).bind fun b => (blsD ds).map (b :: ·) := rfl
@[simp] def allD : List D → Option (D × Bool)
  | [.lst ds] => (blsD ds).map fun bs => (.bl (bs.all id), false)
  | _ => none
@[simp] def anyD : List D → Option (D × Bool)
  | [.lst ds] => (blsD ds).map fun bs => (.bl (bs.any id), false)
  | _ => none
end
def Its (z : Str) : It := ⟨fun i _ => i < z.cps.size, fun i H v H' => H' = H ∧ ∃ c, z.cps[i]? = some c ∧ v = .str ⟨#[c]⟩, fun i _ => z.cps.size ≤ i⟩
theorem turn_signsA {P : Program} {w : World} {K : PySem.W.Frag} {tg : Expr} (z : Str) (t : Tok) (it : Addr) : Turn P w K tg (Its z) [it] it (fun i h => h.IsStrIter it "str_ascii_iterator" z t i) where
  mem := List.mem_singleton.mpr rfl
  obj := fun i h st b hb => by
    have eb := List.mem_singleton.mp hb
    subst eb
    obtain ⟨o, e1, _, d1⟩ := st
    exact ⟨o, e1, fun v zz => by rw [d1] at zz; cases zz⟩
  keep := fun i h h' st k => let ⟨o, e1, r⟩ := st; ⟨o, k it (List.mem_singleton.mpr rfl) o e1, r⟩
  item := by
    intro X hP hw hK hc i pins s σ H E I hf st hg
    subst hP hw hK
    have hg' : i < z.cps.size := hg
    obtain ⟨f0, f1, f2, f3, f4, f5⟩ := hf it (List.mem_singleton.mpr rfl)
    refine wpAny_pyNext_ascii_item st (c := z.cps[i]) (by simp [hg']) fun h' st' sb => ?_
    obtain ⟨o, e1, c1, d1⟩ := id st'
    exact ⟨_, rfl, go_of (s := { s with heap := h', toks := s.toks + 1 }) e1 c1 d1 (by decide) ⟨.str ⟨#[z.cps[i]]⟩, H, I.turned (fun b o hb e2 => (sb.2 b hb).trans e2) f0 f1 f3 f4 f5, ⟨_, rfl⟩, ⟨rfl, _, by simp [hg'], rfl⟩, st', fun b hb => (hf b hb).1⟩⟩
  done := by
    intro X hP hw hK hc i pins s σ H E I hf st hg
    subst hP hw hK
    have hg' : z.cps.size ≤ i := hg
    obtain ⟨f0, f1, f2, f3, f4, f5⟩ := hf it (List.mem_singleton.mpr rfl)
    exact wpAny_pyNext_ascii_end (I.ok.hd hc) st (by simp; omega) fun h' eb => ⟨rfl, I.turned (t' := s.toks) (fun b o hb e2 => eb b o hb e2) f0 f1 f3 f4 f5⟩
  self := fun _ _ _ _ _ st h => wpAny_pyIter_striter_ascii st h
theorem turn_signsW {P : Program} {w : World} {K : PySem.W.Frag} {tg : Expr} (z : Str) (t : Tok) (it : Addr) : Turn P w K tg (Its z) [it] it (fun i h => h.IsStrIter it "str_iterator" z t i) where
  mem := List.mem_singleton.mpr rfl
  obj := fun i h st b hb => by
    have eb := List.mem_singleton.mp hb
    subst eb
    obtain ⟨o, e1, _, d1⟩ := st
    exact ⟨o, e1, fun v zz => by rw [d1] at zz; cases zz⟩
  keep := fun i h h' st k => let ⟨o, e1, r⟩ := st; ⟨o, k it (List.mem_singleton.mpr rfl) o e1, r⟩
  item := by
    intro X hP hw hK hc i pins s σ H E I hf st hg
    subst hP hw hK
    have hg' : i < z.cps.size := hg
    obtain ⟨f0, f1, f2, f3, f4, f5⟩ := hf it (List.mem_singleton.mpr rfl)
    refine wpAny_pyNext_wide_item st (c := z.cps[i]) (by simp [hg']) fun h' st' sb => ?_
    obtain ⟨o, e1, c1, d1⟩ := id st'
    exact ⟨_, rfl, go_of (s := { s with heap := h', toks := s.toks + 1 }) e1 c1 d1 (by decide) ⟨.str ⟨#[z.cps[i]]⟩, H, I.turned (fun b o hb e2 => (sb.2 b hb).trans e2) f0 f1 f3 f4 f5, ⟨_, rfl⟩, ⟨rfl, _, by simp [hg'], rfl⟩, st', fun b hb => (hf b hb).1⟩⟩
  done := by
    intro X hP hw hK hc i pins s σ H E I hf st hg
    subst hP hw hK
    have hg' : z.cps.size ≤ i := hg
    obtain ⟨f0, f1, f2, f3, f4, f5⟩ := hf it (List.mem_singleton.mpr rfl)
    exact wpAny_pyNext_wide_end (I.ok.hd hc) st (by simp; omega) fun h' eb => ⟨rfl, I.turned (t' := s.toks) (fun b o hb e2 => eb b o hb e2) f0 f1 f3 f4 f5⟩
  self := fun _ _ _ _ _ st h => wpAny_pyIter_striter_wide st h
section
variable {X : Cx} {a b e : Expr} {pos : Pos} {x : Str} {p : Pos} {tg : Expr}
theorem pi_signs {l : Expr} {tl : TE} (hl : PE X l tl) : PI X tg l (fun σ H R => tl σ H fun x H1 => ∃ z, x = .str z ∧ R (Its z) H1) := by
  intro pins s σ H R I h
  refine thn (hl pins s σ H _ I h) fun v s1 ⟨x, H1, I1, r1, q1⟩ => ?_
  obtain ⟨z, rfl, q⟩ := q1
  obtain ⟨t, rfl⟩ := r1
  have fp : ∀ b ∈ [s1.heap.objs.size], FpOk X pins H1 b := fun b hb => by
    rw [List.mem_singleton.mp hb]
    exact I1.fpOk (Nat.le_refl _) (I1.hok.fresh (Nat.le_refl _))
  cases ha : z.cps.all (· < 128) with
  | true => exact wpAny_pyIter_ascii ha ⟨_, [s1.heap.objs.size], _, _, H1, rfl, I1.kept (t' := s1.toks) fun b o e => Heap.get?_push_of_some _ e, turn_signsA z t _, ⟨_, Heap.get?_push_size _ rfl, rfl, rfl⟩, fp, q⟩
  | false => exact wpAny_pyIter_wide ha ⟨_, [s1.heap.objs.size], _, _, H1, rfl, I1.kept (t' := s1.toks) fun b o e => Heap.get?_push_of_some _ e, turn_signsW z t _, ⟨_, Heap.get?_push_size _ rfl, rfl, rfl⟩, fp, q⟩
def signs (z : Str) : List D := z.cps.toList.map fun c => .str ⟨#[c]⟩
theorem it_signs {K : PySem.W.Frag} {B : Hp} (z : Str) : ItOk K (Its z) B (signs z) := by
  intro i H s
  refine ⟨fun d ed => ?_, fun hl => by unfold signs at hl; show z.cps.size ≤ i; simpa using hl⟩
  unfold signs at ed
  rw [List.getElem?_map] at ed
  obtain ⟨c, ec, rfl⟩ := Option.map_eq_some_iff.mp ed
  have ec' : z.cps[i]? = some c := by simpa using ec
  refine ⟨(Array.getElem?_eq_some_iff.mp ec').1, fun v H' hy => ?_⟩
  obtain ⟨rfl, c', e1, rfl⟩ := hy
  rw [ec'] at e1; cases e1
  exact ⟨B, .refl s, .str _⟩
@[simp] def walkOf : D → Option (List D)
  | .lst ds => some ds
  | .tup ds => some ds
  | .str z => some (signs z)
  | _ => none
@[simp] def iSeq (f : FE) : FA := fun ρ => (f ρ).bind fun x => walkOf x.1
theorem ji_seq {f : FE} (h : JE X e f) : JI X tg e (iSeq f) := by
  intro pins s σ H R I q
  obtain ⟨B, ρ, ds, sB, r, e', q⟩ := q
  obtain ⟨xx, ex, es⟩ := Option.bind_eq_some_iff.mp e'
  obtain ⟨xd, xb⟩ := xx
  cases xd with
  | lst l => exact ji_seq0 h pins s σ H R I ⟨B, ρ, ds, sB, r, by unfold iSeq0; rw [ex]; exact es, q⟩
  | tup l => exact ji_seq0 h pins s σ H R I ⟨B, ρ, ds, sB, r, by unfold iSeq0; rw [ex]; exact es, q⟩
  | str z =>
    cases es
    refine pi_signs h pins s σ H R I ⟨B, ρ, _, _, sB, r, ex, fun v H1 N1 x1 i1 _ => ?_⟩
    cases i1
    exact ⟨z, rfl, q _ H1 N1 x1 (it_signs z)⟩
  | _ => cases es
@[simp] def fSl (fa : FE) (fl fh : FO) : FE := fun ρ => (fa ρ).bind fun x => (fl ρ).bind fun l => (fh ρ).bind fun h => match x.1 with
  | .lst ds => some (.lst (cutD ds l h), true)
  | .tup ds => some (.tup (cutD ds l h), false)
  | .str z => if z.length ≤ sizeLine then some (.str (Txt.slice z l h), false) else none
  | _ => none
def flatIs : Value → D → Bool
  | .none, .non => true
  | .bool a, .bl b => a == b
  | .int i _, .int j => decide (i = j)
  | .str i _, .str j => decide (i = j)
  | _, _ => false
def flatsIs : List Value → List D → Bool
  | [], [] => true
  | u :: us, d :: ds => flatIs u d && flatsIs us ds
  | _, _ => false
theorem flatIs_is {K : PySem.W.Frag} {B : Hp} : ∀ {u : Value} {d : D}, flatIs u d = true → ∃ v, RelV v u ∧ Is K B v d
  | .none, .non, _ => ⟨.non, rfl, .non⟩
  | .bool a, .bl b, h => by
    have : a = b := eq_of_beq h
    subst this; exact ⟨.bl a, rfl, .bl a⟩
  | .int i t, .int j, h => by
    have : i = j := of_decide_eq_true h
    subst this; exact ⟨.int i, ⟨t, rfl⟩, .int i⟩
  | .str i t, .str j, h => by
    have : i = j := of_decide_eq_true h
    subst this; exact ⟨.str i, ⟨t, rfl⟩, .str i⟩
theorem flatsIs_is {K : PySem.W.Frag} : ∀ {us : List Value} {ds : List D}, flatsIs us ds = true → ∃ vs, L2.Vals vs us ∧ ∀ B, IsL K B vs ds
  | [], [], _ => ⟨[], .nil, fun _ => .nil⟩
  | u :: us, d :: ds, h => by
    rw [flatsIs, Bool.and_eq_true] at h
    obtain ⟨vs, r, i⟩ := flatsIs_is (K := K) h.2
    obtain ⟨v, r1, _⟩ := flatIs_is (K := K) (B := fun _ => none) h.1
    refine ⟨v :: vs, .cons r1 r, fun B => ?_⟩
    obtain ⟨v', r1', i'⟩ := flatIs_is (K := K) (B := B) h.1
    have : v' = v := by have z1 := r1.abs; rw [r1'.abs] at z1; exact Option.some.inj z1
    subst this
    exact .cons i' (i B)
theorem const_tup {K : PySem.W.Frag} {y : Str} {a : Addr} {od : Option Addr} {its : Array Value} {n : Nat} {osl : Array (Option Value)} {ds : List D} (e : PySem.W.nsIn K mainGlobals y = some (some (.ref a)))
    (l : K.lookup a = some ⟨.type "tuple", od, .seq its n, osl⟩) (h : (decide (its.size ≤ 1000) && flatsIs its.toList ds) = true) : ∃ u v, PySem.W.nsIn K mainGlobals y = some (some u) ∧ RelV v u ∧ ∀ B, Is K B v (.tup ds) := by
  rw [Bool.and_eq_true] at h
  obtain ⟨vs, r, i⟩ := flatsIs_is (K := K) h.2
  exact ⟨_, .ref a, e, rfl, fun B => .tup (.inr ⟨_, its, n, l, rfl, rfl, Nat.le_of_lt (Nat.lt_of_le_of_lt (of_decide_eq_true h.1) (by decide)), r⟩) (i B)⟩
end
section
variable {X : Cx} {a b o e : Expr} {pos : Pos} {x : Str} {p : Pos} {tg : Expr}
theorem je_sm1 {name : Str} {id : String} {apos cpos : Pos} {op : D → D → Option (D × Bool)} {fo fe : FE} (slot : Slot "str" name id) (hty : typeOf (.builtin id) = pure (.type "method_descriptor"))
    (hm : MtR X id (fun x xs H Q => ∃ y, xs = [y] ∧ rD X.K op x y H Q)) (hstr : ∀ dx dy r, op dx dy = some r → ∃ z, dx = .str z) (ho : JE X o fo) (he : JE X e fe)
    (hbase : attributeBase o name X.env (eval o X.env) = eval o X.env := by rfl)
    (hfew : ((backTo cpos (starEach [e] X.env)).all (fun x => !x.1) && (backToKw cpos (keywordEach [] X.env)).all (fun x => x.1.isSome)
      && decide ([e].length + ([] : List Keyword).length + (if ([] : List Keyword).isEmpty then 0 else 1) < 30)) = true := by rfl)
    (hline : (apos.endLine == cpos.line) = true := by rfl) (hs : starEach [e] X.env = [(false, eval e X.env)] := by rfl) :
    JE X (.Call (.Attribute o name apos) [e] [] cpos) (f2 op fo fe) := by
  refine PE.to (pe_bm PySem.F.plainAttrs_str slot hty hm ho (pa_cons he pa_nil hs) hbase hfew hline hs rfl) fun σ H Q q => ?_
  obtain ⟨B, ρ, d, bb, sB, r, ee, q⟩ := q
  obtain ⟨x1, ex, ee⟩ := Option.bind_eq_some_iff.mp ee
  obtain ⟨y1, ey, ee⟩ := Option.bind_eq_some_iff.mp ee
  obtain ⟨z, hz⟩ := hstr _ _ _ ee
  refine ⟨B, ρ, x1.1, x1.2, sB, r, ex, fun v H1 N1 xt1 i1 _ => ?_⟩
  rw [hz] at i1
  cases i1
  refine ⟨show "str" = "str" from rfl, N1, ρ, y1.1, y1.2, xt1.nh, r.mono xt1.bn, ey, fun v2 H2 N2 xt2 i2 _ => ⟨v2, rfl, N2, .str z, y1.1, d, bb, xt2.nh, .str z, i2, by rw [← hz]; exact ee, q.into (xt1.trans xt2)⟩⟩
@[simp] def strD : D → Option Str
  | .str z => some z
  | _ => none
def strsD : List D → Option (List Str)
  | [] => some []
  | d :: ds => (strD d).bind fun z => (strsD ds).map (z :: ·)
@[simp] theorem strsD_nil : strsD [] = some [] := rfl
@[simp] theorem strsD_cons (d : D) (ds : List D) : strsD (d :: ds) = (strD d).bind fun z => (strsD ds).map (z :: ·) := rfl
@[simp] theorem strsD_map (zs : List Str) : strsD (zs.map D.str) = some zs := by
  induction zs with
  | nil => rfl
  | cons z zs ih => simp [ih]
theorem strs_are {K : PySem.W.Frag} {B : Hp} : ∀ {vs : List V} {ds : List D} {zs : List Str} {its : List Value}, L2.Vals vs its → IsL K B vs ds → strsD ds = some zs → StrsAre its zs
  | _, _, _, _, .nil, .nil, e => by cases e; exact .nil
  | _, _, _, _, .cons r rr, .cons i ii, e => by
    rw [strsD_cons] at e
    obtain ⟨z, e1, e⟩ := Option.bind_eq_some_iff.mp e
    obtain ⟨zs, e2, e⟩ := Option.map_eq_some_iff.mp e
    subst e
    cases i <;> simp only [strD] at e1 <;> try (cases e1; done)
    cases e1
    obtain ⟨t, rfl⟩ := r
    exact .cons _ t (strs_are rr ii e2)
@[simp] def joinD : D → D → Option (D × Bool)
  | .str sep, .lst ds => (strsD ds).bind fun zs => if (zs.map (·.length)).sum + zs.length * sep.length ≤ 16777216 then some (.str (Txt.join sep zs), false) else none
  | .str sep, .tup ds => (strsD ds).bind fun zs => if (zs.map (·.length)).sum + zs.length * sep.length ≤ 16777216 then some (.str (Txt.join sep zs), false) else none
  | _, _ => none
theorem m_join : MtR X "str.join" (fun x xs H Q => ∃ y, xs = [y] ∧ rD X.K joinD x y H Q) := by
  intro pins s σ H x xs v us Q I rx rs h
  obtain ⟨y, rfl, B, dx, dy, d, bb, sB, ix, iy, ee, q⟩ := h
  obtain ⟨u1, rfl, r1⟩ := vals1 rs
  cases ix <;> (try (simp [joinD] at ee; done))
  obtain ⟨t, rfl⟩ := rx
  cases iy <;> (try (simp [joinD] at ee; done))
  · rename_i h hl
    simp only [joinD] at ee
    obtain ⟨zs, ez, ee⟩ := Option.bind_eq_some_iff.mp ee
    split at ee
    · rename_i hok
      cases ee
      cases r1
      obtain ⟨its, rv, p1, z1⟩ := I.tuple (same_seqT sB h)
      exact join_tuple p1 (by simpa using strs_are rv hl ez) hok fun t' k => ⟨.str _, H, I.tok k, ⟨t', rfl⟩, q.one sB (.str _)⟩
    · cases ee
  · rename_i h hl
    simp only [joinD] at ee
    obtain ⟨zs, ez, ee⟩ := Option.bind_eq_some_iff.mp ee
    split at ee
    · rename_i hok
      cases ee
      cases r1
      obtain ⟨its, rv, p1, z1⟩ := I.list (sB.seq h)
      exact join_list p1.isList (by simpa using strs_are rv hl ez) hok fun t' k => ⟨.str _, H, I.tok k, ⟨t', rfl⟩, q.one sB (.str _)⟩
    · cases ee
theorem join_str (dx dy : D) (r : D × Bool) (h : joinD dx dy = some r) : ∃ z, dx = .str z := by
  cases dx <;> first | exact ⟨_, rfl⟩ | (cases dy <;> simp [joinD] at h)
def setsE : List Nat → List D → Env → Option Env
  | [], [], ρ => some ρ
  | i :: is, d :: ds, ρ => setsE is ds (ρ.set i (some (d, false)))
  | _, _, _ => none
@[simp] theorem setsE_nil (ρ : Env) : setsE [] [] ρ = some ρ := by rw [setsE]
@[simp] theorem setsE_cons (i : Nat) (is : List Nat) (d : D) (ds : List D) (ρ : Env) : setsE (i :: is) (d :: ds) ρ = setsE is ds (ρ.set i (some (d, false))) := by rw [setsE]
@[simp] theorem setsE_nc (d : D) (ds : List D) (ρ : Env) : setsE [] (d :: ds) ρ = none := by simp only [setsE]
@[simp] theorem setsE_cn (i : Nat) (is : List Nat) (ρ : Env) : setsE (i :: is) [] ρ = none := by simp only [setsE]
@[simp] def tgT (is : List Nat) : FG := fun d ρ => match d with | .tup ds => setsE is ds ρ | _ => none
def gNames : List Nat → TGs
  | [] => gNil
  | i :: is => gCons (gName i) (gNames is)
theorem bind_cut {N : Hp} {σ : St} {ρ : Env} {i : Nat} {v : V} {d : D} : Same (cut N (own σ ρ)) (cut N (own (σ.set i (some v)) (ρ.set i (some (d, false))))) := cut_mono fun a u e q => ⟨e, fun z => q (by
  rcases own_set z with ⟨_, d', p⟩ | ⟨j, _, d', q1, q2⟩
  · cases p
  · exact ⟨j, d', q1, q2⟩)⟩
theorem names_run {K : PySem.W.Frag} : ∀ {is : List Nat} {vs : List V} {ds : List D} {B0 H0 N H : Hp} {σ : St} {ρ ρ' : Env} {Q : St → Hp → Prop}, StN K B0 H0 N H σ ρ → IsL K (cut N (own σ ρ)) vs ds → setsE is ds ρ = some ρ' → (∀ σ', StN K B0 H0 N H σ' ρ' → Q σ' H) → gNames is vs σ H Q
  | [], _, _, _, _, _, _, _, _, _, _, s, .nil, e, k => by
    rw [setsE_nil] at e; cases e
    exact ⟨rfl, k _ s⟩
  | [], _, _, _, _, _, _, _, _, _, _, _, .cons _ _, e, _ => by simp at e
  | _ :: _, _, _, _, _, _, _, _, _, _, _, _, .nil, e, _ => by simp at e
  | i :: is, _, _, _, _, _, _, _, _, _, _, s, .cons h hs, e, k => by
    rw [setsE_cons] at e
    exact ⟨_, _, rfl, names_run (s.bind h) (hs.mono bind_cut) e k⟩
theorem setsE_len : ∀ {is : List Nat} {ds : List D} {ρ ρ' : Env}, setsE is ds ρ = some ρ' → ds.length = is.length
  | [], [], _, _, _ => rfl
  | _ :: _, _ :: _, _, _, e => by rw [setsE_cons] at e; simp [setsE_len e]
  | [], _ :: _, _, _, e => by simp at e
  | _ :: _, [], _, _, e => by simp at e
theorem names_rep {K : PySem.W.Frag} {n : Nat} {B H : Hp} {ρ0 : Env} {Q : St → Hp → Prop} (cl : ∀ i, i < n → ρ0[i]? = some none) : ∀ {is : List Nat} {vs : List V} {ds : List D} {σ : St} {ρ ρ1 : Env}, (∀ i ∈ is, i < n) → RepE K B σ ρ → IsL K B vs ds → setsE is ds ρ = some ρ1 → ρ.length = σ.length → ρ.length = ρ0.length →
    (∀ σ1, RepE K B σ1 ρ1 → (∀ B', RepE K B' σ ρ0 → RepE K B' σ1 ρ0) → ρ0.length = σ1.length → Q σ1 H) → gNames is vs σ H Q
  | [], _, _, _, _, _, _, rp, .nil, e, l1, l2, k => by
    rw [setsE_nil] at e; cases e
    exact ⟨rfl, k _ rp (fun _ z => z) (by omega)⟩
  | [], _, _, _, _, _, _, _, .cons _ _, e, _, _, _ => by simp at e
  | _ :: _, _, _, _, _, _, _, _, .nil, e, _, _, _ => by simp at e
  | i :: is, _, _, σ, ρ, _, hn, rp, .cons (v := v) h hs, e, l1, l2, k => by
    rw [setsE_cons] at e
    have hi := hn i List.mem_cons_self
    have hiσ : i < σ.length := by
      have := (List.getElem?_eq_some_iff.mp (cl i hi)).1
      omega
    refine ⟨_, _, rfl, names_rep cl (fun j hj => hn j (List.mem_cons_of_mem _ hj)) ⟨rp.tb, fun j d b q => ?_⟩ hs e (by simpa using l1) (by simpa using l2) fun σ1 r1 r2 l => k σ1 r1 (fun B' z => r2 B' ⟨z.tb, fun j d b q => ?_⟩) l⟩
    · rcases set_get q with ⟨rfl, pp⟩ | ⟨ne, pp⟩
      · cases pp
        exact ⟨v, by simp [hiσ], h⟩
      · obtain ⟨w, h1, h2⟩ := rp.at' j d b pp
        exact ⟨w, by rw [List.getElem?_set_ne ne]; exact h1, h2⟩
    · obtain ⟨w, h1, h2⟩ := z.at' j d b q
      have ne : i ≠ j := fun z => by subst z; rw [cl i hi] at q; cases q
      exact ⟨w, by rw [List.getElem?_set_ne ne]; exact h1, h2⟩
theorem tge_T {K : PySem.W.Frag} {n : Nat} {is : List Nat} (hn : ∀ i ∈ is, i < n) : TGE K n (tgT is) (gTup K is.length (gNames is)) := by
  intro B H σ ρ ρ1 v d Q cl rep s h e hl k
  cases h with
  | @tup a vs ds ht hv =>
    have e' : setsE is ds ρ = some ρ1 := e
    exact ⟨a, vs, rfl, same_seqT s ht, by rw [hv.length]; exact setsE_len e', names_rep cl hn rep hv e' hl rfl k⟩
  | _ => cases e
end
section
variable {prog : Program} {w : World} {A : Around} {E : Value → Shared → Prop} {s : Shared}
theorem drawT_item {it l : Addr} {i : Nat} {items : Array Value} {v : Value} {Q : Value → Shared → Prop} (st : s.heap.IsTupleIter it l i) (ht : s.heap.IsTuple l items) (hv : items[i]? = some v)
    (k : ∀ h', h'.IsTupleIter it l (i + 1) → Heap.SameBut it s.heap h' → Q v { s with heap := h' }) : wpAny (model prog w) A (Builtin.SmallTypes.nextOf (.ref it)) Q E s := by
  obtain ⟨o1, g1, c1, d1⟩ := id st
  obtain ⟨o2, g2, _, n2, d2⟩ := ht
  unfold Builtin.SmallTypes.nextOf
  refine wpAny_bind (wpAny_callSpecial?_slot (name := Str.ofString "__next__") st.typeIs PySem.F.slot_tuple_iterator_next (wpAny_call_entry PySem.F.slot_tuple_iterator_next st.typeIs PySem.F.entry_tuple_iterator_next ?_ (PySem.F.args_tuple_iterator_next_1 _)))
  show wpAny _ _ (field (.ref it) 0 >>= _) _ _ _
  refine wpAny_bind (wpAny_field g1 d1 (x := .ref l) rfl ?_)
  show wpAny _ _ (if (Value.ref l == Value.none) = true then _ else _) _ _ _
  rw [if_neg (fun z => Bool.false_ne_true z : ¬ ((Value.ref l == Value.none) = true))]
  show wpAny _ _ (field (.ref it) 1 >>= _) _ _ _
  refine wpAny_bind (wpAny_field g1 d1 (x := .int i 0) rfl ?_)
  show wpAny _ _ (seqItems? (.ref l) >>= _) _ _ _
  refine wpAny_bind (wpAny_seqItems g2 d2 ?_)
  simp only [hv, Int.toNat_natCast]
  refine wpAny_bind (wpAny_setField g1 d1 (by simp) (wpAny_pure ⟨v, rfl, wpAny_pure (k _ ?_ (Heap.SameBut.update ..))⟩))
  exact ⟨_, Heap.get?_update_self _ g1 (Obj.isFreed_of_fields (Obj.data_mapFields d1 _)), (Obj.cls_mapFields ..).trans c1, by rw [Obj.data_mapFields d1]; simp [rawInt]⟩
theorem drawT_end {it l : Addr} {i : Nat} {items : Array Value} {Q : Value → Shared → Prop} (hA : A.handled = none) (st : s.heap.IsTupleIter it l i) (ht : s.heap.IsTuple l items) (hv : items[i]? = none)
    (k : ∀ h' x, Heap.ExtBut it s.heap h' → (∃ o, h'.get? x = some o ∧ o.cls = .type "StopIteration") → E (.ref x) { s with heap := h' }) : wpAny (model prog w) A (Builtin.SmallTypes.nextOf (.ref it)) Q E s := by
  obtain ⟨o1, g1, c1, d1⟩ := id st
  obtain ⟨o2, g2, _, n2, d2⟩ := ht
  unfold Builtin.SmallTypes.nextOf
  refine wpAny_bind (wpAny_callSpecial?_slot (name := Str.ofString "__next__") st.typeIs PySem.F.slot_tuple_iterator_next (wpAny_call_entry PySem.F.slot_tuple_iterator_next st.typeIs PySem.F.entry_tuple_iterator_next ?_ (PySem.F.args_tuple_iterator_next_1 _)))
  show wpAny _ _ (field (.ref it) 0 >>= _) _ _ _
  refine wpAny_bind (wpAny_field g1 d1 (x := .ref l) rfl ?_)
  show wpAny _ _ (if (Value.ref l == Value.none) = true then _ else _) _ _ _
  rw [if_neg (fun z => Bool.false_ne_true z : ¬ ((Value.ref l == Value.none) = true))]
  show wpAny _ _ (field (.ref it) 1 >>= _) _ _ _
  refine wpAny_bind (wpAny_field g1 d1 (x := .int i 0) rfl ?_)
  show wpAny _ _ (seqItems? (.ref l) >>= _) _ _ _
  refine wpAny_bind (wpAny_seqItems g2 d2 ?_)
  simp only [hv, Int.toNat_natCast]
  refine wpAny_bind (wpAny_rule (wpAny_bind (wpAny_setField g1 d1 (by simp) ?_)))
  show wpAny _ _ (newExc (.type "StopIteration") [] >>= _) _ _ _
  refine wpAny_bind ?_
  simp only [newTuple, newExc]
  refine wpAny_bind (wpAny_newObj_type ?_ (by size_fits))
  refine wpAny_bind (m := firstArgMember _ _) (wpAny_of_eq (a := Value.none) (by first | (simp only [firstArgMember]; rfl) | rfl) ?_)
  refine wpAny_newObj_type ?_ (by size_fits)
  simp only [raiseNew]
  refine wpAny_bind (wpAny_handled ?_)
  first | rw [hA] | rw [show A.in1.handled = none from hA]
  exact wpAny_bind (wpAny_pure (wpAny_throw (k _ _ (((Heap.SameBut.update ..).extBut.push _).push _) ⟨_, Heap.get?_push_size _ rfl, rfl⟩)))
end
def KIt : Bool → Heap → Addr → Addr → Nat → Prop
  | true, h, it, a, i => h.IsListIter it a i
  | false, h, it, a, i => h.IsTupleIter it a i
def KSq : Bool → Heap → Addr → Array Value → Prop
  | true, h, a, items => h.IsList a items
  | false, h, a, items => h.IsTuple a items
def SqK (k : Bool) (K : PySem.W.Frag) (H : Hp) (a : Addr) (xs : List V) : Prop := match k with | true => SqL K H a xs | false => SqT K H a xs
theorem KIt.ob {k : Bool} {h : Heap} {it a : Addr} {i : Nat} (st : KIt k h it a i) : ∃ o, h.get? it = some o ∧ ∀ v, o.data ≠ .cell v := by
  cases k <;> (obtain ⟨o, g, _, d⟩ := st; exact ⟨o, g, fun v z => by rw [d] at z; cases z⟩)
theorem KIt.upon {k : Bool} {h h' : Heap} {it a : Addr} {i : Nat} (st : KIt k h it a i) (g : ∀ o, h.get? it = some o → h'.get? it = some o) : KIt k h' it a i := by
  cases k <;> (obtain ⟨o, e, r⟩ := st; exact ⟨o, g o e, r⟩)
theorem KSq.upon {k : Bool} {h h' : Heap} {a : Addr} {items : Array Value} (st : KSq k h a items) (g : ∀ o, h.get? a = some o → h'.get? a = some o) : KSq k h' a items := by
  cases k <;> (obtain ⟨o, e, r⟩ := st; exact ⟨o, g o e, r⟩)
theorem KSq.lt {k : Bool} {h : Heap} {a : Addr} {items : Array Value} (st : KSq k h a items) : a < h.objs.size := by
  cases k <;> (obtain ⟨o, e, r⟩ := st; exact Heap.lt_size e)
theorem SqK.same {k : Bool} {K : PySem.W.Frag} {H H' : Hp} {a : Addr} {xs : List V} (h : SqK k K H a xs) (e : Same H H') : SqK k K H' a xs := by
  cases k
  · exact same_seqT e h
  · exact e.seq h
theorem SqK.vals {X : Cx} {pins : List (Addr × Obj)} {σ : St} {H : Hp} {s : Shared} {k : Bool} {a : Addr} {xs : List V} (I : Inv X pins σ H s) (h : SqK k X.K H a xs) : ∃ its : List Value, Vals xs its ∧ KSq k s.heap a its.toArray ∧ xs.length ≤ sizeLine := by
  cases k
  · exact I.tuple h
  · obtain ⟨its, r, p, z⟩ := I.list h
    exact ⟨its, r, p.isList, z⟩
theorem SqK.inj {X : Cx} {pins : List (Addr × Obj)} {σ : St} {H : Hp} {s : Shared} {k : Bool} {a : Addr} {xs ys : List V} (I : Inv X pins σ H s) (h : SqK k X.K H a xs) (h' : SqK k X.K H a ys) : xs = ys := by
  cases k
  · exact I.tuple_inj h h'
  · exact I.list_inj h h'
section
variable {prog : Program} {w : World} {A : Around} {E : Value → Shared → Prop} {s : Shared}
theorem draw_item {k : Bool} {it l : Addr} {i : Nat} {items : Array Value} {v : Value} {Q : Value → Shared → Prop} (st : KIt k s.heap it l i) (ht : KSq k s.heap l items) (hv : items[i]? = some v)
    (q : ∀ h', KIt k h' it l (i + 1) → Heap.SameBut it s.heap h' → Q v { s with heap := h' }) : wpAny (model prog w) A (Builtin.SmallTypes.nextOf (.ref it)) Q E s := by
  cases k
  · exact drawT_item st ht hv q
  · exact wpAny_nextOf_list_item st ht hv q
theorem draw_end {k : Bool} {it l : Addr} {i : Nat} {items : Array Value} {Q : Value → Shared → Prop} (hA : A.handled = none) (st : KIt k s.heap it l i) (ht : KSq k s.heap l items) (hv : items[i]? = none)
    (q : ∀ h' x, Heap.ExtBut it s.heap h' → (∃ o, h'.get? x = some o ∧ o.cls = .type "StopIteration") → E (.ref x) { s with heap := h' }) : wpAny (model prog w) A (Builtin.SmallTypes.nextOf (.ref it)) Q E s := by
  cases k
  · exact drawT_end hA st ht hv q
  · exact wpAny_nextOf_list_end hA st ht hv q
end
def itO (k : Bool) (l : Addr) : Obj := { cls := .type (if k = true then "list_iterator" else "tuple_iterator"), data := .fields #[.ref l, .int 0 0] }
theorem pyIterK {prog : Program} {w : World} {A : Around} {E : Value → Shared → Prop} {s : Shared} {k : Bool} {l : Addr} {items : Array Value} {Q : Value → Shared → Prop} (ht : KSq k s.heap l items)
    (q : Q (.ref s.heap.objs.size) { s with heap := s.heap.push (itO k l) }) : wpAny (model prog w) A (pyIter (.ref l)) Q E s := by
  cases k
  · exact wpAny_pyIter_tuple ht q
  · exact wpAny_pyIter_list ht q
theorem KSq.push {k : Bool} {h : Heap} {a : Addr} {items : Array Value} (st : KSq k h a items) (o : Obj) : KSq k (h.push o) a items := st.upon fun _ e => Heap.get?_push_of_some _ e
theorem turnedS {X : Cx} {pins : List (Addr × Obj)} {σ : St} {H : Hp} {s : Shared} {h' : Heap} {t' : Nat} {ch : List Addr} (I : Inv X pins σ H s) (f : ∀ b ∈ ch, FpOk X pins H b) (k : ∀ b o, b ∉ ch → s.heap.get? b = some o → h'.get? b = some o) : Inv X pins σ H { s with heap := h', toks := t' } := by
  have nit : ∀ b u, H b = some u → b ∉ ch := fun b u e z => by rw [(f b z).1] at e; cases e
  refine I.step (g' := s.gens) (d' := s.drawn) (ch := ch) (fun b hb => ?_) (fun b o _ _ hc e _ => k b o hc e) (fun b o _ _ hc e _ => ⟨o.slots, k b o hc e⟩) (fun _ _ _ _ n => n)
    (fun b o hc e => ⟨o, k b o hc e⟩) (fun _ _ e => e) (fun _ _ _ e => e) (fun _ _ e => e) (fun m hm => ?_) (fun b u e => ?_) I.bare
  · obtain ⟨_, f1, _, f3, f4, f5⟩ := f b hb
    exact ⟨f3, f1, f4, f5⟩
  · obtain ⟨o, es, ep, ho, r⟩ := hm
    exact ⟨o, es, ep, k _ o (fun z => (f _ z).2.1 rfl) ho, r⟩
  · refine (I.hok b u e).stay (fun c v hc q => k c v ?_ q) (fun _ q => q) (fun _ _ q => q) fun _ _ _ q => q
    rcases hc with z | z
    · rw [z]; exact nit b u e
    · exact nit c _ z
theorem laidS {X : Cx} {pins : List (Addr × Obj)} {σ : St} {H : Hp} {s : Shared} {h' : Heap} {t' : Nat} {ch : List Addr} {a : Addr} {ob : HO} (I : Inv X pins σ H s) (f : ∀ b ∈ ch, FpOk X pins H b) (k : ∀ b o, b ∉ ch → s.heap.get? b = some o → h'.get? b = some o) (ha : s.heap.objs.size ≤ a)
    (new : ObjOk X.prog X.w (upd H a ob) h' a ob) : Inv X pins σ (upd H a ob) { s with heap := h', toks := t' } := by
  have hn : H a = none := I.hok.fresh ha
  have nit : ∀ b u, H b = some u → b ∉ ch := fun b u e z => by rw [(f b z).1] at e; cases e
  have na : ∀ b o, s.heap.get? b = some o → b ≠ a := fun b o e => Nat.ne_of_lt (Nat.lt_of_lt_of_le (Heap.lt_size e) ha)
  refine I.step (g' := s.gens) (d' := s.drawn) (ch := ch) (fun b hb => ?_) (fun b o _ _ hc e _ => k b o hc e) (fun b o _ _ hc e _ => ⟨o.slots, k b o hc e⟩) (fun b o _ e n => by rw [upd_ne (na b o e)]; exact n)
    (fun b o hc e => ⟨o, k b o hc e⟩) (fun b xs e => by rw [upd_ne (ne_of_none e hn)]; exact e) (fun b o u e => by rw [upd_ne (ne_of_none e hn)]; exact e) (fun b ps e => by rw [upd_ne (ne_of_none e hn)]; exact e) (fun m hm => ?_) (fun b u e => ?_) I.bare
  · obtain ⟨_, f1, _, f3, f4, f5⟩ := f b hb
    exact ⟨f3, f1, f4, f5⟩
  · obtain ⟨o, es, ep, ho, r⟩ := hm
    exact ⟨o, es, ep, k _ o (fun z => (f _ z).2.1 rfl) ho, r⟩
  · by_cases hb : b = a
    · subst hb; rw [upd_same] at e; cases e; exact new
    · rw [upd_ne hb] at e
      refine (I.hok b u e).stay (fun c v hc q => k c v ?_ q) (fun c q => ?_) (fun c xs q => ?_) fun c o xs q => ?_
      · rcases hc with z | z
        · rw [z]; exact nit b u e
        · exact nit c _ z
      · rw [upd_ne (ne_of_none q hn)]; exact q
      · rw [upd_ne (ne_of_none q hn)]; exact q
      · rw [upd_ne (ne_of_none q hn)]; exact q
section
variable {X : Cx} {a b e : Expr} {pos : Pos} {p : Pos}
def zipD (xs ys : List D) : List D := List.zipWith (fun x y => .tup [x, y]) xs ys
@[simp] def iZip (fa fb : FE) : FA := fun ρ => (fa ρ).bind fun x => (fb ρ).bind fun y => (seqOf x.1).bind fun xs => (seqOf y.1).map fun ys => zipD xs ys
theorem seq_K {K : PySem.W.Frag} {B : Hp} {v : V} {d : D} {ds : List D} (h : Is K B v d) (e : seqOf d = some ds) : ∃ k a vs, v = .ref a ∧ SqK k K B a vs ∧ IsL K B vs ds := by
  cases h with
  | tup ht hl => cases e; exact ⟨false, _, _, rfl, ht, hl⟩
  | lst ht hl => cases e; exact ⟨true, _, _, rfl, ht, hl⟩
  | _ => cases e
end
def unown1 (ρ : Env) (i : Nat) : Env := match ρ[i]? with
  | some (some (d, true)) => ρ.set i (some (d, false))
  | _ => ρ
theorem StN.unown1 {K : PySem.W.Frag} {B0 H0 N H : Hp} {σ : St} {ρ : Env} (s : StN K B0 H0 N H σ ρ) (i : Nat) : StN K B0 H0 N H σ (unown1 ρ i) := by
  unfold DL.unown1
  split
  · rename_i d hd
    obtain ⟨a, ob, h1, h2, h3, h4⟩ := s.ow i d hd
    have get : ∀ {j : Nat} {e : D} {b : Bool}, (ρ.set i (some (d, false)))[j]? = some (some (e, b)) → (i = j ∧ e = d ∧ b = false) ∨ (i ≠ j ∧ ρ[j]? = some (some (e, b))) := fun q => by
      rcases set_get q with ⟨z, p⟩ | ⟨z, p⟩
      · cases p; exact .inl ⟨z, rfl, rfl⟩
      · exact .inr ⟨z, p⟩
    have o : ∀ c, own σ (ρ.set i (some (d, false))) c → own σ ρ c ∧ c ≠ a := fun c ⟨j, e, q1, q2⟩ => by
      rcases get q1 with ⟨_, _, z⟩ | ⟨ne, q⟩
      · cases z
      · exact ⟨⟨j, e, q, q2⟩, fun z => by subst z; exact ne (s.inj i j _ _ _ hd q h1 q2)⟩
    have c : Same (cut N (own σ ρ)) (cut N (own σ (ρ.set i (some (d, false))))) := cut_mono fun b u e q => ⟨e, fun z => q (o b z).1⟩
    have na : ¬ own σ (ρ.set i (some (d, false))) a := fun z => (o a z).2 rfl
    refine ⟨s.bh, s.tb, s.ext, by rw [List.length_set]; exact s.len, fun j e q => ?_, fun j e q => ?_, fun j k b e f q q' z1 z2 => ?_⟩
    · rcases get q with ⟨rfl, rfl, _⟩ | ⟨_, q⟩
      · exact ⟨_, h1, (h4.mono c).is (by rw [cut_of na]; exact h2)⟩
      · obtain ⟨v, k1, k2⟩ := s.sh j e q
        exact ⟨v, k1, k2.mono c⟩
    · rcases get q with ⟨_, _, z⟩ | ⟨_, q⟩
      · cases z
      · obtain ⟨a', o', k1, k2, k3, k4⟩ := s.ow j e q
        exact ⟨a', o', k1, k2, k3, k4.mono c⟩
    · rcases get q with ⟨_, _, z⟩ | ⟨_, q⟩
      · cases z
      · rcases get q' with ⟨_, _, z⟩ | ⟨_, q'⟩
        · cases z
        · exact s.inj j k b e f q q' z1 z2
  · exact s
@[simp] def gUn (is : List Nat) (g : FS) : FS := fun ρ => g (is.foldl unown1 ρ)
@[simp] def gCont : FS := fun ρ => some (.ct ρ)
@[simp] def gBreak : FS := fun ρ => some (.bk ρ)
@[simp] def gNever : FS := fun _ => none
section
variable {X : Cx} {pos : Pos}
theorem js_cont : JS X (.Continue pos) gCont := PS.to ps_continue fun E σ H q => by
  obtain ⟨B0, H0, ρ, r, s, e, p⟩ := q
  cases e
  exact p σ H s
end
inductive CRows (K : PySem.W.Frag) (P : Params) : List DictEntry → List (Str × D) → Prop where
  | nil : CRows K P [] []
  | tup {x : Str} {t : Tok} {h : Int} {a : Addr} {its : Array Value} {n : Nat} {osl : Array (Option Value)} {ds : List D} {r : List DictEntry} {kvs : List (Str × D)} (hh : h = PyData.keyHash P x)
      (l : K.lookup a = some ⟨.type "tuple", none, .seq its n, osl⟩) (f : (decide (its.size ≤ 1000) && flatsIs its.toList ds) = true) (tl : CRows K P r kvs) : CRows K P (⟨h, .str x t, .ref a⟩ :: r) ((x, .tup ds) :: kvs)
  | flat {x : Str} {t : Tok} {h : Int} {u : Value} {d : D} {r : List DictEntry} {kvs : List (Str × D)} (hh : h = PyData.keyHash P x) (f : flatIs u d = true) (tl : CRows K P r kvs) : CRows K P (⟨h, .str x t, u⟩ :: r) ((x, d) :: kvs)
theorem CRows.lit {K : PySem.W.Frag} {P : Params} : ∀ {es : List DictEntry} {kvs : List (Str × D)}, CRows K P es kvs → PySem.W.KeysLit P es
  | _, _, .nil => trivial
  | _, _, .tup hh _ _ tl => ⟨⟨_, _, rfl, hh⟩, tl.lit⟩
  | _, _, .flat hh _ tl => ⟨⟨_, _, rfl, hh⟩, tl.lit⟩
theorem CRows.find {K : PySem.W.Frag} {P : Params} (y : Str) : ∀ {es : List DictEntry} {kvs : List (Str × D)}, CRows K P es kvs → match kvs.lookup y with
    | none => es.find? (fun e => Value.isStrOf y e.key) = none
    | some d => ∃ e v, es.find? (fun e => Value.isStrOf y e.key) = some e ∧ RelV v e.val ∧ ∀ B, Is K B v d
  | _, _, .nil => rfl
  | _, _, .tup (x := x) (t := t) (a := a) (ds := ds) hh l f tl => by
    by_cases e : y = x
    · subst e
      rw [List.lookup_cons_self]
      rw [Bool.and_eq_true] at f
      obtain ⟨vs, r, i⟩ := flatsIs_is (K := K) f.2
      exact ⟨_, .ref a, List.find?_cons_of_pos (by simp [Value.isStrOf]), rfl, fun B => .tup (.inr ⟨_, _, _, l, rfl, rfl, Nat.le_of_lt (Nat.lt_of_le_of_lt (of_decide_eq_true f.1) (by decide)), r⟩) (i B)⟩
    · have ih := tl.find y
      rw [List.lookup_cons, beq_eq_false_iff_ne.mpr e]
      have nf : Value.isStrOf y (Value.str x t) = false := by
        rw [Bool.eq_false_iff]
        intro z
        obtain ⟨t', q⟩ := Value.isStrOf_shape z
        injection q with q1
        exact e q1.symm
      simp only [List.find?_cons, nf]
      exact ih
  | _, _, .flat (x := x) (t := t) (u := u) (d := d) hh f tl => by
    by_cases e : y = x
    · subst e
      rw [List.lookup_cons_self]
      obtain ⟨v, r1, _⟩ := flatIs_is (K := K) (B := fun _ => none) f
      refine ⟨_, v, List.find?_cons_of_pos (by simp [Value.isStrOf]), r1, fun B => ?_⟩
      obtain ⟨v', r1', i'⟩ := flatIs_is (K := K) (B := B) f
      have : v' = v := by have z1 := r1.abs; rw [r1'.abs] at z1; exact Option.some.inj z1
      subst this
      exact i'
    · have ih := tl.find y
      rw [List.lookup_cons, beq_eq_false_iff_ne.mpr e]
      have nf : Value.isStrOf y (Value.str x t) = false := by
        rw [Bool.eq_false_iff]
        intro z
        obtain ⟨t', q⟩ := Value.isStrOf_shape z
        injection q with q1
        exact e q1.symm
      simp only [List.find?_cons, nf]
      exact ih
def CDict (K : PySem.W.Frag) (P : Params) (a : Addr) (kvs : List (Str × D)) : Prop := ∃ es n, K.lookup a = some ⟨.type "dict", none, .dict es n, #[]⟩ ∧ CRows K P es.toList kvs ∧ (a == sysModules) = false
theorem const_dict {K : PySem.W.Frag} {P : Params} {y : Str} {a : Addr} {es : Array DictEntry} {n : Nat} {kvs : List (Str × D)} (e : PySem.W.nsIn K mainGlobals y = some (some (.ref a))) (l : K.lookup a = some ⟨.type "dict", none, .dict es n, #[]⟩) (r : CRows K P es.toList kvs) (s : (a == sysModules) = false) :
    ∃ a, PySem.W.nsIn K mainGlobals y = some (some (.ref a)) ∧ CDict K P a kvs := ⟨a, e, es, n, l, r, s⟩
section
variable {X : Cx} {a b e : Expr} {pos : Pos} {x : Str} {p : Pos}
theorem CDict.map {pins : List (Addr × Obj)} {σ : St} {H : Hp} {s : Shared} {d : Addr} {kvs : List (Str × D)} (I : Inv X pins σ H s) (h : CDict X.K X.w.params d kvs) : ∃ f : Str → Option Value, s.heap.MapOf (strKind X.prog X.w) d f ∧ (d == sysModules) = false ∧
    ∀ y, match kvs.lookup y with | none => f y = none | some dd => ∃ u v, f y = some u ∧ RelV v u ∧ ∀ B, Is X.K B v dd := by
  obtain ⟨es, n, l, r, sm⟩ := h
  refine ⟨_, PySem.W.mapOf_K I.kIn l r.lit, sm, fun y => ?_⟩
  have := r.find y
  have ff : findBy Value.isStrOf es y = (es.toList.find? fun e => Value.isStrOf y e.key).map (·.val) := by
    unfold findBy
    obtain ⟨es⟩ := es
    rw [List.find?_toArray]
  cases hl : kvs.lookup y with
  | none => rw [hl] at this; dsimp only at this ⊢; rw [ff, this]; rfl
  | some dd =>
    rw [hl] at this
    obtain ⟨en, v, e1, e2, e3⟩ := this
    exact ⟨en.val, v, by rw [ff, e1]; rfl, e2, e3⟩
@[simp] def cGet (kvs : List (Str × D)) : D → Option (D × Bool)
  | .str y => (kvs.lookup y).map fun d => (d, false)
  | _ => none
@[simp] def cIn (kvs : List (Str × D)) : D → Option (D × Bool)
  | .str y => some (.bl (kvs.lookup y).isSome, false)
  | _ => none
@[simp] def cNotIn (kvs : List (Str × D)) : D → Option (D × Bool)
  | .str y => some (.bl (!(kvs.lookup y).isSome), false)
  | _ => none
@[simp] def to_list : List D → Option (D × Bool)
  | [.lst ds] => some (.lst ds, true)
  | [.tup ds] => some (.lst ds, true)
  | _ => none
@[simp] def to_tuple : List D → Option (D × Bool)
  | [.lst ds] => some (.tup ds, false)
  | [.tup ds] => some (.tup ds, false)
  | _ => none
theorem c_list : CallR X (.type "list") (rDA X.K to_list) := by
  refine CallR.to call_list_of fun xs H Q q => ?_
  obtain ⟨B, ds, d, bb, sB, i, ee, q⟩ := q
  cases i with
  | nil => simp [to_list] at ee
  | cons i1 i2 =>
    cases i2 with
    | cons _ _ => cases i1 <;> simp [to_list] at ee
    | nil =>
      cases i1 <;> try (simp [to_list] at ee; done)
      · rename_i l0 vs es h hl
        simp only [to_list] at ee
        cases ee
        refine ⟨_, _, rfl, .inr (same_seqT sB h), fun l hp => ?_⟩
        have xt := Ext.laid (o := .lst vs) sB hp
        exact q _ _ _ xt (.lst (SqL.of upd_same) (hl.mono xt.bn)) fun _ => ⟨_, _, _, rfl, rfl, hp, upd_same, hl.mono xt.bn⟩
      · rename_i l0 vs es h hl
        simp only [to_list] at ee
        cases ee
        refine ⟨_, _, rfl, .inl (sB.seq h), fun l hp => ?_⟩
        have xt := Ext.laid (o := .lst vs) sB hp
        exact q _ _ _ xt (.lst (SqL.of upd_same) (hl.mono xt.bn)) fun _ => ⟨_, _, _, rfl, rfl, hp, upd_same, hl.mono xt.bn⟩
theorem c_tuple : CallR X (.type "tuple") (rDA X.K to_tuple) := by
  refine CallR.to call_tuple_of fun xs H Q q => ?_
  obtain ⟨B, ds, d, bb, sB, i, ee, q⟩ := q
  cases i with
  | nil => simp [to_tuple] at ee
  | cons i1 i2 =>
    cases i2 with
    | cons _ _ => cases i1 <;> simp [to_tuple] at ee
    | nil =>
      cases i1 <;> try (simp [to_tuple] at ee; done)
      · rename_i l0 vs es h hl
        simp only [to_tuple] at ee
        cases ee
        exact ⟨_, _, rfl, .inr ⟨same_seqT sB h, q.one sB (.tup h hl)⟩⟩
      · rename_i l0 vs es h hl
        simp only [to_tuple] at ee
        cases ee
        refine ⟨_, _, rfl, .inl ⟨sB.seq h, fun l hp => ?_⟩⟩
        have xt := Ext.laid (o := .tup vs) sB hp
        exact q _ _ _ xt (.tup (SqT.of upd_same) (hl.mono xt.bn)) (by simp)
end
section
variable {X : Cx} {a b e : Expr} {pos : Pos} {x : Str} {p : Pos}
def gTupK (K : PySem.W.Frag) (n : Nat) (t : TGs) : TG := fun v σ H Q => ∃ k a xs, v = .ref a ∧ SqK k K H a xs ∧ xs.length = n ∧ t xs σ H Q
theorem pg_seq {es : List Expr} {kt : Nat} {t : TGs} {n : Nat} (hc : X.calm = true) (h : PGs X es t) (hn : (assignEach es X.env).length = n := by rfl) (hst : (assignEach es X.env).findIdx? (·.1) = none := by rfl) : PG X (.Tuple es kt pos) (gTupK X.K n t) := by
  intro pins s σ H v u Q I r hw
  obtain ⟨k, l, xs, rfl, hq, hl, hw⟩ := hw
  cases r
  cases k with
  | false =>
    obtain ⟨its, rv, ht, hz⟩ := I.tuple hq
    refine assign_Tuple_tuple (I.ok.hd hc) ht (by simp [hn, ← hl, rv.length]) hst fun h' hx => ?_
    have I1 : Inv X pins σ H { s with heap := h' } := I.kept (t' := s.toks) fun b o e => hx b o (Nat.ne_of_lt (Heap.lt_size e)) e
    exact h pins _ σ H xs _ Q I1 (by simpa using rv) hw
  | true =>
    obtain ⟨its, rv, ht, hz⟩ := I.list hq
    rw [assign_Tuple]
    refine wpAny_bind (wpAny_standAt ?_)
    unfold unpack
    have hsz : (assignEach es X.env).length = its.toArray.size := by simp [hn, ← hl, rv.length]
    rw [hsz, hst]
    refine wpAny_bind (wpAny_holding (PySem.W.kun_itemsOf (I.ok.hd hc) ht.isList fun h' hx => ?_))
    have I1 : Inv X pins σ H { s with heap := h' } := I.kept (t' := s.toks) fun b o e => hx b o (Nat.ne_of_lt (Heap.lt_size e)) e
    exact h pins _ σ H xs _ Q I1 (by simpa using rv) hw
@[simp] def gSetT (is : List Nat) (f : FE) : FS := fun ρ => (f ρ).bind fun x => (seqOf x.1).bind fun ds => (setsE is ds (if noLsts ds = true then ρ else unown ρ)).map .nx
theorem tDS_setT {K : PySem.W.Frag} {is : List Nat} {f : FE} {E : Ends} {σ : St} {H : Hp} (q : tDS K (gSetT is f) E σ H) : tAsg (tD K f) (gTupK K is.length (gNames is)) E σ H := by
  obtain ⟨B0, H0, ρ, r, ⟨N, s⟩, e, p⟩ := q
  obtain ⟨x, ex, e⟩ := Option.bind_eq_some_iff.mp e
  obtain ⟨ds, es, e⟩ := Option.bind_eq_some_iff.mp e
  obtain ⟨ρ', eρ, e⟩ := Option.map_eq_some_iff.mp e
  subst e
  refine ⟨N, ρ, x.1, x.2, s.ext.nh, s.rep, ex, fun v H1 N1 x1 i1 _ => ?_⟩
  obtain ⟨k, a, vs, rfl, sq, il⟩ := seq_K i1 es
  have s1 := s.grow x1
  refine ⟨k, a, vs, rfl, sq.same x1.nh, by rw [il.length]; exact setsE_len eρ, ?_⟩
  by_cases hn : noLsts ds = true
  · rw [if_pos hn] at eρ
    exact names_run s1 (s1.flats il hn) eρ fun σ' s' => p σ' H1 ⟨N1, s'⟩
  · rw [if_neg hn] at eρ
    exact names_run s1.unown (il.mono fun a o e => by rw [cut_of own_unown]; exact e) eρ fun σ' s' => p σ' H1 ⟨N1, s'⟩
theorem js_setT {es : List Expr} {kt : Nat} {is : List Nat} {f : FE} {p2 : Pos} (he : JE X e f) (hg : PG X (.Tuple es kt p2) (gTupK X.K is.length (gNames is))) (hs : swapsWithSole [.Tuple es kt p2] e pos.line X.env = pure false := by rfl) (hw : swappedStores [.Tuple es kt p2] e X.env = pure none := by rfl)
    (h1 : (assignEach [.Tuple es kt p2] X.env).map (·.2) = [assign (.Tuple es kt p2) X.env] := by rfl) : JS X (.Assign [.Tuple es kt p2] e pos) (gSetT is f) := PS.to (ps_asg he hg hs hw h1) fun _ _ _ q => tDS_setT q
@[simp] def gPut (i : Nat) (fk fv : FE) : FS := fun ρ => match ρ[i]? with
  | some (some (.lst ds, true)) => (fv ρ).bind fun v => (fk ρ).bind fun k => match k.1 with
    | .int j => (ixN ds.length j).bind fun n => if noLst v.1 = true then some (.nx (ρ.set i (some (.lst (ds.set n v.1), true)))) else none
    | _ => none
  | _ => none
theorem js_put {i : Nat} {y : Str} {py pt : Pos} {k : Expr} {fk fv : FE} (hv : JE X e fv) (hk : JE X k fk) (hN : X.N[i]? = some y := by rfl) (hvis : Vis X.env.scope y := by first | exact Or.inl rfl | exact Or.inr (Or.inl rfl) | exact Or.inr (Or.inr rfl)) (hd : (y == ("__debug__" : Str)) = false := by decide)
    (hcd : (y == ("__classdict__" : Str)) = false := by decide)
    (ha : ∀ v, assign (.Subscript (.Name y py) k pt) X.env v = (do
      let ov ← holding [v] (eval (.Name y py) X.env)
      let iv ← holding [v, ov] (eval k X.env)
      standAt pt
      holding [v, ov, iv] (setItem ov iv v)
      release [v, ov, iv] []) := by intro _; rfl)
    (hs : swapsWithSole [.Subscript (.Name y py) k pt] e pos.line X.env = pure false := by rfl) (hw : swappedStores [.Subscript (.Name y py) k pt] e X.env = pure none := by rfl)
    (h1 : (assignEach [.Subscript (.Name y py) k pt] X.env).map (·.2) = [assign (.Subscript (.Name y py) k pt) X.env] := by rfl) : JS X (.Assign [.Subscript (.Name y py) k pt] e pos) (gPut i fk fv) := by
  refine PS.to (ps_asg hv (pg_sub (pe_var hN hvis hd hcd) hk set_list ha) hs hw h1) fun E σ H q => ?_
  obtain ⟨B0, H0, ρ, r, ⟨N, s⟩, ee, p⟩ := q
  unfold gPut at ee
  split at ee
  · rename_i ds ei
    obtain ⟨v, ev, ee⟩ := Option.bind_eq_some_iff.mp ee
    obtain ⟨kk, ek, ee⟩ := Option.bind_eq_some_iff.mp ee
    obtain ⟨kd, kb⟩ := kk
    cases kd with
    | int j =>
      dsimp only at ee
      obtain ⟨n, en, ee⟩ := Option.bind_eq_some_iff.mp ee
      split at ee
      · rename_i hn
        cases ee
        refine ⟨N, ρ, v.1, v.2, s.ext.nh, s.rep, ev, fun v1 H1 N1 x1 i1 _ => ?_⟩
        have s1 := s.grow x1
        obtain ⟨l, vs, ds', z, h1, h2, h3, h4⟩ := s1.owL i _ ei
        cases z
        refine ⟨_, h1, N1, ρ, _, _, s1.ext.nh, s1.rep, ek, fun kv H2 N2 x2 i2 _ => ?_⟩
        cases i2
        have s2 := s1.grow x2
        obtain ⟨l', vs', ds', z, k1, k2, k3, k4⟩ := s2.owL i _ ei
        cases z
        rw [h1] at k1; cases k1
        exact ⟨l, vs', j, n, rfl, rfl, s2.ext.nh _ _ k2, by rw [k4.length]; exact en, p σ _ ⟨_, s2.write ei h1 (IsL.set (s2.flat (i1.mono x2.bn) hn) n k4)⟩⟩
      · cases ee
    | _ => cases ee
  · cases ee
@[simp] def gOwn (i : Nat) (g : List D → Option (List D)) : FS := fun ρ => match ρ[i]? with
  | some (some (.lst ds, true)) => (g ds).map fun es => .nx (ρ.set i (some (.lst es, true)))
  | _ => none
@[simp] def gExt (i : Nat) (f : FE) : FS := fun ρ => match ρ[i]? with
  | some (some (.lst ds, true)) => (f ρ).bind fun x => match x.1 with
    | .lst es => if x.2 = true ∧ noLsts es = true ∧ ds.length + es.length ≤ sizeLine then some (.nx (ρ.set i (some (.lst (ds ++ es), true)))) else none
    | _ => none
  | _ => none
@[simp] def intD : List D → Option (D × Bool)
  | [.int i] => some (.int i, false)
  | [.bl b] => some (.int (if b then 1 else 0), false)
  | _ => none
theorem c_int : CallR X (.type "int") (rDA X.K intD) := by
  refine CallR.to call_int1 fun xs H Q q => ?_
  obtain ⟨B, ds, d, bb, sB, i, ee, q⟩ := q
  cases i with
  | nil => simp [intD] at ee
  | cons i1 i2 =>
    cases i2 with
    | cons _ _ => cases i1 <;> simp [intD] at ee
    | nil =>
      cases i1 <;> try (simp [intD] at ee; done)
      · simp only [intD] at ee
        cases ee
        exact .inr ⟨_, rfl, q.one sB (.int _)⟩
      · simp only [intD] at ee
        cases ee
        exact .inl ⟨_, rfl, q.one sB (.int _)⟩
end
open AutoSeq1 (wpAny_loadPart')
set_option maxRecDepth 100000
def sqT (k : Bool) : String := if k = true then "list" else "tuple"
theorem meets_enumK (k : Bool) (l : Addr) (items : Array Value) (n : Nat) (dct : Option Addr) (sl : Array (Option Value)) :
    Meets (Builtin.«enumerate.__new__» ⟨[.type "enumerate", .ref l], []⟩) (fun _ R s => s.heap.get? l = some { cls := .type (sqT k), dict := dct, data := .seq items n, slots := sl } ∧
      R (.ok (.ret (.ref (s.heap.push (itO k l)).objs.size))) { s with heap := (s.heap.push (itO k l)).push { cls := .type "enumerate", data := .fields #[.none, .bool false, .ref s.heap.objs.size, rawInt 0, .none, .none] } }) :=
  .of_wp fun prog w A R s hs => by
    obtain ⟨hp, g, d, tk, os⟩ := s; obtain ⟨hl, hs⟩ := hs
    have hsub := sub_enumerate
    have hL : KSq k (Shared.heap ⟨hp, g, d, tk, os⟩) l items := by cases k <;> exact ⟨_, hl, rfl, n, rfl⟩
    wp_walk using wpAny_loadPart' hl
    refine wpAny_stack_any fun st => wpAny_pure ?_
    split
    · rename_i c _ _ _ _ _
      cases (c == Value.type "enumerate")
      · wp_walk using wpAny_loadPart' hl, pyIterK hL
        exact ⟨_, rfl, hs⟩
      · wp_walk using wpAny_loadPart' hl, pyIterK hL
        exact ⟨_, rfl, hs⟩
    · wp_walk using wpAny_loadPart' hl, pyIterK hL
      exact ⟨_, rfl, hs⟩
section
variable {prog : Program} {w : World} {A : Around} {E : Value → Shared → Prop} {s : Shared}
theorem enum_new {k : Bool} {l : Addr} {items : Array Value} {Q : Value → Shared → Prop} (hL : KSq k s.heap l items)
    (q : ∀ h', IsEnum h' (s.heap.objs.size + 1) s.heap.objs.size 0 .none → KIt k h' s.heap.objs.size l 0 → (∀ b o, s.heap.get? b = some o → h'.get? b = some o) → Q (.ref (s.heap.objs.size + 1)) { s with heap := h' }) :
    wpAny (model prog w) A (call (.type "enumerate") [.ref l]) Q E s := by
  have hh : ∃ (dct : Option Addr) (sl : Array (Option Value)) (n : Nat), s.heap.get? l = some { cls := .type (sqT k), dict := dct, data := .seq items n, slots := sl } := by
    cases k <;> (obtain ⟨⟨c, dct, dt, sl⟩, hl, hc, n, hd⟩ := hL; dsimp only at hc hd; subst hc; subst hd; exact ⟨dct, sl, n, hl⟩)
  obtain ⟨dct, sl, n, hl⟩ := hh
  refine callType_new PySem.F.called_enumerate (by decide) (PySem.F.typeCall_enumerate_1 _) (PySem.F.newCall_enumerate_1 _) (fun obj => PySem.F.args_object_init_2 obj _) PySem.F.entry_enumerate_new (meets_enumK k l items n dct sl) ⟨hl, ?_⟩
  have n1 : (s.heap.push (itO k l)).objs.size = s.heap.objs.size + 1 := Heap.size_push ..
  have g2 : ((s.heap.push (itO k l)).push { cls := .type "enumerate", data := .fields #[.none, .bool false, .ref s.heap.objs.size, rawInt 0, .none, .none] }).get? (s.heap.push (itO k l)).objs.size = some _ := Heap.get?_push_size _ rfl
  have g1 : ((s.heap.push (itO k l)).push { cls := .type "enumerate", data := .fields #[.none, .bool false, .ref s.heap.objs.size, rawInt 0, .none, .none] }).get? s.heap.objs.size = some _ := Heap.get?_push_of_some _ (Heap.get?_push_size _ (by cases k <;> rfl))
  rw [n1] at g2
  show _ ∧ _
  rw [n1]
  refine ⟨⟨_, g2, rfl⟩, q _ g2 ?_ fun b o e => Heap.get?_push_of_some _ (Heap.get?_push_of_some _ e)⟩
  cases k <;> exact ⟨_, g1, rfl, rfl⟩
theorem drawsK (hA : A.handled = none) {k : Bool} (it l : Addr) (hne : l ≠ it) (items : Array Value) : Draws prog w A it [it, l] items.size (fun i v => items[i]? = some v) (fun i h => KIt k h it l i ∧ KSq k h l items) where
  live := fun i h st => let ⟨o, e, _⟩ := st.1.ob; ⟨o, e⟩
  frame := fun i h h' st kk => ⟨st.1.upon fun o e => kk it (by simp) o e, st.2.upon fun o e => kk l (by simp) o e⟩
  item := fun i s Q E hi st q => draw_item st.1 st.2 (v := items[i]) (by simp [hi]) fun h' st' sb => q _ h' s.toks (by simp [hi]) ⟨st', st.2.upon fun o e => sb.extBut _ _ hne e⟩ sb
  done := fun s Q E st q => draw_end hA st.1 st.2 (by simp) q
theorem drawsE (hA : A.handled = none) {k : Bool} (it l : Addr) (items : Array Value) (n : Nat) (hn : items[n]? = none) : Draws prog w A it [it, l] n (fun _ _ => True) (fun i h => (KIt k h it l i ∧ KSq k h l items) ∧ i = n) where
  live := fun i h st => let ⟨o, e, _⟩ := st.1.1.ob; ⟨o, e⟩
  frame := fun i h h' st kk => ⟨⟨st.1.1.upon fun o e => kk it (by simp) o e, st.1.2.upon fun o e => kk l (by simp) o e⟩, st.2⟩
  item := fun i s Q E hi st q => absurd st.2 (Nat.ne_of_lt hi)
  done := fun s Q E st q => draw_end hA st.1.1 st.1.2 hn q
end
def Ite (K : PySem.W.Frag) (k : Bool) (a : Addr) : It :=
  ⟨fun i H => ∃ xs x, SqK k K H a xs ∧ xs[i]? = some x,
   fun i H v H' => ∃ T x, v = .ref T ∧ H T = none ∧ H' = upd H T (.tup [.int i, x]) ∧ ∀ xs, SqK k K H a xs → xs[i]? = some x,
   fun i H => ∃ xs, SqK k K H a xs ∧ xs.length ≤ i⟩
theorem turn_enum {P : Program} {w : World} {K : PySem.W.Frag} {es : List Expr} {kt : Nat} {pt : Pos} {k : Bool} {a e it : Addr} (hei : e ≠ it) (hae : a ≠ e) (hai : a ≠ it) :
    Turn P w K (.Tuple es kt pt) (Ite K k a) [e, it] e (fun i h => (∃ old, IsEnum h e it i old) ∧ KIt k h it a i) where
  mem := by simp
  obj := fun i h st b hb => by
    obtain ⟨⟨old, he⟩, t1⟩ := st
    simp at hb
    rcases hb with rfl | rfl
    · exact ⟨_, he, fun v z => by cases z⟩
    · exact t1.ob
  keep := fun i h h' st kk => by
    obtain ⟨⟨old, he⟩, t1⟩ := st
    exact ⟨⟨old, kk e (by simp) _ he⟩, t1.upon fun o q => kk it (by simp) o q⟩
  item := by
    intro X hP hw hK hc i pins s σ H E I hf st hg
    subst hP hw hK
    obtain ⟨⟨old, he⟩, t1⟩ := st
    obtain ⟨xs, x, q1, hx⟩ := hg
    obtain ⟨its, r1, p1, z1⟩ := q1.vals I
    obtain ⟨u, hu, ru⟩ := r1.get hx
    have fresh : H s.heap.objs.size = none := I.hok.fresh (Nat.le_refl _)
    have ilt : i < its.toArray.size := by rw [List.size_toArray]; exact (List.getElem?_eq_some_iff.mp hu).1
    have hel : e ≠ s.heap.objs.size := Nat.ne_of_lt (Heap.lt_size he)
    have hil : it ≠ s.heap.objs.size := by obtain ⟨o, q, _⟩ := t1.ob; exact Nat.ne_of_lt (Heap.lt_size q)
    refine wpAny_pyNext_enum_itemD (drawsK (A := X.A.in1) (I.ok.hd hc) it a hai its.toArray) he ⟨t1, p1⟩ ilt hei (by simp [hei, hae.symm]) fun v h' tk hv ho st' hT hsz hk => ?_
    have ev : v = u := by
      have hv' : its[i]? = some v := by simpa using hv
      rw [hu] at hv'; exact (Option.some.inj hv').symm
    subst ev
    refine ⟨_, rfl, wpAny_letOwnedTupleGo_enum (s := { s with heap := h', toks := tk + 1 }) ho fun h2 he2 s2 => ?_⟩
    have s2' : Heap.SameBut e h' h2 := s2
    have kk : ∀ b o, b ∉ [e, it] → s.heap.get? b = some o → h2.get? b = some o := fun b o hb q => s2'.extBut _ _ (fun z => hb (by simp [z])) (hk b o (fun z => hb (by simp [z])) (fun z => hb (by simp [z])) q)
    have new : ObjOk X.prog X.w (upd H s.heap.objs.size (.tup [.int i, x])) h2 s.heap.objs.size (.tup [.int i, x]) := ⟨by show 2 ≤ sizeLine; decide, [.int i tk, v], .cons ⟨tk, rfl⟩ (.cons ru .nil), ⟨_, s2'.extBut _ _ hel.symm hT, rfl, _, rfl⟩⟩
    refine ⟨.ref s.heap.objs.size, upd H s.heap.objs.size (.tup [.int i, x]), laidS (s := s) (t' := tk + 1) I hf kk (Nat.le_refl _) new, rfl, ⟨_, x, rfl, fresh, rfl, fun zs hq => by rw [SqK.inj I hq q1]; exact hx⟩, ?_, fun b hb => ?_⟩
    · exact ⟨⟨_, by have := he2; rw [show ((i : Int) + 1) = ((i + 1 : Nat) : Int) by omega] at this; exact this⟩, st'.1.upon fun o q => s2'.extBut _ _ hei.symm q⟩
    · have hne : b ≠ s.heap.objs.size := by
        simp at hb
        rcases hb with rfl | rfl
        · exact hel
        · exact hil
      rw [upd_ne hne]; exact (hf b hb).1
  done := by
    intro X hP hw hK hc i pins s σ H E I hf st hg
    subst hP hw hK
    obtain ⟨⟨old, he⟩, t1⟩ := st
    obtain ⟨xs, q1, hl⟩ := hg
    obtain ⟨its, r1, p1, z1⟩ := q1.vals I
    have n1 := r1.length
    refine wpAny_pyNext_enum_endD (drawsE (A := X.A.in1) (I.ok.hd hc) it a its.toArray i (by simp; omega)) he ⟨⟨t1, p1⟩, rfl⟩ fun h' hk => ⟨rfl, ?_⟩
    exact turnedS (t' := s.toks) I hf fun b o hb q => hk b o (fun z => hb (by simp [z])) q
  self := fun _ _ _ _ _ st h => let ⟨⟨_, he⟩, _⟩ := st; wpAny_pyIter_enum he h
section
variable {X : Cx} {a b e : Expr} {pos : Pos} {p : Pos}
theorem b_enumerate : bootBuiltins "enumerate" = some (.type "enumerate") := by decide +kernel
def enumD (ds : List D) : List D := ds.mapIdx fun i d => .tup [.int i, d]
@[simp] def iEnum (fa : FE) : FA := fun ρ => (fa ρ).bind fun x => (seqOf x.1).map enumD
theorem it_enum {K : PySem.W.Frag} {N : Hp} {k : Bool} {l : Addr} {vs : List V} {ds : List D} (h1 : SqK k K N l vs) (i1 : IsL K N vs ds) : ItOk K (Ite K k l) N (enumD ds) := by
  intro i H' sm
  have n1 := i1.length
  refine ⟨fun d ed => ?_, fun hl => ⟨vs, h1.same sm, ?_⟩⟩
  · unfold enumD at ed
    rw [List.getElem?_mapIdx] at ed
    obtain ⟨x, e1, rfl⟩ := Option.map_eq_some_iff.mp ed
    obtain ⟨v, ev, iv⟩ := i1.get e1
    refine ⟨⟨vs, v, h1.same sm, ev⟩, fun r H2 hy => ?_⟩
    obtain ⟨T, v', rfl, hT, rfl, f1⟩ := hy
    have e3 := f1 vs (h1.same sm)
    rw [ev] at e3; cases e3
    have xt := Ext.laid (o := .tup [.int i, v]) sm hT
    exact ⟨_, xt, .tup (SqT.of upd_same) (.cons (.int _) (.cons (iv.mono xt.bn) .nil))⟩
  · unfold enumD at hl
    rw [List.length_mapIdx] at hl
    omega
theorem ji_enum {es : List Expr} {kt : Nat} {pt : Pos} {fa : FE} (hm : X.mg "enumerate" = none) (ha : JE X a fa) (hg : Gl X "enumerate" := by rfl) (hs : starEach [a] X.env = [(false, eval a X.env)] := by rfl) :
    JI X (.Tuple es kt pt) (.Call (.Name "enumerate" p) [a] [] pos) (iEnum fa) := by
  intro pins s σ H R I q
  refine Call_ (ld_blt I hg hm b_enumerate (PyProof.Rows.callWith_type1 (thn (ja_cons ha ja_nil hs pos pins s σ H (fun vs H1 => ∃ (k : Bool) (l : Addr) (us : List V), vs = [.ref l] ∧ SqK k X.K H1 l us ∧ R (Ite X.K k l) H1) I ?_) fun us s1 ⟨vs, H1, I1, r1, q1⟩ => ?_) hs rfl))
  · obtain ⟨B, ρ, ds, sB, r, ee, q⟩ := q
    obtain ⟨x1, ex, ee⟩ := Option.bind_eq_some_iff.mp ee
    obtain ⟨xs, exs, ee⟩ := Option.map_eq_some_iff.mp ee
    subst ee
    refine ⟨B, ρ, [x1.1], sB, r, by simp [fCons, fNil, ex], fun vs H1 N1 xt i1 => ?_⟩
    cases i1 with
    | cons j1 j2 =>
      cases j2
      obtain ⟨k1, l1, us, rfl, s1, m1⟩ := seq_K j1 exs
      exact ⟨k1, l1, us, rfl, s1.same xt.nh, q _ H1 N1 xt (it_enum s1 m1)⟩
  · obtain ⟨k, l, ws, rfl, h1, q⟩ := q1
    obtain ⟨u1, rfl, ru1⟩ := r1.one
    cases ru1
    obtain ⟨its, v1, p1, z1⟩ := h1.vals I1
    have lt1 := p1.lt
    refine enum_new p1 fun h' c1 c2 ck => ?_
    refine wpAny_pyIter_enum c1 ⟨s1.heap.objs.size + 1, [s1.heap.objs.size + 1, s1.heap.objs.size], _, _, H1, rfl, I1.kept (t' := s1.toks) ck,
      turn_enum (Nat.succ_ne_self _) (Nat.ne_of_lt (Nat.lt_succ_of_lt lt1)) (Nat.ne_of_lt lt1), ⟨⟨_, c1⟩, c2⟩, fun b hb => ?_, q⟩
    have hle : s1.heap.objs.size ≤ b := by
      simp at hb
      rcases hb with rfl | rfl
      · exact Nat.le_succ _
      · exact Nat.le_refl _
    exact I1.fpOk hle (I1.hok.fresh hle)
end
end DL
namespace DL
open PySem PySem.Spec PyProof.Rows
structure TabT (w : World) (es : Array (Int × Value)) (t : SetTable) : Prop where
  fits : t.fits es.size = true
  led : t.led = !w.params.followText "set-order"
  plain : es.size ≠ 0 → t.plain = false
def SetT (prog : Program) (w : World) (h : Heap) (a : Addr) (ts : List Str) : Prop :=
  ∃ o es ep t, h.get? a = some o ∧ o.ExactSet ∧ o.data = .set es ep t ∧ ElemsOf (PySem.strKind prog w) es.toList ∧ (es.toList.map (fun e => strOf e.2)).Perm ts ∧ ts.Nodup ∧ ts.length < scanBound ∧ TabT w es t
def addT (ts : List Str) (x : Str) : List Str := if x ∈ ts then ts else ts ++ [x]
def dedT (ss : List Str) : List Str := ss.foldl addT []
theorem StrsAre.at : ∀ {vs : List Value} {ss : List Str}, StrsAre vs ss → ∀ (i : Nat) (v : Value), vs[i]? = some v → ∃ x t, v = .str x t ∧ ss[i]? = some x
  | _, _, .nil, i, v, h => by simp at h
  | _, _, .cons x t hr, 0, v, h => by simp at h; exact ⟨x, t, h.symm, rfl⟩
  | _, _, .cons x t hr, i + 1, v, h => by
    simp only [List.getElem?_cons_succ] at h
    exact StrsAre.at hr i v h
theorem SetT.at {prog : Program} {w : World} {h h' : Heap} {a : Addr} {ts : List Str} (x : SetT prog w h a ts) (k : ∀ o, h.get? a = some o → h'.get? a = some o) : SetT prog w h' a ts := by
  obtain ⟨o, es, ep, t, ho, r⟩ := x
  exact ⟨o, es, ep, t, k o ho, r⟩
end DL
namespace DL
open PySem PySem.Spec PyProof.Rows L2
def insT (x : Str) : List Str → List Str
  | [] => [x]
  | y :: r => if ltCps y.cps.toList x.cps.toList then y :: insT x r else x :: y :: r
def sortT (l : List Str) : List Str := l.foldr insT []
@[simp] def sortSetD : D → Option (D × Bool)
  | .lst ds => (strsD ds).bind fun ss => if ss.length < 64 then some (.lst ((sortT (dedT ss)).map .str), true) else none
  | _ => none
@[simp] def lenSetD : D → Option (D × Bool)
  | .lst ds => (strsD ds).bind fun ss => if ss.length < 4000 then some (.int ((dedT ss).length : Nat), false) else none
  | _ => none
end DL
namespace DL
open PySem PySem.Spec PySem.W PyProof.Rows
inductive Run (n : Nat) (lt : Nat → Nat → Bool) {α : Type} : KasT α → α → Prop where
  | ret (a : α) : Run n lt (.ret a) a
  | ask {i j : Nat} {k : Bool → KasT α} {a : α} (hi : i < n) (hj : j < n) (h : Run n lt (k (lt i j)) a) : Run n lt (.ask i j k) a
theorem Run.bind {n : Nat} {lt : Nat → Nat → Bool} {α β : Type} {t : KasT α} {f : α → KasT β} {a : α} {b : β} (h : Run n lt t a) (k : Run n lt (f a) b) : Run n lt (t.bind f) b := by
  induction h with
  | ret a => exact k
  | ask hi hj _ ih => exact .ask hi hj (ih k)
theorem Run.wp {n : Nat} {lt : Nat → Nat → Bool} {α : Type} {cmp : Nat → Nat → (Bool → Shared → Prop) → Shared → Prop} {Q : α → Shared → Prop} {t : KasT α} {a : α} (J : Shared → Prop)
    (hc : ∀ i j C s, i < n → j < n → J s → (∀ s', J s' → C (lt i j) s') → cmp i j C s) (h : Run n lt t a) : ∀ {s : Shared}, J s → (∀ s', J s' → Q a s') → t.kasWp cmp Q s := by
  induction h with
  | ret a => intro s hJ hQ; exact hQ s hJ
  | ask hi hj _ ih => intro s hJ hQ; exact hc _ _ _ _ hi hj hJ fun s' hJ' => ih hJ' hQ
section
variable {n : Nat} {rk : Nat → Int}
abbrev ltR (rk : Nat → Int) (i j : Nat) : Bool := decide (rk i < rk j)
def rkAt (rk : Nat → Int) (p : Array Nat) (k : Nat) : Int := rk (p.getD k 0)
structure Arr (n : Nat) (p : Array Nat) : Prop where
  size : p.size = n
  perm : p.toList.Perm (List.range n)
theorem Arr.lt {p : Array Nat} (h : Arr n p) {k : Nat} (hk : k < n) : p.getD k 0 < n := by
  have hk' : k < p.size := by rw [h.size]; exact hk
  have : p.getD k 0 = p[k] := by rw [Array.getD_eq_getD_getElem?, Array.getElem?_eq_getElem hk']; rfl
  rw [this]
  exact List.mem_range.mp (h.perm.mem_iff.mp (by simp))
theorem Arr.rev {p : Array Nat} (h : Arr n p) (i j : Nat) : Arr n (kas_rev p i j) :=
  ⟨(mirror_size _ _ _ _).trans h.size, (Array.perm_iff_toList_perm.mp (mirror_perm p i j _)).trans h.perm⟩
theorem Arr.bub {p : Array Nat} (h : Arr n p) (k d : Nat) : Arr n (bubble p k d) :=
  ⟨(bubble_size _ _ _).trans h.size, (Array.perm_iff_toList_perm.mp (bubble_perm p k d)).trans h.perm⟩
theorem rk_rev {p : Array Nat} {i j : Nat} (hj : j ≤ p.size) (k : Nat) : rkAt rk (kas_rev p i j) k = if i ≤ k ∧ k < j then rkAt rk p (i + j - 1 - k) else rkAt rk p k := by
  unfold rkAt kas_rev
  rw [Array.getD_eq_getD_getElem?, getElem?_mirror_all hj]
  split <;> rw [Array.getD_eq_getD_getElem?]
theorem rk_bub {p : Array Nat} {src d : Nat} (hs : src < p.size) (hd : d ≤ src) (k : Nat) : rkAt rk (bubble p src d) k = if k = src - d then rkAt rk p src else if src - d < k ∧ k ≤ src then rkAt rk p (k - 1) else rkAt rk p k := by
  unfold rkAt
  simp only [Array.getD_eq_getD_getElem?]
  rw [getElem?_bubble hs d hd]
  repeat' split
  all_goals rfl
def Up (rk : Nat → Int) (p : Array Nat) (m : Nat) : Prop := ∀ i j, i ≤ j → j < m → rkAt rk p i ≤ rkAt rk p j
def Down (rk : Nat → Int) (p : Array Nat) (m : Nat) : Prop := ∀ i j, i ≤ j → j < m → rkAt rk p j ≤ rkAt rk p i
theorem up_one (p : Array Nat) : Up rk p 1 := fun i j h1 h2 => by
  have : i = j := by omega
  subst this; exact Int.le_refl _
theorem asc_run {p : Array Nat} (h : Arr n p) {r : Nat} (hr : r ≤ n) : ∀ (f m : Nat), r - m = f → 1 ≤ m → m ≤ r → Up rk p m → ∃ m', Run n (ltR rk) (kas_asc p f m) m' ∧ m ≤ m' ∧ m' ≤ r ∧ Up rk p m' ∧ (m' < r → rkAt rk p m' < rkAt rk p (m' - 1))
  | 0, m, hf, h1, hm, hu => ⟨m, .ret m, Nat.le_refl _, hm, hu, fun z => by omega⟩
  | f + 1, m, hf, h1, hm, hu => by
    have a1 := h.lt (k := m) (by omega)
    have a2 := h.lt (k := m - 1) (by omega)
    by_cases hc : rkAt rk p m < rkAt rk p (m - 1)
    · refine ⟨m, .ask a1 a2 ?_, Nat.le_refl _, hm, hu, fun _ => hc⟩
      have : ltR rk (p.getD m 0) (p.getD (m - 1) 0) = true := decide_eq_true hc
      rw [this, if_pos rfl]; exact .ret m
    · have hu' : Up rk p (m + 1) := fun i j hij hj => by
        by_cases e : j = m
        · subst e
          by_cases e2 : i = j
          · subst e2; exact Int.le_refl _
          · have := hu i (j - 1) (by omega) (by omega); omega
        · exact hu i j hij (by omega)
      obtain ⟨m', q1, q2, q3, q4, q5⟩ := asc_run h hr f (m + 1) (by omega) (by omega) (by omega) hu'
      refine ⟨m', .ask a1 a2 ?_, by omega, q3, q4, q5⟩
      have : ltR rk (p.getD m 0) (p.getD (m - 1) 0) = false := decide_eq_false hc
      rw [this, if_neg Bool.false_ne_true]; exact q1
def Flat (rk : Nat → Int) (p : Array Nat) (m q : Nat) : Prop := q + 1 ≤ m ∧ ∀ k, m - (q + 1) ≤ k → k < m → rkAt rk p k = rkAt rk p (m - 1)
theorem flat_rev {p : Array Nat} {m q : Nat} (hs : m ≤ p.size) (hf : Flat rk p m q) (k : Nat) : rkAt rk (kas_rev p (m - (q + 1)) m) k = rkAt rk p k := by
  rw [rk_rev hs]
  split
  · rename_i hk
    have h0 := hf.1
    rw [hf.2 k hk.1 hk.2, hf.2 _ (by omega) (by omega)]
  · rfl
theorem down_of {p p' : Array Nat} {m : Nat} (e : ∀ k, rkAt rk p' k = rkAt rk p k) (h : Down rk p m) : Down rk p' m := fun i j h1 h2 => by rw [e, e]; exact h i j h1 h2
theorem flat_one (p : Array Nat) {m : Nat} (h : 1 ≤ m) : Flat rk p m 0 := ⟨h, fun k h1 h2 => by
  have : k = m - 1 := by omega
  rw [this]⟩
theorem desc_run {r : Nat} (hr : r ≤ n) : ∀ (f : Nat) (p : Array Nat) (m q : Nat), Arr n p → r - m = f → 1 ≤ m → m ≤ r → Down rk p m → Flat rk p m q → ∃ p' m' q', Run n (ltR rk) (kas_desc f p m q) (p', m', q') ∧ Arr n p' ∧ m ≤ m' ∧ m' ≤ r ∧ Down rk p' m' ∧ Flat rk p' m' q'
  | 0, p, m, q, h, hf, h1, hm, hd, hq => ⟨p, m, q, .ret _, h, Nat.le_refl _, hm, hd, hq⟩
  | f + 1, p, m, q, h, hf, h1, hm, hd, hq => by
    have a1 := h.lt (k := m) (by omega)
    have a2 := h.lt (k := m - 1) (by omega)
    have step : ∀ p' : Array Nat, (∀ k, rkAt rk p' k = rkAt rk p k) → rkAt rk p m ≤ rkAt rk p (m - 1) → Down rk p' (m + 1) := fun p' e hle i j hij hj => by
      rw [e, e]
      by_cases z : j = m
      · subst z
        by_cases z2 : i = j
        · subst z2; exact Int.le_refl _
        · have := hd i (j - 1) (by omega) (by omega); omega
      · exact hd i j hij (by omega)
    by_cases hc : rkAt rk p m < rkAt rk p (m - 1)
    · have hcl : ltR rk (p.getD m 0) (p.getD (m - 1) 0) = true := decide_eq_true hc
      by_cases hq0 : q > 0
      · have e := flat_rev (p := p) (by rw [h.size]; omega) hq
        obtain ⟨p', m', q', g1, g2, g3, g4, g5, g6⟩ := desc_run hr f (kas_rev p (m - (q + 1)) m) (m + 1) 0 (h.rev _ _) (by omega) (by omega) (by omega) (step _ e (by omega)) (flat_one _ (by omega))
        refine ⟨p', m', q', .ask a1 a2 ?_, g2, by omega, g4, g5, g6⟩
        rw [hcl, if_pos rfl, if_pos hq0]; exact g1
      · obtain ⟨p', m', q', g1, g2, g3, g4, g5, g6⟩ := desc_run hr f p (m + 1) 0 h (by omega) (by omega) (by omega) (step _ (fun _ => rfl) (by omega)) (flat_one _ (by omega))
        refine ⟨p', m', q', .ask a1 a2 ?_, g2, by omega, g4, g5, g6⟩
        rw [hcl, if_pos rfl, if_neg hq0]; exact g1
    · have hcl : ltR rk (p.getD m 0) (p.getD (m - 1) 0) = false := decide_eq_false hc
      by_cases hc2 : rkAt rk p (m - 1) < rkAt rk p m
      · have hcl2 : ltR rk (p.getD (m - 1) 0) (p.getD m 0) = true := decide_eq_true hc2
        refine ⟨p, m, q, .ask a1 a2 ?_, h, Nat.le_refl _, hm, hd, hq⟩
        rw [hcl, if_neg Bool.false_ne_true]
        refine .ask a2 a1 ?_
        rw [hcl2, if_pos rfl]; exact .ret _
      · have hcl2 : ltR rk (p.getD (m - 1) 0) (p.getD m 0) = false := decide_eq_false hc2
        have he : rkAt rk p m = rkAt rk p (m - 1) := by omega
        obtain ⟨p', m', q', g1, g2, g3, g4, g5, g6⟩ := desc_run hr f p (m + 1) (q + 1) h (by omega) (by omega) (by omega) (step _ (fun _ => rfl) (by omega)) ⟨by have := hq.1; omega, fun k k1 k2 => by
          rw [Nat.add_sub_cancel]
          by_cases z : k = m
          · rw [z]
          · rw [hq.2 k (by omega) (by omega), he]⟩
        refine ⟨p', m', q', .ask a1 a2 ?_, g2, by omega, g4, g5, g6⟩
        rw [hcl, if_neg Bool.false_ne_true]
        refine .ask a2 a1 ?_
        rw [hcl2, if_neg Bool.false_ne_true]; exact g1
theorem tail_run {r : Nat} (hr : r ≤ n) {p : Array Nat} (h : Arr n p) {m : Nat} (h1 : 1 ≤ m) (hm : m ≤ r) (hd : Down rk p m) : ∃ m' p', Run n (ltR rk) (kas_tail3 m r p) (m', p') ∧ Arr n p' ∧ 1 ≤ m' ∧ m' ≤ r ∧ Up rk p' m' := by
  have hu : Up rk (kas_rev p 0 m) m := fun i j hij hj => by
    rw [rk_rev (by rw [h.size]; omega), rk_rev (by rw [h.size]; omega), if_pos (by omega), if_pos (by omega)]
    exact hd _ _ (by omega) (by omega)
  obtain ⟨m', q1, q2, q3, q4, _⟩ := asc_run (h.rev 0 m) hr (r - m) m rfl h1 hm hu
  exact ⟨m', _, q1.bind (.ret _), h.rev 0 m, by omega, q3, q4⟩
theorem part_run {r : Nat} (hr : r ≤ n) {p : Array Nat} (h : Arr n p) {m : Nat} (hm : m + 1 ≤ r) (hd : Down rk p (m + 1)) : ∃ m' p', Run n (ltR rk) (kas_descPart m r p) (m', p') ∧ Arr n p' ∧ 1 ≤ m' ∧ m' ≤ r ∧ Up rk p' m' := by
  obtain ⟨p1, m1, q1, g1, g2, g3, g4, g5, g6⟩ := desc_run hr (r - (m + 1)) p (m + 1) 0 h rfl (by omega) hm hd (flat_one _ (by omega))
  by_cases hq : q1 > 0
  · obtain ⟨m', p', k1, k2, k3, k4, k5⟩ := tail_run hr (g2.rev (m1 - (q1 + 1)) m1) (m := m1) (by omega) g4 (down_of (flat_rev (by rw [g2.size]; omega) g6) g5)
    exact ⟨m', p', g1.bind (by dsimp only; rw [if_pos hq]; exact k1), k2, k3, k4, k5⟩
  · obtain ⟨m', p', k1, k2, k3, k4, k5⟩ := tail_run hr g2 (m := m1) (by omega) g4 g5
    exact ⟨m', p', g1.bind (by dsimp only; rw [if_neg hq]; exact k1), k2, k3, k4, k5⟩
theorem count_run {p : Array Nat} (h : Arr n p) (hn : 1 ≤ n) : ∃ m' p', Run n (ltR rk) (kas_count n p) (m', p') ∧ Arr n p' ∧ 1 ≤ m' ∧ m' ≤ n ∧ Up rk p' m' := by
  obtain ⟨m, q1, q2, q3, q4, q5⟩ := asc_run h (Nat.le_refl n) (n - 1) 1 rfl (Nat.le_refl 1) hn (up_one (rk := rk) p)
  by_cases e : m = n
  · exact ⟨m, p, q1.bind (by rw [if_pos (by simp [e])]; exact .ret _), h, q2, q3, q4⟩
  · have hlt := q5 (by omega)
    have e1 : ¬ (m == n) = true := by simp [e]
    by_cases hm1 : m > 1
    · by_cases hc : rkAt rk p 0 < rkAt rk p (m - 1)
      · refine ⟨m, p, q1.bind ?_, h, q2, q3, q4⟩
        rw [if_neg e1, if_pos hm1]
        refine .ask (h.lt (by omega)) (h.lt (by omega)) ?_
        have : ltR rk (p.getD 0 0) (p.getD (m - 1) 0) = true := decide_eq_true hc
        rw [this, if_pos rfl]; exact .ret _
      · have hall : ∀ k, k < m → rkAt rk p k = rkAt rk p 0 := fun k hk => by
          have z1 := q4 0 k (by omega) hk
          have z2 := q4 k (m - 1) (by omega) (by omega)
          omega
        have er : ∀ k, rkAt rk (kas_rev p 0 m) k = rkAt rk p k := fun k => by
          rw [rk_rev (by rw [h.size]; omega)]
          split
          · rename_i z; rw [hall _ (by omega), hall k z.2]
          · rfl
        have hd : Down rk p (m + 1) := fun i j hij hj => by
          by_cases z : j = m
          · subst z
            by_cases z2 : i = j
            · subst z2; exact Int.le_refl _
            · rw [hall i (by omega)]; rw [hall (j - 1) (by omega)] at hlt; omega
          · rw [hall i (by omega), hall j (by omega)]; exact Int.le_refl _
        obtain ⟨m', p', k1, k2, k3, k4, k5⟩ := part_run (Nat.le_refl n) (h.rev 0 m) (m := m) (by omega) (down_of er hd)
        refine ⟨m', p', q1.bind ?_, k2, k3, k4, k5⟩
        rw [if_neg e1, if_pos hm1]
        refine .ask (h.lt (by omega)) (h.lt (by omega)) ?_
        have : ltR rk (p.getD 0 0) (p.getD (m - 1) 0) = false := decide_eq_false hc
        rw [this, if_neg Bool.false_ne_true]; exact k1
    · have em : m = 1 := by omega
      subst em
      have hd : Down rk p 2 := fun i j hij hj => by
        by_cases z2 : i = j
        · subst z2; exact Int.le_refl _
        · have : i = 0 := by omega
          have : j = 1 := by omega
          subst_vars
          have := hlt
          simp at this
          omega
      obtain ⟨m', p', k1, k2, k3, k4, k5⟩ := part_run (Nat.le_refl n) h (m := 1) (by omega) hd
      refine ⟨m', p', q1.bind ?_, k2, k3, k4, k5⟩
      rw [if_neg e1, if_neg hm1]; exact k1
theorem place_run {p : Array Nat} (h : Arr n p) {k : Nat} (hk : k < n) (hu : Up rk p k) : ∀ (f l r : Nat), r - l ≤ f → l ≤ r → r ≤ k → (∀ i, i < l → rkAt rk p i ≤ rkAt rk p k) → (∀ i, r ≤ i → i < k → rkAt rk p k < rkAt rk p i) →
    ∃ l', Run n (ltR rk) (kas_place p k f l r) l' ∧ l' ≤ k ∧ (∀ i, i < l' → rkAt rk p i ≤ rkAt rk p k) ∧ (∀ i, l' ≤ i → i < k → rkAt rk p k < rkAt rk p i)
  | 0, l, r, hf, hl, hr, h1, h2 => ⟨l, .ret l, by omega, h1, fun i a b => h2 i (by omega) b⟩
  | f + 1, l, r, hf, hl, hr, h1, h2 => by
    by_cases hge : l ≥ r
    · refine ⟨l, ?_, by omega, h1, fun i a b => h2 i (by omega) b⟩
      unfold kas_place; rw [if_pos hge]; exact .ret l
    · by_cases hc : rkAt rk p k < rkAt rk p ((l + r) / 2)
      · obtain ⟨l', q1, q2, q3, q4⟩ := place_run h hk hu f l ((l + r) / 2) (by omega) (by omega) (by omega) h1 fun i a b => by
          have := hu ((l + r) / 2) i a b; omega
        refine ⟨l', ?_, q2, q3, q4⟩
        unfold kas_place; rw [if_neg hge]
        refine .ask (h.lt (by omega)) (h.lt (by omega)) ?_
        have : ltR rk (p.getD k 0) (p.getD ((l + r) / 2) 0) = true := decide_eq_true hc
        rw [this, if_pos rfl]; exact q1
      · obtain ⟨l', q1, q2, q3, q4⟩ := place_run h hk hu f ((l + r) / 2 + 1) r (by omega) (by omega) hr (fun i a => by
          have := hu i ((l + r) / 2) (by omega) (by omega); omega) h2
        refine ⟨l', ?_, q2, q3, q4⟩
        unfold kas_place; rw [if_neg hge]
        refine .ask (h.lt (by omega)) (h.lt (by omega)) ?_
        have : ltR rk (p.getD k 0) (p.getD ((l + r) / 2) 0) = false := decide_eq_false hc
        rw [this, if_neg Bool.false_ne_true]; exact q1
theorem bin_run : ∀ (f : Nat) (p : Array Nat) (k : Nat), Arr n p → n - k = f → k ≤ n → Up rk p k → ∃ p', Run n (ltR rk) (kas_bin f p k) p' ∧ Arr n p' ∧ Up rk p' n
  | 0, p, k, h, hf, hk, hu => ⟨p, .ret p, h, (show k = n by omega) ▸ hu⟩
  | f + 1, p, k, h, hf, hk, hu => by
    have hk' : k < n := by omega
    obtain ⟨l, q1, q2, q3, q4⟩ := place_run h hk' hu k 0 k (by omega) (by omega) (Nat.le_refl _) (fun i z => by omega) (fun i a b => by omega)
    have hsz : k < p.size := by rw [h.size]; exact hk'
    have hu' : Up rk (bubble p k (k - l)) (k + 1) := fun i j hij hj => by
      rw [rk_bub hsz (by omega), rk_bub hsz (by omega)]
      have e : k - (k - l) = l := by omega
      rw [e]
      by_cases i1 : i = l
      · rw [if_pos i1]
        by_cases j1 : j = l
        · rw [if_pos j1]; exact Int.le_refl _
        · rw [if_neg j1, if_pos (by omega)]; have := q4 (j - 1) (by omega) (by omega); omega
      · rw [if_neg i1]
        by_cases i2 : l < i ∧ i ≤ k
        · rw [if_pos i2, if_neg (by omega), if_pos (by omega)]; exact hu _ _ (by omega) (by omega)
        · rw [if_neg i2]
          by_cases j1 : j = l
          · rw [if_pos j1]; exact q3 i (by omega)
          · rw [if_neg j1]
            by_cases j2 : l < j ∧ j ≤ k
            · rw [if_pos j2]; exact hu _ _ (by omega) (by omega)
            · rw [if_neg j2]; exact hu _ _ hij (by omega)
    obtain ⟨p', k1, k2, k3⟩ := bin_run f (bubble p k (k - l)) (k + 1) (h.bub _ _) (by omega) (by omega) hu'
    exact ⟨p', q1.bind k1, k2, k3⟩
theorem sort_run (hn : 1 ≤ n) : ∃ p, Run n (ltR rk) (kas_sort n) p ∧ Arr n p ∧ Up rk p n := by
  have h0 : Arr n (List.toArray (List.range n)) := ⟨by simp, by simp⟩
  obtain ⟨m, p, q1, q2, q3, q4, q5⟩ := count_run (rk := rk) h0 hn
  by_cases e : m < n
  · have hmx : max m 1 = m := by omega
    obtain ⟨p', k1, k2, k3⟩ := bin_run (n - max m 1) p (max m 1) q2 rfl (by omega) (by rw [hmx]; exact q5)
    exact ⟨p', q1.bind (by dsimp only; rw [if_pos e]; exact k1), k2, k3⟩
  · have : m = n := by omega
    subst this
    exact ⟨p, q1.bind (by dsimp only; rw [if_neg e]; exact .ret _), q2, q5⟩
end
theorem ltI_trans {a b c : List Int} (h : a < b) (k : b < c) : a < c := List.lt_trans h k
theorem leI_trans {a b c : List Int} (h : ¬ b < a) (k : ¬ c < b) : ¬ c < a := List.not_lt.mpr (List.le_trans (List.not_lt.mp h) (List.not_lt.mp k))
theorem leI_anti {a b : List Int} (h : ¬ b < a) (k : ¬ a < b) : a = b := List.le_antisymm (List.not_lt.mp h) (List.not_lt.mp k)
section
variable {α : Type} (f : α → List Int)
def leF (a b : α) : Prop := ¬ f b < f a
def insF (x : α) : List α → List α
  | [] => [x]
  | y :: r => if f y < f x then y :: insF x r else x :: y :: r
def sortF (l : List α) : List α := l.foldr (insF f) []
theorem insF_perm (x : α) : ∀ l, (insF f x l).Perm (x :: l)
  | [] => List.Perm.refl _
  | y :: r => by
    unfold insF
    split
    · exact ((insF_perm x r).cons y).trans (List.Perm.swap x y r)
    · exact List.Perm.refl _
theorem sortF_perm : ∀ l, (sortF f l).Perm l
  | [] => List.Perm.refl _
  | x :: l => (insF_perm f x (sortF f l)).trans ((sortF_perm l).cons x)
theorem insF_pair (x : α) : ∀ l, l.Pairwise (leF f) → (insF f x l).Pairwise (leF f)
  | [], _ => by simp [insF]
  | y :: r, h => by
    obtain ⟨h1, h2⟩ := List.pairwise_cons.mp h
    unfold insF
    split
    · rename_i hl
      refine List.pairwise_cons.mpr ⟨fun z hz => ?_, insF_pair x r h2⟩
      rcases List.mem_cons.mp ((insF_perm f x r).mem_iff.mp hz) with rfl | hz
      · exact fun k => List.lt_irrefl _ (ltI_trans hl k)
      · exact h1 z hz
    · rename_i hl
      refine List.pairwise_cons.mpr ⟨fun z hz => ?_, h⟩
      rcases List.mem_cons.mp hz with rfl | hz
      · exact hl
      · exact leI_trans hl (h1 z hz)
theorem sortF_pair : ∀ l, (sortF f l).Pairwise (leF f)
  | [] => List.Pairwise.nil
  | x :: l => insF_pair f x _ (sortF_pair l)
theorem sortF_one : ∀ (l1 l2 : List α), (∀ x ∈ l1, ∀ y ∈ l1, f x = f y → x = y) → l1.Perm l2 → l1.Pairwise (leF f) → l2.Pairwise (leF f) → l1 = l2
  | [], l2, _, p, _, _ => (List.nil_perm.mp p).symm
  | x :: r1, [], _, p, _, _ => absurd p.length_eq (by simp)
  | x :: r1, y :: r2, hi, p, h1, h2 => by
    have hy : y ∈ x :: r1 := p.mem_iff.mpr (List.mem_cons_self ..)
    have hxy : leF f x y := by
      rcases List.mem_cons.mp hy with z | z
      · rw [z]; exact List.lt_irrefl _
      · exact (List.pairwise_cons.mp h1).1 y z
    have hyx : leF f y x := by
      rcases List.mem_cons.mp (p.mem_iff.mp (List.mem_cons_self ..)) with z | z
      · rw [z]; exact List.lt_irrefl _
      · exact (List.pairwise_cons.mp h2).1 x z
    have e : x = y := hi x (List.mem_cons_self ..) y hy (leI_anti hxy hyx)
    subst e
    rw [sortF_one r1 r2 (fun a ha b hb => hi a (List.mem_cons_of_mem _ ha) b (List.mem_cons_of_mem _ hb)) (List.Perm.cons_inv p) (List.pairwise_cons.mp h1).2 (List.pairwise_cons.mp h2).2]
theorem sortF_is {l l' : List α} (hi : ∀ x ∈ l, ∀ y ∈ l, f x = f y → x = y) (p : l'.Perm l) (h : l'.Pairwise (leF f)) : l' = sortF f l :=
  sortF_one f _ _ (fun x hx y hy => hi x (p.mem_iff.mp hx) y (p.mem_iff.mp hy)) (p.trans (sortF_perm f l).symm) h (sortF_pair f l)
end
theorem filter_len {α : Type} {p q : α → Bool} (h : ∀ x, p x = true → q x = true) : ∀ l : List α, (l.filter p).length ≤ (l.filter q).length
  | [] => Nat.le_refl _
  | x :: l => by
    have ih := filter_len h l
    rw [List.filter_cons, List.filter_cons]
    by_cases z : p x = true
    · rw [if_pos z, if_pos (h x z)]; simp only [List.length_cons]; omega
    · rw [if_neg z]
      split
      · simp only [List.length_cons]; omega
      · exact ih
def rankC (cs : List (List Int)) (c : List Int) : Int := ((cs.filter fun x => decide (x < c)).length : Nat)
theorem rank_le {cs : List (List Int)} {a b : List Int} (h : ¬ b < a) : rankC cs a ≤ rankC cs b := by
  unfold rankC
  refine Int.ofNat_le.mpr (filter_len (fun x hx => ?_) cs)
  rw [decide_eq_true_eq] at hx ⊢
  rcases List.le_iff_lt_or_eq.mp (List.not_lt.mp h) with z | z
  · exact ltI_trans hx z
  · rw [← z]; exact hx
theorem rank_lt {cs : List (List Int)} {a b : List Int} (ha : a ∈ cs) (h : a < b) : rankC cs a < rankC cs b := by
  unfold rankC
  apply Int.ofNat_lt.mpr
  induction cs with
  | nil => simp at ha
  | cons c cs ih =>
    have key : ∀ l : List (List Int), (l.filter fun x => decide (x < a)).length ≤ (l.filter fun x => decide (x < b)).length := fun l =>
      filter_len (fun x hx => by rw [decide_eq_true_eq] at hx ⊢; exact ltI_trans hx h) l
    rw [List.filter_cons, List.filter_cons]
    rcases List.mem_cons.mp ha with rfl | ha
    · rw [if_neg (by simp [List.lt_irrefl]), if_pos (by simpa using h)]
      have := key cs
      simp only [List.length_cons]; omega
    · have := ih ha
      by_cases z : c < a
      · rw [if_pos (by simpa using z), if_pos (by simpa using ltI_trans z h)]
        simp only [List.length_cons]; omega
      · rw [if_neg (by simpa using z)]
        split
        · simp only [List.length_cons]; omega
        · exact this
theorem rank_iff {cs : List (List Int)} {a b : List Int} (ha : a ∈ cs) : decide (rankC cs a < rankC cs b) = decide (a < b) := by
  by_cases h : a < b
  · rw [decide_eq_true h, decide_eq_true (rank_lt ha h)]
  · rw [decide_eq_false h, decide_eq_false]
    have := rank_le (cs := cs) h
    omega
inductive At where
  | i (n : Int)
  | s (z : Str)
def enc : At → List Int
  | .i n => [n]
  | .s z => z.cps.toList.map (fun (c : Nat) => (c : Int) + 1) ++ [0]
def encs (xs : List At) : List Int := xs.flatMap enc
def lexA : List At → List At → Option Bool
  | [], ys => some (!ys.isEmpty)
  | _ :: _, [] => some false
  | .i a :: xs, .i b :: ys => if a = b then lexA xs ys else some (decide (a < b))
  | .s a :: xs, .s b :: ys => if a = b then lexA xs ys else some (decide (a.cps.toList < b.cps.toList))
  | _ :: _, _ :: _ => none
theorem code_lt : ∀ (a b : List Nat) (r r' : List Int), (a.map (fun (c : Nat) => (c : Int) + 1) ++ 0 :: r) < (b.map (fun (c : Nat) => (c : Int) + 1) ++ 0 :: r') ↔ a < b ∨ (a = b ∧ r < r')
  | [], [], r, r' => by simp [List.cons_lt_cons_iff]
  | [], y :: b, r, r' => by simp [List.cons_lt_cons_iff]
  | x :: a, [], r, r' => by simp [List.cons_lt_cons_iff]; omega
  | x :: a, y :: b, r, r' => by
    rw [List.map_cons, List.map_cons, List.cons_append, List.cons_append, List.cons_lt_cons_iff, code_lt a b r r', List.cons_lt_cons_iff]
    constructor
    · rintro (h | ⟨h, k | ⟨k1, k2⟩⟩)
      · exact .inl (.inl (by omega))
      · exact .inl (.inr ⟨by omega, k⟩)
      · exact .inr ⟨by rw [k1, show x = y by omega], k2⟩
    · rintro ((h | ⟨h, k⟩) | ⟨h, k⟩)
      · exact .inl (by omega)
      · exact .inr ⟨by omega, .inl k⟩
      · injection h with h1 h2
        exact .inr ⟨by omega, .inr ⟨h2, k⟩⟩
theorem encs_cons (x : At) (xs : List At) : encs (x :: xs) = enc x ++ encs xs := by unfold encs; rw [List.flatMap_cons]
theorem enc_ne (x : At) : enc x ≠ [] := by cases x <;> simp [enc]
theorem str_cps {a b : Str} : a.cps.toList = b.cps.toList ↔ a = b := by
  constructor
  · intro h
    obtain ⟨a⟩ := a; obtain ⟨b⟩ := b
    have : a = b := Array.toList_inj.mp h
    rw [this]
  · rintro rfl; rfl
theorem lex_enc : ∀ (xs ys : List At) (b : Bool), lexA xs ys = some b → b = decide (encs xs < encs ys)
  | [], [], b, h => by simp [lexA] at h; subst h; simp [encs]
  | [], y :: ys, b, h => by
    simp [lexA] at h; subst h
    rw [encs_cons]
    cases e : enc y with
    | nil => exact absurd e (enc_ne y)
    | cons c cs => simp [encs]
  | x :: xs, [], b, h => by simp [lexA] at h; subst h; simp [encs]
  | .i a :: xs, .i c :: ys, b, h => by
    rw [lexA] at h
    rw [encs_cons, encs_cons]
    show b = decide (a :: encs xs < c :: encs ys)
    split at h
    · rename_i e
      subst e
      rw [lex_enc xs ys b h]
      exact decide_eq_decide.mpr (by rw [List.cons_lt_cons_iff]; simp)
    · rename_i e
      cases h
      exact decide_eq_decide.mpr (by rw [List.cons_lt_cons_iff]; simp [e])
  | .s a :: xs, .s c :: ys, b, h => by
    rw [lexA] at h
    rw [encs_cons, encs_cons]
    have e0 : ∀ (z : Str) (r : List Int), enc (.s z) ++ r = z.cps.toList.map (fun (c : Nat) => (c : Int) + 1) ++ 0 :: r := fun z r => by simp [enc]
    rw [e0, e0]
    split at h
    · rename_i e
      subst e
      rw [lex_enc xs ys b h]
      exact decide_eq_decide.mpr (by rw [code_lt]; exact ⟨fun z => .inr ⟨rfl, z⟩, fun z => z.elim (fun q => absurd q (List.lt_irrefl _)) (·.2)⟩)
    · rename_i e
      cases h
      exact decide_eq_decide.mpr (by rw [code_lt, str_cps]; exact ⟨.inl, fun z => z.elim id fun q => absurd q.1 e⟩)
  | .i _ :: _, .s _ :: _, b, h => by simp [lexA] at h
  | .s _ :: _, .i _ :: _, b, h => by simp [lexA] at h
theorem lex_eq : ∀ (xs ys : List At), lexA xs ys = some false → lexA ys xs = some false → xs = ys
  | [], [], _, _ => rfl
  | [], y :: ys, h, _ => by simp [lexA] at h
  | x :: xs, [], _, h => by simp [lexA] at h
  | .i a :: xs, .i c :: ys, h, k => by
    rw [lexA] at h k
    by_cases e : a = c
    · subst e
      rw [if_pos rfl] at h k
      rw [lex_eq xs ys h k]
    · rw [if_neg e] at h
      rw [if_neg (Ne.symm e)] at k
      simp at h k
      omega
  | .s a :: xs, .s c :: ys, h, k => by
    rw [lexA] at h k
    by_cases e : a = c
    · subst e
      rw [if_pos rfl] at h k
      rw [lex_eq xs ys h k]
    · rw [if_neg e] at h
      rw [if_neg (Ne.symm e)] at k
      simp only [Option.some.injEq, decide_eq_false_iff_not] at h k
      exact absurd (str_cps.mp (List.le_antisymm (List.not_lt.mp k) (List.not_lt.mp h))) e
  | .i _ :: _, .s _ :: _, h, _ => by simp [lexA] at h
  | .s _ :: _, .i _ :: _, h, _ => by simp [lexA] at h
def compA (ks : List (List At)) : Bool := ks.all fun x => ks.all fun y => (lexA x y).isSome
theorem compA_get {ks : List (List At)} (h : compA ks = true) {x y : List At} (hx : x ∈ ks) (hy : y ∈ ks) : lexA x y = some (decide (encs x < encs y)) := by
  have := List.all_eq_true.mp (List.all_eq_true.mp h x hx) y hy
  obtain ⟨b, e⟩ := Option.isSome_iff_exists.mp this
  rw [e, lex_enc _ _ _ e]
theorem compA_inj {ks : List (List At)} (h : compA ks = true) {x y : List At} (hx : x ∈ ks) (hy : y ∈ ks) (e : encs x = encs y) : x = y := by
  refine lex_eq _ _ ?_ ?_
  · rw [compA_get h hx hy, e, decide_eq_false (List.lt_irrefl _)]
  · rw [compA_get h hy hx, e, decide_eq_false (List.lt_irrefl _)]
def atV : At → Value → Prop
  | .i n, v => ∃ t, v = .int n t
  | .s z, v => ∃ t, v = .str z t
def TupV (h : Heap) (xs : List At) (v : Value) : Prop := ∃ a o its n, v = .ref a ∧ h.get? a = some o ∧ o.cls = .type "tuple" ∧ o.data = .seq its n ∧ Paired atV xs its.toList
theorem TupV.keep {h h' : Heap} {xs : List At} {v : Value} (x : TupV h xs v) (k : ∀ a o, o.cls = .type "tuple" → h.get? a = some o → h'.get? a = some o) : TupV h' xs v := by
  obtain ⟨a, o, its, n, e, ho, hc, r⟩ := x
  exact ⟨a, o, its, n, e, k a o hc ho, hc, r⟩
def firstsOk (ks : List (List At)) : Bool := ks.all (fun x => match x with | .i _ :: _ => true | _ => false) || ks.all (fun x => match x with | .s _ :: _ => true | _ => false)
section
variable {prog : Program} {w : World} {A : Around} {E : Value → Shared → Prop} {s : Shared}
theorem lex_walk {Q : Bool → Shared → Prop} {b : Bool} {fin : Bool} : ∀ (xs ys : List At) (its jts : List Value) (i : Nat), Paired atV xs its → Paired atV ys jts → lexA xs ys = some b → fin = decide (xs.length < ys.length) → Q b s → KatLex prog w A true fin Q (its.zip jts) i s
  | [], ys, _, jts, i, .nil, r2, h, hf, q => by
    rw [List.zip_nil_left]
    refine kat_nil ?_
    cases ys with
    | nil => simp [lexA] at h; subst h; rw [hf]; exact q
    | cons y ys => simp [lexA] at h; subst h; rw [hf]; simpa using q
  | x :: xs, [], _, _, i, _, .nil, h, hf, q => by
    rw [List.zip_nil_right]
    refine kat_nil ?_
    simp [lexA] at h; subst h; rw [hf]; simpa using q
  | .i a :: xs, .i c :: ys, _, _, i, .cons r1 r1', .cons r2 r2', h, hf, q => by
    obtain ⟨t, rfl⟩ := r1
    obtain ⟨u, rfl⟩ := r2
    rw [List.zip_cons_cons]
    refine kat_cons (wpAny_eqBool_int ?_)
    rw [lexA] at h
    by_cases e : a = c
    · rw [if_pos e] at h
      rw [show (a == c) = true by simp [e]]
      exact kat_yes (lex_walk xs ys _ _ (i + 1) r1' r2' h (by rw [hf]; simp) q)
    · rw [if_neg e] at h
      cases h
      rw [show (a == c) = false by simp [e]]
      refine kat_no ?_
      cases hb : (true && i == 0) with
      | true => exact oneLt_int q
      | false => exact kat_one _ _ (PyProof.Rows.lt_int q)
  | .s a :: xs, .s c :: ys, _, _, i, .cons r1 r1', .cons r2 r2', h, hf, q => by
    obtain ⟨t, rfl⟩ := r1
    obtain ⟨u, rfl⟩ := r2
    rw [List.zip_cons_cons]
    refine kat_cons (wpAny_eqBool_str ?_)
    rw [lexA] at h
    by_cases e : a = c
    · rw [if_pos e] at h
      rw [decide_eq_true e]
      exact kat_yes (lex_walk xs ys _ _ (i + 1) r1' r2' h (by rw [hf]; simp) q)
    · rw [if_neg e] at h
      cases h
      rw [decide_eq_false e]
      refine kat_no ?_
      cases hb : (true && i == 0) with
      | true => exact oneLt_str q
      | false => exact kat_one _ _ (PySem.P.lt_str q)
  | .i _ :: _, .s _ :: _, _, _, _, _, _, h, _, _ => by simp [lexA] at h
  | .s _ :: _, .i _ :: _, _, _, _, _, _, h, _, _ => by simp [lexA] at h
theorem paired_len {α β : Type} {F : α → β → Prop} : ∀ {l₁ : List α} {l₂ : List β}, Paired F l₁ l₂ → l₁.length = l₂.length
  | _, _, .nil => rfl
  | _, _, .cons _ t => by simp [paired_len t]
theorem tup_lt {Q : Bool → Shared → Prop} {xs ys : List At} {x y : Value} {b : Bool} (hx : TupV s.heap xs x) (hy : TupV s.heap ys y) (h : lexA xs ys = some b) (q : Q b s) : wpAny (model prog w) A (keyLt' (tuples' true) x y) Q E s := by
  obtain ⟨a, o, its, n, rfl, ho, _, hd, r⟩ := hx
  obtain ⟨a', o', its', n', rfl, ho', _, hd', r'⟩ := hy
  refine kat_lt ho hd ho' hd' (lex_walk xs ys _ _ 0 r r' h ?_ q)
  rw [← Array.length_toList, ← Array.length_toList, paired_len r, paired_len r']
theorem tups_firsts {h : Heap} : ∀ {ks : List (List At)} {vs : List Value}, Paired (TupV h) ks vs → (∀ k ∈ ks, k ≠ []) → ∃ fs, KatTups h vs fs ∧ fs.length = ks.length ∧ ∀ v ∈ fs, ∃ k r, (k :: r) ∈ ks ∧ atV k v
  | _, _, .nil, _ => ⟨[], trivial, rfl, by simp⟩
  | k :: ks, _, .cons x t, hne => by
    obtain ⟨fs, h1, h2, h3⟩ := tups_firsts t fun z hz => hne z (List.mem_cons_of_mem _ hz)
    obtain ⟨a, o, its, n, rfl, ho, hc, hd, r⟩ := x
    cases r' : its.toList with
    | nil =>
      rw [r'] at r
      cases r
      exact absurd rfl (hne [] (List.mem_cons_self ..))
    | cons v vs =>
      rw [r'] at r
      obtain ⟨p, r1⟩ : ∃ p, its[0]? = some v := ⟨(), by rw [← Array.getElem?_toList, r']; rfl⟩
      cases r with
      | cons q qs =>
        rename_i k0 kr
        refine ⟨v :: fs, KatTups.cons ho hc hd r1 h1, by simp [h2], fun u hu => ?_⟩
        rcases List.mem_cons.mp hu with rfl | hu
        · exact ⟨k0, kr, List.mem_cons_self .., q⟩
        · obtain ⟨k1, r1, m1, m2⟩ := h3 u hu
          exact ⟨k1, r1, List.mem_cons_of_mem _ m1, m2⟩
theorem tup_kind {ks : List (List At)} {vs : List Value} {Q : SortKind → Shared → Prop} (hp : Paired (TupV s.heap) ks vs) (hf : firstsOk ks = true) (hn : 0 < ks.length) (q : Q (tuples' true) s) : wpAny (model prog w) A (keyKind' vs.toArray) Q E s := by
  have hne : ∀ k ∈ ks, k ≠ [] := fun k hk z => by
    subst z
    unfold firstsOk at hf
    rw [Bool.or_eq_true] at hf
    rcases hf with hf | hf
    · have := List.all_eq_true.mp hf [] hk; simp at this
    · have := List.all_eq_true.mp hf [] hk; simp at this
  obtain ⟨fs, h1, h2, h3⟩ := tups_firsts hp hne
  unfold firstsOk at hf
  rw [Bool.or_eq_true] at hf
  rcases hf with hf | hf
  · refine kat_kind (T := .type "int") h1 (by omega) (fun v hv => ?_) (by decide) q
    obtain ⟨k, r, m, z⟩ := h3 v hv
    have := List.all_eq_true.mp hf _ m
    cases k with
    | i n => obtain ⟨t, rfl⟩ := z; exact .now
    | s z' => simp at this
  · refine kat_kind (T := .type "str") h1 (by omega) (fun v hv => ?_) (by decide) q
    obtain ⟨k, r, m, z⟩ := h3 v hv
    have := List.all_eq_true.mp hf _ m
    cases k with
    | s z' => obtain ⟨t, rfl⟩ := z; exact .now
    | i n => simp at this
end
section
variable {prog : Program} {w : World} {A : Around} {E : Value → Shared → Prop} {s : Shared}
theorem paired_get {α β : Type} {F : α → β → Prop} (d : α) (e : β) : ∀ {l₁ : List α} {l₂ : List β}, Paired F l₁ l₂ → ∀ {i : Nat}, i < l₁.length → F (l₁.getD i d) (l₂.getD i e)
  | _, _, .cons r t, 0, _ => r
  | _, _, .cons r t, i + 1, h => by
    simp only [List.getD_cons_succ]
    exact paired_get d e t (by simpa using h)
  | _, _, .nil, i, h => by simp at h
def rkK (ks : List (List At)) (i : Nat) : Int := rankC (ks.map encs) (encs (ks.getD i []))
theorem ask_tup {ks : List (List At)} {vs : List Value} (hc : compA ks = true) (hp : Paired (TupV s.heap) ks vs) : ∀ (i j : Nat) (C : Bool → Shared → Prop) (s1 : Shared), i < ks.length → j < ks.length → s1 = s → (∀ s', s' = s → C (ltR (rkK ks) i j) s') → kas_ask prog w A (tuples' true) vs i j C s1 := by
  intro i j C s1 hi hj e hC
  subst e
  unfold kas_ask
  have mi : ks.getD i [] ∈ ks := by rw [List.getD_eq_getElem?_getD, List.getElem?_eq_getElem hi]; exact List.getElem_mem hi
  have mj : ks.getD j [] ∈ ks := by rw [List.getD_eq_getElem?_getD, List.getElem?_eq_getElem hj]; exact List.getElem_mem hj
  refine tup_lt (paired_get [] Value.none hp hi) (paired_get [] Value.none hp hj) (compA_get hc mi mj) ?_
  have := hC s1 rfl
  unfold ltR rkK at this
  rw [rank_iff (List.mem_map.mpr ⟨_, mi, rfl⟩)] at this
  exact this
end
end DL
namespace DL
open PySem PySem.Spec PySem.W PyProof.Rows L2
def atomD : D → Option At
  | .int n => some (.i n)
  | .str z => some (.s z)
  | _ => none
def atomsD : List D → Option (List At)
  | [] => some []
  | d :: ds => (atomD d).bind fun a => (atomsD ds).map (a :: ·)
def keyD : D → Option (List At)
  | .tup es => atomsD es
  | _ => none
def keysD : List D → Option (List (List At))
  | [] => some []
  | d :: ds => (keyD d).bind fun a => (keysD ds).map (a :: ·)
def intsD : List D → Option (List Int)
  | [] => some []
  | .int n :: ds => (intsD ds).map (n :: ·)
  | _ :: _ => none
theorem keysD_len : ∀ {ds : List D} {ks : List (List At)}, keysD ds = some ks → ks.length = ds.length
  | [], _, h => by simp only [keysD] at h; cases h; rfl
  | d :: ds, _, h => by
    simp only [keysD] at h
    obtain ⟨a, h1, h⟩ := Option.bind_eq_some_iff.mp h
    obtain ⟨r, h2, h⟩ := Option.map_eq_some_iff.mp h
    subst h
    simp [keysD_len h2]
section
variable {X : Cx}
theorem atoms_at {K : PySem.W.Frag} {B : Hp} : ∀ {vs : List V} {es : List D} {k : List At} {its : List Value}, Vals vs its → IsL K B vs es → atomsD es = some k → Paired atV k its
  | _, _, _, _, .nil, .nil, h => by simp only [atomsD] at h; cases h; exact .nil
  | _, _, _, _, .cons r rr, .cons i ii, h => by
    simp only [atomsD] at h
    obtain ⟨a, h1, h⟩ := Option.bind_eq_some_iff.mp h
    obtain ⟨t, h2, h⟩ := Option.map_eq_some_iff.mp h
    subst h
    refine .cons ?_ (atoms_at rr ii h2)
    cases i <;> simp only [atomD] at h1 <;> cases h1
    · exact r
    · exact r
theorem tups_at {pins : List (Addr × Obj)} {σ : St} {H : Hp} {s : Shared} (I : Inv X pins σ H s) : ∀ {ys : List V} {ds : List D} {ks : List (List At)} {its : List Value}, Vals ys its → IsL X.K H ys ds → keysD ds = some ks → Paired (TupV s.heap) ks its
  | _, _, _, _, .nil, .nil, h => by simp only [keysD] at h; cases h; exact .nil
  | _, _, _, _, .cons r rr, .cons i ii, h => by
    simp only [keysD] at h
    obtain ⟨a, h1, h⟩ := Option.bind_eq_some_iff.mp h
    obtain ⟨t, h2, h⟩ := Option.map_eq_some_iff.mp h
    subst h
    refine .cons ?_ (tups_at I rr ii h2)
    cases i <;> simp only [keyD] at h1 <;> try (cases h1; done)
    rename_i hq hl
    cases r
    obtain ⟨its', r', ⟨o, ho, hc, n, hd⟩, _⟩ := I.tuple hq
    exact ⟨_, o, _, n, rfl, ho, hc, hd, by simpa using atoms_at r' hl h1⟩
theorem isL_get {K : PySem.W.Frag} {B : Hp} : ∀ {vs : List V} {ds : List D}, IsL K B vs ds → ∀ {i : Nat}, i < ds.length → Is K B (vs.getD i .non) (ds.getD i .non)
  | _, _, .cons h _, 0, _ => h
  | _, _, .cons _ t, i + 1, hi => by
    simp only [List.getD_cons_succ]
    exact isL_get t (by simpa using hi)
  | _, _, .nil, i, hi => by simp at hi
theorem vals_get : ∀ {vs : List V} {us : List Value}, Vals vs us → ∀ {i : Nat}, i < vs.length → RelV (vs.getD i .non) (us.getD i Value.none)
  | _, _, .cons h _, 0, _ => h
  | _, _, .cons _ t, i + 1, hi => by
    simp only [List.getD_cons_succ]
    exact vals_get t (by simpa using hi)
  | _, _, .nil, i, hi => by simp at hi
theorem isL_pick {K : PySem.W.Frag} {B : Hp} {vs : List V} {ds : List D} (h : IsL K B vs ds) : ∀ (l : List Nat), (∀ i ∈ l, i < ds.length) → IsL K B (l.map fun i => vs.getD i .non) (l.map fun i => ds.getD i .non)
  | [], _ => .nil
  | i :: l, hl => .cons (isL_get h (hl i (List.mem_cons_self ..))) (isL_pick h l fun j hj => hl j (List.mem_cons_of_mem _ hj))
theorem vals_pick {vs : List V} {us : List Value} (h : Vals vs us) : ∀ (l : List Nat), (∀ i ∈ l, i < vs.length) → Vals (l.map fun i => vs.getD i .non) (l.map fun i => us.getD i Value.none)
  | [], _ => .nil
  | i :: l, hl => .cons (vals_get h (hl i (List.mem_cons_self ..))) (vals_pick h l fun j hj => hl j (List.mem_cons_of_mem _ hj))
end
section
variable {X : Cx}
theorem ints_at {K : PySem.W.Frag} {B : Hp} : ∀ {vs : List V} {ds : List D} {ns : List Int} {its : List Value}, Vals vs its → IsL K B vs ds → intsD ds = some ns → IntsAre its ns
  | _, _, _, _, .nil, .nil, h => by simp only [intsD] at h; cases h; exact .nil
  | _, _, _, _, .cons r rr, .cons i ii, h => by
    cases i <;> simp only [intsD] at h <;> try (cases h; done)
    obtain ⟨t, h2, h⟩ := Option.map_eq_some_iff.mp h
    subst h
    obtain ⟨u, rfl⟩ := r
    exact .cons _ u (ints_at rr ii h2)
theorem vals_ints : ∀ {its : List Value} {zs : List Int}, IntsAre its zs → Vals (zs.map V.int) its
  | _, _, .nil => .nil
  | _, _, .cons x t r => .cons ⟨t, rfl⟩ (vals_ints r)
end
end DL
namespace DL
open PySem PySem.Spec PyProof.Rows L2
section
variable {X : Cx} {pos : Pos}
@[simp] def gRem (i : Nat) (f : FE) : FS := fun ρ => match ρ[i]? with
  | some (some (.lst ds, true)) => (f ρ).bind fun x => (intsD ds).bind fun ns => match x.1 with
    | .int n => if ns.findIdx (· == n) < ns.length then some (.nx (ρ.set i (some (.lst ((ns.eraseIdx (ns.findIdx (· == n))).map .int), true)))) else none
    | _ => none
  | _ => none
end
section
variable {prog : Program} {w : World} {A : Around} {E : Value → Shared → Prop} {s : Shared}
theorem index_tree {a : Addr} {o : Obj} {its : Array Value} {n : Nat} {x : Value} {e : Value → Bool} {j : Nat} {P : PySem.Fin → Shared → Prop} (ho : s.heap.get? a = some o) (hd : o.data = .seq its n)
    (he : ∀ y ∈ its, MeetsSeq.EqGives y x (e y)) (hj : j < its.size) (hit : e its[j] = true) (hno : ∀ m (hm : m < its.size), m < j → e its[m] = false)
    (h : P (.done (.ret (.int j s.toks))) { s with toks := s.toks + 1 }) : wpAny (model prog w) A (Builtin.«tuple.index» ⟨[.ref a, x], []⟩) P E s := by
  show wpAny _ _ (Builtin.Tuple.tupleItemsOf (.ref a) >>= _) _ _ s
  refine wpAny_bind (wpAny_tupleItemsOf ho hd ?_)
  dsimp only
  refine wpAny_bind (wpAny_pure (wpAny_bind (wpAny_pure (wpAny_bind ?_))))
  rw [Std.Legacy.Range.forIn_eq_forIn_range']
  refine wpAny_forIn_list _
    (fun rest r s' => r.1 = none ∧ s' = s ∧ ∃ i, i ≤ j ∧ rest = List.range' i (its.size - i))
    _ ?_ ?_ _ _ ⟨rfl, rfl, 0, Nat.zero_le _, ?_⟩
  · rintro k rest r s' ⟨hr, rfl, i, hi, hz⟩
    have hlt : i < its.size := by omega
    obtain ⟨m, hm⟩ : ∃ m, its.size - i = m + 1 := ⟨its.size - i - 1, by omega⟩
    rw [hm, List.range'_succ] at hz
    injection hz with z1 z2
    have z1 := z1.symm
    subst z1
    subst z2
    have hg : its[i]? = some its[i] := by simp [hlt]
    simp only [hg]
    refine wpAny_bind (he _ (Array.getElem_mem hlt) prog w _ _ _ _ ?_)
    by_cases hij : i = j
    · subst hij
      rw [hit]
      simp only [if_true]
      refine wpAny_bind ?_
      show wpAny _ _ (mkInt (i : Int) >>= fun v => ret v) _ _ _
      exact wpAny_bind (wpAny_mkInt (wpAny_pure (wpAny_pure (wpAny_pure h))))
    · rw [hno i hlt (by omega)]
      simp only [Bool.false_eq_true, if_false]
      exact wpAny_pure ⟨rfl, rfl, i + 1, by omega, by rw [show its.size - (i + 1) = m by omega]⟩
  · rintro ⟨r1, r2⟩ s' ⟨hr, rfl, i, hi, hz⟩
    exfalso
    have : (List.range' i (its.size - i)).length = 0 := by rw [← hz]; rfl
    rw [List.length_range'] at this
    omega
  · simp
end
theorem CRows.findT {K : PySem.W.Frag} {P : Params} (y : Str) {ds : List D} : ∀ {es : List DictEntry} {kvs : List (Str × D)}, CRows K P es kvs → kvs.lookup y = some (.tup ds) →
    ∃ e a its n osl, es.find? (fun e => Value.isStrOf y e.key) = some e ∧ e.val = .ref a ∧ K.lookup a = some ⟨.type "tuple", none, .seq its n, osl⟩ ∧ flatsIs its.toList ds = true
  | _, _, .nil, h => by simp at h
  | _, _, .tup (x := x) (t := t) (a := a) (ds := ds') hh l f tl, h => by
    by_cases e : y = x
    · subst e
      rw [List.lookup_cons_self] at h
      cases h
      rw [Bool.and_eq_true] at f
      exact ⟨_, a, _, _, _, List.find?_cons_of_pos (by simp [Value.isStrOf]), rfl, l, f.2⟩
    · rw [List.lookup_cons, beq_eq_false_iff_ne.mpr e] at h
      have nf : Value.isStrOf y (Value.str x t) = false := by
        rw [Bool.eq_false_iff]
        intro z
        obtain ⟨t', q⟩ := Value.isStrOf_shape z
        injection q with q1
        exact e q1.symm
      simp only [List.find?_cons, nf]
      exact tl.findT y h
  | _, _, .flat (x := x) (t := t) (u := u) (d := d) hh f tl, h => by
    by_cases e : y = x
    · subst e
      rw [List.lookup_cons_self] at h
      cases h
      cases u <;> simp [flatIs] at f
    · rw [List.lookup_cons, beq_eq_false_iff_ne.mpr e] at h
      have nf : Value.isStrOf y (Value.str x t) = false := by
        rw [Bool.eq_false_iff]
        intro z
        obtain ⟨t', q⟩ := Value.isStrOf_shape z
        injection q with q1
        exact e q1.symm
      simp only [List.find?_cons, nf]
      exact tl.findT y h
section
variable {X : Cx} {b e : Expr} {pos : Pos} {x : Str} {p : Pos}
def rTIx (K : PySem.W.Frag) : V → List V → Hp → VK → Prop := fun x xs H Q => ∃ (a : Addr) (o : Obj) (its : Array Value) (n : Nat) (zs : List Str) (y : Str), x = .ref a ∧ xs = [.str y] ∧ K.lookup a = some o ∧ o.cls = .type "tuple" ∧ o.data = .seq its n ∧ StrsAre its.toList zs ∧ zs.findIdx (· == y) < zs.length ∧ Q (.int (zs.findIdx (· == y) : Nat)) H
def eqToS (y : Str) : Value → Bool
  | .str z _ => z == y
  | _ => false
theorem strs_at : ∀ {its : List Value} {zs : List Str}, StrsAre its zs → ∀ (i : Nat) (hi : i < its.length), ∃ (h : i < zs.length) (t : Tok), its[i] = .str zs[i] t
  | _, _, .cons z t h, 0, _ => ⟨by simp, t, rfl⟩
  | _, _, .cons z t h, i + 1, hi => by
    obtain ⟨h', t', e⟩ := strs_at h i (by simpa using hi)
    exact ⟨by simpa using h', t', by simpa using e⟩
  | _, _, .nil, i, hi => by simp at hi
theorem strs_len : ∀ {its : List Value} {zs : List Str}, StrsAre its zs → its.length = zs.length
  | _, _, .nil => rfl
  | _, _, .cons _ _ h => by rw [List.length_cons, List.length_cons, strs_len h]
theorem m_tindex : MtR X "tuple.index" (rTIx X.K) := by
  intro pins s σ H x xs v us Q I rx rv h
  obtain ⟨a, o, its, n, zs, y, rfl, rfl, lk, hc, hd, hz, hk, q⟩ := h
  cases rx
  obtain ⟨u, rfl, ⟨t, rfl⟩⟩ := rv.one
  have ho := I.kIn a o lk
  have hl := strs_len hz
  rw [Array.length_toList] at hl
  have at' : ∀ (i : Nat) (hi : i < its.size), ∃ (h : i < zs.length) (t : Tok), its[i] = .str zs[i] t := fun i hi => by
    obtain ⟨h', t', e⟩ := strs_at hz i (by simpa using hi)
    exact ⟨h', t', by simpa using e⟩
  refine wpAny_call_entry PySem.F.slot_tuple_index ⟨o, ho, hc⟩ PySem.F.entry_tuple_index (index_tree (e := eqToS y) (j := zs.findIdx (· == y)) ho hd (fun z hm => ?_) (by omega) ?_ (fun m hm hlt => ?_) ⟨_, rfl, .int (zs.findIdx (· == y) : Nat), H, I.tok _, ⟨_, rfl⟩, q⟩) (PySem.F.args_tuple_index_2 _ _)
  · obtain ⟨i, hi, rfl⟩ := Array.mem_iff_getElem.mp hm
    obtain ⟨_, t', e'⟩ := at' i hi
    rw [e']
    exact eqGives_str _ _ _ _
  · obtain ⟨_, t', e'⟩ := at' (zs.findIdx (· == y)) (by omega)
    rw [e']
    exact List.findIdx_getElem (p := (· == y)) (w := hk)
  · obtain ⟨_, t', e'⟩ := at' m hm
    rw [e']
    have := List.not_of_lt_findIdx (p := (· == y)) (xs := zs) hlt
    simpa [eqToS] using this
@[simp] def cIdx (kvs : List (Str × D)) : D → D → Option (D × Bool)
  | .str y, .str z => match kvs.lookup y with
    | some (.tup ds) => (strsD ds).bind fun zs => if zs.findIdx (· == z) < zs.length then some (.int (zs.findIdx (· == z) : Nat), false) else none
    | _ => none
  | _, _ => none
theorem je_cidx {kvs : List (Str × D)} {f g : FE} {apos cpos : Pos} (h : ∃ d, X.mg x = some (.ref d) ∧ CDict X.K X.w.params d kvs) (hb : JE X b f) (he : JE X e g) (hg : Gl X x := by rfl) (hdb : (x == ("__debug__" : Str)) = false := by decide) (hs : PlainIx b := by intro _ _; rfl)
    (hbase : attributeBase (.Subscript (.Name x p) b pos) "index" X.env (eval (.Subscript (.Name x p) b pos) X.env) = eval (.Subscript (.Name x p) b pos) X.env := by rfl)
    (hfew : ((backTo cpos (starEach [e] X.env)).all (fun x => !x.1) && (backToKw cpos (keywordEach [] X.env)).all (fun x => x.1.isSome)
      && decide ([e].length + ([] : List Keyword).length + (if ([] : List Keyword).isEmpty then 0 else 1) < 30)) = true := by rfl)
    (hline : (apos.endLine == cpos.line) = true := by rfl) (hst : starEach [e] X.env = [(false, eval e X.env)] := by rfl) :
    JE X (.Call (.Attribute (.Subscript (.Name x p) b pos) "index" apos) [e] [] cpos) (f2 (cIdx kvs) f g) := by
  obtain ⟨d, hm, cd⟩ := h
  have ix : IxR X (fun x y H Q => ∃ z ds, x = .ref d ∧ y = .str z ∧ kvs.lookup z = some (.tup ds) ∧ ∀ a its n osl, X.K.lookup a = some ⟨.type "tuple", none, .seq its n, osl⟩ → flatsIs its.toList ds = true → Q (.ref a) H) := by
    intro value slice pins s σ H x y v u Q I rx ry q hs
    obtain ⟨z, ds, rfl, rfl, el, q⟩ := q
    cases rx
    obtain ⟨t, rfl⟩ := ry
    obtain ⟨es, n, l, r, sm⟩ := cd
    have hM := PySem.W.mapOf_K (prog := X.prog) (w := X.w) I.kIn l r.lit
    obtain ⟨en, a, its, n', osl, e1, e2, e3, e4⟩ := r.findT z el
    have ff : findBy Value.isStrOf es z = some (.ref a) := by
      unfold findBy
      obtain ⟨es⟩ := es
      rw [List.find?_toArray, e1, ← e2]
      rfl
    exact tail_any hM.typeIs slot_dict_getitem.lookup (wpAny_getItem_of (strKind_is X.prog X.w z t) hM ff ⟨.ref a, H, I.tok _, rfl, q a _ _ _ e3 e4⟩) hs
  refine PE.to (pe_bm (T := "tuple") PySem.F.plainAttrs_tuple PySem.F.slot_tuple_index PySem.F.type_tuple_index m_tindex (pe_ix ix (pe_glob (v := .ref d) hg hm rfl hdb) hb hs) (pa_cons he pa_nil hst) hbase hfew hline hst rfl) fun σ H Q q => ?_
  obtain ⟨B, ρ, d', bb, sB, r, ee, q⟩ := q
  obtain ⟨x1, ex, ee⟩ := Option.bind_eq_some_iff.mp ee
  obtain ⟨y1, ey, ee⟩ := Option.bind_eq_some_iff.mp ee
  obtain ⟨xd, xb⟩ := x1
  obtain ⟨yd, yb⟩ := y1
  cases xd with
  | str z =>
    cases yd with
    | str y =>
      refine ⟨B, ρ, _, xb, sB, r, ex, fun v H1 N1 xt i1 _ => ?_⟩
      cases i1
      simp only [cIdx] at ee
      split at ee
      · rename_i ds el
        obtain ⟨zs, ez, ee⟩ := Option.bind_eq_some_iff.mp ee
        split at ee
        · rename_i hk
          cases ee
          refine ⟨z, ds, rfl, rfl, el, fun a its n osl l fl => ⟨.inr (.inl ⟨rfl, _, l, rfl, rfl⟩), N1, ρ, _, yb, xt.nh, r.mono xt.bn, ey, fun v2 H2 N2 xt2 i2 _ => ?_⟩⟩
          cases i2
          obtain ⟨vs, rv, iv⟩ := flatsIs_is (K := X.K) fl
          exact ⟨a, _, its, n, zs, y, rfl, rfl, l, rfl, rfl, strs_are rv (iv N2) ez, hk, (q.into (xt.trans xt2)).one xt2.nh (.int _)⟩
        · cases ee
      · cases ee
    | _ => simp [cIdx] at ee
  | _ => simp [cIdx] at ee
end
open PySem.W (tabIn tabObj CodeHd kla_fn kla_obj kla_eval kla_makeFunction kla_makeFunctionHit kla_callFunE kla_codeExpr envX)
def CodeK (K : PySem.W.Frag) (c P : Addr) : Prop := ∃ o vs file tf flags tg inF text tt, K.lookup c = some o ∧ o.cls = .type "code" ∧ o.data = .fields vs ∧ vs[11]? = some (.ref P) ∧ vs.getD 11 .none = .ref P ∧ vs.getD 18 .none = .str file tf ∧
  vs.getD 7 .none = .int flags tg ∧ vs.getD 9 .none = .bool inF ∧ vs.getD 10 .none = .int text tt ∧ c ≠ P
def LamK (K : PySem.W.Frag) (x : Str) : Prop := ∃ c P, tabIn K x = some (c, P) ∧ CodeK K c P
def LamV (H : Hp) (f : Addr) (q : Str) (params : Arguments) (body : Expr) (scope : Scope) (cl : List (Str × Addr)) : Prop :=
  ∃ pm c ctv u oc u' vs t, H f = some (.frz (kla_obj "<lambda>" q params body scope cl pm c ctv) u) ∧ H c = some (.frz oc u') ∧ oc.data = .fields vs ∧ vs[1]? = some (.str q t)
theorem LamV.mono {H H' : Hp} {f : Addr} {q : Str} {params : Arguments} {body : Expr} {scope : Scope} {cl : List (Str × Addr)} (h : LamV H f q params body scope cl) (e : Same H H') : LamV H' f q params body scope cl :=
  let ⟨pm, c, ctv, u, oc, u', vs, t, h1, h2, h3, h4⟩ := h; ⟨pm, c, ctv, u, oc, u', vs, t, e _ _ h1, e _ _ h2, h3, h4⟩
theorem lam_mk {K : PySem.W.Frag} {x : Str} {f c P : Addr} {oc : Value} {od od' : Option Addr} {osl osl' : Array (Option Value)} {fd : FuncData} {vs : Array Value} {file : Str} {tf tg tt : Tok} {flags text : Int} {inF : Bool} (e1 : PySem.W.nsIn K mainGlobals x = some (some (.ref f))) (e2 : K.lookup f = some ⟨oc, od, .func fd, osl⟩)
    (e3 : fd.code = .ref c) (e4 : K.lookup c = some ⟨.type "code", od', .fields vs, osl'⟩) (e5 : vs[11]? = some (.ref P)) (e6 : vs.getD 11 .none = .ref P) (e7 : vs.getD 18 .none = .str file tf) (e8 : vs.getD 7 .none = .int flags tg) (e9 : vs.getD 9 .none = .bool inF) (e10 : vs.getD 10 .none = .int text tt) (e11 : (c == P) = false) : LamK K x :=
  ⟨c, P, tab_yes e1 e2 e3 e4 e5, _, vs, file, tf, flags, tg, inF, text, tt, e4, rfl, rfl, e5, e6, e7, e8, e9, e10, fun z => by rw [z] at e11; simp at e11⟩
theorem among_snoc {pos : Pos} {a b : Int} {c cv : Value} (l : List Value) (h : TriplesOk l) (e : codeAmong pos (l ++ [rawInt a, rawInt b, c]) = some cv) : codeAmong pos l = some cv ∨ cv = c := by
  fun_induction TriplesOk l with
  | case1 =>
    simp only [List.nil_append, rawInt, codeAmong] at e
    split at e
    · cases e; exact .inr rfl
    · cases e
  | case2 a' t b' u x rest ih =>
    simp only [List.cons_append, codeAmong] at e ⊢
    split at e
    · rename_i hc; rw [if_pos hc]; exact .inl e
    · rename_i hc; rw [if_neg hc]; exact ih h e
  | case3 l h1 h2 => exact h.elim
section
variable {X : Cx} {pins : List (Addr × Obj)} {σ : St} {H : Hp} {s : Shared}
theorem lam_make {x : Str} {params : Arguments} {body : Expr} {scope : Scope} {pos : Pos} {cl : List (Str × Addr)} {Q : Value → Shared → Prop} {E : Value → Shared → Prop}
    (hx : x ∈ lamNames) (L : LamK X.K x) (hc : ∀ c P, tabIn X.K x = some (c, P) → X.env.code = .ref c) (hq : X.env.qual ++ "<lambda>" = lamQ x) (hdef : defaultsOf params X.env = ([], [])) (hcl : closureFor scope X.env = pure cl)
    (I : Inv X pins σ H s) (tb : Tb X.K H) (k : ∀ f H' s', Inv X pins σ H' s' → Same H H' → LamV H' f (lamQ x) params body scope cl → Q (.ref f) s') :
    wpAny (model X.prog X.w) X.A (eval (.Lambda params body scope pos) X.env) Q E s := by
  refine kla_eval hdef ?_
  rw [hq]
  obtain ⟨c, P, ht, o, vs, file, tf, flags, tg, inF, text, tt, lk, ck⟩ := L
  have hcode := hc c P ht
  have hP := tb x hx c P ht
  obtain ⟨ps, e, tr, co⟩ := I.hok P _ hP
  have C : CodeHd s.heap c P := ⟨o, vs, file, tf, flags, tg, inF, text, tt, I.kIn c o lk, ck⟩
  have hg : s.heap.Ns mainGlobals X.mg := I.mod.glob.keeps I.bk
  have nP : ∀ b, H b = none → b ≠ P := fun b n z => by rw [z, hP] at n; cases n
  have hgP : mainGlobals ≠ P := by
    obtain ⟨og, _, _, eg, _⟩ := I.mod.glob
    exact nP _ (I.bs _ _ eg).2
  have hb : s.heap.BuiltinsAt X.mg P := by
    obtain ⟨bm, ob, b1, b2, b3, b4, b5, b6⟩ := I.mod.bmain
    refine ⟨bm, ob, b1, b2, fun z => ?_, nP _ (I.bs _ _ b3).2, I.bk _ _ b3, b4, b5, b6⟩
    obtain ⟨og, es, ep, eg, dg, _⟩ := I.mod.glob
    rw [z, eg] at b3; cases b3
    rw [dg] at b6; cases b6
  cases hf : codeAmong pos ps.toList with
  | some cv =>
    obtain ⟨c', oc, u, ws, t, rfl, hH, hd, hv⟩ := co pos cv hf
    refine kla_makeFunctionHit (mg := X.mg) hcl I.ok.glob hg hcode C e tr hf hb fun ctv h' tk hk hsz => ?_
    have hn : H h'.objs.size = none := I.hok.fresh hsz
    have sm : Same H (upd H h'.objs.size (.frz (kla_obj "<lambda>" (lamQ x) params body scope cl ((X.mg "__name__").getD .none) c' ctv) (.own h'.objs.size))) := fun b u q => by rw [upd_ne (ne_of_none q hn)]; exact q
    refine k _ _ _ (I.laid (t' := tk) (fun b u q => Heap.get?_push_of_some _ (hk b u q)) hsz (show ObjOk X.prog X.w _ _ _ (.frz _ (.own h'.objs.size)) from ⟨Heap.get?_push_size _ rfl, _, Heap.get?_push_size _ rfl⟩)) sm ?_
    exact ⟨_, c', ctv, _, oc, u, ws, t, upd_same, sm _ _ hH, hd, hv⟩
  | none =>
    refine kla_makeFunction (mg := X.mg) hcl I.ok.glob hg hcode C e tr hf hgP hb fun c' ctv h' tk hx' hge hlt hrec htb => ?_
    obtain ⟨c2, oc, ws, t, e2, hoc, hd, hv⟩ := hrec
    cases e2
    have hnc : H c' = none := I.hok.fresh hge
    have hsz : s.heap.objs.size ≤ h'.objs.size := Nat.le_trans hge (Nat.le_of_lt hlt)
    have hnf : H h'.objs.size = none := I.hok.fresh hsz
    have ncf : c' ≠ h'.objs.size := Nat.ne_of_lt hlt
    let fo : Obj := kla_obj "<lambda>" (lamQ x) params body scope cl ((X.mg "__name__").getD .none) c' ctv
    let H1 : Hp := upd (upd H c' (.frz oc (.own c'))) h'.objs.size (.frz fo (.own h'.objs.size))
    have sm : Same H H1 := fun b u q => by
      show upd _ _ _ b = _
      rw [upd_ne (ne_of_none q hnf), upd_ne (ne_of_none q hnc)]; exact q
    have H1c : H1 c' = some (.frz oc (.own c')) := by show upd _ _ _ c' = _; rw [upd_ne ncf, upd_same]
    have keep : ∀ b u, b ≠ P → s.heap.get? b = some u → (h'.push fo).get? b = some u := fun b u n q => Heap.get?_push_of_some _ (hx' b u n q)
    have lt : ∀ b u, s.heap.get? b = some u → b ≠ c' ∧ b ≠ h'.objs.size := fun b u q => ⟨Nat.ne_of_lt (Nat.lt_of_lt_of_le (Heap.lt_size q) hge), Nat.ne_of_lt (Nat.lt_of_lt_of_le (Heap.lt_size q) hsz)⟩
    have htb' : (h'.push fo).get? P = some (tabObj (ps ++ #[rawInt pos.line, rawInt pos.col, .ref c'])) := Heap.get?_push_of_some _ htb
    refine k _ H1 _ (I.un (t' := tk) (h' := h'.push fo) ⟨fun b u q n _ _ => keep b u (nP b n) q, fun b u q n _ _ => ⟨u.slots, keep b u (nP b n) q⟩, fun b u q n _ => ?_, fun b u q _ => ?_, fun b xs q => sm _ _ q, fun b ob u q => sm _ _ q, fun b u q => sm _ _ q⟩ fun b u q => ?_) sm ⟨_, c', ctv, _, oc, _, ws, t, upd_same, H1c, hd, hv⟩
    · show upd _ _ _ b = _
      rw [upd_ne (lt b u q).2, upd_ne (lt b u q).1]; exact n
    · by_cases z : b = P
      · subst z; exact ⟨_, htb'⟩
      · exact ⟨u, keep b u z q⟩
    · by_cases z1 : b = h'.objs.size
      · subst z1
        have q' : some (HO.frz fo (.own h'.objs.size)) = some u := by rw [← q]; exact upd_same.symm
        cases q'
        exact ⟨Heap.get?_push_size _ rfl, _, Heap.get?_push_size _ rfl⟩
      · by_cases z2 : b = c'
        · subst z2
          rw [H1c] at q; cases q
          exact ⟨Heap.get?_push_of_some _ hoc, _, Heap.get?_push_of_some _ hoc⟩
        · have q' : H b = some u := by
            have : H1 b = H b := by show upd _ _ _ b = _; rw [upd_ne z1, upd_ne z2]
            rw [← this]; exact q
          by_cases z3 : b = P
          · subst z3
            rw [hP] at q'; cases q'
            refine ⟨_, htb', ?_, fun pos' cv' ea => ?_⟩
            · rw [Array.toList_append]; exact TriplesOk_snoc _ _ _ _ tr
            · rw [Array.toList_append] at ea
              rcases among_snoc _ tr ea with ea | rfl
              · obtain ⟨c3, oc3, u3, vs3, t3, y1, y2, y3⟩ := co pos' cv' ea
                exact ⟨c3, oc3, u3, vs3, t3, y1, sm _ _ y2, y3⟩
              · exact ⟨c', oc, _, ws, t, rfl, H1c, hd, hv⟩
          · refine (I.hok b u q').stay (fun d v hd' r => keep d v ?_ r) (fun d r => sm _ _ r) (fun d xs r => sm _ _ r) fun d ob v r => sm _ _ r
            rcases hd' with rfl | r
            · exact z3
            · intro z; rw [z, hP] at r; cases r
end
section
variable {P : Program} {w : World} {K : PySem.W.Frag} {mg : Str → Option Value} {base : Heap}
theorem Def.fnL {x : Str} {st : Stmt} {N ps : List Str} {k : Nat} {g : FS} {h : Heap} (F : Def K x st) (X : K.In h) (G : h.Ns mainGlobals mg) (S : FnScope N ps (defScope st))
    (hbd : ∀ (kV doc pm : Value) (an : Option Addr) (cdv ct : Value) (us : List Value), us.length = ps.length → bindArgs (PySem.W.fnOf x x (defArgs st) (defBody st) (defScope st) .none kV doc pm an cdv ct) ⟨us, []⟩ = pure (ps.zip us))
    (hb : ∀ (f : Addr) (cdv : Value) (A : Around) (outer : List PySem.Env) (s : Shared) (H : Hp) (E : XK), (∀ c P, tabIn K x = some (c, P) → cdv = .ref c) → Room k (A.deeper (envOfC x (defScope st) s.heap.objs.size f cdv)) → JSs (cxOf CX0 P w K mg base N x (defScope st) f cdv A outer s H E).nox (defBody st) g) :
    Fn P w K mg base (k + 1) x (bodyF g ps.length (N.length - ps.length)) := by
  obtain ⟨f, fd, F1, a⟩ := F
  have F2 := F1
  obtain ⟨oc, od, kV, doc, pm, an, cdv, ct, osl, rfl, lk, hcd⟩ := F2.ex
  have hc : ∀ c P, tabIn K x = some (c, P) → cdv = .ref c := fun c P e => by
    unfold tabIn at e
    simp only [a, lk] at e
    split at e
    · rename_i c' _
      split at e
      · split at e
        · cases e; rfl
        · cases e
      · cases e
    · cases e
  have len : ∀ vs H Q E, spD K (bodyF g ps.length (N.length - ps.length)) vs H Q E → vs.length = ps.length := fun vs H Q E h => by
    obtain ⟨B, ds, d, b, sB, i, e, q⟩ := h
    unfold bodyF at e
    split at e
    · rename_i hl; rw [i.length]; exact hl
    · cases e
  refine ⟨f, _, ps, fn_of lk hcd S len fun A outer s H vs Q E hr h => ⟨_, PSs.nox (hb f cdv A outer s H E hc hr), ?_⟩, PySem.W.mg_of X G a, F1.kp, F1.binds hbd⟩
  have hlen := len vs H Q E h
  obtain ⟨B, ds, d, b, sB, i, e, q⟩ := h
  unfold bodyF at e
  rw [if_pos (by rw [← i.length]; exact hlen)] at e
  have s0 := start_ok (N := N) sB.1 sB.2 i
  rw [hlen] at s0
  split at e
  · rename_i d' b' eg
    cases e
    exact ⟨B, H, _, _, ⟨B, s0⟩, eg, fun v H' N' x' i' f' => q v H' N' x' i' f'⟩
  · rename_i ρ' eg
    cases e
    exact ⟨B, H, _, _, ⟨B, s0⟩, eg, fun σ' H' ⟨N', s'⟩ => q .non H' N' s'.ext .non (by simp)⟩
  · cases e
end
inductive LCaps (X : Cx) (N' : List Str) (scope : Scope) (cl : List (Str × Addr)) : Nat → List Nat → Prop where
  | nil {j : Nat} (h : N'.length = j) : LCaps X N' scope cl j []
  | cons {j i : Nat} {r : List Nat} {x : Str} (h1 : N'[j]? = some x) (h2 : X.N[i]? = some x) (h3 : X.env.kindOf x = some .cell ∨ X.env.kindOf x = some .free)
      (h4 : scope.names.lookup x = some .free) (h5 : cl.lookup x = X.env.cells.lookup x) (t : LCaps X N' scope cl (j + 1) r) : LCaps X N' scope cl j (i :: r)
theorem LCaps.len {X : Cx} {N' : List Str} {scope : Scope} {cl : List (Str × Addr)} : ∀ {j : Nat} {cap : List Nat}, LCaps X N' scope cl j cap → N'.length = j + cap.length
  | _, _, .nil h => by rw [h]; rfl
  | j, i :: r, .cons _ _ _ _ _ t => by rw [t.len, List.length_cons]; omega
theorem LCaps.get {X : Cx} {N' : List Str} {scope : Scope} {cl : List (Str × Addr)} : ∀ {j : Nat} {cap : List Nat} {k i : Nat}, LCaps X N' scope cl j cap → cap[k]? = some i → ∃ x, N'[j + k]? = some x ∧ X.N[i]? = some x ∧ (X.env.kindOf x = some .cell ∨ X.env.kindOf x = some .free) ∧
    scope.names.lookup x = some .free ∧ cl.lookup x = X.env.cells.lookup x
  | _, _, _, _, .nil _, e => by simp at e
  | j, _, 0, _, .cons h1 h2 h3 h4 h5 _, e => by simp at e; subst e; exact ⟨_, h1, h2, h3, h4, h5⟩
  | j, _, k + 1, i, .cons _ _ _ _ _ t, e => by
    obtain ⟨x, q, r⟩ := t.get (k := k) (i := i) (by simpa using e)
    exact ⟨x, by rw [show j + (k + 1) = j + 1 + k by omega]; exact q, r⟩
abbrev cxLam (X : Cx) (N' : List Str) (scope : Scope) (cl : List (Str × Addr)) (q : Str) (A : Around) (f c : Addr) (s : Shared) (H : Hp) : Cx :=
  { X with A := A.deeper (envX q scope s.heap.objs.size f (.ref c) cl), N := N', s₀ := s, H₀ := H, env := envX q scope s.heap.objs.size f (.ref c) cl, outer := X.stack, stack := envX q scope s.heap.objs.size f (.ref c) cl :: X.stack, ex := [], fn := fun _ => false, calm := true, pn := [], xe := fun _ _ => False }
structure LamSc (X : Cx) (scope : Scope) (cl : List (Str × Addr)) (y : Str) : Prop where
  clos : closureFor scope X.env = pure cl
  nocell : ∀ z ∈ scope.names, z.2 ≠ .cell
  kind : scope.kind = .function
  co : scope.isCoroutine = false
  gen : scope.isGenerator = false
  par : scope.names.lookup y = some .local
  sub : ∀ x c, cl.lookup x = some c → X.env.cells.lookup x = some c
  has : ∀ x, scope.names.lookup x = some .free → ∃ c, cl.lookup x = some c
theorem lamSc {X : Cx} {scope : Scope} {y : Str} (h1 : ∀ z ∈ scope.names, z.2 ≠ .cell) (h2 : scope.kind = .function) (h3 : scope.isCoroutine = false) (h3' : scope.isGenerator = false) (hp : scope.names.lookup y = some .local)
    (h4' : (scope.names.all fun z => !(z.2 == NameKind.free) || (X.env.cells.lookup z.1).isSome) = true) : LamSc X scope (clOf scope.names X.env.cells []) y := by
  have h4 : ∀ z ∈ scope.names, z.2 = .free → (X.env.cells.lookup z.1).isSome = true := fun z hz e => by
    have := List.all_eq_true.mp h4' z hz
    rw [e] at this
    simpa using this
  exact ⟨clOf_clos scope.names [] h4, h1, h2, h3, h3', hp, fun x c e => clOf_sub scope.names [] (fun y d q => by cases q) e, fun x h => by
    have := clOf_has (x := x) scope.names [] (lookup_mem h) (h4 _ (lookup_mem h) rfl)
    exact Option.isSome_iff_exists.mp this⟩
section
variable {X : Cx} {pins : List (Addr × Obj)} {σ : St} {H : Hp} {s : Shared} {A : Around} {N' : List Str} {scope : Scope} {cl : List (Str × Addr)} {q y : Str} {cap : List Nat}
theorem inv_lam {f c : Addr} {v : V} {u : Value} {h₁ : Heap} {tk : Nat} (S : LamSc X scope cl y) (N0 : N'[0]? = some y) (cp : LCaps X N' scope cl 1 cap) (I : Inv X pins σ H s) (hA : A.frames = some X.stack) (hh : A.handled = none) (r : RelV v u)
    (hns : h₁.Ns s.heap.objs.size (fun x => [(y, u)].reverse.lookup x)) (hk : ∀ b o, s.heap.get? b = some o → h₁.get? b = some o) :
    Inv (cxLam X N' scope cl q A f c s H) [] (some v :: capS 0 cap σ) H { s with heap := h₁, toks := tk } := by
  have noA : ∀ b : Addr, b ∉ (cxLam X N' scope cl q A f c s H).ex := fun b z => absurd (show b ∈ ([] : List Addr) from z) (by simp)
  refine ⟨⟨I.ok.mod, S.kind, rfl, rfl, Nat.le_refl _, fun x z d e1 e2 => I.ok.inj x z d (S.sub _ _ e1) (S.sub _ _ e2), fun x hx => ?_, (fun x d e => by cases e), fun _ => hh, Around.frames_deeper hA, .inr ⟨rfl, rfl⟩, fun b z => absurd z (noA b), I.bs, Nat.le_trans I.ok.bsz I.sz, fun b _ _ => noA b, fun b z => absurd z (noA b), I.stack, I.stkFree⟩,
    rfl, I.bare, Un.kept hk, ⟨_, hns, fun i x v' e1 e2 e3 => ?_⟩, fun x d e => ?_, I.hok.fresh (Nat.le_refl _), fun x d e => I.freeC x d (S.sub _ _ e), fun p hp => absurd (show p ∈ ([] : List (Addr × Obj)) from hp) (by simp), I.hok.kept hk, ?_⟩
  · have hx' : scope.names.lookup x = some .cell ∨ scope.names.lookup x = some .free := hx
    rcases hx' with hx' | hx'
    · exact absurd rfl (S.nocell _ (lookup_mem hx'))
    · exact S.has x hx'
  · cases i with
    | zero =>
      have e1' : N'[0]? = some x := e1
      rw [N0] at e1'; cases e1'
      have e2' : some v = some v' := by simpa using e2
      cases e2'
      exact ⟨u, r, .inl ⟨S.par, by simp⟩⟩
    | succ k =>
      have e2' : (capS 0 cap σ)[k]? = some (some v') := by simpa using e2
      obtain ⟨k', i', hk', g1, g2⟩ := cap_get e2'
      have : k = k' := by omega
      subst this
      obtain ⟨x', n1, n2, n3, n4, n5⟩ := cp.get g1
      have : x' = x := by
        have e1' : N'[k + 1]? = some x := e1
        rw [show 1 + k = k + 1 by omega] at n1
        rw [n1] at e1'; exact Option.some.inj e1'
      subst this
      have g2' : σ[i']? = some (some v') := by
        cases z : σ[i']? with
        | none => rw [z] at g2; cases g2
        | some w => rw [z] at g2; cases w with
          | none => cases g2
          | some w => cases g2; rfl
      obtain ⟨m, _, hl⟩ := I.loc
      obtain ⟨u', ru, lk⟩ := hl i' x' v' n2 g2' (by
        rcases n3 with n3 | n3
        · exact .inr (.inl n3)
        · exact .inr (.inr n3))
      refine ⟨u', ru, .inr ⟨.inr n4, ?_⟩⟩
      rcases lk with ⟨l1, _⟩ | ⟨_, d, l2, l3⟩
      · rcases n3 with n3 | n3 <;> (rw [l1] at n3; cases n3)
      · obtain ⟨ob, ho, hd⟩ := l3
        exact ⟨d, by show cl.lookup x' = _; rw [n5]; exact l2, ob, hk _ _ ho, hd⟩
  · obtain ⟨w, ob, ho, hd⟩ := I.cell x d (S.sub _ _ e)
    exact ⟨w, ob, hk _ _ ho, hd⟩
  · have := cp.len
    show (some v :: capS 0 cap σ).length = N'.length
    unfold capS
    rw [this]; simp; omega
theorem lam_run {f : Addr} {params : Arguments} {body : Expr} {fb : FE} {B : Hp} {ρ : Env} {v : V} {u : Value} {d d' : D} {b' : Bool} {Q : VK} (S : LamSc X scope cl y) (N0 : N'[0]? = some y) (cp : LCaps X N' scope cl 1 cap) (I : Inv X pins σ H s)
    (hA : A.frames = some X.stack) (hh : A.handled = none) (hroom : A.depth < recursionLimit) (lv : LamV H f q params body scope cl)
    (hbind : ∀ pm c ctv u, bindArgs (kla_fn "<lambda>" q params body scope cl pm (.ref c) ctv) ⟨[u], []⟩ = pure [(y, u)])
    (hb : ∀ (f c : Addr) (s : Shared) (H : Hp), JE (cxLam X N' scope cl q A f c s H) body fb)
    (rep : RepE X.K B σ ρ) (sB : Same B H) (r : RelV v u) (i : Is X.K B v d) (e : fb (some (d, false) :: capE 0 cap ρ) = some (d', b')) (qf : Fin X.K B H d' b' Q) :
    wpAny (model X.prog X.w) A (call (.ref f) [u]) (EP X pins σ Q) (fun _ _ => False) s := by
  obtain ⟨pm, c, ctv, uf, oc, u', ws, t, hf, hc, hd, hv⟩ := lv
  have ho := (I.hok f _ hf).1
  have hoc := (I.hok c _ hc).1
  refine wpAny_call (codeAny_mono (R := fun r s' => CR CX0 X.stack X.prog X.w H s Q (fun _ _ _ => False) r s') ?_ fun r s' hq => ?_)
  · refine kla_callFunE hroom ho rfl S.co S.gen rfl ⟨c, oc, ws, t, rfl, hoc, hd, hv⟩ ?_
    rw [hbind]
    refine wpAny_pure (wpAny_newFunctionEnv S.nocell (fun z hz => by rw [List.mem_singleton.mp hz]; exact S.par) (fun h₁ hns hsb => ⟨I.nolimit.fresh _ hsb, ?_⟩) S.kind)
    have hk₁ : ∀ b o, s.heap.get? b = some o → h₁.get? b = some o := fun b o e => hsb.extBut b o (Nat.ne_of_lt (Heap.lt_size e)) (Heap.get?_push_of_some _ e)
    have J := inv_lam (f := f) (c := c) (q := q) (tk := s.toks + 1) S N0 cp I hA hh r hns hk₁
    refine kla_codeExpr (wpAny_mono (hb f c s H [] _ _ H Q J ⟨B, _, d', b', sB, ⟨rep.tb, fun j e0 b0 z => ?_⟩, e, qf⟩) (fun w s' hw => ?_) fun _ _ z => z.elim)
    · cases j with
      | zero => 
        have z' : some (d, false) = some (e0, b0) := by simpa using z
        cases z'
        exact ⟨v, rfl, i⟩
      | succ j =>
        obtain ⟨w, h1, h2⟩ := (rep.caps (nT := 0) (cap := cap)).at' j e0 b0 (by simpa using z)
        exact ⟨w, by simpa using h1, h2⟩
    · obtain ⟨v', H', J', rv, qv⟩ := hw
      exact ⟨v', H', J'.os, J'.bare, J'.base, J'.hok, rv, qv⟩
  · cases r with
    | error e => exact False.elim hq
    | ok fl =>
      cases fl with
      | ret w => exact I.after hq
      | next => exact False.elim hq
      | brk => exact False.elim hq
      | cont => exact False.elim hq
end
end DL
namespace DL
open PySem PySem.Spec PySem.W PyProof.Rows L2
section
variable {X : Cx} {pins : List (Addr × Obj)} {σ : St} {H : Hp} {s : Shared} {h' : Heap} {t' : Nat}
theorem pin_cells {p : Addr} {o : Obj} (I : Inv X ((p, o) :: pins) σ H s) : ∀ x c, X.env.cells.lookup x = some c → c ≠ p := fun x c e z => by
  have pf := I.pin (p, o) (List.mem_append_right _ List.mem_cons_self)
  obtain ⟨v, ob, ho, hd⟩ := I.cell x c e
  rw [z, pf.1] at ho; cases ho
  exact pf.2.2.2.2 v hd
theorem pin_drop {p : Addr × Obj} (I : Inv X (p :: pins) σ H s) : Inv X pins σ H s := I.pins_of fun q hq => I.pin q (List.mem_append_right _ (List.mem_cons_of_mem _ hq))
theorem pin_turn {p : Addr} {o o' : Obj} (I : Inv X ((p, o) :: pins) σ H s) (h0 : X.s₀.heap.objs.size ≤ p) (hp : ∀ q ∈ X.pn ++ pins, q.1 ≠ p) (k : ∀ b u, b ≠ p → s.heap.get? b = some u → h'.get? b = some u) (e' : h'.get? p = some o') (nc : ∀ v, o'.data ≠ .cell v) :
    Inv X ((p, o') :: pins) σ H { s with heap := h', toks := t' } := by
  have pf := I.pin (p, o) (List.mem_append_right _ List.mem_cons_self)
  have J := (pin_drop I).turned (t' := t') k pf.2.1 pf.2.2.1 (.inr h0) (pin_cells I) hp
  refine J.pins_of fun q hq => ?_
  rcases List.mem_cons.mp hq with rfl | hq
  · exact ⟨e', pf.2.1, pf.2.2.1, pf.2.2.2.1, nc⟩
  · exact J.pin q (List.mem_append_right _ hq)
theorem pin_new {p : Addr} {o : Obj} (I : Inv X pins σ H s) (k : ∀ b u, s.heap.get? b = some u → h'.get? b = some u) (hs : s.heap.objs.size ≤ p) (e' : h'.get? p = some o) (nc : ∀ v, o.data ≠ .cell v) : Inv X ((p, o) :: pins) σ H { s with heap := h', toks := t' } := by
  have J := I.kept (t' := t') k
  refine J.pins_of fun q hq => ?_
  rcases List.mem_cons.mp hq with rfl | hq
  · exact ⟨e', I.hok.fresh hs, Nat.ne_of_gt (Nat.lt_of_lt_of_le I.lt hs), I.nofs hs, nc⟩
  · exact J.pin q (List.mem_append_right _ hq)
theorem pin_lay {p : Addr} {o : Obj} {ob : HO} (I : Inv X ((p, o) :: pins) σ H s) (h0 : X.s₀.heap.objs.size ≤ p) (hp : ∀ q ∈ X.pn ++ pins, q.1 ≠ p) (k : ∀ b u, b ≠ p → s.heap.get? b = some u → h'.get? b = some u) (eo : ∃ u, h'.get? p = some u)
    (new : ObjOk X.prog X.w (upd H p ob) h' p ob) : Inv X pins σ (upd H p ob) { s with heap := h', toks := t' } := by
  have pf := I.pin (p, o) (List.mem_append_right _ List.mem_cons_self)
  have hn := pf.2.1
  have hn : H p = none := hn
  have cs := pin_cells I
  refine (pin_drop I).step (g' := s.gens) (d' := s.drawn) (ch := [p]) (fun b hb => ?_) (fun b u _ _ hc e _ => k b u (fun z => hc (by simp [z])) e) (fun b u _ _ hc e _ => ⟨u.slots, k b u (fun z => hc (by simp [z])) e⟩) (fun b u hc _ n => by rw [upd_ne (fun z => hc (by simp [z]))]; exact n)
    (fun b u hc e => ⟨u, k b u (fun z => hc (by simp [z])) e⟩) (fun b xs e => by rw [upd_ne (ne_of_none e hn)]; exact e) (fun b u w e => by rw [upd_ne (ne_of_none e hn)]; exact e) (fun b q e => by rw [upd_ne (ne_of_none e hn)]; exact e) (fun m hm => ?_) (fun b u e => ?_) I.bare
  · have z : b = p := by simpa using hb
    subst z
    exact ⟨.inr h0, pf.2.2.1, cs, hp⟩
  · obtain ⟨ol, es, ep, ho, r⟩ := hm
    exact ⟨ol, es, ep, k _ ol (fun z => pf.2.2.1 z.symm) ho, r⟩
  · by_cases z : b = p
    · subst z; rw [upd_same] at e; cases e; exact new
    · rw [upd_ne z] at e
      refine (I.hok b u e).stay (fun c v hc q => k c v ?_ q) (fun c q => ?_) (fun c xs q => ?_) fun c w xs q => ?_
      · rcases hc with rfl | hc
        · exact z
        · exact ne_of_none hc hn
      · rw [upd_ne (ne_of_none q hn)]; exact q
      · rw [upd_ne (ne_of_none q hn)]; exact q
      · rw [upd_ne (ne_of_none q hn)]; exact q
end
def KeyFn (X : Cx) (A : Around) (σ : St) (qv : Value) (B H1 : Hp) (kf : D → Option D) : Prop :=
  ∀ (pins : List (Addr × Obj)) (s : Shared) (H N : Hp) (v : V) (u : Value) (d d' : D), Inv X pins σ H s → Same H1 H → Same B N → Same N H → Is X.K N v d → RelV v u → kf d = some d' →
    wpAny (model X.prog X.w) A (call qv [u]) (EP X pins σ fun v' H' => ∃ N', Ext N N' H H' ∧ Is X.K N' v' d') (fun _ _ => False) s
def JK (X : Cx) (A : Around) (e : Expr) (kf : Env → D → Option D) : Prop := ∀ (pins : List (Addr × Obj)) (s : Shared) (σ : St) (H B : Hp) (ρ : Env) (Q : Value → Shared → Prop) (E : Value → Shared → Prop), Inv X pins σ H s → Same B H → RepE X.K B σ ρ →
  (∀ qa H1 s1, Inv X pins σ H1 s1 → Same H H1 → KeyFn X A σ (.ref qa) B H1 (kf ρ) → Q (.ref qa) s1) → wpAny (model X.prog X.w) X.A (eval e X.env) Q E s
section
variable {X : Cx} {A : Around}
@[simp] def keyL (cap : List Nat) (fb : FE) : Env → D → Option D := fun ρ d => (fb (some (d, false) :: capE 0 cap ρ)).map (·.1)
theorem jk_lam {x y : Str} {params : Arguments} {body : Expr} {scope : Scope} {pos : Pos} {N' : List Str} {cap : List Nat} {fb : FE} (hx : x ∈ lamNames) (L : LamK X.K x) (hc : ∀ c P, tabIn X.K x = some (c, P) → X.env.code = .ref c) (hq : X.env.qual ++ "<lambda>" = lamQ x)
    (hdef : defaultsOf params X.env = ([], [])) (S : LamSc X scope (clOf scope.names X.env.cells []) y) (N0 : N'[0]? = some y) (cp : LCaps X N' scope (clOf scope.names X.env.cells []) 1 cap) {k : Nat} (hA : A.frames = X.A.frames) (hr : Room (k + 1) A)
    (hbind : ∀ pm c ctv u, bindArgs (kla_fn "<lambda>" (lamQ x) params body scope (clOf scope.names X.env.cells []) pm (.ref c) ctv) ⟨[u], []⟩ = pure [(y, u)])
    (hb : ∀ (f c : Addr) (s : Shared) (H : Hp), Room k (cxLam X N' scope (clOf scope.names X.env.cells []) (lamQ x) A f c s H).A → JE (cxLam X N' scope (clOf scope.names X.env.cells []) (lamQ x) A f c s H) body fb) : JK X A (.Lambda params body scope pos) (keyL cap fb) := by
  intro pins s σ H B ρ Q E I sB rep kk
  refine lam_make hx L hc hq hdef S.clos I (rep.tb.mono sB) fun f H1 s1 I1 sm lv => kk f H1 s1 I1 sm ?_
  intro pins' s' H' N v u d d' I' m1 m2 m3 iv r e
  simp only [keyL] at e
  obtain ⟨⟨d2, b2⟩, e1, e2⟩ := Option.map_eq_some_iff.mp e
  cases e2
  exact lam_run S N0 cp I' (hA.trans I'.ok.frames) hr.hd hr.depth (lv.mono m1) hbind (fun f c s H => hb f c s H (hr.deeper _)) (rep.mono m2) m3 r iv e1 fun v' H2 N2 x2 i2 _ => ⟨N2, x2, i2⟩
@[simp] def keyF (g : List D → Option (D × Bool)) : Env → D → Option D := fun _ d => (g [d]).map (·.1)
theorem jk_fn {k : Nat} {x : Str} {g : List D → Option (D × Bool)} {p : Pos} (F : Fn X.prog X.w X.K X.mg X.base k x g) (hr : Room k A) (hA : A.frames = X.A.frames) (hg : Gl X x := by rfl) (hdb : (x == ("__debug__" : Str)) = false := by decide) : JK X A (.Name x p) (keyF g) := by
  intro pins s σ H B ρ Q E I sB rep kk
  obtain ⟨ad, fd, ps, F1, hm, hk, hb⟩ := F.ex
  refine ld_glob I hg hm ?_ hdb
  refine kk ad H s I (.refl H) ?_
  intro pins' s' H' N v u d d' I' m1 m2 m3 iv r e
  simp only [keyF] at e
  obtain ⟨⟨d2, b2⟩, e1, e2⟩ := Option.map_eq_some_iff.mp e
  cases e2
  have sp : spD X.K g [v] H' (fun v' H2 => ∃ N', Ext N N' H' H2 ∧ Is X.K N' v' d2) (fun _ _ _ => False) := ⟨N, [d], d2, b2, ⟨m3, rep.tb.mono m2⟩, .cons iv .nil, e1, fun v' H2 N2 x2 i2 _ => ⟨N2, x2, i2⟩⟩
  have hl : [u].length = ps.length := by have := F1.len _ _ _ _ sp; simpa using this
  have e0 := I'.env0
  have bb := hb s' [u] I'.kIn (by simpa using hl)
  rw [List.append_nil] at bb
  refine wpAny_call (codeAny_mono (F1.run A X.stack s' H' ⟨[u], []⟩ [u] [v] _ (fun _ _ _ => False) hr ⟨hA.trans e0.frames, e0.mod, e0.bs, e0.bsz, e0.funs, e0.frf, e0.hok, e0.bare⟩ bb (.cons r .nil) sp) fun r s' hq => ?_)
  cases r with
  | error e => exact False.elim hq
  | ok fl =>
    cases fl with
    | ret w => exact I'.after hq
    | next => exact False.elim hq
    | brk => exact False.elim hq
    | cont => exact False.elim hq
end
def mapO (f : D → Option D) : List D → Option (List D)
  | [] => some []
  | d :: ds => (f d).bind fun x => (mapO f ds).map (x :: ·)
theorem mapO_len {f : D → Option D} : ∀ {ds ks : List D}, mapO f ds = some ks → ks.length = ds.length
  | [], _, h => by simp only [mapO] at h; cases h; rfl
  | d :: ds, _, h => by
    simp only [mapO] at h
    obtain ⟨a, h1, h⟩ := Option.bind_eq_some_iff.mp h
    obtain ⟨r, h2, h⟩ := Option.map_eq_some_iff.mp h
    subst h
    simp [mapO_len h2]
theorem mapO_get {f : D → Option D} : ∀ {ds ks : List D}, mapO f ds = some ks → ∀ {i : Nat} {d : D}, ds[i]? = some d → ∃ k, ks[i]? = some k ∧ f d = some k
  | [], _, h, i, d, e => by simp at e
  | d :: ds, _, h, 0, e, q => by
    simp only [mapO] at h
    obtain ⟨a, h1, h⟩ := Option.bind_eq_some_iff.mp h
    obtain ⟨r, h2, h⟩ := Option.map_eq_some_iff.mp h
    subst h
    simp at q; subst q
    exact ⟨a, by simp, h1⟩
  | d :: ds, _, h, i + 1, e, q => by
    simp only [mapO] at h
    obtain ⟨a, h1, h⟩ := Option.bind_eq_some_iff.mp h
    obtain ⟨r, h2, h⟩ := Option.map_eq_some_iff.mp h
    subst h
    obtain ⟨k, z1, z2⟩ := mapO_get h2 (i := i) (d := e) (by simpa using q)
    exact ⟨k, by simpa using z1, z2⟩
section
variable {X : Cx} {pins : List (Addr × Obj)} {σ : St} {s : Shared}
theorem vals_snoc {x : V} {u : Value} (r : RelV x u) : ∀ {vs : List V} {us : List Value}, Vals vs us → Vals (vs ++ [x]) (us ++ [u])
  | _, _, .nil => .cons r .nil
  | _, _, .cons h t => .cons h (vals_snoc r t)
theorem nocell_seq {c : Value} {od : Option Addr} {its : Array Value} {n : Nat} {sl : Array (Option Value)} : ∀ v, (Obj.mk c od (.seq its n) sl).data ≠ .cell v := fun v z => by cases z
theorem keyed_sort {A : Around} {E : Value → Shared → Prop} {a : Addr} {n : Nat} {qv : Value} {its : List Value} {vs : List V} {ds kds : List D} {ks : List (List At)} {B H : Hp} {kf : D → Option D} {P : PySem.Fin → Shared → Prop}
    (I : Inv X ((a, seqObj "list" its.toArray n) :: pins) σ H s) (h0 : X.s₀.heap.objs.size ≤ a) (hp : ∀ q ∈ X.pn ++ pins, q.1 ≠ a) (kfn : KeyFn X A σ qv B H kf) (rv : Vals vs its) (iv : IsL X.K B vs ds) (sB : Same B H)
    (em : mapO kf ds = some kds) (ek : keysD kds = some ks) (hc : compA ks = true) (hf : firstsOk ks = true) (h64 : its.length < 64)
    (h : ∀ (p : Array Nat) (s' : Shared) (H' N : Hp), Arr its.length p → Up (rkK ks) p its.length → Inv X pins σ (upd H' a (.lst (p.toList.map fun i => vs.getD i .non))) s' → Ext B N H H' → H' a = none → P (.done (.ret .none)) s') :
    wpAny (model X.prog X.w) A (ksk_tree a qv false) P E s := by
  have pa := I.pin (a, seqObj "list" its.toArray n) (List.mem_append_right _ List.mem_cons_self)
  have hvl : vs.length = its.length := rv.length
  have hdl : ds.length = vs.length := iv.length.symm
  have hkd : kds.length = ds.length := mapO_len em
  have hks : ks.length = kds.length := keysD_len ek
  have hz : its.length ≤ sizeLine := by rw [sizeLine_eq]; omega
  have hna : H a = none := pa.2.1
  obtain ⟨e1, ho1⟩ : ∃ e1, (s.heap.update a (Obj.mapSeq fun _ => (#[] : Array Value))).get? a = some (seqObj "list" #[] e1) := ⟨_, get?_update_seq pa.1 fun _ => #[]⟩
  have u1 := Heap.SameBut.update s.heap a (Obj.mapSeq fun _ => (#[] : Array Value))
  have I1 : Inv X ((a, seqObj "list" #[] e1) :: pins) σ H { s with heap := s.heap.update a (Obj.mapSeq fun _ => (#[] : Array Value)) } := pin_turn (t' := s.toks) I h0 hp (fun b u n q => (u1.2 b n).trans q) ho1 nocell_seq
  let h2 : Heap := (s.heap.update a (Obj.mapSeq fun _ => (#[] : Array Value))).push (seqObj "tuple" its.toArray 0)
  have I2 : Inv X ((a, seqObj "list" #[] e1) :: pins) σ H { s with heap := h2 } := I1.kept (t' := s.toks) fun b u q => Heap.get?_push_of_some _ q
  let kS : Addr := h2.objs.size
  have I3 : Inv X ((kS, seqObj "list" #[] 0) :: (a, seqObj "list" #[] e1) :: pins) σ H { s with heap := h2.push (seqObj "list" #[] 0) } := pin_new (s := { s with heap := h2 }) (t' := s.toks) I2 (fun b u q => Heap.get?_push_of_some _ q) (Nat.le_refl _) (Heap.get?_push_size _ rfl) nocell_seq
  have k0 : X.s₀.heap.objs.size ≤ kS := I2.sz
  have kp : ∀ q ∈ X.pn ++ ((a, seqObj "list" #[] e1) :: pins), q.1 ≠ kS := fun q hq => Nat.ne_of_lt (Heap.lt_size (I2.pin q hq).1)
  have kna : kS ≠ a := fun z => kp (a, seqObj "list" #[] e1) (List.mem_append_right _ List.mem_cons_self) z.symm
  unfold ksk_tree
  refine wpAny_bind (listItems_at pa.1 rfl ?_)
  refine wpAny_bind (listUpdate_at pa.1 rfl ?_ (by simpa using hz) (Nat.zero_le _))
  refine wpAny_bind (seqEpoch_at ho1 rfl ?_)
  refine wpAny_bind (wpAny_newTuple ?_ (by show its.length ≤ sizeLine; exact hz))
  refine wpAny_bind (wpAny_newList ?_ (Nat.zero_le _))
  refine wpAny_holding ?_
  show wpAny (model X.prog X.w) A (ksk_rest a qv false its.toArray e1 (.ref kS)) P E { s with heap := h2.push (seqObj "list" #[] 0) }
  unfold ksk_rest
  refine wpAny_bind (wpAny_rule ?_)
  rw [List.forIn_toArray]
  refine wpAny_bind (ksk_fold (fun i s' => ∃ (H' N : Hp) (kA : Array Value) (e : Nat) (kvs : List V), Inv X ((kS, seqObj "list" kA e) :: (a, seqObj "list" #[] e1) :: pins) σ H' s' ∧ Ext B N H H' ∧ Vals kvs kA.toList ∧ IsL X.K N kvs (kds.take i)) its 0 _
    ⟨H, B, #[], 0, [], I3, .refl sB, .nil, by simpa using IsL.nil⟩ ?step ?done)
  case step =>
    rintro j u s' hu ⟨H', N, kA, e, kvs, J, x1, rk, ik⟩
    simp only [Nat.zero_add] at ik ⊢
    have hj : j < its.length := (List.getElem?_eq_some_iff.mp hu).1
    obtain ⟨d, hd⟩ : ∃ d, ds[j]? = some d := ⟨_, List.getElem?_eq_getElem (by omega)⟩
    obtain ⟨v, hv, iv'⟩ := iv.get hd
    obtain ⟨kd, hkj, hkf⟩ := mapO_get em hd
    obtain ⟨u', hu', ru⟩ := rv.get hv
    rw [hu] at hu'; cases hu'
    have kl : kA.size = j := by
      have z1 := rk.length
      have z2 := ik.length
      rw [List.length_take] at z2
      rw [Array.length_toList] at z1
      exact z1.symm.trans (z2.trans (Nat.min_eq_left (by omega)))
    refine wpAny_bind (wpAny_attempt (wpAny_mono (kfn _ s' H' N v u d kd J x1.hh x1.bn x1.nh (iv'.mono x1.bn) ru hkf) (fun w s'' hw => ?_) fun _ _ hF => hF.elim))
    obtain ⟨v', H'', J', rv', N', x2, i2⟩ := hw
    have pk := J'.pin (kS, seqObj "list" kA e) (List.mem_append_right _ List.mem_cons_self)
    obtain ⟨c2, hc2⟩ : ∃ c2, (s''.heap.update kS (Obj.mapSeq (·.push w))).get? kS = some (seqObj "list" (kA.push w) c2) := ⟨_, get?_update_seq pk.1 (·.push w)⟩
    have u2 := Heap.SameBut.update s''.heap kS (Obj.mapSeq (·.push w))
    refine wpAny_bind (listUpdate_at pk.1 rfl ?_ (by rw [sizeLine_eq]; omega) (Nat.le_trans (Nat.le_of_eq (Array.size_push ..)) (by rw [sizeLine_eq]; omega)))
    refine wpAny_pure ⟨rfl, H'', N', kA.push w, c2, kvs ++ [v'], pin_turn (t' := s''.toks) J' k0 kp (fun b q n z => (u2.2 b n).trans z) hc2 nocell_seq, x1.trans x2, ?_, ?_⟩
    · rw [Array.toList_push]; exact vals_snoc rv' rk
    · rw [List.take_add_one, hkj]; exact (ik.mono x2.bn).append (.cons i2 .nil)
  case done =>
    rintro s' ⟨H', N, kA, e, kvs, J, x1, rk, ik⟩
    have ik' : IsL X.K N kvs kds := by
      have z : kds.take (0 + its.length) = kds := List.take_of_length_le (by omega)
      rw [z] at ik; exact ik
    have pk := J.pin (kS, seqObj "list" kA e) (List.mem_append_right _ List.mem_cons_self)
    have pa' := J.pin (a, seqObj "list" #[] e1) (List.mem_append_right _ (List.mem_cons_of_mem _ List.mem_cons_self))
    have hn' : H' a = none := pa'.2.1
    have kz : kA.toList.length = its.length := by rw [← rk.length, ik'.length]; omega
    have kz' : kA.size = its.length := by rw [← Array.length_toList]; exact kz
    refine wpAny_bind (listItems_at pk.1 rfl ?_)
    have hkp : Paired (TupV s'.heap) ks kA.toList := tups_at J rk (ik'.mono x1.nh) ek
    -- the end of the sort, for a permutation p
    have ends : ∀ (st : SortSt) (p : Array Nat), arrOf st = p.map (kas_item (kA.toList.toArray.zip its.toArray)) → failedOf st = none → Arr its.length p → Up (rkK ks) p its.length →
        wpAny (model X.prog X.w) A (ksk_tail a false e1 (.ref kS) st) P E s' := fun st p ea ef ap up => by
      have eo : (arrOf st).map (·.2) = List.toArray (p.toList.map fun i => its.getD i Value.none) := kat_snds kz ea
      have hin : ∀ i ∈ p.toList, i < vs.length := fun i hi => by
        have := List.mem_range.mp (ap.perm.mem_iff.mp hi)
        omega
      obtain ⟨c3, hc3⟩ : ∃ c3, (s'.heap.update kS (Obj.mapSeq fun _ => (#[] : Array Value))).get? kS = some (seqObj "list" #[] c3) := ⟨_, get?_update_seq pk.1 fun _ => #[]⟩
      have u3 := Heap.SameBut.update s'.heap kS (Obj.mapSeq fun _ => (#[] : Array Value))
      have J3 := pin_drop (pin_turn (t' := s'.toks) J k0 kp (fun b q n z => (u3.2 b n).trans z) hc3 nocell_seq)
      have pa3 := J3.pin (a, seqObj "list" #[] e1) (List.mem_append_right _ List.mem_cons_self)
      obtain ⟨c4, hc4⟩ : ∃ c4, ((s'.heap.update kS (Obj.mapSeq fun _ => (#[] : Array Value))).update a (Obj.mapSeq fun _ => (arrOf st).map (·.2))).get? a = some (seqObj "list" ((arrOf st).map (·.2)) c4) := ⟨_, get?_update_seq pa3.1 fun _ => (arrOf st).map (·.2)⟩
      have u4 := Heap.SameBut.update (s'.heap.update kS (Obj.mapSeq fun _ => (#[] : Array Value))) a (Obj.mapSeq fun _ => (arrOf st).map (·.2))
      have so : ((arrOf st).map (·.2)).size = its.length := by rw [eo]; simp only [List.size_toArray, List.length_map, Array.length_toList, ap.size]
      unfold ksk_tail
      try dsimp only
      refine wpAny_bind (listUpdate_at pk.1 rfl ?_ (by rw [kz', sizeLine_eq]; omega) (Nat.zero_le _))
      refine wpAny_bind (wpAny_letGo ?_)
      refine wpAny_bind (seqEpoch_at pa3.1 rfl ?_)
      refine wpAny_bind (listUpdate_at pa3.1 rfl ?_ (Nat.zero_le _) (by simp only [Bool.false_eq_true, if_false]; rw [so, sizeLine_eq]; omega))
      rw [ef]
      simp only [bne_self_eq_false, Bool.false_eq_true, if_false]
      refine wpAny_pure (h p _ H' N ap up (pin_lay (s := { s' with heap := s'.heap.update kS (Obj.mapSeq fun _ => (#[] : Array Value)) }) (t' := s'.toks) J3 h0 hp (fun b q n z => (u4.2 b n).trans z) ⟨_, hc4⟩ ?_) x1 hn')
      refine ⟨by rw [List.length_map, Array.length_toList, ap.size]; exact hz, p.toList.map fun i => its.getD i Value.none, c4, vals_pick rv p.toList hin, ?_⟩
      rw [← eo]; exact hc4
    unfold ksk_end
    try dsimp only
    simp only [Bool.false_eq_true, if_false]
    have ekA : kA = kA.toList.toArray := by simp
    by_cases h2' : its.toArray.size < 2
    · rw [if_pos h2', if_pos h2']
      refine wpAny_bind (wpAny_pure ?_)
      rw [StateT.run_pure]
      refine wpAny_bind (wpAny_pure ?_)
      have hsm : its.length < 2 := by simpa using h2'
      refine ends _ (List.toArray (List.range its.length)) ?_ rfl ⟨by simp, by simp⟩ ?_
      · show kA.zip its.toArray = _
        have := kas_range (kA.toList.toArray.zip its.toArray)
        rw [show (kA.toList.toArray.zip its.toArray).size = its.length by simp [kz']] at this
        rw [this]
      · intro i j hij hj
        have : i = j := by omega
        subst this; exact Int.le_refl _
    · rw [if_neg h2', if_neg h2']
      have h2'' : 2 ≤ its.length := by simp at h2'; omega
      rw [ekA]
      refine wpAny_bind (tup_kind hkp hf (by omega) ?_)
      obtain ⟨p, r1, r2, r3⟩ := sort_run (n := its.length) (rk := rkK ks) (by omega)
      refine wpAny_bind (wpAny_mono (kat_run (E := E) (ks := kA.toList) (vs := its) (κ := tuples' true) (s := s') (Q := fun st' s2 => s2 = s' ∧ arrOf st' = p.map (kas_item (kA.toList.toArray.zip its.toArray)) ∧ failedOf st' = none)
        (G := fun p' s2 => p' = p ∧ s2 = s') kz h2'' h64 (fun p' st' s2 _ e2 e3 e4 => by
          obtain ⟨rfl, rfl⟩ := e4
          exact ⟨rfl, e2, e3⟩) (Run.wp (fun s2 => s2 = s') (fun i j C s2 hi hj e hC => ask_tup (s := s') hc hkp i j C s2 (by omega) (by omega) e hC) r1 rfl fun s2 e => ⟨rfl, e⟩)) (fun r s2 hr => ?_) fun _ _ z => z)
      obtain ⟨⟨⟩, st'⟩ := r
      obtain ⟨rfl, e2, e3⟩ := hr
      exact ends st' p e2 e3 r2 r3
end
theorem nodup_of {α β : Type} {f : α → β} : ∀ {l : List α}, (l.map f).Nodup → l.Nodup
  | [], _ => List.nodup_nil
  | a :: l, h => by
    rw [List.map_cons, List.nodup_cons] at h
    exact List.nodup_cons.mpr ⟨fun z => h.1 (List.mem_map.mpr ⟨a, z, rfl⟩), nodup_of h.2⟩
def sortKeyD (ks : List (List At)) (ds : List D) : List D := (sortF (fun p : List At × D => encs p.1) (ks.zip ds)).map (·.2)
theorem zip_getD {α β : Type} (d : α) (e : β) : ∀ {l₁ : List α} {l₂ : List β}, l₁.length = l₂.length → (List.range l₂.length).map (fun i => (l₁.getD i d, l₂.getD i e)) = l₁.zip l₂ := fun {l₁ l₂} h => by
  apply List.ext_getElem?
  intro i
  by_cases hi : i < l₂.length
  · have hi' : i < l₁.length := by omega
    have := (List.getElem?_zip_eq_some (z := (l₁[i], l₂[i]))).mpr ⟨List.getElem?_eq_getElem hi', List.getElem?_eq_getElem hi⟩
    rw [this]
    simp [hi, hi']
  · simp [hi, h]
theorem zip_inj {α β : Type} {l₁ : List α} {l₂ : List β} (nd : l₁.Nodup) {a : α} {b c : β} (h1 : (a, b) ∈ l₁.zip l₂) (h2 : (a, c) ∈ l₁.zip l₂) : b = c := by
  obtain ⟨i, hi⟩ := List.mem_iff_getElem?.mp h1
  obtain ⟨j, hj⟩ := List.mem_iff_getElem?.mp h2
  obtain ⟨i1, i2⟩ := List.getElem?_zip_eq_some.mp hi
  obtain ⟨j1, j2⟩ := List.getElem?_zip_eq_some.mp hj
  obtain ⟨li, ei⟩ := List.getElem?_eq_some_iff.mp i1
  obtain ⟨lj, ej⟩ := List.getElem?_eq_some_iff.mp j1
  have : i = j := (List.getElem_inj nd).mp (ei.trans ej.symm)
  subst this
  rw [i2] at j2; exact Option.some.inj j2
theorem sortKey_is {ds : List D} {ks : List (List At)} {p : Array Nat} (hl : ks.length = ds.length) (hc : compA ks = true) (nd : ks.Nodup) (ap : Arr ds.length p) (up : Up (rkK ks) p ds.length) : p.toList.map (fun i => ds.getD i .non) = sortKeyD ks ds := by
  unfold sortKeyD
  have e : p.toList.map (fun i => (ks.getD i [], ds.getD i .non)) = sortF (fun p : List At × D => encs p.1) (ks.zip ds) := by
    apply sortF_is
    · intro x hx y hy e
      have mx := (List.of_mem_zip hx).1
      have my := (List.of_mem_zip hy).1
      have := compA_inj hc mx my e
      obtain ⟨k1, d1⟩ := x
      obtain ⟨k2, d2⟩ := y
      have z : k1 = k2 := this
      subst z
      rw [zip_inj nd hx hy]
    · have := ap.perm.map (fun i => (ks.getD i [], ds.getD i D.non))
      rw [zip_getD [] D.non hl] at this
      exact this
    · rw [List.pairwise_iff_getElem]
      intro i j hi hj hij
      have hsz := ap.size
      have hi' : i < p.size := by simpa using hi
      have hj' : j < p.size := by simpa using hj
      have := up i j (Nat.le_of_lt hij) (by omega)
      unfold rkAt rkK at this
      have gi : p.getD i 0 = p[i] := by rw [Array.getD_eq_getD_getElem?, Array.getElem?_eq_getElem hi']; rfl
      have gj : p.getD j 0 = p[j] := by rw [Array.getD_eq_getD_getElem?, Array.getElem?_eq_getElem hj']; rfl
      have lj := ap.lt (k := j) (by omega)
      have mj : ks.getD (p.getD j 0) [] ∈ ks := by
        have h' : p.getD j 0 < ks.length := by omega
        rw [List.getD_eq_getElem?_getD, List.getElem?_eq_getElem h']; exact List.getElem_mem h'
      have nl : ¬ encs (ks.getD (p.getD j 0) []) < encs (ks.getD (p.getD i 0) []) := fun z => by
        have := rank_lt (cs := ks.map encs) (List.mem_map.mpr ⟨_, mj, rfl⟩) z
        omega
      simp only [List.getElem_map, Array.getElem_toList]
      unfold leF
      rw [← gi, ← gj]
      exact nl
  rw [← e, List.map_map]
  rfl
@[simp] def fSortK (f : FE) (kf : Env → D → Option D) : FE := fun ρ => (f ρ).bind fun x => match x.1 with
  | .lst ds => (mapO (kf ρ) ds).bind fun kds => (keysD kds).bind fun ks => if ks.length < 64 ∧ compA ks = true ∧ firstsOk ks = true ∧ (ks.map encs).Nodup then some (.lst (sortKeyD ks ds), true) else none
  | _ => none
section
variable {X : Cx} {e ke : Expr} {p pos kp : Pos}
theorem je_sortK {f : FE} {kf : Env → D → Option D} (hm : X.mg "sorted" = none) (he : JE X e f) (hk : JK X X.A.in1.in1 ke kf) (hg : Gl X "sorted" := by rfl)
    (hes : starEach [e] X.env = [(false, eval e X.env)] := by rfl) (heb : backTo pos (starEach [e] X.env) = (false, eval e X.env) :: backTo pos (starEach [] X.env) := by rfl) (hpl : (backTo pos (starEach [e] X.env)).any (·.1) = false := by rfl)
    (hall : (backToKw pos (keywordEach [⟨some "key", ke, kp⟩] X.env)).all (·.1.isSome) = true := by rfl) (hkw : (backToKw pos (keywordEach [⟨some "key", ke, kp⟩] X.env)).any (·.1.isNone) = false := by rfl)
    (hnm : (backToKw pos (keywordEach [⟨some "key", ke, kp⟩] X.env)).filterMap (·.1) = [("key" : Str)] := by rfl) :
    JE X (.Call (.Name "sorted" p) [e] [⟨some "key", ke, kp⟩] pos) (fSortK f kf) := by
  intro pins s σ H Q I h
  obtain ⟨B, ρ, d, b, sB, rep, ee, q⟩ := h
  obtain ⟨⟨xd, xb⟩, ex, ee⟩ := Option.bind_eq_some_iff.mp ee
  cases xd <;> try (cases ee; done)
  rename_i ds
  obtain ⟨kds, em, ee⟩ := Option.bind_eq_some_iff.mp ee
  obtain ⟨ks, ek, ee⟩ := Option.bind_eq_some_iff.mp ee
  split at ee
  · rename_i hh
    obtain ⟨h64, hc, hf, nd⟩ := hh
    cases ee
    refine wpAny_Call_Name_kw (ld_blt I hg hm (u := .builtin "sorted") rfl ?_)
    refine callWith_kw (thn ((pa_cons he pa_nil hes) pos pins s σ H (fun vs H1 => ∃ v N, vs = [v] ∧ Ext B N H H1 ∧ Is X.K N v (.lst ds)) I ⟨B, ρ, _, _, sB, rep, ex, fun v H1 N x1 i1 _ => ⟨v, N, rfl, x1, i1⟩⟩) fun us s1 hA => ?_) heb hpl hall hkw
    obtain ⟨vs1, H1, I1, r1, v, N, rfl, x1, i1⟩ := hA
    obtain ⟨u, rfl, ru⟩ := vals1 r1
    refine kws_cons (hk pins s1 σ H1 N ρ _ _ I1 x1.nh (rep.mono x1.bn) fun qa H2 s2 I2 m2 kfn => kws_nil ?_)
    rw [hnm]
    show wpAny _ _ (call (.builtin "sorted") [u] [(("key" : Str), .ref qa)]) _ _ _
    cases i1
    rename_i l vs hq il
    cases ru
    have sN : Same N H2 := x1.nh.trans m2
    obtain ⟨its, rv, pl, hz⟩ := I2.list (sN.seq hq)
    have hvl : vs.length = its.length := rv.length
    have hdl : ds.length = vs.length := il.length.symm
    have hkd : kds.length = ds.length := mapO_len em
    have hks : ks.length = kds.length := keysD_len ek
    have h64' : its.length < 64 := by omega
    refine call_function_entry_kw kind_sorted plain_sorted entry_sorted (ksk_s1 _ _) ?_
    unfold Builtin.«sorted»
    refine wpAny_bind (m := checkCount "sorted" 1 1 _) (wpAny_pure (wpAny_bind (collect_list pl.isList (wpAny_bind (wpAny_newList ?_ (by rw [sizeLine_eq]; omega))) (by rw [sizeLine_eq]; omega))))
    let h1 : Heap := (s2.heap.push (seqObj "list" #[] 0)).update s2.heap.objs.size (Obj.mapSeq (· ++ its.toArray))
    have hsz : h1.objs.size = s2.heap.objs.size + 1 := by show (Heap.update _ _ _).objs.size = _; rw [Heap.size_update, size_push']
    have keep1 : ∀ b o, s2.heap.get? b = some o → h1.get? b = some o := fun b o q => (Heap.get?_update_ne _ _ _ _ (Nat.ne_of_lt (Heap.lt_size q))).trans (Heap.get?_push_of_some _ q)
    have I3 : Inv X ((h1.objs.size, seqObj "list" its.toArray 0) :: pins) σ H2 { s2 with heap := h1.push (seqObj "list" its.toArray 0) } :=
      pin_new (t' := s2.toks) I2 (fun b u q => Heap.get?_push_of_some _ (keep1 b u q)) (by rw [hsz]; exact Nat.le_succ _) (Heap.get?_push_size _ rfl) nocell_seq
    have p3 := I3.pin (h1.objs.size, seqObj "list" its.toArray 0) (List.mem_append_right _ List.mem_cons_self)
    show wpAny (model X.prog X.w) X.A.in1 (holding [.ref h1.objs.size] (call (.builtin "list.sort") [.ref h1.objs.size] [(("key" : Str), .ref qa)]) >>= _) _ _ { s2 with heap := h1.push (seqObj "list" its.toArray 0) }
    refine wpAny_bind (wpAny_holding (wpAny_call_entry_kw slot_list_sort ⟨_, p3.1, rfl⟩ entry_list_sort ?_ (ksk_l1 _ _)))
    show wpAny (model X.prog X.w) X.A.in1.in1 (Builtin.«list.sort» ⟨[.ref h1.objs.size], [(Str.ofString "key", .ref qa)]⟩) _ _ _
    rw [ksk_t1]
    refine keyed_sort I3 (Nat.le_trans I2.sz (by rw [hsz]; exact Nat.le_succ _)) (fun q hq => by rw [hsz]; exact Nat.ne_of_lt (Nat.lt_succ_of_lt (Heap.lt_size (I2.pin q hq).1))) kfn rv il sN em ek hc hf h64' fun pm s' H' N' ap up J x3 hn => ⟨_, rfl, wpAny_pure ⟨_, rfl, ?_⟩⟩
    have hpl : its.length = ds.length := by omega
    rw [hpl] at ap up
    have er := sortKey_is (by omega) hc (nodup_of nd) ap up
    have hin : ∀ i ∈ pm.toList, i < ds.length := fun i hi => List.mem_range.mp (ap.perm.mem_iff.mp hi)
    have ip := isL_pick (il.mono x3.bn) pm.toList hin
    rw [er] at ip
    have x4 : Ext B N' H H' := (x1.trans (.grow x1.nh m2)).trans x3
    have hN : N' h1.objs.size = none := x3.nh.free hn
    have x5 := x4.trans (Ext.laid (o := .lst (pm.toList.map fun i => vs.getD i .non)) x3.nh hn)
    exact ⟨.ref h1.objs.size, _, J, rfl, q _ _ _ x5 (.lst (SqL.of upd_same) (ip.mono (Ext.laid (o := .lst (pm.toList.map fun i => vs.getD i .non)) x3.nh hn).bn)) fun _ => ⟨_, _, _, rfl, rfl, x4.hh.free hn, upd_same, ip.mono (Ext.laid (o := .lst (pm.toList.map fun i => vs.getD i .non)) x3.nh hn).bn⟩⟩
  · cases ee
end
section
variable {prog : Program} {w : World} {A : Around} {E : Value → Shared → Prop} {s : Shared}
theorem TupV.type {xs : List At} {v : Value} (h : TupV s.heap xs v) : s.TypeIs v "tuple" := by
  obtain ⟨a, o, its, n, rfl, ho, hc, _⟩ := h
  exact ⟨o, ho, hc⟩
theorem tlt_tree {xs ys : List At} {a b : Addr} {r : Bool} {P : PySem.Fin → Shared → Prop} (hx : TupV s.heap xs (.ref a)) (hy : TupV s.heap ys (.ref b)) (h : lexA xs ys = some r) (q : P (.done (.ret (.bool r))) s) : wpAny (model prog w) A (Builtin.«tuple.__lt__» ⟨[.ref a, .ref b], []⟩) P E s := by
  have hTb := hy.type
  obtain ⟨a', oa, its, na, ea, hoa, _, hda, ra⟩ := hx
  obtain ⟨b', ob, jts, nb, eb, hob, _, hdb, rb⟩ := hy
  cases ea
  cases eb
  show wpAny _ _ (isInstance (.ref _) (.type "tuple") >>= _) _ _ s
  refine wpAny_bind (wpAny_isInstance hTb isSubtype_tuple_tuple ?_)
  simp only [Bool.not_true, Bool.false_eq_true, if_false]
  refine wpAny_bind (wpAny_tupleItemsOf hoa hda ?_)
  refine wpAny_bind (wpAny_tupleItemsOf hob hdb ?_)
  refine wpAny_bind ?_
  refine wpAny_forIn_list _
    (fun rest z s' => z.1 = none ∧ s' = s ∧ ∃ xs' ys' its' jts' n, rest = List.zip its' jts' ∧ Paired atV xs' its' ∧ Paired atV ys' jts' ∧ lexA xs' ys' = some r ∧ its'.length + n = its.size ∧ jts'.length + n = jts.size)
    _ ?_ ?_ _ _ ⟨rfl, rfl, xs, ys, its.toList, jts.toList, 0, rfl, ra, rb, h, by simp, by simp⟩
  · rintro ⟨u, v⟩ rest z s' ⟨hz, rfl, xs', ys', its', jts', n, e, p1, p2, hl, n1, n2⟩
    cases p1 with
    | nil => simp at e
    | @cons x u' xs'' its'' r1 p1' =>
      cases p2 with
      | nil => simp at e
      | @cons y v' ys'' jts'' r2 p2' =>
        simp only [List.zip_cons_cons, List.cons.injEq, Prod.mk.injEq] at e
        obtain ⟨⟨rfl, rfl⟩, rfl⟩ := e
        cases x with
        | i i =>
          cases y with
          | s j => simp [lexA] at hl
          | i j =>
            obtain ⟨t, rfl⟩ := r1
            obtain ⟨t', rfl⟩ := r2
            rw [lexA] at hl
            refine wpAny_bind (wpAny_eqBool_int ?_)
            by_cases hk : i = j
            · rw [if_pos hk] at hl
              rw [show (i == j) = true by simp [hk]]
              simp only [Bool.not_true, Bool.false_eq_true, if_false]
              exact wpAny_pure ⟨rfl, rfl, xs'', ys'', its'', jts'', n + 1, rfl, p1', p2', hl, by rw [← n1, List.length_cons]; omega, by rw [← n2, List.length_cons]; omega⟩
            · rw [if_neg hk] at hl
              cases hl
              rw [show (i == j) = false by simp [hk]]
              simp only [Bool.not_false, if_true]
              refine wpAny_bind (wpAny_rule (wpAny_bind (m := richCompare .Lt (.int i t) (.int j t')) (wpAny_mono (show wpAny _ _ (richCompare .Lt (.int i t) (.int j t')) (fun v s'' => v = .bool (decide (i < j)) ∧ s'' = s') E s' from PyProof.Rows.lt_int ⟨rfl, rfl⟩) (fun v s'' hv => ?_) fun _ _ z => z)))
              obtain ⟨rfl, rfl⟩ := hv
              exact wpAny_bind (wpAny_pure (wpAny_pure (wpAny_pure q)))
        | s i =>
          cases y with
          | i j => simp [lexA] at hl
          | s j =>
            obtain ⟨t, rfl⟩ := r1
            obtain ⟨t', rfl⟩ := r2
            rw [lexA] at hl
            refine wpAny_bind (wpAny_eqBool_str ?_)
            by_cases hk : i = j
            · rw [if_pos hk] at hl
              rw [decide_eq_true hk]
              simp only [Bool.not_true, Bool.false_eq_true, if_false]
              exact wpAny_pure ⟨rfl, rfl, xs'', ys'', its'', jts'', n + 1, rfl, p1', p2', hl, by rw [← n1, List.length_cons]; omega, by rw [← n2, List.length_cons]; omega⟩
            · rw [if_neg hk] at hl
              cases hl
              rw [decide_eq_false hk]
              simp only [Bool.not_false, if_true]
              refine wpAny_bind (wpAny_rule (wpAny_bind (m := richCompare .Lt (.str i t) (.str j t')) (wpAny_mono (show wpAny _ _ (richCompare .Lt (.str i t) (.str j t')) (fun v s'' => v = .bool (decide (i.cps.toList < j.cps.toList)) ∧ s'' = s') E s' from PySem.P.lt_str ⟨rfl, rfl⟩) (fun v s'' hv => ?_) fun _ _ z => z)))
              obtain ⟨rfl, rfl⟩ := hv
              exact wpAny_bind (wpAny_pure (wpAny_pure (wpAny_pure q)))
  · rintro ⟨z1, z2⟩ s' ⟨hz, rfl, xs', ys', its', jts', n, e, p1, p2, hl, n1, n2⟩
    simp only at hz
    subst hz
    refine wpAny_pure ?_
    have : decide (its.size < jts.size) = r := by
      cases p1 with
      | nil =>
        cases p2 with
        | nil => simp [lexA] at hl; subst hl; simp at n1 n2; simp; omega
        | cons _ _ => simp [lexA] at hl; subst hl; simp at n1 n2; simp; omega
      | cons _ _ =>
        cases p2 with
        | nil => simp [lexA] at hl; subst hl; simp at n1 n2; simp; omega
        | cons _ _ => simp at e
    show P (.done (.ret (.bool (decide (its.size < jts.size))))) s'
    rw [this]; exact q
theorem rc_lt {xs ys : List At} {x y : Value} {r : Bool} {Q : Value → Shared → Prop} (hx : TupV s.heap xs x) (hy : TupV s.heap ys y) (h : lexA xs ys = some r) (hu : A.units < cLine) (q : Q (.bool r) s) : wpAny (model prog w) A (richCompare .Lt x y) Q E s := by
  have tx := hx.type
  have ty := hy.type
  obtain ⟨a, _, _, _, rfl, _⟩ := id hx
  obtain ⟨b, _, _, _, rfl, _⟩ := id hy
  exact wpAny_richCompare_same_room (op := .Lt) tx ty PySem.F.slot_tuple_lt (wpAny_call_entry PySem.F.slot_tuple_lt tx PySem.F.entry_tuple_lt (tlt_tree hx hy h ⟨_, rfl, (fun e => nomatch e), q⟩) (PySem.F.args_tuple_lt_2 _ _)) hu
end
def maxGo : List At × D → List (List At × D) → D
  | b, [] => b.2
  | b, x :: r => if lexA b.1 x.1 = some true then maxGo x r else maxGo b r
section
variable {X : Cx} {pins : List (Addr × Obj)} {σ : St}
theorem key_tup {pins : List (Addr × Obj)} {H : Hp} {s : Shared} {v : V} {u : Value} {d : D} {k : List At} (I : Inv X pins σ H s) (r : RelV v u) (i : Is X.K H v d) (e : keyD d = some k) : TupV s.heap k u := by
  have := tups_at I (ys := [v]) (ds := [d]) (ks := [k]) (its := [u]) (.cons r .nil) (.cons i .nil) (by simp only [keysD, e]; rfl)
  cases this; assumption
end
@[simp] def fMaxK (f : FE) (kf : Env → D → Option D) : FE := fun ρ => (f ρ).bind fun x => match x.1 with
  | .lst ds => (mapO (kf ρ) ds).bind fun kds => (keysD kds).bind fun ks => if compA ks = true then match ks.zip ds with
    | [] => none
    | y :: r => some (maxGo y r, false)
    else none
  | _ => none
def minGo : List At × D → List (List At × D) → D
  | b, [] => b.2
  | b, x :: r => if lexA x.1 b.1 = some true then minGo x r else minGo b r
@[simp] def fMinK (f : FE) (kf : Env → D → Option D) : FE := fun ρ => (f ρ).bind fun x => match x.1 with
  | .lst ds => (mapO (kf ρ) ds).bind fun kds => (keysD kds).bind fun ks => if compA ks = true then match ks.zip ds with
    | [] => none
    | y :: r => some (minGo y r, false)
    else none
  | _ => none
section
variable {X : Cx}
@[simp] def tLt : D → D → Option (D × Bool)
  | .tup xs, .tup ys => (atomsD xs).bind fun as => (atomsD ys).bind fun bs => (lexA as bs).map fun r => (.bl r, false)
  | _, _ => none
@[simp] def tGt : D → D → Option (D × Bool)
  | .tup xs, .tup ys => (atomsD xs).bind fun as => (atomsD ys).bind fun bs => (lexA bs as).map fun r => (.bl r, false)
  | _, _ => none
theorem o_tlt (hu : X.A.units + 40 < cLine) : OpR X (compareOp .Lt) (rD X.K tLt) := by
  intro pins s σ H x y v u Q I rx ry q
  obtain ⟨B, dx, dy, d, b, sB, ix, iy, e, q⟩ := q
  cases dx <;> try (simp [tLt] at e; done)
  cases dy <;> try (simp [tLt] at e; done)
  simp only [tLt] at e
  obtain ⟨as, e1, e⟩ := Option.bind_eq_some_iff.mp e
  obtain ⟨bs, e2, e⟩ := Option.bind_eq_some_iff.mp e
  obtain ⟨r, e3, e⟩ := Option.map_eq_some_iff.mp e
  cases e
  show wpAny _ _ (richCompare .Lt v u) _ _ _
  exact rc_lt (key_tup I rx (ix.mono sB) e1) (key_tup I ry (iy.mono sB) e2) e3 (by omega) ⟨.bl r, H, I, rfl, q.one sB (.bl r)⟩
end
section
variable {X : Cx} {a b : Expr} {p pos : Pos}
@[simp] def iRange2 (f g : FE) : FA := fun ρ => (f ρ).bind fun x => (g ρ).bind fun y => match x.1, y.1 with
  | .int i, .int j => if -1000 ≤ i ∧ i ≤ 1000 ∧ -1000 ≤ j ∧ j ≤ 1000 then some (rangeD i (j - i).toNat) else none
  | _, _ => none
end
@[simp] def maxTD : List D → Option (D × Bool)
  | [.tup xs, .tup ys] => (atomsD xs).bind fun as => (atomsD ys).bind fun bs => (lexA as bs).map fun r => (if r = true then .tup ys else .tup xs, false)
  | _ => none
end DL
namespace DL
open PySem PySem.Spec PyProof.Rows L2
section
variable {X : Cx}
def tCat0 : D → D → Option (D × Bool)
  | .tup xs, .tup ys => if xs.isEmpty = true then some (.tup ys, false) else none
  | _, _ => none
theorem o_tcat0 : OpR X (binaryOp .Add) (rD X.K tCat0) := by
  intro pins s σ H x y v u Q I rx ry q
  obtain ⟨B, dx, dy, d, bb, sB, ix, iy, ee, q⟩ := q
  cases ix <;> cases iy <;> try (simp [tCat0] at ee; done)
  rename_i l vs ds h hl l' ws es h' hl'
  simp only [tCat0] at ee
  split at ee
  · rename_i hz
    cases ee
    cases rx
    cases ry
    obtain ⟨its, r1, p1, _⟩ := I.tuple (same_seqT sB h)
    obtain ⟨its2, r2, p2, _⟩ := I.tuple (same_seqT sB h')
    have he : its.toArray.isEmpty = true := by
      have e1 := hl.length
      have e2 := r1.length
      have e3 := List.isEmpty_iff.mp hz
      rw [e3] at e1
      cases its with
      | nil => rfl
      | cons a b => rw [e1] at e2; simp at e2
    obtain ⟨⟨cls, dd, data, sl⟩, ho, hc, n, hd⟩ := id p1
    obtain ⟨⟨cls2, dd2, data2, sl2⟩, ho2, hc2, n2, hd2⟩ := id p2
    dsimp only at hc hd hc2 hd2
    subst hc; subst hd; subst hc2; subst hd2
    exact concat_meets ⟨_, ho, rfl⟩ ⟨_, ho2, rfl⟩ noFill_tuple_add seq_tuple_add PySem.F.slot_tuple_add PySem.F.entry_tuple_add (PySem.F.args_tuple_add_2 _ _)
      (tuple_addW0 l l' its.toArray its2.toArray n n2 dd dd2 sl sl2 he) ⟨ho, ho2, ⟨.ref l', H, I, rfl, q.one sB (.tup h' hl')⟩⟩
  · cases ee
@[simp] def tAddD : D → D → Option (D × Bool)
  | .tup xs, .tup ys => if xs.length + ys.length ≤ sizeLine then some (.tup (xs ++ ys), false) else none
  | _, _ => none
theorem or_tadd (xs ys : List D) (z : xs.length + ys.length ≤ sizeLine) : orD tCat tCat0 (.tup xs) (.tup ys) = some (.tup (xs ++ ys), false) := by
  cases xs with
  | nil =>
    have : tCat (.tup []) (.tup ys) = none := if_neg (fun h => by cases h.2)
    show (match tCat (.tup []) (.tup ys) with | some z => some z | none => tCat0 (.tup []) (.tup ys)) = _
    rw [this]
    rfl
  | cons a l =>
    have : tCat (.tup (a :: l)) (.tup ys) = some (.tup (a :: l ++ ys), false) := if_pos ⟨z, rfl⟩
    show (match tCat (.tup (a :: l)) (.tup ys) with | some z => some z | none => tCat0 (.tup (a :: l)) (.tup ys)) = _
    rw [this]
theorem o_tadd : OpR X (binaryOp .Add) (rD X.K tAddD) := by
  refine opr_to (r := rD X.K (orD tCat tCat0)) (opr_or o_tcat o_tcat0) fun x y H Q q => ?_
  obtain ⟨B, dx, dy, d, bb, sB, ix, iy, ee, q⟩ := q
  refine ⟨B, dx, dy, d, bb, sB, ix, iy, ?_, q⟩
  cases ix <;> try (cases ee; done)
  cases iy <;> try (cases ee; done)
  rename_i l vs ds h hl l' ws es h' hl'
  simp only [tAddD] at ee
  split at ee
  · rename_i hz
    rw [or_tadd _ _ hz]
    exact ee
  · cases ee
end
section
variable {X : Cx}
@[simp] def isInstT : List D → Option (D × Bool)
  | [d, .tup [.ty n, .ty m]] => if isTy d = true then none else if n = "list" ∧ m = "tuple" then some (.bl (tyOf d == "list" || tyOf d == "tuple"), false) else none
  | _ => none
end
@[simp] def keyOf : D → Option Key
  | .int i => some (.inl i)
  | .str x => some (.inr x)
  | _ => none
theorem key_V {K : PySem.W.Frag} {B : Hp} {v : V} {d : D} {k : Key} (i : Is K B v d) (e : keyOf d = some k) : v = kV k := by
  cases i <;> simp only [keyOf] at e <;> cases e <;> rfl
def lookD {κ : Type} [DecidableEq κ] : List κ → List D → κ → Option D
  | k' :: ks, d :: ds, k => if k' = k then some d else lookD ks ds k
  | _, _, _ => none
theorem look_V {κ : Type} [DecidableEq κ] {K : PySem.W.Frag} {B : Hp} (k : κ) : ∀ {ks : List κ} {vs : List V} {ds : List D}, ks.length = vs.length → IsL K B vs ds →
    (∃ v d, valV (ks.zip vs) k = some v ∧ lookD ks ds k = some d ∧ Is K B v d) ∨ (valV (ks.zip vs) k = none ∧ lookD ks ds k = none)
  | [], vs, ds, _, _ => .inr ⟨by cases vs <;> rfl, by cases ds <;> rfl⟩
  | k' :: ks, [], _, h, _ => by simp at h
  | k' :: ks, v :: vs, _, h, .cons i is => by
    rw [List.zip_cons_cons]
    unfold lookD
    by_cases e : k' = k
    · rw [if_pos e]
      exact .inl ⟨v, _, valV_pos (p := (k', v)) e, rfl, i⟩
    · rw [if_neg e, valV_neg (p := (k', v)) e]
      exact look_V k (by simpa using h) is
section
variable {X : Cx} {o e i : Expr} {pos : Pos}
@[simp] def getK : D → D → Option (D × Bool)
  | .dk ks vs, y => (keyOf y).map fun k => ((lookD ks vs k).getD .non, false)
  | _, _ => none
theorem je_dget1 {apos cpos : Pos} {fo fe : FE} (hu : X.A.units + 1 < cLine) (ho : JE X o fo) (he : JE X e fe) (m : M1 X o "get" apos e cpos) : JE X (.Call (.Attribute o "get" apos) [e] [] cpos) (f2 getK fo fe) := by
  refine PE.to (pe_dget1 hu ho he m) fun σ H Q q => ?_
  obtain ⟨B, ρ, d, bb, sB, r, ee, q⟩ := q
  obtain ⟨x, ex, ee⟩ := Option.bind_eq_some_iff.mp ee
  obtain ⟨y, ey, ee⟩ := Option.bind_eq_some_iff.mp ee
  refine ⟨B, ρ, x.1, x.2, sB, r, ex, fun v H1 N1 x1 i1 ff => ?_⟩
  obtain ⟨xd, xb⟩ := x
  cases i1 with
  | @dk a ks vs ds h hl hs =>
    simp only [getK] at ee
    obtain ⟨k, hk, ee⟩ := Option.map_eq_some_iff.mp ee
    cases ee
    refine ⟨a, rfl, .inl ⟨_, .inl (x1.nh _ _ h)⟩, N1, ρ, y.1, y.2, x1.nh, r.mono x1.bn, ey, fun v2 H2 N2 x2 i2 _ => ?_⟩
    have hv := key_V i2 hk
    subst hv
    refine ⟨valV (ks.zip vs) k, .inl ⟨_, k, .inl (x2.nh _ _ (x2.bn _ _ h)), rfl, rfl⟩, ?_⟩
    have hs2 := hs.mono x2.bn
    rcases look_V k hl hs2 with ⟨v, d', e1, e2, i3⟩ | ⟨e1, e2⟩
    · rw [e1]
      rw [e2] at q
      exact (q.into (x1.trans x2)).one x2.nh i3
    · rw [e1]
      rw [e2] at q
      exact (q.into (x1.trans x2)).one x2.nh .non
  | _ => simp [getK] at ee
@[simp] def ixK : D → D → Option (D × Bool)
  | .dk ks vs, y => (keyOf y).bind fun k => (lookD ks vs k).map fun d => (d, false)
  | _, _ => none
@[simp] def inK : D → D → Option (D × Bool)
  | y, .dk ks vs => (keyOf y).map fun k => (.bl (lookD ks vs k).isSome, false)
  | _, _ => none
@[simp] def notInK : D → D → Option (D × Bool)
  | y, .dk ks vs => (keyOf y).map fun k => (.bl (!(lookD ks vs k).isSome), false)
  | _, _ => none
end
def putKs {κ : Type} [DecidableEq κ] (ks : List κ) (k : κ) : List κ := if k ∈ ks then ks else ks ++ [k]
def putVs {κ α : Type} [DecidableEq κ] (ks : List κ) (xs : List α) (k : κ) (x : α) : List α := if k ∈ ks then List.zipWith (fun k' x' => if k' = k then x else x') ks xs else xs ++ [x]
theorem any_zip {κ : Type} [DecidableEq κ] (k : κ) : ∀ {ks : List κ} {vs : List V}, ks.length = vs.length → ((ks.zip vs).any fun kv => decide (kv.1 = k)) = decide (k ∈ ks)
  | [], _, _ => by simp
  | k' :: ks, [], h => by simp at h
  | k' :: ks, v :: vs, h => by
    have ih := any_zip k (ks := ks) (vs := vs) (by simpa using h)
    rw [List.zip_cons_cons, List.any_cons, ih]
    by_cases e : k' = k
    · simp [e]
    · have e' : ¬ k = k' := fun z => e z.symm
      simp [e, e']
theorem map_zip {κ : Type} [DecidableEq κ] (k : κ) (v : V) : ∀ (ks : List κ) (vs : List V), (ks.zip vs).map (fun kv => if kv.1 = k then (kv.1, v) else kv) = ks.zip (List.zipWith (fun k' x' => if k' = k then v else x') ks vs)
  | [], _ => by simp
  | _ :: _, [] => by simp
  | k' :: ks, w :: vs => by
    rw [List.zip_cons_cons, List.map_cons, map_zip k v ks vs, List.zipWith_cons_cons, List.zip_cons_cons]
    by_cases e : k' = k
    · simp [e]
    · simp [e]
theorem put_zip {κ : Type} [DecidableEq κ] {ks : List κ} {vs : List V} (hl : ks.length = vs.length) (k : κ) (v : V) : putK (ks.zip vs) k v = (putKs ks k).zip (putVs ks vs k v) := by
  unfold putK putKs putVs
  rw [any_zip k hl]
  by_cases h : k ∈ ks
  · rw [if_pos (decide_eq_true h), if_pos h, if_pos h, map_zip]
  · rw [if_neg (by simpa using h), if_neg h, if_neg h, List.zip_append hl]
    rfl
theorem put_len {κ α : Type} [DecidableEq κ] {ks : List κ} {xs : List α} (hl : ks.length = xs.length) (k : κ) (x : α) : (putKs ks k).length = (putVs ks xs k x).length := by
  unfold putKs putVs
  split <;> simp [hl]
theorem IsL.zipWith {κ : Type} [DecidableEq κ] {K : PySem.W.Frag} {B : Hp} {k : κ} {v : V} {d : D} (i : Is K B v d) : ∀ {ks : List κ} {vs : List V} {ds : List D}, IsL K B vs ds → IsL K B (List.zipWith (fun k' x' => if k' = k then v else x') ks vs) (List.zipWith (fun k' x' => if k' = k then d else x') ks ds)
  | [], _, _, _ => by simpa using IsL.nil
  | _ :: _, _, _, .nil => by simpa using IsL.nil
  | k' :: ks, _, _, .cons h t => by
    rw [List.zipWith_cons_cons, List.zipWith_cons_cons]
    refine .cons ?_ (IsL.zipWith i t)
    by_cases e : k' = k
    · rw [if_pos e, if_pos e]; exact i
    · rw [if_neg e, if_neg e]; exact h
theorem IsL.put {κ : Type} [DecidableEq κ] {K : PySem.W.Frag} {B : Hp} {k : κ} {v : V} {d : D} (i : Is K B v d) {ks : List κ} {vs : List V} {ds : List D} (h : IsL K B vs ds) : IsL K B (putVs ks vs k v) (putVs ks ds k d) := by
  unfold putVs
  split
  · exact h.zipWith i
  · exact h.append (.cons i .nil)
section
variable {K : PySem.W.Frag} {E : Ends} {σ : St} {H : Hp}
def gNewT (i : Nat) : FS := fun ρ => some (.nx (ρ.set i (some (.dt [] [], true))))
theorem StN.newBox {B0 H0 N : Hp} {ρ : Env} (s : StN K B0 H0 N H σ ρ) {p : Addr} {ob : HO} {dd : D} (i : Nat) (hp : H p = none) (hb : ∀ C, Bx K C ob dd) : StN K B0 H0 (upd N p ob) (upd H p ob) (σ.set i (some (.ref p))) (ρ.set i (some (dd, true))) := by
  have x := Ext.laid (o := ob) s.ext.nh hp
  have s1 := s.grow x
  have hNp : N p = none := s.ext.nh.free hp
  have hop : ¬ own σ ρ p := fun z => by obtain ⟨ws, ⟨q, _⟩, _⟩ := s.owned z; rw [hNp] at q; cases q
  have c : Same (cut N (own σ ρ)) (cut (upd N p ob) (fun b => own σ ρ b ∨ b = p)) := cut_mono fun b u e q => ⟨x.bn _ _ e, fun z => z.elim q fun z => by subst z; rw [hNp] at e; cases e⟩
  refine s1.bindOwn upd_same (s.ext.hh.free hp) (fun j e q z => hop ⟨j, e, q, z⟩) (fun j e _ q => ?_) (fun j e _ q => ?_) (hb _)
  · obtain ⟨w, h1, h2⟩ := s.sh j e q; exact ⟨w, h1, h2.mono c⟩
  · obtain ⟨a', o', h1, h2, _, h4⟩ := s.ow j e q
    exact ⟨a', o', h1, x.bn _ _ h2, h4.mono c⟩
theorem tDS_newT {i : Nat} (q : tDS K (gNewT i) E σ H) : tAsg tDNewT (gName i) E σ H := by
  obtain ⟨B0, H0, ρ, r, ⟨N, s⟩, e, p⟩ := q
  cases e
  exact fun a ha => p _ _ ⟨_, s.newBox i ha fun _ => .dt (ks := []) (vs := []) rfl .nil⟩
end
section
variable {X : Cx} {pos : Pos} {e k : Expr}
theorem js_newT {i : Nat} {x : Str} {p dp : Pos} (hN : X.N.Nodup) (hi : X.N[i]? = some x := by rfl) (hx : Loc X.env.scope x := by first | exact Or.inl rfl | exact Or.inr rfl) (hs : swapsWith (.Dict [] [] dp) (some (.Name x p)) pos.line X.env = pure false := by rfl)
    (hf : X.fn x = true ∨ X.env.scope.names.lookup x = some .local := by first | exact .inl rfl | exact .inr rfl) : JS X (.Assign [.Name x p] (.Dict [] [] dp) pos) (gNewT i) := PS.to (ps_set hN hi hx pe_dnewT hs hf) fun _ _ _ q => tDS_newT q
end
section
variable {prog : Program} {w : World} {A : Around} {E : Value → Shared → Prop} {s : Shared}
abbrev IsZipB (h : Heap) (z TI TO T0 : Addr) (f : Bool) : Prop := h.get? z = some { cls := .type "zip", dict := none, data := .fields #[rawInt T0, .bool f, .bool false, .ref TI, .ref TO], slots := #[] }
end
def ZSt (k1 k2 : Bool) (z TI TO i1 i2 l1 l2 S : Addr) (i : Nat) (h : Heap) : Prop :=
  IsPair h TI (.ref i1) (.ref i2) ∧ KIt k1 h i1 l1 i ∧ KIt k2 h i2 l2 i ∧ ((IsZip h z TI TO .none ∧ ∃ a b, IsPair h TO a b) ∨ ∃ T0 f oT oO, IsZipB h z TI TO T0 f ∧ h.get? T0 = some oT ∧ T0 ∉ [z, TI, TO, i1, i2] ∧ T0 ≠ S ∧ h.get? TO = some oO)
theorem ZSt.keep {k1 k2 : Bool} {z TI TO i1 i2 l1 l2 S : Addr} {i : Nat} {h h' : Heap} (st : ZSt k1 k2 z TI TO i1 i2 l1 l2 S i h) (hS : S ∉ [z, TI, TO, i1, i2]) (k : ∀ b o, b ≠ S → h.get? b = some o → h'.get? b = some o) : ZSt k1 k2 z TI TO i1 i2 l1 l2 S i h' := by
  obtain ⟨a1, a2, a3, a4⟩ := st
  have n : ∀ {b}, b ∈ [z, TI, TO, i1, i2] → b ≠ S := fun hb e => hS (e ▸ hb)
  refine ⟨k _ _ (n (by simp)) a1, a2.upon fun o e => k _ o (n (by simp)) e, a3.upon fun o e => k _ o (n (by simp)) e, ?_⟩
  rcases a4 with ⟨b1, a, b, b2⟩ | ⟨T0, f, oT, oO, b1, b2, b3, b4, b5⟩
  · exact .inl ⟨k _ _ (n (by simp)) b1, a, b, k _ _ (n (by simp)) b2⟩
  · exact .inr ⟨T0, f, oT, oO, k _ _ (n (by simp)) b1, k _ _ b4 b2, b3, b4, k _ _ (n (by simp)) b5⟩
section
variable {prog : Program} {w : World} {A : Around} {E : Value → Shared → Prop} {s : Shared} {k1 k2 : Bool} {z TI TO i1 i2 l1 l2 S : Addr} {j : Nat} {xs ys : Array Value}
theorem ZSt.ty {h : Heap} (st : ZSt k1 k2 z TI TO i1 i2 l1 l2 S j h) : ∃ o, h.get? z = some o ∧ o.cls = .type "zip" := by
  obtain ⟨_, _, _, a4⟩ := st
  rcases a4 with ⟨b1, _⟩ | ⟨T0, f, oT, oO, b1, _⟩
  · exact ⟨_, b1, rfl⟩
  · exact ⟨_, b1, rfl⟩
end
theorem same_upd {H : Hp} {a : Addr} {o : HO} (h : H a = none) : Same H (upd H a o) := fun b u e => by rw [upd_ne (ne_of_none e h)]; exact e
@[simp] def fLZ (fa fb : FE) : FE := fun ρ => (iZip fa fb ρ).map fun ds => (.lst ds, true)
end DL
namespace DL
open PySem PySem.Spec PyProof.Rows
theorem lk_list_keys : typeLookup (.type "list") "keys" = pure none := by rw [typeLookup_type, builtinLookup_eq_fast]; kernel_rfl
theorem keys_miss {prog : Program} {w : World} {A : Around} {E : Value → Shared → Prop} {s : Shared} {a : Addr} {xs : Array Value} {k : Nat} {sl : Array (Option Value)} {Q : Option Value → Shared → Prop}
    (hx : s.heap.get? a = some { cls := .type "list", dict := none, data := .seq xs k, slots := sl }) (hA : A.handled = none)
    (h : ∀ h' tk, (∀ b o, s.heap.get? b = some o → h'.get? b = some o) → Q none { s with heap := h', toks := tk }) :
    wpAny (model prog w) A (getAttr? (.ref a) "keys") Q E s := by
  obtain ⟨hp, g, d, tk, os⟩ := s
  have hT : ∀ tk', (⟨hp, g, d, tk', os⟩ : Shared).TypeIs (.ref a) "list" := fun _ => ⟨_, hx, rfl⟩
  have f1 := sub_AttributeError
  have f3 := PySem.F.slot_list_getattribute.lookup
  have f4 := PySem.F.slot_list_getattribute.bind (.ref a)
  have f5 := am_list_getattr_none
  unfold getAttr? getAttrBy? getAttrBy
  repeat (any_goals (first | assumption | exact hT _ | ((with_reducible show wpAny _ _ (call (Value.builtin "list.__getattribute__") _ _) _ _ _); refine call_meets PySem.F.slot_list_getattribute (hT _) am_entry_list_getattribute (PySem.F.args_list_getattribute_2 _ _) (meets_getattribute_miss_list a xs k sl "keys" _ lk_list_keys (by decide) (by decide)) ⟨hx, hA, fun h' tk' e hx' => ?_⟩) | wp_step))
  obtain ⟨t', u', he⟩ := hx'.there
  show wpAny _ _ (getattributeRaised _ _ _ _ _ _ _) _ _ _
  unfold getattributeRaised
  repeat (any_goals (first | assumption | wp_step))
  exact h _ _ hx'.of.keeps
end DL
namespace DL
open PySem PySem.Spec PyProof.Rows L2
def pairsD : List D → Option (List (Key × D))
  | [] => some []
  | .tup [k, v] :: r => (keyOf k).bind fun kk => (pairsD r).map fun l => (kk, v) :: l
  | _ => none
def putP (a : List Key × List D) (p : Key × D) : List Key × List D := (putKs a.1 p.1, putVs a.1 a.2 p.1 p.2)
def dictP (l : List (Key × D)) : List Key × List D := l.foldl putP ([], [])
theorem dictP_snoc (l : List (Key × D)) (p : Key × D) : dictP (l ++ [p]) = putP (dictP l) p := by unfold dictP; rw [List.foldl_append]; rfl
theorem pairsD_len : ∀ {ds : List D} {l : List (Key × D)}, pairsD ds = some l → l.length = ds.length
  | [], l, h => by simp [pairsD] at h; subst h; rfl
  | d :: r, l, h => by
    unfold pairsD at h
    split at h
    · rename_i h0; cases h0
    · rename_i k v r' h0
      cases h0
      obtain ⟨kk, _, h⟩ := Option.bind_eq_some_iff.mp h
      obtain ⟨l', h1, rfl⟩ := Option.map_eq_some_iff.mp h
      simp [pairsD_len h1]
    · cases h
theorem pairsD_get : ∀ {ds : List D} {l : List (Key × D)} {i : Nat} {d : D}, pairsD ds = some l → ds[i]? = some d → ∃ k v kk, d = .tup [k, v] ∧ keyOf k = some kk ∧ l[i]? = some (kk, v)
  | [], l, i, d, _, h => by simp at h
  | d0 :: r, l, i, d, h, hi => by
    unfold pairsD at h
    split at h
    · rename_i h0; cases h0
    · rename_i k v r' h0
      cases h0
      obtain ⟨kk, h2, h⟩ := Option.bind_eq_some_iff.mp h
      obtain ⟨l', h1, rfl⟩ := Option.map_eq_some_iff.mp h
      cases i with
      | zero => simp at hi; subst hi; exact ⟨k, v, kk, rfl, h2, rfl⟩
      | succ i => simp only [List.getElem?_cons_succ] at hi ⊢; exact pairsD_get h1 hi
    · cases h
theorem putP_len (l : List (Key × D)) : ∀ a : List Key × List D, a.1.length = a.2.length → (l.foldl putP a).1.length = (l.foldl putP a).2.length ∧ (l.foldl putP a).1.length ≤ a.1.length + l.length := by
  induction l with
  | nil => intro a h; exact ⟨h, Nat.le_refl _⟩
  | cons p l ih =>
    intro a h
    have h1 : (putP a p).1.length ≤ a.1.length + 1 := by
      show (putKs _ _).length ≤ _
      unfold putKs
      split <;> simp
    have := ih (putP a p) (put_len h _ _)
    rw [List.foldl_cons, List.length_cons]
    exact ⟨this.1, by omega⟩
theorem dictP_len (l : List (Key × D)) : (dictP l).1.length = (dictP l).2.length ∧ (dictP l).1.length ≤ l.length := by
  have := putP_len l ([], []) rfl
  exact ⟨this.1, Nat.le_trans this.2 (by simp)⟩
theorem entry_dul : entryFor table "dict.update.loop" = some Builtin.«dict.update.loop» := entryFor_of_tree (by kernel_rfl)
theorem plain_dul : plainId "dict.update.loop" = true := by decide +kernel
section
variable {X : Cx} {pins : List (Addr × Obj)} {σ : St} {B H0 : Hp} {A : Around} {R : Result → Shared → Prop} {it l d : Addr} {us : List V} {ds : List D} {kds : List (Key × D)}
theorem pairs_loop (hA : A.handled = none) (nl : l ≠ it) (nd : d ≠ it) (hl : SqL X.K B l us) (il : IsL X.K B us ds) (hp : pairsD ds = some kds)
    (hR : ∀ Hc N vs s', Inv X pins σ (upd Hc d (.dK ((dictP kds).1.zip vs))) s' → Hc d = none → Ext B N H0 Hc → (dictP kds).1.length = vs.length → IsL X.K N vs (dictP kds).2 → R (.ok (.ret .none)) s') :
    ∀ (k i : Nat) (tk : Nat) (s : Shared) (Hc N : Hp) (vs : List V), ds.length - i = k → i ≤ ds.length → Inv X pins σ (upd Hc d (.dK ((dictP (kds.take i)).1.zip vs))) s → Hc d = none → Ext B N H0 Hc → FpOk X pins (upd Hc d (.dK ((dictP (kds.take i)).1.zip vs))) it →
      s.heap.IsListIter it l i → (dictP (kds.take i)).1.length = vs.length → IsL X.K N vs (dictP (kds.take i)).2 →
      codeAny (model X.prog X.w) A (.builtin "dict.update.loop" ⟨[.ref d, .ref it, .int i tk, .none], []⟩) R s := by
  have n1 := il.length
  have n2 := pairsD_len hp
  intro k
  induction k with
  | zero =>
    intro i tk s Hc N vs hk hi I hc xt fp st hz hv
    have hin : i = ds.length := by omega
    have sm : Same B (upd Hc d (.dK ((dictP (kds.take i)).1.zip vs))) := (xt.bn.trans xt.nh).trans (same_upd hc)
    obtain ⟨its, r1, p1, z1⟩ := I.list (sm.seq hl)
    have e1 := r1.length
    refine codeAny_builtin entry_dul ?_
    rw [Around.under_plainId plain_dul _]
    show wpAny _ A.in1 (pyNext (.ref it) >>= _) _ _ s
    refine wpAny_bind (wpAny_pyNext_list_end (A := A.in1) hA st p1.isList (by simp; omega) fun h' hk' => ?_)
    show wpAny _ _ (Builtin.Dict.addKeywords d [] >>= _) _ _ _
    refine wpAny_bind (wpAny_pure (wpAny_pure ?_))
    have I1 := turnedS (t' := s.toks) (h' := h') (ch := [it]) I (fun b hb => by rw [List.mem_singleton.mp hb]; exact fp) fun b o hb e => hk' b o (fun q => hb (by simp [q])) e
    rw [hin, ← n2, List.take_length] at I1 hz hv
    exact hR Hc N vs _ I1 hc xt hz hv
  | succ k ih =>
    intro i tk s Hc N vs hk hi I hc xt fp st hz hv
    have hlt : i < ds.length := by omega
    have sm : Same B (upd Hc d (.dK ((dictP (kds.take i)).1.zip vs))) := (xt.bn.trans xt.nh).trans (same_upd hc)
    obtain ⟨its, r1, p1, z1⟩ := I.list (sm.seq hl)
    obtain ⟨kd, vd, kk, ed, ek, el⟩ := pairsD_get hp (List.getElem?_eq_getElem hlt)
    obtain ⟨x, hx, ix⟩ := il.get (List.getElem?_eq_getElem hlt)
    rw [ed] at ix
    cases ix with
    | @tup T xs _ hT hxs =>
      cases hxs with
      | cons ik r =>
        cases r with
        | cons iv r =>
          cases r
          rename_i xk xv
          have exk := key_V ik ek
          subst exk
          obtain ⟨u, hu, ru⟩ := r1.get hx
          cases (show u = Value.ref T from ru)
          refine codeAny_builtin entry_dul ?_
          rw [Around.under_plainId plain_dul _]
          show wpAny _ A.in1 (pyNext (.ref it) >>= _) _ _ s
          refine wpAny_bind (wpAny_pyNext_list_item (A := A.in1) st p1.isList (x := .ref T) (by simpa using hu) fun h' st' hs => ?_)
          have I1 := turnedS (t' := s.toks) (h' := h') (ch := [it]) I (fun b hb => by rw [List.mem_singleton.mp hb]; exact fp) fun b o hb e => hs.extBut b o (fun q => hb (by simp [q])) e
          obtain ⟨ps, r2, p2, z2⟩ := I1.tuple (same_seqT sm hT)
          obtain ⟨uk, uv, rfl, rk, rv⟩ := r2.two
          have hpr : Shared.TypeIs { s with heap := h' } (.ref T) "tuple" := by obtain ⟨o, e, c, _⟩ := p2; exact ⟨o, e, c⟩
          dsimp only
          refine wpAny_bind (wpAny_holding (wpAny_bind (wpAny_tryCatch ?_)))
          unfold Builtin.Dict.pairItems
          refine wpAny_bind (wpAny_typeOf hpr ?_)
          obtain ⟨oT, eT, cT, nT, dT⟩ := p2
          rw [if_pos (by decide)]
          refine wpAny_bind (wpAny_seqItems eT dT (wpAny_pure ?_))
          show wpAny _ _ (holding [uk, uv] (dictSet d uk uv)) _ _ _
          obtain ⟨zz, hsm, vs0, rel, dd⟩ := dk_of I1.hok (a := d) upd_same
          have hz0 : vs0.length ≤ sizeLine := by rw [← rel.length]; exact zz
          have nk : ((dictP (kds.take i)).1.zip vs).length < sizeLine := by
            have a1 := (dictP_len (kds.take i)).2
            have a2 := z1
            rw [List.length_take] at a1
            rw [List.length_zip]
            omega
          refine wpAny_holding (wpAny_dictSet_pairs (hsz := hz0) (kV_is rk) dd fun h2 dd2 hs2 => ?_)
          have hl2 : (putK ((dictP (kds.take i)).1.zip vs) kk xv).length ≤ sizeLine := by have := length_putK ((dictP (kds.take i)).1.zip vs) kk xv; omega
          have he2 : ∃ q, h2.get? d = some q := let ⟨q, _, _, hq, _⟩ := dd2; ⟨q, hq⟩
          have I2 := d_write (t' := s.toks + 1) I1 (a := d) (ob := .dK (putK ((dictP (kds.take i)).1.zip vs) kk xv)) (by rw [upd_same]; exact True.intro) hs2 he2 (dk_new hl2 hsm (rel.put kk rv) dd2)
          rw [upd_upd, put_zip hz] at I2
          have et : kds.take (i + 1) = kds.take i ++ [(kk, vd)] := by rw [List.take_add_one, el]; rfl
          have ed1 : (dictP (kds.take (i + 1))).1 = putKs (dictP (kds.take i)).1 kk := by rw [et, dictP_snoc]; rfl
          have ed2 : (dictP (kds.take (i + 1))).2 = putVs (dictP (kds.take i)).1 (dictP (kds.take i)).2 kk vd := by rw [et, dictP_snoc]; rfl
          refine wpAny_pure ⟨plainId_quiet plain_dul _, ?_⟩
          refine ih (i + 1) 0 _ Hc N (putVs (dictP (kds.take i)).1 vs kk xv) (by omega) hlt (by rw [ed1]; exact I2) hc xt ?_ ?_ ?_ ?_
          · obtain ⟨f0, f1⟩ := fp
            refine ⟨?_, f1⟩
            rw [upd_ne nd.symm] at f0 ⊢
            exact f0
          · exact st'.at fun o e => (hs2.2 it nd.symm).trans e
          · rw [ed1]; exact put_len hz _ _
          · rw [ed2]
            exact hv.put (iv.mono xt.bn)
end
@[simp] def to_dict : List D → Option (D × Bool)
  | [.lst ds] => (pairsD ds).map fun kds => (.dk (dictP kds).1 (dictP kds).2, false)
  | _ => none
theorem b_dict : bootBuiltins "dict" = some (.type "dict") := by decide +kernel
section
variable {X : Cx}
theorem c_dict (hcal : X.calm = true) : CallR X (.type "dict") (rDA X.K to_dict) := by
  intro pins s σ H xs us Q I r h
  obtain ⟨B, dds, d0, bb, sB, i0, ee, q⟩ := h
  cases i0 with
  | nil => simp [to_dict] at ee
  | cons i1 i2 =>
    cases i2 with
    | cons _ _ => cases i1 <;> simp [to_dict] at ee
    | nil =>
      cases i1 <;> try (simp [to_dict] at ee; done)
      rename_i l ws ds hl il
      simp only [to_dict] at ee
      obtain ⟨kds, hp, ee⟩ := Option.map_eq_some_iff.mp ee
      cases ee
      obtain ⟨u, rfl, rx⟩ := vals1 r
      cases rx
      have hA : X.A.handled = none := I.ok.hd hcal
      refine callType_codes (Q₁ := fun obj s₁ => obj = .ref s.heap.objs.size ∧ s₁ = { s with heap := s.heap.push { cls := .type "dict", data := .dict #[] } }) PySem.F.kt_called_dict (PySem.F.kt_typeCall_dict_1 _) PySem.F.entry_dict_init (kt_code_dict_new _ ⟨rfl, rfl⟩) ?_
      rintro obj s₁ ⟨rfl, rfl⟩
      have I1 : Inv X pins σ (upd H s.heap.objs.size (.dK [])) { s with heap := s.heap.push { cls := .type "dict", data := .dict #[] } } := I.laid (t' := s.toks) (fun b o e => Heap.get?_push_of_some _ e) (Nat.le_refl _) (dk_empty s.heap I.big)
      have hc0 : H s.heap.objs.size = none := I.fresh
      have hT : Shared.TypeIs { s with heap := s.heap.push { cls := .type "dict", data := .dict #[] } } (.ref s.heap.objs.size) "dict" := ⟨_, Heap.get?_push_size _ rfl, rfl⟩
      refine ⟨hT, PySem.F.args_dict_init_2 _ _, ?_⟩
      unfold Builtin.«dict.__init__»
      refine wpAny_bind ?_
      unfold Builtin.Dict.selfAndRest
      refine wpAny_bind (wpAny_notOrdered_dict hT ?_)
      show wpAny _ _ (pure (s.heap.objs.size, [Value.ref l])) _ _ _
      refine wpAny_pure ?_
      show wpAny _ _ (Builtin.Dict.updateFrom "dict.__init__" s.heap.objs.size (.ref l) [] .none) _ _ _
      unfold Builtin.Dict.updateFrom
      have sm : Same B (upd H s.heap.objs.size (.dK [])) := sB.trans (same_upd hc0)
      obtain ⟨its, r1, p1, z1⟩ := I1.list (sm.seq hl)
      have pl := p1.isList
      obtain ⟨ol, nl, eol, cl, ddl, dl⟩ := p1
      have hTl : Shared.TypeIs { s with heap := s.heap.push { cls := .type "dict", data := .dict #[] } } (.ref l) "list" := ⟨ol, eol, cl⟩
      refine wpAny_bind (wpAny_typeOf hTl ?_)
      rw [if_pos (by decide)]
      obtain ⟨oc, od, oo, os⟩ := ol
      simp only at cl ddl dl
      subst cl ddl dl
      refine wpAny_bind (keys_miss eol (by exact hA) fun h' tk hk => ?_)
      dsimp only [Option.isNone_none]
      rw [if_pos rfl]
      have I2 : Inv X pins σ (upd H s.heap.objs.size (.dK [])) { s with heap := h', toks := tk } := I1.kept (t' := tk) hk
      refine wpAny_bind (wpAny_rule ?_)
      refine wpAny_bind (wpAny_pyIter_list (items := its.toArray) ⟨_, hk _ _ eol, rfl, nl, rfl⟩ ?_)
      have I3 : Inv X pins σ (upd H s.heap.objs.size (.dK [])) { s with heap := h'.push { cls := .type "list_iterator", data := .fields #[.ref l, .int 0 0] }, toks := tk } := I2.kept (t' := tk) fun b o e => Heap.get?_push_of_some _ e
      have ld : s.heap.objs.size < h'.objs.size := Heap.lt_size (hk _ _ (Heap.get?_push_size _ rfl))
      have ll : l < h'.objs.size := Heap.lt_size (hk _ _ eol)
      refine wpAny_pure ⟨plainId_quiet plain_dul _, pairs_loop (A := X.A.in1) (B := B) (H0 := H) (l := l) (d := s.heap.objs.size) (it := h'.objs.size) hA (Nat.ne_of_lt ll) (Nat.ne_of_lt ld) hl il hp (fun Hc N vs s' I' hc' xt hz hv => ?_) _ 0 0 _ H B [] rfl (Nat.zero_le _) I3 hc0 (Ext.refl sB) (I2.fpOk (Nat.le_refl _) (I2.hok.fresh (Nat.le_refl _))) ⟨_, Heap.get?_push_size _ rfl, rfl, rfl⟩ rfl .nil⟩
      refine ⟨rfl, .ref s.heap.objs.size, _, I', rfl, ?_⟩
      have x3 := xt.trans (Ext.laid (o := .dK ((dictP kds).1.zip vs)) xt.nh hc')
      exact q _ _ _ x3 (.dk upd_same hz (hv.mono (Ext.laid (o := .dK ((dictP kds).1.zip vs)) xt.nh hc').bn)) (by simp)
end
@[simp] def fNone : FE := fun _ => none
@[simp] def iNone : FA := fun _ => none
theorem hu1 {n : Nat} (h : n + 40 < cLine) : n + 1 < cLine := by omega
section
variable {X : Cx} {e tg : Expr}
theorem je_none : JE X e fNone := fun pins s σ H Q I h => by obtain ⟨B, ρ, d, b, _, _, e, _⟩ := h; cases e
end
def allF (sx : Nat) (fc : FT) : List D → Env → Option Env
  | [], ρ => some ρ
  | d :: ds, ρ => match fc (ρ.set sx (some (d, false))) with
    | some false => allF sx fc ds (ρ.set sx (some (d, false)))
    | _ => none
def gAllF (i sx : Nat) (fc : FT) : FS := fun ρ => match ρ[i]? with
  | some (some (.lst ds, true)) => if sx ≠ i ∧ sx < ρ.length then (allF sx fc ds ρ).map .nx else none
  | _ => none
theorem tDS_allF {K : PySem.W.Frag} {i sx : Nat} {fc : FT} {tb : TS} {E : Ends} {σ : St} {H : Hp} (q : tDS K (gAllF i sx fc) E σ H) :
    tFor (iList K (tVar i)) (gName sx) (tIfS (tDT K fc) tb tNext) E σ H := by
  obtain ⟨B0, H0, ρ, r, ⟨N, s⟩, e, p⟩ := q
  unfold gAllF at e
  split at e
  · rename_i ds hi
    split at e
    · rename_i hne
      obtain ⟨n1, hlt⟩ := hne
      obtain ⟨ρe, e', rfl⟩ := Option.map_eq_some_iff.mp e
      replace e := e'
      clear e'
      obtain ⟨a, vs, ds', e1, hσ, hN, h0, il⟩ := s.owL i _ hi
      cases e1
      refine ⟨.ref a, hσ, a, rfl, ⟨vs, SqL.of (s.ext.nh _ _ hN)⟩, ?_⟩
      refine ⟨fun j m σ H => ∃ (N : Hp) (ρ : Env), StN K B0 H0 N H σ ρ ∧ σ[i]? = some (some (V.ref a)) ∧ ρ[i]? = some (some (.lst ds, true)) ∧ sx < ρ.length ∧ m = ds.length - j ∧ j ≤ ds.length ∧ allF sx fc (ds.drop j) ρ = some ρe, ⟨ds.length, N, ρ, s, hσ, hi, hlt, rfl, Nat.zero_le _, e⟩, ?_⟩
      clear e hN il s hσ hi hlt h0
      rintro j m σ H ⟨N, ρ, s, hσ, hi, hlt, rfl, hj, e⟩
      obtain ⟨a', vs, ds', e1, hσ', hN, h0, il⟩ := s.owL i _ hi
      cases e1
      rw [hσ] at hσ'
      cases hσ'
      have hq : SqL K H a vs := SqL.of (s.ext.nh _ _ hN)
      by_cases hlj : j < ds.length
      · rw [List.drop_eq_getElem_cons hlj] at e
        obtain ⟨x0, hx0, ix0⟩ := il.get (i := j) (d := ds[j]) (by simp [hlj])
        refine .inr ⟨⟨vs, x0, hq, hx0⟩, fun σ' H' => ∃ (N : Hp) (ρ : Env), StN K B0 H0 N H' σ' ρ ∧ σ'[i]? = some (some (V.ref a)) ∧ ρ[i]? = some (some (.lst ds, true)) ∧ sx < ρ.length ∧ allF sx fc (ds.drop (j + 1)) ρ = some ρe, fun σ' H' ⟨N', ρ', k1, k2, k3, k4, k5⟩ => ⟨_, by omega, N', ρ', k1, k2, k3, k4, rfl, hlj, k5⟩, fun x H' y => ?_⟩
        obtain ⟨rfl, y⟩ := y
        have := y vs hq
        rw [hx0] at this
        cases this
        have s1 := s.bind (i := sx) ix0
        have hσ1 : (σ.set sx (some x0))[i]? = some (some (V.ref a)) := by rw [List.getElem?_set_ne n1]; exact hσ
        have hi1 : (ρ.set sx (some (ds[j], false)))[i]? = some (some (.lst ds, true)) := by rw [List.getElem?_set_ne n1]; exact hi
        have hl1 : sx < (ρ.set sx (some (ds[j], false))).length := by rw [List.length_set]; exact hlt
        unfold allF at e
        cases hf : fc (ρ.set sx (some (ds[j], false))) with
        | none => rw [hf] at e; cases e
        | some c =>
          rw [hf] at e
          cases c with
          | true => cases e
          | false =>
            refine ⟨N, _, false, s1.ext.nh, s1.rep, hf, fun H1 h1 => ?_⟩
            have s2 := s1.grow (Ext.grow s1.ext.nh h1)
            show (if false = true then _ else _)
            rw [if_neg (by decide)]
            exact ⟨N, _, s2, hσ1, hi1, hl1, e⟩
      · have ej : j = ds.length := by omega
        subst ej
        rw [List.drop_eq_nil_of_le (Nat.le_refl _)] at e
        cases e
        exact .inl ⟨⟨vs, hq, by rw [il.length]; exact Nat.le_refl _⟩, p σ H ⟨N, s⟩⟩
    · cases e
  · cases e
section
variable {X : Cx} {c : Expr} {pos : Pos}
theorem js_allF {i sx : Nat} {l x : Str} {p1 p2 pos3 : Pos} {fc : FT} {body : List Stmt} {gb : FS} (hp : PassesOwn (model X.prog X.w) X.A X.env X.xe) (hc : X.calm = true) (hN : X.N.Nodup) (ht : JT X c fc) (hb : JSs X body gb)
    (hl : X.N[i]? = some l := by rfl) (hlv : Vis X.env.scope l := by first | exact Or.inl rfl | exact Or.inr (Or.inl rfl) | exact Or.inr (Or.inr rfl)) (hld : (l == ("__debug__" : Str)) = false := by decide) (hlc : (l == ("__classdict__" : Str)) = false := by decide)
    (hx : X.N[sx]? = some x := by rfl) (hxl : Loc X.env.scope x := by first | exact Or.inl rfl | exact Or.inr rfl)
    (hxf : X.fn x = true ∨ X.env.scope.names.lookup x = some .local := by first | exact .inl rfl | exact .inr rfl)
    (hs : ∀ v, foldedSetIterable (.Name l p2) X.env v = pure v := by intro _; rfl) : JS X (.For (.Name x p1) (.Name l p2) [.If c body [] pos3] [] pos) (gAllF i sx fc) :=
  PS.to (ps_for hp hc (pi_list (pe_var hl hlv hld hlc)) (pg_name hN hx hxl hxf) (pss_one (ps_if ht hb pss_nil)) hs) fun _ _ _ q => tDS_allF q
end
theorem set_getD (ρ : Env) (i : Nat) : ρ.set i (ρ.getD i none) = ρ := by
  apply List.ext_getElem?
  intro j
  by_cases h : j = i
  · subst h
    by_cases h2 : j < ρ.length
    · rw [List.getElem?_set_self h2, List.getD_eq_getElem?_getD, List.getElem?_eq_getElem h2]; rfl
    · rw [List.getElem?_eq_none (by simp; omega), List.getElem?_eq_none (by omega)]
  · rw [List.getElem?_set_ne (Ne.symm h)]
theorem allF_ok {sx : Nat} {fc : FT} (ds : List D) : ∀ (ρ : Env), (∀ d ∈ ds, fc (ρ.set sx (some (d, false))) = some false) → ∃ v, allF sx fc ds ρ = some (ρ.set sx v) := by
  induction ds with
  | nil => intro ρ _; exact ⟨ρ.getD sx none, by rw [set_getD]; rfl⟩
  | cons d ds ih =>
    intro ρ h
    have h1 := h d List.mem_cons_self
    obtain ⟨v, e⟩ := ih (ρ.set sx (some (d, false))) fun d' hd' => by rw [List.set_set]; exact h d' (List.mem_cons_of_mem _ hd')
    exact ⟨v, by unfold allF; rw [h1]; dsimp only; rw [e, List.set_set]⟩
@[simp] def repD : D → D → Option (D × Bool)
  | .lst ds, .int k => if 0 ≤ k ∧ ds.length * k.toNat ≤ 1000 ∧ k ≤ 1000 then some (.lst (List.replicate k.toNat ds).flatten, true) else none
  | _, _ => none
@[simp] def fRep (fa fb : FE) : FE := fun ρ => (fa ρ).bind fun x => if x.2 = true then (fb ρ).bind fun y => repD x.1 y.1 else none
theorem IsL.rep {K : PySem.W.Frag} {H : Hp} {vs : List V} {ds : List D} (h : IsL K H vs ds) : ∀ k : Nat, IsL K H (List.replicate k vs).flatten (List.replicate k ds).flatten
  | 0 => .nil
  | k + 1 => by rw [List.replicate_succ, List.replicate_succ, List.flatten_cons, List.flatten_cons]; exact h.append (IsL.rep h k)
section
variable {X : Cx} {a b : Expr} {pos : Pos}
theorem je_rep {fa fb : FE} (ha : JE X a fa) (hb : JE X b fb) : JE X (.BinOp a .Mult b pos) (fRep fa fb) := by
  refine PE.to (pe_op op_rep ha hb) fun σ H Q q => ?_
  obtain ⟨B, ρ, d, bb, sB, r, ee, q⟩ := q
  obtain ⟨x, ex, ee⟩ := Option.bind_eq_some_iff.mp ee
  split at ee
  · rename_i hx
    obtain ⟨⟨yd, yb⟩, ey, ee⟩ := Option.bind_eq_some_iff.mp ee
    refine ⟨B, ρ, x.1, x.2, sB, r, ex, fun v H1 N1 x1 i1 fr => ⟨N1, ρ, yd, yb, x1.nh, r.mono x1.bn, ey, fun u H2 N2 x2 i2 hfr => ?_⟩⟩
    obtain ⟨a0, vs, ds, rfl, e1, h0, h1, il⟩ := fr hx
    rw [e1] at ee
    clear hfr
    cases i2 <;> try (simp [repD] at ee; done)
    rename_i k
    simp only [repD] at ee
    split at ee
    · rename_i hk
      cases ee
      have hl := il.length
      refine ⟨a0, k, vs, rfl, rfl, x2.nh _ _ (x2.bn _ _ h1), by omega, by omega, by rw [hl]; exact Nat.le_trans hk.2.1 (by decide : (1000 : Nat) ≤ sizeLine), fun p hp => ?_⟩
      have x3 := Ext.laid (o := .lst (List.replicate k.toNat vs).flatten) x2.nh hp
      have il3 := ((il.mono x2.bn).mono x3.bn).rep k.toNat
      exact q _ _ _ ((x1.trans x2).trans x3) (.lst (SqL.of upd_same) il3) fun _ => ⟨_, _, _, rfl, rfl, (x1.trans x2).hh.free hp, upd_same, il3⟩
    · cases ee
  · cases ee
end
end DL
namespace DL
open PySem L2
theorem forL_inv {tg : FG} {g : FS} (I : Nat → Env → Prop) (ds : List D) (ρ0 : Env) (h0 : I 0 ρ0)
    (step : ∀ i d ρ, ds[i]? = some d → I i ρ → ∃ ρ1 ρ', tg d ρ = some ρ1 ∧ (g ρ1 = some (.nx ρ') ∨ g ρ1 = some (.ct ρ')) ∧ I (i + 1) ρ') :
    ∃ ρ', forL tg g ds ρ0 = some (.nx ρ') ∧ I ds.length ρ' := by
  have key : ∀ (es : List D) (i : Nat) (ρ : Env), ds.drop i = es → i + es.length = ds.length → I i ρ → ∃ ρ', forL tg g es ρ = some (.nx ρ') ∧ I ds.length ρ' := by
    intro es
    induction es with
    | nil => intro i ρ e hl h; refine ⟨ρ, by rw [forL_nil], ?_⟩; rw [← hl]; exact h
    | cons d es ih =>
      intro i ρ e hl h
      have hd : ds[i]? = some d := by
        have : (ds.drop i)[0]? = some d := by rw [e]; rfl
        rwa [List.getElem?_drop, Nat.add_zero] at this
      obtain ⟨ρ1, ρ', h1, h2, h3⟩ := step i d ρ hd h
      have he : ds.drop (i + 1) = es := by rw [← List.drop_drop, e]; rfl
      obtain ⟨ρ2, k1, k2⟩ := ih (i + 1) ρ' he (by simp at hl; omega) h3
      refine ⟨ρ2, ?_, k2⟩
      rw [forL_cons, h1]
      rcases h2 with h2 | h2 <;> simp only [Option.bind_some, h2] <;> exact k1
  exact key ds 0 ρ0 (by simp) (by simp) h0
theorem forR_inv {tg : FG} {g : FS} (n : Nat) (I : Nat → Env → Prop) (ρ0 : Env) (h0 : I 0 ρ0)
    (step : ∀ (i : Nat) ρ, i < n → I i ρ → ∃ ρ1 ρ', tg (.int (i : Int)) ρ = some ρ1 ∧ (g ρ1 = some (.nx ρ') ∨ g ρ1 = some (.ct ρ')) ∧ I (i + 1) ρ') :
    ∃ ρ', forL tg g (rangeD 0 n) ρ0 = some (.nx ρ') ∧ I n ρ' := by
  have hl : (rangeD 0 n).length = n := by simp [rangeD]
  obtain ⟨ρ', h1, h2⟩ := forL_inv (tg := tg) (g := g) I (rangeD 0 n) ρ0 h0 fun i d ρ hd h => by
    unfold rangeD at hd
    rw [List.getElem?_map] at hd
    obtain ⟨k, hk, hd⟩ := Option.map_eq_some_iff.mp hd
    obtain ⟨hlt, hk⟩ := List.getElem?_eq_some_iff.mp hk
    rw [List.length_range] at hlt
    rw [List.getElem_range] at hk
    subst hk
    rw [Int.zero_add] at hd
    subst hd
    exact step i ρ hlt h
  rw [hl] at h2
  exact ⟨ρ', h1, h2⟩
theorem atI_ge {α : Type} {xs : List α} {j : Nat} (h : j < xs.length) : atI xs (j : Int) = some xs[j] := atI_nat (by simp [h])
theorem atI_int {α : Type} {xs : List α} {i : Int} (h0 : 0 ≤ i) (h : i.toNat < xs.length) : atI xs i = some xs[i.toNat] := by
  have := atI_ge h
  rwa [Int.toNat_of_nonneg h0] at this
@[simp] theorem noLsts_ints (xs : List Int) : noLsts (xs.map D.int) = true := by
  induction xs with
  | nil => simp
  | cons x xs ih => simp [ih]
@[simp] theorem allPlain_ints (n : Nat) (xs : List Int) : (xs.map D.int).all (plainN n) = true := by
  induction xs with
  | nil => simp
  | cons x xs ih => simpa using ih
@[simp] theorem allFlat_ints (xs : List Int) : (xs.map D.int).all flatD = true := by
  induction xs with
  | nil => simp
  | cons x xs ih => simpa using ih
theorem rangeD_eq (n : Nat) : rangeD 0 n = ((List.range n).map fun (k : Nat) => (k : Int)).map D.int := by
  unfold rangeD
  rw [List.map_map]
  apply List.map_congr_left
  intro k _
  simp
mutual
def sameD : D → D → Bool
  | .non, .non => true
  | .bl a, .bl b => a == b
  | .int a, .int b => decide (a = b)
  | .str a, .str b => decide (a = b)
  | .ty a, .ty b => decide (a = b)
  | .tup xs, .tup ys => sameDs xs ys
  | .lst xs, .lst ys => sameDs xs ys
  | _, _ => false
def sameDs : List D → List D → Bool
  | [], [] => true
  | x :: xs, y :: ys => sameD x y && sameDs xs ys
  | _, _ => false
end
mutual
theorem same_eq : ∀ {x y : D}, sameD x y = true → x = y
  | .non, .non, _ => rfl
  | .bl a, .bl b, h => by simp [sameD] at h; rw [h]
  | .int a, .int b, h => by simp [sameD] at h; rw [h]
  | .str a, .str b, h => by simp [sameD] at h; rw [h]
  | .ty a, .ty b, h => by simp [sameD] at h; rw [h]
  | .tup xs, .tup ys, h => by rw [sameD] at h; rw [sames_eq h]
  | .lst xs, .lst ys, h => by rw [sameD] at h; rw [sames_eq h]
theorem sames_eq : ∀ {xs ys : List D}, sameDs xs ys = true → xs = ys
  | [], [], _ => rfl
  | x :: xs, y :: ys, h => by
    rw [sameDs, Bool.and_eq_true] at h
    rw [same_eq h.1, sames_eq h.2]
end
def isR (r : Option (D × Bool)) (d : D) (b : Bool) : Bool := match r with
  | some (e, c) => sameD e d && c == b
  | none => false
theorem isR_eq {r : Option (D × Bool)} {d : D} {b : Bool} (h : isR r d b = true) : r = some (d, b) := by
  unfold isR at h
  split at h
  · rw [Bool.and_eq_true] at h
    rw [same_eq h.1, eq_of_beq h.2]
  · cases h
section
variable {f : FE} {c : FT} {g g' h : FS} {ρ ρ' : Env} {i : Nat} {d : D} {b : Bool} {r : Option Res} {ds : List D}
theorem body_rt {n k : Nat} (hl : ds.length = n) (e : g (ds.map (fun d => some (d, false)) ++ List.replicate k none) = some (.rt d b)) : bodyF g n k ds = some (d, b) := by
  unfold bodyF; rw [if_pos hl, e]
theorem setE_flat (n : noLst d = true) : setE ρ i d b = ρ.set i (some (d, false)) := by unfold setE; rw [if_pos n]
theorem setE_own (n : noLsts ds = true) : setE ρ i (.lst ds) true = ρ.set i (some (.lst ds, true)) := by
  unfold setE
  rw [if_neg (by simp), if_pos ⟨rfl, by simpa using n⟩]
theorem r_set (e : f ρ = some (d, b)) (k : h (setE ρ i d b) = r) : gSeq (gSet i f) h ρ = r := by simp [e]; exact k
theorem r_flat (e : f ρ = some (d, b)) (n : noLst d = true) (k : h (ρ.set i (some (d, false))) = r) : gSeq (gSet i f) h ρ = r := r_set e (by rw [setE_flat n]; exact k)
theorem r_own (e : f ρ = some (.lst ds, true)) (n : noLsts ds = true) (k : h (ρ.set i (some (.lst ds, true))) = r) : gSeq (gSet i f) h ρ = r := r_set e (by rw [setE_own n]; exact k)
theorem r_seq (e : g ρ = some (.nx ρ')) (k : h ρ' = r) : gSeq g h ρ = r := by unfold gSeq; rw [e]; exact k
theorem r_rt (e : g ρ = some (.rt d b)) : gSeq g h ρ = some (.rt d b) := by unfold gSeq; rw [e]
theorem r_ct (e : g ρ = some (.ct ρ')) : gSeq g h ρ = some (.ct ρ') := by unfold gSeq; rw [e]
theorem if_t (e : c ρ = some true) (k : g ρ = r) : gIf c g g' ρ = r := by unfold gIf; rw [e]; exact k
theorem if_f (e : c ρ = some false) (k : g' ρ = r) : gIf c g g' ρ = r := by unfold gIf; rw [e]; exact k
theorem r_if_t (e : c ρ = some true) (k : g ρ = some (.rt d b)) : gSeq (gIf c g g') h ρ = some (.rt d b) := r_rt (if_t e k)
theorem r_if_f (e : c ρ = some false) (k : h ρ = r) : gSeq (gIf c g gNext) h ρ = r := r_seq (if_f e rfl) k
theorem ret_ok (e : f ρ = some (d, b)) : gRet f ρ = some (.rt d b) := by simp [e]
theorem retV_ok (e : ρ[i]? = some (some (d, b))) (hb : isBox d = false := by rfl) : gRetV i ρ = some (.rt d b) := by simp only [gRetV, e, hb]; simp
theorem set_flat (e : f ρ = some (d, b)) (n : noLst d = true) : gSet i f ρ = some (.nx (ρ.set i (some (d, false)))) := by
  show (f ρ).map _ = _
  rw [e, Option.map_some, setE_flat n]
theorem set_own (e : f ρ = some (.lst ds, true)) (n : noLsts ds = true) : gSet i f ρ = some (.nx (ρ.set i (some (.lst ds, true)))) := by
  show (f ρ).map _ = _
  rw [e, Option.map_some, setE_own n]
theorem app_ok (e : ρ[i]? = some (some (.lst ds, true))) (ef : f ρ = some (d, b)) (n : noLst d = true) (l : ds.length < sizeLine) : gApp i f ρ = some (.nx (ρ.set i (some (.lst (ds ++ [d]), true)))) := by
  simp [e, ef, n, l]
theorem r_app (e : ρ[i]? = some (some (.lst ds, true))) (ef : f ρ = some (d, b)) (n : noLst d = true) (l : ds.length < sizeLine) (k : h (ρ.set i (some (.lst (ds ++ [d]), true))) = r) : gSeq (gApp i f) h ρ = r := r_seq (app_ok e ef n l) k
theorem forR_run {fi : FA} {tg : FG} {ds : List D} (e : fi ρ = some ds) (k : forL tg g ds ρ = some (.nx ρ')) : gForR fi tg g ρ = some (.nx ρ') := by unfold gForR; rw [e]; exact k
theorem for_run {fi : FA} {tg : FG} {ds : List D} (e : fi (hide ρ) = some ds) (k : forL tg g ds ρ = some (.nx ρ')) : gFor fi tg g ρ = some (.nx ρ') := by unfold gFor; rw [e]; exact k
theorem iRange_ok {f : FE} {j : Nat} (e : f ρ = some (.int j, b)) (hj : j ≤ 1000) : iRange f ρ = some (rangeD 0 j) := by
  unfold iRange; rw [e]; simp only []; rw [if_pos (by omega)]; simp
theorem tOf_ok {x : Bool} (e : f ρ = some (.bl x, b)) : tOf f ρ = some x := by unfold tOf; rw [e]
theorem call_ok {F : List D → Option (D × Bool)} {fa : FA} {x : Option (D × Bool)} (e : fa ρ = some ds) (k : F ds = x) : fA F fa ρ = x := by unfold fA; rw [e, Option.bind_some]; exact k
theorem chain_ok {f1 g1 : D → D → Option (D × Bool)} {fa fb fc : FE} {x y z : D} {b1 b2 b3 b4 p q : Bool} (ea : fa ρ = some (x, b1)) (eb : fb ρ = some (y, b2)) (ec : fc ρ = some (z, b3)) (e1 : f1 x y = some (.bl p, b4)) (e2 : p = true → g1 y z = some (.bl q, false)) : fChain f1 g1 fa fb fc ρ = some (.bl (p && q), false) := by
  unfold fChain
  rw [ea, eb, ec]
  simp only [Option.bind_some, e1]
  cases p
  · rfl
  · exact e2 rfl
theorem and_ok {f1 f2 : FE} {p q b1 : Bool} (e1 : f1 ρ = some (.bl p, b1)) (e2 : p = true → f2 ρ = some (.bl q, false)) : fAnd f1 f2 ρ = some (.bl (p && q), false) := by
  unfold fAnd
  rw [e1]
  cases p
  · rfl
  · exact e2 rfl
theorem or_ok {f1 f2 : FE} {p q b1 : Bool} (e1 : f1 ρ = some (.bl p, b1)) (e2 : p = false → f2 ρ = some (.bl q, false)) : fOr f1 f2 ρ = some (.bl (p || q), false) := by
  unfold fOr
  rw [e1]
  cases p
  · exact e2 rfl
  · rfl
theorem a_cons {fr : FA} {xs : List D} (e1 : f ρ = some (d, b)) (e2 : fr ρ = some xs) : fCons f fr ρ = some (d :: xs) := by
  unfold fCons; rw [e1, Option.bind_some, e2, Option.bind_some]
theorem e_op {op : D → D → Option (D × Bool)} {fa fb : FE} {x y : D} {b1 b2 : Bool} {z : Option (D × Bool)} (e1 : fa ρ = some (x, b1)) (e2 : fb ρ = some (y, b2)) (e3 : op x y = z) : f2 op fa fb ρ = z := by
  unfold f2; rw [e1, Option.bind_some, e2, Option.bind_some]; exact e3
theorem tand_ok {c1 c2 : FT} {p q : Bool} (e1 : c1 ρ = some p) (e2 : p = true → c2 ρ = some q) : tAndF c1 c2 ρ = some (p && q) := by
  unfold tAndF
  rw [e1]
  cases p
  · rfl
  · exact e2 rfl
theorem tor_ok {c1 c2 : FT} {p q : Bool} (e1 : c1 ρ = some p) (e2 : p = false → c2 ρ = some q) : tOrF c1 c2 ρ = some (p || q) := by
  unfold tOrF
  rw [e1]
  cases p
  · exact e2 rfl
  · rfl
theorem tnot_ok {c1 : FT} {p : Bool} (e1 : c1 ρ = some p) : tNotF c1 ρ = some (!p) := by
  unfold tNotF; rw [e1]; rfl
end
theorem lt1 (a c : Nat) : decide ([a] < [c]) = decide (a < c) := by
  congr 1
  rw [List.cons_lt_cons_iff]
  simp
@[simp] theorem le_sign (a c : Nat) : dLe (.str ⟨#[a]⟩) (.str ⟨#[c]⟩) = some (.bl (decide (a ≤ c)), false) := by
  unfold dLe
  show some (D.bl (!decide ([c] < [a])), false) = _
  rw [lt1]
  congr 3
  by_cases h : c < a
  · rw [decide_eq_true h, decide_eq_false (by omega)]; rfl
  · rw [decide_eq_false h, decide_eq_true (by omega)]; rfl
theorem small_size {n : Nat} (h : n ≤ 100000) : n < sizeLine := Nat.lt_of_le_of_lt h (by decide)
theorem small_le {n : Nat} (h : n ≤ 100000) : n ≤ sizeLine := Nat.le_of_lt (small_size h)
theorem compM {α : Type} {fi : FA} {nT : Nat} {cap : List Nat} {tg : FG} {c : FT} {fe : FE} {ρ : DL.Env} (l : List α) (g : α → D) (p : α → Bool) (h : α → D) (e : fi ρ = some (l.map g)) (hl : l.length ≤ 100000)
    (k : ∀ x ∈ l, ∃ ρ1, tg (g x) (capE nT cap ρ) = some ρ1 ∧ c ρ1 = some (p x) ∧ (p x = true → ∃ b, fe ρ1 = some (h x, b))) : fComp fi nT cap tg c fe ρ = some (.lst ((l.filter p).map h), true) := by
  have key : ∀ l' : List α, (∀ x ∈ l', x ∈ l) → compL tg c fe (capE nT cap ρ) (l'.map g) = some ((l'.filter p).map h) := by
    intro l'
    induction l' with
    | nil => intro _; simp
    | cons x l' ih =>
      intro hm
      obtain ⟨ρ1, h1, h2, h3⟩ := k x (hm x List.mem_cons_self)
      have ih := ih fun y hy => hm y (List.mem_cons_of_mem _ hy)
      rw [List.map_cons, compL_cons, h1, Option.bind_some, h2, Option.bind_some]
      cases hp : p x with
      | false => simp [hp, ih]
      | true =>
        obtain ⟨b, h4⟩ := h3 hp
        simp [hp, ih, h4]
  unfold fComp
  rw [e, Option.bind_some, if_pos (small_le (by simpa using hl)), key l fun _ h => h, Option.map_some]
theorem compT {α : Type} {fi : FA} {nT : Nat} {cap : List Nat} {tg : FG} {fe : FE} {ρ : DL.Env} (l : List α) (g : α → D) (h : α → D) (e : fi ρ = some (l.map g)) (hl : l.length ≤ 100000)
    (k : ∀ x ∈ l, ∃ ρ1, tg (g x) (capE nT cap ρ) = some ρ1 ∧ ∃ b, fe ρ1 = some (h x, b)) : fComp fi nT cap tg cTrue fe ρ = some (.lst (l.map h), true) := by
  have := compM (c := cTrue) (fe := fe) l g (fun _ => true) h e hl fun x hx => by
    obtain ⟨ρ1, h1, h2⟩ := k x hx
    exact ⟨ρ1, h1, rfl, fun _ => h2⟩
  rw [List.filter_eq_self.mpr fun _ _ => rfl] at this
  exact this
@[simp] theorem blsD_map {α : Type} (f : α → Bool) (l : List α) : blsD (l.map fun x => .bl (f x)) = some (l.map f) := by
  induction l with
  | nil => rfl
  | cons x l ih => simp [ih]
theorem ix_str {z : Str} {i : Int} (h0 : 0 ≤ i) (h : i.toNat < z.cps.size) (hz : z.length ≤ 100000) : ixD (.str z) (.int i) = some (.str ⟨#[z.cps.toList.getD i.toNat 0]⟩, false) := by
  have hh : i.toNat < z.cps.toList.length := by simpa using h
  simp only [ixD]
  rw [if_pos (small_le hz), atI_int h0 hh]
  simp [List.getD, h]
theorem ix_lst {ds : List D} {i : Int} (h0 : 0 ≤ i) (h : i.toNat < ds.length) : ixD (.lst ds) (.int i) = some (ds.getD i.toNat .non, false) := by
  simp only [ixD]
  rw [atI_int h0 h]
  simp [List.getD, h]
theorem ix_tup {ds : List D} {i : Int} (h0 : 0 ≤ i) (h : i.toNat < ds.length) : ixD (.tup ds) (.int i) = some (ds.getD i.toNat .non, false) := by
  simp only [ixD]
  rw [atI_int h0 h]
  simp [List.getD, h]
theorem ix_ints {xs : List Int} {i : Int} (h0 : 0 ≤ i) (h : i.toNat < xs.length) : ixD (.lst (xs.map .int)) (.int i) = some (.int (xs.getD i.toNat 0), false) := by
  rw [ix_lst h0 (by simpa using h)]
  simp [List.getD, h]
theorem mod_lt {x m : Int} (hm : 0 < m) : 0 ≤ x % m ∧ x % m < m := ⟨Int.emod_nonneg _ (by omega), Int.emod_lt_of_pos _ hm⟩
end DL
namespace Lw
open PySem DL
def c_PAPERS : D := (.tup [(.str ("paper" : PySem.Str)), (.str ("like" : PySem.Str)), (.str ("copy" : PySem.Str))])
def c_PARTS : List (PySem.Str × D) := [(("root" : PySem.Str), (.tup [(.str ("office" : PySem.Str)), (.str ("matters" : PySem.Str)), (.str ("further" : PySem.Str)), (.str ("rule" : PySem.Str))])), (("named" : PySem.Str), (.tup [(.str ("day" : PySem.Str)), (.str ("office" : PySem.Str)), (.str ("person" : PySem.Str))])), (("chosen" : PySem.Str), (.tup [(.str ("day" : PySem.Str)), (.str ("by" : PySem.Str)), (.str ("office" : PySem.Str)), (.str ("person" : PySem.Str)), (.str ("since" : PySem.Str))])), (("heir" : PySem.Str), (.tup [(.str ("day" : PySem.Str)), (.str ("by" : PySem.Str)), (.str ("office" : PySem.Str)), (.str ("person" : PySem.Str))])), (("death" : PySem.Str), (.tup [(.str ("day" : PySem.Str)), (.str ("person" : PySem.Str))])), (("lost" : PySem.Str), (.tup [(.str ("day" : PySem.Str)), (.str ("person" : PySem.Str))])), (("found" : PySem.Str), (.tup [(.str ("day" : PySem.Str)), (.str ("person" : PySem.Str))])), (("leave" : PySem.Str), (.tup [(.str ("day" : PySem.Str)), (.str ("by" : PySem.Str)), (.str ("person" : PySem.Str)), (.str ("matters" : PySem.Str)), (.str ("stretch" : PySem.Str)), (.str ("further" : PySem.Str))])), (("paper" : PySem.Str), (.tup [(.str ("day" : PySem.Str)), (.str ("by" : PySem.Str)), (.str ("matters" : PySem.Str)), (.str ("stretch" : PySem.Str)), (.str ("whom" : PySem.Str)), (.str ("pieces" : PySem.Str))])), (("like" : PySem.Str), (.tup [(.str ("day" : PySem.Str)), (.str ("by" : PySem.Str)), (.str ("matters" : PySem.Str)), (.str ("stretch" : PySem.Str)), (.str ("whom" : PySem.Str)), (.str ("of" : PySem.Str)), (.str ("changes" : PySem.Str))])), (("copy" : PySem.Str), (.tup [(.str ("day" : PySem.Str)), (.str ("by" : PySem.Str)), (.str ("of" : PySem.Str))])), (("call" : PySem.Str), (.tup [(.str ("day" : PySem.Str)), (.str ("by" : PySem.Str)), (.str ("of" : PySem.Str))]))]
def g_word_of : FS :=
    (gRet (f2 ixD (f2 ixD (fVar 0) (fC (.int 1))) (fC (.int 0))))
def F_word_of : List D → Option (D × Bool) := bodyF g_word_of 1 0
def g_part_of : FS :=
    (gRet (f2 ixD (f2 ixD (fVar 0) (fC (.int 1))) (f2 dAdd (fC (.int 1)) (f2 (cIdx c_PARTS) (fA F_word_of (fCons (fVar 0) fNil)) (fVar 1)))))
def F_part_of : List D → Option (D × Bool) := bodyF g_part_of 2 0
def g_day_of : FS :=
    (gSeq (gIf (tOf (f2 dEq (fA F_word_of (fCons (fVar 0) fNil)) (fC (.str ("root" : PySem.Str))))) (gRet (fC .non)) gNext)
    (gRet (fA F_part_of (fCons (fVar 0) (fCons (fC (.str ("day" : PySem.Str))) fNil)))))
def F_day_of : List D → Option (D × Bool) := bodyF g_day_of 1 0
def g_heard : FS :=
    (gRet (fComp (iEnum (fVar 0)) 2 [1] (tgT [0, 1]) (tOf (f2 dLe (f2 ixD (fVar 1) (fC (.int 0))) (fVar 2))) (fVar 0)))
def F_heard : List D → Option (D × Bool) := bodyF g_heard 2 0
def g_rank : FS :=
    (gRet (fA mkTup (fCons (fA F_day_of (fCons (f2 ixD (fVar 0) (fVar 1)) fNil)) (fCons (fVar 1) fNil))))
def F_rank : List D → Option (D × Bool) := bodyF g_rank 2 0
def g_in_order : FS :=
    (gSeq (gSet 2 (fComp (iSeq (fA F_heard (fCons (fVar 0) (fCons (fVar 1) fNil)))) 1 [0] (tgN 0) (tOf (f2 dIsNot (fA F_day_of (fCons (f2 ixD (fVar 1) (fVar 0)) fNil)) (fC .non))) (fVar 0)))
    (gRet (fSortK (fVar 2) (keyL [0] (fA F_rank (fCons (fVar 1) (fCons (fVar 0) fNil)))))))
def F_in_order : List D → Option (D × Bool) := bodyF g_in_order 2 1
def g_by_office : FS :=
    (gRet (fA mkTup (fCons (f2 ixD (fVar 0) (fC (.int 0))) (fCons (f2 ixD (fVar 0) (fC (.int 2))) (fCons (f2 ixD (fVar 0) (fC (.int 4))) fNil)))))
def F_by_office : List D → Option (D × Bool) := bodyF g_by_office 1 0
def g_roots : FS :=
    (gSeq (gSet 2 (fComp (iSeq (fA F_heard (fCons (fVar 0) (fCons (fVar 1) fNil)))) 1 [0] (tgN 0) cTrue (f2 ixD (fVar 1) (fVar 0))))
    (gRet (fA to_dict (fCons (fComp (iSeq (fVar 2)) 1 [] (tgN 0) (tOf (f2 dEq (fA F_word_of (fCons (fVar 0) fNil)) (fC (.str ("root" : PySem.Str))))) (fA mkTup (fCons (fA F_part_of (fCons (fVar 0) (fCons (fC (.str ("office" : PySem.Str))) fNil))) (fCons (fVar 0) fNil)))) fNil))))
def F_roots : List D → Option (D × Bool) := bodyF g_roots 2 1
def g_counts : FS :=
    (gSeq (gSet 4 (f2 ixD (fVar 0) (fVar 3)))
    (gSeq (gIf (tOf (f2 dEq (fA F_word_of (fCons (fVar 4) fNil)) (fC (.str ("death" : PySem.Str))))) (gRet fNone) gNext)
    (gSeq (gIf (tOf (f2 dNotIn (fA F_word_of (fCons (fVar 4) fNil)) (fA mkTup (fCons (fC (.str ("named" : PySem.Str))) (fCons (fC (.str ("chosen" : PySem.Str))) (fCons (fC (.str ("heir" : PySem.Str))) fNil)))))) (gRet (fC (.bl false))) gNext)
    (gSeq (gSet 5 (f2 getK (fA F_roots (fCons (fVar 0) (fCons (fVar 1) fNil))) (fA F_part_of (fCons (fVar 4) (fCons (fC (.str ("office" : PySem.Str))) fNil)))))
    (gSeq (gIf (tOf (f2 dIs (fVar 5) (fC .non))) (gRet (fC (.bl false))) gNext)
    (gSeq (gIf (tOf (f2 dEq (fA F_word_of (fCons (fVar 4) fNil)) (fC (.str ("named" : PySem.Str))))) (gRet (fC (.bl true))) gNext)
    (gRet (fAnd fNone fNone))))))))
def F_counts : List D → Option (D × Bool) := bodyF g_counts 4 2
def g_new_claim : FS :=
    (gRet (fA mkTup (fCons (fA F_part_of (fCons (fVar 0) (fCons (fC (.str ("office" : PySem.Str))) fNil))) (fCons (fA F_part_of (fCons (fVar 0) (fCons (fC (.str ("person" : PySem.Str))) fNil))) (fCons (fVar 1) (fCons (fC .non) (fCons (fVar 2) fNil)))))))
def F_new_claim : List D → Option (D × Bool) := bodyF g_new_claim 3 0
def B1_claims : FS :=
    (gSeq (gSet 5 (f2 ixD (fVar 0) (fVar 4)))
    (gSeq (gIf (tNotF (tOf (fA F_counts (fCons (fVar 0) (fCons (fVar 1) (fCons (fVar 2) (fCons (fVar 4) fNil))))))) gCont gNext)
    (gIf (tOf (f2 dEq (fA F_word_of (fCons (fVar 5) fNil)) (fC (.str ("named" : PySem.Str))))) (gSet 2 (f2 dAdd (fVar 2) (fA mkLst (fCons (fA F_new_claim (fCons (fVar 5) (fCons (fA F_day_of (fCons (fVar 5) fNil)) (fCons (fVar 4) fNil)))) fNil)))) (gIf (tOf (f2 dEq (fA F_word_of (fCons (fVar 5) fNil)) (fC (.str ("chosen" : PySem.Str))))) (gSet 2 fNone) (gIf (tOf (f2 dEq (fA F_word_of (fCons (fVar 5) fNil)) (fC (.str ("heir" : PySem.Str))))) (gPut 3 (fA mkTup (fCons (fA F_part_of (fCons (fVar 5) (fCons (fC (.str ("office" : PySem.Str))) fNil))) (fCons (fA F_part_of (fCons (fVar 5) (fCons (fC (.str ("by" : PySem.Str))) fNil))) fNil))) (fA F_part_of (fCons (fVar 5) (fCons (fC (.str ("person" : PySem.Str))) fNil)))) (gSet 2 fNone))))))
def g_claims : FS :=
    (gSeq (gSet 2 (fA mkLst fNil))
    (gSeq (gNewT 3)
    (gSeq (gFor (iSeq (fA F_in_order (fCons (fVar 0) (fCons (fVar 1) fNil)))) (tgN 4) B1_claims)
    (gRet (fSortK (fVar 2) (keyF F_by_office))))))
def F_claims : List D → Option (D × Bool) := bodyF g_claims 2 4
def g_is_known : FS :=
    (gRet (fAnd (fChain dLe dLt (fC (.int 0)) (fVar 2) (fA lenD (fCons (fVar 0) fNil))) (f2 dLe (f2 ixD (f2 ixD (fVar 0) (fVar 2)) (fC (.int 0))) (fVar 1))))
def F_is_known : List D → Option (D × Bool) := bodyF g_is_known 3 0
def g_is_paper : FS :=
    (gRet (fAnd (fA F_is_known (fCons (fVar 0) (fCons (fVar 1) (fCons (fVar 2) fNil)))) (f2 dIn (fA F_word_of (fCons (f2 ixD (fVar 0) (fVar 2)) fNil)) (fC c_PAPERS))))
def F_is_paper : List D → Option (D × Bool) := bodyF g_is_paper 3 0
def g_is_leave : FS :=
    (gRet (fAnd (fA F_is_known (fCons (fVar 0) (fCons (fVar 1) (fCons (fVar 2) fNil)))) (f2 dEq (fA F_word_of (fCons (f2 ixD (fVar 0) (fVar 2)) fNil)) (fC (.str ("leave" : PySem.Str))))))
def F_is_leave : List D → Option (D × Bool) := bodyF g_is_leave 3 0
def g_is_borne : FS :=
    (gRet (fOr (fA F_is_leave (fCons (fVar 0) (fCons (fVar 1) (fCons (fVar 2) fNil)))) (fA F_is_paper (fCons (fVar 0) (fCons (fVar 1) (fCons (fVar 2) fNil))))))
def F_is_borne : List D → Option (D × Bool) := bodyF g_is_borne 3 0
def g_is_ahead : FS :=
    (gRet (f2 tLt (fA F_rank (fCons (fVar 0) (fCons (fVar 1) fNil))) (fA F_rank (fCons (fVar 0) (fCons (fVar 2) fNil)))))
def F_is_ahead : List D → Option (D × Bool) := bodyF g_is_ahead 3 0
def g_copy_bases : FS :=
    (gSeq (gSet 3 (fA F_part_of (fCons (f2 ixD (fVar 0) (fVar 2)) (fCons (fC (.str ("of" : PySem.Str))) fNil))))
    (gSeq (gIf (tAndF (tOf (fA F_is_paper (fCons (fVar 0) (fCons (fVar 1) (fCons (fVar 3) fNil))))) (tOf (fA F_is_ahead (fCons (fVar 0) (fCons (fVar 3) (fCons (fVar 2) fNil)))))) (gRet (fA mkLst (fCons (fA mkTup (fCons (fC (.str ("copy" : PySem.Str))) (fCons (fVar 3) fNil))) fNil))) gNext)
    (gRet (fA mkLst fNil))))
def F_copy_bases : List D → Option (D × Bool) := bodyF g_copy_bases 3 1
def g_bases_by : FS :=
    (gSeq (gIf (tNotF (tOf (fA F_is_borne (fCons (fVar 0) (fCons (fVar 1) (fCons (fVar 3) fNil)))))) (gRet (fA mkLst fNil)) gNext)
    (gSeq (gIf (tOf (f2 dEq (fA F_word_of (fCons (f2 ixD (fVar 0) (fVar 3)) fNil)) (fC (.str ("copy" : PySem.Str))))) (gRet (fA F_copy_bases (fCons (fVar 0) (fCons (fVar 1) (fCons (fVar 3) fNil))))) gNext)
    (gSeq (gSet 4 (f2 dAdd fNone fNone))
    (gRet (fSortK (fVar 4) (keyL [] (fA mkTup (fCons (f2 ixD (fVar 0) (f1 iNeg (fC (.int 1)))) (fCons (fVar 0) fNil)))))))))
def F_bases_by : List D → Option (D × Bool) := bodyF g_bases_by 4 1
def g_bases : FS :=
    (gRet (fA F_bases_by (fCons (fVar 0) (fCons (fVar 1) (fCons (fA F_claims (fCons (fVar 0) (fCons (fVar 1) fNil))) (fCons (fVar 2) fNil))))))
def F_bases : List D → Option (D × Bool) := bodyF g_bases 3 0
def g_w_cell : FS :=
    (gSeq (gSet 2 (fC (.int 5)))
    (gSeq (gIf (tOf (f2 iGt (fA lenD (fCons (fVar 0) fNil)) (fC (.int 0)))) (gSet 2 (f2 ixD (fVar 0) (f2 iMod (fVar 1) (fA lenD (fCons (fVar 0) fNil))))) gNext)
    (gSeq (gSet 2 (f2 iMod (f2 dMul (f2 dAdd (f2 dAdd (f2 iMod (fVar 2) (fC (.int 2147483629))) (f2 dMul (fC (.int 6151)) (fVar 1))) (fC (.int 1))) (fC (.int 48271))) (fC (.int 2147483647))))
    (gRet (f2 iMod (f2 dMul (fVar 2) (f2 dAdd (f2 dAdd (f2 iMod (fVar 2) (fC (.int 65519))) (fVar 1)) (fC (.int 2)))) (fC (.int 2147483629)))))))
def F_w_cell : List D → Option (D × Bool) := bodyF g_w_cell 2 1
def B1_w_names : FS :=
    (gSeq (gSet 6 (fA to_list (fCons (fVar 2) fNil)))
    (gSeq (gPut 6 (fVar 3) (f2 ixD (fVar 1) (f2 iMod (f2 dAdd (f2 iDiv (fVar 0) (fC (.int 64))) (f2 dMul (fC (.int 3)) (fVar 5))) (fC (.int 26)))))
    (gApp 4 (f2 joinD (fC (.str ("" : PySem.Str))) (fVar 6)))))
def g_w_names : FS :=
    (gSeq (gSet 1 (fC (.str ("abcdefghijklmnopqrstuvwxyz" : PySem.Str))))
    (gSeq (gSet 2 (fComp (iRange (f2 dAdd (fC (.int 1)) (f2 iMod (fVar 0) (fC (.int 8))))) 1 [1, 0] (tgN 0) cTrue (f2 ixD (fVar 1) (f2 iMod (f2 iDiv (fVar 2) (f2 dAdd (fC (.int 3)) (f2 dMul (fC (.int 4)) (fVar 0)))) (fC (.int 26))))))
    (gSeq (gSet 3 (f2 iMod (f2 iDiv (fVar 0) (fC (.int 8))) (fA lenD (fCons (fVar 2) fNil))))
    (gSeq (gSet 4 (fA mkLst fNil))
    (gSeq (gForR (iRange (fC (.int 7))) (tgN 5) B1_w_names)
    (gSeq (gIf (tOf (f2 dEq (f2 iMod (f2 iDiv (fVar 0) (fC (.int 1000))) (fC (.int 8))) (fC (.int 1)))) (gPut 4 (fC (.int 5)) (f2 ixD (fVar 4) (fC (.int 0)))) gNext)
    (gRetV 4)))))))
def F_w_names : List D → Option (D × Bool) := bodyF g_w_names 1 6
def g_w_stretch : FS :=
    (gSeq (gSet 3 (fA mkLst (fCons (fA mkTup (fCons (fC (.int 0)) (fCons (fC .non) fNil))) (fCons (fA mkTup (fCons (fVar 1) (fCons (fC .non) fNil))) (fCons (fA mkTup (fCons (fVar 1) (fCons (f2 dAdd (fVar 1) (f2 dMul (fC (.int 3)) (fVar 2))) fNil))) (fCons (fA mkTup (fCons (fC (.int 0)) (fCons (f2 dAdd (fVar 1) (f2 dMul (fC (.int 2)) (fVar 2))) fNil))) (fCons (fA mkTup (fCons (fC (.int 0)) (fCons (f2 dMul (fC (.int 9)) (fVar 2)) fNil))) fNil)))))))
    (gSeq (gSet 3 (f2 dAdd (fVar 3) (fA mkLst (fCons (fA mkTup (fCons (f2 dAdd (fVar 1) (fVar 2)) (fCons (f2 dAdd (fVar 1) (f2 dMul (fC (.int 4)) (fVar 2))) fNil))) (fCons (fA mkTup (fCons (f2 iDiv (fVar 1) (fC (.int 2))) (fCons (f2 dAdd (fVar 1) (f2 dMul (fC (.int 6)) (fVar 2))) fNil))) (fCons (fA mkTup (fCons (fC (.int 0)) (fCons (fC .non) fNil))) fNil))))))
    (gRet (f2 ixD (fVar 3) (f2 iMod (fVar 0) (fC (.int 8)))))))
def F_w_stretch : List D → Option (D × Bool) := bodyF g_w_stretch 3 1
def g_w_deed : FS :=
    (gSeq (gSet 7 (f2 dAdd (f2 dAdd (f2 dAdd (f2 dAdd (fRep (fA mkLst (fCons (fC (.str ("leave" : PySem.Str))) fNil)) (fC (.int 2))) (fRep (fA mkLst (fCons (fC (.str ("paper" : PySem.Str))) fNil)) (fC (.int 3)))) (fRep (fA mkLst (fCons (fC (.str ("like" : PySem.Str))) fNil)) (fC (.int 2)))) (fRep (fA mkLst (fCons (fC (.str ("copy" : PySem.Str))) fNil)) (fC (.int 9)))) (fA mkLst (fCons (fC (.str ("call" : PySem.Str))) (fCons (fC (.str ("named" : PySem.Str))) fNil)))))
    (gSeq (gSet 8 (f2 ixD (fVar 7) (f2 iMod (fVar 1) (fC (.int 18)))))
    (gSeq (gSet 9 (f2 ixD (fVar 5) (f2 iSub (f1 iNeg (fC (.int 1))) (f2 iMod (f2 iDiv (fVar 1) (fC (.int 18))) (fA minD (fCons (fC (.int 3)) (fCons (fA lenD (fCons (fVar 5) fNil)) fNil)))))))
    (gSeq (gIf (tOf (f2 dEq (f2 iMod (f2 iDiv (fVar 1) (fC (.int 54))) (fC (.int 6))) (fC (.int 1)))) (gSet 9 (f2 ixD (fVar 3) (f2 iMod (f2 iDiv (fVar 1) (fC (.int 324))) (fC (.int 5))))) gNext)
    (gSeq (gSet 10 (f2 ixD (fVar 3) (f2 iMod (f2 iDiv (fVar 1) (fC (.int 1620))) (fC (.int 5)))))
    (gSeq (gSet 11 (fA maxD (fCons (fC (.int 0)) (fCons (f2 iSub (f2 iSub (fVar 0) (fC (.int 1))) (f2 iMod (fVar 2) (fC (.int 4)))) fNil))))
    (gSeq (gIf (tOf (f2 dEq (f2 iMod (f2 iDiv (fVar 2) (fC (.int 4))) (fC (.int 8))) (fC (.int 1)))) (gSet 11 (f2 iMod (f2 iDiv (fVar 2) (fC (.int 32))) (fC (.int 60)))) gNext)
    (gSeq (gIf (tOf (f2 dEq (fVar 8) (fC (.str ("leave" : PySem.Str))))) (gSeq (gSet 12 (f2 ixD (fA mkLst (fCons (fC (.int 3)) (fCons (fC (.int 1)) (fCons (fC (.int 7)) (fCons (fC (.int 2)) (fCons (fC (.int 255)) (fCons (fC (.int 5)) (fCons (fC (.int 1)) (fCons (fC (.int 3)) fNil))))))))) (f2 iMod (f2 iDiv (fVar 1) (fC (.int 8100))) (fC (.int 8)))))
    (gSeq (gSet 13 (f2 iMod (f2 iDiv (fVar 2) (fC (.int 256))) (f2 ixD (fA mkLst (fCons (fC (.int 5)) (fCons (fC (.int 5)) (fCons (fC (.int 5)) (fCons (fC (.int 10)) fNil))))) (f2 iMod (f2 iDiv (fVar 2) (fC (.int 2560))) (fC (.int 4))))))
    (gRet (fA mkTup (fCons (fVar 8) (fCons (fVar 4) (fCons (fVar 9) (fCons (fVar 10) (fCons (fVar 12) (fCons (fA F_w_stretch (fCons (f2 iDiv (fVar 2) (fC (.int 32))) (fCons (fVar 4) (fCons (fVar 6) fNil)))) (fCons (fVar 13) fNil))))))))))) gNext)
    (gSeq (gIf (tOrF (tOf (f2 dEq (fVar 8) (fC (.str ("paper" : PySem.Str))))) (tOf (f2 dEq (fVar 8) (fC (.str ("like" : PySem.Str)))))) (gSeq (gSet 12 (f2 ixD (fA mkLst (fCons (fC (.int 1)) (fCons (fC (.int 1)) (fCons (fC (.int 3)) (fCons (fC (.int 2)) (fCons (fC (.int 4)) (fCons (fC (.int 5)) (fCons (fC (.int 128)) (fCons (fC (.int 7)) fNil))))))))) (f2 iMod (f2 iDiv (fVar 1) (fC (.int 8100))) (fC (.int 8)))))
    (gSeq (gSet 14 (fA mkTup (fCons (fVar 8) (fCons (fVar 4) (fCons (fVar 9) (fCons (fVar 12) (fCons (fA F_w_stretch (fCons (f2 iDiv (fVar 2) (fC (.int 32))) (fCons (fVar 4) (fCons (fVar 6) fNil)))) (fCons (f2 ixD (fA mkLst (fCons (fC .non) (fCons (fVar 10) fNil))) (f2 iMod (f2 iDiv (fVar 2) (fC (.int 256))) (fC (.int 2)))) fNil))))))))
    (gSeq (gIf (tOf (f2 dEq (fVar 8) (fC (.str ("like" : PySem.Str))))) (gRet (f2 tAddD (fVar 14) (fA mkTup (fCons (fVar 11) (fCons (fA mkTup (fCons (fA mkTup (fCons (fC (.int 0)) (fCons (fVar 10) fNil))) fNil)) fNil))))) gNext)
    (gRet (f2 tAddD (fVar 14) (fA mkTup (fCons (fA mkTup (fCons (fVar 10) fNil)) fNil))))))) gNext)
    (gSeq (gIf (tOf (f2 dIn (fVar 8) (fA mkTup (fCons (fC (.str ("copy" : PySem.Str))) (fCons (fC (.str ("call" : PySem.Str))) fNil))))) (gRet (fA mkTup (fCons (fVar 8) (fCons (fVar 4) (fCons (fVar 9) (fCons (fVar 11) fNil)))))) gNext)
    (gSeq (gIf (tOf (f2 dEq (fVar 8) (fC (.str ("named" : PySem.Str))))) (gRet (fA mkTup (fCons (fVar 8) (fCons (fVar 4) (fCons (f2 ixD (fVar 3) (f2 dAdd (fC (.int 5)) (f2 iMod (fVar 2) (fC (.int 2))))) (fCons (fVar 10) fNil)))))) gNext)
    (gSeq (gIf (tOf (f2 dEq (fVar 8) (fC (.str ("chosen" : PySem.Str))))) (gRet (fA mkTup (fCons (fVar 8) (fCons (fVar 4) (fCons (fVar 9) (fCons (f2 ixD (fVar 3) (f2 dAdd (fC (.int 5)) (f2 iMod (fVar 2) (fC (.int 2))))) (fCons (fVar 10) (fCons (f2 dAdd (fVar 4) (f2 dMul (f2 iMod (f2 iDiv (fVar 2) (fC (.int 32))) (fC (.int 3))) (fVar 6))) fNil)))))))) gNext)
    (gSeq (gIf (tOf (f2 dEq (fVar 8) (fC (.str ("heir" : PySem.Str))))) (gRet (fA mkTup (fCons (fVar 8) (fCons (fVar 4) (fCons (fVar 9) (fCons (f2 ixD (fVar 3) (f2 dAdd (fC (.int 5)) (f2 iMod (fVar 2) (fC (.int 2))))) (fCons (fVar 10) fNil))))))) gNext)
    (gRet (fA mkTup (fCons (fVar 8) (fCons (fVar 4) (fCons (fVar 9) fNil))))))))))))))))))
def F_w_deed : List D → Option (D × Bool) := bodyF g_w_deed 7 8
def B1_w_rows : FS :=
    (gSeq (gSet 8 (f2 ixD (fA mkLst (fCons (fC (.str ("open" : PySem.Str))) (fCons (fC (.str ("first" : PySem.Str))) (fCons (fC (.str ("last" : PySem.Str))) fNil)))) (f2 iMod (f2 iDiv (fVar 4) (f2 dAdd (fC (.int 64)) (f2 dMul (fC (.int 9)) (fVar 7)))) (fC (.int 3)))))
    (gSeq (gSet 9 (f2 ixD (fA mkLst (fCons (fC (.int 7)) (fCons (fC (.int 255)) (fCons (fC (.int 3)) (fCons (fC (.int 15)) fNil))))) (f2 iMod (f2 iDiv (fVar 4) (f2 dAdd (fC (.int 2)) (f2 dMul (fC (.int 8)) (fVar 7)))) (fC (.int 4)))))
    (gSeq (gSet 10 (f2 dMul (f2 dMul (fA intD (fCons (f2 dEq (f2 iMod (f2 iDiv (fVar 4) (f2 dAdd (fC (.int 512)) (fVar 7))) (fC (.int 8))) (fC (.int 1))) fNil)) (fC (.int 4))) (fVar 2)))
    (gSeq (gSet 11 (f2 iMod (f2 iDiv (fVar 4) (f2 dAdd (fC (.int 1024)) (f2 dMul (fC (.int 5)) (fVar 7)))) (f2 ixD (fA mkLst (fCons (fC (.int 5)) (fCons (fC (.int 5)) (fCons (fC (.int 10)) fNil)))) (f2 iMod (f2 iDiv (fVar 4) (f2 dAdd (fC (.int 31)) (fVar 7))) (fC (.int 3))))))
    (gSeq (gApp 5 (fA mkTup (fCons (fVar 10) (fCons (fA mkTup (fCons (fC (.str ("root" : PySem.Str))) (fCons (f2 ixD (fVar 1) (f2 dAdd (fC (.int 5)) (fVar 7))) (fCons (fVar 9) (fCons (fVar 11) (fCons (fVar 8) fNil)))))) fNil))))
    (gSeq (gApp 5 (fA mkTup (fCons (fC (.int 0)) (fCons (fA mkTup (fCons (fC (.str ("named" : PySem.Str))) (fCons (fC (.int 0)) (fCons (f2 ixD (fVar 1) (f2 dAdd (fC (.int 5)) (fVar 7))) (fCons (f2 ixD (fVar 1) (fVar 7)) fNil))))) fNil))))
    (gApp 6 (f2 ixD (fVar 1) (fVar 7)))))))))
def B2_w_rows : FS :=
    (gSeq (gSet 12 (fA F_w_cell (fCons (fVar 0) (fCons (f2 dAdd (fC (.int 5)) (fVar 7)) fNil))))
    (gSeq (gSet 13 (f2 dMul (f2 dAdd (f2 iDiv (fVar 7) (fC (.int 2))) (f2 iMod (f2 iDiv (fVar 12) (fC (.int 7))) (fC (.int 3)))) (fVar 2)))
    (gSeq (gSet 14 (fA F_w_deed (fCons (fA lenD (fCons (fVar 5) fNil)) (fCons (fA F_w_cell (fCons (fVar 0) (fCons (f2 dAdd (fC (.int 30)) (fVar 7)) fNil))) (fCons (fA F_w_cell (fCons (fVar 0) (fCons (f2 dAdd (fC (.int 60)) (fVar 7)) fNil))) (fCons (fVar 1) (fCons (fVar 13) (fCons (fVar 6) (fCons (fVar 2) fNil)))))))))
    (gSeq (gIf (tOf (f2 dIn (f2 ixD (fVar 14) (fC (.int 0))) (fA mkTup (fCons (fC (.str ("leave" : PySem.Str))) (fCons (fC (.str ("named" : PySem.Str))) fNil))))) (gApp 6 (f2 ixD (fVar 14) (fC (.int 3)))) gNext)
    (gSeq (gIf (tOf (f2 dEq (f2 ixD (fVar 14) (fC (.int 0))) (fC (.str ("chosen" : PySem.Str))))) (gApp 6 (f2 ixD (fVar 14) (fC (.int 4)))) gNext)
    (gApp 5 (fA mkTup (fCons (f2 dAdd (fVar 13) (f2 dMul (f2 ixD (fA mkLst (fCons (fC (.int 0)) (fCons (fC (.int 0)) (fCons (fC (.int 0)) (fCons (fC (.int 0)) (fCons (fC (.int 1)) (fCons (fC (.int 4)) fNil))))))) (f2 iMod (f2 iDiv (fVar 12) (fC (.int 21))) (fC (.int 6)))) (fVar 2))) (fCons (fVar 14) fNil)))))))))
def g_w_rows : FS :=
    (gSeq (gSet 4 (fA F_w_cell (fCons (fVar 0) (fCons (fC (.int 1)) fNil))))
    (gSeq (gSet 5 (fA mkLst fNil))
    (gSeq (gSet 6 (fA mkLst fNil))
    (gSeq (gForR (iRange (f2 dAdd (fC (.int 1)) (f2 iMod (fVar 4) (fC (.int 2))))) (tgN 7) B1_w_rows)
    (gSeq (gForR (iRange (f2 dAdd (fC (.int 3)) (f2 iMod (fA F_w_cell (fCons (fVar 0) (fCons (fC (.int 2)) fNil))) (fVar 3)))) (tgN 7) B2_w_rows)
    (gRet (fA to_tuple (fCons (fVar 5) fNil))))))))
def F_w_rows : List D → Option (D × Bool) := bodyF g_w_rows 4 11
def g_w_ahead : FS :=
    (gRet (f2 tLt (fA mkTup (fCons (f2 ixD (f2 ixD (f2 ixD (fVar 0) (fVar 1)) (fC (.int 1))) (fC (.int 1))) (fCons (fVar 1) fNil))) (fA mkTup (fCons (f2 ixD (f2 ixD (f2 ixD (fVar 0) (fVar 2)) (fC (.int 1))) (fC (.int 1))) (fCons (fVar 2) fNil)))))
def F_w_ahead : List D → Option (D × Bool) := bodyF g_w_ahead 3 0
def g_w_due : FS :=
    (gSeq (gSetT [3, 4] (f2 ixD (fVar 0) (fVar 2)))
    (gSeq (gIf (tOrF (tOf (f2 iGt (fVar 3) (fVar 1))) (tOrF (tOf (f2 dNe (f2 ixD (fVar 4) (fC (.int 0))) (fC (.str ("copy" : PySem.Str))))) (tOf (f2 iGe (f2 ixD (fVar 4) (fC (.int 3))) (fA lenD (fCons (fVar 0) fNil)))))) (gRet (fA mkLst fNil)) gNext)
    (gSeq (gSetT [5, 6] (f2 ixD (fVar 0) (f2 ixD (fVar 4) (fC (.int 3)))))
    (gSeq (gIf (tOrF (tOf (f2 iGt (fVar 5) (fVar 1))) (tOrF (tOf (f2 dNotIn (f2 ixD (fVar 6) (fC (.int 0))) (fA mkTup (fCons (fC (.str ("paper" : PySem.Str))) (fCons (fC (.str ("like" : PySem.Str))) (fCons (fC (.str ("copy" : PySem.Str))) fNil)))))) (tNotF (tOf (fA F_w_ahead (fCons (fVar 0) (fCons (f2 ixD (fVar 4) (fC (.int 3))) (fCons (fVar 2) fNil)))))))) (gRet (fA mkLst fNil)) gNext)
    (gRet (fA mkLst (fCons (fA mkTup (fCons (fC (.str ("copy" : PySem.Str))) (fCons (f2 ixD (fVar 4) (fC (.int 3))) fNil))) fNil)))))))
def F_w_due : List D → Option (D × Bool) := bodyF g_w_due 3 4
def B1_law : FS :=
    (gSeq (gSet 8 (fA F_bases (fCons (fVar 3) (fCons (fVar 4) (fCons (fVar 5) fNil)))))
    (gSeq (gIf (tOrF (tNotF (tOf (fA isinstanceD (fCons (fVar 8) (fCons (fC (.ty "list")) fNil))))) (tOf (f2 dNe (fVar 8) (fVar 6)))) (gRet (fC (.bl false))) gNext)
    (gSeq (gAllF 8 9 (tOrF (tNotF (tOf (fA isinstanceD (fCons (fVar 9) (fCons (fC (.ty "tuple")) fNil))))) (tOf (fA isinstanceD (fCons (f2 ixD (fVar 9) (fC (.int 1))) (fCons (fC (.ty "bool")) fNil))))))
    (gApp 8 (fA mkTup (fCons (fC (.str ("copy" : PySem.Str))) (fCons (fC (.int 0)) fNil)))))))
def B2_law : FS :=
    (gIf (tOrF (tOf (f2 iGt (f2 ixD (f2 ixD (fVar 3) (fVar 5)) (fC (.int 0))) (fVar 4))) (tOf (f2 dNotIn (f2 ixD (f2 ixD (f2 ixD (fVar 3) (fVar 5)) (fC (.int 1))) (fC (.int 0))) (fA mkTup (fCons (fC (.str ("leave" : PySem.Str))) (fCons (fC (.str ("paper" : PySem.Str))) (fCons (fC (.str ("like" : PySem.Str))) fNil))))))) (gSeq (gSet 6 (fA F_w_due (fCons (fVar 3) (fCons (fVar 4) (fCons (fVar 5) fNil)))))
    (gForR (iRange (fC (.int 2))) (tgN 7) B1_law)) gNext)
def g_law : FS :=
    (gSeq (gSet 1 (fA F_w_names (fCons (fA F_w_cell (fCons (fVar 0) (fCons (fC (.int 0)) fNil))) fNil)))
    (gSeq (gSet 2 (f2 ixD (fA mkLst (fCons (fC (.int 1)) (fCons (fC (.int 1)) (fCons (fC (.int 500)) fNil)))) (f2 iMod (fA F_w_cell (fCons (fVar 0) (fCons (fC (.int 3)) fNil))) (fC (.int 3)))))
    (gSeq (gSet 3 (fA F_w_rows (fCons (fVar 0) (fCons (fVar 1) (fCons (fVar 2) (fCons (fC (.int 14)) fNil))))))
    (gSeq (gSet 4 (f2 ixD (fA mkLst (fCons (fC (.int 9999)) (fCons (f2 dMul (f2 iMod (f2 iDiv (fA F_w_cell (fCons (fVar 0) (fCons (fC (.int 3)) fNil))) (fC (.int 3))) (fC (.int 13))) (fVar 2)) fNil))) (f2 iDiv (f2 iMod (fA F_w_cell (fCons (fVar 0) (fCons (fC (.int 4)) fNil))) (fC (.int 3))) (fC (.int 2)))))
    (gSeq (gForR (iRange (fA lenD (fCons (fVar 3) fNil))) (tgN 5) B2_law)
    (gRet (fC (.bl true))))))))
def F_law : List D → Option (D × Bool) := bodyF g_law 1 9
end Lw
namespace DL
open PySem L2
theorem plain_mono : ∀ (n m : Nat) (d : D), n ≤ m → plainN n d = true → plainN m d = true
  | n, m, .non, _, _ => by simp
  | n, m, .bl _, _, _ => by simp
  | n, m, .int _, _, _ => by simp
  | n, m, .str _, _, _ => by simp
  | n, m, .ty _, _, h => by cases n <;> simp [plainN] at h
  | n, m, .dk _ _, _, h => by simp at h
  | n, m, .dt _ _, _, h => by simp at h
  | 0, m, .tup _, _, h => by simp [plainN] at h
  | 0, m, .lst _, _, h => by simp [plainN] at h
  | n + 1, 0, _, h, _ => by omega
  | n + 1, m + 1, .tup ds, hl, h => by
    simp only [plainN, List.all_eq_true] at h ⊢
    exact fun d hd => plain_mono n m d (by omega) (h d hd)
  | n + 1, m + 1, .lst ds, hl, h => by
    simp only [plainN, List.all_eq_true] at h ⊢
    exact fun d hd => plain_mono n m d (by omega) (h d hd)
theorem eqDs_same : ∀ (ds : List D), (∀ d ∈ ds, eqD d d = true) → eqDs ds ds = true
  | [], _ => by simp only [eqDs]
  | d :: ds, h => by
    simp only [eqDs, h d List.mem_cons_self, Bool.true_and]
    exact eqDs_same ds fun e he => h e (List.mem_cons_of_mem _ he)
theorem eqD_same : ∀ (n : Nat) (d : D), plainN n d = true → eqD d d = true
  | n, .non, _ => by simp
  | n, .bl _, _ => by simp
  | n, .int _, _ => by simp
  | n, .str _, _ => by simp
  | n, .ty _, h => by cases n <;> simp [plainN] at h
  | n, .dk _ _, h => by simp at h
  | n, .dt _ _, h => by simp at h
  | 0, .tup _, h => by simp [plainN] at h
  | 0, .lst _, h => by simp [plainN] at h
  | n + 1, .tup ds, h => by
    simp only [plainN, List.all_eq_true] at h
    simp only [eqD]
    exact eqDs_same ds fun d hd => eqD_same n d (h d hd)
  | n + 1, .lst ds, h => by
    simp only [plainN, List.all_eq_true] at h
    simp only [eqD]
    exact eqDs_same ds fun d hd => eqD_same n d (h d hd)
end DL
namespace Lw
open PySem DL L2
theorem at0 (d : D) (r : List D) : atI (d :: r) 0 = some d := by have := atI_ge (xs := d :: r) (j := 0) (by simp); simpa using this
theorem at1 (d e : D) (r : List D) : atI (d :: e :: r) 1 = some e := by have := atI_ge (xs := d :: e :: r) (j := 1) (by simp); simpa using this
theorem at2 (d e f : D) (r : List D) : atI (d :: e :: f :: r) 2 = some f := by have := atI_ge (xs := d :: e :: f :: r) (j := 2) (by simp); simpa using this
theorem at3 (d e f g : D) (r : List D) : atI (d :: e :: f :: g :: r) 3 = some g := by have := atI_ge (xs := d :: e :: f :: g :: r) (j := 3) (by simp); simpa using this
theorem ints_at {ns : List Int} {i : Int} (h0 : 0 ≤ i) (h : i.toNat < ns.length) : ixD (.lst (ns.map .int)) (.int i) = some (.int (ns.getD i.toNat 0), false) := ix_ints h0 h
theorem cell_fin (ns : List Int) (k : Nat) (x : Int) : ∃ c : Int, (gSeq (gSet 2 (f2 iMod (f2 dMul (f2 dAdd (f2 dAdd (f2 iMod (fVar 2) (fC (.int 2147483629))) (f2 dMul (fC (.int 6151)) (fVar 1))) (fC (.int 1))) (fC (.int 48271))) (fC (.int 2147483647))))
    (gRet (f2 iMod (f2 dMul (fVar 2) (f2 dAdd (f2 dAdd (f2 iMod (fVar 2) (fC (.int 65519))) (fVar 1)) (fC (.int 2)))) (fC (.int 2147483629))))) [some (.lst (ns.map .int), false), some (.int k, false), some (.int x, false)] = some (.rt (.int c) false) ∧ 0 ≤ c := by
  obtain ⟨y, hy⟩ : ∃ y, ((x % 2147483629 + 6151 * k + 1) * 48271) % 2147483647 = y := ⟨_, rfl⟩
  have hb : 0 ≤ y ∧ y < 2147483647 := by rw [← hy]; exact mod_lt (by decide)
  have hc : -18446744073709551616 < y ∧ y < 18446744073709551616 := by omega
  exact ⟨(y * (y % 65519 + k + 2)) % 2147483629, r_flat (d := .int y) (b := false) (by simp [hy]) rfl (ret_ok (by simp [hc])), (mod_lt (by decide)).1⟩
theorem cell_ok (ns : List Int) (k : Nat) : ∃ c : Int, F_w_cell [.lst (ns.map .int), .int k] = some (.int c, false) ∧ 0 ≤ c := by
  by_cases h : ns.length = 0
  · have e : ns = [] := List.length_eq_zero_iff.mp h
    subst e
    obtain ⟨c, h1, h2⟩ := cell_fin [] k 5
    exact ⟨c, body_rt rfl (r_flat (d := .int 5) (b := false) rfl rfl (r_if_f (tOf_ok (b := false) (by simp)) h1)), h2⟩
  · have hm := mod_lt (x := (k : Int)) (m := ns.length) (by omega)
    obtain ⟨c, h1, h2⟩ := cell_fin ns k (ns.getD ((k : Int) % ns.length).toNat 0)
    refine ⟨c, body_rt rfl (r_flat (d := .int 5) (b := false) rfl rfl (r_seq (if_t (tOf_ok (b := false) (by simp; omega)) (set_flat (d := .int (ns.getD ((k : Int) % ns.length).toNat 0)) (b := false) ?_ rfl)) h1)), h2⟩
    refine e_op (x := .lst (ns.map .int)) (y := .int ((k : Int) % ns.length)) (b1 := false) (b2 := false) rfl ?_ (ints_at hm.1 (by omega))
    refine e_op (x := .int k) (y := .int ns.length) (b1 := false) (b2 := false) rfl (by simp) ?_
    have hne : ¬ ns = [] := fun e => h (by rw [e]; rfl)
    simp [iMod, hne]
theorem noLsts_strs (zs : List Str) : noLsts (zs.map D.str) = true := by
  induction zs with
  | nil => rfl
  | cons a l ih => simp [ih]
theorem put_ok {ρ : DL.Env} {i n : Nat} {ds : List D} {fk fv : FE} {d : D} {b b' : Bool} (e : ρ[i]? = some (some (.lst ds, true))) (ev : fv ρ = some (d, b)) (ek : fk ρ = some (.int n, b')) (hn : n < ds.length) (hf : noLst d = true) : gPut i fk fv ρ = some (.nx (ρ.set i (some (.lst (ds.set n d), true)))) := by
  have hx : ixN ds.length (n : Int) = some n := by
    unfold ixN
    rw [if_pos (by omega)]
    simp [hn]
  simp only [gPut, e, ev, ek, Option.bind_some, hx, if_pos hf]
theorem strs_map (zs : List Str) : strsD (zs.map .str) = some zs := by
  induction zs with
  | nil => rfl
  | cons z zs ih => simp [ih]
theorem sum_one : ∀ (zs : List Str), (∀ z ∈ zs, z.length = 1) → (zs.map (·.length)).sum = zs.length
  | [], _ => rfl
  | z :: zs, h => by
    rw [List.map_cons, List.sum_cons, sum_one zs fun y hy => h y (List.mem_cons_of_mem _ hy), h z List.mem_cons_self, List.length_cons]
    omega
theorem mod26 (x : Int) : 0 ≤ x % 26 ∧ x % 26 < 26 := mod_lt (by decide)
def lets : PySem.Str := "abcdefghijklmnopqrstuvwxyz"
theorem lets_size : lets.cps.size = 26 := by decide +kernel
def ltr (x : Int) : Str := ⟨#[lets.cps.toList.getD (x % 26).toNat 0]⟩
theorem ltr_at (x : Int) : ixD (.str lets) (.int (x % 26)) = some (.str (ltr x), false) := DL.ix_str (mod26 x).1 (by rw [lets_size]; have := mod26 x; omega) (by decide +kernel)
theorem names_ok (c : Int) (hc : 0 ≤ c) : ∃ zs : List Str, F_w_names [.int c] = some (.lst (zs.map .str), true) ∧ zs.length = 7 := by
  have h8 := mod_lt (x := c) (m := 8) (by decide)
  obtain ⟨n, hn⟩ : ∃ n : Nat, 1 + c % 8 = n := ⟨(1 + c % 8).toNat, by omega⟩
  have hn1 : 1 ≤ n := by omega
  have hn8 : n ≤ 8 := by omega
  let bs : List Str := (List.range n).map fun (k : Nat) => ltr (c / (3 + 4 * k))
  have hbl : bs.length = n := by simp [bs]
  have hb := compT (fi := iRange (f2 dAdd (fC (.int 1)) (f2 iMod (fVar 0) (fC (.int 8))))) (nT := 1) (cap := [1, 0]) (tg := tgN 0) (fe := f2 ixD (fVar 1) (f2 iMod (f2 iDiv (fVar 2) (f2 dAdd (fC (.int 3)) (f2 dMul (fC (.int 4)) (fVar 0)))) (fC (.int 26))))
    (ρ := [some (.int c, false), some (.str lets, false), none, none, none, none, none]) (List.range n) (fun (k : Nat) => .int k) (fun (k : Nat) => .str (ltr (c / (3 + 4 * k))))
    (by rw [iRange_ok (j := n) (b := false) (by simp; omega) (by omega), rangeD_eq]; simp) (by simp; omega) fun k hk => by
      have hk := List.mem_range.mp hk
      refine ⟨_, rfl, false, e_op (x := .str lets) (y := .int (c / (3 + 4 * k) % 26)) (b1 := false) (b2 := false) (by simp [capE]) ?_ (ltr_at _)⟩
      have h1 : (0 : Int) < 3 + 4 * k := by omega
      have h2 : (3 : Int) + 4 * k < 1073741824 := by omega
      simp [capE, h1, h2]
  have hb' : fComp (iRange (f2 dAdd (fC (.int 1)) (f2 iMod (fVar 0) (fC (.int 8))))) 1 [1, 0] (tgN 0) cTrue (f2 ixD (fVar 1) (f2 iMod (f2 iDiv (fVar 2) (f2 dAdd (fC (.int 3)) (f2 dMul (fC (.int 4)) (fVar 0)))) (fC (.int 26)))) [some (.int c, false), some (.str lets, false), none, none, none, none, none] = some (.lst (bs.map .str), true) := by
    rw [hb]; simp [bs]
  have hat := mod_lt (x := c / 8) (m := n) (by omega)
  obtain ⟨zs, v5, v6, e, hz⟩ : ∃ (zs : List Str) (v5 v6 : Option (D × Bool)), forL (tgN 5) B1_w_names (rangeD 0 7) [some (.int c, false), some (.str lets, false), some (.lst (bs.map .str), true), some (.int (c / 8 % n), false), some (.lst [], true), none, none] = some (.nx [some (.int c, false), some (.str lets, false), some (.lst (bs.map .str), true), some (.int (c / 8 % n), false), some (.lst (zs.map .str), true), v5, v6]) ∧ zs.length = 7 := by
    obtain ⟨ρ', e, zs, v5, v6, rfl, hz⟩ := forR_inv (tg := tgN 5) (g := B1_w_names) 7 (fun i ρ => ∃ (zs : List Str) (v5 v6 : Option (D × Bool)), ρ = [some (.int c, false), some (.str lets, false), some (.lst (bs.map .str), true), some (.int (c / 8 % n), false), some (.lst (zs.map .str), true), v5, v6] ∧ zs.length = i)
      [some (.int c, false), some (.str lets, false), some (.lst (bs.map .str), true), some (.int (c / 8 % n), false), some (.lst [], true), none, none] ⟨[], none, none, rfl, rfl⟩ (by
        rintro i ρ hi ⟨zs, v5, v6, rfl, hz⟩
        obtain ⟨a, ha⟩ : ∃ a : Nat, c / 8 % n = a := ⟨(c / 8 % n).toNat, by omega⟩
        let l := ltr (c / 64 + 3 * i)
        let nm := bs.set a l
        have h1 : ∀ z ∈ nm, z.length = 1 := fun z hz => by
          rcases List.mem_or_eq_of_mem_set hz with h | h
          · obtain ⟨k, _, rfl⟩ := List.mem_map.mp h; rfl
          · rw [h]; rfl
        have hnl : nm.length = n := by simp [nm, hbl]
        refine ⟨_, _, rfl, .inl (r_own (ds := bs.map .str) (by simp) (noLsts_strs _) (r_seq (put_ok (n := a) (ds := bs.map .str) (d := .str l) (b := false) (b' := false) rfl ?_ ?_ (by simp [hbl]; omega) rfl) (app_ok (ds := zs.map .str) (d := .str (Txt.join ("" : PySem.Str) nm)) (b := false) rfl ?_ rfl (small_size (by simp; omega))))), zs ++ [Txt.join ("" : PySem.Str) nm], some (.int i, false), some (.lst (nm.map .str), true), ?_, by simp [hz]⟩
        · exact e_op (x := .str lets) (y := .int ((c / 64 + 3 * i) % 26)) (b1 := false) (b2 := false) rfl (by simp) (ltr_at _)
        · simp [ha]
        · refine e_op (x := .str ("" : PySem.Str)) (y := .lst (nm.map .str)) (b1 := false) (b2 := false) rfl (by simp [nm]) ?_
          show (strsD (nm.map .str)).bind _ = _
          rw [strs_map]
          have := sum_one nm h1
          have h0 : ("" : PySem.Str).length = 0 := rfl
          show (if _ then _ else _) = _
          rw [if_pos (by rw [this, h0, hnl]; omega)]
        · simp [nm])
    exact ⟨zs, v5, v6, e, hz⟩
  have hsz : (bs.length : Int) = n := by omega
  refine ⟨if c / 1000 % 8 = 1 then zs.set 5 (zs.getD 0 ⟨#[]⟩) else zs, ?_, by split <;> simp [hz]⟩
  refine body_rt rfl (r_flat (d := .str lets) (b := false) rfl rfl (r_own (ds := bs.map .str) hb' (noLsts_strs _) (r_flat (d := .int (c / 8 % n)) (b := false) ?_ rfl (r_own (ds := []) (by simp [sizeLine]) (by simp) (r_seq (forR_run (iRange_ok (j := 7) (b := false) rfl (by decide)) e) ?_)))))
  · have : (bs.length : Int) ≠ 0 := by omega
    refine e_op (x := .int (c / 8)) (y := .int n) (b1 := false) (b2 := false) (by simp) (by simp [hbl]) ?_
    have h1 : (0 : Int) < n := by omega
    show (if decide ((0 : Int) < n) = true then _ else _) = _
    rw [if_pos (decide_eq_true h1)]
  · by_cases h : c / 1000 % 8 = 1
    · rw [if_pos h]
      have h5 : 5 < (zs.map D.str).length := by simp [hz]
      obtain ⟨z0, zr, rfl⟩ : ∃ z0 zr, zs = z0 :: zr := by cases zs with | nil => simp at hz | cons a b => exact ⟨a, b, rfl⟩
      refine r_seq (if_t (tOf_ok (b := false) (by simp [h])) (put_ok (n := 5) (ds := (z0 :: zr).map .str) (d := .str z0) (b := false) (b' := false) rfl ?_ rfl h5 rfl)) (retV_ok ?_)
      · exact e_op (x := .lst ((z0 :: zr).map .str)) (y := .int 0) (b1 := false) (b2 := false) rfl rfl (by simp [at0])
      · simp
    · rw [if_neg h]
      exact r_if_f (tOf_ok (b := false) (by simp [h])) (retV_ok rfl)
theorem stretch_ok (a d m : Int) : ∃ s, F_w_stretch [.int a, .int d, .int m] = some (s, false) ∧ noLst s = true := by
  have h8 := mod_lt (x := a) (m := 8) (by decide)
  let L1 : List D := [.tup [.int 0, .non], .tup [.int d, .non], .tup [.int d, .int (d + 3 * m)], .tup [.int 0, .int (d + 2 * m)], .tup [.int 0, .int (9 * m)]]
  let L2 : List D := [.tup [.int (d + m), .int (d + 4 * m)], .tup [.int (d / 2), .int (d + 6 * m)], .tup [.int 0, .non]]
  have hz : ∀ x ∈ L1 ++ L2, noLst x = true := by intro x hx; simp only [L1, L2, List.cons_append, List.nil_append, List.mem_cons, List.not_mem_nil, or_false] at hx; rcases hx with rfl | rfl | rfl | rfl | rfl | rfl | rfl | rfl <;> rfl
  have hl : (L1 ++ L2).length = 8 := rfl
  have hi : (a % 8).toNat < (L1 ++ L2).length := by rw [hl]; omega
  refine ⟨(L1 ++ L2).getD (a % 8).toNat .non, body_rt rfl (r_own (ds := L1) (by simp [L1, sizeLine]) rfl (r_own (ds := L1 ++ L2) ?_ rfl (ret_ok (e_op (x := .lst (L1 ++ L2)) (y := .int (a % 8)) (b1 := false) (b2 := false) rfl (by simp) (ix_lst h8.1 hi))))), ?_⟩
  · refine e_op (x := .lst L1) (y := .lst L2) (b1 := false) (b2 := true) rfl (by simp [L2, sizeLine]) ?_
    simp [L1, L2, sizeLine]
  · apply hz
    rw [List.getD_eq_getElem?_getD, List.getElem?_eq_getElem hi]
    exact List.getElem_mem hi
theorem ix_any {zs : List Str} {i : Int} (h1 : -(zs.length : Int) ≤ i) (h2 : i < zs.length) : ∃ z ∈ zs, ixD (.lst (zs.map .str)) (.int i) = some (.str z, false) := by
  obtain ⟨j, hj, hl⟩ : ∃ j, ixN (zs.map D.str).length i = some j ∧ j < zs.length := by
    unfold ixN
    rw [List.length_map]
    by_cases h0 : 0 ≤ i
    · rw [if_pos h0, if_pos h2]; exact ⟨_, rfl, by omega⟩
    · rw [if_neg h0, if_pos (by omega)]; exact ⟨_, rfl, by omega⟩
  refine ⟨zs[j], List.getElem_mem hl, ?_⟩
  have : atI (zs.map D.str) i = some (.str zs[j]) := by unfold atI; rw [hj, Option.bind_some, List.getElem?_map, List.getElem?_eq_getElem hl]; rfl
  simp [this]
inductive Dd : Str → List D → Prop
  | root (o r : Str) (m f : Int) : Dd ("root" : PySem.Str) [.str o, .int m, .int f, .str r]
  | named (d : Int) (o p : Str) : Dd ("named" : PySem.Str) [.int d, .str o, .str p]
  | copy (d : Int) (b : Str) (n : Nat) : Dd ("copy" : PySem.Str) [.int d, .str b, .int n]
  | other (k : Str) (hk : k = ("leave" : PySem.Str) ∨ k = ("paper" : PySem.Str) ∨ k = ("like" : PySem.Str) ∨ k = ("call" : PySem.Str)) (d : Int) (r : List D) (hf : noLsts r = true) : Dd k (.int d :: r)
theorem Dd.flat {k : Str} {r : List D} (h : Dd k r) : noLsts r = true := by cases h <;> first | rfl | (simp; assumption)
def kinds : List Str := [("leave" : PySem.Str), ("leave" : PySem.Str), ("paper" : PySem.Str), ("paper" : PySem.Str), ("paper" : PySem.Str), ("like" : PySem.Str), ("like" : PySem.Str), ("copy" : PySem.Str), ("copy" : PySem.Str), ("copy" : PySem.Str), ("copy" : PySem.Str), ("copy" : PySem.Str), ("copy" : PySem.Str), ("copy" : PySem.Str), ("copy" : PySem.Str), ("copy" : PySem.Str), ("call" : PySem.Str), ("named" : PySem.Str)]
theorem kinds_six {w : Str} (h : w ∈ kinds) : w = ("leave" : PySem.Str) ∨ w = ("paper" : PySem.Str) ∨ w = ("like" : PySem.Str) ∨ w = ("copy" : PySem.Str) ∨ w = ("call" : PySem.Str) ∨ w = ("named" : PySem.Str) := by
  simp only [kinds, List.mem_cons, List.not_mem_nil, or_false] at h
  rcases h with rfl | rfl | rfl | rfl | rfl | rfl | rfl | rfl | rfl | rfl | rfl | rfl | rfl | rfl | rfl | rfl | rfl | rfl <;> simp
theorem deed_pre (many c o day m : Int) (zs had : List Str) (hz : zs.length = 7) (hh : had ≠ []) :
    ∃ (w by_ p : Str) (ofn : Nat), w ∈ kinds ∧ ∀ (h : FS) (r : Option Res), h [some (.int many, false), some (.int c, false), some (.int o, false), some (.lst (zs.map .str), false), some (.int day, false), some (.lst (had.map .str), false), some (.int m, false), some (.lst (kinds.map .str), true), some (.str w, false), some (.str by_, false), some (.str p, false), some (.int ofn, false), none, none, none] = r →
      (gSeq (gSet 7 (f2 dAdd (f2 dAdd (f2 dAdd (f2 dAdd (fRep (fA mkLst (fCons (fC (.str ("leave" : PySem.Str))) fNil)) (fC (.int 2))) (fRep (fA mkLst (fCons (fC (.str ("paper" : PySem.Str))) fNil)) (fC (.int 3)))) (fRep (fA mkLst (fCons (fC (.str ("like" : PySem.Str))) fNil)) (fC (.int 2)))) (fRep (fA mkLst (fCons (fC (.str ("copy" : PySem.Str))) fNil)) (fC (.int 9)))) (fA mkLst (fCons (fC (.str ("call" : PySem.Str))) (fCons (fC (.str ("named" : PySem.Str))) fNil))))) (gSeq (gSet 8 (f2 ixD (fVar 7) (f2 iMod (fVar 1) (fC (.int 18))))) (gSeq (gSet 9 (f2 ixD (fVar 5) (f2 iSub (f1 iNeg (fC (.int 1))) (f2 iMod (f2 iDiv (fVar 1) (fC (.int 18))) (fA minD (fCons (fC (.int 3)) (fCons (fA lenD (fCons (fVar 5) fNil)) fNil))))))) (gSeq (gIf (tOf (f2 dEq (f2 iMod (f2 iDiv (fVar 1) (fC (.int 54))) (fC (.int 6))) (fC (.int 1)))) (gSet 9 (f2 ixD (fVar 3) (f2 iMod (f2 iDiv (fVar 1) (fC (.int 324))) (fC (.int 5))))) gNext) (gSeq (gSet 10 (f2 ixD (fVar 3) (f2 iMod (f2 iDiv (fVar 1) (fC (.int 1620))) (fC (.int 5))))) (gSeq (gSet 11 (fA maxD (fCons (fC (.int 0)) (fCons (f2 iSub (f2 iSub (fVar 0) (fC (.int 1))) (f2 iMod (fVar 2) (fC (.int 4)))) fNil)))) (gSeq (gIf (tOf (f2 dEq (f2 iMod (f2 iDiv (fVar 2) (fC (.int 4))) (fC (.int 8))) (fC (.int 1)))) (gSet 11 (f2 iMod (f2 iDiv (fVar 2) (fC (.int 32))) (fC (.int 60)))) gNext) h))))))) [some (.int many, false), some (.int c, false), some (.int o, false), some (.lst (zs.map .str), false), some (.int day, false), some (.lst (had.map .str), false), some (.int m, false), none, none, none, none, none, none, none, none] = r := by
  have h18 := mod_lt (x := c) (m := 18) (by decide)
  obtain ⟨w, hw, ew⟩ := ix_any (zs := kinds) (i := c % 18) (by simp [kinds]; omega) (by simp [kinds]; omega)
  obtain ⟨n, hn, hn1, hn3⟩ : ∃ n : Int, (if (had.length : Int) < 3 then (had.length : Int) else 3) = n ∧ 0 < n ∧ n ≤ had.length := by
    have : 0 < had.length := List.length_pos_iff.mpr hh
    split
    · exact ⟨_, rfl, by omega, by omega⟩
    · exact ⟨_, rfl, by omega, by omega⟩
  have hmn := mod_lt (x := c / 18) (m := n) hn1
  obtain ⟨b0, _, eb0⟩ := ix_any (zs := had) (i := -1 - c / 18 % n) (by omega) (by omega)
  have h5 := mod_lt (x := c / 324) (m := 5) (by decide)
  obtain ⟨b1, _, eb1⟩ := ix_any (zs := zs) (i := c / 324 % 5) (by omega) (by omega)
  have h5' := mod_lt (x := c / 1620) (m := 5) (by decide)
  obtain ⟨p, _, ep⟩ := ix_any (zs := zs) (i := c / 1620 % 5) (by omega) (by omega)
  have h60 := mod_lt (x := o / 32) (m := 60) (by decide)
  obtain ⟨f0, hf0⟩ : ∃ f0 : Nat, (if many - 1 - o % 4 > 0 then many - 1 - o % 4 else 0) = (f0 : Int) := by
    split
    · exact ⟨(many - 1 - o % 4).toNat, by omega⟩
    · exact ⟨0, rfl⟩
  obtain ⟨f1, hf1⟩ : ∃ f1 : Nat, o / 32 % 60 = (f1 : Int) := ⟨(o / 32 % 60).toNat, by omega⟩
  refine ⟨w, if c / 54 % 6 = 1 then b1 else b0, p, if o / 4 % 8 = 1 then f1 else f0, hw, fun h r hr => ?_⟩
  refine r_own (ds := kinds.map .str) ?_ (noLsts_strs _) (r_flat (d := .str w) (b := false) (e_op (x := .lst (kinds.map .str)) (y := .int (c % 18)) (b1 := false) (b2 := false) rfl (by simp) ew) rfl (r_flat (d := .str b0) (b := false) ?_ rfl (r_seq (ρ' := [some (.int many, false), some (.int c, false), some (.int o, false), some (.lst (zs.map .str), false), some (.int day, false), some (.lst (had.map .str), false), some (.int m, false), some (.lst (kinds.map .str), true), some (.str w, false), some (.str (if c / 54 % 6 = 1 then b1 else b0), false), none, none, none, none, none]) ?_ (r_flat (d := .str p) (b := false) ?_ rfl (r_flat (d := .int f0) (b := false) ?_ rfl (r_seq ?_ hr))))))
  · have e1 : ∀ (s : Str) (k : Nat), k ≤ 100 → fRep (fA mkLst (fCons (fC (.str s)) fNil)) (fC (.int k)) [some (.int many, false), some (.int c, false), some (.int o, false), some (.lst (zs.map .str), false), some (.int day, false), some (.lst (had.map .str), false), some (.int m, false), none, none, none, none, none, none, none, none] = some (.lst (List.replicate k (.str s)), true) := fun s k hk => by
      have h1 : (k : Int) ≤ 1000 := by omega
      have h2 : k ≤ 1000 := by omega
      have h3 : ∀ n : Nat, (List.replicate n [D.str s]).flatten = List.replicate n (.str s) := fun n => by
        induction n with
        | zero => rfl
        | succ n ih => rw [List.replicate_succ, List.flatten_cons, ih, List.replicate_succ]; rfl
      simp [sizeLine, h1, h2, h3]
    have z : ∀ n : Nat, n ≤ 100 → n ≤ sizeLine := fun n h => small_le (by omega)
    refine e_op (x := .lst ((kinds.take 16).map .str)) (y := .lst ((kinds.drop 16).map .str)) (b1 := true) (b2 := true) (e_op (x := .lst ((kinds.take 7).map .str)) (y := .lst (List.replicate 9 (.str ("copy" : PySem.Str)))) (b1 := true) (b2 := true) (e_op (x := .lst ((kinds.take 5).map .str)) (y := .lst (List.replicate 2 (.str ("like" : PySem.Str)))) (b1 := true) (b2 := true) (e_op (x := .lst ((kinds.take 2).map .str)) (y := .lst (List.replicate 3 (.str ("paper" : PySem.Str)))) (b1 := true) (b2 := true) (e1 _ 2 (by decide)) (e1 _ 3 (by decide)) ?_) (e1 _ 2 (by decide)) ?_) (e1 _ 9 (by decide)) ?_) ?_ ?_
    · refine (if_pos (c := 5 ≤ sizeLine) (e := none) (z 5 (by decide))).trans ?_; rfl
    · refine (if_pos (c := 7 ≤ sizeLine) (e := none) (z 7 (by decide))).trans ?_; rfl
    · refine (if_pos (c := 16 ≤ sizeLine) (e := none) (z 16 (by decide))).trans ?_; rfl
    · refine (if_pos (c := 2 ≤ sizeLine) (e := none) (z 2 (by decide))).trans ?_; rfl
    · refine (if_pos (c := 18 ≤ sizeLine) (e := none) (z 18 (by decide))).trans ?_; rfl
  · refine e_op (x := .lst (had.map .str)) (y := .int (-1 - c / 18 % n)) (b1 := false) (b2 := false) rfl ?_ eb0
    refine e_op (x := .int (-1)) (y := .int (c / 18 % n)) (b1 := false) (b2 := false) rfl ?_ rfl
    refine e_op (x := .int (c / 18)) (y := .int n) (b1 := false) (b2 := false) (by simp) (by simp [hn]) ?_
    show (if decide ((0 : Int) < n) = true then _ else _) = _
    rw [if_pos (decide_eq_true hn1)]
  · by_cases hx : c / 54 % 6 = 1
    · rw [if_pos hx]
      exact if_t (tOf_ok (b := false) (by simp [hx])) (set_flat (d := .str b1) (b := false) (e_op (x := .lst (zs.map .str)) (y := .int (c / 324 % 5)) (b1 := false) (b2 := false) rfl (by simp) eb1) rfl)
    · rw [if_neg hx]
      exact if_f (tOf_ok (b := false) (by simp [hx])) rfl
  · exact e_op (x := .lst (zs.map .str)) (y := .int (c / 1620 % 5)) (b1 := false) (b2 := false) rfl (by simp) ep
  · show some (D.int (if many - 1 - o % 4 > 0 then many - 1 - o % 4 else 0), false) = _
    rw [hf0]
  · by_cases hx : o / 4 % 8 = 1
    · simp only [if_pos hx]
      exact if_t (tOf_ok (b := false) (by simp [hx])) (set_flat (d := .int f1) (b := false) (by simp [hf1]) rfl)
    · simp only [if_neg hx]
      exact if_f (tOf_ok (b := false) (by simp [hx])) rfl
theorem is_str {f : FE} {ρ : DL.Env} {a b : Str} {x : Bool} {bb : Bool} (e : f ρ = some (.str a, bb)) (h : decide (a = b) = x) : tOf (f2 dEq f (fC (.str b))) ρ = some x := tOf_ok (b := false) (e_op (x := .str a) (y := .str b) (b1 := bb) (b2 := false) e rfl (by rw [← h]; simp))
theorem ix_ns {ns : List Int} {i : Int} (h1 : 0 ≤ i) (h2 : i < ns.length) : ∃ m ∈ ns, ixD (.lst (ns.map .int)) (.int i) = some (.int m, false) := by
  have h : i.toNat < ns.length := by omega
  refine ⟨ns.getD i.toNat 0, ?_, ints_at h1 h⟩
  rw [List.getD_eq_getElem?_getD, List.getElem?_eq_getElem h]
  exact List.getElem_mem h
theorem inD_strs (k : Str) (ws : List Str) : inD (.str k) (ws.map .str) = decide (k ∈ ws) := by
  induction ws with
  | nil => simp [inD]
  | cons w ws ih =>
    have : inD (.str k) ((w :: ws).map .str) = (eqD (.str w) (.str k) || inD (.str k) (ws.map .str)) := rfl
    rw [this, ih, eqD_str_str]
    by_cases e : w = k
    · simp [e]
    · have e' : ¬ k = w := fun z => e z.symm
      simp [e, e']
theorem flat_strs (ws : List Str) : (ws.map D.str).all flatD = true := by
  induction ws with
  | nil => rfl
  | cons w ws ih => simp [flatD]
theorem dIn_strs (k : Str) (ws : List Str) : dIn (.str k) (.tup (ws.map .str)) = some (.bl (decide (k ∈ ws)), false) := by
  simp only [dIn, seqOf, Option.bind_some, inD_strs]
  rw [if_pos ⟨rfl, flat_strs ws⟩]
theorem deed_ok (many c o day m : Int) (zs had : List Str) (hz : zs.length = 7) (hh : had ≠ []) :
    ∃ k r, F_w_deed [.int many, .int c, .int o, .lst (zs.map .str), .int day, .lst (had.map .str), .int m] = some (.tup (.str k :: r), false) ∧ Dd k r ∧ k ≠ ("root" : PySem.Str) ∧ k ≠ ("chosen" : PySem.Str) ∧ (k = ("leave" : PySem.Str) ∨ k = ("named" : PySem.Str) → ∃ p, r[2]? = some (.str p)) := by
  obtain ⟨w, by_, p, ofn, hw, pre⟩ := deed_pre many c o day m zs had hz hh
  obtain ⟨s, es, hs⟩ := stretch_ok (o / 32) day m
  have h8 := mod_lt (x := c / 8100) (m := 8) (by decide)
  obtain ⟨m1, _, em1⟩ := ix_ns (ns := [3, 1, 7, 2, 255, 5, 1, 3]) (i := c / 8100 % 8) h8.1 h8.2
  obtain ⟨m2, _, em2⟩ := ix_ns (ns := [1, 1, 3, 2, 4, 5, 128, 7]) (i := c / 8100 % 8) h8.1 h8.2
  have h4 := mod_lt (x := o / 2560) (m := 4) (by decide)
  obtain ⟨dv, hdv, ed⟩ := ix_ns (ns := [5, 5, 5, 10]) (i := o / 2560 % 4) h4.1 h4.2
  have hd0 : 0 < dv := by simp only [List.mem_cons, List.not_mem_nil, or_false] at hdv; omega
  have h2 := mod_lt (x := o / 256) (m := 2) (by decide)
  obtain ⟨wv, ewv, hwv⟩ : ∃ wv, ixD (.lst [.non, .str p]) (.int (o / 256 % 2)) = some (wv, false) ∧ noLst wv = true := by
    rcases (show o / 256 % 2 = 0 ∨ o / 256 % 2 = 1 by omega) with h | h
    · rw [h]; exact ⟨.non, by simp [at0], rfl⟩
    · rw [h]; exact ⟨.str p, by simp [at1], rfl⟩
  have h2' := mod_lt (x := o) (m := 2) (by decide)
  obtain ⟨off, _, eo⟩ := ix_any (zs := zs) (i := 5 + o % 2) (by omega) (by omega)
  have mk : ∀ (ds : List D), ds.length ≤ 100 → mkTup ds = some (.tup ds, false) := fun ds h => if_pos (small_le (by omega))
  have stq : ∀ (ρ : DL.Env), ρ[2]? = some (some (.int o, false)) → ρ[4]? = some (some (.int day, false)) → ρ[6]? = some (some (.int m, false)) → fA F_w_stretch (fCons (f2 iDiv (fVar 2) (fC (.int 32))) (fCons (fVar 4) (fCons (fVar 6) fNil))) ρ = some (s, false) := fun ρ q1 q2 q3 =>
    call_ok (ds := [.int (o / 32), .int day, .int m]) (by simp [q1, q2, q3]) es
  rcases kinds_six hw with rfl | rfl | rfl | rfl | rfl | rfl
  · refine ⟨("leave" : PySem.Str), [.int day, .str by_, .str p, .int m1, s, .int (o / 256 % dv)], body_rt rfl (pre _ _ ?_), .other _ (.inl rfl) _ _ (by simp [hs]), by decide +kernel, by decide +kernel, fun _ => ⟨p, rfl⟩⟩
    refine r_if_t (is_str (a := ("leave" : PySem.Str)) (bb := false) rfl (by decide +kernel)) (r_flat (d := .int m1) (b := false) ?_ rfl (r_flat (d := .int (o / 256 % dv)) (b := false) ?_ rfl (ret_ok (call_ok (ds := [.str ("leave" : PySem.Str), .int day, .str by_, .str p, .int m1, s, .int (o / 256 % dv)]) ?_ (mk _ (by simp))))))
    · exact e_op (x := .lst (([3, 1, 7, 2, 255, 5, 1, 3] : List Int).map .int)) (y := .int (c / 8100 % 8)) (b1 := true) (b2 := false) (by simp [sizeLine]) (by simp) em1
    · refine e_op (x := .int (o / 256)) (y := .int dv) (b1 := false) (b2 := false) (by simp) (e_op (x := .lst (([5, 5, 5, 10] : List Int).map .int)) (y := .int (o / 2560 % 4)) (b1 := true) (b2 := false) (by simp [sizeLine]) (by simp) ed) ?_
      show (if decide ((0 : Int) < dv) = true then _ else _) = _
      rw [if_pos (decide_eq_true hd0)]
    · exact a_cons (b := false) rfl (a_cons (b := false) rfl (a_cons (b := false) rfl (a_cons (b := false) rfl (a_cons (b := false) rfl (a_cons (stq _ rfl rfl rfl) (a_cons (b := false) rfl rfl))))))
  · refine ⟨("paper" : PySem.Str), [.int day, .str by_, .int m2, s, wv, .tup [.str p]], body_rt rfl (pre _ _ ?_), .other _ (.inr (.inl rfl)) _ _ (by simp [hs, hwv]), by decide +kernel, by decide +kernel, fun h => absurd h (by decide +kernel)⟩
    refine r_if_f (is_str (a := ("paper" : PySem.Str)) (bb := false) rfl (by decide +kernel)) (r_if_t (tor_ok (p := true) (q := false) (is_str (a := ("paper" : PySem.Str)) (bb := false) rfl (by decide +kernel)) fun _ => is_str (a := ("paper" : PySem.Str)) (bb := false) rfl (by decide +kernel)) (r_flat (d := .int m2) (b := false) ?_ rfl (r_flat (d := .tup [.str ("paper" : PySem.Str), .int day, .str by_, .int m2, s, wv]) (b := false) (call_ok (ds := [.str ("paper" : PySem.Str), .int day, .str by_, .int m2, s, wv]) ?_ (mk _ (by simp))) (by simp [hs, hwv]) (r_if_f (is_str (a := ("paper" : PySem.Str)) (bb := false) rfl (by decide +kernel)) (ret_ok ?_)))))
    · exact e_op (x := .lst (([1, 1, 3, 2, 4, 5, 128, 7] : List Int).map .int)) (y := .int (c / 8100 % 8)) (b1 := true) (b2 := false) (by simp [sizeLine]) (by simp) em2
    · exact a_cons (b := false) rfl (a_cons (b := false) rfl (a_cons (b := false) rfl (a_cons (b := false) rfl (a_cons (stq _ rfl rfl rfl) (a_cons (e_op (x := .lst [.non, .str p]) (y := .int (o / 256 % 2)) (b1 := true) (b2 := false) (by simp [sizeLine]) (by simp) ewv) rfl)))))
    · exact e_op (x := .tup [.str ("paper" : PySem.Str), .int day, .str by_, .int m2, s, wv]) (y := .tup [.tup [.str p]]) (b1 := false) (b2 := false) rfl (by simp [sizeLine]) (by simp [sizeLine])
  · refine ⟨("like" : PySem.Str), [.int day, .str by_, .int m2, s, wv, .int ofn, .tup [.tup [.int 0, .str p]]], body_rt rfl (pre _ _ ?_), .other _ (.inr (.inr (.inl rfl))) _ _ (by simp [hs, hwv]), by decide +kernel, by decide +kernel, fun h => absurd h (by decide +kernel)⟩
    refine r_if_f (is_str (a := ("like" : PySem.Str)) (bb := false) rfl (by decide +kernel)) (r_if_t (tor_ok (p := false) (q := true) (is_str (a := ("like" : PySem.Str)) (bb := false) rfl (by decide +kernel)) fun _ => is_str (a := ("like" : PySem.Str)) (bb := false) rfl (by decide +kernel)) (r_flat (d := .int m2) (b := false) ?_ rfl (r_flat (d := .tup [.str ("like" : PySem.Str), .int day, .str by_, .int m2, s, wv]) (b := false) (call_ok (ds := [.str ("like" : PySem.Str), .int day, .str by_, .int m2, s, wv]) ?_ (mk _ (by simp))) (by simp [hs, hwv]) (r_if_t (is_str (a := ("like" : PySem.Str)) (bb := false) rfl (by decide +kernel)) (ret_ok ?_)))))
    · exact e_op (x := .lst (([1, 1, 3, 2, 4, 5, 128, 7] : List Int).map .int)) (y := .int (c / 8100 % 8)) (b1 := true) (b2 := false) (by simp [sizeLine]) (by simp) em2
    · exact a_cons (b := false) rfl (a_cons (b := false) rfl (a_cons (b := false) rfl (a_cons (b := false) rfl (a_cons (stq _ rfl rfl rfl) (a_cons (e_op (x := .lst [.non, .str p]) (y := .int (o / 256 % 2)) (b1 := true) (b2 := false) (by simp [sizeLine]) (by simp) ewv) rfl)))))
    · exact e_op (x := .tup [.str ("like" : PySem.Str), .int day, .str by_, .int m2, s, wv]) (y := .tup [.int ofn, .tup [.tup [.int 0, .str p]]]) (b1 := false) (b2 := false) rfl (by simp [sizeLine]) (by simp [sizeLine])
  · refine ⟨("copy" : PySem.Str), [.int day, .str by_, .int ofn], body_rt rfl (pre _ _ ?_), .copy _ _ _, by decide +kernel, by decide +kernel, fun h => absurd h (by decide +kernel)⟩
    refine r_if_f (is_str (a := ("copy" : PySem.Str)) (bb := false) rfl (by decide +kernel)) (r_if_f (tor_ok (p := false) (q := false) (is_str (a := ("copy" : PySem.Str)) (bb := false) rfl (by decide +kernel)) fun _ => is_str (a := ("copy" : PySem.Str)) (bb := false) rfl (by decide +kernel)) (r_if_t (tOf_ok (b := false) (e_op (x := .str ("copy" : PySem.Str)) (y := .tup ([("copy" : PySem.Str), ("call" : PySem.Str)].map .str)) (b1 := false) (b2 := false) rfl (by simp [sizeLine]) ?_)) (ret_ok (call_ok (ds := [.str ("copy" : PySem.Str), .int day, .str by_, .int ofn]) rfl (mk _ (by simp))))))
    rw [dIn_strs]
    simp
  · refine ⟨("call" : PySem.Str), [.int day, .str by_, .int ofn], body_rt rfl (pre _ _ ?_), .other _ (.inr (.inr (.inr rfl))) _ _ (by simp), by decide +kernel, by decide +kernel, fun h => absurd h (by decide +kernel)⟩
    refine r_if_f (is_str (a := ("call" : PySem.Str)) (bb := false) rfl (by decide +kernel)) (r_if_f (tor_ok (p := false) (q := false) (is_str (a := ("call" : PySem.Str)) (bb := false) rfl (by decide +kernel)) fun _ => is_str (a := ("call" : PySem.Str)) (bb := false) rfl (by decide +kernel)) (r_if_t (tOf_ok (b := false) (e_op (x := .str ("call" : PySem.Str)) (y := .tup ([("copy" : PySem.Str), ("call" : PySem.Str)].map .str)) (b1 := false) (b2 := false) rfl (by simp [sizeLine]) ?_)) (ret_ok (call_ok (ds := [.str ("call" : PySem.Str), .int day, .str by_, .int ofn]) rfl (mk _ (by simp))))))
    rw [dIn_strs]
    simp
  · refine ⟨("named" : PySem.Str), [.int day, .str off, .str p], body_rt rfl (pre _ _ ?_), .named _ _ _, by decide +kernel, by decide +kernel, fun _ => ⟨p, rfl⟩⟩
    refine r_if_f (is_str (a := ("named" : PySem.Str)) (bb := false) rfl (by decide +kernel)) (r_if_f (tor_ok (p := false) (q := false) (is_str (a := ("named" : PySem.Str)) (bb := false) rfl (by decide +kernel)) fun _ => is_str (a := ("named" : PySem.Str)) (bb := false) rfl (by decide +kernel)) (r_if_f (tOf_ok (b := false) (e_op (x := .str ("named" : PySem.Str)) (y := .tup ([("copy" : PySem.Str), ("call" : PySem.Str)].map .str)) (b1 := false) (b2 := false) rfl (by simp [sizeLine]) ?_)) (r_if_t (is_str (a := ("named" : PySem.Str)) (bb := false) rfl (by decide +kernel)) (ret_ok (call_ok (ds := [.str ("named" : PySem.Str), .int day, .str off, .str p]) ?_ (mk _ (by simp)))))))
    · rw [dIn_strs, decide_eq_false (by decide +kernel)]
    · exact a_cons (b := false) rfl (a_cons (b := false) rfl (a_cons (e_op (x := .lst (zs.map .str)) (y := .int (5 + o % 2)) (b1 := false) (b2 := false) rfl (by simp) eo) (a_cons (b := false) rfl rfl)))
def row (h : Int) (kind : Str) (rest : List D) : D := .tup [.int h, .tup (.str kind :: rest)]
def RowOk (r : D) : Prop := ∃ h k rest, r = row h k rest ∧ Dd k rest
theorem RowOk.flat {r : D} (h : RowOk r) : noLst r = true := by obtain ⟨a, k, rest, rfl, d⟩ := h; simp [row, d.flat]
theorem noLsts_all {ds : List D} (h : ∀ d ∈ ds, noLst d = true) : noLsts ds = true := by
  induction ds with
  | nil => rfl
  | cons a l ih => simp [h a List.mem_cons_self, ih fun d hd => h d (List.mem_cons_of_mem _ hd)]
theorem mul_ok {a b : Int} (h : -1000 ≤ a ∧ a ≤ 1000) : iMul (.int a) (.int b) = some (.int (a * b), false) := by
  have : -18446744073709551616 < a ∧ a < 18446744073709551616 := by omega
  simp [this]
theorem mk_ok (ds : List D) (h : ds.length ≤ 100) : mkTup ds = some (.tup ds, false) := if_pos (small_le (by omega))
theorem b1_ok (c1 m most : Int) (xs zs had : List Str) (ns : List Int) (rows : List D) (hz : zs.length = 7) (i : Nat) (hi : i < 2) (hr : rows.length ≤ 100) (hh : had.length ≤ 100) (v8 v9 v10 v11 : Option (D × Bool)) :
    ∃ r1 r2 p w8 w9 w10 w11, RowOk r1 ∧ RowOk r2 ∧ B1_w_rows [some (.lst (ns.map .int), false), some (.lst (zs.map .str), false), some (.int m, false), some (.int most, false), some (.int c1, false), some (.lst rows, true), some (.lst (had.map .str), true), some (.int i, false), v8, v9, v10, v11, none, none, none]
      = some (.nx [some (.lst (ns.map .int), false), some (.lst (zs.map .str), false), some (.int m, false), some (.int most, false), some (.int c1, false), some (.lst (rows ++ [r1] ++ [r2]), true), some (.lst ((had ++ [p]).map .str), true), some (.int i, false), w8, w9, w10, w11, none, none, none]) := by
  have h3 := mod_lt (x := c1 / (64 + 9 * i)) (m := 3) (by decide)
  obtain ⟨rl, _, erl⟩ := ix_any (zs := [("open" : PySem.Str), ("first" : PySem.Str), ("last" : PySem.Str)]) (i := c1 / (64 + 9 * i) % 3) (by simp; omega) (by simp; omega)
  have h4 := mod_lt (x := c1 / (2 + 8 * i)) (m := 4) (by decide)
  obtain ⟨mt, _, emt⟩ := ix_ns (ns := [7, 255, 3, 15]) (i := c1 / (2 + 8 * i) % 4) h4.1 h4.2
  have h3' := mod_lt (x := c1 / (31 + i)) (m := 3) (by decide)
  obtain ⟨dv, hdv, ed⟩ := ix_ns (ns := [5, 5, 10]) (i := c1 / (31 + i) % 3) h3'.1 h3'.2
  have hd0 : 0 < dv := by simp only [List.mem_cons, List.not_mem_nil, or_false] at hdv; omega
  obtain ⟨of, _, eof⟩ := ix_any (zs := zs) (i := 5 + i) (by omega) (by omega)
  obtain ⟨pn, _, epn⟩ := ix_any (zs := zs) (i := i) (by omega) (by omega)
  have b64 : (0 : Int) < 64 + 9 * i ∧ (64 : Int) + 9 * i < 1073741824 := by omega
  have b2 : (0 : Int) < 2 + 8 * i ∧ (2 : Int) + 8 * i < 1073741824 := by omega
  have b512 : (0 : Int) < 512 + i ∧ (512 : Int) + i < 1073741824 := by omega
  have b1024 : (0 : Int) < 1024 + 5 * i ∧ (1024 : Int) + 5 * i < 1073741824 := by omega
  have b31 : (0 : Int) < 31 + i ∧ (31 : Int) + i < 1073741824 := by omega
  let t : Int := if c1 / (512 + i) % 8 = 1 then 1 else 0
  have ht : 0 ≤ t ∧ t ≤ 1 := by show 0 ≤ (if _ then (1 : Int) else 0) ∧ (if _ then (1 : Int) else 0) ≤ 1; split <;> omega
  refine ⟨row (t * 4 * m) ("root" : PySem.Str) [.str of, .int mt, .int (c1 / (1024 + 5 * i) % dv), .str rl], row 0 ("named" : PySem.Str) [.int 0, .str of, .str pn], pn, some (.str rl, false), some (.int mt, false), some (.int (t * 4 * m), false), some (.int (c1 / (1024 + 5 * i) % dv), false), ⟨_, _, _, rfl, .root _ _ _ _⟩, ⟨_, _, _, rfl, .named _ _ _⟩, ?_⟩
  refine r_flat (d := .str rl) (b := false) ?_ rfl (r_flat (d := .int mt) (b := false) ?_ rfl (r_flat (d := .int (t * 4 * m)) (b := false) ?_ rfl (r_flat (d := .int (c1 / (1024 + 5 * i) % dv)) (b := false) ?_ rfl (r_app (ds := rows) (d := row (t * 4 * m) ("root" : PySem.Str) [.str of, .int mt, .int (c1 / (1024 + 5 * i) % dv), .str rl]) (b := false) rfl ?_ rfl (small_size (by omega)) (r_app (ds := rows ++ [row (t * 4 * m) ("root" : PySem.Str) [.str of, .int mt, .int (c1 / (1024 + 5 * i) % dv), .str rl]]) (d := row 0 ("named" : PySem.Str) [.int 0, .str of, .str pn]) (b := false) rfl ?_ rfl (small_size (by simp; omega)) ((app_ok (ds := had.map .str) (d := .str pn) (b := false) rfl ?_ rfl (small_size (by simp; omega))).trans ?_))))))
  · exact e_op (x := .lst (([("open" : PySem.Str), ("first" : PySem.Str), ("last" : PySem.Str)] : List Str).map .str)) (y := .int (c1 / (64 + 9 * i) % 3)) (b1 := true) (b2 := false) (by simp [sizeLine]) (by simp [b64]) erl
  · exact e_op (x := .lst (([7, 255, 3, 15] : List Int).map .int)) (y := .int (c1 / (2 + 8 * i) % 4)) (b1 := true) (b2 := false) (by simp [sizeLine]) (by simp [b2]) emt
  · refine e_op (x := .int (t * 4)) (y := .int m) (b1 := false) (b2 := false) (e_op (x := .int t) (y := .int 4) (b1 := false) (b2 := false) ?_ rfl (by simp)) rfl (mul_ok (by omega))
    refine call_ok (ds := [.bl (decide (c1 / (512 + i) % 8 = 1))]) (a_cons (b := false) (e_op (x := .int (c1 / (512 + i) % 8)) (y := .int 1) (b1 := false) (b2 := false) (by simp [b512]) rfl (by simp)) rfl) ?_
    simp [t]
  · refine e_op (x := .int (c1 / (1024 + 5 * i))) (y := .int dv) (b1 := false) (b2 := false) (by simp [b1024]) (e_op (x := .lst (([5, 5, 10] : List Int).map .int)) (y := .int (c1 / (31 + i) % 3)) (b1 := true) (b2 := false) (by simp [sizeLine]) (by simp [b31]) ed) ?_
    show (if decide ((0 : Int) < dv) = true then _ else _) = _
    rw [if_pos (decide_eq_true hd0)]
  · refine call_ok (ds := [.int (t * 4 * m), .tup [.str ("root" : PySem.Str), .str of, .int mt, .int (c1 / (1024 + 5 * i) % dv), .str rl]]) (a_cons (b := false) rfl (a_cons (b := false) (call_ok (ds := [.str ("root" : PySem.Str), .str of, .int mt, .int (c1 / (1024 + 5 * i) % dv), .str rl]) (a_cons (b := false) rfl (a_cons (e_op (x := .lst (zs.map .str)) (y := .int (5 + i)) (b1 := false) (b2 := false) rfl (by simp) eof) (a_cons (b := false) rfl (a_cons (b := false) rfl (a_cons (b := false) rfl rfl))))) (mk_ok _ (by simp))) rfl)) (mk_ok _ (by simp))
  · refine call_ok (ds := [.int 0, .tup [.str ("named" : PySem.Str), .int 0, .str of, .str pn]]) (a_cons (b := false) rfl (a_cons (b := false) (call_ok (ds := [.str ("named" : PySem.Str), .int 0, .str of, .str pn]) (a_cons (b := false) rfl (a_cons (b := false) rfl (a_cons (e_op (x := .lst (zs.map .str)) (y := .int (5 + i)) (b1 := false) (b2 := false) rfl (by simp) eof) (a_cons (e_op (x := .lst (zs.map .str)) (y := .int i) (b1 := false) (b2 := false) rfl rfl epn) rfl)))) (mk_ok _ (by simp))) rfl)) (mk_ok _ (by simp))
  · exact e_op (x := .lst (zs.map .str)) (y := .int i) (b1 := false) (b2 := false) rfl rfl epn
  · simp
def strOr (k : Str) : Option D → Str
  | some (.str p) => p
  | _ => k
def hadN (k : Str) (r : List D) (had : List Str) : List Str := if k = ("leave" : PySem.Str) ∨ k = ("named" : PySem.Str) then had ++ [strOr k r[2]?] else had
theorem hadN_ne {k : Str} {r : List D} {had : List Str} (h : had ≠ []) : hadN k r had ≠ [] := by unfold hadN; split <;> simp [h]
theorem hadN_len (k : Str) (r : List D) (had : List Str) : (hadN k r had).length ≤ had.length + 1 := by unfold hadN; split <;> simp
theorem b2_ok (c1 m most : Int) (zs had : List Str) (ns : List Int) (rows : List D) (hz : zs.length = 7) (i : Nat) (hi : i < 100) (hr : rows.length ≤ 200) (hh : had ≠ []) (hh2 : had.length ≤ 200) (v8 v9 v10 v11 v12 v13 v14 : Option (D × Bool)) :
    ∃ r1 had' w12 w13 w14, RowOk r1 ∧ had' ≠ [] ∧ had'.length ≤ had.length + 1 ∧ B2_w_rows [some (.lst (ns.map .int), false), some (.lst (zs.map .str), false), some (.int m, false), some (.int most, false), some (.int c1, false), some (.lst rows, true), some (.lst (had.map .str), true), some (.int i, false), v8, v9, v10, v11, v12, v13, v14]
      = some (.nx [some (.lst (ns.map .int), false), some (.lst (zs.map .str), false), some (.int m, false), some (.int most, false), some (.int c1, false), some (.lst (rows ++ [r1]), true), some (.lst (had'.map .str), true), some (.int i, false), v8, v9, v10, v11, w12, w13, w14]) := by
  obtain ⟨ca, eca, ca0⟩ := cell_ok ns (5 + i)
  obtain ⟨cb, ecb, cb0⟩ := cell_ok ns (30 + i)
  obtain ⟨cc, ecc, cc0⟩ := cell_ok ns (60 + i)
  have h3 := mod_lt (x := ca / 7) (m := 3) (by decide)
  obtain ⟨day, hday⟩ : ∃ day : Int, ((i : Int) / 2 + ca / 7 % 3) * m = day := ⟨_, rfl⟩
  obtain ⟨k, r, ed, hD, hk1, hk2, hk3⟩ := deed_ok rows.length cb cc day m zs had hz hh
  have h6 := mod_lt (x := ca / 21) (m := 6) (by decide)
  obtain ⟨tv, htv, etv⟩ := ix_ns (ns := [0, 0, 0, 0, 1, 4]) (i := ca / 21 % 6) h6.1 h6.2
  have htb : -1000 ≤ tv ∧ tv ≤ 1000 := by simp only [List.mem_cons, List.not_mem_nil, or_false] at htv; omega
  have hdf : noLst (.tup (.str k :: r)) = true := by simp [hD.flat]
  have e4 : ∀ (ρ : DL.Env), ρ[14]? = some (some (.tup (.str k :: r), false)) → f2 ixD (fVar 14) (fC (.int 0)) ρ = some (.str k, false) := fun ρ h => e_op (x := .tup (.str k :: r)) (y := .int 0) (b1 := false) (b2 := false) (by simp [h]) rfl (by simp [at0])
  refine ⟨row (day + tv * m) k r, hadN k r had, some (.int ca, false), some (.int day, false), some (.tup (.str k :: r), false), ⟨_, _, _, rfl, hD⟩, hadN_ne hh, hadN_len k r had, ?_⟩
  refine r_flat (d := .int ca) (b := false) (call_ok (ds := [.lst (ns.map .int), .int ((5 + i : Nat) : Int)]) (by simp) eca) rfl (r_flat (d := .int day) (b := false) ?_ rfl (r_flat (d := .tup (.str k :: r)) (b := false) ?_ hdf (r_seq (ρ' := [some (.lst (ns.map .int), false), some (.lst (zs.map .str), false), some (.int m, false), some (.int most, false), some (.int c1, false), some (.lst rows, true), some (.lst ((hadN k r had).map .str), true), some (.int i, false), v8, v9, v10, v11, some (.int ca, false), some (.int day, false), some (.tup (.str k :: r), false)]) ?_ (r_if_f (is_str (a := k) (bb := false) (e4 _ rfl) (decide_eq_false hk2)) ((app_ok (ds := rows) (d := row (day + tv * m) k r) (b := false) rfl ?_ (by simp [row, hD.flat]) (small_size (by omega))).trans ?_)))))
  · refine e_op (x := .int ((i : Int) / 2 + ca / 7 % 3)) (y := .int m) (b1 := false) (b2 := false) (by simp) rfl ?_
    rw [← hday]
    exact mul_ok (by omega)
  · refine call_ok (ds := [.int rows.length, .int cb, .int cc, .lst (zs.map .str), .int day, .lst (had.map .str), .int m]) (a_cons (b := false) (by simp) (a_cons (call_ok (ds := [.lst (ns.map .int), .int ((30 + i : Nat) : Int)]) (by simp) ecb) (a_cons (call_ok (ds := [.lst (ns.map .int), .int ((60 + i : Nat) : Int)]) (by simp) ecc) (a_cons (b := false) rfl (a_cons (b := false) rfl (a_cons (b := false) rfl (a_cons (b := false) rfl rfl))))))) ed
  · by_cases hx : k = ("leave" : PySem.Str) ∨ k = ("named" : PySem.Str)
    · obtain ⟨p, hp⟩ := hk3 hx
      have hhad : hadN k r had = had ++ [p] := by unfold hadN; rw [if_pos hx, hp]; rfl
      rw [hhad]
      have hl2 : 2 < r.length := (List.getElem?_eq_some_iff.mp hp).1
      refine if_t (tOf_ok (b := false) (e_op (x := .str k) (y := .tup (([("leave" : PySem.Str), ("named" : PySem.Str)] : List Str).map .str)) (b1 := false) (b2 := false) (e4 _ rfl) (by simp [sizeLine]) ?_)) ((app_ok (ds := had.map .str) (d := .str p) (b := false) rfl ?_ rfl (small_size (by simp; omega))).trans ?_)
      · rw [dIn_strs, decide_eq_true (by simpa using hx)]
      · refine e_op (x := .tup (.str k :: r)) (y := .int 3) (b1 := false) (b2 := false) rfl rfl ?_
        rw [DL.ix_tup (by decide) (by simp; omega)]
        have : (D.str k :: r).getD 3 .non = .str p := by rw [List.getD_eq_getElem?_getD]; show (r[2]?).getD .non = _; rw [hp]; rfl
        show some ((D.str k :: r).getD 3 .non, false) = _
        rw [this]
      · simp
    · have hhad : hadN k r had = had := by unfold hadN; rw [if_neg hx]
      rw [hhad]
      refine if_f (tOf_ok (b := false) (e_op (x := .str k) (y := .tup (([("leave" : PySem.Str), ("named" : PySem.Str)] : List Str).map .str)) (b1 := false) (b2 := false) (e4 _ rfl) (by simp [sizeLine]) ?_)) rfl
      rw [dIn_strs, decide_eq_false (by simpa using hx)]
  · refine call_ok (ds := [.int (day + tv * m), .tup (.str k :: r)]) (a_cons (b := false) (e_op (x := .int day) (y := .int (tv * m)) (b1 := false) (b2 := false) rfl (e_op (x := .int tv) (y := .int m) (b1 := false) (b2 := false) (e_op (x := .lst (([0, 0, 0, 0, 1, 4] : List Int).map .int)) (y := .int (ca / 21 % 6)) (b1 := true) (b2 := false) (by simp [sizeLine]) (by simp) etv) rfl (mul_ok htb)) rfl) (a_cons (b := false) rfl rfl)) (mk_ok _ (by simp))
  · simp
theorem rows_ok (ns : List Int) (zs : List Str) (hz : zs.length = 7) (m : Int) : ∃ rows : List D, F_w_rows [.lst (ns.map .int), .lst (zs.map .str), .int m, .int 14] = some (.tup rows, false) ∧ (∀ r ∈ rows, RowOk r) ∧ rows.length ≤ 20 := by
  obtain ⟨c1, e1, h1⟩ := cell_ok ns 1
  obtain ⟨c2, e2, h2⟩ := cell_ok ns 2
  have hm1 := mod_lt (x := c1) (m := 2) (by decide)
  have hm2 := mod_lt (x := c2) (m := 14) (by decide)
  obtain ⟨n1, hn1⟩ : ∃ n1 : Nat, 1 + c1 % 2 = n1 := ⟨(1 + c1 % 2).toNat, by omega⟩
  obtain ⟨n2, hn2⟩ : ∃ n2 : Nat, 3 + c2 % 14 = n2 := ⟨(3 + c2 % 14).toNat, by omega⟩
  obtain ⟨ρ1, f1, rows1, had1, u7, u8, u9, u10, u11, rfl, g1, l1, k1⟩ := forR_inv (tg := tgN 7) (g := B1_w_rows) n1 (fun i ρ => ∃ (rows : List D) (had : List Str) (v7 v8 v9 v10 v11 : Option (D × Bool)), ρ = [some (.lst (ns.map .int), false), some (.lst (zs.map .str), false), some (.int m, false), some (.int 14, false), some (.int c1, false), some (.lst rows, true), some (.lst (had.map .str), true), v7, v8, v9, v10, v11, none, none, none] ∧ (∀ r ∈ rows, RowOk r) ∧ rows.length = 2 * i ∧ had.length = i)
    [some (.lst (ns.map .int), false), some (.lst (zs.map .str), false), some (.int m, false), some (.int 14, false), some (.int c1, false), some (.lst [], true), some (.lst [], true), none, none, none, none, none, none, none, none] ⟨[], [], none, none, none, none, none, rfl, by simp, rfl, rfl⟩ (by
      rintro i ρ hi ⟨rows, had, v7, v8, v9, v10, v11, rfl, g, l, k⟩
      obtain ⟨r1, r2, p, w8, w9, w10, w11, q1, q2, e⟩ := b1_ok c1 m 14 [] zs had ns rows hz i (by omega) (by omega) (by omega) v8 v9 v10 v11
      refine ⟨_, _, rfl, .inl e, rows ++ [r1] ++ [r2], had ++ [p], _, w8, w9, w10, w11, rfl, ?_, by simp; omega, by simp [k]⟩
      intro r hr
      simp only [List.mem_append, List.mem_singleton] at hr
      rcases hr with (hr | rfl) | rfl
      · exact g r hr
      · exact q1
      · exact q2)
  obtain ⟨ρ2, f2', rows2, had2, w7, w12, w13, w14, rfl, g2, l2, k2, k3⟩ := forR_inv (tg := tgN 7) (g := B2_w_rows) n2 (fun i ρ => ∃ (rows : List D) (had : List Str) (v7 v12 v13 v14 : Option (D × Bool)), ρ = [some (.lst (ns.map .int), false), some (.lst (zs.map .str), false), some (.int m, false), some (.int 14, false), some (.int c1, false), some (.lst rows, true), some (.lst (had.map .str), true), v7, u8, u9, u10, u11, v12, v13, v14] ∧ (∀ r ∈ rows, RowOk r) ∧ rows.length = 2 * n1 + i ∧ had ≠ [] ∧ had.length ≤ n1 + i)
    [some (.lst (ns.map .int), false), some (.lst (zs.map .str), false), some (.int m, false), some (.int 14, false), some (.int c1, false), some (.lst rows1, true), some (.lst (had1.map .str), true), u7, u8, u9, u10, u11, none, none, none] ⟨rows1, had1, u7, none, none, none, rfl, g1, by omega, fun e => by rw [e] at k1; simp at k1; omega, by omega⟩ (by
      rintro i ρ hi ⟨rows, had, v7, v12, v13, v14, rfl, g, l, k, k'⟩
      obtain ⟨r1, had', w12, w13, w14, q1, q2, q3, e⟩ := b2_ok c1 m 14 zs had ns rows hz i (by omega) (by omega) k (by omega) u8 u9 u10 u11 v12 v13 v14
      refine ⟨_, _, rfl, .inl e, rows ++ [r1], had', _, w12, w13, w14, rfl, ?_, by simp; omega, q2, by omega⟩
      intro r hr
      simp only [List.mem_append, List.mem_singleton] at hr
      rcases hr with hr | rfl
      · exact g r hr
      · exact q1)
  refine ⟨rows2, body_rt rfl (r_flat (d := .int c1) (b := false) (call_ok (ds := [.lst (ns.map .int), .int ((1 : Nat) : Int)]) (by simp) e1) rfl (r_own (ds := []) (by simp [sizeLine]) rfl (r_own (ds := []) (by simp [sizeLine]) rfl (r_seq (forR_run (iRange_ok (j := n1) (b := false) (by simp; omega) (by omega)) f1) (r_seq (forR_run (iRange_ok (j := n2) (b := false) ?_ (by omega)) f2') (ret_ok (by simp))))))), g2, by omega⟩
  refine e_op (x := .int 3) (y := .int (c2 % 14)) (b1 := false) (b2 := false) rfl (e_op (x := .int c2) (y := .int 14) (b1 := false) (b2 := false) (call_ok (ds := [.lst (ns.map .int), .int ((2 : Nat) : Int)]) (by simp) e2) rfl (by simp)) ?_
  rw [← hn2]
  rfl
def rowH : D → Int
  | .tup (.int h :: _) => h
  | _ => 0
def kindOf : D → Str
  | .tup [_, .tup (.str k :: _)] => k
  | _ => ⟨#[]⟩
def dv : D → Int
  | .tup [_, .tup (_ :: .int d :: _)] => d
  | _ => 0
def isRoot (r : D) : Bool := decide (kindOf r = ("root" : PySem.Str))
theorem word_ok (h : Int) (kind : Str) (rest : List D) : F_word_of [row h kind rest] = some (.str kind, false) := body_rt rfl (ret_ok (by simp [row, at1, at0]))
theorem part_ok {h : Int} {k : Str} {rest : List D} {part : Str} {i : Nat} {d : D} (hi : cIdx c_PARTS (.str k) (.str part) = some (.int i, false)) (hd : rest[i]? = some d) : F_part_of [row h k rest, .str part] = some (d, false) := by
  refine body_rt rfl (ret_ok ?_)
  refine e_op (x := .tup (.str k :: rest)) (y := .int (1 + i)) (b1 := false) (b2 := false) (by simp [row, at1]) (e_op (x := .int 1) (y := .int i) (b1 := false) (b2 := false) rfl (e_op (x := .str k) (y := .str part) (b1 := false) (b2 := false) (call_ok (ds := [row h k rest]) rfl (word_ok _ _ _)) rfl hi) (by simp)) ?_
  have hlt : i < rest.length := (List.getElem?_eq_some_iff.mp hd).1
  have : atI (.str k :: rest) (1 + (i : Int)) = some d := by
    have := atI_ge (xs := (.str k : D) :: rest) (j := i + 1) (by simp; omega)
    rw [show (1 + (i : Int)) = ((i + 1 : Nat) : Int) by omega, this]
    simp only [List.getElem_cons_succ]
    rw [List.getElem?_eq_getElem hlt] at hd
    exact hd
  simp [this]
theorem at_row {rows : List D} {i : Nat} {r : D} (h : rows[i]? = some r) : atI rows (i : Int) = some r := by
  obtain ⟨hlt, e⟩ := List.getElem?_eq_some_iff.mp h
  rw [atI_ge hlt, e]
theorem dNotIn_strs (k : Str) (ws : List Str) : dNotIn (.str k) (.tup (ws.map .str)) = some (.bl (!decide (k ∈ ws)), false) := by
  simp only [dNotIn, seqOf, Option.bind_some, inD_strs]
  rw [if_pos ⟨rfl, flat_strs ws⟩]
theorem known_ok {rows : List D} {i : Nat} {h : Int} {kind : Str} {rest : List D} (hg : rows[i]? = some (row h kind rest)) (known : Int) : F_is_known [.tup rows, .int known, .int i] = some (.bl (decide (h ≤ known)), false) := by
  have hlt : i < rows.length := (List.getElem?_eq_some_iff.mp hg).1
  have ha := at_row hg
  refine body_rt rfl (ret_ok ?_)
  have := and_ok (f1 := fChain dLe dLt (fC (.int 0)) (fVar 2) (fA lenD (fCons (fVar 0) fNil))) (f2 := f2 dLe (f2 ixD (f2 ixD (fVar 0) (fVar 2)) (fC (.int 0))) (fVar 1)) (ρ := [some (.tup rows, false), some (.int known, false), some (.int i, false)]) (p := true) (q := decide (h ≤ known)) (b1 := false)
    (by
      refine (chain_ok (x := .int 0) (y := .int i) (z := .int rows.length) (b1 := false) (b2 := false) (b3 := false) (b4 := false) (p := true) (q := true) rfl rfl (by simp) (by simp) fun _ => ?_).trans rfl
      simp; omega) fun _ => by simp [ha, row, at0]
  exact this
theorem day_idx {k : Str} {r : List D} (h : Dd k r) (hk : k ≠ ("root" : PySem.Str)) : cIdx c_PARTS (.str k) (.str ("day" : PySem.Str)) = some (.int 0, false) := by
  cases h with
  | root => exact absurd rfl hk
  | named => exact isR_eq (by decide +kernel)
  | copy => exact isR_eq (by decide +kernel)
  | other _ hk => rcases hk with rfl | rfl | rfl | rfl <;> exact isR_eq (by decide +kernel)
theorem Dd.day {k : Str} {r : List D} (h : Dd k r) (hk : k ≠ ("root" : PySem.Str)) : ∃ d q, r = .int d :: q := by
  cases h with
  | root => exact absurd rfl hk
  | named d => exact ⟨d, _, rfl⟩
  | copy d => exact ⟨d, _, rfl⟩
  | other _ _ d r => exact ⟨d, r, rfl⟩
theorem r_word {r : D} (g : RowOk r) : F_word_of [r] = some (.str (kindOf r), false) := by
  obtain ⟨h, k, rest, rfl, _⟩ := g
  exact word_ok h k rest
theorem r_heard {r : D} (g : RowOk r) : ixD r (.int 0) = some (.int (rowH r), false) := by
  obtain ⟨a, kind, rest, rfl, _⟩ := g
  simp [row, at0, rowH]
def dayD (r : D) : D := if isRoot r = true then .non else .int (dv r)
theorem r_day {r : D} (g : RowOk r) : F_day_of [r] = some (dayD r, false) := by
  obtain ⟨h, k, rest, rfl, d⟩ := g
  unfold dayD
  by_cases hk : k = ("root" : PySem.Str)
  · have : isRoot (row h k rest) = true := decide_eq_true hk
    rw [if_pos this]
    exact body_rt rfl (r_if_t (is_str (a := k) (bb := false) (call_ok (ds := [row h k rest]) rfl (word_ok _ _ _)) (decide_eq_true hk)) (ret_ok rfl))
  · have : isRoot (row h k rest) = false := decide_eq_false hk
    rw [if_neg (by rw [this]; decide)]
    obtain ⟨dd, q, rfl⟩ := d.day hk
    exact body_rt rfl (r_if_f (is_str (a := k) (bb := false) (call_ok (ds := [row h k (.int dd :: q)]) rfl (word_ok _ _ _)) (decide_eq_false hk)) (ret_ok (call_ok (ds := [row h k (.int dd :: q), .str ("day" : PySem.Str)]) rfl (part_ok (i := 0) (day_idx d hk) rfl))))
def nD (L : List Nat) : List D := L.map fun (k : Nat) => .int (k : Int)
theorem nD_flat (L : List Nat) : noLsts (nD L) = true := by
  refine noLsts_all fun d hd => ?_
  obtain ⟨k, _, rfl⟩ := List.mem_map.mp hd
  rfl
theorem enum_range (ds : List D) : enumD ds = (List.range ds.length).map fun (k : Nat) => .tup [.int k, ds.getD k .non] := by
  unfold enumD
  apply List.ext_getElem?
  intro i
  by_cases h : i < ds.length
  · simp [List.getElem?_mapIdx, List.getElem?_range, h, List.getD_eq_getElem?_getD]
  · simp [List.getElem?_mapIdx, h]
theorem getD_some {rows : List D} {i : Nat} (h : i < rows.length) : rows[i]? = some (rows.getD i .non) := by rw [List.getD_eq_getElem?_getD, List.getElem?_eq_getElem h]; rfl
def RowsOk (rows : List D) : Prop := rows.length ≤ 60 ∧ ∀ r ∈ rows, RowOk r
def R (rows : List D) (k : Nat) : D := rows.getD k .non
theorem R_at {rows : List D} {k : Nat} (h : k < rows.length) : atI rows (k : Int) = some (R rows k) := at_row (getD_some h)
theorem R_g {rows : List D} (g : RowsOk rows) {k : Nat} (h : k < rows.length) : RowOk (R rows k) := by
  refine g.2 _ ?_
  have := getD_some h
  exact List.mem_of_getElem? this
def hN (rows : List D) (known : Int) : List Nat := (List.range rows.length).filter fun k => decide (rowH (R rows k) ≤ known)
def dN (rows : List D) (known : Int) : List Nat := (hN rows known).filter fun k => !isRoot (R rows k)
theorem hN_lt {rows : List D} {known : Int} {k : Nat} (h : k ∈ hN rows known) : k < rows.length := List.mem_range.mp (List.mem_filter.mp h).1
theorem hN_len (rows : List D) (known : Int) : (hN rows known).length ≤ rows.length := by
  have := List.length_filter_le (fun k => decide (rowH (R rows k) ≤ known)) (List.range rows.length)
  rw [List.length_range] at this
  exact this
theorem dN_len (rows : List D) (known : Int) : (dN rows known).length ≤ rows.length := Nat.le_trans (List.length_filter_le _ _) (hN_len rows known)
theorem heard_ok {rows : List D} (g : RowsOk rows) (known : Int) : F_heard [.tup rows, .int known] = some (.lst (nD (hN rows known)), true) := by
  have hl := g.1
  have hc := compM (fi := iEnum (fVar 0)) (nT := 2) (cap := [1]) (tg := tgT [0, 1]) (c := tOf (f2 dLe (f2 ixD (fVar 1) (fC (.int 0))) (fVar 2))) (fe := fVar 0) (ρ := [some (.tup rows, false), some (.int known, false)]) (List.range rows.length) (fun (k : Nat) => .tup [.int k, R rows k]) (fun k => decide (rowH (R rows k) ≤ known)) (fun (k : Nat) => .int k)
    (by simp [enum_range, R]) (by simp; omega) fun x hx => by
      have hx := List.mem_range.mp hx
      have gx := R_g g hx
      refine ⟨_, rfl, tOf_ok (b := false) (e_op (x := .int (rowH (R rows x))) (y := .int known) (b1 := false) (b2 := false) (e_op (x := R rows x) (y := .int 0) (b1 := false) (b2 := false) (by simp [capE]) rfl (r_heard gx)) (by simp [capE]) (by simp)), fun _ => ⟨false, by simp [capE]⟩⟩
  exact body_rt rfl (ret_ok hc)
def kA (rows : List D) (k : Nat) : List At := [.i (dv (R rows k)), .i k]
theorem lex2 (a b c d : Int) : lexA [.i a, .i b] [.i c, .i d] = some (decide (a < c ∨ (a = c ∧ b < d))) := by
  rw [lexA]
  by_cases h : a = c
  · rw [if_pos h, lexA]
    by_cases h2 : b = d
    · rw [if_pos h2, lexA]; simp [h, h2]
    · rw [if_neg h2]; simp [h]
  · rw [if_neg h]; simp [h]
theorem mapO_map {α : Type} {f : D → Option D} {g h : α → D} : ∀ (l : List α), (∀ x ∈ l, f (g x) = some (h x)) → mapO f (l.map g) = some (l.map h)
  | [], _ => rfl
  | x :: l, hx => by
    rw [List.map_cons, mapO, hx x List.mem_cons_self, Option.bind_some, mapO_map l fun y hy => hx y (List.mem_cons_of_mem _ hy)]
    rfl
theorem keysD_map {α : Type} {g : α → D} {h : α → List At} : ∀ (l : List α), (∀ x ∈ l, keyD (g x) = some (h x)) → keysD (l.map g) = some (l.map h)
  | [], _ => rfl
  | x :: l, hx => by
    rw [List.map_cons, keysD, hx x List.mem_cons_self, Option.bind_some, keysD_map l fun y hy => hx y (List.mem_cons_of_mem _ hy)]
    rfl
theorem kA_inj {rows : List D} {x y : Nat} (h : encs (kA rows x) = encs (kA rows y)) : x = y := by
  have h : [dv (R rows x), (x : Int)] = [dv (R rows y), (y : Int)] := h
  injection h with _ h
  injection h with h
  omega
theorem in_order_ok {rows : List D} (g : RowsOk rows) (known : Int) : ∃ L' : List Nat, F_in_order [.tup rows, .int known] = some (.lst (nD L'), true) ∧ L'.Perm (dN rows known) := by
  have hl := g.1
  have hdl := dN_len rows known
  have hc := compM (fi := iSeq (fA F_heard (fCons (fVar 0) (fCons (fVar 1) fNil)))) (nT := 1) (cap := [0]) (tg := tgN 0) (c := tOf (f2 dIsNot (fA F_day_of (fCons (f2 ixD (fVar 1) (fVar 0)) fNil)) (fC .non))) (fe := fVar 0) (ρ := [some (.tup rows, false), some (.int known, false), none]) (hN rows known) (fun (k : Nat) => .int k) (fun k => !isRoot (R rows k)) (fun (k : Nat) => .int k)
    (by
      show (fA F_heard (fCons (fVar 0) (fCons (fVar 1) fNil)) _).bind _ = _
      rw [call_ok (ds := [.tup rows, .int known]) rfl (heard_ok g known)]
      rfl) (by have := hN_len rows known; omega) fun x hx => by
      have hx := hN_lt hx
      have ha := R_at hx
      have hd := r_day (R_g g hx)
      refine ⟨_, rfl, tOf_ok (b := false) (e_op (x := dayD (R rows x)) (y := .non) (b1 := false) (b2 := false) (call_ok (ds := [R rows x]) (by simp [capE, ha]) hd) rfl ?_), fun _ => ⟨false, by simp [capE]⟩⟩
      unfold dayD
      cases isRoot (R rows x) <;> simp [isSm]
  have hc' : fComp (iSeq (fA F_heard (fCons (fVar 0) (fCons (fVar 1) fNil)))) 1 [0] (tgN 0) (tOf (f2 dIsNot (fA F_day_of (fCons (f2 ixD (fVar 1) (fVar 0)) fNil)) (fC .non))) (fVar 0) [some (.tup rows, false), some (.int known, false), none] = some (.lst (nD (dN rows known)), true) := hc
  generalize hL : dN rows known = L at hc' hdl
  have hmem : ∀ k ∈ L, k < rows.length ∧ isRoot (R rows k) = false := fun k hk => by
    rw [← hL] at hk
    obtain ⟨h1, h2⟩ := List.mem_filter.mp hk
    exact ⟨hN_lt h1, by simpa using h2⟩
  have hnd : L.Nodup := by rw [← hL]; exact (List.nodup_range.filter _).filter _
  have hm : ∀ ρ : DL.Env, ρ[0]? = some (some (.tup rows, false)) → mapO (keyL [0] (fA F_rank (fCons (fVar 1) (fCons (fVar 0) fNil))) ρ) (nD L) = some (L.map fun (k : Nat) => .tup [.int (dv (R rows k)), .int k]) := fun ρ h0 =>
    mapO_map L fun k hk => by
      obtain ⟨h1, h2⟩ := hmem k hk
      have hd := r_day (R_g g h1)
      unfold dayD at hd
      rw [h2, if_neg (by decide)] at hd
      have ha := R_at h1
      have hr : F_rank [.tup rows, .int k] = some (.tup [.int (dv (R rows k)), .int k], false) := body_rt rfl (ret_ok (call_ok (ds := [.int (dv (R rows k)), .int k]) (a_cons (d := .int (dv (R rows k))) (b := false) (call_ok (ds := [R rows k]) (by simp [ha]) hd) rfl) (by simp [sizeLine])))
      show (fA F_rank _ _).map _ = _
      rw [call_ok (ds := [.tup rows, .int k]) (by simp [capE, h0]) hr]
      rfl
  have hk : keysD (L.map fun (k : Nat) => D.tup [.int (dv (R rows k)), .int k]) = some (L.map (kA rows)) := keysD_map L fun k _ => rfl
  have hz : (L.map (kA rows)).zip (nD L) = L.map fun (k : Nat) => (kA rows k, D.int k) := by
    unfold nD
    rw [List.zip_map']
  have hcond : (L.map (kA rows)).length < 64 ∧ compA (L.map (kA rows)) = true ∧ firstsOk (L.map (kA rows)) = true ∧ ((L.map (kA rows)).map encs).Nodup := by
    refine ⟨by rw [List.length_map]; omega, ?_, ?_, ?_⟩
    · unfold compA
      simp [List.all_eq_true, kA, lex2]
    · unfold firstsOk
      rw [Bool.or_eq_true]
      left
      simp [List.all_eq_true, kA]
    · rw [List.map_map]
      exact List.Pairwise.map _ (fun a b h e => h (kA_inj e)) hnd
  let inv : List At × D → Nat := fun p => match p.2 with | .int k => k.toNat | _ => 0
  let S := sortF (fun p : List At × D => encs p.1) (L.map fun (k : Nat) => (kA rows k, D.int k))
  have hS : S.Perm (L.map fun (k : Nat) => (kA rows k, D.int k)) := sortF_perm _ _
  refine ⟨S.map inv, body_rt rfl (r_own (ds := nD L) hc' (nD_flat L) (ret_ok ?_)), ?_⟩
  · show (fSortK (fVar 2) _ _) = _
    unfold fSortK
    show ((some (D.lst (nD L), false)).bind _) = _
    simp only [Option.bind_some]
    rw [hm _ rfl]
    simp only [Option.bind_some]
    rw [hk]
    simp only [Option.bind_some]
    rw [if_pos hcond]
    unfold sortKeyD
    rw [hz]
    show some (D.lst (S.map (·.2)), true) = some (D.lst (nD (S.map inv)), true)
    have : S.map (·.2) = nD (S.map inv) := by
      unfold nD
      rw [List.map_map]
      apply List.map_congr_left
      intro p hp
      obtain ⟨k, _, rfl⟩ := List.mem_map.mp (hS.mem_iff.mp hp)
      rfl
    rw [this]
  · have := hS.map inv
    rw [List.map_map] at this
    refine this.trans (List.Perm.of_eq ?_)
    have : (inv ∘ fun (k : Nat) => (kA rows k, D.int k)) = id := by funext k; rfl
    rw [this, List.map_id]
theorem putVs_mem {κ α : Type} [DecidableEq κ] {ks : List κ} {k : κ} {x y : α} : ∀ {xs : List α}, y ∈ putVs ks xs k x → y = x ∨ y ∈ xs := by
  intro xs h
  unfold putVs at h
  split at h
  · rename_i hk0
    clear hk0
    induction ks generalizing xs with
    | nil => simp at h
    | cons a ks ih =>
      cases xs with
      | nil => simp at h
      | cons b xs =>
        rw [List.zipWith_cons_cons, List.mem_cons] at h
        rcases h with h | h
        · split at h
          · exact .inl h
          · exact .inr (by rw [h]; exact List.mem_cons_self)
        · rcases ih h with h | h
          · exact .inl h
          · exact .inr (List.mem_cons_of_mem _ h)
  · rcases List.mem_append.mp h with h | h
    · exact .inr h
    · exact .inl (List.mem_singleton.mp h)
theorem dictP_mem : ∀ (l : List (Key × D)) (a : List Key × List D) (y : D), y ∈ (l.foldl putP a).2 → y ∈ a.2 ∨ ∃ p ∈ l, p.2 = y
  | [], a, y, h => .inl h
  | p :: l, a, y, h => by
    rw [List.foldl_cons] at h
    rcases dictP_mem l _ y h with h | ⟨q, hq, e⟩
    · rcases putVs_mem (show y ∈ putVs a.1 a.2 p.1 p.2 from h) with h | h
      · exact .inr ⟨p, List.mem_cons_self, h.symm⟩
      · exact .inl h
    · exact .inr ⟨q, List.mem_cons_of_mem _ hq, e⟩
def offOf : D → Str
  | .tup [_, .tup (_ :: .str o :: _)] => o
  | _ => ⟨#[]⟩
theorem root_off {r : D} (g : RowOk r) (h : isRoot r = true) : F_part_of [r, .str ("office" : PySem.Str)] = some (.str (offOf r), false) := by
  obtain ⟨a, k, rest, rfl, d⟩ := g
  have hk : k = ("root" : PySem.Str) := of_decide_eq_true h
  cases d with
  | root o rl m f => exact part_ok (i := 0) (isR_eq (by decide +kernel)) rfl
  | named => exact absurd hk (by decide +kernel)
  | copy => exact absurd hk (by decide +kernel)
  | other _ hh => rcases hh with rfl | rfl | rfl | rfl <;> exact absurd hk (by decide +kernel)
theorem pairs_map {α : Type} (f : α → Str) (g : α → D) : ∀ (l : List α), pairsD (l.map fun x => D.tup [.str (f x), g x]) = some (l.map fun x => (.inr (f x), g x))
  | [] => rfl
  | x :: l => by
    rw [List.map_cons, pairsD, pairs_map f g l]
    rfl
theorem look_mem {κ : Type} [DecidableEq κ] : ∀ {ks : List κ} {vs : List D} {k : κ} {v : D}, lookD ks vs k = some v → v ∈ vs
  | k' :: ks, d :: ds, k, v, h => by
    unfold lookD at h
    split at h
    · cases h; exact List.mem_cons_self
    · exact List.mem_cons_of_mem _ (look_mem h)
  | [], _, _, _, h => by simp [lookD] at h
  | _ :: _, [], _, _, h => by simp [lookD] at h
theorem roots_ok {rows : List D} (g : RowsOk rows) (known : Int) : ∃ ks vs, F_roots [.tup rows, .int known] = some (.dk ks vs, false) ∧ ∀ v ∈ vs, RowOk v := by
  have hl := hN_len rows known
  have hl2 := g.1
  let K : List D := (hN rows known).map (R rows)
  have hK : ∀ r ∈ K, RowOk r := fun r hr => by
    obtain ⟨k, hk, rfl⟩ := List.mem_map.mp hr
    exact R_g g (hN_lt hk)
  have h1 := compT (fi := iSeq (fA F_heard (fCons (fVar 0) (fCons (fVar 1) fNil)))) (nT := 1) (cap := [0]) (tg := tgN 0) (fe := f2 ixD (fVar 1) (fVar 0)) (ρ := [some (.tup rows, false), some (.int known, false), none]) (hN rows known) (fun (k : Nat) => .int k) (R rows)
    (by
      show (fA F_heard (fCons (fVar 0) (fCons (fVar 1) fNil)) _).bind _ = _
      rw [call_ok (ds := [.tup rows, .int known]) rfl (heard_ok g known)]
      rfl) (by omega) fun x hx => by
      have ha := R_at (hN_lt hx)
      exact ⟨_, rfl, false, by simp [capE, ha]⟩
  have h1' : fComp (iSeq (fA F_heard (fCons (fVar 0) (fCons (fVar 1) fNil)))) 1 [0] (tgN 0) cTrue (f2 ixD (fVar 1) (fVar 0)) [some (.tup rows, false), some (.int known, false), none] = some (.lst K, true) := h1
  have hn : noLsts K = true := noLsts_all fun d hd => (hK d hd).flat
  have h2 := compM (fi := iSeq (fVar 2)) (nT := 1) (cap := []) (tg := tgN 0) (c := tOf (f2 dEq (fA F_word_of (fCons (fVar 0) fNil)) (fC (.str ("root" : PySem.Str))))) (fe := fA mkTup (fCons (fA F_part_of (fCons (fVar 0) (fCons (fC (.str ("office" : PySem.Str))) fNil))) (fCons (fVar 0) fNil)))
    (ρ := [some (.tup rows, false), some (.int known, false), some (.lst K, true)]) K id isRoot (fun r => .tup [.str (offOf r), r]) (by simp) (by simp [K]; omega) fun r hr => by
      have gr := hK r hr
      refine ⟨_, rfl, is_str (a := kindOf r) (bb := false) (call_ok (ds := [r]) rfl (r_word gr)) rfl, fun hp => ⟨false, call_ok (ds := [.str (offOf r), r]) (a_cons (call_ok (ds := [r, .str ("office" : PySem.Str)]) rfl (root_off gr hp)) rfl) (mk_ok _ (by simp))⟩⟩
  refine ⟨_, _, body_rt rfl (r_own (ds := K) h1' hn (ret_ok (call_ok (ds := [.lst ((K.filter isRoot).map fun r => .tup [.str (offOf r), r])]) (a_cons h2 rfl) (by rw [to_dict, pairs_map offOf (fun r => r)]; rfl)))), fun v hv => ?_⟩
  rcases dictP_mem _ ([], []) v hv with h | ⟨p, hp, e⟩
  · cases h
  · obtain ⟨r, hr, rfl⟩ := List.mem_map.mp hp
    rw [← e]
    exact hK r (List.mem_filter.mp hr).1
theorem named_off {a : Int} {d : Int} {o p : Str} : F_part_of [row a ("named" : PySem.Str) [.int d, .str o, .str p], .str ("office" : PySem.Str)] = some (.str o, false) := part_ok (i := 1) (isR_eq (by decide +kernel)) rfl
theorem named_per {a : Int} {d : Int} {o p : Str} : F_part_of [row a ("named" : PySem.Str) [.int d, .str o, .str p], .str ("person" : PySem.Str)] = some (.str p, false) := part_ok (i := 2) (isR_eq (by decide +kernel)) rfl
theorem Dd.named_of {r : List D} (h : Dd ("named" : PySem.Str) r) : ∃ d o p, r = [.int d, .str o, .str p] := by
  generalize hk : ("named" : PySem.Str) = k at h
  cases h with
  | root => exact absurd hk (by decide +kernel)
  | named d o p => exact ⟨d, o, p, rfl⟩
  | copy => exact absurd hk (by decide +kernel)
  | other _ hh => rcases hh with rfl | rfl | rfl | rfl <;> exact absurd hk (by decide +kernel)
theorem kind_ne {k : Str} {r : List D} (h : Dd k r) : k ≠ ("death" : PySem.Str) ∧ k ≠ ("chosen" : PySem.Str) ∧ k ≠ ("heir" : PySem.Str) := by
  cases h with
  | root => exact ⟨by decide +kernel, by decide +kernel, by decide +kernel⟩
  | named => exact ⟨by decide +kernel, by decide +kernel, by decide +kernel⟩
  | copy => exact ⟨by decide +kernel, by decide +kernel, by decide +kernel⟩
  | other _ hh => rcases hh with rfl | rfl | rfl | rfl <;> exact ⟨by decide +kernel, by decide +kernel, by decide +kernel⟩
theorem counts_ok {rows : List D} (g : RowsOk rows) (known : Int) (so : List D) {i : Nat} (hi : i < rows.length) : ∃ b, F_counts [.tup rows, .int known, .lst so, .int i] = some (.bl b, false) ∧ (b = true → kindOf (R rows i) = ("named" : PySem.Str)) := by
  have ha := R_at hi
  obtain ⟨h, k, rest, er, d⟩ := R_g g hi
  obtain ⟨n1, n2, n3⟩ := kind_ne d
  have hf : noLst (R rows i) = true := (R_g g hi).flat
  have hw : ∀ ρ : DL.Env, ρ[4]? = some (some (R rows i, false)) → fA F_word_of (fCons (fVar 4) fNil) ρ = some (.str k, false) := fun ρ h4 => call_ok (ds := [R rows i]) (by simp [h4]) (by rw [er]; exact word_ok h k rest)
  by_cases hk : k = ("named" : PySem.Str)
  · subst hk
    obtain ⟨dd, o, p, rfl⟩ := d.named_of
    obtain ⟨ks, vs, erts, hv⟩ := roots_ok g known
    have hval : getK (.dk ks vs) (.str o) = some ((lookD ks vs (.inr o)).getD .non, false) := rfl
    have e5 : ∀ ρ : DL.Env, ρ[0]? = some (some (.tup rows, false)) → ρ[1]? = some (some (.int known, false)) → ρ[4]? = some (some (R rows i, false)) → f2 getK (fA F_roots (fCons (fVar 0) (fCons (fVar 1) fNil))) (fA F_part_of (fCons (fVar 4) (fCons (fC (.str ("office" : PySem.Str))) fNil))) ρ = some ((lookD ks vs (.inr o)).getD .non, false) := fun ρ q0 q1 q4 =>
      e_op (x := .dk ks vs) (y := .str o) (b1 := false) (b2 := false) (call_ok (ds := [.tup rows, .int known]) (by simp [q0, q1]) erts) (call_ok (ds := [R rows i, .str ("office" : PySem.Str)]) (by simp [q4]) (by rw [er]; exact named_off)) hval
    have notin : ∀ ρ : DL.Env, ρ[4]? = some (some (R rows i, false)) → tOf (f2 dNotIn (fA F_word_of (fCons (fVar 4) fNil)) (fA mkTup (fCons (fC (.str ("named" : PySem.Str))) (fCons (fC (.str ("chosen" : PySem.Str))) (fCons (fC (.str ("heir" : PySem.Str))) fNil))))) ρ = some false := fun ρ h4 =>
      tOf_ok (b := false) (e_op (x := .str ("named" : PySem.Str)) (y := .tup (([("named" : PySem.Str), ("chosen" : PySem.Str), ("heir" : PySem.Str)] : List Str).map .str)) (b1 := false) (b2 := false) (hw ρ h4) (by simp [sizeLine]) (by rw [dNotIn_strs]; simp))
    cases hlk : lookD ks vs (.inr o) with
    | none =>
      rw [hlk] at e5
      refine ⟨false, body_rt rfl (r_flat (d := R rows i) (b := false) (by simp [ha]) hf (r_if_f (is_str (bb := false) (hw _ rfl) (decide_eq_false n1)) (r_if_f (notin _ rfl) (r_flat (d := .non) (b := false) (e5 _ rfl rfl rfl) rfl (r_if_t (tOf_ok (b := false) (e_op (x := .non) (y := .non) (b1 := false) (b2 := false) rfl rfl (by simp))) (ret_ok rfl)))))), fun h => by cases h⟩
    | some v =>
      rw [hlk] at e5
      have gv := hv v (look_mem hlk)
      have hvn : dIs v .non = some (.bl false, false) := by obtain ⟨a, kk, rr, rfl, _⟩ := gv; simp [row]
      refine ⟨true, body_rt rfl (r_flat (d := R rows i) (b := false) (by simp [ha]) hf (r_if_f (is_str (bb := false) (hw _ rfl) (decide_eq_false n1)) (r_if_f (notin _ rfl) (r_flat (d := v) (b := false) (e5 _ rfl rfl rfl) gv.flat (r_if_f (tOf_ok (b := false) (e_op (x := v) (y := .non) (b1 := false) (b2 := false) rfl rfl hvn)) (r_if_t (is_str (bb := false) (hw _ rfl) (by decide +kernel)) (ret_ok rfl))))))), fun _ => by rw [er]; rfl⟩
  · refine ⟨false, body_rt rfl (r_flat (d := R rows i) (b := false) (by simp [ha]) hf (r_if_f (is_str (bb := false) (hw _ rfl) (decide_eq_false n1)) (r_if_t (tOf_ok (b := false) (e_op (x := .str k) (y := .tup (([("named" : PySem.Str), ("chosen" : PySem.Str), ("heir" : PySem.Str)] : List Str).map .str)) (b1 := false) (b2 := false) (hw _ rfl) (by simp [sizeLine]) ?_)) (ret_ok rfl)))), fun h => by cases h⟩
    rw [dNotIn_strs, decide_eq_false (by simp [hk, n2, n3])]
    rfl
structure Cl where
  o : Str
  p : Str
  d : Int
  n : Nat
def clD (c : Cl) : D := .tup [.str c.o, .str c.p, .int c.d, .non, .int c.n]
def kC (c : Cl) : List At := [.s c.o, .i c.d, .i c.n]
theorem at4 (d e f g h : D) (r : List D) : atI (d :: e :: f :: g :: h :: r) 4 = some h := by have := atI_ge (xs := d :: e :: f :: g :: h :: r) (j := 4) (by simp); simpa using this
theorem by_office_ok (c : Cl) : F_by_office [clD c] = some (.tup [.str c.o, .int c.d, .int c.n], false) := by
  refine body_rt rfl (ret_ok (call_ok (ds := [.str c.o, .int c.d, .int c.n]) ?_ (mk_ok _ (by simp))))
  simp [clD, at0, at2, at4]
theorem lex3 (a b : Cl) : (lexA (kC a) (kC b)).isSome = true := by
  unfold kC
  rw [lexA]
  split
  · rw [lexA]
    split
    · rw [lexA]
      split
      · rw [lexA]; rfl
      · rfl
    · rfl
  · rfl
theorem kC_inj {a b : Cl} (h : encs (kC a) = encs (kC b)) : a.n = b.n := by
  have h1 : ∀ c : Cl, encs (kC c) = (enc (.s c.o) ++ [c.d]) ++ [(c.n : Int)] := fun c => by simp [encs, kC, enc]
  rw [h1, h1] at h
  have := congrArg List.getLast? h
  simp at this
  omega
theorem nodup_le : ∀ (l m : List Nat), l.Nodup → (∀ x ∈ l, x ∈ m) → l.length ≤ m.length
  | [], _, _, _ => Nat.zero_le _
  | x :: l, m, h, s => by
    rw [List.nodup_cons] at h
    have hx := s x List.mem_cons_self
    have := nodup_le l (m.erase x) h.2 fun y hy => (List.mem_erase_of_ne (a := y) (b := x) (fun e => h.1 (by rw [← e]; exact hy))).mpr (s y (List.mem_cons_of_mem _ hy))
    rw [List.length_erase_of_mem hx] at this
    have : 0 < m.length := List.length_pos_of_mem hx
    rw [List.length_cons]
    omega
theorem new_claim_ok {a d : Int} {o p : Str} (i : Nat) : F_new_claim [row a ("named" : PySem.Str) [.int d, .str o, .str p], .int d, .int i] = some (clD ⟨o, p, d, i⟩, false) :=
  body_rt rfl (ret_ok (call_ok (ds := [.str o, .str p, .int d, .non, .int i]) (a_cons (call_ok (ds := [row a ("named" : PySem.Str) [.int d, .str o, .str p], .str ("office" : PySem.Str)]) rfl named_off) (a_cons (call_ok (ds := [row a ("named" : PySem.Str) [.int d, .str o, .str p], .str ("person" : PySem.Str)]) rfl named_per) rfl)) (mk_ok _ (by simp))))
theorem cl_flat (cs : List Cl) : noLsts (cs.map clD) = true := noLsts_all fun d hd => by obtain ⟨c, _, rfl⟩ := List.mem_map.mp hd; rfl
theorem claims_ok {rows : List D} (g : RowsOk rows) (known : Int) : ∃ cl b, F_claims [.tup rows, .int known] = some (.lst cl, b) := by
  obtain ⟨L, eL, pL⟩ := in_order_ok g known
  have hl := g.1
  have hLl : L.length ≤ 60 := by rw [pL.length_eq]; exact Nat.le_trans (dN_len rows known) hl
  have hLn : L.Nodup := pL.nodup_iff.mpr ((List.nodup_range.filter _).filter _)
  have hLm : ∀ k ∈ L, k < rows.length := fun k hk => hN_lt (List.mem_filter.mp (pL.mem_iff.mp hk)).1
  have hat : ∀ (j : Nat) (d : D), (nD L)[j]? = some d → ∃ k : Nat, L[j]? = some k ∧ d = D.int (k : Int) := fun j d h => by
    unfold nD at h
    rw [List.getElem?_map] at h
    obtain ⟨k, h1, h2⟩ := Option.map_eq_some_iff.mp h
    exact ⟨k, h1, h2.symm⟩
  obtain ⟨ρ', e, cs, v4, v5, rfl, hn, hs⟩ := forL_inv (tg := tgN 4) (g := B1_claims) (fun j ρ => ∃ (cs : List Cl) (v4 v5 : Option (D × Bool)), ρ = [some (.tup rows, false), some (.int known, false), some (.lst (cs.map clD), true), some (.dt [] [], true), v4, v5] ∧ (cs.map (·.n)).Nodup ∧ ∀ n ∈ cs.map (·.n), n ∈ L.take j) (nD L)
    [some (.tup rows, false), some (.int known, false), some (.lst [], true), some (.dt [] [], true), none, none] ⟨[], none, none, rfl, by simp, by simp⟩ (by
      rintro j d ρ hd ⟨cs, v4, v5, rfl, hn, hs⟩
      obtain ⟨k, hk, rfl⟩ := hat j d hd
      have hkr := hLm k (List.mem_of_getElem? hk)
      have ha := R_at hkr
      have gr := R_g g hkr
      have htk : L.take (j + 1) = L.take j ++ [k] := by rw [List.take_add_one, hk]; rfl
      have hcl : cs.length ≤ 60 := by
        have h1 : (cs.map (·.n)).length ≤ (L.take j).length := nodup_le _ _ hn hs
        rw [List.length_map, List.length_take] at h1
        omega
      obtain ⟨b, ec, hb⟩ := counts_ok g known (cs.map clD) hkr
      have ecall : ∀ v5' : Option (D × Bool), tNotF (tOf (fA F_counts (fCons (fVar 0) (fCons (fVar 1) (fCons (fVar 2) (fCons (fVar 4) fNil)))))) [some (.tup rows, false), some (.int known, false), some (.lst (cs.map clD), true), some (.dt [] [], true), some (.int k, false), v5'] = some (!b) := fun v5' =>
        tnot_ok (tOf_ok (b := false) (call_ok (ds := [.tup rows, .int known, .lst (cs.map clD), .int k]) (by simp) ec))
      cases b with
      | false =>
        refine ⟨_, [some (.tup rows, false), some (.int known, false), some (.lst (cs.map clD), true), some (.dt [] [], true), some (.int k, false), some (R rows k, false)], rfl, .inr (r_flat (d := R rows k) (b := false) (by simp [ha]) gr.flat (r_ct (if_t (ecall _) rfl))), cs, _, _, rfl, hn, fun n h => ?_⟩
        rw [htk]
        exact List.mem_append_left _ (hs n h)
      | true =>
        obtain ⟨h, kd, rest, er, dd⟩ := gr
        have hkn : kd = ("named" : PySem.Str) := by have := hb rfl; rw [er] at this; exact this
        subst hkn
        obtain ⟨dy, o, p, rfl⟩ := dd.named_of
        have hfl : noLst (R rows k) = true := (R_g g hkr).flat
        refine ⟨_, [some (.tup rows, false), some (.int known, false), some (.lst ((cs ++ [(⟨o, p, dy, k⟩ : Cl)]).map clD), true), some (.dt [] [], true), some (.int k, false), some (R rows k, false)], rfl, .inl (r_flat (d := R rows k) (b := false) (by simp [ha]) hfl (r_seq (if_f (ecall _) rfl) (if_t (is_str (a := ("named" : PySem.Str)) (bb := false) (call_ok (ds := [R rows k]) rfl (by rw [er]; exact word_ok _ _ _)) (by decide +kernel)) ?_))), cs ++ [(⟨o, p, dy, k⟩ : Cl)], _, _, rfl, ?_, ?_⟩
        · have hsz : (cs.map clD).length + 1 ≤ sizeLine := small_le (by simp; omega)
          have e2 : f2 dAdd (fVar 2) (fA mkLst (fCons (fA F_new_claim (fCons (fVar 5) (fCons (fA F_day_of (fCons (fVar 5) fNil)) (fCons (fVar 4) fNil)))) fNil)) [some (.tup rows, false), some (.int known, false), some (.lst (cs.map clD), true), some (.dt [] [], true), some (.int k, false), some (R rows k, false)] = some (.lst (cs.map clD ++ [clD ⟨o, p, dy, k⟩]), true) := by
            refine e_op (x := .lst (cs.map clD)) (y := .lst [clD ⟨o, p, dy, k⟩]) (b1 := false) (b2 := true) rfl ?_ (if_pos hsz)
            refine call_ok (ds := [clD ⟨o, p, dy, k⟩]) (a_cons (call_ok (ds := [R rows k, .int dy, .int k]) (a_cons (b := false) rfl (a_cons (b := false) (call_ok (ds := [R rows k]) rfl ?_) rfl)) (by rw [er]; exact new_claim_ok k)) rfl) (if_pos (small_le (by simp)))
            rw [er, r_day (r := row h ("named" : PySem.Str) [.int dy, .str o, .str p]) ⟨_, _, _, rfl, dd⟩]
            rfl
          have := set_own (i := 2) e2 (by have hq := cl_flat (cs ++ [(⟨o, p, dy, k⟩ : Cl)]); rwa [List.map_append] at hq)
          rw [List.map_append]
          exact this
        · rw [List.map_append, List.nodup_append]
          refine ⟨hn, by simp, fun x hx y hy e => ?_⟩
          simp at hy
          subst hy
          subst e
          have h1 := hs _ hx
          have h2 : (L.take (j + 1)).Nodup := List.Sublist.nodup (List.take_sublist _ _) hLn
          rw [htk, List.nodup_append] at h2
          exact h2.2.2 _ h1 _ (by simp) rfl
        · intro n hnn
          rw [List.map_append, List.mem_append] at hnn
          rw [htk]
          rcases hnn with h | h
          · exact List.mem_append_left _ (hs n h)
          · refine List.mem_append_right _ ?_
            simpa using h)
  have hcl : cs.length ≤ 60 := by
    have h1 : (cs.map (·.n)).length ≤ (L.take (nD L).length).length := nodup_le _ _ hn hs
    rw [List.length_map, List.length_take] at h1
    omega
  have hm : ∀ ρ : DL.Env, mapO (keyF F_by_office ρ) (cs.map clD) = some (cs.map fun c => .tup [.str c.o, .int c.d, .int c.n]) := fun ρ => mapO_map cs fun c _ => by
    show (F_by_office [clD c]).map _ = _
    rw [by_office_ok]
    rfl
  have hk : keysD (cs.map fun c => D.tup [.str c.o, .int c.d, .int c.n]) = some (cs.map kC) := keysD_map cs fun c _ => rfl
  have hcond : (cs.map kC).length < 64 ∧ compA (cs.map kC) = true ∧ firstsOk (cs.map kC) = true ∧ ((cs.map kC).map encs).Nodup := by
    refine ⟨by rw [List.length_map]; omega, ?_, ?_, ?_⟩
    · unfold compA
      simp [List.all_eq_true, lex3]
    · unfold firstsOk
      rw [Bool.or_eq_true]
      right
      simp [List.all_eq_true, kC]
    · rw [List.map_map]
      have := List.pairwise_map.mp hn
      exact List.Pairwise.map _ (fun a b h e => h (kC_inj e)) this
  refine ⟨sortKeyD (cs.map kC) (cs.map clD), true, body_rt rfl (r_own (ds := []) (by simp [sizeLine]) rfl (r_seq (ρ' := [some (.tup rows, false), some (.int known, false), some (.lst [], true), some (.dt [] [], true), none, none]) rfl (r_seq (for_run (ds := nD L) ?_ e) (ret_ok ?_))))⟩
  · show (fA F_in_order (fCons (fVar 0) (fCons (fVar 1) fNil)) _).bind _ = _
    rw [call_ok (ds := [.tup rows, .int known]) rfl eL]
    rfl
  · unfold fSortK
    show ((some (D.lst (cs.map clD), false)).bind _) = _
    simp only [Option.bind_some]
    rw [hm]
    simp only [Option.bind_some]
    rw [hk]
    simp only [Option.bind_some]
    rw [if_pos hcond]
def papW : List Str := [("paper" : PySem.Str), ("like" : PySem.Str), ("copy" : PySem.Str)]
def kn (rows : List D) (known : Int) (i : Nat) : Bool := decide (i < rows.length) && decide (rowH (R rows i) ≤ known)
def pap (rows : List D) (known : Int) (i : Nat) : Bool := kn rows known i && decide (kindOf (R rows i) ∈ papW)
def lt2 (rows : List D) (a b : Nat) : Bool := decide (dv (R rows a) < dv (R rows b) ∨ (dv (R rows a) = dv (R rows b) ∧ (a : Int) < b))
theorem known_any {rows : List D} (g : RowsOk rows) (known : Int) (i : Nat) : F_is_known [.tup rows, .int known, .int i] = some (.bl (kn rows known i), false) := by
  by_cases h : i < rows.length
  · obtain ⟨a, k, rest, er, _⟩ := R_g g h
    have hg : rows[i]? = some (row a k rest) := by rw [getD_some h, ← er]; rfl
    rw [known_ok hg known]
    unfold kn
    rw [decide_eq_true h, er]
    rfl
  · refine body_rt rfl (ret_ok ?_)
    have := and_ok (f1 := fChain dLe dLt (fC (.int 0)) (fVar 2) (fA lenD (fCons (fVar 0) fNil))) (f2 := f2 dLe (f2 ixD (f2 ixD (fVar 0) (fVar 2)) (fC (.int 0))) (fVar 1)) (ρ := [some (.tup rows, false), some (.int known, false), some (.int i, false)]) (p := false) (q := false) (b1 := false)
      (by
        refine (chain_ok (x := .int 0) (y := .int i) (z := .int rows.length) (b1 := false) (b2 := false) (b3 := false) (b4 := false) (p := true) (q := false) rfl rfl (by simp) (by simp) fun _ => ?_).trans rfl
        simp; omega) (by simp)
    have e : kn rows known i = (false && false) := by unfold kn; rw [decide_eq_false h]; rfl
    rw [e]
    exact this
theorem word_at {rows : List D} (g : RowsOk rows) {i : Nat} (h : i < rows.length) {ρ : DL.Env} {a b : Nat} (h0 : ρ[a]? = some (some (.tup rows, false))) (h2 : ρ[b]? = some (some (.int i, false))) : fA F_word_of (fCons (f2 ixD (fVar a) (fVar b)) fNil) ρ = some (.str (kindOf (R rows i)), false) :=
  call_ok (ds := [R rows i]) (by simp [h0, h2, R_at h]) (r_word (R_g g h))
theorem paper_ok {rows : List D} (g : RowsOk rows) (known : Int) (i : Nat) : F_is_paper [.tup rows, .int known, .int i] = some (.bl (pap rows known i), false) := by
  refine body_rt rfl (ret_ok ?_)
  unfold pap
  refine and_ok (b1 := false) (call_ok (ds := [.tup rows, .int known, .int i]) rfl (known_any g known i)) fun hk => ?_
  have h : i < rows.length := of_decide_eq_true (Bool.and_eq_true_iff.mp hk).1
  exact e_op (x := .str (kindOf (R rows i))) (y := .tup (papW.map .str)) (b1 := false) (b2 := false) (word_at g h rfl rfl) rfl (dIn_strs _ _)
theorem leave_ok {rows : List D} (g : RowsOk rows) (known : Int) (i : Nat) : F_is_leave [.tup rows, .int known, .int i] = some (.bl (kn rows known i && decide (kindOf (R rows i) = ("leave" : PySem.Str))), false) := by
  refine body_rt rfl (ret_ok ?_)
  refine and_ok (b1 := false) (call_ok (ds := [.tup rows, .int known, .int i]) rfl (known_any g known i)) fun hk => ?_
  have h : i < rows.length := of_decide_eq_true (Bool.and_eq_true_iff.mp hk).1
  exact e_op (x := .str (kindOf (R rows i))) (y := .str ("leave" : PySem.Str)) (b1 := false) (b2 := false) (word_at g h rfl rfl) rfl (by simp)
theorem borne_ok {rows : List D} (g : RowsOk rows) (known : Int) (i : Nat) : F_is_borne [.tup rows, .int known, .int i] = some (.bl ((kn rows known i && decide (kindOf (R rows i) = ("leave" : PySem.Str))) || pap rows known i), false) :=
  body_rt rfl (ret_ok (or_ok (b1 := false) (call_ok (ds := [.tup rows, .int known, .int i]) rfl (leave_ok g known i)) fun _ => call_ok (ds := [.tup rows, .int known, .int i]) rfl (paper_ok g known i)))
theorem rank_ok {rows : List D} (g : RowsOk rows) {i : Nat} (h : i < rows.length) (hr : isRoot (R rows i) = false) : F_rank [.tup rows, .int i] = some (.tup [.int (dv (R rows i)), .int i], false) := by
  have hd := r_day (R_g g h)
  unfold dayD at hd
  rw [hr, if_neg (by decide)] at hd
  have ha := R_at h
  exact body_rt rfl (ret_ok (call_ok (ds := [.int (dv (R rows i)), .int i]) (a_cons (d := .int (dv (R rows i))) (b := false) (call_ok (ds := [R rows i]) (by simp [ha]) hd) rfl) (by simp [sizeLine])))
theorem tlt_ok (a b c d : Int) : tLt (.tup [.int a, .int b]) (.tup [.int c, .int d]) = some (.bl (decide (a < c ∨ (a = c ∧ b < d))), false) := by
  show (lexA [.i a, .i b] [.i c, .i d]).map _ = _
  rw [lex2]
  rfl
theorem ahead_ok {rows : List D} (g : RowsOk rows) {a b : Nat} (ha : a < rows.length) (hb : b < rows.length) (ra : isRoot (R rows a) = false) (rb : isRoot (R rows b) = false) : F_is_ahead [.tup rows, .int a, .int b] = some (.bl (lt2 rows a b), false) :=
  body_rt rfl (ret_ok (e_op (x := .tup [.int (dv (R rows a)), .int a]) (y := .tup [.int (dv (R rows b)), .int b]) (b1 := false) (b2 := false) (call_ok (ds := [.tup rows, .int a]) rfl (rank_ok g ha ra)) (call_ok (ds := [.tup rows, .int b]) rfl (rank_ok g hb rb)) (tlt_ok _ _ _ _)))
theorem wahead_ok {rows : List D} (g : RowsOk rows) {a b : Nat} (ha : a < rows.length) (hb : b < rows.length) (ra : isRoot (R rows a) = false) (rb : isRoot (R rows b) = false) : F_w_ahead [.tup rows, .int a, .int b] = some (.bl (lt2 rows a b), false) := by
  have key : ∀ (i : Nat), i < rows.length → isRoot (R rows i) = false → ∀ (ρ : DL.Env) (s : Nat), ρ[0]? = some (some (.tup rows, false)) → ρ[s]? = some (some (.int i, false)) → fA mkTup (fCons (f2 ixD (f2 ixD (f2 ixD (fVar 0) (fVar s)) (fC (.int 1))) (fC (.int 1))) (fCons (fVar s) fNil)) ρ = some (.tup [.int (dv (R rows i)), .int i], false) := fun i hi hr ρ s q0 q1 => by
    obtain ⟨h, k, rest, er, d⟩ := R_g g hi
    have hk : k ≠ ("root" : PySem.Str) := fun e => by
      rw [er] at hr
      exact absurd (of_decide_eq_false hr) (by simp [e, kindOf, row])
    obtain ⟨dd, q, rfl⟩ := d.day hk
    have hA := R_at hi
    rw [er] at hA ⊢
    refine call_ok (ds := [.int dd, .int i]) (a_cons (b := false) ?_ (by simp [q1])) (mk_ok _ (by simp))
    refine e_op (x := .tup (.str k :: .int dd :: q)) (y := .int 1) (b1 := false) (b2 := false) (e_op (x := row h k (.int dd :: q)) (y := .int 1) (b1 := false) (b2 := false) (by simp [q0, q1, hA]) rfl (by simp [row, at1])) rfl (by simp [at1])
  exact body_rt rfl (ret_ok (e_op (x := .tup [.int (dv (R rows a)), .int a]) (y := .tup [.int (dv (R rows b)), .int b]) (b1 := false) (b2 := false) (key a ha ra _ 1 rfl rfl) (key b hb rb _ 2 rfl rfl) (tlt_ok _ _ _ _)))
def ofOf : D → Int
  | .tup [_, .tup (_ :: _ :: _ :: .int n :: _)] => n
  | _ => 0
theorem Dd.copy_of {r : List D} (h : Dd ("copy" : PySem.Str) r) : ∃ d b, ∃ n : Nat, r = [.int d, .str b, .int n] := by
  generalize hk : ("copy" : PySem.Str) = k at h
  cases h with
  | root => exact absurd hk (by decide +kernel)
  | named => exact absurd hk (by decide +kernel)
  | copy d b n => exact ⟨d, b, n, rfl⟩
  | other _ hh => rcases hh with rfl | rfl | rfl | rfl <;> exact absurd hk (by decide +kernel)
theorem pap_root {rows : List D} {known : Int} {i : Nat} (h : pap rows known i = true) : i < rows.length ∧ isRoot (R rows i) = false := by
  obtain ⟨h1, h2⟩ := Bool.and_eq_true_iff.mp h
  refine ⟨of_decide_eq_true (Bool.and_eq_true_iff.mp h1).1, decide_eq_false fun e => ?_⟩
  rw [e] at h2
  exact absurd (of_decide_eq_true h2) (by decide +kernel)
def dueC (rows : List D) (known : Int) (i n : Nat) : List D := if pap rows known n = true ∧ lt2 rows n i = true then [.tup [.str ("copy" : PySem.Str), .int n]] else []
theorem mkl_ok (ds : List D) (h : ds.length ≤ 100) : mkLst ds = some (.lst ds, true) := if_pos (small_le (by omega))
theorem copy_bases_ok {rows : List D} (g : RowsOk rows) (known : Int) {i n : Nat} {a d : Int} {b : Str} (hi : i < rows.length) (er : R rows i = row a ("copy" : PySem.Str) [.int d, .str b, .int n]) : F_copy_bases [.tup rows, .int known, .int i] = some (.lst (dueC rows known i n), true) := by
  have ha := R_at hi
  have hri : isRoot (R rows i) = false := by rw [er]; exact decide_eq_false (by simp only [kindOf, row]; decide +kernel)
  have e3 : fA F_part_of (fCons (f2 ixD (fVar 0) (fVar 2)) (fCons (fC (.str ("of" : PySem.Str))) fNil)) [some (.tup rows, false), some (.int known, false), some (.int i, false), none] = some (.int n, false) :=
    call_ok (ds := [R rows i, .str ("of" : PySem.Str)]) (by simp [ha]) (by rw [er]; exact part_ok (i := 2) (isR_eq (by decide +kernel)) rfl)
  refine body_rt rfl (r_flat (d := .int n) (b := false) e3 rfl ?_)
  unfold dueC
  by_cases hp : pap rows known n = true
  · obtain ⟨hn, hrn⟩ := pap_root hp
    have hand := tand_ok (c1 := tOf (fA F_is_paper (fCons (fVar 0) (fCons (fVar 1) (fCons (fVar 3) fNil))))) (c2 := tOf (fA F_is_ahead (fCons (fVar 0) (fCons (fVar 3) (fCons (fVar 2) fNil))))) (ρ := [some (.tup rows, false), some (.int known, false), some (.int i, false), some (.int n, false)]) (p := true) (q := lt2 rows n i) (tOf_ok (b := false) (call_ok (ds := [.tup rows, .int known, .int n]) rfl (by rw [paper_ok g known n, hp]))) fun _ => tOf_ok (b := false) (call_ok (ds := [.tup rows, .int n, .int i]) rfl (ahead_ok g hn hi hrn hri))
    by_cases hl : lt2 rows n i = true
    · rw [if_pos ⟨hp, hl⟩]
      rw [hl] at hand
      exact r_if_t hand (ret_ok (call_ok (ds := [.tup [.str ("copy" : PySem.Str), .int n]]) (a_cons (call_ok (ds := [.str ("copy" : PySem.Str), .int n]) rfl (mk_ok _ (by simp))) rfl) (mkl_ok _ (by simp))))
    · rw [if_neg fun h => hl h.2]
      rw [Bool.not_eq_true] at hl
      rw [hl] at hand
      exact r_if_f hand (ret_ok (call_ok (ds := []) rfl (mkl_ok _ (by simp))))
  · rw [if_neg fun h => hp h.1]
    rw [Bool.not_eq_true] at hp
    have hand := tand_ok (c1 := tOf (fA F_is_paper (fCons (fVar 0) (fCons (fVar 1) (fCons (fVar 3) fNil))))) (c2 := tOf (fA F_is_ahead (fCons (fVar 0) (fCons (fVar 3) (fCons (fVar 2) fNil))))) (ρ := [some (.tup rows, false), some (.int known, false), some (.int i, false), some (.int n, false)]) (p := false) (q := false) (tOf_ok (b := false) (call_ok (ds := [.tup rows, .int known, .int n]) rfl (by rw [paper_ok g known n, hp]))) (by simp)
    exact r_if_f hand (ret_ok (call_ok (ds := []) rfl (mkl_ok _ (by simp))))
def dueR (rows : List D) (known : Int) (i : Nat) : List D := if kn rows known i = true ∧ kindOf (R rows i) = ("copy" : PySem.Str) then dueC rows known i (ofOf (R rows i)).toNat else []
theorem bases_ok {rows : List D} (g : RowsOk rows) (known : Int) {i : Nat} (hi : i < rows.length) (hc : kn rows known i = false ∨ kindOf (R rows i) ∉ [("leave" : PySem.Str), ("paper" : PySem.Str), ("like" : PySem.Str)]) : F_bases [.tup rows, .int known, .int i] = some (.lst (dueR rows known i), true) := by
  obtain ⟨cl, b, ecl⟩ := claims_ok g known
  refine body_rt rfl (ret_ok (call_ok (ds := [.tup rows, .int known, .lst cl, .int i]) (a_cons (b := false) rfl (a_cons (b := false) rfl (a_cons (call_ok (ds := [.tup rows, .int known]) rfl ecl) rfl))) ?_))
  have hb := borne_ok g known i
  by_cases h : kn rows known i = true ∧ kindOf (R rows i) = ("copy" : PySem.Str)
  · obtain ⟨hk, hkd⟩ := h
    have hbt : ((kn rows known i && decide (kindOf (R rows i) = ("leave" : PySem.Str))) || pap rows known i) = true := by
      unfold pap
      rw [hk, hkd]
      decide +kernel
    rw [hbt] at hb
    obtain ⟨a, k, rest, er, d⟩ := R_g g hi
    have ek : k = ("copy" : PySem.Str) := by rw [er] at hkd; exact hkd
    subst ek
    obtain ⟨dd, bb, n, rfl⟩ := d.copy_of
    have hof : dueR rows known i = dueC rows known i n := by
      unfold dueR
      rw [if_pos ⟨hk, hkd⟩, er]
      rfl
    rw [hof]
    refine body_rt rfl (r_if_f (by rw [tnot_ok (tOf_ok (b := false) (call_ok (ds := [.tup rows, .int known, .int i]) rfl hb))]; rfl) (r_if_t (is_str (bb := false) (word_at g hi rfl rfl) (by rw [hkd]; decide +kernel)) (ret_ok (call_ok (ds := [.tup rows, .int known, .int i]) rfl (copy_bases_ok g known hi er)))))
  · have hbf : ((kn rows known i && decide (kindOf (R rows i) = ("leave" : PySem.Str))) || pap rows known i) = false := by
      unfold pap
      cases hk : kn rows known i with
      | false => rfl
      | true =>
        rcases hc with h1 | h1
        · rw [hk] at h1; cases h1
        · simp only [List.mem_cons, List.not_mem_nil, or_false, not_or] at h1
          have h2 : ¬ kindOf (R rows i) = ("copy" : PySem.Str) := fun e => h ⟨hk, e⟩
          have h3 : ¬ kindOf (R rows i) ∈ papW := by simp [papW, h1.2.1, h1.2.2, h2]
          rw [decide_eq_false h1.1, decide_eq_false h3]
          rfl
    rw [hbf] at hb
    have hof : dueR rows known i = [] := by unfold dueR; rw [if_neg h]
    rw [hof]
    exact body_rt rfl (r_if_t (by rw [tnot_ok (tOf_ok (b := false) (call_ok (ds := [.tup rows, .int known, .int i]) rfl hb))]; rfl) (ret_ok (call_ok (ds := []) rfl (mkl_ok _ (by simp)))))
theorem r_setT {i j : Nat} {f : FE} {ρ : DL.Env} {x y : D} {b : Bool} {h : FS} {r : Option Res} (e : f ρ = some (.tup [x, y], b)) (hx : noLst x = true) (hy : noLst y = true) (k : h ((ρ.set i (some (x, false))).set j (some (y, false))) = r) : gSeq (gSetT [i, j] f) h ρ = r := by
  refine r_seq (ρ' := (ρ.set i (some (x, false))).set j (some (y, false))) ?_ k
  have hn : noLsts [x, y] = true := by simp [hx, hy]
  simp only [gSetT, e, Option.bind_some, seqOf, hn, if_true]
  simp [setsE]
theorem ne_str {f : FE} {ρ : DL.Env} {a b : Str} {bb : Bool} (e : f ρ = some (.str a, bb)) : tOf (f2 dNe f (fC (.str b))) ρ = some (!decide (a = b)) := tOf_ok (b := false) (e_op (x := .str a) (y := .str b) (b1 := bb) (b2 := false) e rfl (by simp))
theorem due_ok {rows : List D} (g : RowsOk rows) (known : Int) {i : Nat} (hi : i < rows.length) : F_w_due [.tup rows, .int known, .int i] = some (.lst (dueR rows known i), true) := by
  obtain ⟨h, k, rest, er, d⟩ := R_g g hi
  have ha := R_at hi
  have hflat : noLst (.tup (.str k :: rest)) = true := by simp [d.flat]
  have e0 : f2 ixD (fVar 0) (fVar 2) [some (.tup rows, false), some (.int known, false), some (.int i, false), none, none, none, none] = some (.tup [.int h, .tup (.str k :: rest)], false) := by
    simp [ha, er, row]
  have hkn : kn rows known i = decide (h ≤ known) := by unfold kn; rw [decide_eq_true hi, er]; rfl
  have hkd : kindOf (R rows i) = k := by rw [er]; rfl
  have nil : ∀ ρ : DL.Env, gRet (fA mkLst fNil) ρ = some (.rt (.lst []) true) := fun ρ => ret_ok (call_ok (ds := []) rfl (mkl_ok _ (by simp)))
  refine body_rt rfl (r_setT (x := .int h) (y := .tup (.str k :: rest)) (b := false) e0 rfl hflat ?_)
  have t1 : ∀ ρ : DL.Env, ρ[3]? = some (some (.int h, false)) → ρ[1]? = some (some (.int known, false)) → tOf (f2 iGt (fVar 3) (fVar 1)) ρ = some (decide (known < h)) := fun ρ q3 q1 => by simp [q3, q1]
  have t2 : ∀ ρ : DL.Env, ρ[4]? = some (some (.tup (.str k :: rest), false)) → tOf (f2 dNe (f2 ixD (fVar 4) (fC (.int 0))) (fC (.str ("copy" : PySem.Str)))) ρ = some (!decide (k = ("copy" : PySem.Str))) := fun ρ q4 => ne_str (bb := false) (e_op (x := .tup (.str k :: rest)) (y := .int 0) (b1 := false) (b2 := false) (by simp [q4]) rfl (by simp [at0]))
  by_cases hh : known < h
  · have hd : dueR rows known i = [] := by unfold dueR; rw [if_neg]; rw [hkn, decide_eq_false (by omega)]; simp
    rw [hd]
    exact r_if_t (tor_ok (p := true) (q := true) (by rw [t1 _ rfl rfl, decide_eq_true hh]) (by simp)) (nil _)
  · by_cases hk : k = ("copy" : PySem.Str)
    · subst hk
      obtain ⟨dd, bb, n, rfl⟩ := d.copy_of
      have hd : dueR rows known i = dueC rows known i n := by
        unfold dueR
        rw [if_pos ⟨by rw [hkn, decide_eq_true (by omega)], hkd⟩, er]
        rfl
      rw [hd]
      have e3 : ∀ ρ : DL.Env, ρ[4]? = some (some (.tup (.str ("copy" : PySem.Str) :: [.int dd, .str bb, .int n]), false)) → f2 ixD (fVar 4) (fC (.int 3)) ρ = some (.int n, false) := fun ρ q4 => e_op (x := .tup [.str ("copy" : PySem.Str), .int dd, .str bb, .int n]) (y := .int 3) (b1 := false) (b2 := false) (by simp [q4]) rfl (by simp [at3])
      have t3 : ∀ ρ : DL.Env, ρ[0]? = some (some (.tup rows, false)) → ρ[4]? = some (some (.tup (.str ("copy" : PySem.Str) :: [.int dd, .str bb, .int n]), false)) → tOf (f2 iGe (f2 ixD (fVar 4) (fC (.int 3))) (fA lenD (fCons (fVar 0) fNil))) ρ = some (decide (rows.length ≤ n)) := fun ρ q0 q4 => tOf_ok (b := false) (e_op (x := .int n) (y := .int rows.length) (b1 := false) (b2 := false) (e3 ρ q4) (by simp [q0]) (by simp))
      by_cases hn : rows.length ≤ n
      · have hdc : dueC rows known i n = [] := by unfold dueC; rw [if_neg]; intro z; have := (pap_root z.1).1; omega
        rw [hdc]
        exact r_if_t (tor_ok (p := false) (q := true) (by rw [t1 _ rfl rfl, decide_eq_false hh]) fun _ => tor_ok (p := false) (q := true) (by rw [t2 _ rfl]; decide +kernel) fun _ => by rw [t3 _ rfl rfl, decide_eq_true hn]) (nil _)
      · have hn' : n < rows.length := by omega
        obtain ⟨h2, k2, rest2, er2, d2⟩ := R_g g hn'
        have ha2 := R_at hn'
        have hflat2 : noLst (.tup (.str k2 :: rest2)) = true := by simp [d2.flat]
        refine r_if_f (tor_ok (p := false) (q := false) (by rw [t1 _ rfl rfl, decide_eq_false hh]) fun _ => tor_ok (p := false) (q := false) (by rw [t2 _ rfl]; decide +kernel) fun _ => by rw [t3 _ rfl rfl, decide_eq_false hn]) ?_
        refine r_setT (x := .int h2) (y := .tup (.str k2 :: rest2)) (b := false) (e_op (x := .tup rows) (y := .int n) (b1 := false) (b2 := false) rfl (e3 _ rfl) (by simp [ha2, er2, row])) rfl hflat2 ?_
        have hpn : pap rows known n = (decide (h2 ≤ known) && decide (k2 ∈ papW)) := by unfold pap kn; rw [decide_eq_true hn', er2]; rfl
        have s1 : ∀ ρ : DL.Env, ρ[5]? = some (some (.int h2, false)) → ρ[1]? = some (some (.int known, false)) → tOf (f2 iGt (fVar 5) (fVar 1)) ρ = some (decide (known < h2)) := fun ρ q3 q1 => by simp [q3, q1]
        have s2 : ∀ ρ : DL.Env, ρ[6]? = some (some (.tup (.str k2 :: rest2), false)) → tOf (f2 dNotIn (f2 ixD (fVar 6) (fC (.int 0))) (fA mkTup (fCons (fC (.str ("paper" : PySem.Str))) (fCons (fC (.str ("like" : PySem.Str))) (fCons (fC (.str ("copy" : PySem.Str))) fNil))))) ρ = some (!decide (k2 ∈ papW)) := fun ρ q6 => tOf_ok (b := false) (e_op (x := .str k2) (y := .tup (papW.map .str)) (b1 := false) (b2 := false) (e_op (x := .tup (.str k2 :: rest2)) (y := .int 0) (b1 := false) (b2 := false) (by simp [q6]) rfl (by simp [at0])) (by simp [sizeLine, papW]) (dNotIn_strs _ _))
        by_cases hh2 : known < h2
        · have hdc : dueC rows known i n = [] := by unfold dueC; rw [if_neg]; rw [hpn, decide_eq_false (by omega)]; simp
          rw [hdc]
          exact r_if_t (tor_ok (p := true) (q := true) (by rw [s1 _ rfl rfl, decide_eq_true hh2]) (by simp)) (nil _)
        · by_cases hk2 : k2 ∈ papW
          · have hp : pap rows known n = true := by rw [hpn, decide_eq_true (by omega), decide_eq_true hk2]; rfl
            obtain ⟨_, hrn⟩ := pap_root hp
            have hri : isRoot (R rows i) = false := by unfold isRoot; rw [hkd]; decide +kernel
            have s3 : ∀ ρ : DL.Env, ρ[0]? = some (some (.tup rows, false)) → ρ[2]? = some (some (.int i, false)) → ρ[4]? = some (some (.tup (.str ("copy" : PySem.Str) :: [.int dd, .str bb, .int n]), false)) → tNotF (tOf (fA F_w_ahead (fCons (fVar 0) (fCons (f2 ixD (fVar 4) (fC (.int 3))) (fCons (fVar 2) fNil))))) ρ = some (!lt2 rows n i) := fun ρ q0 q2 q4 =>
              tnot_ok (tOf_ok (b := false) (call_ok (ds := [.tup rows, .int n, .int i]) (a_cons (b := false) (by simp [q0]) (a_cons (e3 ρ q4) (by simp [q2]))) (wahead_ok g hn' hi hrn hri)))
            by_cases hl : lt2 rows n i = true
            · have hdc : dueC rows known i n = [.tup [.str ("copy" : PySem.Str), .int n]] := by unfold dueC; rw [if_pos ⟨hp, hl⟩]
              rw [hdc]
              refine r_if_f (tor_ok (p := false) (q := false) (by rw [s1 _ rfl rfl, decide_eq_false hh2]) fun _ => tor_ok (p := false) (q := false) (by rw [s2 _ rfl, decide_eq_true hk2]; rfl) fun _ => by rw [s3 _ rfl rfl rfl, hl]; rfl) (ret_ok ?_)
              exact call_ok (ds := [.tup [.str ("copy" : PySem.Str), .int n]]) (a_cons (call_ok (ds := [.str ("copy" : PySem.Str), .int n]) (a_cons (b := false) rfl (a_cons (e3 _ rfl) rfl)) (mk_ok _ (by simp))) rfl) (mkl_ok _ (by simp))
            · have hdc : dueC rows known i n = [] := by unfold dueC; rw [if_neg fun z => hl z.2]
              rw [hdc]
              rw [Bool.not_eq_true] at hl
              exact r_if_t (tor_ok (p := false) (q := true) (by rw [s1 _ rfl rfl, decide_eq_false hh2]) fun _ => tor_ok (p := false) (q := true) (by rw [s2 _ rfl, decide_eq_true hk2]; rfl) fun _ => by rw [s3 _ rfl rfl rfl, hl]; rfl) (nil _)
          · have hdc : dueC rows known i n = [] := by unfold dueC; rw [if_neg]; rw [hpn, decide_eq_false hk2]; simp
            rw [hdc]
            exact r_if_t (tor_ok (p := false) (q := true) (by rw [s1 _ rfl rfl, decide_eq_false hh2]) fun _ => tor_ok (p := true) (q := true) (by rw [s2 _ rfl, decide_eq_false hk2]; rfl) (by simp)) (nil _)
    · have hd : dueR rows known i = [] := by unfold dueR; rw [if_neg]; rw [hkd]; exact fun z => hk z.2
      rw [hd]
      exact r_if_t (tor_ok (p := false) (q := true) (by rw [t1 _ rfl rfl, decide_eq_false hh]) fun _ => tor_ok (p := true) (q := true) (by rw [t2 _ rfl, decide_eq_false hk]; rfl) (by simp)) (nil _)
theorem dueR_mem {rows : List D} {known : Int} {i : Nat} {d : D} (h : d ∈ dueR rows known i) : ∃ n : Nat, d = .tup [.str ("copy" : PySem.Str), .int n] := by
  unfold dueR dueC at h
  split at h
  · split at h
    · exact ⟨_, List.mem_singleton.mp h⟩
    · cases h
  · cases h
theorem dueR_len (rows : List D) (known : Int) (i : Nat) : (dueR rows known i).length ≤ 1 := by
  unfold dueR dueC
  split
  · split <;> simp
  · simp
theorem dueR_flat (rows : List D) (known : Int) (i : Nat) : noLsts (dueR rows known i) = true := noLsts_all fun d hd => by obtain ⟨n, rfl⟩ := dueR_mem hd; rfl
theorem dueR_plain (rows : List D) (known : Int) (i : Nat) : plainN 40 (.lst (dueR rows known i)) = true := by
  unfold dueR dueC
  split
  · split <;> simp [plainN]
  · simp [plainN]
theorem gAllF_ok {i sx : Nat} {fc : FT} {ρ ρ' : DL.Env} {ds : List D} (e : ρ[i]? = some (some (.lst ds, true))) (n : sx ≠ i) (l : sx < ρ.length) (e9 : allF sx fc ds ρ = some ρ') : gAllF i sx fc ρ = some (.nx ρ') := by
  unfold gAllF
  rw [e]
  dsimp only
  rw [if_pos ⟨n, l⟩, e9]
  rfl
theorem turn_ok {rows : List D} (g : RowsOk rows) (known : Int) {i : Nat} (hi : i < rows.length) (hc : kn rows known i = false ∨ kindOf (R rows i) ∉ [("leave" : PySem.Str), ("paper" : PySem.Str), ("like" : PySem.Str)]) (a b c : Option (D × Bool)) (t : Int) (v8 v9 : Option (D × Bool)) :
    ∃ w8 w9, B1_law [a, b, c, some (.tup rows, false), some (.int known, false), some (.int i, false), some (.lst (dueR rows known i), true), some (.int t, false), v8, v9] = some (.nx [a, b, c, some (.tup rows, false), some (.int known, false), some (.int i, false), some (.lst (dueR rows known i), true), some (.int t, false), w8, w9]) := by
  have hb := bases_ok g known hi hc
  have hp := dueR_plain rows known i
  have hne : dNe (.lst (dueR rows known i)) (.lst (dueR rows known i)) = some (.bl false, false) := by
    unfold dNe
    rw [if_pos ⟨hp, hp⟩, eqD_same 40 _ hp]
    rfl
  obtain ⟨w9, e9⟩ := allF_ok (sx := 9) (fc := tOrF (tNotF (tOf (fA isinstanceD (fCons (fVar 9) (fCons (fC (.ty "tuple")) fNil))))) (tOf (fA isinstanceD (fCons (f2 ixD (fVar 9) (fC (.int 1))) (fCons (fC (.ty "bool")) fNil))))) (dueR rows known i)
    [a, b, c, some (.tup rows, false), some (.int known, false), some (.int i, false), some (.lst (dueR rows known i), true), some (.int t, false), some (.lst (dueR rows known i), true), v9] fun d hd => by
      obtain ⟨n, rfl⟩ := dueR_mem hd
      exact tor_ok (p := false) (q := false) (by simp) fun _ => tOf_ok (b := false) (call_ok (ds := [.int n, .ty "bool"]) (a_cons (b := false) (e_op (x := .tup [.str ("copy" : PySem.Str), .int n]) (y := .int 1) (b1 := false) (b2 := false) (by simp) rfl (by simp [at1])) rfl) (by simp))
  refine ⟨some (.lst (dueR rows known i ++ [.tup [.str ("copy" : PySem.Str), .int 0]]), true), w9, ?_⟩
  refine r_own (ds := dueR rows known i) (call_ok (ds := [.tup rows, .int known, .int i]) rfl hb) (dueR_flat rows known i) (r_if_f (tor_ok (p := false) (q := false) (by simp) fun _ => tOf_ok (b := false) (e_op (x := .lst (dueR rows known i)) (y := .lst (dueR rows known i)) (b1 := false) (b2 := false) rfl rfl hne)) (r_seq (ρ' := [a, b, c, some (.tup rows, false), some (.int known, false), some (.int i, false), some (.lst (dueR rows known i), true), some (.int t, false), some (.lst (dueR rows known i), true), w9]) ?_ (app_ok (ds := dueR rows known i) (d := .tup [.str ("copy" : PySem.Str), .int 0]) (b := false) rfl (call_ok (ds := [.str ("copy" : PySem.Str), .int 0]) rfl (mk_ok _ (by simp))) rfl (small_size (by have := dueR_len rows known i; omega)))))
  exact gAllF_ok (ds := dueR rows known i) rfl (by decide) (by simp) e9
theorem law_true (ns : List Int) (_ : ns.length ≤ 63) : ∃ b, F_law [.lst (ns.map .int)] = some (.bl true, b) := by
  obtain ⟨c0, e0, h0⟩ := cell_ok ns 0
  obtain ⟨c3, e3, h3⟩ := cell_ok ns 3
  obtain ⟨c4, e4, h4⟩ := cell_ok ns 4
  obtain ⟨zs, ez, hz⟩ := names_ok c0 h0
  have hm3 := mod_lt (x := c3) (m := 3) (by decide)
  obtain ⟨ms, hms, ems⟩ := ix_ns (ns := [1, 1, 500]) (i := c3 % 3) hm3.1 hm3.2
  obtain ⟨rows, erw, hrw, hrl⟩ := rows_ok ns zs hz ms
  have g : RowsOk rows := ⟨by omega, hrw⟩
  have hm13 := mod_lt (x := c3 / 3) (m := 13) (by decide)
  have hm4 := mod_lt (x := c4) (m := 3) (by decide)
  obtain ⟨known, hkn, ekn⟩ := ix_ns (ns := [9999, c3 / 3 % 13 * ms]) (i := c4 % 3 / 2) (by omega) (by simp; omega)
  have hflat : noLst (.tup rows) = true := by simp [noLsts_all fun d hd => (hrw d hd).flat]
  obtain ⟨ρ', el, v5, v6, v7, v8, v9, rfl⟩ := forR_inv (tg := tgN 5) (g := B2_law) rows.length (fun _ ρ => ∃ v5 v6 v7 v8 v9 : Option (D × Bool), ρ = [some (.lst (ns.map .int), false), some (.lst (zs.map .str), true), some (.int ms, false), some (.tup rows, false), some (.int known, false), v5, v6, v7, v8, v9])
    [some (.lst (ns.map .int), false), some (.lst (zs.map .str), true), some (.int ms, false), some (.tup rows, false), some (.int known, false), none, none, none, none, none] ⟨none, none, none, none, none, rfl⟩ (by
      rintro i ρ hi ⟨v5, v6, v7, v8, v9, rfl⟩
      have ha := R_at hi
      obtain ⟨h, k, rest, er, d⟩ := R_g g hi
      have q1 : ∀ ρ : DL.Env, ρ[3]? = some (some (.tup rows, false)) → ρ[4]? = some (some (.int known, false)) → ρ[5]? = some (some (.int i, false)) → tOf (f2 iGt (f2 ixD (f2 ixD (fVar 3) (fVar 5)) (fC (.int 0))) (fVar 4)) ρ = some (decide (known < h)) := fun ρ p3 p4 p5 =>
        tOf_ok (b := false) (e_op (x := .int h) (y := .int known) (b1 := false) (b2 := false) (e_op (x := row h k rest) (y := .int 0) (b1 := false) (b2 := false) (by simp [p3, p5, ha, er]) rfl (by simp [row, at0])) (by simp [p4]) (by simp))
      have q2 : ∀ ρ : DL.Env, ρ[3]? = some (some (.tup rows, false)) → ρ[5]? = some (some (.int i, false)) → tOf (f2 dNotIn (f2 ixD (f2 ixD (f2 ixD (fVar 3) (fVar 5)) (fC (.int 1))) (fC (.int 0))) (fA mkTup (fCons (fC (.str ("leave" : PySem.Str))) (fCons (fC (.str ("paper" : PySem.Str))) (fCons (fC (.str ("like" : PySem.Str))) fNil))))) ρ = some (!decide (k ∈ [("leave" : PySem.Str), ("paper" : PySem.Str), ("like" : PySem.Str)])) := fun ρ p3 p5 =>
        tOf_ok (b := false) (e_op (x := .str k) (y := .tup (([("leave" : PySem.Str), ("paper" : PySem.Str), ("like" : PySem.Str)] : List Str).map .str)) (b1 := false) (b2 := false) (e_op (x := .tup (.str k :: rest)) (y := .int 0) (b1 := false) (b2 := false) (e_op (x := row h k rest) (y := .int 1) (b1 := false) (b2 := false) (by simp [p3, p5, ha, er]) rfl (by simp [row, at1])) rfl (by simp [at0])) (by simp [sizeLine]) (dNotIn_strs _ _))
      have hkd : kindOf (R rows i) = k := by rw [er]; rfl
      have hkk : kn rows known i = decide (h ≤ known) := by unfold kn; rw [decide_eq_true hi, er]; rfl
      have inner : (kn rows known i = false ∨ kindOf (R rows i) ∉ [("leave" : PySem.Str), ("paper" : PySem.Str), ("like" : PySem.Str)]) → ∃ w6 w7 w8 w9, (gSeq (gSet 6 (fA F_w_due (fCons (fVar 3) (fCons (fVar 4) (fCons (fVar 5) fNil))))) (gForR (iRange (fC (.int 2))) (tgN 7) B1_law)) [some (.lst (ns.map .int), false), some (.lst (zs.map .str), true), some (.int ms, false), some (.tup rows, false), some (.int known, false), some (.int i, false), v6, v7, v8, v9] = some (.nx [some (.lst (ns.map .int), false), some (.lst (zs.map .str), true), some (.int ms, false), some (.tup rows, false), some (.int known, false), some (.int i, false), w6, w7, w8, w9]) := fun hc => by
        obtain ⟨ρ2, e2, w7, w8, w9, rfl⟩ := forR_inv (tg := tgN 7) (g := B1_law) 2 (fun _ ρ => ∃ w7 w8 w9 : Option (D × Bool), ρ = [some (.lst (ns.map .int), false), some (.lst (zs.map .str), true), some (.int ms, false), some (.tup rows, false), some (.int known, false), some (.int i, false), some (.lst (dueR rows known i), true), w7, w8, w9])
          [some (.lst (ns.map .int), false), some (.lst (zs.map .str), true), some (.int ms, false), some (.tup rows, false), some (.int known, false), some (.int i, false), some (.lst (dueR rows known i), true), v7, v8, v9] ⟨v7, v8, v9, rfl⟩ (by
            rintro t ρ ht ⟨w7, w8, w9, rfl⟩
            obtain ⟨x8, x9, e⟩ := turn_ok g known hi hc (some (.lst (ns.map .int), false)) (some (.lst (zs.map .str), true)) (some (.int ms, false)) t w8 w9
            exact ⟨_, _, rfl, .inl e, _, x8, x9, rfl⟩)
        exact ⟨_, w7, w8, w9, r_own (ds := dueR rows known i) (call_ok (ds := [.tup rows, .int known, .int i]) rfl (due_ok g known hi)) (dueR_flat rows known i) (forR_run (iRange_ok (j := 2) (b := false) rfl (by decide)) e2)⟩
      by_cases hh : known < h
      · obtain ⟨w6, w7, w8, w9, e⟩ := inner (.inl (by rw [hkk, decide_eq_false (by omega)]))
        exact ⟨_, _, rfl, .inl (if_t (tor_ok (p := true) (q := true) (by rw [q1 _ rfl rfl rfl, decide_eq_true hh]) (by simp)) e), _, w6, w7, w8, w9, rfl⟩
      · by_cases hk : k ∈ [("leave" : PySem.Str), ("paper" : PySem.Str), ("like" : PySem.Str)]
        · exact ⟨_, _, rfl, .inl (if_f (tor_ok (p := false) (q := false) (by rw [q1 _ rfl rfl rfl, decide_eq_false hh]) fun _ => by rw [q2 _ rfl rfl, decide_eq_true hk]; rfl) rfl), _, v6, v7, v8, v9, rfl⟩
        · obtain ⟨w6, w7, w8, w9, e⟩ := inner (.inr (by rw [hkd]; exact hk))
          exact ⟨_, _, rfl, .inl (if_t (tor_ok (p := false) (q := true) (by rw [q1 _ rfl rfl rfl, decide_eq_false hh]) fun _ => by rw [q2 _ rfl rfl, decide_eq_false hk]; rfl) e), _, w6, w7, w8, w9, rfl⟩)
  refine ⟨false, body_rt rfl (r_own (ds := zs.map .str) (call_ok (ds := [.int c0]) (a_cons (call_ok (ds := [.lst (ns.map .int), .int ((0 : Nat) : Int)]) rfl e0) rfl) ez) (noLsts_strs zs) (r_flat (d := .int ms) (b := false) ?_ rfl (r_flat (d := .tup rows) (b := false) (call_ok (ds := [.lst (ns.map .int), .lst (zs.map .str), .int ms, .int 14]) rfl erw) hflat (r_flat (d := .int known) (b := false) ?_ rfl (r_seq (forR_run (iRange_ok (j := rows.length) (b := false) (by simp) (by omega)) el) (ret_ok rfl))))))⟩
  · exact e_op (x := .lst (([1, 1, 500] : List Int).map .int)) (y := .int (c3 % 3)) (b1 := true) (b2 := false) (by simp [sizeLine]) (e_op (x := .int c3) (y := .int 3) (b1 := false) (b2 := false) (call_ok (ds := [.lst (ns.map .int), .int ((3 : Nat) : Int)]) rfl e3) rfl (by simp)) ems
  · refine e_op (x := .lst (([9999, c3 / 3 % 13 * ms] : List Int).map .int)) (y := .int (c4 % 3 / 2)) (b1 := true) (b2 := false) (call_ok (ds := [.int 9999, .int (c3 / 3 % 13 * ms)]) (a_cons (b := false) rfl (a_cons (b := false) (e_op (x := .int (c3 / 3 % 13)) (y := .int ms) (b1 := false) (b2 := false) (e_op (x := .int (c3 / 3)) (y := .int 13) (b1 := false) (b2 := false) (e_op (x := .int c3) (y := .int 3) (b1 := false) (b2 := false) (call_ok (ds := [.lst (ns.map .int), .int ((3 : Nat) : Int)]) rfl e3) rfl (by simp)) rfl (by simp)) rfl (mul_ok (by omega))) rfl)) (mkl_ok _ (by simp))) (e_op (x := .int (c4 % 3)) (y := .int 2) (b1 := false) (b2 := false) (e_op (x := .int c4) (y := .int 3) (b1 := false) (b2 := false) (call_ok (ds := [.lst (ns.map .int), .int ((4 : Nat) : Int)]) rfl e4) rfl (by simp)) rfl (by simp)) ekn
end Lw
namespace Lw
open PySem PySem.Spec PyProof.Rows L2 DL
def top (i : Nat) : Stmt := PySem.Challenge.pw_sealchain_k24_bases_of_copies.main.body.getD i (.Pass ⟨0, 0, 0, 0⟩)
structure Tx (K : PySem.W.Frag) (P : Params) (mg : Str → Option Value) : Prop where
  n_bool : mg ("bool" : PySem.Str) = none
  n_dict : mg ("dict" : PySem.Str) = none
  n_enumerate : mg ("enumerate" : PySem.Str) = none
  n_int : mg ("int" : PySem.Str) = none
  n_isinstance : mg ("isinstance" : PySem.Str) = none
  n_len : mg ("len" : PySem.Str) = none
  n_list : mg ("list" : PySem.Str) = none
  n_max : mg ("max" : PySem.Str) = none
  n_min : mg ("min" : PySem.Str) = none
  n_range : mg ("range" : PySem.Str) = none
  n_sorted : mg ("sorted" : PySem.Str) = none
  n_tuple : mg ("tuple" : PySem.Str) = none
  k_PAPERS : ∃ u v, mg ("PAPERS" : PySem.Str) = some u ∧ RelV v u ∧ ∀ B, Is K B v c_PAPERS
  k_PARTS : ∃ d, mg ("PARTS" : PySem.Str) = some (.ref d) ∧ CDict K P d c_PARTS
abbrev s_word_of : Stmt := top 7
theorem sc_word_of : FnScope [("row" : PySem.Str)] [("row" : PySem.Str)] (defScope s_word_of) := ⟨rfl, rfl, rfl, by decide +kernel, rfl, by decide +kernel, by decide +kernel⟩
theorem fn_word_of {P : Program} {w : World} {K : PySem.W.Frag} {mg : Str → Option Value} {base h : Heap} (T : Tx K w.params mg) (F : Def K ("word_of" : PySem.Str) s_word_of) (KX : K.In h) (G : h.Ns mainGlobals mg)  : Fn P w K mg base 1 ("word_of" : PySem.Str) F_word_of :=
  F.fn (k := 0) KX G sc_word_of (fun _ _ _ _ _ _ us hl => match us, hl with | [_], _ => rfl) fun f cdv A outer s H E hr =>
    have hu := hu40 hr
    have nd := sc_word_of.nd
    (show JSs _ _ g_word_of from
      (js_one (js_ret (je_ix (je_ix (je_var 0) je_int) je_int))))
abbrev s_part_of : Stmt := top 8
theorem sc_part_of : FnScope [("row" : PySem.Str), ("part" : PySem.Str)] [("row" : PySem.Str), ("part" : PySem.Str)] (defScope s_part_of) := ⟨rfl, rfl, rfl, by decide +kernel, rfl, by decide +kernel, by decide +kernel⟩
theorem fn_part_of {P : Program} {w : World} {K : PySem.W.Frag} {mg : Str → Option Value} {base h : Heap} (T : Tx K w.params mg) (F : Def K ("part_of" : PySem.Str) s_part_of) (KX : K.In h) (G : h.Ns mainGlobals mg) (f_word_of : Fn P w K mg base 1 ("word_of" : PySem.Str) F_word_of) : Fn P w K mg base 2 ("part_of" : PySem.Str) F_part_of :=
  F.fn (k := 1) KX G sc_part_of (fun _ _ _ _ _ _ us hl => match us, hl with | [_, _], _ => rfl) fun f cdv A outer s H E hr =>
    have hu := hu40 hr
    have nd := sc_part_of.nd
    (show JSs _ _ g_part_of from
      (js_one (js_ret (je_ix (je_ix (je_var 0) je_int) (je_op o_dadd je_int (je_cidx T.k_PARTS (je_call f_word_of (hr.mono (by decide)) (ja_cons (je_var 0) ja_nil)) (je_var 1)))))))
abbrev s_day_of : Stmt := top 9
theorem sc_day_of : FnScope [("row" : PySem.Str)] [("row" : PySem.Str)] (defScope s_day_of) := ⟨rfl, rfl, rfl, by decide +kernel, rfl, by decide +kernel, by decide +kernel⟩
theorem fn_day_of {P : Program} {w : World} {K : PySem.W.Frag} {mg : Str → Option Value} {base h : Heap} (T : Tx K w.params mg) (F : Def K ("day_of" : PySem.Str) s_day_of) (KX : K.In h) (G : h.Ns mainGlobals mg) (f_word_of : Fn P w K mg base 1 ("word_of" : PySem.Str) F_word_of) (f_part_of : Fn P w K mg base 2 ("part_of" : PySem.Str) F_part_of) : Fn P w K mg base 3 ("day_of" : PySem.Str) F_day_of :=
  F.fn (k := 2) KX G sc_day_of (fun _ _ _ _ _ _ us hl => match us, hl with | [_], _ => rfl) fun f cdv A outer s H E hr =>
    have hu := hu40 hr
    have nd := sc_day_of.nd
    (show JSs _ _ g_day_of from
      (js_cons (js_if (jt_cmp (o_eq hu) (je_call f_word_of (hr.mono (by decide)) (ja_cons (je_var 0) ja_nil)) je_str) (js_one (js_ret je_non)) js_nil)
      (js_one (js_ret (je_call f_part_of (hr.mono (by decide)) (ja_cons (je_var 0) (ja_cons je_str ja_nil)))))))
abbrev s_heard : Stmt := top 11
theorem sc_heard : FnScope [("book" : PySem.Str), ("known" : PySem.Str)] [("book" : PySem.Str), ("known" : PySem.Str)] (defScope s_heard) := ⟨rfl, rfl, rfl, by decide +kernel, rfl, by decide +kernel, by decide +kernel⟩
theorem fn_heard {P : Program} {w : World} {K : PySem.W.Frag} {mg : Str → Option Value} {base h : Heap} (T : Tx K w.params mg) (F : Def K ("heard" : PySem.Str) s_heard) (KX : K.In h) (G : h.Ns mainGlobals mg)  : Fn P w K mg base 1 ("heard" : PySem.Str) F_heard :=
  F.fn (k := 0) KX G sc_heard (fun _ _ _ _ _ _ us hl => match us, hl with | [_, _], _ => rfl) fun f cdv A outer s H E hr =>
    have hu := hu40 hr
    have nd := sc_heard.nd
    (show JSs _ _ g_heard from
      (js_one (js_ret (je_comp rfl (nT := 2) (cap := [1]) (N' := [("number" : PySem.Str), ("row" : PySem.Str), ("known" : PySem.Str)]) (compSc (by decide +kernel) rfl (by decide +kernel) rfl) (.cons rfl rfl (Or.inl rfl) (Or.inl rfl) (cl_look (by decide +kernel) rfl) (.nil rfl)) (ji_enum T.n_enumerate (je_var 0)) (fun _ _ _ _ => (pg_tup rfl (pgs_cons (pg_name (i := 0) (show List.Nodup [("number" : PySem.Str), ("row" : PySem.Str), ("known" : PySem.Str)] by decide +kernel) rfl (Or.inl rfl)) (pgs_cons (pg_name (i := 1) (show List.Nodup [("number" : PySem.Str), ("row" : PySem.Str), ("known" : PySem.Str)] by decide +kernel) rfl (Or.inl rfl)) pgs_nil)))) (tge_T (by decide)) (fun _ _ _ _ => (jc_one (jt_cmp o_dle (je_ix (je_var 1) je_int) (je_var 2)))) (fun _ _ _ _ => (je_var 0))))))
abbrev s_rank : Stmt := top 13
theorem sc_rank : FnScope [("book" : PySem.Str), ("number" : PySem.Str)] [("book" : PySem.Str), ("number" : PySem.Str)] (defScope s_rank) := ⟨rfl, rfl, rfl, by decide +kernel, rfl, by decide +kernel, by decide +kernel⟩
theorem fn_rank {P : Program} {w : World} {K : PySem.W.Frag} {mg : Str → Option Value} {base h : Heap} (T : Tx K w.params mg) (F : Def K ("rank" : PySem.Str) s_rank) (KX : K.In h) (G : h.Ns mainGlobals mg) (f_day_of : Fn P w K mg base 3 ("day_of" : PySem.Str) F_day_of) : Fn P w K mg base 4 ("rank" : PySem.Str) F_rank :=
  F.fn (k := 3) KX G sc_rank (fun _ _ _ _ _ _ us hl => match us, hl with | [_, _], _ => rfl) fun f cdv A outer s H E hr =>
    have hu := hu40 hr
    have nd := sc_rank.nd
    (show JSs _ _ g_rank from
      (js_one (js_ret (je_tup (ja_cons (je_call f_day_of (hr.mono (by decide)) (ja_cons (je_ix (je_var 0) (je_var 1)) ja_nil)) (ja_cons (je_var 1) ja_nil))))))
abbrev s_in_order : Stmt := top 15
theorem sc_in_order : FnScope [("book" : PySem.Str), ("known" : PySem.Str), ("dated" : PySem.Str)] [("book" : PySem.Str), ("known" : PySem.Str)] (defScope s_in_order) := ⟨rfl, rfl, rfl, by decide +kernel, rfl, by decide +kernel, by decide +kernel⟩
theorem fn_in_order {P : Program} {w : World} {K : PySem.W.Frag} {mg : Str → Option Value} {base h : Heap} (T : Tx K w.params mg) (F : Def K ("in_order" : PySem.Str) s_in_order) (KX : K.In h) (G : h.Ns mainGlobals mg) (f_day_of : Fn P w K mg base 3 ("day_of" : PySem.Str) F_day_of) (f_heard : Fn P w K mg base 1 ("heard" : PySem.Str) F_heard) (f_rank : Fn P w K mg base 4 ("rank" : PySem.Str) F_rank) (l_in_order : LamK K ("in_order" : PySem.Str)) : Fn P w K mg base 8 ("in_order" : PySem.Str) F_in_order :=
  F.fnL (k := 7) KX G sc_in_order (fun _ _ _ _ _ _ us hl => match us, hl with | [_, _], _ => rfl) fun f cdv A outer s H E hcd hr =>
    have hu := hu40 hr
    have nd := sc_in_order.nd
    (show JSs _ _ g_in_order from
      (js_cons (js_comp (i := 2) rfl nd rfl rfl rfl (nT := 1) (cap := [0]) (N' := [("number" : PySem.Str), ("book" : PySem.Str)]) (compSc (by decide +kernel) rfl (by decide +kernel) rfl) (.cons rfl rfl (Or.inl rfl) (Or.inl rfl) (cl_look (by decide +kernel) rfl) (.nil rfl)) (ji_seq (je_call f_heard (hr.mono (by decide)) (ja_cons (je_var 0) (ja_cons (je_var 1) ja_nil)))) (fun _ _ _ _ => (pg_name (i := 0) (show List.Nodup [("number" : PySem.Str), ("book" : PySem.Str)] by decide +kernel) rfl (Or.inl rfl))) (tge_name (by decide)) (fun _ _ _ _ => (jc_one (jt_cmp o_isnot (je_call f_day_of (hr.mono (by decide)) (ja_cons (je_ix (je_var 1) (je_var 0)) ja_nil)) je_non))) (fun _ _ _ _ => (je_var 0)))
      (js_one (js_ret (je_sortK T.n_sorted (je_var 2) (jk_lam (cap := [0]) (N' := [("number" : PySem.Str), ("book" : PySem.Str)]) (by decide +kernel) l_in_order hcd rfl rfl (lamSc (by decide +kernel) rfl rfl rfl rfl rfl) rfl (.cons rfl rfl (Or.inl rfl) rfl (cl_look (by decide +kernel) rfl) (.nil rfl)) rfl hr.in1.in1 (fun _ _ _ _ => rfl) fun _ _ _ _ hr => have hu := hu40 hr; (je_call f_rank (hr.mono (by decide)) (ja_cons (je_var 1) (ja_cons (je_var 0) ja_nil)))))))))
abbrev s_by_office : Stmt := top 27
theorem sc_by_office : FnScope [("claim" : PySem.Str)] [("claim" : PySem.Str)] (defScope s_by_office) := ⟨rfl, rfl, rfl, by decide +kernel, rfl, by decide +kernel, by decide +kernel⟩
theorem fn_by_office {P : Program} {w : World} {K : PySem.W.Frag} {mg : Str → Option Value} {base h : Heap} (T : Tx K w.params mg) (F : Def K ("by_office" : PySem.Str) s_by_office) (KX : K.In h) (G : h.Ns mainGlobals mg)  : Fn P w K mg base 1 ("by_office" : PySem.Str) F_by_office :=
  F.fn (k := 0) KX G sc_by_office (fun _ _ _ _ _ _ us hl => match us, hl with | [_], _ => rfl) fun f cdv A outer s H E hr =>
    have hu := hu40 hr
    have nd := sc_by_office.nd
    (show JSs _ _ g_by_office from
      (js_one (js_ret (je_tup (ja_cons (je_ix (je_var 0) je_int) (ja_cons (je_ix (je_var 0) je_int) (ja_cons (je_ix (je_var 0) je_int) ja_nil)))))))
abbrev s_roots : Stmt := top 16
theorem sc_roots : FnScope [("book" : PySem.Str), ("known" : PySem.Str), ("known_rows" : PySem.Str)] [("book" : PySem.Str), ("known" : PySem.Str)] (defScope s_roots) := ⟨rfl, rfl, rfl, by decide +kernel, rfl, by decide +kernel, by decide +kernel⟩
theorem fn_roots {P : Program} {w : World} {K : PySem.W.Frag} {mg : Str → Option Value} {base h : Heap} (T : Tx K w.params mg) (F : Def K ("roots" : PySem.Str) s_roots) (KX : K.In h) (G : h.Ns mainGlobals mg) (f_word_of : Fn P w K mg base 1 ("word_of" : PySem.Str) F_word_of) (f_part_of : Fn P w K mg base 2 ("part_of" : PySem.Str) F_part_of) (f_heard : Fn P w K mg base 1 ("heard" : PySem.Str) F_heard) : Fn P w K mg base 3 ("roots" : PySem.Str) F_roots :=
  F.fn (k := 2) KX G sc_roots (fun _ _ _ _ _ _ us hl => match us, hl with | [_, _], _ => rfl) fun f cdv A outer s H E hr =>
    have hu := hu40 hr
    have nd := sc_roots.nd
    (show JSs _ _ g_roots from
      (js_cons (js_comp (i := 2) rfl nd rfl rfl rfl (nT := 1) (cap := [0]) (N' := [("number" : PySem.Str), ("book" : PySem.Str)]) (compSc (by decide +kernel) rfl (by decide +kernel) rfl) (.cons rfl rfl (Or.inl rfl) (Or.inl rfl) (cl_look (by decide +kernel) rfl) (.nil rfl)) (ji_seq (je_call f_heard (hr.mono (by decide)) (ja_cons (je_var 0) (ja_cons (je_var 1) ja_nil)))) (fun _ _ _ _ => (pg_name (i := 0) (show List.Nodup [("number" : PySem.Str), ("book" : PySem.Str)] by decide +kernel) rfl (Or.inl rfl))) (tge_name (by decide)) (fun _ _ _ _ => jc_nil) (fun _ _ _ _ => (je_ix (je_var 1) (je_var 0))))
      (js_one (js_ret (je_callTy (c_dict rfl) T.n_dict b_dict (ja_cons (je_comp rfl (nT := 1) (cap := []) (N' := [("row" : PySem.Str)]) (compSc (by decide +kernel) rfl (by decide +kernel) rfl) (.nil rfl) (ji_seq (je_var 2)) (fun _ _ _ _ => (pg_name (i := 0) (show List.Nodup [("row" : PySem.Str)] by decide +kernel) rfl (Or.inl rfl))) (tge_name (by decide)) (fun _ _ _ _ => (jc_one (jt_cmp (o_eq hu) (je_call f_word_of (hr.mono (by decide)) (ja_cons (je_var 0) ja_nil)) je_str))) (fun _ _ _ _ => (je_tup (ja_cons (je_call f_part_of (hr.mono (by decide)) (ja_cons (je_var 0) (ja_cons je_str ja_nil))) (ja_cons (je_var 0) ja_nil))))) ja_nil))))))
abbrev s_counts : Stmt := top 32
theorem sc_counts : FnScope [("book" : PySem.Str), ("known" : PySem.Str), ("so_far" : PySem.Str), ("number" : PySem.Str), ("row" : PySem.Str), ("root" : PySem.Str)] [("book" : PySem.Str), ("known" : PySem.Str), ("so_far" : PySem.Str), ("number" : PySem.Str)] (defScope s_counts) := ⟨rfl, rfl, rfl, by decide +kernel, rfl, by decide +kernel, by decide +kernel⟩
theorem fn_counts {P : Program} {w : World} {K : PySem.W.Frag} {mg : Str → Option Value} {base h : Heap} (T : Tx K w.params mg) (F : Def K ("counts" : PySem.Str) s_counts) (KX : K.In h) (G : h.Ns mainGlobals mg) (f_word_of : Fn P w K mg base 1 ("word_of" : PySem.Str) F_word_of) (f_part_of : Fn P w K mg base 2 ("part_of" : PySem.Str) F_part_of) (f_roots : Fn P w K mg base 3 ("roots" : PySem.Str) F_roots) : Fn P w K mg base 4 ("counts" : PySem.Str) F_counts :=
  F.fn (k := 3) KX G sc_counts (fun _ _ _ _ _ _ us hl => match us, hl with | [_, _, _, _], _ => rfl) fun f cdv A outer s H E hr =>
    have hu := hu40 hr
    have nd := sc_counts.nd
    (show JSs _ _ g_counts from
      (js_cons (js_set (i := 4) nd (je_ix (je_var 0) (je_var 3)))
      (js_cons (js_if (jt_cmp (o_eq hu) (je_call f_word_of (hr.mono (by decide)) (ja_cons (je_var 4) ja_nil)) je_str) (js_one (js_ret je_none)) js_nil)
      (js_cons (js_if (jt_cmp o_dnotin (je_call f_word_of (hr.mono (by decide)) (ja_cons (je_var 4) ja_nil)) (je_tup (ja_cons je_str (ja_cons je_str (ja_cons je_str ja_nil))))) (js_one (js_ret je_bl)) js_nil)
      (js_cons (js_set (i := 5) nd (je_dget1 (hu1 hu) (je_call f_roots (hr.mono (by decide)) (ja_cons (je_var 0) (ja_cons (je_var 1) ja_nil))) (je_call f_part_of (hr.mono (by decide)) (ja_cons (je_var 4) (ja_cons je_str ja_nil))) ⟨rfl, rfl, rfl, rfl⟩))
      (js_cons (js_if (jt_cmp o_is (je_var 5) je_non) (js_one (js_ret je_bl)) js_nil)
      (js_cons (js_if (jt_cmp (o_eq hu) (je_call f_word_of (hr.mono (by decide)) (ja_cons (je_var 4) ja_nil)) je_str) (js_one (js_ret je_bl)) js_nil)
      (js_one (js_ret (je_and je_none (je_one je_none)))))))))))
abbrev s_new_claim : Stmt := top 33
theorem sc_new_claim : FnScope [("row" : PySem.Str), ("since" : PySem.Str), ("number" : PySem.Str)] [("row" : PySem.Str), ("since" : PySem.Str), ("number" : PySem.Str)] (defScope s_new_claim) := ⟨rfl, rfl, rfl, by decide +kernel, rfl, by decide +kernel, by decide +kernel⟩
theorem fn_new_claim {P : Program} {w : World} {K : PySem.W.Frag} {mg : Str → Option Value} {base h : Heap} (T : Tx K w.params mg) (F : Def K ("new_claim" : PySem.Str) s_new_claim) (KX : K.In h) (G : h.Ns mainGlobals mg) (f_part_of : Fn P w K mg base 2 ("part_of" : PySem.Str) F_part_of) : Fn P w K mg base 3 ("new_claim" : PySem.Str) F_new_claim :=
  F.fn (k := 2) KX G sc_new_claim (fun _ _ _ _ _ _ us hl => match us, hl with | [_, _, _], _ => rfl) fun f cdv A outer s H E hr =>
    have hu := hu40 hr
    have nd := sc_new_claim.nd
    (show JSs _ _ g_new_claim from
      (js_one (js_ret (je_tup (ja_cons (je_call f_part_of (hr.mono (by decide)) (ja_cons (je_var 0) (ja_cons je_str ja_nil))) (ja_cons (je_call f_part_of (hr.mono (by decide)) (ja_cons (je_var 0) (ja_cons je_str ja_nil))) (ja_cons (je_var 1) (ja_cons je_non (ja_cons (je_var 2) ja_nil)))))))))
abbrev s_claims : Stmt := top 38
theorem sc_claims : FnScope [("book" : PySem.Str), ("known" : PySem.Str), ("so_far" : PySem.Str), ("heirs" : PySem.Str), ("number" : PySem.Str), ("row" : PySem.Str)] [("book" : PySem.Str), ("known" : PySem.Str)] (defScope s_claims) := ⟨rfl, rfl, rfl, by decide +kernel, rfl, by decide +kernel, by decide +kernel⟩
theorem fn_claims {P : Program} {w : World} {K : PySem.W.Frag} {mg : Str → Option Value} {base h : Heap} (T : Tx K w.params mg) (F : Def K ("claims" : PySem.Str) s_claims) (KX : K.In h) (G : h.Ns mainGlobals mg) (f_word_of : Fn P w K mg base 1 ("word_of" : PySem.Str) F_word_of) (f_part_of : Fn P w K mg base 2 ("part_of" : PySem.Str) F_part_of) (f_day_of : Fn P w K mg base 3 ("day_of" : PySem.Str) F_day_of) (f_in_order : Fn P w K mg base 8 ("in_order" : PySem.Str) F_in_order) (f_by_office : Fn P w K mg base 1 ("by_office" : PySem.Str) F_by_office) (f_counts : Fn P w K mg base 4 ("counts" : PySem.Str) F_counts) (f_new_claim : Fn P w K mg base 3 ("new_claim" : PySem.Str) F_new_claim) : Fn P w K mg base 9 ("claims" : PySem.Str) F_claims :=
  F.fn (k := 8) KX G sc_claims (fun _ _ _ _ _ _ us hl => match us, hl with | [_, _], _ => rfl) fun f cdv A outer s H E hr =>
    have hu := hu40 hr
    have nd := sc_claims.nd
    (show JSs _ _ g_claims from
      (js_cons (js_set (i := 2) nd (je_lst ja_nil))
      (js_cons (js_newT (i := 3) nd)
      (js_cons (js_for PassesOwn.never rfl (ji_seq (je_call f_in_order (hr.mono (by decide)) (ja_cons (je_var 0) (ja_cons (je_var 1) ja_nil)))) (pg_name (i := 4) nd rfl (Or.inl rfl)) tDG_name (js_cons (js_set (i := 5) nd (je_ix (je_var 0) (je_var 4)))
      (js_cons (js_if (jt_not (jt_val (je_call f_counts (hr.mono (by decide)) (ja_cons (je_var 0) (ja_cons (je_var 1) (ja_cons (je_var 2) (ja_cons (je_var 4) ja_nil))))))) (js_one js_cont) js_nil)
      (js_one (js_if (jt_cmp (o_eq hu) (je_call f_word_of (hr.mono (by decide)) (ja_cons (je_var 5) ja_nil)) je_str) (js_one (js_set (i := 2) nd (je_op o_dadd (je_var 2) (je_lst (ja_cons (je_call f_new_claim (hr.mono (by decide)) (ja_cons (je_var 5) (ja_cons (je_call f_day_of (hr.mono (by decide)) (ja_cons (je_var 5) ja_nil)) (ja_cons (je_var 4) ja_nil)))) ja_nil))))) (js_one (js_if (jt_cmp (o_eq hu) (je_call f_word_of (hr.mono (by decide)) (ja_cons (je_var 5) ja_nil)) je_str) (js_one (js_set (i := 2) nd je_none)) (js_one (js_if (jt_cmp (o_eq hu) (je_call f_word_of (hr.mono (by decide)) (ja_cons (je_var 5) ja_nil)) je_str) (js_one (js_put (i := 3) (je_call f_part_of (hr.mono (by decide)) (ja_cons (je_var 5) (ja_cons je_str ja_nil))) (je_tup (ja_cons (je_call f_part_of (hr.mono (by decide)) (ja_cons (je_var 5) (ja_cons je_str ja_nil))) (ja_cons (je_call f_part_of (hr.mono (by decide)) (ja_cons (je_var 5) (ja_cons je_str ja_nil))) ja_nil))))) (js_one (js_set (i := 2) nd je_none)))))))))))
      (js_one (js_ret (je_sortK T.n_sorted (je_var 2) (jk_fn f_by_office (hr.in1.in1.mono (by decide)) rfl))))))))
abbrev s_is_known : Stmt := top 12
theorem sc_is_known : FnScope [("book" : PySem.Str), ("known" : PySem.Str), ("number" : PySem.Str)] [("book" : PySem.Str), ("known" : PySem.Str), ("number" : PySem.Str)] (defScope s_is_known) := ⟨rfl, rfl, rfl, by decide +kernel, rfl, by decide +kernel, by decide +kernel⟩
theorem fn_is_known {P : Program} {w : World} {K : PySem.W.Frag} {mg : Str → Option Value} {base h : Heap} (T : Tx K w.params mg) (F : Def K ("is_known" : PySem.Str) s_is_known) (KX : K.In h) (G : h.Ns mainGlobals mg)  : Fn P w K mg base 1 ("is_known" : PySem.Str) F_is_known :=
  F.fn (k := 0) KX G sc_is_known (fun _ _ _ _ _ _ us hl => match us, hl with | [_, _, _], _ => rfl) fun f cdv A outer s H E hr =>
    have hu := hu40 hr
    have nd := sc_is_known.nd
    (show JSs _ _ g_is_known from
      (js_one (js_ret (je_and (je_chain o_dle o_dlt je_int (je_var 2) (je_callB c_len T.n_len b_len (ja_cons (je_var 0) ja_nil))) (je_one (je_cmp o_dle (je_ix (je_ix (je_var 0) (je_var 2)) je_int) (je_var 1)))))))
abbrev s_is_paper : Stmt := top 41
theorem sc_is_paper : FnScope [("book" : PySem.Str), ("known" : PySem.Str), ("number" : PySem.Str)] [("book" : PySem.Str), ("known" : PySem.Str), ("number" : PySem.Str)] (defScope s_is_paper) := ⟨rfl, rfl, rfl, by decide +kernel, rfl, by decide +kernel, by decide +kernel⟩
theorem fn_is_paper {P : Program} {w : World} {K : PySem.W.Frag} {mg : Str → Option Value} {base h : Heap} (T : Tx K w.params mg) (F : Def K ("is_paper" : PySem.Str) s_is_paper) (KX : K.In h) (G : h.Ns mainGlobals mg) (f_word_of : Fn P w K mg base 1 ("word_of" : PySem.Str) F_word_of) (f_is_known : Fn P w K mg base 1 ("is_known" : PySem.Str) F_is_known) : Fn P w K mg base 2 ("is_paper" : PySem.Str) F_is_paper :=
  F.fn (k := 1) KX G sc_is_paper (fun _ _ _ _ _ _ us hl => match us, hl with | [_, _, _], _ => rfl) fun f cdv A outer s H E hr =>
    have hu := hu40 hr
    have nd := sc_is_paper.nd
    (show JSs _ _ g_is_paper from
      (js_one (js_ret (je_and (je_call f_is_known (hr.mono (by decide)) (ja_cons (je_var 0) (ja_cons (je_var 1) (ja_cons (je_var 2) ja_nil)))) (je_one (je_cmp o_din (je_call f_word_of (hr.mono (by decide)) (ja_cons (je_ix (je_var 0) (je_var 2)) ja_nil)) (je_const T.k_PAPERS)))))))
abbrev s_is_leave : Stmt := top 42
theorem sc_is_leave : FnScope [("book" : PySem.Str), ("known" : PySem.Str), ("number" : PySem.Str)] [("book" : PySem.Str), ("known" : PySem.Str), ("number" : PySem.Str)] (defScope s_is_leave) := ⟨rfl, rfl, rfl, by decide +kernel, rfl, by decide +kernel, by decide +kernel⟩
theorem fn_is_leave {P : Program} {w : World} {K : PySem.W.Frag} {mg : Str → Option Value} {base h : Heap} (T : Tx K w.params mg) (F : Def K ("is_leave" : PySem.Str) s_is_leave) (KX : K.In h) (G : h.Ns mainGlobals mg) (f_word_of : Fn P w K mg base 1 ("word_of" : PySem.Str) F_word_of) (f_is_known : Fn P w K mg base 1 ("is_known" : PySem.Str) F_is_known) : Fn P w K mg base 2 ("is_leave" : PySem.Str) F_is_leave :=
  F.fn (k := 1) KX G sc_is_leave (fun _ _ _ _ _ _ us hl => match us, hl with | [_, _, _], _ => rfl) fun f cdv A outer s H E hr =>
    have hu := hu40 hr
    have nd := sc_is_leave.nd
    (show JSs _ _ g_is_leave from
      (js_one (js_ret (je_and (je_call f_is_known (hr.mono (by decide)) (ja_cons (je_var 0) (ja_cons (je_var 1) (ja_cons (je_var 2) ja_nil)))) (je_one (je_cmp (o_eq hu) (je_call f_word_of (hr.mono (by decide)) (ja_cons (je_ix (je_var 0) (je_var 2)) ja_nil)) je_str))))))
abbrev s_is_borne : Stmt := top 43
theorem sc_is_borne : FnScope [("book" : PySem.Str), ("known" : PySem.Str), ("number" : PySem.Str)] [("book" : PySem.Str), ("known" : PySem.Str), ("number" : PySem.Str)] (defScope s_is_borne) := ⟨rfl, rfl, rfl, by decide +kernel, rfl, by decide +kernel, by decide +kernel⟩
theorem fn_is_borne {P : Program} {w : World} {K : PySem.W.Frag} {mg : Str → Option Value} {base h : Heap} (T : Tx K w.params mg) (F : Def K ("is_borne" : PySem.Str) s_is_borne) (KX : K.In h) (G : h.Ns mainGlobals mg) (f_is_paper : Fn P w K mg base 2 ("is_paper" : PySem.Str) F_is_paper) (f_is_leave : Fn P w K mg base 2 ("is_leave" : PySem.Str) F_is_leave) : Fn P w K mg base 3 ("is_borne" : PySem.Str) F_is_borne :=
  F.fn (k := 2) KX G sc_is_borne (fun _ _ _ _ _ _ us hl => match us, hl with | [_, _, _], _ => rfl) fun f cdv A outer s H E hr =>
    have hu := hu40 hr
    have nd := sc_is_borne.nd
    (show JSs _ _ g_is_borne from
      (js_one (js_ret (je_or (je_call f_is_leave (hr.mono (by decide)) (ja_cons (je_var 0) (ja_cons (je_var 1) (ja_cons (je_var 2) ja_nil)))) (je_one (je_call f_is_paper (hr.mono (by decide)) (ja_cons (je_var 0) (ja_cons (je_var 1) (ja_cons (je_var 2) ja_nil)))))))))
abbrev s_is_ahead : Stmt := top 14
theorem sc_is_ahead : FnScope [("book" : PySem.Str), ("one" : PySem.Str), ("other" : PySem.Str)] [("book" : PySem.Str), ("one" : PySem.Str), ("other" : PySem.Str)] (defScope s_is_ahead) := ⟨rfl, rfl, rfl, by decide +kernel, rfl, by decide +kernel, by decide +kernel⟩
theorem fn_is_ahead {P : Program} {w : World} {K : PySem.W.Frag} {mg : Str → Option Value} {base h : Heap} (T : Tx K w.params mg) (F : Def K ("is_ahead" : PySem.Str) s_is_ahead) (KX : K.In h) (G : h.Ns mainGlobals mg) (f_rank : Fn P w K mg base 4 ("rank" : PySem.Str) F_rank) : Fn P w K mg base 5 ("is_ahead" : PySem.Str) F_is_ahead :=
  F.fn (k := 4) KX G sc_is_ahead (fun _ _ _ _ _ _ us hl => match us, hl with | [_, _, _], _ => rfl) fun f cdv A outer s H E hr =>
    have hu := hu40 hr
    have nd := sc_is_ahead.nd
    (show JSs _ _ g_is_ahead from
      (js_one (js_ret (je_cmp (o_tlt hu) (je_call f_rank (hr.mono (by decide)) (ja_cons (je_var 0) (ja_cons (je_var 1) ja_nil))) (je_call f_rank (hr.mono (by decide)) (ja_cons (je_var 0) (ja_cons (je_var 2) ja_nil)))))))
abbrev s_copy_bases : Stmt := top 50
theorem sc_copy_bases : FnScope [("book" : PySem.Str), ("known" : PySem.Str), ("number" : PySem.Str), ("of" : PySem.Str)] [("book" : PySem.Str), ("known" : PySem.Str), ("number" : PySem.Str)] (defScope s_copy_bases) := ⟨rfl, rfl, rfl, by decide +kernel, rfl, by decide +kernel, by decide +kernel⟩
theorem fn_copy_bases {P : Program} {w : World} {K : PySem.W.Frag} {mg : Str → Option Value} {base h : Heap} (T : Tx K w.params mg) (F : Def K ("copy_bases" : PySem.Str) s_copy_bases) (KX : K.In h) (G : h.Ns mainGlobals mg) (f_part_of : Fn P w K mg base 2 ("part_of" : PySem.Str) F_part_of) (f_is_ahead : Fn P w K mg base 5 ("is_ahead" : PySem.Str) F_is_ahead) (f_is_paper : Fn P w K mg base 2 ("is_paper" : PySem.Str) F_is_paper) : Fn P w K mg base 6 ("copy_bases" : PySem.Str) F_copy_bases :=
  F.fn (k := 5) KX G sc_copy_bases (fun _ _ _ _ _ _ us hl => match us, hl with | [_, _, _], _ => rfl) fun f cdv A outer s H E hr =>
    have hu := hu40 hr
    have nd := sc_copy_bases.nd
    (show JSs _ _ g_copy_bases from
      (js_cons (js_set (i := 3) nd (je_call f_part_of (hr.mono (by decide)) (ja_cons (je_ix (je_var 0) (je_var 2)) (ja_cons je_str ja_nil))))
      (js_cons (js_if (jt_w (jw_and (jt_val (je_call f_is_paper (hr.mono (by decide)) (ja_cons (je_var 0) (ja_cons (je_var 1) (ja_cons (je_var 3) ja_nil))))) (jw_and1 (jt_val (je_call f_is_ahead (hr.mono (by decide)) (ja_cons (je_var 0) (ja_cons (je_var 3) (ja_cons (je_var 2) ja_nil)))))))) (js_one (js_ret (je_lst (ja_cons (je_tup (ja_cons je_str (ja_cons (je_var 3) ja_nil))) ja_nil)))) js_nil)
      (js_one (js_ret (je_lst ja_nil))))))
abbrev s_bases_by : Stmt := top 51
theorem sc_bases_by : FnScope [("book" : PySem.Str), ("known" : PySem.Str), ("claimed" : PySem.Str), ("number" : PySem.Str), ("found" : PySem.Str)] [("book" : PySem.Str), ("known" : PySem.Str), ("claimed" : PySem.Str), ("number" : PySem.Str)] (defScope s_bases_by) := ⟨rfl, rfl, rfl, by decide +kernel, rfl, by decide +kernel, by decide +kernel⟩
theorem fn_bases_by {P : Program} {w : World} {K : PySem.W.Frag} {mg : Str → Option Value} {base h : Heap} (T : Tx K w.params mg) (F : Def K ("bases_by" : PySem.Str) s_bases_by) (KX : K.In h) (G : h.Ns mainGlobals mg) (f_word_of : Fn P w K mg base 1 ("word_of" : PySem.Str) F_word_of) (f_is_borne : Fn P w K mg base 3 ("is_borne" : PySem.Str) F_is_borne) (f_copy_bases : Fn P w K mg base 6 ("copy_bases" : PySem.Str) F_copy_bases) (l_bases_by : LamK K ("bases_by" : PySem.Str)) : Fn P w K mg base 7 ("bases_by" : PySem.Str) F_bases_by :=
  F.fnL (k := 6) KX G sc_bases_by (fun _ _ _ _ _ _ us hl => match us, hl with | [_, _, _, _], _ => rfl) fun f cdv A outer s H E hcd hr =>
    have hu := hu40 hr
    have nd := sc_bases_by.nd
    (show JSs _ _ g_bases_by from
      (js_cons (js_if (jt_not (jt_val (je_call f_is_borne (hr.mono (by decide)) (ja_cons (je_var 0) (ja_cons (je_var 1) (ja_cons (je_var 3) ja_nil)))))) (js_one (js_ret (je_lst ja_nil))) js_nil)
      (js_cons (js_if (jt_cmp (o_eq hu) (je_call f_word_of (hr.mono (by decide)) (ja_cons (je_ix (je_var 0) (je_var 3)) ja_nil)) je_str) (js_one (js_ret (je_call f_copy_bases (hr.mono (by decide)) (ja_cons (je_var 0) (ja_cons (je_var 1) (ja_cons (je_var 3) ja_nil)))))) js_nil)
      (js_cons (js_set (i := 4) nd (je_op o_dadd je_none je_none))
      (js_one (js_ret (je_sortK T.n_sorted (je_var 4) (jk_lam (cap := []) (N' := [("base" : PySem.Str)]) (by decide +kernel) l_bases_by hcd rfl rfl (lamSc (by decide +kernel) rfl rfl rfl rfl rfl) rfl (.nil rfl) rfl hr.in1.in1 (fun _ _ _ _ => rfl) fun _ _ _ _ hr => have hu := hu40 hr; (je_tup (ja_cons (je_ix (je_var 0) (je_un o_neg je_int)) (ja_cons (je_var 0) ja_nil)))))))))))
abbrev s_bases : Stmt := top 52
theorem sc_bases : FnScope [("book" : PySem.Str), ("known" : PySem.Str), ("number" : PySem.Str)] [("book" : PySem.Str), ("known" : PySem.Str), ("number" : PySem.Str)] (defScope s_bases) := ⟨rfl, rfl, rfl, by decide +kernel, rfl, by decide +kernel, by decide +kernel⟩
theorem fn_bases {P : Program} {w : World} {K : PySem.W.Frag} {mg : Str → Option Value} {base h : Heap} (T : Tx K w.params mg) (F : Def K ("bases" : PySem.Str) s_bases) (KX : K.In h) (G : h.Ns mainGlobals mg) (f_claims : Fn P w K mg base 9 ("claims" : PySem.Str) F_claims) (f_bases_by : Fn P w K mg base 7 ("bases_by" : PySem.Str) F_bases_by) : Fn P w K mg base 10 ("bases" : PySem.Str) F_bases :=
  F.fn (k := 9) KX G sc_bases (fun _ _ _ _ _ _ us hl => match us, hl with | [_, _, _], _ => rfl) fun f cdv A outer s H E hr =>
    have hu := hu40 hr
    have nd := sc_bases.nd
    (show JSs _ _ g_bases from
      (js_one (js_ret (je_call f_bases_by (hr.mono (by decide)) (ja_cons (je_var 0) (ja_cons (je_var 1) (ja_cons (je_call f_claims (hr.mono (by decide)) (ja_cons (je_var 0) (ja_cons (je_var 1) ja_nil))) (ja_cons (je_var 2) ja_nil))))))))
abbrev s_w_cell : Stmt := top 54
theorem sc_w_cell : FnScope [("_law_script" : PySem.Str), ("_law_k" : PySem.Str), ("_law_cell_here" : PySem.Str)] [("_law_script" : PySem.Str), ("_law_k" : PySem.Str)] (defScope s_w_cell) := ⟨rfl, rfl, rfl, by decide +kernel, rfl, by decide +kernel, by decide +kernel⟩
theorem fn_w_cell {P : Program} {w : World} {K : PySem.W.Frag} {mg : Str → Option Value} {base h : Heap} (T : Tx K w.params mg) (F : Def K ("_law_cell" : PySem.Str) s_w_cell) (KX : K.In h) (G : h.Ns mainGlobals mg)  : Fn P w K mg base 1 ("_law_cell" : PySem.Str) F_w_cell :=
  F.fn (k := 0) KX G sc_w_cell (fun _ _ _ _ _ _ us hl => match us, hl with | [_, _], _ => rfl) fun f cdv A outer s H E hr =>
    have hu := hu40 hr
    have nd := sc_w_cell.nd
    (show JSs _ _ g_w_cell from
      (js_cons (js_set (i := 2) nd je_int)
      (js_cons (js_if (jt_cmp o_gt (je_callB c_len T.n_len b_len (ja_cons (je_var 0) ja_nil)) je_int) (js_one (js_set (i := 2) nd (je_ix (je_var 0) (je_op o_mod (je_var 1) (je_callB c_len T.n_len b_len (ja_cons (je_var 0) ja_nil)))))) js_nil)
      (js_cons (js_set (i := 2) nd (je_op o_mod (je_op o_dmul (je_op o_dadd (je_op o_dadd (je_op o_mod (je_var 2) je_int) (je_op o_dmul je_int (je_var 1))) je_int) je_int) je_int))
      (js_one (js_ret (je_op o_mod (je_op o_dmul (je_var 2) (je_op o_dadd (je_op o_dadd (je_op o_mod (je_var 2) je_int) (je_var 1)) je_int)) je_int)))))))
abbrev s_w_names : Stmt := top 55
theorem sc_w_names : FnScope [("_law_cell_here" : PySem.Str), ("_law_letters" : PySem.Str), ("_law_base" : PySem.Str), ("_law_at" : PySem.Str), ("_law_names_here" : PySem.Str), ("_law_k" : PySem.Str), ("_law_name" : PySem.Str)] [("_law_cell_here" : PySem.Str)] (defScope s_w_names) := ⟨rfl, rfl, rfl, by decide +kernel, rfl, by decide +kernel, by decide +kernel⟩
theorem fn_w_names {P : Program} {w : World} {K : PySem.W.Frag} {mg : Str → Option Value} {base h : Heap} (T : Tx K w.params mg) (F : Def K ("_law_names" : PySem.Str) s_w_names) (KX : K.In h) (G : h.Ns mainGlobals mg)  : Fn P w K mg base 1 ("_law_names" : PySem.Str) F_w_names :=
  F.fn (k := 0) KX G sc_w_names (fun _ _ _ _ _ _ us hl => match us, hl with | [_], _ => rfl) fun f cdv A outer s H E hr =>
    have hu := hu40 hr
    have nd := sc_w_names.nd
    (show JSs _ _ g_w_names from
      (js_cons (js_set (i := 1) nd je_str)
      (js_cons (js_comp (i := 2) rfl nd rfl rfl rfl (nT := 1) (cap := [1, 0]) (N' := [("_law_k" : PySem.Str), ("_law_letters" : PySem.Str), ("_law_cell_here" : PySem.Str)]) (compSc (by decide +kernel) rfl (by decide +kernel) rfl) (.cons rfl rfl (Or.inl rfl) (Or.inl rfl) (cl_look (by decide +kernel) rfl) (.cons rfl rfl (Or.inl rfl) (Or.inl rfl) (cl_look (by decide +kernel) rfl) (.nil rfl))) (ji_range T.n_range (je_op o_dadd je_int (je_op o_mod (je_var 0) je_int))) (fun _ _ _ _ => (pg_name (i := 0) (show List.Nodup [("_law_k" : PySem.Str), ("_law_letters" : PySem.Str), ("_law_cell_here" : PySem.Str)] by decide +kernel) rfl (Or.inl rfl))) (tge_name (by decide)) (fun _ _ _ _ => jc_nil) (fun _ _ _ _ => (je_ix (je_var 1) (je_op o_mod (je_op o_fdiv (je_var 2) (je_op o_dadd je_int (je_op o_dmul je_int (je_var 0)))) je_int))))
      (js_cons (js_set (i := 3) nd (je_op o_mod (je_op o_fdiv (je_var 0) je_int) (je_callB c_len T.n_len b_len (ja_cons (je_var 2) ja_nil))))
      (js_cons (js_set (i := 4) nd (je_lst ja_nil))
      (js_cons (js_forR PassesOwn.never rfl (jr_range T.n_range je_int) (pg_name (i := 5) nd rfl (Or.inl rfl)) tDG_name (js_cons (js_set (i := 6) nd (je_callTy c_list T.n_list b_list (ja_cons (je_var 2) ja_nil)))
      (js_cons (js_put (i := 6) (je_ix (je_var 1) (je_op o_mod (je_op o_dadd (je_op o_fdiv (je_var 0) je_int) (je_op o_dmul je_int (je_var 5))) je_int)) (je_var 3))
      (js_one (js_app (i := 4) (je_sm1 PySem.F.slot_str_join PySem.F.type_str_join m_join join_str je_str (je_var 6)))))))
      (js_cons (js_if (jt_cmp (o_eq hu) (je_op o_mod (je_op o_fdiv (je_var 0) je_int) je_int) je_int) (js_one (js_put (i := 4) (je_ix (je_var 4) je_int) je_int)) js_nil)
      (js_one (js_retV 4)))))))))
abbrev s_w_stretch : Stmt := top 56
theorem sc_w_stretch : FnScope [("_law_cell_here" : PySem.Str), ("_law_day" : PySem.Str), ("_law_measure" : PySem.Str), ("_law_some" : PySem.Str)] [("_law_cell_here" : PySem.Str), ("_law_day" : PySem.Str), ("_law_measure" : PySem.Str)] (defScope s_w_stretch) := ⟨rfl, rfl, rfl, by decide +kernel, rfl, by decide +kernel, by decide +kernel⟩
theorem fn_w_stretch {P : Program} {w : World} {K : PySem.W.Frag} {mg : Str → Option Value} {base h : Heap} (T : Tx K w.params mg) (F : Def K ("_law_stretch" : PySem.Str) s_w_stretch) (KX : K.In h) (G : h.Ns mainGlobals mg)  : Fn P w K mg base 1 ("_law_stretch" : PySem.Str) F_w_stretch :=
  F.fn (k := 0) KX G sc_w_stretch (fun _ _ _ _ _ _ us hl => match us, hl with | [_, _, _], _ => rfl) fun f cdv A outer s H E hr =>
    have hu := hu40 hr
    have nd := sc_w_stretch.nd
    (show JSs _ _ g_w_stretch from
      (js_cons (js_set (i := 3) nd (je_lst (ja_cons (je_tup (ja_cons je_int (ja_cons je_non ja_nil))) (ja_cons (je_tup (ja_cons (je_var 1) (ja_cons je_non ja_nil))) (ja_cons (je_tup (ja_cons (je_var 1) (ja_cons (je_op o_dadd (je_var 1) (je_op o_dmul je_int (je_var 2))) ja_nil))) (ja_cons (je_tup (ja_cons je_int (ja_cons (je_op o_dadd (je_var 1) (je_op o_dmul je_int (je_var 2))) ja_nil))) (ja_cons (je_tup (ja_cons je_int (ja_cons (je_op o_dmul je_int (je_var 2)) ja_nil))) ja_nil)))))))
      (js_cons (js_set (i := 3) nd (je_op o_dadd (je_var 3) (je_lst (ja_cons (je_tup (ja_cons (je_op o_dadd (je_var 1) (je_var 2)) (ja_cons (je_op o_dadd (je_var 1) (je_op o_dmul je_int (je_var 2))) ja_nil))) (ja_cons (je_tup (ja_cons (je_op o_fdiv (je_var 1) je_int) (ja_cons (je_op o_dadd (je_var 1) (je_op o_dmul je_int (je_var 2))) ja_nil))) (ja_cons (je_tup (ja_cons je_int (ja_cons je_non ja_nil))) ja_nil))))))
      (js_one (js_ret (je_ix (je_var 3) (je_op o_mod (je_var 0) je_int)))))))
abbrev s_w_deed : Stmt := top 57
theorem sc_w_deed : FnScope [("_law_many" : PySem.Str), ("_law_cell_here" : PySem.Str), ("_law_other" : PySem.Str), ("_law_names_here" : PySem.Str), ("_law_day" : PySem.Str), ("_law_had" : PySem.Str), ("_law_measure" : PySem.Str), ("_law_kinds" : PySem.Str), ("_law_word" : PySem.Str), ("_law_by" : PySem.Str), ("_law_person" : PySem.Str), ("_law_of" : PySem.Str), ("_law_matters" : PySem.Str), ("_law_further" : PySem.Str), ("_law_start" : PySem.Str)] [("_law_many" : PySem.Str), ("_law_cell_here" : PySem.Str), ("_law_other" : PySem.Str), ("_law_names_here" : PySem.Str), ("_law_day" : PySem.Str), ("_law_had" : PySem.Str), ("_law_measure" : PySem.Str)] (defScope s_w_deed) := ⟨rfl, rfl, rfl, by decide +kernel, rfl, by decide +kernel, by decide +kernel⟩
theorem fn_w_deed {P : Program} {w : World} {K : PySem.W.Frag} {mg : Str → Option Value} {base h : Heap} (T : Tx K w.params mg) (F : Def K ("_law_deed" : PySem.Str) s_w_deed) (KX : K.In h) (G : h.Ns mainGlobals mg) (f_w_stretch : Fn P w K mg base 1 ("_law_stretch" : PySem.Str) F_w_stretch) : Fn P w K mg base 2 ("_law_deed" : PySem.Str) F_w_deed :=
  F.fn (k := 1) KX G sc_w_deed (fun _ _ _ _ _ _ us hl => match us, hl with | [_, _, _, _, _, _, _], _ => rfl) fun f cdv A outer s H E hr =>
    have hu := hu40 hr
    have nd := sc_w_deed.nd
    (show JSs _ _ g_w_deed from
      (js_cons (js_set (i := 7) nd (je_op o_dadd (je_op o_dadd (je_op o_dadd (je_op o_dadd (je_rep (je_lst (ja_cons je_str ja_nil)) je_int) (je_rep (je_lst (ja_cons je_str ja_nil)) je_int)) (je_rep (je_lst (ja_cons je_str ja_nil)) je_int)) (je_rep (je_lst (ja_cons je_str ja_nil)) je_int)) (je_lst (ja_cons je_str (ja_cons je_str ja_nil)))))
      (js_cons (js_set (i := 8) nd (je_ix (je_var 7) (je_op o_mod (je_var 1) je_int)))
      (js_cons (js_set (i := 9) nd (je_ix (je_var 5) (je_op o_sub (je_un o_neg je_int) (je_op o_mod (je_op o_fdiv (je_var 1) je_int) (je_callB c_min T.n_min b_min (ja_cons je_int (ja_cons (je_callB c_len T.n_len b_len (ja_cons (je_var 5) ja_nil)) ja_nil)))))))
      (js_cons (js_if (jt_cmp (o_eq hu) (je_op o_mod (je_op o_fdiv (je_var 1) je_int) je_int) je_int) (js_one (js_set (i := 9) nd (je_ix (je_var 3) (je_op o_mod (je_op o_fdiv (je_var 1) je_int) je_int)))) js_nil)
      (js_cons (js_set (i := 10) nd (je_ix (je_var 3) (je_op o_mod (je_op o_fdiv (je_var 1) je_int) je_int)))
      (js_cons (js_set (i := 11) nd (je_callB c_max T.n_max b_max (ja_cons je_int (ja_cons (je_op o_sub (je_op o_sub (je_var 0) je_int) (je_op o_mod (je_var 2) je_int)) ja_nil))))
      (js_cons (js_if (jt_cmp (o_eq hu) (je_op o_mod (je_op o_fdiv (je_var 2) je_int) je_int) je_int) (js_one (js_set (i := 11) nd (je_op o_mod (je_op o_fdiv (je_var 2) je_int) je_int))) js_nil)
      (js_cons (js_if (jt_cmp (o_eq hu) (je_var 8) je_str) (js_cons (js_set (i := 12) nd (je_ix (je_lst (ja_cons je_int (ja_cons je_int (ja_cons je_int (ja_cons je_int (ja_cons je_int (ja_cons je_int (ja_cons je_int (ja_cons je_int ja_nil))))))))) (je_op o_mod (je_op o_fdiv (je_var 1) je_int) je_int)))
      (js_cons (js_set (i := 13) nd (je_op o_mod (je_op o_fdiv (je_var 2) je_int) (je_ix (je_lst (ja_cons je_int (ja_cons je_int (ja_cons je_int (ja_cons je_int ja_nil))))) (je_op o_mod (je_op o_fdiv (je_var 2) je_int) je_int))))
      (js_one (js_ret (je_tup (ja_cons (je_var 8) (ja_cons (je_var 4) (ja_cons (je_var 9) (ja_cons (je_var 10) (ja_cons (je_var 12) (ja_cons (je_call f_w_stretch (hr.mono (by decide)) (ja_cons (je_op o_fdiv (je_var 2) je_int) (ja_cons (je_var 4) (ja_cons (je_var 6) ja_nil)))) (ja_cons (je_var 13) ja_nil)))))))))))) js_nil)
      (js_cons (js_if (jt_w (jw_or (jt_cmp (o_eq hu) (je_var 8) je_str) (jw_or1 (jt_cmp (o_eq hu) (je_var 8) je_str)))) (js_cons (js_set (i := 12) nd (je_ix (je_lst (ja_cons je_int (ja_cons je_int (ja_cons je_int (ja_cons je_int (ja_cons je_int (ja_cons je_int (ja_cons je_int (ja_cons je_int ja_nil))))))))) (je_op o_mod (je_op o_fdiv (je_var 1) je_int) je_int)))
      (js_cons (js_set (i := 14) nd (je_tup (ja_cons (je_var 8) (ja_cons (je_var 4) (ja_cons (je_var 9) (ja_cons (je_var 12) (ja_cons (je_call f_w_stretch (hr.mono (by decide)) (ja_cons (je_op o_fdiv (je_var 2) je_int) (ja_cons (je_var 4) (ja_cons (je_var 6) ja_nil)))) (ja_cons (je_ix (je_lst (ja_cons je_non (ja_cons (je_var 10) ja_nil))) (je_op o_mod (je_op o_fdiv (je_var 2) je_int) je_int)) ja_nil))))))))
      (js_cons (js_if (jt_cmp (o_eq hu) (je_var 8) je_str) (js_one (js_ret (je_op o_tadd (je_var 14) (je_tup (ja_cons (je_var 11) (ja_cons (je_tup (ja_cons (je_tup (ja_cons je_int (ja_cons (je_var 10) ja_nil))) ja_nil)) ja_nil)))))) js_nil)
      (js_one (js_ret (je_op o_tadd (je_var 14) (je_tup (ja_cons (je_tup (ja_cons (je_var 10) ja_nil)) ja_nil)))))))) js_nil)
      (js_cons (js_if (jt_cmp o_din (je_var 8) (je_tup (ja_cons je_str (ja_cons je_str ja_nil)))) (js_one (js_ret (je_tup (ja_cons (je_var 8) (ja_cons (je_var 4) (ja_cons (je_var 9) (ja_cons (je_var 11) ja_nil))))))) js_nil)
      (js_cons (js_if (jt_cmp (o_eq hu) (je_var 8) je_str) (js_one (js_ret (je_tup (ja_cons (je_var 8) (ja_cons (je_var 4) (ja_cons (je_ix (je_var 3) (je_op o_dadd je_int (je_op o_mod (je_var 2) je_int))) (ja_cons (je_var 10) ja_nil))))))) js_nil)
      (js_cons (js_if (jt_cmp (o_eq hu) (je_var 8) je_str) (js_one (js_ret (je_tup (ja_cons (je_var 8) (ja_cons (je_var 4) (ja_cons (je_var 9) (ja_cons (je_ix (je_var 3) (je_op o_dadd je_int (je_op o_mod (je_var 2) je_int))) (ja_cons (je_var 10) (ja_cons (je_op o_dadd (je_var 4) (je_op o_dmul (je_op o_mod (je_op o_fdiv (je_var 2) je_int) je_int) (je_var 6))) ja_nil))))))))) js_nil)
      (js_cons (js_if (jt_cmp (o_eq hu) (je_var 8) je_str) (js_one (js_ret (je_tup (ja_cons (je_var 8) (ja_cons (je_var 4) (ja_cons (je_var 9) (ja_cons (je_ix (je_var 3) (je_op o_dadd je_int (je_op o_mod (je_var 2) je_int))) (ja_cons (je_var 10) ja_nil)))))))) js_nil)
      (js_one (js_ret (je_tup (ja_cons (je_var 8) (ja_cons (je_var 4) (ja_cons (je_var 9) ja_nil))))))))))))))))))))
abbrev s_w_rows : Stmt := top 58
theorem sc_w_rows : FnScope [("_law_script" : PySem.Str), ("_law_names_here" : PySem.Str), ("_law_measure" : PySem.Str), ("_law_most" : PySem.Str), ("_law_head" : PySem.Str), ("_law_rows_here" : PySem.Str), ("_law_had" : PySem.Str), ("_law_k" : PySem.Str), ("_law_rule" : PySem.Str), ("_law_matters" : PySem.Str), ("_law_late" : PySem.Str), ("_law_further" : PySem.Str), ("_law_cell_here" : PySem.Str), ("_law_day" : PySem.Str), ("_law_deed_here" : PySem.Str)] [("_law_script" : PySem.Str), ("_law_names_here" : PySem.Str), ("_law_measure" : PySem.Str), ("_law_most" : PySem.Str)] (defScope s_w_rows) := ⟨rfl, rfl, rfl, by decide +kernel, rfl, by decide +kernel, by decide +kernel⟩
theorem fn_w_rows {P : Program} {w : World} {K : PySem.W.Frag} {mg : Str → Option Value} {base h : Heap} (T : Tx K w.params mg) (F : Def K ("_law_rows" : PySem.Str) s_w_rows) (KX : K.In h) (G : h.Ns mainGlobals mg) (f_w_cell : Fn P w K mg base 1 ("_law_cell" : PySem.Str) F_w_cell) (f_w_deed : Fn P w K mg base 2 ("_law_deed" : PySem.Str) F_w_deed) : Fn P w K mg base 3 ("_law_rows" : PySem.Str) F_w_rows :=
  F.fn (k := 2) KX G sc_w_rows (fun _ _ _ _ _ _ us hl => match us, hl with | [_, _, _, _], _ => rfl) fun f cdv A outer s H E hr =>
    have hu := hu40 hr
    have nd := sc_w_rows.nd
    (show JSs _ _ g_w_rows from
      (js_cons (js_set (i := 4) nd (je_call f_w_cell (hr.mono (by decide)) (ja_cons (je_var 0) (ja_cons je_int ja_nil))))
      (js_cons (js_set (i := 5) nd (je_lst ja_nil))
      (js_cons (js_set (i := 6) nd (je_lst ja_nil))
      (js_cons (js_forR PassesOwn.never rfl (jr_range T.n_range (je_op o_dadd je_int (je_op o_mod (je_var 4) je_int))) (pg_name (i := 7) nd rfl (Or.inl rfl)) tDG_name (js_cons (js_set (i := 8) nd (je_ix (je_lst (ja_cons je_str (ja_cons je_str (ja_cons je_str ja_nil)))) (je_op o_mod (je_op o_fdiv (je_var 4) (je_op o_dadd je_int (je_op o_dmul je_int (je_var 7)))) je_int)))
      (js_cons (js_set (i := 9) nd (je_ix (je_lst (ja_cons je_int (ja_cons je_int (ja_cons je_int (ja_cons je_int ja_nil))))) (je_op o_mod (je_op o_fdiv (je_var 4) (je_op o_dadd je_int (je_op o_dmul je_int (je_var 7)))) je_int)))
      (js_cons (js_set (i := 10) nd (je_op o_dmul (je_op o_dmul (je_callTy c_int T.n_int b_int (ja_cons (je_cmp (o_eq hu) (je_op o_mod (je_op o_fdiv (je_var 4) (je_op o_dadd je_int (je_var 7))) je_int) je_int) ja_nil)) je_int) (je_var 2)))
      (js_cons (js_set (i := 11) nd (je_op o_mod (je_op o_fdiv (je_var 4) (je_op o_dadd je_int (je_op o_dmul je_int (je_var 7)))) (je_ix (je_lst (ja_cons je_int (ja_cons je_int (ja_cons je_int ja_nil)))) (je_op o_mod (je_op o_fdiv (je_var 4) (je_op o_dadd je_int (je_var 7))) je_int))))
      (js_cons (js_app (i := 5) (je_tup (ja_cons (je_var 10) (ja_cons (je_tup (ja_cons je_str (ja_cons (je_ix (je_var 1) (je_op o_dadd je_int (je_var 7))) (ja_cons (je_var 9) (ja_cons (je_var 11) (ja_cons (je_var 8) ja_nil)))))) ja_nil))))
      (js_cons (js_app (i := 5) (je_tup (ja_cons je_int (ja_cons (je_tup (ja_cons je_str (ja_cons je_int (ja_cons (je_ix (je_var 1) (je_op o_dadd je_int (je_var 7))) (ja_cons (je_ix (je_var 1) (je_var 7)) ja_nil))))) ja_nil))))
      (js_one (js_app (i := 6) (je_ix (je_var 1) (je_var 7)))))))))))
      (js_cons (js_forR PassesOwn.never rfl (jr_range T.n_range (je_op o_dadd je_int (je_op o_mod (je_call f_w_cell (hr.mono (by decide)) (ja_cons (je_var 0) (ja_cons je_int ja_nil))) (je_var 3)))) (pg_name (i := 7) nd rfl (Or.inl rfl)) tDG_name (js_cons (js_set (i := 12) nd (je_call f_w_cell (hr.mono (by decide)) (ja_cons (je_var 0) (ja_cons (je_op o_dadd je_int (je_var 7)) ja_nil))))
      (js_cons (js_set (i := 13) nd (je_op o_dmul (je_op o_dadd (je_op o_fdiv (je_var 7) je_int) (je_op o_mod (je_op o_fdiv (je_var 12) je_int) je_int)) (je_var 2)))
      (js_cons (js_set (i := 14) nd (je_call f_w_deed (hr.mono (by decide)) (ja_cons (je_callB c_len T.n_len b_len (ja_cons (je_var 5) ja_nil)) (ja_cons (je_call f_w_cell (hr.mono (by decide)) (ja_cons (je_var 0) (ja_cons (je_op o_dadd je_int (je_var 7)) ja_nil))) (ja_cons (je_call f_w_cell (hr.mono (by decide)) (ja_cons (je_var 0) (ja_cons (je_op o_dadd je_int (je_var 7)) ja_nil))) (ja_cons (je_var 1) (ja_cons (je_var 13) (ja_cons (je_var 6) (ja_cons (je_var 2) ja_nil)))))))))
      (js_cons (js_if (jt_cmp o_din (je_ix (je_var 14) je_int) (je_tup (ja_cons je_str (ja_cons je_str ja_nil)))) (js_one (js_app (i := 6) (je_ix (je_var 14) je_int))) js_nil)
      (js_cons (js_if (jt_cmp (o_eq hu) (je_ix (je_var 14) je_int) je_str) (js_one (js_app (i := 6) (je_ix (je_var 14) je_int))) js_nil)
      (js_one (js_app (i := 5) (je_tup (ja_cons (je_op o_dadd (je_var 13) (je_op o_dmul (je_ix (je_lst (ja_cons je_int (ja_cons je_int (ja_cons je_int (ja_cons je_int (ja_cons je_int (ja_cons je_int ja_nil))))))) (je_op o_mod (je_op o_fdiv (je_var 12) je_int) je_int)) (je_var 2))) (ja_cons (je_var 14) ja_nil)))))))))))
      (js_one (js_ret (je_callTy c_tuple T.n_tuple b_tuple (ja_cons (je_var 5) ja_nil))))))))))
abbrev s_w_ahead : Stmt := top 59
theorem sc_w_ahead : FnScope [("_law_rows_here" : PySem.Str), ("_law_one" : PySem.Str), ("_law_other" : PySem.Str)] [("_law_rows_here" : PySem.Str), ("_law_one" : PySem.Str), ("_law_other" : PySem.Str)] (defScope s_w_ahead) := ⟨rfl, rfl, rfl, by decide +kernel, rfl, by decide +kernel, by decide +kernel⟩
theorem fn_w_ahead {P : Program} {w : World} {K : PySem.W.Frag} {mg : Str → Option Value} {base h : Heap} (T : Tx K w.params mg) (F : Def K ("_law_ahead" : PySem.Str) s_w_ahead) (KX : K.In h) (G : h.Ns mainGlobals mg)  : Fn P w K mg base 1 ("_law_ahead" : PySem.Str) F_w_ahead :=
  F.fn (k := 0) KX G sc_w_ahead (fun _ _ _ _ _ _ us hl => match us, hl with | [_, _, _], _ => rfl) fun f cdv A outer s H E hr =>
    have hu := hu40 hr
    have nd := sc_w_ahead.nd
    (show JSs _ _ g_w_ahead from
      (js_one (js_ret (je_cmp (o_tlt hu) (je_tup (ja_cons (je_ix (je_ix (je_ix (je_var 0) (je_var 1)) je_int) je_int) (ja_cons (je_var 1) ja_nil))) (je_tup (ja_cons (je_ix (je_ix (je_ix (je_var 0) (je_var 2)) je_int) je_int) (ja_cons (je_var 2) ja_nil)))))))
abbrev s_w_due : Stmt := top 60
theorem sc_w_due : FnScope [("_law_rows_here" : PySem.Str), ("_law_known" : PySem.Str), ("_law_number" : PySem.Str), ("_law_there" : PySem.Str), ("_law_deed_here" : PySem.Str), ("_law_before" : PySem.Str), ("_law_row" : PySem.Str)] [("_law_rows_here" : PySem.Str), ("_law_known" : PySem.Str), ("_law_number" : PySem.Str)] (defScope s_w_due) := ⟨rfl, rfl, rfl, by decide +kernel, rfl, by decide +kernel, by decide +kernel⟩
theorem fn_w_due {P : Program} {w : World} {K : PySem.W.Frag} {mg : Str → Option Value} {base h : Heap} (T : Tx K w.params mg) (F : Def K ("_law_due" : PySem.Str) s_w_due) (KX : K.In h) (G : h.Ns mainGlobals mg) (f_w_ahead : Fn P w K mg base 1 ("_law_ahead" : PySem.Str) F_w_ahead) : Fn P w K mg base 2 ("_law_due" : PySem.Str) F_w_due :=
  F.fn (k := 1) KX G sc_w_due (fun _ _ _ _ _ _ us hl => match us, hl with | [_, _, _], _ => rfl) fun f cdv A outer s H E hr =>
    have hu := hu40 hr
    have nd := sc_w_due.nd
    (show JSs _ _ g_w_due from
      (js_cons (js_setT (is := [3, 4]) (je_ix (je_var 0) (je_var 2)) (pg_seq rfl (pgs_cons (pg_name (i := 3) nd rfl (Or.inl rfl)) (pgs_cons (pg_name (i := 4) nd rfl (Or.inl rfl)) pgs_nil))))
      (js_cons (js_if (jt_w (jw_or (jt_cmp o_gt (je_var 3) (je_var 1)) (jw_or (jt_cmp (o_ne hu) (je_ix (je_var 4) je_int) je_str) (jw_or1 (jt_cmp o_ge (je_ix (je_var 4) je_int) (je_callB c_len T.n_len b_len (ja_cons (je_var 0) ja_nil))))))) (js_one (js_ret (je_lst ja_nil))) js_nil)
      (js_cons (js_setT (is := [5, 6]) (je_ix (je_var 0) (je_ix (je_var 4) je_int)) (pg_seq rfl (pgs_cons (pg_name (i := 5) nd rfl (Or.inl rfl)) (pgs_cons (pg_name (i := 6) nd rfl (Or.inl rfl)) pgs_nil))))
      (js_cons (js_if (jt_w (jw_or (jt_cmp o_gt (je_var 5) (je_var 1)) (jw_or (jt_cmp o_dnotin (je_ix (je_var 6) je_int) (je_tup (ja_cons je_str (ja_cons je_str (ja_cons je_str ja_nil))))) (jw_or1 (jt_not (jt_val (je_call f_w_ahead (hr.mono (by decide)) (ja_cons (je_var 0) (ja_cons (je_ix (je_var 4) je_int) (ja_cons (je_var 2) ja_nil)))))))))) (js_one (js_ret (je_lst ja_nil))) js_nil)
      (js_one (js_ret (je_lst (ja_cons (je_tup (ja_cons je_str (ja_cons (je_ix (je_var 4) je_int) ja_nil))) ja_nil)))))))))
abbrev s_law : Stmt := top 61
theorem sc_law : FnScope [("_law_script" : PySem.Str), ("_law_names_here" : PySem.Str), ("_law_measure" : PySem.Str), ("_law_rows_here" : PySem.Str), ("_law_known" : PySem.Str), ("_law_number" : PySem.Str), ("_law_due_here" : PySem.Str), ("_law_turn" : PySem.Str), ("_law_found" : PySem.Str), ("_law_base" : PySem.Str)] [("_law_script" : PySem.Str)] (defScope s_law) := ⟨rfl, rfl, rfl, by decide +kernel, rfl, by decide +kernel, by decide +kernel⟩
theorem js_law {P : Program} {w : World} {K : PySem.W.Frag} {mg : Str → Option Value} {base : Heap} (T : Tx K w.params mg) (f_bases : Fn P w K mg base 10 ("bases" : PySem.Str) F_bases) (f_w_cell : Fn P w K mg base 1 ("_law_cell" : PySem.Str) F_w_cell) (f_w_names : Fn P w K mg base 1 ("_law_names" : PySem.Str) F_w_names) (f_w_rows : Fn P w K mg base 3 ("_law_rows" : PySem.Str) F_w_rows) (f_w_due : Fn P w K mg base 2 ("_law_due" : PySem.Str) F_w_due) (f : Addr) (cdv : Value) (A : Around) (outer : List PySem.Env) (s : Shared) (H : Hp) (E : XK) (hr : Room 10 (A.deeper (envOfC "law" (defScope s_law) s.heap.objs.size f cdv))) : JSs (cxOf CX0 P w K mg base [("_law_script" : PySem.Str), ("_law_names_here" : PySem.Str), ("_law_measure" : PySem.Str), ("_law_rows_here" : PySem.Str), ("_law_known" : PySem.Str), ("_law_number" : PySem.Str), ("_law_due_here" : PySem.Str), ("_law_turn" : PySem.Str), ("_law_found" : PySem.Str), ("_law_base" : PySem.Str)] "law" (defScope s_law) f cdv A outer s H E).nox (defBody s_law) g_law :=
    have hu := hu40 hr
    have nd := sc_law.nd
    (show JSs _ _ g_law from
      (js_cons (js_set (i := 1) nd (je_call f_w_names (hr.mono (by decide)) (ja_cons (je_call f_w_cell (hr.mono (by decide)) (ja_cons (je_var 0) (ja_cons je_int ja_nil))) ja_nil)))
      (js_cons (js_set (i := 2) nd (je_ix (je_lst (ja_cons je_int (ja_cons je_int (ja_cons je_int ja_nil)))) (je_op o_mod (je_call f_w_cell (hr.mono (by decide)) (ja_cons (je_var 0) (ja_cons je_int ja_nil))) je_int)))
      (js_cons (js_set (i := 3) nd (je_call f_w_rows (hr.mono (by decide)) (ja_cons (je_var 0) (ja_cons (je_var 1) (ja_cons (je_var 2) (ja_cons je_int ja_nil))))))
      (js_cons (js_set (i := 4) nd (je_ix (je_lst (ja_cons je_int (ja_cons (je_op o_dmul (je_op o_mod (je_op o_fdiv (je_call f_w_cell (hr.mono (by decide)) (ja_cons (je_var 0) (ja_cons je_int ja_nil))) je_int) je_int) (je_var 2)) ja_nil))) (je_op o_fdiv (je_op o_mod (je_call f_w_cell (hr.mono (by decide)) (ja_cons (je_var 0) (ja_cons je_int ja_nil))) je_int) je_int)))
      (js_cons (js_forR PassesOwn.never rfl (jr_range T.n_range (je_callB c_len T.n_len b_len (ja_cons (je_var 3) ja_nil))) (pg_name (i := 5) nd rfl (Or.inl rfl)) tDG_name (js_one (js_if (jt_w (jw_or (jt_cmp o_gt (je_ix (je_ix (je_var 3) (je_var 5)) je_int) (je_var 4)) (jw_or1 (jt_cmp o_dnotin (je_ix (je_ix (je_ix (je_var 3) (je_var 5)) je_int) je_int) (je_tup (ja_cons je_str (ja_cons je_str (ja_cons je_str ja_nil)))))))) (js_cons (js_set (i := 6) nd (je_call f_w_due (hr.mono (by decide)) (ja_cons (je_var 3) (ja_cons (je_var 4) (ja_cons (je_var 5) ja_nil)))))
      (js_one (js_forR PassesOwn.never rfl (jr_range T.n_range je_int) (pg_name (i := 7) nd rfl (Or.inl rfl)) tDG_name (js_cons (js_set (i := 8) nd (je_call f_bases (hr.mono (by decide)) (ja_cons (je_var 3) (ja_cons (je_var 4) (ja_cons (je_var 5) ja_nil)))))
      (js_cons (js_if (jt_w (jw_or (jt_not (jt_val (je_callB c_isinstance T.n_isinstance b_isinstance (ja_cons (je_var 8) (ja_cons (je_ty T.n_list b_list) ja_nil))))) (jw_or1 (jt_cmp (o_ne hu) (je_var 8) (je_var 6))))) (js_one (js_ret je_bl)) js_nil)
      (js_cons (js_allF (i := 8) (sx := 9) PassesOwn.never rfl nd (jt_w (jw_or (jt_not (jt_val (je_callB c_isinstance T.n_isinstance b_isinstance (ja_cons (je_var 9) (ja_cons (je_ty T.n_tuple b_tuple) ja_nil))))) (jw_or1 (jt_val (je_callB c_isinstance T.n_isinstance b_isinstance (ja_cons (je_ix (je_var 9) je_int) (ja_cons (je_ty T.n_bool b_bool) ja_nil))))))) (js_one (js_ret je_bl)))
      (js_one (js_app (i := 8) (je_tup (ja_cons je_str (ja_cons je_int ja_nil))))))))))) js_nil)))
      (js_one (js_ret je_bl))))))))
theorem head {P : Program} {w : World} {K : PySem.W.Frag} {h : Heap} {mg : Str → Option Value} {fa : Addr} (X : K.In h) (G : h.Ns mainGlobals mg) (hfa : mg "law" = some (.ref fa))
    (d_word_of : Def K ("word_of" : PySem.Str) s_word_of) (d_part_of : Def K ("part_of" : PySem.Str) s_part_of) (d_day_of : Def K ("day_of" : PySem.Str) s_day_of) (d_heard : Def K ("heard" : PySem.Str) s_heard) (d_rank : Def K ("rank" : PySem.Str) s_rank) (d_in_order : Def K ("in_order" : PySem.Str) s_in_order) (d_by_office : Def K ("by_office" : PySem.Str) s_by_office) (d_roots : Def K ("roots" : PySem.Str) s_roots) (d_counts : Def K ("counts" : PySem.Str) s_counts) (d_new_claim : Def K ("new_claim" : PySem.Str) s_new_claim) (d_claims : Def K ("claims" : PySem.Str) s_claims) (d_is_known : Def K ("is_known" : PySem.Str) s_is_known) (d_is_paper : Def K ("is_paper" : PySem.Str) s_is_paper) (d_is_leave : Def K ("is_leave" : PySem.Str) s_is_leave) (d_is_borne : Def K ("is_borne" : PySem.Str) s_is_borne) (d_is_ahead : Def K ("is_ahead" : PySem.Str) s_is_ahead) (d_copy_bases : Def K ("copy_bases" : PySem.Str) s_copy_bases) (d_bases_by : Def K ("bases_by" : PySem.Str) s_bases_by) (d_bases : Def K ("bases" : PySem.Str) s_bases) (d_w_cell : Def K ("_law_cell" : PySem.Str) s_w_cell) (d_w_names : Def K ("_law_names" : PySem.Str) s_w_names) (d_w_stretch : Def K ("_law_stretch" : PySem.Str) s_w_stretch) (d_w_deed : Def K ("_law_deed" : PySem.Str) s_w_deed) (d_w_rows : Def K ("_law_rows" : PySem.Str) s_w_rows) (d_w_ahead : Def K ("_law_ahead" : PySem.Str) s_w_ahead) (d_w_due : Def K ("_law_due" : PySem.Str) s_w_due) (d_law : Def K ("law" : PySem.Str) s_law)
    (z_bool : PySem.W.nsIn K mainGlobals ("bool" : PySem.Str) = some none) (z_dict : PySem.W.nsIn K mainGlobals ("dict" : PySem.Str) = some none) (z_enumerate : PySem.W.nsIn K mainGlobals ("enumerate" : PySem.Str) = some none) (z_int : PySem.W.nsIn K mainGlobals ("int" : PySem.Str) = some none) (z_isinstance : PySem.W.nsIn K mainGlobals ("isinstance" : PySem.Str) = some none) (z_len : PySem.W.nsIn K mainGlobals ("len" : PySem.Str) = some none) (z_list : PySem.W.nsIn K mainGlobals ("list" : PySem.Str) = some none) (z_max : PySem.W.nsIn K mainGlobals ("max" : PySem.Str) = some none) (z_min : PySem.W.nsIn K mainGlobals ("min" : PySem.Str) = some none) (z_range : PySem.W.nsIn K mainGlobals ("range" : PySem.Str) = some none) (z_sorted : PySem.W.nsIn K mainGlobals ("sorted" : PySem.Str) = some none) (z_tuple : PySem.W.nsIn K mainGlobals ("tuple" : PySem.Str) = some none)
    (k_PAPERS : ∃ u v, PySem.W.nsIn K mainGlobals ("PAPERS" : PySem.Str) = some (some u) ∧ RelV v u ∧ ∀ B, Is K B v c_PAPERS) (k_PARTS : ∃ d, PySem.W.nsIn K mainGlobals ("PARTS" : PySem.Str) = some (some (.ref d)) ∧ CDict K w.params d c_PARTS)
    (l_in_order : LamK K ("in_order" : PySem.Str)) (l_bases_by : LamK K ("bases_by" : PySem.Str)) :
    ∃ fd : FuncData, (∀ (s : Shared) (u : Value), BindsTo s fd ⟨[u], []⟩ [(("_law_script" : PySem.Str), u)]) ∧ ∀ base : Heap, K.In base → base.Ns mainGlobals mg → FnOk P w K mg base CX0 11 fa fd [("_law_script" : PySem.Str)] (spD K F_law) := by
  have T : Tx K w.params mg := ⟨PySem.W.mg_none_of X G z_bool, PySem.W.mg_none_of X G z_dict, PySem.W.mg_none_of X G z_enumerate, PySem.W.mg_none_of X G z_int, PySem.W.mg_none_of X G z_isinstance, PySem.W.mg_none_of X G z_len, PySem.W.mg_none_of X G z_list, PySem.W.mg_none_of X G z_max, PySem.W.mg_none_of X G z_min, PySem.W.mg_none_of X G z_range, PySem.W.mg_none_of X G z_sorted, PySem.W.mg_none_of X G z_tuple, (let ⟨u, v, e, r⟩ := k_PAPERS; ⟨u, v, PySem.W.mg_of X G e, r⟩), (let ⟨d, e, r⟩ := k_PARTS; ⟨d, PySem.W.mg_of X G e, r⟩)⟩
  refine Def.law d_law X G hfa sc_law (fun _ _ _ _ _ _ u => rfl) fun base kb nb => ?_
  have f_word_of := fn_word_of (P := P) (w := w) (base := base) T d_word_of X G 
  have f_part_of := fn_part_of (P := P) (w := w) (base := base) T d_part_of X G f_word_of
  have f_day_of := fn_day_of (P := P) (w := w) (base := base) T d_day_of X G f_word_of f_part_of
  have f_heard := fn_heard (P := P) (w := w) (base := base) T d_heard X G 
  have f_rank := fn_rank (P := P) (w := w) (base := base) T d_rank X G f_day_of
  have f_in_order := fn_in_order (P := P) (w := w) (base := base) T d_in_order X G f_day_of f_heard f_rank l_in_order
  have f_by_office := fn_by_office (P := P) (w := w) (base := base) T d_by_office X G 
  have f_roots := fn_roots (P := P) (w := w) (base := base) T d_roots X G f_word_of f_part_of f_heard
  have f_counts := fn_counts (P := P) (w := w) (base := base) T d_counts X G f_word_of f_part_of f_roots
  have f_new_claim := fn_new_claim (P := P) (w := w) (base := base) T d_new_claim X G f_part_of
  have f_claims := fn_claims (P := P) (w := w) (base := base) T d_claims X G f_word_of f_part_of f_day_of f_in_order f_by_office f_counts f_new_claim
  have f_is_known := fn_is_known (P := P) (w := w) (base := base) T d_is_known X G 
  have f_is_paper := fn_is_paper (P := P) (w := w) (base := base) T d_is_paper X G f_word_of f_is_known
  have f_is_leave := fn_is_leave (P := P) (w := w) (base := base) T d_is_leave X G f_word_of f_is_known
  have f_is_borne := fn_is_borne (P := P) (w := w) (base := base) T d_is_borne X G f_is_paper f_is_leave
  have f_is_ahead := fn_is_ahead (P := P) (w := w) (base := base) T d_is_ahead X G f_rank
  have f_copy_bases := fn_copy_bases (P := P) (w := w) (base := base) T d_copy_bases X G f_part_of f_is_ahead f_is_paper
  have f_bases_by := fn_bases_by (P := P) (w := w) (base := base) T d_bases_by X G f_word_of f_is_borne f_copy_bases l_bases_by
  have f_bases := fn_bases (P := P) (w := w) (base := base) T d_bases X G f_claims f_bases_by
  have f_w_cell := fn_w_cell (P := P) (w := w) (base := base) T d_w_cell X G 
  have f_w_names := fn_w_names (P := P) (w := w) (base := base) T d_w_names X G 
  have f_w_stretch := fn_w_stretch (P := P) (w := w) (base := base) T d_w_stretch X G 
  have f_w_deed := fn_w_deed (P := P) (w := w) (base := base) T d_w_deed X G f_w_stretch
  have f_w_rows := fn_w_rows (P := P) (w := w) (base := base) T d_w_rows X G f_w_cell f_w_deed
  have f_w_ahead := fn_w_ahead (P := P) (w := w) (base := base) T d_w_ahead X G 
  have f_w_due := fn_w_due (P := P) (w := w) (base := base) T d_w_due X G f_w_ahead
  exact js_law T f_bases f_w_cell f_w_names f_w_rows f_w_due
end Lw
def PySem.W.Fast.tw3644435044854002465 : Unit := ()
def PySem.W.Fast.tw16554245014522497941 : Unit := ()
def PySem.W.Fast.tw18232429609014171100 : Unit := ()
def PySem.W.Fast.tw7710572205162001067 : Unit := ()
def PySem.W.Fast.tw15630680628549012292 : Unit := ()
def PySem.W.Fast.tw7626303515138759020 : Unit := ()
def PySem.W.Fast.tw11339111723056033247 : Unit := ()
def PySem.W.Fast.tw4151401329769668555 : Unit := ()
def PySem.W.Fast.tw15360456757812701570 : Unit := ()
def PySem.W.Fast.tw4700411511066127473 : Unit := ()
def PySem.W.Fast.tw11970168951377452996 : Unit := ()
def PySem.W.Fast.tw1209777151113818134 : Unit := ()
def PySem.W.Fast.tw12406134623602046336 : Unit := ()
def PySem.W.Fast.tw6540481158286636663 : Unit := ()
def PySem.W.Fast.tw1385388716523928046 : Unit := ()
def PySem.W.Fast.tw613742497021283191 : Unit := ()
def PySem.W.Fast.tw3653639244995283296 : Unit := ()
def PySem.W.Fast.tw9857460101053080792 : Unit := ()
def PySem.W.Fast.tw3709204243707868634 : Unit := ()
def PySem.W.Fast.tw16100178120620975277 : Unit := ()
def PySem.W.Fast.tw7423453139753952312 : Unit := ()
def PySem.W.Fast.tw17031806075534984261 : Unit := ()
def PySem.W.Fast.tw3900842851618698516 : Unit := ()
def PySem.W.Fast.tw16934448040154223878 : Unit := ()
def PySem.W.Fast.tw14925019593110649962 : Unit := ()
def PySem.W.Fast.tw18370578701352975643 : Unit := ()
def PySem.W.Fast.tw587545871088087928 : Unit := ()
def PySem.W.Fast.tw12281244766043944930 : Unit := ()
def PySem.W.Fast.tw14317569614099078565 : Unit := ()
def PySem.W.Fast.tw3872814599807445997 : Unit := ()
def PySem.W.Fast.tw14651021827482263931 : Unit := ()
def PySem.W.Fast.tw17557773480243879934 : Unit := ()
def PySem.W.Fast.tw17938466188838744051 : Unit := ()
def PySem.W.Fast.tw3528876328489584891 : Unit := ()
def PySem.W.Fast.tw11325936899093089092 : Unit := ()
def PySem.W.Fast.tw16236156654034667620 : Unit := ()
def PySem.W.Fast.tw15099990671275877112 : Unit := ()
def PySem.W.Fast.tw2620755123818067885 : Unit := ()
def PySem.W.Fast.tw13339651139805087867 : Unit := ()
def PySem.W.Fast.tw246582038350923333 : Unit := ()
def PySem.W.Fast.tw15014305350455448540 : Unit := ()
def PySem.W.Fast.tw4063540039138395193 : Unit := ()
def PySem.W.Fast.tw18099592141261187269 : Unit := ()
def PySem.W.Fast.tw1996099526035912709 : Unit := ()
def PySem.W.Fast.tw9701220135576146004 : Unit := ()
def PySem.W.Fast.tw12641678072982611158 : Unit := ()
def PySem.W.Fast.tw7756990051311848207 : Unit := ()
def PySem.W.Fast.tw12621903068599021838 : Unit := ()
def PySem.W.Fast.tw16700212625442486854 : Unit := ()
def PySem.W.Fast.tw8347898341466382475 : Unit := ()
def PySem.W.Fast.tw9376477811100876957 : Unit := ()
def PySem.W.Fast.tw7673634261823964521 : Unit := ()
def PySem.W.Fast.tw8109952770109679320 : Unit := ()
def PySem.W.Fast.tw11083284518146431398 : Unit := ()
def PySem.W.Fast.tw4036827294336813810 : Unit := ()
def PySem.W.Fast.tw12132801789613073644 : Unit := ()
def PySem.W.Fast.tw12126277598856718737 : Unit := ()
def PySem.W.Fast.tw8795908385596585886 : Unit := ()
def PySem.W.Fast.tw16286447270495487049 : Unit := ()
def PySem.W.Fast.tw7477600969084523289 : Unit := ()
def PySem.W.Fast.tw5673031953565754779 : Unit := ()
def PySem.W.Fast.tw8749121100133975092 : Unit := ()
def PySem.W.Fast.tw10542747928072745788 : Unit := ()
def PySem.W.Fast.tw12923688906040179724 : Unit := ()
def PySem.W.Fast.tw4430404329010526961 : Unit := ()
def PySem.W.Fast.tw15846445042531468007 : Unit := ()
def PySem.W.Fast.tw419207827097890923 : Unit := ()
def PySem.W.Fast.tw12814988806922893606 : Unit := ()
def PySem.W.Fast.tw9774049594496597802 : Unit := ()
def PySem.W.Fast.tw4047600766846795965 : Unit := ()
def PySem.W.Fast.tw9051809617456308631 : Unit := ()
def PySem.W.Fast.tw18064819666328475389 : Unit := ()
def PySem.W.Fast.tw11617189069496245388 : Unit := ()
def PySem.W.Fast.tw8048048463880836984 : Unit := ()
def PySem.W.Fast.tw12683320399167311712 : Unit := ()
def PySem.W.Fast.tw12719677189106209177 : Unit := ()
def PySem.W.Fast.tw6227312586706737178 : Unit := ()
def PySem.W.Fast.tw16036928973600268682 : Unit := ()
def PySem.W.Fast.tw4828740376326321231 : Unit := ()
def PySem.W.Fast.tw17991907145785353772 : Unit := ()
def PySem.W.Fast.tw839647037131080075 : Unit := ()
def PySem.W.Fast.tw91255482477316316 : Unit := ()
def PySem.W.Fast.tw912109852959361456 : Unit := ()
def PySem.W.Fast.tw8728071717299392199 : Unit := ()
def PySem.W.Fast.tw13099543096729423911 : Unit := ()
def PySem.W.Fast.tw1958196044440570494 : Unit := ()
def PySem.W.Fast.tw9460243113082526259 : Unit := ()
def PySem.W.Fast.tw5783760353487881431 : Unit := ()
def PySem.W.Fast.tw2396785180427208947 : Unit := ()
def PySem.W.Fast.tw15723494243218329732 : Unit := ()
def PySem.W.Fast.tw6161874231771444443 : Unit := ()
def PySem.W.Fast.tw4184976284337353154 : Unit := ()
def PySem.W.Fast.tw2801787213583424623 : Unit := ()
def PySem.W.Fast.tw7573862111253336269 : Unit := ()
def PySem.W.Fast.tw11069904991123327224 : Unit := ()
def PySem.W.Fast.tw4583273810130184638 : Unit := ()
def PySem.W.Fast.tw2837650560938244525 : Unit := ()
def PySem.W.Fast.tw7226527863903577142 : Unit := ()
def PySem.W.Fast.tw10445870371698271582 : Unit := ()
def PySem.W.Fast.tw5827280420499061202 : Unit := ()
def PySem.W.Fast.tw16681708924550807603 : Unit := ()
def PySem.W.Fast.tw2480102453110788099 : Unit := ()
def PySem.W.Fast.tw3817335269814658425 : Unit := ()
def PySem.W.Fast.tw11716522648811002270 : Unit := ()
def PySem.W.Fast.tw9916573942202682033 : Unit := ()
def PySem.W.Fast.tw13720183401790569973 : Unit := ()
def PySem.W.Fast.tw12190826388607917906 : Unit := ()
def PySem.W.Fast.tw14198464317665939560 : Unit := ()
def PySem.W.Fast.tw1007915060847334354 : Unit := ()
open PySem PySem.W PyProof.Rows
set_option maxRecDepth 100000 in
set_option maxHeartbeats 0 in
theorem PySem.Challenge.cw_sealchain_k24_bases_of_copies_holds : PySem.Challenge.rw_sealchain_k24_bases_of_copies.Holds := by
  w_on; o_law; k_head; (case hw => w_witness2)
  k_fill
  refine' DL.walkD (l := PySem.Challenge.rw_sealchain_k24_bases_of_copies) (k := 11) (x := ("_law_script" : PySem.Str)) (f := Lw.F_law) (L := [(("in_order" : PySem.Str), ?t0), (("has_seal" : PySem.Str), ?t1), (("is_first_death" : PySem.Str), ?t2), (("bases_by" : PySem.Str), ?t3)]) rfl rfl ⟨rfl, by decide, by decide⟩ (fun w h Y => PySem.W.km_in_of Y) ?T ?D ?F Lw.law_true
  case T =>
    intro w
    refine' DL.tabs_fit ?h0 ?h1 ?h2 ?h3 ?ap ?nt
    (case h0 => refine' DL.tab_yes ?a ?l ?c ?m ?v; (case a => k_is); (case l => k_is); (case c => exact rfl); (case m => k_is); (case v => exact rfl))
    (case h1 => refine' DL.tab_yes ?a ?l ?c ?m ?v; (case a => k_is); (case l => k_is); (case c => exact rfl); (case m => k_is); (case v => exact rfl))
    (case h2 => refine' DL.tab_yes ?a ?l ?c ?m ?v; (case a => k_is); (case l => k_is); (case c => exact rfl); (case m => k_is); (case v => exact rfl))
    (case h3 => refine' DL.tab_yes ?a ?l ?c ?m ?v; (case a => k_is); (case l => k_is); (case c => exact rfl); (case m => k_is); (case v => exact rfl))
    (case ap => decide)
    (case nt => kernel_rfl)
  case D => kernel_rfl
  case F =>
    intro w mg fa h KX G hmg
    refine' Lw.head KX G hmg ?d0 ?d1 ?d2 ?d3 ?d4 ?d5 ?d6 ?d7 ?d8 ?d9 ?d10 ?d11 ?d12 ?d13 ?d14 ?d15 ?d16 ?d17 ?d18 ?d19 ?d20 ?d21 ?d22 ?d23 ?d24 ?d25 ?d26 ?z0 ?z1 ?z2 ?z3 ?z4 ?z5 ?z6 ?z7 ?z8 ?z9 ?z10 ?z11 ?k0 ?k1 ?q0 ?q1
    (case d0 => refine' DL.def_mk ?a ?l ?c ?k; (case a => k_is); (case l => k_is); (case c => k_is); (case k => k_is))
    (case d1 => refine' DL.def_mk ?a ?l ?c ?k; (case a => k_is); (case l => k_is); (case c => k_is); (case k => k_is))
    (case d2 => refine' DL.def_mk ?a ?l ?c ?k; (case a => k_is); (case l => k_is); (case c => k_is); (case k => k_is))
    (case d3 => refine' DL.def_mk ?a ?l ?c ?k; (case a => k_is); (case l => k_is); (case c => k_is); (case k => k_is))
    (case d4 => refine' DL.def_mk ?a ?l ?c ?k; (case a => k_is); (case l => k_is); (case c => k_is); (case k => k_is))
    (case d5 => refine' DL.def_mk ?a ?l ?c ?k; (case a => k_is); (case l => k_is); (case c => k_is); (case k => k_is))
    (case d6 => refine' DL.def_mk ?a ?l ?c ?k; (case a => k_is); (case l => k_is); (case c => k_is); (case k => k_is))
    (case d7 => refine' DL.def_mk ?a ?l ?c ?k; (case a => k_is); (case l => k_is); (case c => k_is); (case k => k_is))
    (case d8 => refine' DL.def_mk ?a ?l ?c ?k; (case a => k_is); (case l => k_is); (case c => k_is); (case k => k_is))
    (case d9 => refine' DL.def_mk ?a ?l ?c ?k; (case a => k_is); (case l => k_is); (case c => k_is); (case k => k_is))
    (case d10 => refine' DL.def_mk ?a ?l ?c ?k; (case a => k_is); (case l => k_is); (case c => k_is); (case k => k_is))
    (case d11 => refine' DL.def_mk ?a ?l ?c ?k; (case a => k_is); (case l => k_is); (case c => k_is); (case k => k_is))
    (case d12 => refine' DL.def_mk ?a ?l ?c ?k; (case a => k_is); (case l => k_is); (case c => k_is); (case k => k_is))
    (case d13 => refine' DL.def_mk ?a ?l ?c ?k; (case a => k_is); (case l => k_is); (case c => k_is); (case k => k_is))
    (case d14 => refine' DL.def_mk ?a ?l ?c ?k; (case a => k_is); (case l => k_is); (case c => k_is); (case k => k_is))
    (case d15 => refine' DL.def_mk ?a ?l ?c ?k; (case a => k_is); (case l => k_is); (case c => k_is); (case k => k_is))
    (case d16 => refine' DL.def_mk ?a ?l ?c ?k; (case a => k_is); (case l => k_is); (case c => k_is); (case k => k_is))
    (case d17 => refine' DL.def_mk ?a ?l ?c ?k; (case a => k_is); (case l => k_is); (case c => k_is); (case k => k_is))
    (case d18 => refine' DL.def_mk ?a ?l ?c ?k; (case a => k_is); (case l => k_is); (case c => k_is); (case k => k_is))
    (case d19 => refine' DL.def_mk ?a ?l ?c ?k; (case a => k_is); (case l => k_is); (case c => k_is); (case k => k_is))
    (case d20 => refine' DL.def_mk ?a ?l ?c ?k; (case a => k_is); (case l => k_is); (case c => k_is); (case k => k_is))
    (case d21 => refine' DL.def_mk ?a ?l ?c ?k; (case a => k_is); (case l => k_is); (case c => k_is); (case k => k_is))
    (case d22 => refine' DL.def_mk ?a ?l ?c ?k; (case a => k_is); (case l => k_is); (case c => k_is); (case k => k_is))
    (case d23 => refine' DL.def_mk ?a ?l ?c ?k; (case a => k_is); (case l => k_is); (case c => k_is); (case k => k_is))
    (case d24 => refine' DL.def_mk ?a ?l ?c ?k; (case a => k_is); (case l => k_is); (case c => k_is); (case k => k_is))
    (case d25 => refine' DL.def_mk ?a ?l ?c ?k; (case a => k_is); (case l => k_is); (case c => k_is); (case k => k_is))
    (case d26 => refine' DL.def_mk ?a ?l ?c ?k; (case a => k_is); (case l => k_is); (case c => k_is); (case k => k_is))
    (case z0 => k_is)
    (case z1 => k_is)
    (case z2 => k_is)
    (case z3 => k_is)
    (case z4 => k_is)
    (case z5 => k_is)
    (case z6 => k_is)
    (case z7 => k_is)
    (case z8 => k_is)
    (case z9 => k_is)
    (case z10 => k_is)
    (case z11 => k_is)
    (case k0 => refine' DL.const_tup ?e ?l ?v; (case e => k_is); (case l => k_is); (case v => decide +kernel))
    (case k1 => refine' DL.const_dict ?e ?l ?r ?s; (case e => k_is); (case l => k_is); (case r => refine' (DL.CRows.tup rfl ?l0 ?f0 (DL.CRows.tup rfl ?l1 ?f1 (DL.CRows.tup rfl ?l2 ?f2 (DL.CRows.tup rfl ?l3 ?f3 (DL.CRows.tup rfl ?l4 ?f4 (DL.CRows.tup rfl ?l5 ?f5 (DL.CRows.tup rfl ?l6 ?f6 (DL.CRows.tup rfl ?l7 ?f7 (DL.CRows.tup rfl ?l8 ?f8 (DL.CRows.tup rfl ?l9 ?f9 (DL.CRows.tup rfl ?l10 ?f10 (DL.CRows.tup rfl ?l11 ?f11 DL.CRows.nil)))))))))))); (case l0 => k_is); (case f0 => decide +kernel); (case l1 => k_is); (case f1 => decide +kernel); (case l2 => k_is); (case f2 => decide +kernel); (case l3 => k_is); (case f3 => decide +kernel); (case l4 => k_is); (case f4 => decide +kernel); (case l5 => k_is); (case f5 => decide +kernel); (case l6 => k_is); (case f6 => decide +kernel); (case l7 => k_is); (case f7 => decide +kernel); (case l8 => k_is); (case f8 => decide +kernel); (case l9 => k_is); (case f9 => decide +kernel); (case l10 => k_is); (case f10 => decide +kernel); (case l11 => k_is); (case f11 => decide +kernel)); (case s => decide +kernel))
    (case q0 => refine' DL.lam_mk ?a ?l ?c ?m ?v1 ?v2 ?v3 ?v4 ?v5 ?v6 ?v7; (case a => k_is); (case l => k_is); (case c => exact rfl); (case m => k_is); (case v1 => exact rfl); (case v2 => exact rfl); (case v3 => exact rfl); (case v4 => exact rfl); (case v5 => exact rfl); (case v6 => exact rfl); (case v7 => decide))
    (case q1 => refine' DL.lam_mk ?a ?l ?c ?m ?v1 ?v2 ?v3 ?v4 ?v5 ?v6 ?v7; (case a => k_is); (case l => k_is); (case c => exact rfl); (case m => k_is); (case v1 => exact rfl); (case v2 => exact rfl); (case v3 => exact rfl); (case v4 => exact rfl); (case v5 => exact rfl); (case v6 => exact rfl); (case v7 => decide))

