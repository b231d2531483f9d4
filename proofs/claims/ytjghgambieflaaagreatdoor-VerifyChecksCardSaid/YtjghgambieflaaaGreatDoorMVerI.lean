/- What Check answers of a method with its blocks, over what is read of each word: plain. A body under way: its memory; isBlock, hasOuter. -/
import Derived.Test.YtjghgambieflaaaGreatDoorMVerF
import Derived.Test.YtjghgambieflaaaGreatDoorMCodeB
namespace Go.Proofs.YtjghgambieflaaaGreatDoor

/-- may this instruction be in a method with so many fields, within these outers? 'sub' says which blocks may run -/
def Mth.mayOk (m : Mth) (sub : Int → List Int → Prop) (fields : Int) (outers : List Int) (i : Ins) : Prop :=
  if i.op = 4 ∨ i.op = 5 then i.a < fields
  else if i.op = 17 ∨ i.op = 18 then outers = []
  else if i.op = 22 ∨ i.op = 23 then outers ≠ []
  else if i.op = 20 ∨ i.op = 21 then 1 ≤ i.a ∧ i.a ≤ outers.length ∧ ∀ t, outers[(i.a - 1).toNat]? = some t → i.b < t
  else if i.op = 19 then outers.length < 2 ∧ ∀ x, m.lits[i.a.toNat]? = some x → sub x (m.temps :: outers)
  else True
/-- what Check answers: the place and the error -/
inductive CheckTo (rd : Int → Mth × Int) (fields : Int) (sub : Int → List Int → Prop) (x : Int) (outers : List Int) : Int → Int → Prop
  | none : (rd x).2 ≠ 0 → CheckTo rd fields sub x outers (-1) 4
  | prim : (rd x).2 = 0 → outers ≠ [] → (rd x).1.prim ≠ 0 → CheckTo rd fields sub x outers (-1) 4
  | depth {p : Int} : (rd x).2 = 0 → (outers ≠ [] → (rd x).1.prim = 0) → DepthsTo (rd x).1 [] p 4 → CheckTo rd fields sub x outers p 4
  | bad {k : Nat} {i : Ins} : (rd x).2 = 0 → (outers ≠ [] → (rd x).1.prim = 0) → (rd x).1.good → (rd x).1.code[k]? = some i → ¬ (rd x).1.mayOk sub fields outers i → (∀ j, j < k → ∀ i', (rd x).1.code[j]? = some i' → (rd x).1.mayOk sub fields outers i') → CheckTo rd fields sub x outers k 4
  | good : (rd x).2 = 0 → (outers ≠ [] → (rd x).1.prim = 0) → (rd x).1.good → (∀ i ∈ (rd x).1.code, (rd x).1.mayOk sub fields outers i) → CheckTo rd fields sub x outers (-1) 0
/-- which blocks may run, as many deep as n -/
def SubOk (rd : Int → Mth × Int) (fields : Int) : Nat → Int → List Int → Prop
  | 0, _, _ => False
  | n + 1, x, outers => CheckTo rd fields (SubOk rd fields n) x outers (-1) 0
section
variable {rd : Int → Mth × Int} {fields : Int} {sub : Int → List Int → Prop} {x : Int} {outers : List Int}
theorem CheckTo.err {p e : Int} (h : CheckTo rd fields sub x outers p e) : (e = 0 ∧ p = -1) ∨ e = 4 := by cases h <;> simp
theorem CheckTo.one {p p' e e' : Int} (h : CheckTo rd fields sub x outers p e) (h' : CheckTo rd fields sub x outers p' e') : p = p' ∧ e = e' := by
  have nd : ∀ {q : Int}, (rd x).1.good → DepthsTo (rd x).1 [] q 4 → False := fun g hd => by have := (hd.of_good g).2.2; omega
  cases h with
  | none h0 =>
    cases h' with
    | none => exact ⟨rfl, rfl⟩
    | prim h1 => exact absurd h1 h0
    | depth h1 => exact absurd h1 h0
    | bad h1 => exact absurd h1 h0
    | good h1 => exact absurd h1 h0
  | prim h0 ho hp =>
    cases h' with
    | none h1 => exact absurd h0 h1
    | prim => exact ⟨rfl, rfl⟩
    | depth _ h1 => exact absurd (h1 ho) hp
    | bad _ h1 => exact absurd (h1 ho) hp
    | good _ h1 => exact absurd (h1 ho) hp
  | depth h0 hp hd =>
    cases h' with
    | none h1 => exact absurd h0 h1
    | prim _ ho h1 => exact absurd (hp ho) h1
    | depth _ _ hd' => exact ⟨(hd.one hd').2.1, rfl⟩
    | bad _ _ g => exact (nd g hd).elim
    | good _ _ g => exact (nd g hd).elim
  | @bad k i h0 hp g hi hn hl =>
    cases h' with
    | none h1 => exact absurd h0 h1
    | prim _ ho h1 => exact absurd (hp ho) h1
    | depth _ _ hd => exact (nd g hd).elim
    | @bad k' i' _ _ _ hi' hn' hl' =>
      have : k = k' := by
        rcases Nat.lt_trichotomy k k' with h | h | h
        · exact absurd (hl' k h i hi) hn
        · exact h
        · exact absurd (hl k' h i' hi') hn'
      subst this
      exact ⟨rfl, rfl⟩
    | good _ _ _ ha => exact absurd (ha i (List.mem_of_getElem? hi)) hn
  | good h0 hp g ha =>
    cases h' with
    | none h1 => exact absurd h0 h1
    | prim _ ho h1 => exact absurd (hp ho) h1
    | depth _ _ hd => exact (nd g hd).elim
    | bad _ _ _ hi hn => exact absurd (ha _ (List.mem_of_getElem? hi)) hn
    | good => exact ⟨rfl, rfl⟩
/-- more fields: what may be, may still be -/
theorem Mth.mayOk_more {m : Mth} {f f' : Int} {sub' : Int → List Int → Prop} (hf : f ≤ f') (hs : ∀ x o, sub x o → sub' x o) {i : Ins} (h : m.mayOk sub f outers i) : m.mayOk sub' f' outers i := by
  unfold Mth.mayOk at h ⊢
  split
  · next e => rw [if_pos e] at h; omega
  · next e =>
    rw [if_neg e] at h
    split
    · next e2 => rw [if_pos e2] at h; exact h
    · next e2 =>
      rw [if_neg e2] at h
      split
      · next e3 => rw [if_pos e3] at h; exact h
      · next e3 =>
        rw [if_neg e3] at h
        split
        · next e4 => rw [if_pos e4] at h; exact h
        · next e4 =>
          rw [if_neg e4] at h
          split
          · next e5 => rw [if_pos e5] at h; exact ⟨h.1, fun x hx => hs _ _ (h.2 x hx)⟩
          · trivial
theorem CheckTo.more {f f' : Int} {sub' : Int → List Int → Prop} (hf : f ≤ f') (hs : ∀ x o, sub x o → sub' x o) (h : CheckTo rd f sub x outers (-1) 0) : CheckTo rd f' sub' x outers (-1) 0 := by
  cases h with
  | good h0 hp g ha => exact .good h0 hp g fun i hi => Mth.mayOk_more hf hs (ha i hi)
theorem SubOk.more {f f' : Int} (hf : f ≤ f') : ∀ n x o, SubOk rd f n x o → SubOk rd f' n x o
  | 0, _, _, h => h
  | n + 1, _, _, h => CheckTo.more hf (SubOk.more hf n) h
/-- what is refused at an instruction with more fields is refused with fewer, there or ahead of it -/
theorem CheckTo.less {f f' : Int} {sub' : Int → List Int → Prop} (hf : f ≤ f') (hs : ∀ x o, sub x o → sub' x o) {p p' e' : Int} (h : CheckTo rd f sub x outers p 4) (h' : CheckTo rd f' sub' x outers p' e') : e' = 0 ∨ p ≤ p' := by
  have nd : ∀ {q : Int}, (rd x).1.good → DepthsTo (rd x).1 [] q 4 → False := fun g hd => by have := (hd.of_good g).2.2; omega
  have hge : ∀ {q : Int}, DepthsTo (rd x).1 [] q 4 → -1 ≤ q := fun hd => hd.place.1
  cases h' with
  | none h1 =>
    right
    cases h with
    | none => omega
    | prim => omega
    | depth h0 => exact absurd h0 h1
    | bad h0 => exact absurd h0 h1
  | prim h1 ho hp1 =>
    right
    cases h with
    | none h0 => exact absurd h1 h0
    | prim => omega
    | depth _ hp => exact absurd (hp ho) hp1
    | bad _ hp => exact absurd (hp ho) hp1
  | depth h1 hp1 hd1 =>
    right
    have := hge hd1
    cases h with
    | none h0 => exact absurd h1 h0
    | prim => omega
    | depth _ _ hd => have := (hd.one hd1).2.1; omega
    | bad _ _ g => exact (nd g hd1).elim
  | @bad k' i' h1 hp1 g1 hi1 hn1 hl1 =>
    right
    cases h with
    | none h0 => exact absurd h1 h0
    | prim => omega
    | depth _ _ hd => exact (nd g1 hd).elim
    | @bad k i _ _ _ hi hn hl =>
      rcases Nat.lt_or_ge k' k with hlt | hge
      · exact absurd (Mth.mayOk_more hf hs (hl k' hlt i' hi1)) hn1
      · omega
  | good => exact .inl rfl
end
end Go.Proofs.YtjghgambieflaaaGreatDoor
namespace Go.Proofs.YtjghgambieflaaaGreatDoor
open Go.RowKit

def bodyCells (m : Mth) (la : Option Addr) (ll lc : Nat) (ca : Option Addr) (n cc : Nat) (hv : Value) (fields : Int) (oa : Option Addr) (ol oc : Nat) (acc : List Bool) : Array Value :=
  ([.int .i64 m.args, .int .i64 m.temps, .int .i64 m.stack, .int .i64 m.prim, .slice la ll lc, .slice ca n cc, hv, .int .i64 fields, .slice oa ol oc] ++ acc.map Value.bool).toArray
/-- a body in memory -/
structure BodyAt (bb : Nat) (m : Mth) (la : Option Addr) (ll lc : Nat) (ca : Option Addr) (n cc : Nat) (hv : Value) (fields : Int) (oa : Option Addr) (ol oc : Nat) (acc : List Bool) (W : World) : Prop where
  at_ : W.heap[bb]? = some (.cells (bodyCells m la ll lc ca n cc hv fields oa ol oc acc) 95 (0, 0))
  acc : acc.length = 32
section
variable {bb : Nat} {m : Mth} {la : Option Addr} {ll lc : Nat} {ca : Option Addr} {n cc : Nat} {hv : Value} {fields : Int} {oa : Option Addr} {ol oc : Nat} {acc : List Bool} {W W' : World}
theorem BodyAt.cells (h : BodyAt bb m la ll lc ca n cc hv fields oa ol oc acc W) : W.cell? ⟨bb, 1, none⟩ = some (.int .i64 m.temps) ∧ W.cell? ⟨bb, 4, none⟩ = some (.slice la ll lc) ∧ W.cell? ⟨bb, 6, none⟩ = some hv ∧ W.cell? ⟨bb, 7, none⟩ = some (.int .i64 fields) ∧ W.cell? ⟨bb, 8, none⟩ = some (.slice oa ol oc) :=
  ⟨cell_of_heap h.at_ (by simp [bodyCells]), cell_of_heap h.at_ (by simp [bodyCells]), cell_of_heap h.at_ (by simp [bodyCells]), cell_of_heap h.at_ (by simp [bodyCells]), cell_of_heap h.at_ (by simp [bodyCells])⟩
theorem BodyAt.flag (h : BodyAt bb m la ll lc ca n cc hv fields oa ol oc acc W) {k : Nat} {b : Bool} (hk : acc[k]? = some b) : W.cell? ⟨bb, 9 + k, none⟩ = some (.bool b) ∧ W.frozen? ⟨bb, 9 + k, none⟩ = false := by
  refine ⟨cell_of_heap h.at_ ?_, frozen_of_heap h.at_⟩
  unfold bodyCells
  rw [List.getElem?_toArray, List.getElem?_append_right (by simp)]
  simp [hk]
theorem BodyAt.mark (h : BodyAt bb m la ll lc ca n cc hv fields oa ol oc acc W) (k : Nat) (b : Bool) : BodyAt bb m la ll lc ca n cc hv fields oa ol oc (acc.set k b) (W.setCell ⟨bb, 9 + k, none⟩ (.bool b)) := by
  refine ⟨?_, by simpa using h.acc⟩
  rw [heap_setCell_same h.at_]
  congr 2
  unfold bodyCells
  simp only [List.setIfInBounds_toArray]
  rw [List.set_append_right _ _ (by simp)]
  simp [List.map_set]
theorem BodyAt.still (h : BodyAt bb m la ll lc ca n cc hv fields oa ol oc acc W) (hF : Fr [] W W') : BodyAt bb m la ll lc ca n cc hv fields oa ol oc acc W' := ⟨hF.heap (by simp) h.at_, h.acc⟩
end
set_option maxRecDepth 100000 in
theorem isBlock_at (bb : Nat) (oa : Option Addr) (ol oc : Nat) (W : World) (hc : W.cell? ⟨bb, 8, none⟩ = some (.slice oa ol oc)) : Calls Tryz.prog 40 #[.pointer (some ⟨bb, 0, none⟩)] W (Gives (.bool (decide (0 < ol))) W) := by
  have e : decide ((ol : Int) > 0) = decide (0 < ol) := by simp
  go_enter Tryz.func40, Tryz.ntmps40
  go_wp2_with fail
  go_ret
  exact ⟨ret1 (vb (by simp)), rfl⟩
/-- a truth -/
def HasPost (Q : Prop) (W : World) (e : Ending) (W' : World) : Prop := (∃ b : Bool, e = .returned (.bool b) ∧ (b = true ↔ Q)) ∧ Fr [] W W'
set_option maxRecDepth 100000 in
set_option maxHeartbeats 1600000 in
theorem hasOuter_at (bb : Nat) (outers : List Int) (oa : Option Addr) (oc : Nat) (n k : Int) (n1 : -4611686018427387904 ≤ n) (n2 : n ≤ 4611686018427387904) (W : World) (hc : W.cell? ⟨bb, 8, none⟩ = some (.slice oa outers.length oc)) (hr : RowAt W oa (outers.map (Value.int .i64))) : Calls Tryz.prog 77 #[.pointer (some ⟨bb, 0, none⟩), .int .i64 n, .int .i64 k] W (HasPost (1 ≤ n ∧ n ≤ outers.length ∧ ∀ t, outers[(n - 1).toNat]? = some t → k < t) W) := by
  obtain ⟨ol, hol⟩ : ∃ x, x = outers.length := ⟨_, rfl⟩
  rw [← hol] at hc
  have HOL := Lib.hid hol
  have HR := Lib.hid hr
  obtain ⟨Q, hQ⟩ : ∃ Q, Q = (1 ≤ n ∧ n ≤ (outers.length : Int) ∧ ∀ t, outers[(n - 1).toNat]? = some t → k < t) := ⟨_, rfl⟩
  rw [← hQ]
  rw [← hol] at hQ
  have HQ := Lib.hid hQ
  clear hol hr hQ
  by_cases h1 : 1 ≤ n
  · have hg1 : decide (n ≥ 1) = true := by simpa using h1
    by_cases h2 : n ≤ (ol : Int)
    · obtain ⟨j, rfl⟩ : ∃ j : Nat, n = (j : Int) + 1 := ⟨(n - 1).toNat, by omega⟩
      have hj : j < outers.length := by rw [← HOL.out]; omega
      obtain ⟨t, ht⟩ : ∃ t, outers[j]? = some t := ⟨_, List.getElem?_eq_getElem hj⟩
      obtain ⟨g, o, rfl, c⟩ := HR.out j (.int .i64 t) (by rw [List.getElem?_map, ht]; rfl)
      have HT := Lib.hid ht
      have z0 : (0 : Int) ≤ (j : Int) := by omega
      have z1 : (j : Int) < (ol : Int) := by omega
      have e1 : (j : Int) + 1 - 1 = (j : Int) := by omega
      have hg2 : decide ((j : Int) + 1 ≤ (ol : Int)) = true := by simpa using h2
      have HIF : Hid (k < t ↔ Q) := Lib.hid (by
        rw [HQ.out, e1, Int.toNat_natCast, HT.out]
        constructor
        · intro h; exact ⟨by omega, h2, fun t' h' => by cases h'; exact h⟩
        · intro h; exact h.2.2 t rfl)
      clear ht hj h1 h2
      go_enter Tryz.func77, Tryz.ntmps77
      go_wp2_with fail
      go_ret
      exact ⟨⟨decide (k < t), rfl, by rw [decide_eq_true_eq]; exact HIF.out⟩, Fr.refl _ _⟩
    · have hg2 : decide (n ≤ (ol : Int)) = false := by simpa using h2
      have HN : Hid (¬ Q) := Lib.hid (by rw [HQ.out]; exact fun h => h2 h.2.1)
      have h2' : (ol : Int) < n := by omega
      go_enter Tryz.func77, Tryz.ntmps77
      go_wp2_with fail
      go_ret
      exact ⟨⟨false, rfl, ⟨fun h => (by cases h), fun h => absurd h HN.out⟩⟩, Fr.refl _ _⟩
  · have hg1 : decide (n ≥ 1) = false := by simpa using h1
    have HN : Hid (¬ Q) := Lib.hid (by rw [HQ.out]; exact fun h => h1 h.1)
    have h1' : n < 1 := by omega
    go_enter Tryz.func77, Tryz.ntmps77
    go_wp2_with fail
    go_ret
    exact ⟨⟨false, rfl, ⟨fun h => (by cases h), fun h => absurd h HN.out⟩⟩, Fr.refl _ _⟩
/-- what a check answers: an error, or none -/
def ChkPost (S : Prop) (W : World) (e : Ending) (W' : World) : Prop := Fr [] W W' ∧ ((S ∧ e = .returned .nilIface) ∨ (¬ S ∧ ∃ u y, e = .returned (.iface u y)))
/-- the errors of Check -/
structure CErrs (w : World) : Prop where
  field : ∃ a, w.cell? ⟨4, 0, none⟩ = some (.iface 224 (.pointer (some a)))
  inside : ∃ a, w.cell? ⟨5, 0, none⟩ = some (.iface 224 (.pointer (some a)))
  outside : ∃ a, w.cell? ⟨7, 0, none⟩ = some (.iface 224 (.pointer (some a)))
  outer : ∃ a, w.cell? ⟨6, 0, none⟩ = some (.iface 224 (.pointer (some a)))
  nested : ∃ a, w.cell? ⟨11, 0, none⟩ = some (.iface 224 (.pointer (some a)))
  prim : ∃ a, w.cell? ⟨1, 0, none⟩ = some (.iface 224 (.pointer (some a)))
theorem CErrs.fr {w w' : World} (h : CErrs w) (hF : Fr [] w w') : CErrs w' := by
  obtain ⟨⟨a, h1⟩, ⟨b, h2⟩, ⟨c, h3⟩, ⟨d, h4⟩, ⟨e, h5⟩, ⟨f, h6⟩⟩ := h
  exact ⟨⟨a, hF.cell (by simp) h1⟩, ⟨b, hF.cell (by simp) h2⟩, ⟨c, hF.cell (by simp) h3⟩, ⟨d, hF.cell (by simp) h4⟩, ⟨e, hF.cell (by simp) h5⟩, ⟨f, hF.cell (by simp) h6⟩⟩
/-- the checks of blocks, one deeper -/
def SubCalls (w0 : World) (hv : Value) (m : Mth) (fields : Int) (outers : List Int) (S : Int → Prop) : Prop := ∀ W x oa oc, Fr [] w0 W → x ∈ m.lits → RowAt W oa ((m.temps :: outers).map (Value.int .i64)) → Calls Tryz.prog 19 #[hv, .int .u64 x, .int .i64 fields, .slice oa (outers.length + 1) oc] W (ChkPost (S x) W)
/-- what checkInstr leaves and answers -/
def InstrPost (bb : Nat) (m : Mth) (la : Option Addr) (lc : Nat) (ca : Option Addr) (n cc : Nat) (hv : Value) (fields : Int) (oa : Option Addr) (oc : Nat) (outers : List Int) (S : Int → Prop) (P : Prop) (W : World) (e : Ending) (W' : World) : Prop :=
  ∃ acc', BodyAt bb m la m.lits.length lc ca n cc hv fields oa outers.length oc acc' W' ∧ (∀ j : Nat, acc'[j]? = some true → ∀ y, m.lits[j]? = some y → outers.length < 2 ∧ S y) ∧ Fr [bb] W W' ∧ ((P ∧ e = .returned .nilIface) ∨ (¬ P ∧ ∃ u y, e = .returned (.iface u y)))
end Go.Proofs.YtjghgambieflaaaGreatDoor
