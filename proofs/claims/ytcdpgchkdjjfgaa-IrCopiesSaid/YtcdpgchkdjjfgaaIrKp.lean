/- Stores of numbers into rows: what a row's other cells keep. -/
import Derived.Test.YtcdpgchkdjjfgaaIrCopy
namespace Go.Proofs.Ytcdpgchkdjjfgaa
open Go.RowKit

/-- a number -/
def isI (v : Value) : Prop := ∃ k x, v = .int k x
/-- Of the blocks from lo to hi only numbers may have turned, into numbers; the others are as they were. -/
structure Kp (lo hi : Nat) (w0 w : World) : Prop where
  fr : Fr (List.range' lo (hi - lo)) w0 w
  row : ∀ (g : Nat) (cur : Array Value) (T : TypeId), w0.heap[g]? = some (.cells cur T (0, 0)) → ∃ cur' : Array Value, w.heap[g]? = some (.cells cur' T (0, 0)) ∧ ∀ (o : Nat) (v : Value), cur[o]? = some v → ∃ v', cur'[o]? = some v' ∧ (v' = v ∨ isI v ∧ isI v')
theorem Kp.refl (lo hi : Nat) (w : World) : Kp lo hi w w := ⟨Fr.refl _ w, fun _ cur _ h => ⟨cur, h, fun _ v hv => ⟨v, hv, .inl rfl⟩⟩⟩
theorem Kp.set {lo hi : Nat} {w0 w : World} (h : Kp lo hi w0 w) {g o : Nat} (hg : lo ≤ g ∧ g < hi) (hc : ∃ k x, w.cell? ⟨g, o, none⟩ = some (.int k x)) (k : IntKind) (x : Int) : Kp lo hi w0 (w.setCell ⟨g, o, none⟩ (.int k x)) := by
  refine ⟨h.fr.setCell (fun _ => by rw [List.mem_range'_1]; show lo ≤ g ∧ g < lo + (hi - lo); omega) _, fun g' cur T h0 => ?_⟩
  obtain ⟨cur', h1, h2⟩ := h.row g' cur T h0
  by_cases hgg : g' = g
  · subst hgg
    refine ⟨_, heap_setCell_same h1 _, fun o' v hv => ?_⟩
    obtain ⟨v', h3, h4⟩ := h2 o' v hv
    by_cases ho : o = o'
    · subst ho
      have hlt := (Array.getElem?_eq_some_iff.1 h3).1
      refine ⟨.int k x, by rw [Array.getElem?_setIfInBounds_self_of_lt hlt], .inr ⟨?_, k, x, rfl⟩⟩
      obtain ⟨k2, x2, hc⟩ := hc
      have h5 := cell_of_heap h1 h3
      rw [hc] at h5
      rcases h4 with rfl | ⟨h4, -⟩
      · exact ⟨k2, x2, by cases h5; rfl⟩
      · exact h4
    · exact ⟨v', by rw [Array.getElem?_setIfInBounds_ne ho]; exact h3, h4⟩
  · exact ⟨cur', by rw [Below.heap_setCell _ _ _ _ hgg]; exact h1, h2⟩
theorem Kp.drewN {lo hi : Nat} {w0 w : World} (h : Kp lo hi w0 w) (k : Nat) : Kp lo hi w0 (w.drewN k) := ⟨h.fr.drewN k, h.row⟩
theorem Kp.heap {lo hi : Nat} {w0 w : World} (h : Kp lo hi w0 w) {g : Nat} {o : Obj} (hg : g < lo ∨ hi ≤ g) (hc : w0.heap[g]? = some o) : w.heap[g]? = some o :=
  h.fr.heap (by rw [List.mem_range'_1]; omega) hc
theorem Kp.any {lo hi : Nat} {w0 w : World} (h : Kp lo hi w0 w) {g : Nat} {T : TypeId} {vals : List Value} (hR : RowB w0 g T vals) {k : Nat} {v : Value} (hk : vals[k]? = some v) : ∃ v', w.cell? ⟨g, k, none⟩ = some v' ∧ (v' = v ∨ isI v ∧ isI v') := by
  obtain ⟨cur, hc, rest, hr⟩ := hR
  obtain ⟨cur', h1, h2⟩ := h.row g cur T hc
  obtain ⟨v', h3, h4⟩ := h2 k v (by rw [← Array.getElem?_toList, hr, List.getElem?_append_left (List.getElem?_eq_some_iff.1 hk).1]; exact hk)
  exact ⟨v', cell_of_heap h1 h3, h4⟩
theorem Kp.slice {lo hi : Nat} {w0 w : World} (h : Kp lo hi w0 w) {g : Nat} {T : TypeId} {vals : List Value} (hR : RowB w0 g T vals) {k : Nat} {a : Option Addr} {n c : Nat} (hk : vals[k]? = some (.slice a n c)) : w.cell? ⟨g, k, none⟩ = some (.slice a n c) := by
  obtain ⟨v', h1, h2⟩ := h.any hR hk
  rcases h2 with rfl | ⟨⟨k, x, h⟩, -⟩
  · exact h1
  · cases h
theorem Kp.int {lo hi : Nat} {w0 w : World} (h : Kp lo hi w0 w) {g : Nat} {T : TypeId} {vals : List Value} (hR : RowB w0 g T vals) {k : Nat} {i : IntKind} {x : Int} (hk : vals[k]? = some (.int i x)) : ∃ i x, w.cell? ⟨g, k, none⟩ = some (.int i x) := by
  obtain ⟨v', h1, h2⟩ := h.any hR hk
  rcases h2 with rfl | ⟨-, i', x', rfl⟩
  · exact ⟨_, _, h1⟩
  · exact ⟨_, _, h1⟩
theorem Kp.frozen {lo hi : Nat} {w0 w : World} (h : Kp lo hi w0 w) {g : Nat} {T : TypeId} {vals : List Value} (hR : RowB w0 g T vals) (k : Nat) : w.frozen? ⟨g, k, none⟩ = false := by
  obtain ⟨cur, hc, -⟩ := hR
  obtain ⟨cur', h1, -⟩ := h.row g cur T hc
  exact frozen_of_heap h1
theorem Kp.lt {lo hi : Nat} {w0 w : World} (h : Kp lo hi w0 w) {g : Nat} {T : TypeId} {vals : List Value} (hR : RowB w0 g T vals) : g < w.heap.size :=
  Nat.lt_of_lt_of_le hR.lt h.fr.size
/-- a place of a number, that can be stored into -/
structure Slot (lo hi : Nat) (w : World) (g o : Nat) : Prop where
  lo : lo ≤ g
  hi : g < hi
  cell : ∃ k x, w.cell? ⟨g, o, none⟩ = some (.int k x)
  frozen : w.frozen? ⟨g, o, none⟩ = false
  lt : g < w.heap.size
theorem Kp.slot {lo hi : Nat} {w0 w : World} (h : Kp lo hi w0 w) {g : Nat} {T : TypeId} {vals : List Value} (hR : RowB w0 g T vals) (hlo : lo ≤ g) (hhi : g < hi) {k : Nat} {i : IntKind} {x : Int} (hk : vals[k]? = some (.int i x)) : Slot lo hi w g k :=
  ⟨hlo, hhi, h.int hR hk, h.frozen hR k, h.lt hR⟩
theorem Kp.put {lo hi : Nat} {w0 w : World} (h : Kp lo hi w0 w) {g o : Nat} (hs : Slot lo hi w g o) (k : IntKind) (x : Int) : Kp lo hi w0 (w.setCell ⟨g, o, none⟩ (.int k x)) := h.set ⟨hs.lo, hs.hi⟩ hs.cell k x
theorem Kp.srcs {lo : Nat} {w3 w4 w : World} (h : Kp lo w3.heap.size w4 w) (hF : Fr [] w3 w4) {a : Option Addr} {l : List Sr} {c : Nat} (hO : OwnS lo w3 a l c) {k : Nat} (hk : k < l.length) : ∃ g, a = some ⟨g, 0, none⟩ ∧ Slot lo w3.heap.size w g (k * 3 + 1) := by
  rcases hO.2 with rfl | ⟨g, e, hlo, hr⟩
  · simp at hk
  · obtain ⟨f0, f1, f2⟩ := flatS_at (List.getElem?_eq_getElem hk)
    exact ⟨g, e, h.slot (hr.fr hF) hlo hr.lt f1⟩
theorem Kp.ins {lo : Nat} {w3 w4 w : World} (h : Kp lo w3.heap.size w4 w) (hF : Fr [] w3 w4) {a : Option Addr} {l : List Ii} {c : Nat} (hO : OwnI lo w3 a l c) {k : Nat} {i : Ii} (hk : l[k]? = some i) : ∃ g, a = some ⟨g, 0, none⟩ ∧ Slot lo w3.heap.size w g (k * 7) ∧ w.cell? ⟨g, k * 7 + 5, none⟩ = some (.slice i.la i.l.length i.lc) := by
  rcases hO.2.1 with ⟨-, -, rfl⟩ | ⟨g, e, hlo, hr, -⟩
  · simp at hk
  · exact ⟨g, e, h.slot (hr.fr hF) hlo hr.lt (flat7_at hk 0 (by omega)), h.slice (hr.fr hF) (flat7_at hk 5 (by omega))⟩
theorem Kp.maps {lo : Nat} {w3 w4 w : World} (h : Kp lo w3.heap.size w4 w) (hF : Fr [] w3 w4) {a : Option Addr} {l : List Mp} {c : Nat} (hO : OwnM lo w3 a l c) {k : Nat} {m : Mp} (hk : l[k]? = some m) : ∃ g, a = some ⟨g, 0, none⟩ ∧ g < w.heap.size ∧ w.cell? ⟨g, k, none⟩ = some (.slice m.a m.l.length m.c) := by
  rcases hO.2.1 with rfl | ⟨g, e, hlo, hr⟩
  · simp at hk
  · exact ⟨g, e, h.lt (hr.fr hF), h.slice (hr.fr hF) (by simp [flatM, hk, Mp.v])⟩
theorem Kp.nums {lo : Nat} {w3 w4 w : World} (h : Kp lo w3.heap.size w4 w) (hF : Fr [] w3 w4) {a : Option Addr} {l : List Int} {c : Nat} (hO : OwnN lo w3 a l c) {k : Nat} (hk : k < l.length) : ∃ g, a = some ⟨g, 0, none⟩ ∧ Slot lo w3.heap.size w g k := by
  rcases hO.2 with rfl | ⟨g, e, hlo, hr⟩
  · simp at hk
  · exact ⟨g, e, h.slot (hr.fr hF) hlo hr.lt (x := l[k]) (i := .i64) (by simp [flatN, hk])⟩
/-- what lies elsewhere is as it was -/
theorem Kp.rowB {lo hi : Nat} {w0 w : World} (h : Kp lo hi w0 w) {g : Nat} {T : TypeId} {vals : List Value} (hg : hi ≤ g) (hR : RowB w0 g T vals) : RowB w g T vals :=
  let ⟨cur, hc, hr⟩ := hR
  ⟨cur, h.heap (.inr hg) hc, hr⟩
theorem Kp.capB {lo hi : Nat} {w0 w : World} (h : Kp lo hi w0 w) {g N : Nat} (hg : hi ≤ g) (hR : CapB w0 g N) : CapB w g N :=
  let ⟨cur, T, f, hc, hs⟩ := hR
  ⟨cur, T, f, h.heap (.inr hg) hc, hs⟩
theorem Kp.ownS {lo hi : Nat} {w0 w : World} (h : Kp lo hi w0 w) {x : Nat} (hx : hi ≤ x) {a : Option Addr} {l : List Sr} {c : Nat} (hO : OwnS x w0 a l c) : OwnS x w a l c :=
  ⟨hO.1, hO.2.imp id fun ⟨g, e, hl, hr⟩ => ⟨g, e, hl, h.rowB (by omega) hr⟩⟩
theorem Kp.ownN {lo hi : Nat} {w0 w : World} (h : Kp lo hi w0 w) {x : Nat} (hx : hi ≤ x) {a : Option Addr} {l : List Int} {c : Nat} (hO : OwnN x w0 a l c) : OwnN x w a l c :=
  ⟨hO.1, hO.2.imp id fun ⟨g, e, hl, hr⟩ => ⟨g, e, hl, h.rowB (by omega) hr⟩⟩
theorem Kp.ownM {lo hi : Nat} {w0 w : World} (h : Kp lo hi w0 w) {x : Nat} (hx : hi ≤ x) {a : Option Addr} {l : List Mp} {c : Nat} (hO : OwnM x w0 a l c) : OwnM x w a l c :=
  ⟨hO.1, hO.2.1.imp id fun ⟨g, e, hl, hr⟩ => ⟨g, e, hl, h.rowB (by omega) hr⟩, fun i hi => h.ownS hx (hO.2.2 i hi)⟩
theorem Kp.ownI {lo hi : Nat} {w0 w : World} (h : Kp lo hi w0 w) {x : Nat} (hx : hi ≤ x) {a : Option Addr} {l : List Ii} {c : Nat} (hO : OwnI x w0 a l c) : OwnI x w a l c :=
  ⟨hO.1, hO.2.1.imp id fun ⟨g, e, hl, hr, hc⟩ => ⟨g, e, hl, h.rowB (by omega) hr, h.capB (by omega) hc⟩, fun i hi => h.ownS hx (hO.2.2 i hi)⟩
theorem Kp.ownU {lo hi : Nat} {w0 w : World} (h : Kp lo hi w0 w) {x : Nat} (hx : hi ≤ x) {v : Un} (hO : OwnU x w0 v) : OwnU x w v :=
  ⟨h.ownI hx hO.enter, h.ownI hx hO.code, h.ownN hx hO.starts, h.ownM hx hO.maps⟩
end Go.Proofs.Ytcdpgchkdjjfgaa
