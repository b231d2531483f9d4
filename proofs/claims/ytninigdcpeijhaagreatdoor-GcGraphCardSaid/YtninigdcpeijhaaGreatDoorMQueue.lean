/- Rows of pairs of words that are taken from the front and put behind: plain, over any program. -/
import Derived.Test.YtninigdcpeijhaaGreatDoorMGcOrderWalk
import Derived.ArgAppend
import Derived.Deep.LoopGhost
namespace Go.Proofs.YtninigdcpeijhaaGreatDoor
open Go.RowKit

theorem infoPair : (Tryz.prog.info? 59).map (fun i => (i.zero, i.size, i.bytes)) = some (some (.agg #[.int .u64 0, .int .u64 0]), 2, 16) := by kernel_rfl
def flat2 (ps : List (Int × Int)) : List Value := ps.flatMap fun p => [.int .u64 p.1, .int .u64 p.2]
theorem flat2_len (ps : List (Int × Int)) : (flat2 ps).length = ps.length * 2 := by
  induction ps with
  | nil => rfl
  | cons a l ih => simp only [flat2, List.flatMap_cons, List.length_append, List.length_cons, List.length_nil] at ih ⊢; omega
theorem flat2_app (l r : List (Int × Int)) : flat2 (l ++ r) = flat2 l ++ flat2 r := by simp [flat2]
theorem flat2_at {ps : List (Int × Int)} {j : Nat} {p : Int × Int} (h : ps[j]? = some p) : (flat2 ps)[j * 2]? = some (.int .u64 p.1) ∧ (flat2 ps)[j * 2 + 1]? = some (.int .u64 p.2) := by
  induction ps generalizing j with
  | nil => cases h
  | cons a l ih =>
    have e : flat2 (a :: l) = .int .u64 a.1 :: .int .u64 a.2 :: flat2 l := rfl
    rw [e]
    cases j with
    | zero => cases h; exact ⟨rfl, rfl⟩
    | succ j =>
      have := ih (by simpa using h)
      rw [show (j + 1) * 2 = j * 2 + 1 + 1 by omega, show j * 2 + 1 + 1 + 1 = (j * 2 + 1) + 1 + 1 by omega]
      simpa using this
/-- a queue: its pairs lie one behind the other, from some place on -/
structure Que (w : World) (g off cap : Nat) (ps : List (Int × Int)) : Prop where
  row : ∃ cur, w.heap[g]? = some (.cells cur 59 (0, 0)) ∧ off + cap * 2 ≤ cur.size
  len : ps.length ≤ cap
  cells : ∀ j u, (flat2 ps)[j]? = some u → w.cell? ⟨g, off + j, none⟩ = some u
theorem Que.fr {w w' : World} {g off cap : Nat} {ps : List (Int × Int)} {S : List Nat} (h : Que w g off cap ps) (hF : Fr S w w') (hg : g ∉ S) : Que w' g off cap ps := by
  obtain ⟨cur, h1, h2⟩ := h.row
  exact ⟨⟨cur, hF.heap hg h1, h2⟩, h.len, fun j u hj => hF.cell (p := ⟨g, off + j, none⟩) hg (h.cells j u hj)⟩
/-- behind an append -/
theorem Que.append {w : World} {g off cap : Nat} {ps : List (Int × Int)} (h : Que w g off cap ps) (q : Int × Int) {ad : Addr} {c : Nat} (ha : ∀ j u, [Value.int .u64 q.1, .int .u64 q.2][j]? = some u → w.cell? (ad.add j) = some u) (hn : ps.length < 1000000000) (ty : TypeId) :
    ∃ g' off' cap' w', (Builtin.append_ #[60, 60] ty #[.slice (some ⟨g, off, none⟩) ps.length cap, .slice (some ad) 1 c]).run Tryz.prog w = .ok (.slice (some ⟨g', off', none⟩) (ps.length + 1) cap') w' ∧ Que w' g' off' cap' (ps ++ [q]) ∧ Fr [g] w w' ∧ (g' = g ∨ w.heap.size ≤ g') := by
  obtain ⟨i0, hi, hz0, hz1, hz2⟩ := info_parts infoPair
  obtain ⟨cur, hc, hsz⟩ := h.row
  by_cases hroom : ps.length + 1 ≤ cap
  · have hcell : ∀ j, j < 2 → w.cell? ⟨g, off + ps.length * 2 + j, none⟩ = some (cur[off + ps.length * 2 + j]?.getD undef) := fun j hj => cell_of_heap hc (by rw [Array.getElem?_eq_getElem (by omega)]; rfl)
    have hr := run_append_room_cells (P := Tryz.prog) w 60 ty 59 i0 Tryz.underlying60 hi g off ps.length cap ad 1 c [.int .u64 q.1, .int .u64 q.2] (by rw [hz1]; rfl) ha (by simp [Value.oneCell']) hroom (fun j hj => by rw [hz1, hcell j (by simpa using hj)]; rfl) (fun j hj => frozen_of_heap hc)
    rw [hz1] at hr
    have hcur : ∀ j u, (flat2 ps)[j]? = some u → cur[off + j]? = some u := fun j u hj => by have := h.cells j u hj; simpa [World.cell?, hc] using this
    have h1 := heap_setCell_same (o := off + ps.length * 2) hc (.int .u64 q.1)
    have h2 := heap_setCell_same (o := off + ps.length * 2 + 1) h1 (.int .u64 q.2)
    refine ⟨g, off, cap, _, hr, ⟨⟨_, h2, by simpa using hsz⟩, by simpa using hroom, fun j u hj => ?_⟩, ?_, .inl rfl⟩
    · refine cell_of_heap h2 ?_
      have e : flat2 (ps ++ [q]) = flat2 ps ++ [.int .u64 q.1, .int .u64 q.2] := by rw [flat2_app]; rfl
      rw [e] at hj
      have hfl := flat2_len ps
      rw [Array.getElem?_setIfInBounds, Array.getElem?_setIfInBounds]
      by_cases hlt : j < ps.length * 2
      · rw [List.getElem?_append_left (by omega)] at hj
        rw [if_neg (by omega), if_neg (by omega)]
        exact hcur j u hj
      · rw [List.getElem?_append_right (by omega), hfl] at hj
        by_cases e0 : j = ps.length * 2
        · subst e0
          simp only [Nat.sub_self, List.getElem?_cons_zero] at hj
          rw [if_neg (by omega), if_pos rfl, if_pos (by omega)]
          exact hj
        · by_cases e1 : j = ps.length * 2 + 1
          · subst e1
            rw [show ps.length * 2 + 1 - ps.length * 2 = 1 by omega] at hj
            simp only [List.getElem?_cons_succ, List.getElem?_cons_zero] at hj
            rw [if_pos (by omega), if_pos (by simp; omega)]
            exact hj
          · rw [List.getElem?_eq_none (by simp; omega)] at hj
            cases hj
    · exact ((Fr.refl _ _).setCell (fun _ => by simp) _).setCell (fun _ => by simp) _
  · obtain ⟨v', w', hr, hown, hg⟩ := run_append_arg_grows (P := Tryz.prog) w 60 ty 59 i0 _ 2 16 Tryz.underlying60 hi hz0 hz1 hz2 rfl (by decide) ⟨g, off, none⟩ ps.length cap (flat2 ps) (flat2_len ps) (fun j u hj => by rw [Lib.add_plain]; exact h.cells j u hj) ad 1 c [.int .u64 q.1, .int .u64 q.2] rfl ha (by omega) (by unfold maxLen; omega) (by omega)
    rcases hown.2 with ⟨-, h0⟩ | ⟨g', cap', cur', rfl, hb, hh, hnc, hcm, hcs, htk⟩
    · omega
    · refine ⟨g', 0, cap', w', hr, ⟨⟨cur', hh, by omega⟩, by simpa using hnc, fun j u hj => ?_⟩, (Fr.refl _ _).grown hg (fun _ h => by cases h), .inr hb⟩
      have e : flat2 (ps ++ [q]) = flat2 ps ++ [.int .u64 q.1, .int .u64 q.2] := by rw [flat2_app]; rfl
      rw [e] at hj
      have := row_rowAt hown j u hj
      obtain ⟨_, _, e2, h2⟩ := this
      cases e2
      exact h2
end Go.Proofs.YtninigdcpeijhaaGreatDoor
