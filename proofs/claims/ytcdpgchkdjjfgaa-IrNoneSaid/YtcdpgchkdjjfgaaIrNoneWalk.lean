/- IrNone: the walk. -/
import Derived.Test.YtcdpgchkdjjfgaaIrAwake
namespace Go.Proofs.Ytcdpgchkdjjfgaa
open Go.RowKit

/-- the unit that IrNone makes -/
def noU (op : Int) (b1 b2 b3 : Nat) : Un := ⟨2, 0, 0, 0, 0, 0, none, [], 0, some ⟨b3, 0, none⟩, [⟨op, 0, ⟨0, 0, 0⟩, none, [], 0, 0⟩], 1, some ⟨b1, 0, none⟩, [0, 1], 2, some ⟨b2, 0, none⟩, [⟨none, [], 0⟩], 1⟩
theorem noU_no {op : Int} (h : op < 1 ∨ 9 < op) (b1 b2 b3 : Nat) : errU (noU op b1 b2 b3) = 1 := by
  have h4 : codeOk (noU op b1 b2 b3) = false := by
    cases hc : codeOk (noU op b1 b2 b3)
    · rfl
    · have h5 := ((codeOk_iff _).1 hc).2.2.1
      simp only [noU, List.all_cons, List.all_nil, Bool.and_true] at h5
      unfold insOk at h5
      simp only [Bool.and_eq_true] at h5
      have h6 := h5.1.1.1.1
      unfold wtn at h6
      rw [(op_none h).2.1] at h6
      simp at h6
  unfold errU okU
  rw [h4, Bool.and_false]
  rfl
theorem noU_UB (op : Int) (b1 b2 b3 : Nat) : UB (noU op b1 b2 b3) := by
  refine ⟨fun i hi => by simp [noU] at hi, fun i hi => ?_, fun m hm => ?_, SlOk.nil, ⟨fun h => by simp [noU] at h, by simp [noU], by simp [noU, maxLen]⟩, ⟨fun h => by simp [noU] at h, by simp [noU], by simp [noU, maxLen]⟩, ⟨fun h => by simp [noU] at h, by simp [noU], by simp [noU, maxLen]⟩, by simp [noU], by simp [noU], by simp [noU], by simp [noU], ⟨by simp [noU], by simp [noU]⟩, fun n hn => ?_, by simp [noU], by simp [noU], by simp [noU], by simp [noU], by simp [noU]⟩
  · simp only [noU, List.mem_singleton] at hi
    subst hi
    exact ⟨SlOk.nil, ⟨by simp, by simp⟩, ⟨by simp, by simp⟩, fun s hs => by simp at hs, by simp⟩
  · simp only [noU, List.mem_singleton] at hm
    subst hm
    exact ⟨by simp, fun s hs => by simp at hs, SlOk.nil⟩
  · simp [noU] at hn
    omega
theorem noU_at {w : World} {op : Int} {b1 b2 b3 : Nat} (h1 : w.heap[b1]? = some (.cells #[.int .i64 0, .int .i64 1] 3 (0, 0))) (h2 : w.heap[b2]? = some (.cells #[.slice none 0 0] 26 (0, 0))) (h4 : w.heap[b3]? = some (.cells #[.int .i64 op, .int .i64 0, .int .i64 0, .int .i64 0, .int .u64 0, .slice none 0 0, .int .u64 0] 28 (0, 0))) : UAt w (noU op b1 b2 b3) := by
  refine ⟨fun k i hi => by simp [noU] at hi, fun k i hi => ?_, fun k n hn => ?_, fun k m hm => ?_⟩
  · match k, hi with
    | 0, hi =>
      simp only [noU, List.getElem?_cons_zero, Option.some.injEq] at hi
      subst hi
      exact ⟨⟨b3, 0, rfl, cell_of_heap h4 rfl, cell_of_heap h4 rfl, cell_of_heap h4 rfl, cell_of_heap h4 rfl, cell_of_heap h4 rfl, cell_of_heap h4 rfl, cell_of_heap h4 rfl⟩, fun k s hs => by simp at hs⟩
    | k + 1, hi => simp [noU] at hi
  · match k, hn with
    | 0, hn => simp [noU] at hn; subst hn; exact ⟨b1, 0, rfl, cell_of_heap h1 rfl⟩
    | 1, hn => simp [noU] at hn; subst hn; exact ⟨b1, 0, rfl, cell_of_heap h1 rfl⟩
    | k + 2, hn => simp [noU] at hn
  · match k, hm with
    | 0, hm =>
      simp only [noU, List.getElem?_cons_zero, Option.some.injEq] at hm
      subst hm
      exact ⟨⟨b2, 0, rfl, cell_of_heap h2 rfl⟩, fun k s hs => by simp at hs⟩
    | k + 1, hm => simp [noU] at hm
theorem hp4 (w : World) (o0 o1 o2 o3 : Obj) : ((((w.alloc o0).alloc o1).alloc o2).alloc o3).heap[w.heap.size]? = some o0 ∧ ((((w.alloc o0).alloc o1).alloc o2).alloc o3).heap[w.heap.size + 1]? = some o1 ∧ ((((w.alloc o0).alloc o1).alloc o2).alloc o3).heap[w.heap.size + 1 + 1]? = some o2 ∧ ((((w.alloc o0).alloc o1).alloc o2).alloc o3).heap[w.heap.size + 1 + 1 + 1]? = some o3 := by
  have a (v : World) (o p : Obj) (k : Nat) (h : v.heap[k]? = some o) : (v.alloc p).heap[k]? = some o := ((Fr.refl [] v).alloc p).heap (by simp) h
  have n (v : World) (o : Obj) (k : Nat) (h : v.heap.size = k) : (v.alloc o).heap[k]? = some o := by rw [← h]; exact heap_new v o
  exact ⟨a _ _ _ _ (a _ _ _ _ (a _ _ _ _ (n _ _ _ rfl))), a _ _ _ _ (a _ _ _ _ (n _ _ _ (by simp))), a _ _ _ _ (n _ _ _ (by simp)), n _ _ _ (by simp)⟩
set_option maxRecDepth 100000 in
set_option maxHeartbeats 4000000 in
theorem irNone_walk (op : Int) (w : World) : Calls Try.prog 8 #[.int .i64 op] w (Still (.bool true) w) := by
  have ht := fun W => ir_Takes op W
  have hl := fun W => ir_Leaves op W
  by_cases hop : op < 1 ∨ 9 < op
  · obtain ⟨e1, e2, e3⟩ := op_none hop
    have hex : ∀ {b1 b2 b3 : Nat} W, UAt W (noU op b1 b2 b3) → Calls Try.prog 21 #[.agg #[.int .u64 2, .int .i64 0, .int .i64 0, .int .i64 0, .int .i64 0, .int .i64 0, .slice none 0 0, .slice (some ⟨b3, 0, none⟩) 1 1, .slice (some ⟨b1, 0, none⟩) 2 2, .slice (some ⟨b2, 0, none⟩) 1 1]] W (Still (.int .i64 1) W) := fun {b1 b2 b3} W hA => by
      have h := ir_Check (noU op b1 b2 b3) W hA (noU_UB op b1 b2 b3)
      rw [noU_no hop] at h
      exact h
    simp only [e1, e2, e3] at ht hl
    have hc : op < 1 ∨ 1 ≤ op ∧ 9 < op := by omega
    clear e1 e2 e3 hop
    rcases hc with hc | ⟨hc, hd⟩
    all_goals
      go_enter Try.func8, Try.ntmps8
      go_wp2_with (first
        | (go_at_call 9; refine (awake11 _).mono ?_; rintro e w1 ⟨rfl, hF⟩; have HF1 : Hid (Fr [] w w1) := Lib.hid hF; clear hF)
        | (go_at_call 10; refine (ht _).mono ?_; rintro e w2 ⟨rfl, hF⟩; have HF2 : Hid (Fr [] w w2) := Lib.hid (HF1.out.trans hF); clear hF)
        | (go_at_call 14; refine (hl _).mono ?_; rintro e w3 ⟨rfl, hF⟩; have HF3 : Hid (Fr [] w w3) := Lib.hid (((((HF2.out.alloc _).alloc _).alloc _).alloc _).trans hF); have HA3 : Hid (UAt w3 (noU op w2.heap.size (w2.heap.size + 1) (w2.heap.size + 1 + 1))) := Lib.hid (noU_at (hF.heap (by simp) (hp4 _ _ _ _ _).1) (hF.heap (by simp) (hp4 _ _ _ _ _).2.1) (hF.heap (by simp) (hp4 _ _ _ _ _).2.2.1)); have hb := hF.heap (by simp) (hp4 _ _ _ _ _).2.2.2; have b0 := cell_of_heap (o := 0) hb rfl; have b1 := cell_of_heap (o := 1) hb rfl; have b2 := cell_of_heap (o := 2) hb rfl; have b3 := cell_of_heap (o := 3) hb rfl; have b4 := cell_of_heap (o := 4) hb rfl; have b5 := cell_of_heap (o := 5) hb rfl; have b6 := cell_of_heap (o := 6) hb rfl; have b7 := cell_of_heap (o := 7) hb rfl; have b8 := cell_of_heap (o := 8) hb rfl; have b9 := cell_of_heap (o := 9) hb rfl; clear hF hb)
        | (go_at_call 21; refine (hex _ HA3.out).mono ?_; rintro e w4 ⟨rfl, hF⟩; have HF4 : Hid (Fr [] w w4) := Lib.hid (HF3.out.trans hF); clear hF))
      go_ret
      exact ⟨rfl, HF4.out⟩
  · have h0 : 0 ≤ lst op ∧ lst op ≤ mst op := by
      rcases op_cases op with h | h
      · exact absurd h hop
      · rcases h with rfl | rfl | rfl | rfl | rfl | rfl | rfl | rfl | rfl <;> decide
    obtain ⟨h1, h2⟩ := h0
    have h3 : 1 ≤ op := by omega
    have h4 : op ≤ 9 := by omega
    generalize lst op = lo at *
    generalize mst op = hi at *
    clear hop
    go_enter Try.func8, Try.ntmps8
    go_wp2_with (first
      | (go_at_call 9; refine (awake11 _).mono ?_; rintro e w1 ⟨rfl, hF⟩; have HF1 : Hid (Fr [] w w1) := Lib.hid hF; clear hF)
      | (go_at_call 10; refine (ht _).mono ?_; rintro e w2 ⟨rfl, hF⟩; have HF2 : Hid (Fr [] w w2) := Lib.hid (HF1.out.trans hF); clear hF))
    all_goals (go_ret; exact ⟨ret1 (vb (by first | rfl | (simp; done) | (simp; omega))), by (repeat (first | (with_reducible refine Fr.setCell ?_ (fun h => absurd h (Nat.lt_irrefl _)) _) | (with_reducible refine Fr.setCell ?_ (fun h => absurd h (by first | omega | (simp; done) | (simp; omega) | (dsimp only; omega))) _) | (with_reducible refine Fr.alloc ?_ _) | (with_reducible refine Fr.drew ?_) | (with_reducible refine Fr.drewN ?_ _) | (with_reducible exact HF2.out)))⟩)
end Go.Proofs.Ytcdpgchkdjjfgaa
