/- What heap.New does. -/
import Derived.Test.YtfcigjicikpabaaDoorAlloc
namespace Go.Proofs.YtfcigjicikpabaaDoor
open Go.RowKit

/-- a memory without objects -/
def Mem.fresh (n : Int) : Mem := ⟨n, [0], [false], 0, 0⟩
theorem new_no (n : Int) (w : World) (h : n < 64 ∨ 65536 < n) : Calls Tryd.prog 22 #[.int .i64 n] w (Gives (.tuple #[.pointer none, .int .i64 1]) w) := by
  rcases h with h | h
  · go_enter Tryd.func22, Tryd.ntmps22
    go_wp2
    go_ret2
    exact ⟨rfl, rfl⟩
  · have h' : ¬ n < 64 := by omega
    go_enter Tryd.func22, Tryd.ntmps22
    go_wp2
    go_ret2
    exact ⟨rfl, rfl⟩
/-- Returned a new heap with memory m. -/
def Made (m : Mem) (w : World) (e : Ending) (w' : World) : Prop :=
  ∃ hb mb wv sv, e = .returned (.tuple #[.pointer (some ⟨hb, 0, none⟩), .int .i64 0]) ∧ HeapAt w' hb mb m wv sv ∧ Fr [] w w' ∧ w.heap.size ≤ hb ∧ ∀ k ∈ foot mb wv sv, w.heap.size ≤ k
theorem makeW (n : Nat) (h1 : 1 ≤ n) (h2 : n ≤ 65536) : ∃ Z : Array Value, Hid (Z.size = n ∧ Z.toList.take 1 = [Value.int .u64 0]) ∧ ∀ W : World, (Instr.makeSlice 44 (.int .i64 1) (.int .i64 (n : Int))).run Tryd.prog W = .ok (.slice (some ⟨W.heap.size, 0, none⟩) 1 n) (W.alloc (.cells Z 23)) := by
  obtain ⟨i0, hi, hz0, hz1, hz2⟩ := info_parts infoWord
  refine ⟨madeCells (Value.int .u64 0).cells n, ⟨size_madeCells _ _, ?_⟩, fun W => ?_⟩
  · rw [show (Value.int .u64 0).cells = #[Value.int .u64 0] from rfl, toList_madeCells_one, List.take_replicate, Nat.min_eq_left h1]
    rfl
  · have hr := run_make (P := Tryd.prog) W 44 23 i0 (.int .u64 0) Tryd.underlying44 hi hz0 .i64 .i64 1 n (by omega) (by omega) (by rw [hz2]; omega) (by omega)
    simp only [Int.toNat_natCast, hz1, Nat.mul_one, Int.toNat_one] at hr
    exact hr
theorem makeB (n : Nat) (h1 : 1 ≤ n) (h2 : n ≤ 65536) : ∃ Z : Array Value, Hid (Z.size = n ∧ Z.toList.take 1 = [Value.bool false]) ∧ ∀ W : World, (Instr.makeSlice 64 (.int .i64 1) (.int .i64 (n : Int))).run Tryd.prog W = .ok (.slice (some ⟨W.heap.size, 0, none⟩) 1 n) (W.alloc (.cells Z 4)) := by
  obtain ⟨i0, hi, hz0, hz1, hz2⟩ := info_parts infoBool
  refine ⟨madeCells (Value.bool false).cells n, ⟨size_madeCells _ _, ?_⟩, fun W => ?_⟩
  · rw [show (Value.bool false).cells = #[Value.bool false] from rfl, toList_madeCells_one, List.take_replicate, Nat.min_eq_left h1]
    rfl
  · have hr := run_make (P := Tryd.prog) W 64 4 i0 (.bool false) Tryd.underlying64 hi hz0 .i64 .i64 1 n (by omega) (by omega) (by rw [hz2]; omega) (by omega)
    simp only [Int.toNat_natCast, hz1, Nat.mul_one, Int.toNat_one] at hr
    exact hr
/-- a memory without objects, out of its three blocks -/
theorem fresh_mem {w : World} {a b c n : Nat} {lim : Int} {Z Y : Array Value} (hn1 : 1 ≤ n) (hn : n ≤ 65536) (hZ : Z.size = n ∧ Z.toList.take 1 = [Value.int .u64 0]) (hY : Y.size = n ∧ Y.toList.take 1 = [Value.bool false])
    (h1 : w.heap[a]? = some (.cells Z 23 (0, 0))) (h2 : w.heap[b]? = some (.cells Y 4 (0, 0))) (h3 : w.heap[c]? = some (.cells #[.int .i64 lim, .slice (some ⟨a, 0, none⟩) 1 n, .slice (some ⟨b, 0, none⟩) 1 n, .int .u64 0, .int .i64 0] 66 (0, 0))) :
    MemAt w c (Mem.fresh lim) (.slice (some ⟨a, 0, none⟩) 1 n) (.slice (some ⟨b, 0, none⟩) 1 n) :=
  ⟨h3, ⟨rfl, .inr ⟨a, n, Z, rfl, Nat.zero_le _, h1, hn1, by unfold maxLen; omega, by rw [hZ.1, Nat.mul_one], hZ.2⟩⟩, ⟨rfl, .inr ⟨b, n, Y, rfl, Nat.zero_le _, h2, hn1, by unfold maxLen; omega, by rw [hY.1, Nat.mul_one], hY.2⟩⟩, by simp [Mem.fresh], rfl⟩
theorem three_new (w : World) (a b c : Obj) : (((w.alloc a).alloc b).alloc c).heap[w.heap.size]? = some a ∧ (((w.alloc a).alloc b).alloc c).heap[w.heap.size + 1]? = some b ∧ (((w.alloc a).alloc b).alloc c).heap[w.heap.size + 1 + 1]? = some c := by
  refine ⟨?_, ?_, ?_⟩
  · rw [Below.heap_alloc _ _ _ (by simp; omega), Below.heap_alloc _ _ _ (by simp)]; exact heap_new w a
  · rw [Below.heap_alloc _ _ _ (by simp)]
    have := heap_new (w.alloc a) b
    simpa using this
  · have := heap_new ((w.alloc a).alloc b) c
    simpa using this
/-- Returned a new memory m. -/
def MadeMem (m : Mem) (w : World) (e : Ending) (w' : World) : Prop :=
  ∃ mb wv sv, e = .returned (.pointer (some ⟨mb, 0, none⟩)) ∧ MemAt w' mb m wv sv ∧ Fr [] w w' ∧ ∀ k ∈ foot mb wv sv, w.heap.size ≤ k
set_option maxHeartbeats 1000000 in
theorem empty_made (lim : Int) (n : Nat) (w : World) (h1 : 1 ≤ n) (h2 : n ≤ 65536) : Calls Tryd.prog 40 #[.int .i64 lim, .int .i64 n] w (MadeMem (Mem.fresh lim) w) := by
  obtain ⟨Z, HZ, hZ⟩ := makeW n h1 h2
  obtain ⟨Y, HY, hY⟩ := makeB n h1 h2
  go_enter Tryd.func40, Tryd.ntmps40
  go_wp2
  go_region
  all_goals go_wp2
  all_goals go_ret
  · obtain ⟨e1, e2, e3⟩ := three_new w (.cells Z 23) (.cells Y 4) (.cells #[.int .i64 lim, .slice (some ⟨w.heap.size, 0, none⟩) 1 n, .slice (some ⟨w.heap.size + 1, 0, none⟩) 1 n, .int .u64 0, .int .i64 0] 66)
    exact ⟨_, _, _, rfl, (fresh_mem h1 h2 HZ.out HY.out e1 e2 e3).fr0 (Fr.refl _ _).drew, ((((Fr.refl _ _).alloc _).alloc _).alloc _).drew, by simp [foot, Value.ownBlock]; omega⟩
  · obtain ⟨e1, e2, e3⟩ := three_new w (.cells Y 4) (.cells Z 23) (.cells #[.int .i64 lim, .slice (some ⟨w.heap.size + 1, 0, none⟩) 1 n, .slice (some ⟨w.heap.size, 0, none⟩) 1 n, .int .u64 0, .int .i64 0] 66)
    exact ⟨_, _, _, rfl, (fresh_mem h1 h2 HZ.out HY.out e2 e1 e3).fr0 (Fr.refl _ _).drew, ((((Fr.refl _ _).alloc _).alloc _).alloc _).drew, by simp [foot, Value.ownBlock]; omega⟩
theorem new_made (n : Int) (w : World) (h1 : 64 ≤ n) (h2 : n ≤ 65536) : Calls Tryd.prog 22 #[.int .i64 n] w (Made (Mem.fresh n) w) := by
  have hc : Calls Tryd.prog 40 #[.int .i64 n, .int .i64 1] w (MadeMem (Mem.fresh n) w) := empty_made n 1 w (by omega) (by omega)
  go_enter Tryd.func22, Tryd.ntmps22
  go_wp2_with (go_at_call 40; refine hc.mono ?_; rintro e w1 ⟨mb, wv, sv, rfl, hM, hF, hfr⟩; have HM := Lib.hid hM; have HF := Lib.hid hF; have HFR := Lib.hid hfr; clear hM hF hfr)
  go_ret2
  exact ⟨_, mb, wv, sv, rfl, ⟨heap_new _ _, HM.out.fr0 ((Fr.refl _ _).alloc _)⟩, HF.out.alloc _, HF.out.size, HFR.out⟩
end Go.Proofs.YtfcigjicikpabaaDoor
