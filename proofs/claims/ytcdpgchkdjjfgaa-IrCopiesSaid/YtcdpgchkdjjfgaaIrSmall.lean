/- ir: operations and sources. -/
import Derived.Test.YtcdpgchkdjjfgaaIrPure
import Derived.Laws.ResultCell
namespace Go.Proofs.Ytcdpgchkdjjfgaa
open Go.RowKit

theorem hp2 (w : World) (o1 o2 : Obj) : ((w.alloc o1).alloc o2).heap[w.heap.size + 1]? = some o2 := by
  have := heap_new (w.alloc o1) o2
  simpa using this
theorem hp1 (w : World) (o1 o2 : Obj) : ((w.alloc o1).alloc o2).heap[w.heap.size]? = some o1 := ((Fr.refl [] _).alloc o2).heap (by simp) (heap_new w o1)
theorem hp3 (w : World) (o1 o2 o3 : Obj) : (((w.alloc o1).alloc o2).alloc o3).heap[w.heap.size + 1 + 1]? = some o3 := by
  have := heap_new ((w.alloc o1).alloc o2) o3
  simpa using this
theorem hp3a (w : World) (o1 o2 o3 : Obj) : (((w.alloc o1).alloc o2).alloc o3).heap[w.heap.size]? = some o1 := ((Fr.refl [] _).alloc o3).heap (by simp) (hp1 w o1 o2)
theorem hp3b (w : World) (o1 o2 o3 : Obj) : (((w.alloc o1).alloc o2).alloc o3).heap[w.heap.size + 1]? = some o2 := ((Fr.refl [] _).alloc o3).heap (by simp) (hp2 w o1 o2)
theorem ir_within (a b c : Int) (w : World) : Calls Try.prog 39 #[.int .i64 a, .int .i64 b, .int .i64 c] w (Gives (.bool (wtn a b c)) w) := by
  go_enter Try.func39, Try.ntmps39
  go_wp2
  all_goals (go_ret; exact ⟨ret1 (vb (by unfold wtn; simp; try omega)), rfl⟩)
theorem r11_within (a b c : Int) (w : World) : Calls Try.prog 30 #[.int .i64 a, .int .i64 b, .int .i64 c] w (Gives (.bool (wtn a b c)) w) := by
  go_enter Try.func30, Try.ntmps30
  go_wp2
  all_goals (go_ret; exact ⟨ret1 (vb (by unfold wtn; simp; try omega)), rfl⟩)
theorem ir_Place (s : Sr) (w : World) : Calls Try.prog 16 #[s.v] w (Still (.bool (plc s)) w) := by
  obtain ⟨k, n, x⟩ := s
  unfold Sr.v
  simp only
  go_enter Try.func16, Try.ntmps16
  go_wp2
  all_goals (go_ret; exact ⟨ret1 (vb (by unfold plc; rw [Bool.eq_iff_iff]; simp; try omega)), (Fr.refl _ _).alloc _⟩)
theorem r11_Place (s : Sr) (w : World) : Calls Try.prog 17 #[s.v] w (Still (.bool (plc s)) w) := by
  obtain ⟨k, n, x⟩ := s
  unfold Sr.v
  simp only
  go_enter Try.func17, Try.ntmps17
  go_wp2
  all_goals (go_ret; exact ⟨ret1 (vb (by unfold plc; rw [Bool.eq_iff_iff]; simp; try omega)), (Fr.refl _ _).alloc _⟩)
theorem r11_Leaves (op : Int) (w : World) : Calls Try.prog 15 #[.int .i64 op] w (Gives (.bool (lvs op)) w) := by
  go_enter Try.func15, Try.ntmps15
  go_wp2
  all_goals (go_ret; exact ⟨ret1 (vb (by unfold lvs; rw [Bool.eq_iff_iff]; simp; try omega)), rfl⟩)
/-- one of the numbers of operations, or none -/
theorem op_cases (op : Int) : (op < 1 ∨ 9 < op) ∨ op = 1 ∨ op = 2 ∨ op = 3 ∨ op = 4 ∨ op = 5 ∨ op = 6 ∨ op = 7 ∨ op = 8 ∨ op = 9 := by omega
theorem op_none {op : Int} (h : op < 1 ∨ 9 < op) : lst op = 0 ∧ mst op = -1 ∧ lvs op = false := by
  unfold lst mst lvs
  refine ⟨?_, ?_, ?_⟩
  · rw [if_neg (by omega), if_neg (by omega)]
  · rw [if_neg (by omega), if_neg (by omega), if_neg (by omega), if_neg (by omega)]
  · simp; omega
theorem r11_Takes (op : Int) (w : World) : Calls Try.prog 11 #[.int .i64 op] w (Gives (.tuple #[.int .i64 (lst op), .int .i64 (mst op)]) w) := by
  rcases op_cases op with h | h
  · obtain ⟨e1, e2, -⟩ := op_none h
    rw [e1, e2]
    clear e1 e2
    have h1 : op ≠ 1 := by omega
    have h2 : op ≠ 2 := by omega
    have h3 : op ≠ 3 := by omega
    have h4 : op ≠ 4 := by omega
    have h5 : op ≠ 5 := by omega
    have h6 : op ≠ 6 := by omega
    have h7 : op ≠ 7 := by omega
    have h8 : op ≠ 8 := by omega
    have h9 : op ≠ 9 := by omega
    clear h
    go_enter Try.func11, Try.ntmps11
    go_wp2
    go_ret2
    exact ⟨rfl, rfl⟩
  · rcases h with rfl | rfl | rfl | rfl | rfl | rfl | rfl | rfl | rfl
    all_goals
      go_enter Try.func11, Try.ntmps11
      go_wp2
      go_ret2
      exact ⟨rfl, rfl⟩
end Go.Proofs.Ytcdpgchkdjjfgaa
