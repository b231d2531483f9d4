/- A heap that New made, and one that it did not: what the methods that only read return. What the heap's Alloc does. What the heap's methods return and do at an object. What heap.New does. The heap's Load, by what the memory's loaded answers. -/
import Derived.Test.YtomcfjckhajhmabGreatDoorMWords
import Derived.Test.YtomcfjckhajhmabGreatDoorMPlaces
namespace Go.Proofs.YtomcfjckhajhmabGreatDoor
open Go.RowKit

/-- a heap that was never made -/
def NoHeap (hv : Value) (w : World) : Prop := hv = .pointer none ∨ ∃ hb, hv = .pointer (some ⟨hb, 0, none⟩) ∧ w.cell? ⟨hb, 0, none⟩ = some (.pointer none)
def Mem.none : Mem := ⟨0, [], [], 0, 0⟩
section
variable {w : World} {hv : Value} {mb : Nat} {m : Mem} {wv sv : Value}
end
end Go.Proofs.YtomcfjckhajhmabGreatDoor
namespace Go.Proofs.YtomcfjckhajhmabGreatDoor
open Go.RowKit

section
variable {w : World} {hv : Value} {mb : Nat} {m : Mem} {wv sv : Value}
theorem Fr.cons {S : List Nat} {a b c : World} (h : Fr [] a b) (k : Fr S b c) : Fr S a c := h.trans' k (fun _ _ e => by cases e) (fun _ _ e => e)
end
end Go.Proofs.YtomcfjckhajhmabGreatDoor
namespace Go.Proofs.YtomcfjckhajhmabGreatDoor
open Go.RowKit

section
variable {w : World} {hv : Value} {mb : Nat} {m : Mem} {wv sv : Value}
/-! Hash -/
/-! SetClass, Store, SetRoot -/
end
end Go.Proofs.YtomcfjckhajhmabGreatDoor
namespace Go.Proofs.YtomcfjckhajhmabGreatDoor
open Go.RowKit

/-- a memory without objects -/
def Mem.fresh (n : Int) : Mem := ⟨n, [0], [false], 0, 0⟩
theorem makeW (n : Nat) (h1 : 1 ≤ n) (h2 : n ≤ 65536) : ∃ Z : Array Value, Hid (Z.size = n ∧ Z.toList.take 1 = [Value.int .u64 0]) ∧ ∀ W : World, (Instr.makeSlice 22 (.int .i64 1) (.int .i64 (n : Int))).run Tryz.prog W = .ok (.slice (some ⟨W.heap.size, 0, none⟩) 1 n) (W.alloc (.cells Z 29)) := by
  obtain ⟨i0, hi, hz0, hz1, hz2⟩ := info_parts infoWord
  refine ⟨madeCells (Value.int .u64 0).cells n, ⟨size_madeCells _ _, ?_⟩, fun W => ?_⟩
  · rw [show (Value.int .u64 0).cells = #[Value.int .u64 0] from rfl, toList_madeCells_one, List.take_replicate, Nat.min_eq_left h1]
    rfl
  · have hr := run_make (P := Tryz.prog) W 22 29 i0 (.int .u64 0) Tryz.underlying22 hi hz0 .i64 .i64 1 n (by omega) (by omega) (by rw [hz2]; omega) (by omega)
    simp only [Int.toNat_natCast, hz1, Nat.mul_one, Int.toNat_one] at hr
    exact hr
theorem makeB (n : Nat) (h1 : 1 ≤ n) (h2 : n ≤ 65536) : ∃ Z : Array Value, Hid (Z.size = n ∧ Z.toList.take 1 = [Value.bool false]) ∧ ∀ W : World, (Instr.makeSlice 26 (.int .i64 1) (.int .i64 (n : Int))).run Tryz.prog W = .ok (.slice (some ⟨W.heap.size, 0, none⟩) 1 n) (W.alloc (.cells Z 4)) := by
  obtain ⟨i0, hi, hz0, hz1, hz2⟩ := info_parts infoBool
  refine ⟨madeCells (Value.bool false).cells n, ⟨size_madeCells _ _, ?_⟩, fun W => ?_⟩
  · rw [show (Value.bool false).cells = #[Value.bool false] from rfl, toList_madeCells_one, List.take_replicate, Nat.min_eq_left h1]
    rfl
  · have hr := run_make (P := Tryz.prog) W 26 4 i0 (.bool false) Tryz.underlying26 hi hz0 .i64 .i64 1 n (by omega) (by omega) (by rw [hz2]; omega) (by omega)
    simp only [Int.toNat_natCast, hz1, Nat.mul_one, Int.toNat_one] at hr
    exact hr
theorem three_new (w : World) (a b c : Obj) : (((w.alloc a).alloc b).alloc c).heap[w.heap.size]? = some a ∧ (((w.alloc a).alloc b).alloc c).heap[w.heap.size + 1]? = some b ∧ (((w.alloc a).alloc b).alloc c).heap[w.heap.size + 1 + 1]? = some c := by
  refine ⟨?_, ?_, ?_⟩
  · rw [Below.heap_alloc _ _ _ (by simp; omega), Below.heap_alloc _ _ _ (by simp)]; exact heap_new w a
  · rw [Below.heap_alloc _ _ _ (by simp)]
    have := heap_new (w.alloc a) b
    simpa using this
  · have := heap_new ((w.alloc a).alloc b) c
    simpa using this
end Go.Proofs.YtomcfjckhajhmabGreatDoor
namespace Go.Proofs.YtomcfjckhajhmabGreatDoor
open Go.RowKit
section
variable {hv : Value} {mb : Nat} {m : Mem} {wv sv : Value} {w : World}

end
end Go.Proofs.YtomcfjckhajhmabGreatDoor
