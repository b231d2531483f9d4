/- A heap that New made, and one that it did not: what the methods that only read return. -/
import Derived.Test.YtfcigjicikpabaaDoorSet
namespace Go.Proofs.YtfcigjicikpabaaDoor
open Go.RowKit

/-- a heap at block hb whose memory is m -/
structure HeapAt (w : World) (hb mb : Nat) (m : Mem) (wv sv : Value) : Prop where
  heap : w.heap[hb]? = some (.cells #[.pointer (some ⟨mb, 0, none⟩)] 28 (0, 0))
  mem : MemAt w mb m wv sv
/-- a heap that was never made -/
def NoHeap (hv : Value) (w : World) : Prop := hv = .pointer none ∨ ∃ hb, hv = .pointer (some ⟨hb, 0, none⟩) ∧ w.cell? ⟨hb, 0, none⟩ = some (.pointer none)
def Mem.none : Mem := ⟨0, [], [], 0, 0⟩
/-- the heap's memory is m, at block mb, once it was asked for -/
def Opens (hv : Value) (mb : Nat) (m : Mem) (wv sv : Value) (w : World) : Prop :=
  Calls Tryd.prog 23 #[hv] w fun e w' => e = .returned (.pointer (some ⟨mb, 0, none⟩)) ∧ MemAt w' mb m wv sv ∧ Fr [] w w'
theorem memory_at {w : World} {hb mb : Nat} {m : Mem} {wv sv : Value} (h : HeapAt w hb mb m wv sv) : Opens (.pointer (some ⟨hb, 0, none⟩)) mb m wv sv w := by
  have hc : w.cell? ⟨hb, 0, none⟩ = some (.pointer (some ⟨mb, 0, none⟩)) := cell_of_heap h.heap rfl
  have HM := Lib.hid h.mem
  clear h
  unfold Opens
  go_enter Tryd.func23, Tryd.ntmps23
  go_wp2
  go_ret
  exact ⟨rfl, HM.out, Fr.refl _ _⟩
theorem mem_none (w : World) : MemAt (w.alloc (.cells #[.int .i64 0, .slice none 0 0, .slice none 0 0, .int .u64 0, .int .i64 0] 66)) w.heap.size Mem.none (.slice none 0 0) (.slice none 0 0) :=
  ⟨heap_new _ _, World.ownsRow_nil _ _ _ _, World.ownsRow_nil _ _ _ _, by decide, rfl⟩
theorem memory_none {w : World} {hv : Value} (h : NoHeap hv w) : Opens hv w.heap.size Mem.none (.slice none 0 0) (.slice none 0 0) w := by
  have HM := Lib.hid (mem_none w)
  rcases h with rfl | ⟨hb, rfl, hc⟩
  · unfold Opens
    go_enter Tryd.func23, Tryd.ntmps23
    go_wp2
    go_ret
    exact ⟨rfl, HM.out, (Fr.refl _ _).alloc _⟩
  · unfold Opens
    go_enter Tryd.func23, Tryd.ntmps23
    go_wp2
    go_ret
    exact ⟨rfl, HM.out, (Fr.refl _ _).alloc _⟩

section
variable {w : World} {hv : Value} {mb : Nat} {m : Mem} {wv sv : Value}
theorem words_still (hO : Opens hv mb m wv sv w) : Calls Tryd.prog 16 #[hv] w (Still (.int .i64 m.lim) w) := by
  unfold Opens at hO
  go_enter Tryd.func16, Tryd.ntmps16
  go_wp2_with (go_at_call 23; refine hO.mono ?_; rintro e w' ⟨rfl, hM, hF⟩; have hc := hM.cell.1; clear hM)
  go_ret
  exact ⟨rfl, hF⟩
theorem used_still (hO : Opens hv mb m wv sv w) : Calls Tryd.prog 17 #[hv] w (Still (.int .i64 m.W.length) w) := by
  unfold Opens at hO
  go_enter Tryd.func17, Tryd.ntmps17
  go_wp2_with (go_at_call 23; refine hO.mono ?_; rintro e w' ⟨rfl, hM, hF⟩; obtain ⟨ao, cap, rfl⟩ := row_shape hM.words; have hc := hM.cell.2.1; clear hM)
  go_ret
  exact ⟨rfl, hF⟩
theorem hashes_still (hO : Opens hv mb m wv sv w) : Calls Tryd.prog 18 #[hv] w (Still (.int .i64 m.hashes) w) := by
  unfold Opens at hO
  go_enter Tryd.func18, Tryd.ntmps18
  go_wp2_with (go_at_call 23; refine hO.mono ?_; rintro e w' ⟨rfl, hM, hF⟩; have hc := hM.cell.2.2.2.2; clear hM)
  go_ret
  exact ⟨rfl, hF⟩
theorem root_still (hO : Opens hv mb m wv sv w) : Calls Tryd.prog 19 #[hv] w (Still (.int .u64 m.root) w) := by
  unfold Opens at hO
  go_enter Tryd.func19, Tryd.ntmps19
  go_wp2_with (go_at_call 23; refine hO.mono ?_; rintro e w' ⟨rfl, hM, hF⟩; have hc := hM.cell.2.2.2.1; clear hM)
  go_ret
  exact ⟨rfl, hF⟩
theorem has_still (hO : Opens hv mb m wv sv w) (x : Int) (h1 : 0 ≤ x) (h2 : x ≤ 18446744073709551615) : Calls Tryd.prog 15 #[hv, .int .u64 x] w (Still (.bool (stB m.M x)) w) := by
  unfold Opens at hO
  go_enter Tryd.func15, Tryd.ntmps15
  go_wp2_with (first
    | (go_at_call 23; refine hO.mono ?_; rintro e w' ⟨rfl, hM, hF⟩; have hc := start_any hM x h1 h2; clear hM)
    | (go_at_call 36; refine hc.mono ?_; rintro e w'' ⟨z, rfl, rfl⟩))
  go_ret
  exact ⟨rfl, hF⟩
theorem size_no (hO : Opens hv mb m wv sv w) (hg : Glob w) (x : Int) (h1 : 0 ≤ x) (h2 : x ≤ 18446744073709551615) (hx : stB m.M x = false) : Calls Tryd.prog 7 #[hv, .int .u64 x] w (Still (.tuple #[.int .i64 0, .int .i64 1]) w) := by
  unfold Opens at hO
  have HG := Lib.hid hg
  clear hg
  go_enter Tryd.func7, Tryd.ntmps7
  go_wp2_with (first
    | (go_at_call 23; refine hO.mono ?_; rintro e w' ⟨rfl, hM, hF⟩; have hc := find_no hM (HG.out.fr hF) x h1 h2 hx; have HF := Lib.hid hF; clear hM hF)
    | (go_at_call 29; refine hc.mono ?_; rintro e w'' ⟨s, rfl, hF2⟩; have HF2 := Lib.hid (HF.out.trans hF2); have he := errno_still s 1 w'' (HG.out.fr HF2.out); clear hF2)
    | (go_at_call 25; refine he.mono ?_; rintro e w3 ⟨rfl, hF3⟩))
  go_ret2
  exact ⟨rfl, HF2.out.trans hF3⟩
theorem class_no (hO : Opens hv mb m wv sv w) (hg : Glob w) (x : Int) (h1 : 0 ≤ x) (h2 : x ≤ 18446744073709551615) (hx : stB m.M x = false) : Calls Tryd.prog 8 #[hv, .int .u64 x] w (Still (.tuple #[.int .u64 0, .int .i64 1]) w) := by
  unfold Opens at hO
  have HG := Lib.hid hg
  clear hg
  go_enter Tryd.func8, Tryd.ntmps8
  go_wp2_with (first
    | (go_at_call 23; refine hO.mono ?_; rintro e w' ⟨rfl, hM, hF⟩; have hc := find_no hM (HG.out.fr hF) x h1 h2 hx; have HF := Lib.hid hF; clear hM hF)
    | (go_at_call 29; refine hc.mono ?_; rintro e w'' ⟨s, rfl, hF2⟩; have HF2 := Lib.hid (HF.out.trans hF2); have he := errno_still s 1 w'' (HG.out.fr HF2.out); clear hF2)
    | (go_at_call 25; refine he.mono ?_; rintro e w3 ⟨rfl, hF3⟩))
  go_ret2
  exact ⟨rfl, HF2.out.trans hF3⟩
theorem hash_no (hO : Opens hv mb m wv sv w) (hg : Glob w) (x : Int) (h1 : 0 ≤ x) (h2 : x ≤ 18446744073709551615) (hx : stB m.M x = false) : Calls Tryd.prog 9 #[hv, .int .u64 x] w (Still (.tuple #[.int .i64 0, .int .i64 1]) w) := by
  unfold Opens at hO
  have HG := Lib.hid hg
  clear hg
  go_enter Tryd.func9, Tryd.ntmps9
  go_wp2_with (first
    | (go_at_call 23; refine hO.mono ?_; rintro e w' ⟨rfl, hM, hF⟩; have hc := find_no hM (HG.out.fr hF) x h1 h2 hx; have HF := Lib.hid hF; clear hM hF)
    | (go_at_call 29; refine hc.mono ?_; rintro e w'' ⟨s, rfl, hF2⟩; have HF2 := Lib.hid (HF.out.trans hF2); have he := errno_still s 1 w'' (HG.out.fr HF2.out); clear hF2)
    | (go_at_call 25; refine he.mono ?_; rintro e w3 ⟨rfl, hF3⟩))
  go_ret2
  exact ⟨rfl, HF2.out.trans hF3⟩
theorem setRoot_no (hO : Opens hv mb m wv sv w) (hg : Glob w) (x : Int) (h1 : 0 ≤ x) (h2 : x ≤ 18446744073709551615) (hx : stB m.M x = false) : Calls Tryd.prog 13 #[hv, .int .u64 x] w (Still (.int .i64 1) w) := by
  unfold Opens at hO
  have HG := Lib.hid hg
  clear hg
  go_enter Tryd.func13, Tryd.ntmps13
  go_wp2_with (first
    | (go_at_call 23; refine hO.mono ?_; rintro e w' ⟨rfl, hM, hF⟩; have hc := find_no hM (HG.out.fr hF) x h1 h2 hx; have HF := Lib.hid hF; clear hM hF)
    | (go_at_call 29; refine hc.mono ?_; rintro e w'' ⟨s, rfl, hF2⟩; have HF2 := Lib.hid (HF.out.trans hF2); have he := errno_still s 1 w'' (HG.out.fr HF2.out); clear hF2)
    | (go_at_call 25; refine he.mono ?_; rintro e w3 ⟨rfl, hF3⟩))
  go_ret
  exact ⟨rfl, HF2.out.trans hF3⟩
theorem setClass_no (hO : Opens hv mb m wv sv w) (hg : Glob w) (x y : Int) (h1 : 0 ≤ x) (h2 : x ≤ 18446744073709551615) (hx : stB m.M x = false) : Calls Tryd.prog 11 #[hv, .int .u64 x, .int .u64 y] w (Still (.int .i64 1) w) := by
  unfold Opens at hO
  have HG := Lib.hid hg
  clear hg
  go_enter Tryd.func11, Tryd.ntmps11
  go_wp2_with (first
    | (go_at_call 23; refine hO.mono ?_; rintro e w' ⟨rfl, hM, hF⟩; have hc := find_no hM (HG.out.fr hF) x h1 h2 hx; have HF := Lib.hid hF; clear hM hF)
    | (go_at_call 29; refine hc.mono ?_; rintro e w'' ⟨s, rfl, hF2⟩; have HF2 := Lib.hid (HF.out.trans hF2); have he := errno_still s 1 w'' (HG.out.fr HF2.out); clear hF2)
    | (go_at_call 25; refine he.mono ?_; rintro e w3 ⟨rfl, hF3⟩))
  go_ret
  exact ⟨rfl, HF2.out.trans hF3⟩
theorem fetch_no (hO : Opens hv mb m wv sv w) (hg : Glob w) (x j : Int) (h1 : 0 ≤ x) (h2 : x ≤ 18446744073709551615) (hx : stB m.M x = false) : Calls Tryd.prog 10 #[hv, .int .u64 x, .int .i64 j] w (Still (.tuple #[.int .u64 0, .int .i64 1]) w) := by
  unfold Opens at hO
  have HG := Lib.hid hg
  clear hg
  go_enter Tryd.func10, Tryd.ntmps10
  go_wp2_with (first
    | (go_at_call 23; refine hO.mono ?_; rintro e w' ⟨rfl, hM, hF⟩; have hc := field_no hM (HG.out.fr hF) x j h1 h2 hx; have HF := Lib.hid hF; clear hM hF)
    | (go_at_call 33; refine hc.mono ?_; rintro e w'' ⟨s, rfl, hF2⟩; have HF2 := Lib.hid (HF.out.trans hF2); have he := errno_still s 1 w'' (HG.out.fr HF2.out); clear hF2)
    | (go_at_call 25; refine he.mono ?_; rintro e w3 ⟨rfl, hF3⟩))
  go_ret2
  exact ⟨rfl, HF2.out.trans hF3⟩
theorem store_no (hO : Opens hv mb m wv sv w) (hg : Glob w) (x j y : Int) (h1 : 0 ≤ x) (h2 : x ≤ 18446744073709551615) (hx : stB m.M x = false) : Calls Tryd.prog 12 #[hv, .int .u64 x, .int .i64 j, .int .u64 y] w (Still (.int .i64 1) w) := by
  unfold Opens at hO
  have HG := Lib.hid hg
  clear hg
  go_enter Tryd.func12, Tryd.ntmps12
  go_wp2_with (first
    | (go_at_call 23; refine hO.mono ?_; rintro e w' ⟨rfl, hM, hF⟩; have hc := field_no hM (HG.out.fr hF) x j h1 h2 hx; have HF := Lib.hid hF; clear hM hF)
    | (go_at_call 33; refine hc.mono ?_; rintro e w'' ⟨s, rfl, hF2⟩; have HF2 := Lib.hid (HF.out.trans hF2); have he := errno_still s 1 w'' (HG.out.fr HF2.out); clear hF2)
    | (go_at_call 25; refine he.mono ?_; rintro e w3 ⟨rfl, hF3⟩))
  go_ret
  exact ⟨rfl, HF2.out.trans hF3⟩
end
end Go.Proofs.YtfcigjicikpabaaDoor
