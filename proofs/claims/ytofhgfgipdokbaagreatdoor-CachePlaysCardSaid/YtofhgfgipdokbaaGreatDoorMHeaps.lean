/- A heap that New made, and one that it did not: what the methods that only read return. What the heap's Alloc does. What the heap's methods return and do at an object. What heap.New does. The heap's Load, by what the memory's loaded answers. -/
import Derived.Test.YtofhgfgipdokbaaGreatDoorMWords
import Derived.Test.YtofhgfgipdokbaaGreatDoorMPlaces
namespace Go.Proofs.YtofhgfgipdokbaaGreatDoor
open Go.RowKit

/-- a heap at block hb whose memory is m -/
structure HeapAt (w : World) (hb mb : Nat) (m : Mem) (wv sv : Value) : Prop where
  heap : w.heap[hb]? = some (.cells #[.pointer (some ⟨mb, 0, none⟩)] 90 (0, 0))
  mem : MemAt w mb m wv sv
/-- a heap that was never made -/
def NoHeap (hv : Value) (w : World) : Prop := hv = .pointer none ∨ ∃ hb, hv = .pointer (some ⟨hb, 0, none⟩) ∧ w.cell? ⟨hb, 0, none⟩ = some (.pointer none)
def Mem.none : Mem := ⟨0, [], [], 0, 0⟩
/-- the heap's memory is m, at block mb, once it was asked for -/
def Opens (hv : Value) (mb : Nat) (m : Mem) (wv sv : Value) (w : World) : Prop :=
  Calls Tryz.prog 28 #[hv] w fun e w' => e = .returned (.pointer (some ⟨mb, 0, none⟩)) ∧ MemAt w' mb m wv sv ∧ Fr [] w w'
theorem memory_at {w : World} {hb mb : Nat} {m : Mem} {wv sv : Value} (h : HeapAt w hb mb m wv sv) : Opens (.pointer (some ⟨hb, 0, none⟩)) mb m wv sv w := by
  have hc : w.cell? ⟨hb, 0, none⟩ = some (.pointer (some ⟨mb, 0, none⟩)) := cell_of_heap h.heap rfl
  have HM := Lib.hid h.mem
  clear h
  unfold Opens
  go_enter Tryz.func28, Tryz.ntmps28
  go_wp2
  go_ret
  exact ⟨rfl, HM.out, Fr.refl _ _⟩
theorem mem_none (w : World) : MemAt (w.alloc (.cells #[.int .i64 0, .slice none 0 0, .slice none 0 0, .int .u64 0, .int .i64 0] 101)) w.heap.size Mem.none (.slice none 0 0) (.slice none 0 0) :=
  ⟨heap_new _ _, World.ownsRow_nil _ _ _ _, World.ownsRow_nil _ _ _ _, by decide, rfl⟩
theorem memory_none {w : World} {hv : Value} (h : NoHeap hv w) : Opens hv w.heap.size Mem.none (.slice none 0 0) (.slice none 0 0) w := by
  have HM := Lib.hid (mem_none w)
  rcases h with rfl | ⟨hb, rfl, hc⟩
  · unfold Opens
    go_enter Tryz.func28, Tryz.ntmps28
    go_wp2
    go_ret
    exact ⟨rfl, HM.out, (Fr.refl _ _).alloc _⟩
  · unfold Opens
    go_enter Tryz.func28, Tryz.ntmps28
    go_wp2
    go_ret
    exact ⟨rfl, HM.out, (Fr.refl _ _).alloc _⟩

section
variable {w : World} {hv : Value} {mb : Nat} {m : Mem} {wv sv : Value}
theorem used_still (hO : Opens hv mb m wv sv w) : Calls Tryz.prog 85 #[hv] w (Still (.int .i64 m.W.length) w) := by
  unfold Opens at hO
  go_enter Tryz.func85, Tryz.ntmps85
  go_wp2_with (go_at_call 28; refine hO.mono ?_; rintro e w' ⟨rfl, hM, hF⟩; obtain ⟨ao, cap, rfl⟩ := row_shape hM.words; have hc := hM.cell.2.1; clear hM)
  go_ret
  exact ⟨rfl, hF⟩
theorem root_still (hO : Opens hv mb m wv sv w) : Calls Tryz.prog 97 #[hv] w (Still (.int .u64 m.root) w) := by
  unfold Opens at hO
  go_enter Tryz.func97, Tryz.ntmps97
  go_wp2_with (go_at_call 28; refine hO.mono ?_; rintro e w' ⟨rfl, hM, hF⟩; have hc := hM.cell.2.2.2.1; clear hM)
  go_ret
  exact ⟨rfl, hF⟩
theorem has_still (hO : Opens hv mb m wv sv w) (x : Int) (h1 : 0 ≤ x) (h2 : x ≤ 18446744073709551615) : Calls Tryz.prog 82 #[hv, .int .u64 x] w (Still (.bool (stB m.M x)) w) := by
  unfold Opens at hO
  go_enter Tryz.func82, Tryz.ntmps82
  go_wp2_with (first
    | (go_at_call 28; refine hO.mono ?_; rintro e w' ⟨rfl, hM, hF⟩; have hc := start_any hM x h1 h2; clear hM)
    | (go_at_call 75; refine hc.mono ?_; rintro e w'' ⟨z, rfl, rfl⟩))
  go_ret
  exact ⟨rfl, hF⟩
theorem size_no (hO : Opens hv mb m wv sv w) (hg : Glob w) (x : Int) (h1 : 0 ≤ x) (h2 : x ≤ 18446744073709551615) (hx : stB m.M x = false) : Calls Tryz.prog 98 #[hv, .int .u64 x] w (Still (.tuple #[.int .i64 0, .int .i64 1]) w) := by
  unfold Opens at hO
  have HG := Lib.hid hg
  clear hg
  go_enter Tryz.func98, Tryz.ntmps98
  go_wp2_with (first
    | (go_at_call 28; refine hO.mono ?_; rintro e w' ⟨rfl, hM, hF⟩; have hc := find_no hM (HG.out.fr hF) x h1 h2 hx; have HF := Lib.hid hF; clear hM hF)
    | (go_at_call 107; refine hc.mono ?_; rintro e w'' ⟨s, rfl, hF2⟩; have HF2 := Lib.hid (HF.out.trans hF2); have he := errno_still s 1 w'' (HG.out.fr HF2.out); clear hF2)
    | (go_at_call 42; refine he.mono ?_; rintro e w3 ⟨rfl, hF3⟩))
  go_ret2
  exact ⟨rfl, HF2.out.trans hF3⟩
theorem class_no (hO : Opens hv mb m wv sv w) (hg : Glob w) (x : Int) (h1 : 0 ≤ x) (h2 : x ≤ 18446744073709551615) (hx : stB m.M x = false) : Calls Tryz.prog 108 #[hv, .int .u64 x] w (Still (.tuple #[.int .u64 0, .int .i64 1]) w) := by
  unfold Opens at hO
  have HG := Lib.hid hg
  clear hg
  go_enter Tryz.func108, Tryz.ntmps108
  go_wp2_with (first
    | (go_at_call 28; refine hO.mono ?_; rintro e w' ⟨rfl, hM, hF⟩; have hc := find_no hM (HG.out.fr hF) x h1 h2 hx; have HF := Lib.hid hF; clear hM hF)
    | (go_at_call 107; refine hc.mono ?_; rintro e w'' ⟨s, rfl, hF2⟩; have HF2 := Lib.hid (HF.out.trans hF2); have he := errno_still s 1 w'' (HG.out.fr HF2.out); clear hF2)
    | (go_at_call 42; refine he.mono ?_; rintro e w3 ⟨rfl, hF3⟩))
  go_ret2
  exact ⟨rfl, HF2.out.trans hF3⟩
theorem fetch_no (hO : Opens hv mb m wv sv w) (hg : Glob w) (x j : Int) (h1 : 0 ≤ x) (h2 : x ≤ 18446744073709551615) (hx : stB m.M x = false) : Calls Tryz.prog 88 #[hv, .int .u64 x, .int .i64 j] w (Still (.tuple #[.int .u64 0, .int .i64 1]) w) := by
  unfold Opens at hO
  have HG := Lib.hid hg
  clear hg
  go_enter Tryz.func88, Tryz.ntmps88
  go_wp2_with (first
    | (go_at_call 28; refine hO.mono ?_; rintro e w' ⟨rfl, hM, hF⟩; have hc := field_no hM (HG.out.fr hF) x j h1 h2 hx; have HF := Lib.hid hF; clear hM hF)
    | (go_at_call 104; refine hc.mono ?_; rintro e w'' ⟨s, rfl, hF2⟩; have HF2 := Lib.hid (HF.out.trans hF2); have he := errno_still s 1 w'' (HG.out.fr HF2.out); clear hF2)
    | (go_at_call 42; refine he.mono ?_; rintro e w3 ⟨rfl, hF3⟩))
  go_ret2
  exact ⟨rfl, HF2.out.trans hF3⟩
end
end Go.Proofs.YtofhgfgipdokbaaGreatDoor
namespace Go.Proofs.YtofhgfgipdokbaaGreatDoor
open Go.RowKit

section
variable {w : World} {hv : Value} {mb : Nat} {m : Mem} {wv sv : Value}
/-- Returned v; the heap's memory is m' now; nothing but the blocks of S has changed; its blocks are of S, or new. -/
def Turns (v : Value) (mb : Nat) (m' : Mem) (S : List Nat) (w : World) (e : Ending) (w' : World) : Prop :=
  e = .returned v ∧ ∃ wv' sv', MemAt w' mb m' wv' sv' ∧ Fr S w w' ∧ ∀ k ∈ foot mb wv' sv', k ∈ S ∨ w.heap.size ≤ k
theorem Fr.cons {S : List Nat} {a b c : World} (h : Fr [] a b) (k : Fr S b c) : Fr S a c := h.trans' k (fun _ _ e => by cases e) (fun _ _ e => e)
end
end Go.Proofs.YtofhgfgipdokbaaGreatDoor
namespace Go.Proofs.YtofhgfgipdokbaaGreatDoor
open Go.RowKit

section
variable {w : World} {hv : Value} {mb : Nat} {m : Mem} {wv sv : Value}
theorem size_yes (hO : Opens hv mb m wv sv w) (k z : Nat) (hk : m.M[k]? = some true) (h1 : 1 ≤ k) (h2 : k ≤ 2147483647) (hz : m.W[k + 2]? = some (z : Int)) (hz2 : z ≤ 65536) : Calls Tryz.prog 98 #[hv, .int .u64 (2 * k)] w (Still (.tuple #[.int .i64 z, .int .i64 0]) w) := by
  unfold Opens at hO
  have HK := Lib.hid hk
  have HZ := Lib.hid hz
  clear hk hz
  go_enter Tryz.func98, Tryz.ntmps98
  go_wp2_with (first
    | (go_at_call 28; refine hO.mono ?_; rintro e w' ⟨rfl, hM, hF⟩; have hc := find_yes hM k HK.out h1 h2; have hs := size_gives hM k z HZ.out hz2; have HF := Lib.hid hF; clear hM hF)
    | (go_at_call 107; refine hc.mono ?_; rintro e w'' ⟨rfl, rfl⟩)
    | (go_at_call 48; refine hs.mono ?_; rintro e w3 ⟨rfl, rfl⟩))
  go_ret2
  exact ⟨rfl, HF.out⟩
theorem class_yes (hO : Opens hv mb m wv sv w) (k : Nat) (c : Int) (hk : m.M[k]? = some true) (h1 : 1 ≤ k) (h2 : k ≤ 2147483647) (hz : m.W[k]? = some c) : Calls Tryz.prog 108 #[hv, .int .u64 (2 * k)] w (Still (.tuple #[.int .u64 c, .int .i64 0]) w) := by
  unfold Opens at hO
  have HK := Lib.hid hk
  have HZ := Lib.hid hz
  have hkl : k < m.W.length := (List.getElem?_eq_some_iff.1 hz).1
  clear hk hz
  go_enter Tryz.func108, Tryz.ntmps108
  go_wp2_with (first
    | (go_at_call 28; refine hO.mono ?_; rintro e w' ⟨rfl, hM, hF⟩; have hc := find_yes hM k HK.out h1 h2; have hmost := hM.most; obtain ⟨g, cap, -, hw, hcl, -, -, hi⟩ := words_at hM HZ.out; have HF := Lib.hid hF; clear hM hF)
    | (go_at_call 107; refine hc.mono ?_; rintro e w'' ⟨rfl, rfl⟩))
  go_ret2
  exact ⟨rfl, HF.out⟩
theorem fetch_far (hO : Opens hv mb m wv sv w) (hg : Glob w) (k z : Nat) (j : Int) (hk : m.M[k]? = some true) (h1 : 1 ≤ k) (hz : m.W[k + 2]? = some (z : Int)) (hz2 : z ≤ 65536) (hj : j < 0 ∨ (z : Int) ≤ j) (j1 : -9223372036854775808 ≤ j) (j2 : j ≤ 9223372036854775807) : Calls Tryz.prog 88 #[hv, .int .u64 (2 * k), .int .i64 j] w (Still (.tuple #[.int .u64 0, .int .i64 1]) w) := by
  unfold Opens at hO
  have HG := Lib.hid hg
  have HC : Hid (∀ w', MemAt w' mb m wv sv → Glob w' → Calls Tryz.prog 104 #[.pointer (some ⟨mb, 0, none⟩), .int .u64 (2 * k), .int .i64 j] w' (Fails2 1 w')) := fun w' hM hG => field_far hM hG k z j hk h1 hz hz2 hj j1 j2
  clear hg hk hz hj
  go_enter Tryz.func88, Tryz.ntmps88
  go_wp2_with (first
    | (go_at_call 28; refine hO.mono ?_; rintro e w' ⟨rfl, hM, hF⟩; have hc := HC.out w' hM (HG.out.fr hF); have HF := Lib.hid hF; clear hM hF)
    | (go_at_call 104; refine hc.mono ?_; rintro e w'' ⟨s, rfl, hF2⟩; have HF2 := Lib.hid (HF.out.trans hF2); have he := errno_still s 1 w'' (HG.out.fr HF2.out); clear hF2)
    | (go_at_call 42; refine he.mono ?_; rintro e w3 ⟨rfl, hF3⟩))
  go_ret2
  exact ⟨rfl, HF2.out.trans hF3⟩
theorem fetch_yes (hO : Opens hv mb m wv sv w) (k z j : Nat) (v : Int) (hk : m.M[k]? = some true) (h1 : 1 ≤ k) (hz : m.W[k + 2]? = some (z : Int)) (hz2 : z ≤ 65536) (hj : j < z) (hv' : m.W[k + 3 + j]? = some v) : Calls Tryz.prog 88 #[hv, .int .u64 (2 * k), .int .i64 j] w (Still (.tuple #[.int .u64 v, .int .i64 0]) w) := by
  unfold Opens at hO
  have HV := Lib.hid hv'
  have HC : Hid (∀ w', MemAt w' mb m wv sv → Calls Tryz.prog 104 #[.pointer (some ⟨mb, 0, none⟩), .int .u64 (2 * k), .int .i64 j] w' (Gives (.tuple #[.int .i64 (k + 3 + j), .nilIface]) w')) := fun w' hM => field_yes hM k z j hk h1 hz hz2 hj
  have hkl := (List.getElem?_eq_some_iff.1 hv').1
  clear hv' hk hz
  go_enter Tryz.func88, Tryz.ntmps88
  go_wp2_with (first
    | (go_at_call 28; refine hO.mono ?_; rintro e w' ⟨rfl, hM, hF⟩; have hc := HC.out w' hM; have hmost := hM.most; obtain ⟨g, cap, -, hw, hcl, -, -, hi⟩ := words_at hM HV.out; have HF := Lib.hid hF; clear hM hF)
    | (go_at_call 104; refine hc.mono ?_; rintro e w'' ⟨rfl, rfl⟩))
  go_ret2
  exact ⟨rfl, HF.out⟩
/-! Hash -/
theorem Sets.turns {v : Value} {m' : Mem} {e : Ending} {w' w1 w0 : World} (h : MemAt w' mb m' wv sv) (hF : Fr (foot mb wv sv) w1 w') (h0 : Fr [] w0 w1) (he : e = .returned v) : Turns v mb m' (foot mb wv sv) w0 e w' :=
  ⟨he, wv, sv, h, h0.cons hF, fun _ hk => .inl hk⟩
/-! SetClass, Store, SetRoot -/
end
end Go.Proofs.YtofhgfgipdokbaaGreatDoor
namespace Go.Proofs.YtofhgfgipdokbaaGreatDoor
open Go.RowKit

/-- a memory without objects -/
def Mem.fresh (n : Int) : Mem := ⟨n, [0], [false], 0, 0⟩
theorem new_no (n : Int) (w : World) (h : n < 64 ∨ 65536 < n) : Calls Tryz.prog 24 #[.int .i64 n] w (Gives (.tuple #[.pointer none, .int .i64 1]) w) := by
  rcases h with h | h
  · go_enter Tryz.func24, Tryz.ntmps24
    go_wp2
    go_ret2
    exact ⟨rfl, rfl⟩
  · have h' : ¬ n < 64 := by omega
    go_enter Tryz.func24, Tryz.ntmps24
    go_wp2
    go_ret2
    exact ⟨rfl, rfl⟩
/-- Returned a new heap with memory m. -/
def Made (m : Mem) (w : World) (e : Ending) (w' : World) : Prop :=
  ∃ hb mb wv sv, e = .returned (.tuple #[.pointer (some ⟨hb, 0, none⟩), .int .i64 0]) ∧ HeapAt w' hb mb m wv sv ∧ Fr [] w w' ∧ w.heap.size ≤ hb ∧ ∀ k ∈ foot mb wv sv, w.heap.size ≤ k
theorem makeW (n : Nat) (h1 : 1 ≤ n) (h2 : n ≤ 65536) : ∃ Z : Array Value, Hid (Z.size = n ∧ Z.toList.take 1 = [Value.int .u64 0]) ∧ ∀ W : World, (Instr.makeSlice 38 (.int .i64 1) (.int .i64 (n : Int))).run Tryz.prog W = .ok (.slice (some ⟨W.heap.size, 0, none⟩) 1 n) (W.alloc (.cells Z 24)) := by
  obtain ⟨i0, hi, hz0, hz1, hz2⟩ := info_parts infoWord
  refine ⟨madeCells (Value.int .u64 0).cells n, ⟨size_madeCells _ _, ?_⟩, fun W => ?_⟩
  · rw [show (Value.int .u64 0).cells = #[Value.int .u64 0] from rfl, toList_madeCells_one, List.take_replicate, Nat.min_eq_left h1]
    rfl
  · have hr := run_make (P := Tryz.prog) W 38 24 i0 (.int .u64 0) Tryz.underlying38 hi hz0 .i64 .i64 1 n (by omega) (by omega) (by rw [hz2]; omega) (by omega)
    simp only [Int.toNat_natCast, hz1, Nat.mul_one, Int.toNat_one] at hr
    exact hr
theorem makeB (n : Nat) (h1 : 1 ≤ n) (h2 : n ≤ 65536) : ∃ Z : Array Value, Hid (Z.size = n ∧ Z.toList.take 1 = [Value.bool false]) ∧ ∀ W : World, (Instr.makeSlice 99 (.int .i64 1) (.int .i64 (n : Int))).run Tryz.prog W = .ok (.slice (some ⟨W.heap.size, 0, none⟩) 1 n) (W.alloc (.cells Z 4)) := by
  obtain ⟨i0, hi, hz0, hz1, hz2⟩ := info_parts infoBool
  refine ⟨madeCells (Value.bool false).cells n, ⟨size_madeCells _ _, ?_⟩, fun W => ?_⟩
  · rw [show (Value.bool false).cells = #[Value.bool false] from rfl, toList_madeCells_one, List.take_replicate, Nat.min_eq_left h1]
    rfl
  · have hr := run_make (P := Tryz.prog) W 99 4 i0 (.bool false) Tryz.underlying99 hi hz0 .i64 .i64 1 n (by omega) (by omega) (by rw [hz2]; omega) (by omega)
    simp only [Int.toNat_natCast, hz1, Nat.mul_one, Int.toNat_one] at hr
    exact hr
/-- a memory without objects, out of its three blocks -/
theorem fresh_mem {w : World} {a b c n : Nat} {lim : Int} {Z Y : Array Value} (hn1 : 1 ≤ n) (hn : n ≤ 65536) (hZ : Z.size = n ∧ Z.toList.take 1 = [Value.int .u64 0]) (hY : Y.size = n ∧ Y.toList.take 1 = [Value.bool false])
    (h1 : w.heap[a]? = some (.cells Z 24 (0, 0))) (h2 : w.heap[b]? = some (.cells Y 4 (0, 0))) (h3 : w.heap[c]? = some (.cells #[.int .i64 lim, .slice (some ⟨a, 0, none⟩) 1 n, .slice (some ⟨b, 0, none⟩) 1 n, .int .u64 0, .int .i64 0] 101 (0, 0))) :
    MemAt w c (Mem.fresh lim) (.slice (some ⟨a, 0, none⟩) 1 n) (.slice (some ⟨b, 0, none⟩) 1 n) :=
  ⟨h3, ⟨rfl, .inr ⟨a, n, Z, rfl, Nat.zero_le _, h1, hn1, by unfold maxLen; omega, by rw [hZ.1, Nat.mul_one], hZ.2⟩⟩, ⟨rfl, .inr ⟨b, n, Y, rfl, Nat.zero_le _, h2, hn1, by unfold maxLen; omega, by rw [hY.1, Nat.mul_one], hY.2⟩⟩, by simp [Mem.fresh], rfl⟩
theorem three_new (w : World) (a b c : Obj) : (((w.alloc a).alloc b).alloc c).heap[w.heap.size]? = some a ∧ (((w.alloc a).alloc b).alloc c).heap[w.heap.size + 1]? = some b ∧ (((w.alloc a).alloc b).alloc c).heap[w.heap.size + 1 + 1]? = some c := by
  refine ⟨?_, ?_, ?_⟩
  · rw [Below.heap_alloc _ _ _ (by simp; omega), Below.heap_alloc _ _ _ (by simp)]; exact heap_new w a
  · rw [Below.heap_alloc _ _ _ (by simp)]
    have := heap_new (w.alloc a) b
    simpa using this
  · have := heap_new ((w.alloc a).alloc b) c
    simpa using this
/-- Returned a new memory m. -/
def MadeMem (m : Mem) (w : World) (e : Ending) (w' : World) : Prop :=
  ∃ mb wv sv, e = .returned (.pointer (some ⟨mb, 0, none⟩)) ∧ MemAt w' mb m wv sv ∧ Fr [] w w' ∧ ∀ k ∈ foot mb wv sv, w.heap.size ≤ k
set_option maxHeartbeats 1000000 in
theorem empty_made (lim : Int) (n : Nat) (w : World) (h1 : 1 ≤ n) (h2 : n ≤ 65536) : Calls Tryz.prog 40 #[.int .i64 lim, .int .i64 n] w (MadeMem (Mem.fresh lim) w) := by
  obtain ⟨Z, HZ, hZ⟩ := makeW n h1 h2
  obtain ⟨Y, HY, hY⟩ := makeB n h1 h2
  go_enter Tryz.func40, Tryz.ntmps40
  go_wp2
  go_region
  all_goals go_wp2
  all_goals go_ret
  · obtain ⟨e1, e2, e3⟩ := three_new w (.cells Z 24) (.cells Y 4) (.cells #[.int .i64 lim, .slice (some ⟨w.heap.size, 0, none⟩) 1 n, .slice (some ⟨w.heap.size + 1, 0, none⟩) 1 n, .int .u64 0, .int .i64 0] 101)
    exact ⟨_, _, _, rfl, (fresh_mem h1 h2 HZ.out HY.out e1 e2 e3).fr0 (Fr.refl _ _).drew, ((((Fr.refl _ _).alloc _).alloc _).alloc _).drew, by simp [foot, Value.ownBlock]; omega⟩
  · obtain ⟨e1, e2, e3⟩ := three_new w (.cells Y 4) (.cells Z 24) (.cells #[.int .i64 lim, .slice (some ⟨w.heap.size + 1, 0, none⟩) 1 n, .slice (some ⟨w.heap.size, 0, none⟩) 1 n, .int .u64 0, .int .i64 0] 101)
    exact ⟨_, _, _, rfl, (fresh_mem h1 h2 HZ.out HY.out e2 e1 e3).fr0 (Fr.refl _ _).drew, ((((Fr.refl _ _).alloc _).alloc _).alloc _).drew, by simp [foot, Value.ownBlock]; omega⟩
theorem new_made (n : Int) (w : World) (h1 : 64 ≤ n) (h2 : n ≤ 65536) : Calls Tryz.prog 24 #[.int .i64 n] w (Made (Mem.fresh n) w) := by
  have hc : Calls Tryz.prog 40 #[.int .i64 n, .int .i64 1] w (MadeMem (Mem.fresh n) w) := empty_made n 1 w (by omega) (by omega)
  go_enter Tryz.func24, Tryz.ntmps24
  go_wp2_with (go_at_call 40; refine hc.mono ?_; rintro e w1 ⟨mb, wv, sv, rfl, hM, hF, hfr⟩; have HM := Lib.hid hM; have HF := Lib.hid hF; have HFR := Lib.hid hfr; clear hM hF hfr)
  go_ret2
  exact ⟨_, mb, wv, sv, rfl, ⟨heap_new _ _, HM.out.fr0 ((Fr.refl _ _).alloc _)⟩, HF.out.alloc _, HF.out.size, HFR.out⟩
end Go.Proofs.YtofhgfgipdokbaaGreatDoor
namespace Go.Proofs.YtofhgfgipdokbaaGreatDoor
open Go.RowKit
section
variable {hv : Value} {mb : Nat} {m : Mem} {wv sv : Value} {w : World}

/-- what loaded answers where it refuses: no memory, and a fault of the number n -/
def Refuses (n : Int) (w : World) (e : Ending) (w' : World) : Prop := ∃ s : ByteArray, e = .returned (.tuple #[.pointer none, .iface 144 (.agg #[.string s, .int .i64 n])]) ∧ Fr [] w w'
/-- what loaded answers else: a new memory -/
def Builds (m' : Mem) (w : World) (e : Ending) (w' : World) : Prop := ∃ nb wv' sv', e = .returned (.tuple #[.pointer (some ⟨nb, 0, none⟩), .nilIface]) ∧ MemAt w' nb m' wv' sv' ∧ Fr [] w w' ∧ ∀ k ∈ foot nb wv' sv', w.heap.size ≤ k
theorem load_fail (hO : Opens hv mb m wv sv w) (hg : Glob w) (lv : Value) (root hashes k : Int) (hA : ∀ w', MemAt w' mb m wv sv → Fr [] w w' → Glob w' → Calls Tryz.prog 41 #[.pointer (some ⟨mb, 0, none⟩), lv, .int .u64 root, .int .i64 hashes] w' (Refuses k w')) :
    Calls Tryz.prog 26 #[hv, lv, .int .u64 root, .int .i64 hashes] w (Still (.int .i64 k) w) := by
  unfold Opens at hO
  have HG := Lib.hid hg
  have HA := Lib.hid hA
  clear hg hA
  go_enter Tryz.func26, Tryz.ntmps26
  go_wp2_with (first
    | (go_at_call 28; refine hO.mono ?_; rintro e w' ⟨rfl, hM, hF⟩; have hc := HA.out w' hM hF (HG.out.fr hF); have HF := Lib.hid hF; clear hM hF)
    | (go_at_call 41; refine hc.mono ?_; rintro e w'' ⟨s, rfl, hF2⟩; have HF2 := Lib.hid (HF.out.trans hF2); have he := errno_still s k w'' (HG.out.fr HF2.out); clear hF2)
    | (go_at_call 42; refine he.mono ?_; rintro e w3 ⟨rfl, hF3⟩))
  go_ret
  exact ⟨rfl, HF2.out.trans hF3⟩
/-- a memory's five cells, written over another's -/
theorem MemAt.over {w : World} {nb mb : Nat} {m m' : Mem} {wv sv wv' sv' : Value} (h : MemAt w mb m wv sv) (h' : MemAt w nb m' wv' sv') {W : World} (hF : Fr [mb] w W) (hW : W.heap[mb]? = some (.cells #[.int .i64 m'.lim, wv', sv', .int .u64 m'.root, .int .i64 m'.hashes] 101 (0, 0))) : MemAt W mb m' wv' sv' := by
  refine ⟨hW, hF.row h'.words (fun k hk => ?_), hF.row h'.starts (fun k hk => ?_), h'.most, h'.alike⟩
  · obtain ⟨c, hc⟩ := row_heap h'.words hk; simpa using tag_ne hc h.mem (by decide)
  · obtain ⟨c, hc⟩ := row_heap h'.starts hk; simpa using tag_ne hc h.mem (by decide)
set_option maxHeartbeats 1000000 in
theorem load_ok (hO : Opens hv mb m wv sv w) (lv : Value) (root hashes : Int) (m' : Mem) (hA : ∀ w', MemAt w' mb m wv sv → Fr [] w w' → Calls Tryz.prog 41 #[.pointer (some ⟨mb, 0, none⟩), lv, .int .u64 root, .int .i64 hashes] w' (Builds m' w')) :
    Calls Tryz.prog 26 #[hv, lv, .int .u64 root, .int .i64 hashes] w (Turns (.int .i64 0) mb m' (foot mb wv sv) w) := by
  unfold Opens at hO
  have HA := Lib.hid hA
  clear hA
  go_enter Tryz.func26, Tryz.ntmps26
  go_wp2_with (first
    | (go_at_call 28; refine hO.mono ?_; rintro e w' ⟨rfl, hM, hF⟩; have hc := HA.out w' hM hF; have HF := Lib.hid hF; have HM := Lib.hid hM; clear hM hF)
    | (go_at_call 41; refine hc.mono ?_; rintro e w'' ⟨nb, wv', sv', rfl, hN, hF2, hnew⟩; have hM2 := HM.out.fr0 hF2; have q0 := hN.cell; have p0 := hM2.cell; have z0 := hM2.frozen 0; have z1 := hM2.frozen 1; have z2 := hM2.frozen 2; have z3 := hM2.frozen 3; have z4 := hM2.frozen 4; obtain ⟨q1, q2, q3, q4, q5⟩ := q0; obtain ⟨p1, p2, p3, p4, p5⟩ := p0; obtain ⟨wa', wc', rfl⟩ := row_shape hN.words; obtain ⟨sa', sc', rfl⟩ := row_shape hN.starts; have HN := Lib.hid hN; have HM2 := Lib.hid hM2; have HF2 := Lib.hid hF2; have HW := Lib.hid hnew; clear hN hM2 hF2 hnew))
  go_ret
  refine ⟨rfl, .slice wa' m'.W.length wc', .slice sa' m'.M.length sc', HM2.out.over HN.out ?_ ?_, ?_, fun k hk => ?_⟩
  · exact (((((Fr.refl _ _).setCell (fun _ => by simp) _).setCell (fun _ => by simp) _).setCell (fun _ => by simp) _).setCell (fun _ => by simp) _).setCell (fun _ => by simp) _
  · exact heap_setCell_same (heap_setCell_same (heap_setCell_same (heap_setCell_same (heap_setCell_same HM2.out.mem _) _) _) _) _
  · exact ((((((HF.out.trans HF2.out).weak (S := foot mb wv sv)).setCell (fun _ => foot_mb) _).setCell (fun _ => foot_mb) _).setCell (fun _ => foot_mb) _).setCell (fun _ => foot_mb) _).setCell (fun _ => foot_mb) _
  · simp only [foot, List.mem_cons] at hk
    rcases hk with rfl | hk
    · exact .inl foot_mb
    · exact .inr (Nat.le_trans HF.out.size (HW.out k (by simp only [foot, List.mem_cons]; exact .inr hk)))
end
end Go.Proofs.YtofhgfgipdokbaaGreatDoor
