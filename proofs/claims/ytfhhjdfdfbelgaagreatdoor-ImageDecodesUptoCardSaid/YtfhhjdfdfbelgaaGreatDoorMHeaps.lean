/- A heap that New made, and one that it did not: what the methods that only read return. What the heap's Alloc does. What the heap's methods return and do at an object. What heap.New does. The heap's Load, by what the memory's loaded answers. -/
import Derived.Test.YtfhhjdfdfbelgaaGreatDoorMWords
import Derived.Test.YtfhhjdfdfbelgaaGreatDoorMPlaces
namespace Go.Proofs.YtfhhjdfdfbelgaaGreatDoor
open Go.RowKit

/-- a heap at block hb whose memory is m -/
structure HeapAt (w : World) (hb mb : Nat) (m : Mem) (wv sv : Value) : Prop where
  heap : w.heap[hb]? = some (.cells #[.pointer (some ⟨mb, 0, none⟩)] 91 (0, 0))
  mem : MemAt w mb m wv sv
/-- a heap that was never made -/
def NoHeap (hv : Value) (w : World) : Prop := hv = .pointer none ∨ ∃ hb, hv = .pointer (some ⟨hb, 0, none⟩) ∧ w.cell? ⟨hb, 0, none⟩ = some (.pointer none)
def Mem.none : Mem := ⟨0, [], [], 0, 0⟩
/-- the heap's memory is m, at block mb, once it was asked for -/
def Opens (hv : Value) (mb : Nat) (m : Mem) (wv sv : Value) (w : World) : Prop :=
  Calls Tryz.prog 36 #[hv] w fun e w' => e = .returned (.pointer (some ⟨mb, 0, none⟩)) ∧ MemAt w' mb m wv sv ∧ Fr [] w w'
theorem memory_at {w : World} {hb mb : Nat} {m : Mem} {wv sv : Value} (h : HeapAt w hb mb m wv sv) : Opens (.pointer (some ⟨hb, 0, none⟩)) mb m wv sv w := by
  have hc : w.cell? ⟨hb, 0, none⟩ = some (.pointer (some ⟨mb, 0, none⟩)) := cell_of_heap h.heap rfl
  have HM := Lib.hid h.mem
  clear h
  unfold Opens
  go_enter Tryz.func36, Tryz.ntmps36
  go_wp2
  go_ret
  exact ⟨rfl, HM.out, Fr.refl _ _⟩
theorem mem_none (w : World) : MemAt (w.alloc (.cells #[.int .i64 0, .slice none 0 0, .slice none 0 0, .int .u64 0, .int .i64 0] 81)) w.heap.size Mem.none (.slice none 0 0) (.slice none 0 0) :=
  ⟨heap_new _ _, World.ownsRow_nil _ _ _ _, World.ownsRow_nil _ _ _ _, by decide, rfl⟩
theorem memory_none {w : World} {hv : Value} (h : NoHeap hv w) : Opens hv w.heap.size Mem.none (.slice none 0 0) (.slice none 0 0) w := by
  have HM := Lib.hid (mem_none w)
  rcases h with rfl | ⟨hb, rfl, hc⟩
  · unfold Opens
    go_enter Tryz.func36, Tryz.ntmps36
    go_wp2
    go_ret
    exact ⟨rfl, HM.out, (Fr.refl _ _).alloc _⟩
  · unfold Opens
    go_enter Tryz.func36, Tryz.ntmps36
    go_wp2
    go_ret
    exact ⟨rfl, HM.out, (Fr.refl _ _).alloc _⟩

section
variable {w : World} {hv : Value} {mb : Nat} {m : Mem} {wv sv : Value}
theorem words_still (hO : Opens hv mb m wv sv w) : Calls Tryz.prog 22 #[hv] w (Still (.int .i64 m.lim) w) := by
  unfold Opens at hO
  go_enter Tryz.func22, Tryz.ntmps22
  go_wp2_with (go_at_call 36; refine hO.mono ?_; rintro e w' ⟨rfl, hM, hF⟩; have hc := hM.cell.1; clear hM)
  go_ret
  exact ⟨rfl, hF⟩
theorem used_still (hO : Opens hv mb m wv sv w) : Calls Tryz.prog 16 #[hv] w (Still (.int .i64 m.W.length) w) := by
  unfold Opens at hO
  go_enter Tryz.func16, Tryz.ntmps16
  go_wp2_with (go_at_call 36; refine hO.mono ?_; rintro e w' ⟨rfl, hM, hF⟩; obtain ⟨ao, cap, rfl⟩ := row_shape hM.words; have hc := hM.cell.2.1; clear hM)
  go_ret
  exact ⟨rfl, hF⟩
theorem hashes_still (hO : Opens hv mb m wv sv w) : Calls Tryz.prog 30 #[hv] w (Still (.int .i64 m.hashes) w) := by
  unfold Opens at hO
  go_enter Tryz.func30, Tryz.ntmps30
  go_wp2_with (go_at_call 36; refine hO.mono ?_; rintro e w' ⟨rfl, hM, hF⟩; have hc := hM.cell.2.2.2.2; clear hM)
  go_ret
  exact ⟨rfl, hF⟩
theorem root_still (hO : Opens hv mb m wv sv w) : Calls Tryz.prog 17 #[hv] w (Still (.int .u64 m.root) w) := by
  unfold Opens at hO
  go_enter Tryz.func17, Tryz.ntmps17
  go_wp2_with (go_at_call 36; refine hO.mono ?_; rintro e w' ⟨rfl, hM, hF⟩; have hc := hM.cell.2.2.2.1; clear hM)
  go_ret
  exact ⟨rfl, hF⟩
end
end Go.Proofs.YtfhhjdfdfbelgaaGreatDoor
namespace Go.Proofs.YtfhhjdfdfbelgaaGreatDoor
open Go.RowKit

section
variable {w : World} {hv : Value} {mb : Nat} {m : Mem} {wv sv : Value}
/-- Returned v; the heap's memory is m' now; nothing but the blocks of S has changed; its blocks are of S, or new. -/
def Turns (v : Value) (mb : Nat) (m' : Mem) (S : List Nat) (w : World) (e : Ending) (w' : World) : Prop :=
  e = .returned v ∧ ∃ wv' sv', MemAt w' mb m' wv' sv' ∧ Fr S w w' ∧ ∀ k ∈ foot mb wv' sv', k ∈ S ∨ w.heap.size ≤ k
theorem Fr.cons {S : List Nat} {a b c : World} (h : Fr [] a b) (k : Fr S b c) : Fr S a c := h.trans' k (fun _ _ e => by cases e) (fun _ _ e => e)
end
end Go.Proofs.YtfhhjdfdfbelgaaGreatDoor
namespace Go.Proofs.YtfhhjdfdfbelgaaGreatDoor
open Go.RowKit

section
variable {w : World} {hv : Value} {mb : Nat} {m : Mem} {wv sv : Value}
/-! Hash -/
theorem Sets.turns {v : Value} {m' : Mem} {e : Ending} {w' w1 w0 : World} (h : MemAt w' mb m' wv sv) (hF : Fr (foot mb wv sv) w1 w') (h0 : Fr [] w0 w1) (he : e = .returned v) : Turns v mb m' (foot mb wv sv) w0 e w' :=
  ⟨he, wv, sv, h, h0.cons hF, fun _ hk => .inl hk⟩
/-! SetClass, Store, SetRoot -/
end
end Go.Proofs.YtfhhjdfdfbelgaaGreatDoor
namespace Go.Proofs.YtfhhjdfdfbelgaaGreatDoor
open Go.RowKit

/-- a memory without objects -/
def Mem.fresh (n : Int) : Mem := ⟨n, [0], [false], 0, 0⟩
theorem new_no (n : Int) (w : World) (h : n < 64 ∨ 65536 < n) : Calls Tryz.prog 21 #[.int .i64 n] w (Gives (.tuple #[.pointer none, .int .i64 1]) w) := by
  rcases h with h | h
  · go_enter Tryz.func21, Tryz.ntmps21
    go_wp2
    go_ret2
    exact ⟨rfl, rfl⟩
  · have h' : ¬ n < 64 := by omega
    go_enter Tryz.func21, Tryz.ntmps21
    go_wp2
    go_ret2
    exact ⟨rfl, rfl⟩
/-- Returned a new heap with memory m. -/
def Made (m : Mem) (w : World) (e : Ending) (w' : World) : Prop :=
  ∃ hb mb wv sv, e = .returned (.tuple #[.pointer (some ⟨hb, 0, none⟩), .int .i64 0]) ∧ HeapAt w' hb mb m wv sv ∧ Fr [] w w' ∧ w.heap.size ≤ hb ∧ ∀ k ∈ foot mb wv sv, w.heap.size ≤ k
theorem makeW (n : Nat) (h1 : 1 ≤ n) (h2 : n ≤ 65536) : ∃ Z : Array Value, Hid (Z.size = n ∧ Z.toList.take 1 = [Value.int .u64 0]) ∧ ∀ W : World, (Instr.makeSlice 70 (.int .i64 1) (.int .i64 (n : Int))).run Tryz.prog W = .ok (.slice (some ⟨W.heap.size, 0, none⟩) 1 n) (W.alloc (.cells Z 35)) := by
  obtain ⟨i0, hi, hz0, hz1, hz2⟩ := info_parts infoWord
  refine ⟨madeCells (Value.int .u64 0).cells n, ⟨size_madeCells _ _, ?_⟩, fun W => ?_⟩
  · rw [show (Value.int .u64 0).cells = #[Value.int .u64 0] from rfl, toList_madeCells_one, List.take_replicate, Nat.min_eq_left h1]
    rfl
  · have hr := run_make (P := Tryz.prog) W 70 35 i0 (.int .u64 0) Tryz.underlying70 hi hz0 .i64 .i64 1 n (by omega) (by omega) (by rw [hz2]; omega) (by omega)
    simp only [Int.toNat_natCast, hz1, Nat.mul_one, Int.toNat_one] at hr
    exact hr
theorem makeB (n : Nat) (h1 : 1 ≤ n) (h2 : n ≤ 65536) : ∃ Z : Array Value, Hid (Z.size = n ∧ Z.toList.take 1 = [Value.bool false]) ∧ ∀ W : World, (Instr.makeSlice 79 (.int .i64 1) (.int .i64 (n : Int))).run Tryz.prog W = .ok (.slice (some ⟨W.heap.size, 0, none⟩) 1 n) (W.alloc (.cells Z 4)) := by
  obtain ⟨i0, hi, hz0, hz1, hz2⟩ := info_parts infoBool
  refine ⟨madeCells (Value.bool false).cells n, ⟨size_madeCells _ _, ?_⟩, fun W => ?_⟩
  · rw [show (Value.bool false).cells = #[Value.bool false] from rfl, toList_madeCells_one, List.take_replicate, Nat.min_eq_left h1]
    rfl
  · have hr := run_make (P := Tryz.prog) W 79 4 i0 (.bool false) Tryz.underlying79 hi hz0 .i64 .i64 1 n (by omega) (by omega) (by rw [hz2]; omega) (by omega)
    simp only [Int.toNat_natCast, hz1, Nat.mul_one, Int.toNat_one] at hr
    exact hr
/-- a memory without objects, out of its three blocks -/
theorem fresh_mem {w : World} {a b c n : Nat} {lim : Int} {Z Y : Array Value} (hn1 : 1 ≤ n) (hn : n ≤ 65536) (hZ : Z.size = n ∧ Z.toList.take 1 = [Value.int .u64 0]) (hY : Y.size = n ∧ Y.toList.take 1 = [Value.bool false])
    (h1 : w.heap[a]? = some (.cells Z 35 (0, 0))) (h2 : w.heap[b]? = some (.cells Y 4 (0, 0))) (h3 : w.heap[c]? = some (.cells #[.int .i64 lim, .slice (some ⟨a, 0, none⟩) 1 n, .slice (some ⟨b, 0, none⟩) 1 n, .int .u64 0, .int .i64 0] 81 (0, 0))) :
    MemAt w c (Mem.fresh lim) (.slice (some ⟨a, 0, none⟩) 1 n) (.slice (some ⟨b, 0, none⟩) 1 n) :=
  ⟨h3, ⟨rfl, .inr ⟨a, n, Z, rfl, Nat.zero_le _, h1, hn1, by unfold maxLen; omega, by rw [hZ.1, Nat.mul_one], hZ.2⟩⟩, ⟨rfl, .inr ⟨b, n, Y, rfl, Nat.zero_le _, h2, hn1, by unfold maxLen; omega, by rw [hY.1, Nat.mul_one], hY.2⟩⟩, by simp [Mem.fresh], rfl⟩
theorem three_new (w : World) (a b c : Obj) : (((w.alloc a).alloc b).alloc c).heap[w.heap.size]? = some a ∧ (((w.alloc a).alloc b).alloc c).heap[w.heap.size + 1]? = some b ∧ (((w.alloc a).alloc b).alloc c).heap[w.heap.size + 1 + 1]? = some c := by
  refine ⟨?_, ?_, ?_⟩
  · rw [Below.heap_alloc _ _ _ (by simp; omega), Below.heap_alloc _ _ _ (by simp)]; exact heap_new w a
  · rw [Below.heap_alloc _ _ _ (by simp)]
    have := heap_new (w.alloc a) b
    simpa using this
  · have := heap_new ((w.alloc a).alloc b) c
    simpa using this
/-- Returned a new memory m. -/
def MadeMem (m : Mem) (w : World) (e : Ending) (w' : World) : Prop :=
  ∃ mb wv sv, e = .returned (.pointer (some ⟨mb, 0, none⟩)) ∧ MemAt w' mb m wv sv ∧ Fr [] w w' ∧ ∀ k ∈ foot mb wv sv, w.heap.size ≤ k
set_option maxHeartbeats 1000000 in
theorem empty_made (lim : Int) (n : Nat) (w : World) (h1 : 1 ≤ n) (h2 : n ≤ 65536) : Calls Tryz.prog 42 #[.int .i64 lim, .int .i64 n] w (MadeMem (Mem.fresh lim) w) := by
  obtain ⟨Z, HZ, hZ⟩ := makeW n h1 h2
  obtain ⟨Y, HY, hY⟩ := makeB n h1 h2
  go_enter Tryz.func42, Tryz.ntmps42
  go_wp2
  go_region
  all_goals go_wp2
  all_goals go_ret
  · obtain ⟨e1, e2, e3⟩ := three_new w (.cells Z 35) (.cells Y 4) (.cells #[.int .i64 lim, .slice (some ⟨w.heap.size, 0, none⟩) 1 n, .slice (some ⟨w.heap.size + 1, 0, none⟩) 1 n, .int .u64 0, .int .i64 0] 81)
    exact ⟨_, _, _, rfl, (fresh_mem h1 h2 HZ.out HY.out e1 e2 e3).fr0 (Fr.refl _ _).drew, ((((Fr.refl _ _).alloc _).alloc _).alloc _).drew, by simp [foot, Value.ownBlock]; omega⟩
  · obtain ⟨e1, e2, e3⟩ := three_new w (.cells Y 4) (.cells Z 35) (.cells #[.int .i64 lim, .slice (some ⟨w.heap.size + 1, 0, none⟩) 1 n, .slice (some ⟨w.heap.size, 0, none⟩) 1 n, .int .u64 0, .int .i64 0] 81)
    exact ⟨_, _, _, rfl, (fresh_mem h1 h2 HZ.out HY.out e2 e1 e3).fr0 (Fr.refl _ _).drew, ((((Fr.refl _ _).alloc _).alloc _).alloc _).drew, by simp [foot, Value.ownBlock]; omega⟩
theorem new_made (n : Int) (w : World) (h1 : 64 ≤ n) (h2 : n ≤ 65536) : Calls Tryz.prog 21 #[.int .i64 n] w (Made (Mem.fresh n) w) := by
  have hc : Calls Tryz.prog 42 #[.int .i64 n, .int .i64 1] w (MadeMem (Mem.fresh n) w) := empty_made n 1 w (by omega) (by omega)
  go_enter Tryz.func21, Tryz.ntmps21
  go_wp2_with (go_at_call 42; refine hc.mono ?_; rintro e w1 ⟨mb, wv, sv, rfl, hM, hF, hfr⟩; have HM := Lib.hid hM; have HF := Lib.hid hF; have HFR := Lib.hid hfr; clear hM hF hfr)
  go_ret2
  exact ⟨_, mb, wv, sv, rfl, ⟨heap_new _ _, HM.out.fr0 ((Fr.refl _ _).alloc _)⟩, HF.out.alloc _, HF.out.size, HFR.out⟩
end Go.Proofs.YtfhhjdfdfbelgaaGreatDoor
namespace Go.Proofs.YtfhhjdfdfbelgaaGreatDoor
open Go.RowKit
section
variable {hv : Value} {mb : Nat} {m : Mem} {wv sv : Value} {w : World}

/-- what loaded answers where it refuses: no memory, and a fault of the number n -/
def Refuses (n : Int) (w : World) (e : Ending) (w' : World) : Prop := ∃ s : ByteArray, e = .returned (.tuple #[.pointer none, .iface 146 (.agg #[.string s, .int .i64 n])]) ∧ Fr [] w w'
/-- what loaded answers else: a new memory -/
def Builds (m' : Mem) (w : World) (e : Ending) (w' : World) : Prop := ∃ nb wv' sv', e = .returned (.tuple #[.pointer (some ⟨nb, 0, none⟩), .nilIface]) ∧ MemAt w' nb m' wv' sv' ∧ Fr [] w w' ∧ ∀ k ∈ foot nb wv' sv', w.heap.size ≤ k
theorem load_fail (hO : Opens hv mb m wv sv w) (hg : Glob w) (lv : Value) (root hashes k : Int) (hA : ∀ w', MemAt w' mb m wv sv → Fr [] w w' → Glob w' → Calls Tryz.prog 52 #[.pointer (some ⟨mb, 0, none⟩), lv, .int .u64 root, .int .i64 hashes] w' (Refuses k w')) :
    Calls Tryz.prog 33 #[hv, lv, .int .u64 root, .int .i64 hashes] w (Still (.int .i64 k) w) := by
  unfold Opens at hO
  have HG := Lib.hid hg
  have HA := Lib.hid hA
  clear hg hA
  go_enter Tryz.func33, Tryz.ntmps33
  go_wp2_with (first
    | (go_at_call 36; refine hO.mono ?_; rintro e w' ⟨rfl, hM, hF⟩; have hc := HA.out w' hM hF (HG.out.fr hF); have HF := Lib.hid hF; clear hM hF)
    | (go_at_call 52; refine hc.mono ?_; rintro e w'' ⟨s, rfl, hF2⟩; have HF2 := Lib.hid (HF.out.trans hF2); have he := errno_still s k w'' (HG.out.fr HF2.out); clear hF2)
    | (go_at_call 53; refine he.mono ?_; rintro e w3 ⟨rfl, hF3⟩))
  go_ret
  exact ⟨rfl, HF2.out.trans hF3⟩
/-- a memory's five cells, written over another's -/
theorem MemAt.over {w : World} {nb mb : Nat} {m m' : Mem} {wv sv wv' sv' : Value} (h : MemAt w mb m wv sv) (h' : MemAt w nb m' wv' sv') {W : World} (hF : Fr [mb] w W) (hW : W.heap[mb]? = some (.cells #[.int .i64 m'.lim, wv', sv', .int .u64 m'.root, .int .i64 m'.hashes] 81 (0, 0))) : MemAt W mb m' wv' sv' := by
  refine ⟨hW, hF.row h'.words (fun k hk => ?_), hF.row h'.starts (fun k hk => ?_), h'.most, h'.alike⟩
  · obtain ⟨c, hc⟩ := row_heap h'.words hk; simpa using tag_ne hc h.mem (by decide)
  · obtain ⟨c, hc⟩ := row_heap h'.starts hk; simpa using tag_ne hc h.mem (by decide)
set_option maxHeartbeats 1000000 in
theorem load_ok (hO : Opens hv mb m wv sv w) (lv : Value) (root hashes : Int) (m' : Mem) (hA : ∀ w', MemAt w' mb m wv sv → Fr [] w w' → Calls Tryz.prog 52 #[.pointer (some ⟨mb, 0, none⟩), lv, .int .u64 root, .int .i64 hashes] w' (Builds m' w')) :
    Calls Tryz.prog 33 #[hv, lv, .int .u64 root, .int .i64 hashes] w (Turns (.int .i64 0) mb m' (foot mb wv sv) w) := by
  unfold Opens at hO
  have HA := Lib.hid hA
  clear hA
  go_enter Tryz.func33, Tryz.ntmps33
  go_wp2_with (first
    | (go_at_call 36; refine hO.mono ?_; rintro e w' ⟨rfl, hM, hF⟩; have hc := HA.out w' hM hF; have HF := Lib.hid hF; have HM := Lib.hid hM; clear hM hF)
    | (go_at_call 52; refine hc.mono ?_; rintro e w'' ⟨nb, wv', sv', rfl, hN, hF2, hnew⟩; have hM2 := HM.out.fr0 hF2; have q0 := hN.cell; have p0 := hM2.cell; have z0 := hM2.frozen 0; have z1 := hM2.frozen 1; have z2 := hM2.frozen 2; have z3 := hM2.frozen 3; have z4 := hM2.frozen 4; obtain ⟨q1, q2, q3, q4, q5⟩ := q0; obtain ⟨p1, p2, p3, p4, p5⟩ := p0; obtain ⟨wa', wc', rfl⟩ := row_shape hN.words; obtain ⟨sa', sc', rfl⟩ := row_shape hN.starts; have HN := Lib.hid hN; have HM2 := Lib.hid hM2; have HF2 := Lib.hid hF2; have HW := Lib.hid hnew; clear hN hM2 hF2 hnew))
  go_ret
  refine ⟨rfl, .slice wa' m'.W.length wc', .slice sa' m'.M.length sc', HM2.out.over HN.out ?_ ?_, ?_, fun k hk => ?_⟩
  · exact (((((Fr.refl _ _).setCell (fun _ => by simp) _).setCell (fun _ => by simp) _).setCell (fun _ => by simp) _).setCell (fun _ => by simp) _).setCell (fun _ => by simp) _
  · exact heap_setCell_same (heap_setCell_same (heap_setCell_same (heap_setCell_same (heap_setCell_same HM2.out.mem _) _) _) _) _
  · exact ((((((HF.out.trans HF2.out).weak (S := foot mb wv sv)).setCell (fun _ => foot_mb) _).setCell (fun _ => foot_mb) _).setCell (fun _ => foot_mb) _).setCell (fun _ => foot_mb) _).setCell (fun _ => foot_mb) _
  · simp only [foot, List.mem_cons] at hk
    rcases hk with rfl | hk
    · exact .inl foot_mb
    · exact .inr (Nat.le_trans HF.out.size (HW.out k (by simp only [foot, List.mem_cons]; exact .inr hk)))
end
end Go.Proofs.YtfhhjdfdfbelgaaGreatDoor
