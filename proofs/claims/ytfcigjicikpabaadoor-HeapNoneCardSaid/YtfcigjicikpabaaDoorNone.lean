/- A heap that was never made: what each method returns; nothing that was there changes. -/
import Derived.Test.YtfcigjicikpabaaDoorLive
namespace Go.Proofs.YtfcigjicikpabaaDoor
open Go.RowKit Go.Shelf
attribute [local go_sem] Oper.semAt_some

theorem load_none {w : World} {hv : Value} {mb : Nat} {m : Mem} {wv sv : Value} (hO : Opens hv mb m wv sv w) (hg : Glob w) (hl : m.lim = 0) (lv : Value) (x n : Int) : Calls Tryd.prog 14 #[hv, lv, .int .u64 x, .int .i64 n] w (Still (.int .i64 1) w) := by
  have hc : ∀ w', MemAt w' mb m wv sv → Glob w' → Calls Tryd.prog 35 #[.pointer (some ⟨mb, 0, none⟩), lv, .int .u64 x, .int .i64 n] w' fun e w'' => ∃ s : ByteArray, e = .returned (.tuple #[.pointer none, .iface 94 (.agg #[.string s, .int .i64 1])]) ∧ Fr [] w' w'' := by
    intro w' hM hG
    have h0 := hM.cell.1
    rw [hl] at h0
    have hi := fun s hs => invalid_fails s hs 0 w' hG (by omega) (by omega)
    clear hM hG hO hg hl
    go_enter Tryd.func35, Tryd.ntmps35
    go_wp2_with (go_at_call 41; refine (hi _ (by decide)).mono ?_; rintro e w'' ⟨s, rfl, hF⟩)
    go_ret2
    exact ⟨_, rfl, hF⟩
  have HC := Lib.hid hc
  have HG := Lib.hid hg
  unfold Opens at hO
  clear hc hg hl
  go_enter Tryd.func14, Tryd.ntmps14
  go_wp2_with (first
    | (go_at_call 23; refine hO.mono ?_; rintro e w' ⟨rfl, hM, hF⟩; have hc := HC.out w' hM (HG.out.fr hF); have HF := Lib.hid hF; clear hM hF)
    | (go_at_call 35; refine hc.mono ?_; rintro e w'' ⟨s, rfl, hF2⟩; have HF2 := Lib.hid (HF.out.trans hF2); have he := errno_still s 1 w'' (HG.out.fr HF2.out); clear hF2)
    | (go_at_call 25; refine he.mono ?_; rintro e w3 ⟨rfl, hF3⟩))
  go_ret
  exact ⟨rfl, HF2.out.trans hF3⟩
set_option maxRecDepth 100000 in
set_option maxHeartbeats 2000000 in
theorem dump_none {w : World} {hv : Value} {mb : Nat} {m : Mem} {wv sv : Value} (hO : Opens hv mb m wv sv w) (hW : m.W = []) : Calls Tryd.prog 21 #[hv] w (Still (.slice none 0 0) w) := by
  unfold Opens at hO
  refine (callsIn_wide (n := 6)).1 ?_
  refine callsIn_of_wp_marks Tryd.func21 rfl trivial ?_ rfl
  simp only [Tryd.ntmps21, List.size_toArray, List.length_cons, List.length_nil, Nat.reduceAdd, Nat.reduceSub, Array.replicate_succ, Array.replicate_zero, List.push_toArray, List.append_toArray, List.nil_append, List.cons_append]
  gi_wp2_with (refine ⟨trivial, ?_⟩; gi_at_call 23; refine (callsIn_wide.2 hO).mono ?_; rintro e w1 ⟨rfl, hM, hF⟩; have HM := Lib.hid hM; have HF := Lib.hid hF; clear hM hF)
  obtain ⟨W2, hW2⟩ : ∃ W2, W2 = (w1.alloc (.cells #[.pointer (some ⟨mb, 0, none⟩)] 26)).alloc (.cells #[.slice none 0 0] 46) := ⟨_, rfl⟩
  have hb0 : W2.heap[w1.heap.size + 1]? = some (.cells #[.slice none 0 0] 46 (0, 0)) := by
    rw [hW2]
    have := heap_new (w1.alloc (.cells #[.pointer (some ⟨mb, 0, none⟩)] 26)) (.cells #[.slice none 0 0] 46)
    simpa using this
  have hF0 : Fr [] w W2 := by rw [hW2]; exact (HF.out.alloc _).alloc _
  have hM0 : MemAt W2 mb m wv sv := by rw [hW2]; exact HM.out.fr0 (((Fr.refl [] w1).alloc _).alloc _)
  rw [← hW2]
  refine wpIn_range_bound (xs := []) rfl (by omega) (gf := 37) (rv := .pointer (some ⟨mb, 0, none⟩)) rfl trivial (enters_of Tryd.func37 (by kernel_rfl) rfl) (objects_yields 5 (by omega) (m := m) (wv := wv) (sv := sv) [] (by rw [hW]; exact Nat.zero_le _)) (fun _ => rfl)
    (fun pre W => pre = [] ∧ W.heap[w1.heap.size + 1]? = some (.cells #[.slice none 0 0] 46 (0, 0)) ∧ MemAt W mb m wv sv ∧ Fr [] w W) (fun _ _ => False) (fun pre W h => h.2.2.1) ?_ ?_ ?_ ?_
    (fun x => { tmps := #[hv, undef, .slice none 0 0, .pointer (some ⟨w1.heap.size, 0, none⟩), .pointer (some ⟨w1.heap.size + 1, 0, none⟩), .int .i64 x, hv, .pointer (some ⟨mb, 0, none⟩), .pointer (some ⟨mb, 0, none⟩), .func (.func 37) #[.pointer (some ⟨mb, 0, none⟩)] #[], .int .i64 x, undef, undef, undef, undef, undef, undef, undef, undef, undef, undef, undef, undef, undef, undef, undef, undef, undef, undef, undef, undef], defers := [] }) ?assign ?body ?done ?stop
  · rintro pre W l o o' hl hh hc ⟨h1, h2, h3, h4⟩
    have hF := putObj_fr W l o'
    refine ⟨h1, hF.heap (by simpa using not_cells h2 hh hc) h2, h3.fr hF (fun g hg => ?_), h4.trans' hF (fun _ _ e => by cases e) (fun j hj e => by simp at e; have := hF0.size; omega)⟩
    obtain ⟨c, t', f, hcc⟩ := foot_cells h3 hg
    simpa using not_cells hcc hh hc
  · exact fun _ _ _ _ _ _ _ _ h => h
  · rintro W o ⟨h1, h2, h3, h4⟩
    have hF : Fr [] W (W.alloc o) := (Fr.refl _ _).alloc o
    exact ⟨h1, hF.heap (by simp) h2, h3.fr0 hF, h4.trans hF⟩
  · exact ⟨rfl, hb0, hM0, hF0⟩
  case assign =>
    intro l x W K hK
    gi_wp2
    exact hK
  case body =>
    rintro l pre x W _ hpre
    have := hpre.length_le
    simp at this
  case done =>
    rintro D W hD ⟨-, h2, h3, h4⟩ hK
    have hbox := cell_of_heap (o := 0) h2 rfl
    have H4 := Lib.hid h4
    clear h2 h3 h4
    gi_wp2
    refine ⟨by simp, .inl ⟨_, _, rfl, run_takeDeferred hK, ?_⟩⟩
    exact ⟨_, results_tmp rfl _ _ _, rfl, H4.out.trans' (putObj_fr W D _) (fun _ _ e => by cases e) (fun j hj e => by simp at e; have := hF0.size; omega)⟩
  case stop =>
    rintro D pre W _ _ h _
    exact h.elim
/-- a heap that was never made, in a world in which nothing of W0 has changed -/
def Dead (W0 : World) (hv : Value) (w : World) : Prop := NoHeap hv w ∧ Glob w ∧ Fr [] W0 w
/-- Returned v; all is as it was. -/
def DStill (v : Value) (W0 : World) (hv : Value) (e : Ending) (w' : World) : Prop := e = .returned v ∧ Dead W0 hv w'
theorem NoHeap.fr {hv : Value} {w w' : World} (h : NoHeap hv w) (hF : Fr [] w w') : NoHeap hv w' := by
  rcases h with h | ⟨hb, h1, h2⟩
  · exact .inl h
  · exact .inr ⟨hb, h1, hF.cell (by simp) h2⟩
theorem dead_of {W0 w : World} {hv v : Value} {f : Nat} {args : Array Value} (h : Dead W0 hv w) (hc : Opens hv w.heap.size Mem.none (.slice none 0 0) (.slice none 0 0) w → Calls Tryd.prog f args w (Still v w)) : Calls Tryd.prog f args w (DStill v W0 hv) := by
  refine (hc (memory_none h.1)).mono ?_
  rintro e w' ⟨rfl, hF⟩
  exact ⟨rfl, h.1.fr hF, h.2.1.fr hF, h.2.2.trans hF⟩
theorem stB_nil (x : Int) : stB Mem.none.M x = false := by simp [stB, Mem.none]
theorem dead_alloc {W0 w : World} {hv : Value} (h : Dead W0 hv w) (x : Int) (n : Int) : Calls Tryd.prog 6 #[hv, .int .u64 x, .int .i64 n, .int .u64 x] w (DStill (.tuple #[.int .u64 0, .int .i64 1]) W0 hv) := dead_of h fun hO => alloc_fail hO h.2.1 x n x 1 fun _ hM hG => admit_none hM hG x n x rfl
theorem dead_size {W0 w : World} {hv : Value} (h : Dead W0 hv w) (x : Int) (h1 : 0 ≤ x) (h2 : x ≤ 18446744073709551615) : Calls Tryd.prog 7 #[hv, .int .u64 x] w (DStill (.tuple #[.int .i64 0, .int .i64 1]) W0 hv) := dead_of h fun hO => size_no hO h.2.1 x h1 h2 (stB_nil x)
theorem dead_class {W0 w : World} {hv : Value} (h : Dead W0 hv w) (x : Int) (h1 : 0 ≤ x) (h2 : x ≤ 18446744073709551615) : Calls Tryd.prog 8 #[hv, .int .u64 x] w (DStill (.tuple #[.int .u64 0, .int .i64 1]) W0 hv) := dead_of h fun hO => class_no hO h.2.1 x h1 h2 (stB_nil x)
theorem dead_hash {W0 w : World} {hv : Value} (h : Dead W0 hv w) (x : Int) (h1 : 0 ≤ x) (h2 : x ≤ 18446744073709551615) : Calls Tryd.prog 9 #[hv, .int .u64 x] w (DStill (.tuple #[.int .i64 0, .int .i64 1]) W0 hv) := dead_of h fun hO => hash_no hO h.2.1 x h1 h2 (stB_nil x)
theorem dead_fetch {W0 w : World} {hv : Value} (h : Dead W0 hv w) (x : Int) (h1 : 0 ≤ x) (h2 : x ≤ 18446744073709551615) (n : Int) : Calls Tryd.prog 10 #[hv, .int .u64 x, .int .i64 n] w (DStill (.tuple #[.int .u64 0, .int .i64 1]) W0 hv) := dead_of h fun hO => fetch_no hO h.2.1 x n h1 h2 (stB_nil x)
theorem dead_setClass {W0 w : World} {hv : Value} (h : Dead W0 hv w) (x : Int) (h1 : 0 ≤ x) (h2 : x ≤ 18446744073709551615) : Calls Tryd.prog 11 #[hv, .int .u64 x, .int .u64 x] w (DStill (.int .i64 1) W0 hv) := dead_of h fun hO => setClass_no hO h.2.1 x x h1 h2 (stB_nil x)
theorem dead_store {W0 w : World} {hv : Value} (h : Dead W0 hv w) (x : Int) (h1 : 0 ≤ x) (h2 : x ≤ 18446744073709551615) (n : Int) : Calls Tryd.prog 12 #[hv, .int .u64 x, .int .i64 n, .int .u64 x] w (DStill (.int .i64 1) W0 hv) := dead_of h fun hO => store_no hO h.2.1 x n x h1 h2 (stB_nil x)
theorem dead_setRoot {W0 w : World} {hv : Value} (h : Dead W0 hv w) (x : Int) (h1 : 0 ≤ x) (h2 : x ≤ 18446744073709551615) : Calls Tryd.prog 13 #[hv, .int .u64 x] w (DStill (.int .i64 1) W0 hv) := dead_of h fun hO => setRoot_no hO h.2.1 x h1 h2 (stB_nil x)
theorem dead_has {W0 w : World} {hv : Value} (h : Dead W0 hv w) (x : Int) (h1 : 0 ≤ x) (h2 : x ≤ 18446744073709551615) : Calls Tryd.prog 15 #[hv, .int .u64 x] w (DStill (.bool false) W0 hv) := dead_of h fun hO => by have := has_still hO x h1 h2; rw [stB_nil] at this; exact this
theorem dead_load {W0 w : World} {hv : Value} (h : Dead W0 hv w) : Calls Tryd.prog 14 #[hv, .slice none 0 0, .int .u64 0, .int .i64 0] w (DStill (.int .i64 1) W0 hv) := dead_of h fun hO => load_none hO h.2.1 rfl _ _ _
theorem dead_words {W0 w : World} {hv : Value} (h : Dead W0 hv w) : Calls Tryd.prog 16 #[hv] w (DStill (.int .i64 0) W0 hv) := dead_of h fun hO => words_still hO
theorem dead_used {W0 w : World} {hv : Value} (h : Dead W0 hv w) : Calls Tryd.prog 17 #[hv] w (DStill (.int .i64 0) W0 hv) := dead_of h fun hO => used_still hO
theorem dead_hashes {W0 w : World} {hv : Value} (h : Dead W0 hv w) : Calls Tryd.prog 18 #[hv] w (DStill (.int .i64 0) W0 hv) := dead_of h fun hO => hashes_still hO
theorem dead_root {W0 w : World} {hv : Value} (h : Dead W0 hv w) : Calls Tryd.prog 19 #[hv] w (DStill (.int .u64 0) W0 hv) := dead_of h fun hO => root_still hO
theorem dead_dump {W0 w : World} {hv : Value} (h : Dead W0 hv w) : Calls Tryd.prog 21 #[hv] w (DStill (.slice none 0 0) W0 hv) := dead_of h fun hO => dump_none hO rfl
theorem dead_objects {W0 w : World} {hv : Value} (h : Dead W0 hv w) : Calls Tryd.prog 20 #[hv] w fun e w' => ∃ ao cap, e = .returned (.slice ao 0 cap) ∧ Dead W0 hv w' := by
  have hF : Fr [] w (w.alloc (.cells #[.slice none 0 0] 44)) := (Fr.refl _ _).alloc _
  refine (objects_lists (memory_none (h.1.fr hF)) [] (Nat.zero_le _)).mono ?_
  rintro e w' ⟨v, rfl, hr, hF', -⟩
  obtain ⟨ao, cap, rfl⟩ := row_shape hr
  exact ⟨ao, cap, rfl, h.1.fr hF', h.2.1.fr hF', h.2.2.trans hF'⟩
end Go.Proofs.YtfcigjicikpabaaDoor
