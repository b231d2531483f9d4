/- What the memory's set and assignHash do. -/
import Derived.Test.YtfcigjicikpabaaDoorCheck
import Derived.RegionTactic
namespace Go.Proofs.YtfcigjicikpabaaDoor
open Go.RowKit

/-- the blocks of a memory -/
def foot (mb : Nat) (wv sv : Value) : List Nat := mb :: (wv.ownBlock.toList ++ sv.ownBlock.toList)
theorem foot_mb {mb : Nat} {wv sv : Value} : mb ∈ foot mb wv sv := by simp [foot]
theorem foot_w {mb g : Nat} {wv sv : Value} (h : wv.ownBlock = some g) : g ∈ foot mb wv sv := by simp [foot, h]
theorem foot_s {mb g : Nat} {wv sv : Value} (h : sv.ownBlock = some g) : g ∈ foot mb wv sv := by simp [foot, h]
theorem MemAt.fr {S : List Nat} {w w' : World} {mb : Nat} {m : Mem} {wv sv : Value} (h : MemAt w mb m wv sv) (hF : Fr S w w') (hS : ∀ k ∈ foot mb wv sv, k ∉ S) : MemAt w' mb m wv sv :=
  ⟨hF.heap (hS _ foot_mb) h.mem, hF.row h.words (fun k hk => hS k (foot_w hk)), hF.row h.starts (fun k hk => hS k (foot_s hk)), h.most, h.alike⟩
theorem MemAt.fr0 {w w' : World} {mb : Nat} {m : Mem} {wv sv : Value} (h : MemAt w mb m wv sv) (hF : Fr [] w w') : MemAt w' mb m wv sv := h.fr hF (fun _ _ e => by cases e)
theorem row_heap {w : World} {b : Nat} {e : TypeId} {v : Value} {n : Nat} {xs : List Value} (h : w.ownsRow b e 1 v n xs) {g : Nat} (hg : v.ownBlock = some g) : ∃ cur, w.heap[g]? = some (.cells cur e (0, 0)) := by
  rcases h.2 with ⟨rfl, rfl⟩ | ⟨g', cap, cur, rfl, hb, hh, _⟩
  · cases hg
  · cases hg; exact ⟨cur, hh⟩
theorem MemAt.w_ne_mb {w : World} {mb : Nat} {m : Mem} {wv sv : Value} (h : MemAt w mb m wv sv) {g : Nat} (hg : wv.ownBlock = some g) : g ≠ mb := by
  rintro rfl
  obtain ⟨cur, hh⟩ := row_heap h.words hg
  have := h.mem.symm.trans hh
  simp at this
theorem MemAt.s_ne_mb {w : World} {mb : Nat} {m : Mem} {wv sv : Value} (h : MemAt w mb m wv sv) {g : Nat} (hg : sv.ownBlock = some g) : g ≠ mb := by
  rintro rfl
  obtain ⟨cur, hh⟩ := row_heap h.starts hg
  have := h.mem.symm.trans hh
  simp at this
theorem MemAt.w_ne_s {w : World} {mb : Nat} {m : Mem} {wv sv : Value} (h : MemAt w mb m wv sv) {g k : Nat} (hg : wv.ownBlock = some g) (hk : sv.ownBlock = some k) : g ≠ k := by
  rintro rfl
  obtain ⟨c1, h1⟩ := row_heap h.words hg
  obtain ⟨c2, h2⟩ := row_heap h.starts hk
  have := h1.symm.trans h2
  simp at this
theorem MemAt.lt {w : World} {mb : Nat} {m : Mem} {wv sv : Value} (h : MemAt w mb m wv sv) : ∀ k ∈ foot mb wv sv, k < w.heap.size := by
  intro k hk
  simp only [foot, List.mem_cons, List.mem_append, Option.mem_toList] at hk
  rcases hk with rfl | hk | hk
  · exact lt_of_heap h.mem
  · obtain ⟨c, hc⟩ := row_heap h.words hk; exact lt_of_heap hc
  · obtain ⟨c, hc⟩ := row_heap h.starts hk; exact lt_of_heap hc
/-- a word of the memory is written -/
theorem MemAt.setWord {w : World} {mb : Nat} {m : Mem} {sv : Value} {g cap : Nat} (h : MemAt w mb m (.slice (some ⟨g, 0, none⟩) m.W.length cap) sv) (i : Nat) (x : Int) :
    MemAt (w.setCell ⟨g, i, none⟩ (.int .u64 x)) mb { m with W := m.W.set i x } (.slice (some ⟨g, 0, none⟩) m.W.length cap) sv := by
  have hF : Fr [g] w (w.setCell ⟨g, i, none⟩ (.int .u64 x)) := (Fr.refl _ _).setCell (fun _ => by simp) _
  have h1 := h.w_ne_mb (g := g) rfl
  refine ⟨hF.heap (by simpa using fun e => h1 e.symm) h.mem, ?_, hF.row h.starts (fun k hk => by have := h.w_ne_s (g := g) rfl hk; simpa using fun e => this e.symm), by simpa using h.most, by simpa using h.alike⟩
  have := (h.words.stored i (.int .u64 x)).1
  simpa [List.map_set] using this
/-- Returned v; the memory at block mb is m' now, its rows where they were; nothing but the blocks of S has changed. -/
def Sets (v : Value) (mb : Nat) (m' : Mem) (wv sv : Value) (w : World) (e : Ending) (w' : World) : Prop := e = .returned v ∧ MemAt w' mb m' wv sv ∧ Fr (foot mb wv sv) w w'

theorem check1_ok {w : World} {mb : Nat} {m : Mem} {wv sv : Value} (h : MemAt w mb m wv sv) (a : Addr) (x : Int) (ha : w.cell? a = some (.int .u64 x)) (hs : a.spot = none) (b1 : 0 ≤ x) (b2 : x ≤ 18446744073709551615) (hok : okB m.M x = true) :
    Calls Tryd.prog 42 #[.pointer (some ⟨mb, 0, none⟩), .slice (some a) 1 1] w (Gives .nilIface w) := by
  obtain ⟨g, o, sp⟩ := a
  cases hs
  exact check_ok h (some ⟨g, o, none⟩) 1 [x] (fun i y hy => by cases i with | zero => cases hy; exact ⟨g, o, rfl, ha⟩ | succ i => simp at hy) (by simp) (by simpa using ⟨b1, b2⟩) (by simpa using hok)
theorem check1_bad {w : World} {mb : Nat} {m : Mem} {wv sv : Value} (h : MemAt w mb m wv sv) (hg : Glob w) (a : Addr) (x : Int) (ha : w.cell? a = some (.int .u64 x)) (hs : a.spot = none) (b1 : 0 ≤ x) (b2 : x ≤ 18446744073709551615) (hok : okB m.M x = false) :
    Calls Tryd.prog 42 #[.pointer (some ⟨mb, 0, none⟩), .slice (some a) 1 1] w (Fails 1 w) := by
  obtain ⟨g, o, sp⟩ := a
  cases hs
  exact check_bad h hg (some ⟨g, o, none⟩) 1 [x] (fun i y hy => by cases i with | zero => cases hy; exact ⟨g, o, rfl, ha⟩ | succ i => simp at hy) (by simp) (by simpa using ⟨b1, b2⟩) 0 x rfl hok

theorem set_ok {w : World} {mb : Nat} {m : Mem} {wv sv : Value} (h : MemAt w mb m wv sv) (i : Nat) (hi : i < m.W.length) (x : Int) (b1 : 0 ≤ x) (b2 : x ≤ 18446744073709551615) (hok : okB m.M x = true) :
    Calls Tryd.prog 34 #[.pointer (some ⟨mb, 0, none⟩), .int .i64 i, .int .u64 x] w (Sets .nilIface mb { m with W := m.W.set i x } wv sv w) := by
  obtain ⟨w1, hw1⟩ : ∃ w1, w1 = w.alloc (.cells #[.int .u64 x] 23) := ⟨_, rfl⟩
  have hF : Fr [] w w1 := by rw [hw1]; exact (Fr.refl _ _).alloc _
  have h' := h.fr0 hF
  have hc := check1_ok h' ⟨w.heap.size, 0, none⟩ x (by rw [hw1]; simp) rfl b1 b2 hok
  obtain ⟨g, cap, rfl, hw, hcl, hfz, hcap, -⟩ := words_at h' (List.getElem?_eq_getElem hi)
  have hend := h'.setWord i x
  have hm := h.most
  have hF2 : Fr (foot mb (.slice (some ⟨g, 0, none⟩) m.W.length cap) sv) w (w1.setCell ⟨g, i, none⟩ (.int .u64 x)) := (hF.weak).setCell (fun _ => foot_w rfl) _
  have HE := Lib.hid hend
  have HF := Lib.hid hF2
  subst hw1
  clear h h' hend hF hF2 hok hcap
  go_enter Tryd.func34, Tryd.ntmps34
  go_wp2_with (first | (go_at_call 42; refine hc.mono ?_; rintro e w' ⟨rfl, rfl⟩))
  go_ret
  exact ⟨rfl, HE.out, HF.out⟩
theorem set_bad {w : World} {mb : Nat} {m : Mem} {wv sv : Value} (h : MemAt w mb m wv sv) (hg : Glob w) (i : Int) (x : Int) (b1 : 0 ≤ x) (b2 : x ≤ 18446744073709551615) (hok : okB m.M x = false) :
    Calls Tryd.prog 34 #[.pointer (some ⟨mb, 0, none⟩), .int .i64 i, .int .u64 x] w (Fails 1 w) := by
  have hF : Fr [] w (w.alloc (.cells #[.int .u64 x] 23)) := (Fr.refl _ _).alloc _
  have hc := check1_bad (h.fr0 hF) (hg.fr hF) ⟨w.heap.size, 0, none⟩ x (by simp) rfl b1 b2 hok
  clear h hg hok
  go_enter Tryd.func34, Tryd.ntmps34
  go_wp2_with (first | (go_at_call 42; refine hc.mono ?_; rintro e w' ⟨s, rfl, hF'⟩))
  go_ret
  exact ⟨_, rfl, hF.trans hF'⟩

/-! assignHash -/
theorem MemAt.setHashes {w : World} {mb : Nat} {m : Mem} {wv sv : Value} (h : MemAt w mb m wv sv) (n : Int) : MemAt (w.setCell ⟨mb, 4, none⟩ (.int .i64 n)) mb { m with hashes := n } wv sv := by
  have hF : Fr [mb] w (w.setCell ⟨mb, 4, none⟩ (.int .i64 n)) := (Fr.refl _ _).setCell (fun _ => by simp) _
  exact ⟨heap_setCell_same h.mem _, hF.row h.words (fun k hk => by simpa using h.w_ne_mb hk), hF.row h.starts (fun k hk => by simpa using h.s_ne_mb hk), h.most, h.alike⟩
theorem MemAt.setRoot {w : World} {mb : Nat} {m : Mem} {wv sv : Value} (h : MemAt w mb m wv sv) (n : Int) : MemAt (w.setCell ⟨mb, 3, none⟩ (.int .u64 n)) mb { m with root := n } wv sv := by
  have hF : Fr [mb] w (w.setCell ⟨mb, 3, none⟩ (.int .u64 n)) := (Fr.refl _ _).setCell (fun _ => by simp) _
  exact ⟨heap_setCell_same h.mem _, hF.row h.words (fun k hk => by simpa using h.w_ne_mb hk), hF.row h.starts (fun k hk => by simpa using h.s_ne_mb hk), h.most, h.alike⟩
theorem MemAt.cell {w : World} {mb : Nat} {m : Mem} {wv sv : Value} (h : MemAt w mb m wv sv) : w.cell? ⟨mb, 0, none⟩ = some (.int .i64 m.lim) ∧ w.cell? ⟨mb, 1, none⟩ = some wv ∧ w.cell? ⟨mb, 2, none⟩ = some sv ∧ w.cell? ⟨mb, 3, none⟩ = some (.int .u64 m.root) ∧ w.cell? ⟨mb, 4, none⟩ = some (.int .i64 m.hashes) :=
  ⟨cell_of_heap h.mem rfl, cell_of_heap h.mem rfl, cell_of_heap h.mem rfl, cell_of_heap h.mem rfl, cell_of_heap h.mem rfl⟩
theorem MemAt.frozen {w : World} {mb : Nat} {m : Mem} {wv sv : Value} (h : MemAt w mb m wv sv) (o : Nat) : w.frozen? ⟨mb, o, none⟩ = false := frozen_of_heap h.mem
theorem assignHash_has {w : World} {mb : Nat} {m : Mem} {wv sv : Value} (h : MemAt w mb m wv sv) (k : Nat) (z : Int) (hz : m.W[k + 1]? = some z) (hz1 : 1 ≤ z) (hz2 : z ≤ 1099511627775) :
    Calls Tryd.prog 31 #[.pointer (some ⟨mb, 0, none⟩), .int .i64 k] w (Gives .nilIface w) := by
  have hc := hash_gives h k z hz (by omega) hz2
  clear h hz
  go_enter Tryd.func31, Tryd.ntmps31
  go_wp2_with (first | (go_at_call 32; refine hc.mono ?_; rintro e w' ⟨rfl, rfl⟩))
  go_ret
  exact ⟨rfl, rfl⟩
theorem assignHash_full {w : World} {mb : Nat} {m : Mem} {wv sv : Value} (h : MemAt w mb m wv sv) (hg : Glob w) (k : Nat) (hz : m.W[k + 1]? = some 0) (hh : m.hashes = 1099511627775) :
    Calls Tryd.prog 31 #[.pointer (some ⟨mb, 0, none⟩), .int .i64 k] w (Fails 2 w) := by
  have hc := hash_gives h k 0 hz (by omega) (by omega)
  have hf := fun s hs => full_fails s hs 1099511627775 w hg (by omega) (by omega)
  have h4 := h.cell.2.2.2.2
  rw [hh] at h4
  clear h hz hg hh
  go_enter Tryd.func31, Tryd.ntmps31
  go_wp2_with (first | (go_at_call 32; refine hc.mono ?_; rintro e w' ⟨rfl, rfl⟩) | (go_at_call 43; refine (hf _ (by decide)).mono ?_; rintro e w' ⟨s, rfl, hF⟩))
  go_ret
  exact ⟨_, rfl, hF⟩
set_option maxHeartbeats 1000000 in
theorem assignHash_new {w : World} {mb : Nat} {m : Mem} {wv sv : Value} (h : MemAt w mb m wv sv) (k : Nat) (hz : m.W[k + 1]? = some 0) (h0 : 0 ≤ m.hashes) (hh : m.hashes < 1099511627775) :
    Calls Tryd.prog 31 #[.pointer (some ⟨mb, 0, none⟩), .int .i64 k] w (Sets .nilIface mb { m with W := m.W.set (k + 1) (m.hashes + 1), hashes := m.hashes + 1 } wv sv w) := by
  have hc := hash_gives h k 0 hz (by omega) (by omega)
  have hm := h.most
  obtain ⟨H, hH⟩ : ∃ H, H = m.hashes := ⟨_, rfl⟩
  rw [← hH] at hh h0 ⊢
  have h4 := h.cell.2.2.2.2
  rw [← hH] at h4
  have f4 := h.frozen 4
  have h1 := h.setHashes (H + 1)
  obtain ⟨g, cap, rfl, hw, hcl, hfz, hcap, hi⟩ := words_at h1 hz
  have h2 := MemAt.setWord h1 (k + 1) (H + 1)
  have HE := Lib.hid h2
  have hF : Fr (foot mb (.slice (some ⟨g, 0, none⟩) m.W.length cap) sv) w ((w.setCell ⟨mb, 4, none⟩ (.int .i64 (H + 1))).setCell ⟨g, k + 1, none⟩ (.int .u64 (H + 1))) := by
    refine Fr.setCell (Fr.setCell (Fr.refl _ _) (fun _ => ?_) _) (fun _ => ?_) _
    · exact foot_mb
    · exact foot_w rfl
  have HF := Lib.hid hF
  have h4' := h1.cell.2.2.2.2
  clear h hz h1 h2 hF hH hcap
  simp only at hw h4' hi
  generalize m.W.length = n at *
  go_enter Tryd.func31, Tryd.ntmps31
  go_wp2_with (first | (go_at_call 32; refine hc.mono ?_; rintro e w' ⟨rfl, rfl⟩))
  go_region
  all_goals go_wp2
  all_goals go_ret
  all_goals exact ⟨rfl, HE.out.fr0 (Fr.refl _ _).drew, HF.out.drew⟩
end Go.Proofs.YtfcigjicikpabaaDoor
