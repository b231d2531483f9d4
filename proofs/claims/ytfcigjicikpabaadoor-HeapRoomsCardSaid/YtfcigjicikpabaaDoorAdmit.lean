/- What the memory's admit returns. -/
import Derived.Test.YtfcigjicikpabaaDoorSet
namespace Go.Proofs.YtfcigjicikpabaaDoor
open Go.RowKit

theorem check2_ok {w : World} {mb : Nat} {m : Mem} {wv sv : Value} (h : MemAt w mb m wv sv) (g : Nat) (x y : Int) (ha : w.cell? ⟨g, 0, none⟩ = some (.int .u64 x)) (hb : w.cell? ⟨g, 1, none⟩ = some (.int .u64 y)) (b1 : 0 ≤ x) (b2 : x ≤ 18446744073709551615) (b3 : 0 ≤ y) (b4 : y ≤ 18446744073709551615) (hok : okB m.M x = true) (hok2 : okB m.M y = true) :
    Calls Tryd.prog 42 #[.pointer (some ⟨mb, 0, none⟩), .slice (some ⟨g, 0, none⟩) 2 2] w (Gives .nilIface w) :=
  check_ok h (some ⟨g, 0, none⟩) 2 [x, y] (fun i z hz => by match i, hz with | 0, hz => cases hz; exact ⟨g, 0, rfl, ha⟩ | 1, hz => cases hz; exact ⟨g, 0, rfl, hb⟩ | i + 2, hz => simp at hz) (by simp) (by simp; omega) (by simpa using ⟨hok, hok2⟩)
theorem check2_bad {w : World} {mb : Nat} {m : Mem} {wv sv : Value} (h : MemAt w mb m wv sv) (hg : Glob w) (g : Nat) (x y : Int) (ha : w.cell? ⟨g, 0, none⟩ = some (.int .u64 x)) (hb : w.cell? ⟨g, 1, none⟩ = some (.int .u64 y)) (b1 : 0 ≤ x) (b2 : x ≤ 18446744073709551615) (b3 : 0 ≤ y) (b4 : y ≤ 18446744073709551615) (hok : okB m.M x = false ∨ okB m.M y = false) :
    Calls Tryd.prog 42 #[.pointer (some ⟨mb, 0, none⟩), .slice (some ⟨g, 0, none⟩) 2 2] w (Fails 1 w) := by
  have hW : WordsAt w (some ⟨g, 0, none⟩) [x, y] := fun i z hz => by match i, hz with | 0, hz => cases hz; exact ⟨g, 0, rfl, ha⟩ | 1, hz => cases hz; exact ⟨g, 0, rfl, hb⟩ | i + 2, hz => simp at hz
  rcases hok with hok | hok
  · exact check_bad h hg (some ⟨g, 0, none⟩) 2 [x, y] hW (by simp) (by simp; omega) 0 x rfl hok
  · exact check_bad h hg (some ⟨g, 0, none⟩) 2 [x, y] hW (by simp) (by simp; omega) 1 y rfl hok
theorem admit_none {w : World} {mb : Nat} {m : Mem} {wv sv : Value} (h : MemAt w mb m wv sv) (hg : Glob w) (x n y : Int) (hl : m.lim = 0) :
    Calls Tryd.prog 24 #[.pointer (some ⟨mb, 0, none⟩), .int .u64 x, .int .i64 n, .int .u64 y] w (Fails 1 w) := by
  have h0 := h.cell.1
  rw [hl] at h0
  have hi := fun s hs => invalid_fails s hs 0 w hg (by omega) (by omega)
  clear h hg hl
  go_enter Tryd.func24, Tryd.ntmps24
  go_wp2_with (first | (go_at_call 41; refine (hi _ (by decide)).mono ?_; rintro e w' ⟨s, rfl, hF⟩))
  go_ret
  exact ⟨_, rfl, hF⟩
theorem admit_size {w : World} {mb : Nat} {m : Mem} {wv sv : Value} (h : MemAt w mb m wv sv) (hg : Glob w) (x n y : Int) (hl : 1 ≤ m.lim) (hn : n < 0 ∨ 512 < n) (n1 : -9223372036854775808 ≤ n) (n2 : n ≤ 9223372036854775807) :
    Calls Tryd.prog 24 #[.pointer (some ⟨mb, 0, none⟩), .int .u64 x, .int .i64 n, .int .u64 y] w (Fails 1 w) := by
  have h0 := h.cell.1
  have hi := fun s hs => invalid_fails s hs n w hg n1 n2
  clear h hg
  rcases hn with hn | hn
  · go_enter Tryd.func24, Tryd.ntmps24
    go_wp2_with (first | (go_at_call 41; refine (hi _ (by decide)).mono ?_; rintro e w' ⟨s, rfl, hF⟩))
    go_ret
    exact ⟨_, rfl, hF⟩
  · have hn0 : ¬ n < 0 := by omega
    go_enter Tryd.func24, Tryd.ntmps24
    go_wp2_with (first | (go_at_call 41; refine (hi _ (by decide)).mono ?_; rintro e w' ⟨s, rfl, hF⟩))
    go_ret
    exact ⟨_, rfl, hF⟩
theorem admit_bad {w : World} {mb : Nat} {m : Mem} {wv sv : Value} (h : MemAt w mb m wv sv) (hg : Glob w) (x n y : Int) (hl : 1 ≤ m.lim) (n1 : 0 ≤ n) (n2 : n ≤ 512) (b1 : 0 ≤ x) (b2 : x ≤ 18446744073709551615) (b3 : 0 ≤ y) (b4 : y ≤ 18446744073709551615) (hok : okB m.M x = false ∨ okB m.M y = false) :
    Calls Tryd.prog 24 #[.pointer (some ⟨mb, 0, none⟩), .int .u64 x, .int .i64 n, .int .u64 y] w (Fails 1 w) := by
  have h0 := h.cell.1
  have hF : Fr [] w (w.alloc (.cells #[.int .u64 x, .int .u64 y] 23)) := (Fr.refl _ _).alloc _
  have hc := check2_bad (h.fr0 hF) (hg.fr hF) w.heap.size x y (by simp) (by simp) b1 b2 b3 b4 hok
  clear h hg hok
  go_enter Tryd.func24, Tryd.ntmps24
  go_wp2_with (first | (go_at_call 42; refine hc.mono ?_; rintro e w' ⟨s, rfl, hF'⟩))
  go_ret
  exact ⟨_, rfl, hF.trans hF'⟩
theorem admit_mem {w : World} {mb : Nat} {m : Mem} {wv sv : Value} (h : MemAt w mb m wv sv) (hg : Glob w) (x n y : Int) (hl : 1 ≤ m.lim) (hl2 : m.lim ≤ 65536) (n1 : 0 ≤ n) (n2 : n ≤ 512) (b1 : 0 ≤ x) (b2 : x ≤ 18446744073709551615) (b3 : 0 ≤ y) (b4 : y ≤ 18446744073709551615) (hok : okB m.M x = true) (hok2 : okB m.M y = true) (hf : m.lim < m.W.length + 3 + n) :
    Calls Tryd.prog 24 #[.pointer (some ⟨mb, 0, none⟩), .int .u64 x, .int .i64 n, .int .u64 y] w (Fails 2 w) := by
  have h0 := h.cell.1
  have hm := h.most
  have hF : Fr [] w (w.alloc (.cells #[.int .u64 x, .int .u64 y] 23)) := (Fr.refl _ _).alloc _
  have h' := h.fr0 hF
  have hc := check2_ok h' w.heap.size x y (by simp) (by simp) b1 b2 b3 b4 hok hok2
  have hi := fun s hs => full_fails s hs m.lim (w.alloc (.cells #[.int .u64 x, .int .u64 y] 23)).drew ((hg.fr hF).fr (Fr.refl _ _).drew) (by omega) (by omega)
  obtain ⟨ao, cap, rfl⟩ := row_shape h.words
  have h1 := h'.cell.2.1
  have h2 := h'.cell.1
  clear h hg hok hok2 h'
  generalize m.W.length = k at *
  generalize m.lim = lim at *
  go_enter Tryd.func24, Tryd.ntmps24
  go_wp2_with (first | (go_at_call 42; refine hc.mono ?_; rintro e w' ⟨rfl, rfl⟩))
  go_region
  all_goals go_wp2_with (first | (go_at_call 43; refine (hi _ (by decide)).mono ?_; rintro e w' ⟨s, rfl, hF'⟩))
  all_goals go_ret
  all_goals exact ⟨_, rfl, hF.drew.trans hF'⟩
theorem admit_ok {w : World} {mb : Nat} {m : Mem} {wv sv : Value} (h : MemAt w mb m wv sv) (x n y : Int) (hl : 1 ≤ m.lim) (hl2 : m.lim ≤ 65536) (n1 : 0 ≤ n) (n2 : n ≤ 512) (b1 : 0 ≤ x) (b2 : x ≤ 18446744073709551615) (b3 : 0 ≤ y) (b4 : y ≤ 18446744073709551615) (hok : okB m.M x = true) (hok2 : okB m.M y = true) (hf : m.W.length + 3 + n ≤ m.lim) :
    Calls Tryd.prog 24 #[.pointer (some ⟨mb, 0, none⟩), .int .u64 x, .int .i64 n, .int .u64 y] w (Still .nilIface w) := by
  have h0 := h.cell.1
  have hm := h.most
  have hF : Fr [] w (w.alloc (.cells #[.int .u64 x, .int .u64 y] 23)) := (Fr.refl _ _).alloc _
  have h' := h.fr0 hF
  have hc := check2_ok h' w.heap.size x y (by simp) (by simp) b1 b2 b3 b4 hok hok2
  obtain ⟨ao, cap, rfl⟩ := row_shape h.words
  have h1 := h'.cell.2.1
  have h2 := h'.cell.1
  clear h hok hok2 h'
  generalize m.W.length = k at *
  generalize m.lim = lim at *
  go_enter Tryd.func24, Tryd.ntmps24
  go_wp2_with (first | (go_at_call 42; refine hc.mono ?_; rintro e w' ⟨rfl, rfl⟩))
  go_region
  all_goals go_wp2
  all_goals go_ret
  all_goals exact ⟨rfl, hF.drew⟩
end Go.Proofs.YtfcigjicikpabaaDoor
