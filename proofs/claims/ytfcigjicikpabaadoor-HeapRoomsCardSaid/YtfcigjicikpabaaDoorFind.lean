/- What the memory's find, size, hash and field return. -/
import Derived.Test.YtfcigjicikpabaaDoorMem
namespace Go.Proofs.YtfcigjicikpabaaDoor
open Go.RowKit Go.Sort Go.Lib

/-- Returned 0 and a fault that wraps n; only new memory. -/
def Fails2 (n : Int) (w : World) (e : Ending) (w' : World) : Prop := ∃ s : ByteArray, e = .returned (.tuple #[.int .i64 0, .iface 94 (.agg #[.string s, .int .i64 n])]) ∧ Fr [] w w'
theorem find_yes {w : World} {mb : Nat} {m : Mem} {wv sv : Value} (h : MemAt w mb m wv sv) (k : Nat) (hk : m.M[k]? = some true) (h1 : 1 ≤ k) (h2 : k ≤ 2147483647) :
    Calls Tryd.prog 29 #[.pointer (some ⟨mb, 0, none⟩), .int .u64 (2 * k)] w (Gives (.tuple #[.int .i64 k, .nilIface]) w) := by
  have hc := start_yes h k hk h1 h2
  clear h hk h1 h2
  go_enter Tryd.func29, Tryd.ntmps29
  go_wp2_with (go_at_call 36; refine hc.mono ?_; rintro e w' ⟨rfl, rfl⟩)
  go_ret2
  exact ⟨rfl, rfl⟩
theorem find_no {w : World} {mb : Nat} {m : Mem} {wv sv : Value} (h : MemAt w mb m wv sv) (hg : Glob w) (x : Int) (h1 : 0 ≤ x) (h2 : x ≤ 18446744073709551615) (hx : stB m.M x = false) :
    Calls Tryd.prog 29 #[.pointer (some ⟨mb, 0, none⟩), .int .u64 x] w (Fails2 1 w) := by
  have hc := start_no h x h1 h2 hx
  have hi := fun s hs => invalidWord_fails s hs x w hg h1 (by omega)
  clear h hg hx
  go_enter Tryd.func29, Tryd.ntmps29
  go_wp2_with (first | (go_at_call 36; refine hc.mono ?_; rintro e w' ⟨rfl, rfl⟩) | (go_at_call 46; refine (hi _ (by decide)).mono ?_; rintro e w' ⟨s, rfl, hF⟩))
  go_ret2
  exact ⟨_, rfl, hF⟩
theorem words_at {w : World} {mb : Nat} {m : Mem} {wv sv : Value} (h : MemAt w mb m wv sv) {i : Nat} {z : Int} (hz : m.W[i]? = some z) : ∃ g cap, wv = .slice (some ⟨g, 0, none⟩) m.W.length cap ∧ w.cell? ⟨mb, 1, none⟩ = some (.slice (some ⟨g, 0, none⟩) m.W.length cap) ∧ w.cell? ⟨g, i, none⟩ = some (.int .u64 z) ∧ w.frozen? ⟨g, i, none⟩ = false ∧ m.W.length ≤ cap ∧ i < m.W.length := by
  have hi : i < m.W.length := (List.getElem?_eq_some_iff.1 hz).1
  obtain ⟨g, cap, rfl, hc, hf, hcap⟩ := row_at h.words hi
  rw [List.getElem?_map, hz] at hc
  exact ⟨g, cap, rfl, cell_of_heap h.mem rfl, hc, hf, hcap, hi⟩
theorem size_gives {w : World} {mb : Nat} {m : Mem} {wv sv : Value} (h : MemAt w mb m wv sv) (k z : Nat) (hz : m.W[k + 2]? = some (z : Int)) (hz2 : z ≤ 65536) :
    Calls Tryd.prog 30 #[.pointer (some ⟨mb, 0, none⟩), .int .i64 k] w (Gives (.int .i64 z) w) := by
  have hm := h.most
  obtain ⟨g, cap, -, hw, hc, -, -, hi⟩ := words_at h hz
  clear h hz
  generalize m.W.length = n at *
  go_enter Tryd.func30, Tryd.ntmps30
  go_wp2
  go_ret
  exact ⟨rfl, rfl⟩
theorem hash_gives {w : World} {mb : Nat} {m : Mem} {wv sv : Value} (h : MemAt w mb m wv sv) (k : Nat) (z : Int) (hz : m.W[k + 1]? = some z) (hz1 : 0 ≤ z) (hz2 : z ≤ 1099511627775) :
    Calls Tryd.prog 32 #[.pointer (some ⟨mb, 0, none⟩), .int .i64 k] w (Gives (.int .i64 z) w) := by
  have hm := h.most
  obtain ⟨g, cap, -, hw, hc, -, -, hi⟩ := words_at h hz
  clear h hz
  generalize m.W.length = n at *
  go_enter Tryd.func32, Tryd.ntmps32
  go_wp2
  go_ret
  exact ⟨rfl, rfl⟩
theorem field_yes {w : World} {mb : Nat} {m : Mem} {wv sv : Value} (h : MemAt w mb m wv sv) (k z j : Nat) (hk : m.M[k]? = some true) (h1 : 1 ≤ k) (hz : m.W[k + 2]? = some (z : Int)) (hz2 : z ≤ 65536) (hj : j < z) :
    Calls Tryd.prog 33 #[.pointer (some ⟨mb, 0, none⟩), .int .u64 (2 * k), .int .i64 j] w (Gives (.tuple #[.int .i64 (k + 3 + j), .nilIface]) w) := by
  have hkl : k < m.M.length := (List.getElem?_eq_some_iff.1 hk).1
  have hm := h.most
  have ha := h.alike
  have hk2 : k ≤ 65536 := by omega
  have hc := find_yes h k hk h1 (by omega)
  have hs := size_gives h k z hz hz2
  clear h hk hz ha hm hkl
  go_enter Tryd.func33, Tryd.ntmps33
  go_wp2_with (first | (go_at_call 29; refine hc.mono ?_; rintro e w' ⟨rfl, rfl⟩) | (go_at_call 30; refine hs.mono ?_; rintro e w' ⟨rfl, rfl⟩))
  go_ret2
  exact ⟨rfl, rfl⟩
theorem field_far {w : World} {mb : Nat} {m : Mem} {wv sv : Value} (h : MemAt w mb m wv sv) (hg : Glob w) (k z : Nat) (j : Int) (hk : m.M[k]? = some true) (h1 : 1 ≤ k) (hz : m.W[k + 2]? = some (z : Int)) (hz2 : z ≤ 65536) (hj : j < 0 ∨ (z : Int) ≤ j) (j1 : -9223372036854775808 ≤ j) (j2 : j ≤ 9223372036854775807) :
    Calls Tryd.prog 33 #[.pointer (some ⟨mb, 0, none⟩), .int .u64 (2 * k), .int .i64 j] w (Fails2 1 w) := by
  have hkl : k < m.M.length := (List.getElem?_eq_some_iff.1 hk).1
  have hm := h.most
  have ha := h.alike
  have hk2 : k ≤ 65536 := by omega
  have hc := find_yes h k hk h1 (by omega)
  have hs := size_gives h k z hz hz2
  have hi := fun s hs => invalid_fails s hs j w hg j1 j2
  clear h hk hz ha hm hkl hg
  rcases hj with hj | hj
  · go_enter Tryd.func33, Tryd.ntmps33
    go_wp2_with (first | (go_at_call 29; refine hc.mono ?_; rintro e w' ⟨rfl, rfl⟩) | (go_at_call 30; refine hs.mono ?_; rintro e w' ⟨rfl, rfl⟩) | (go_at_call 41; refine (hi _ (by decide)).mono ?_; rintro e w' ⟨s, rfl, hF⟩))
    go_ret2
    exact ⟨_, rfl, hF⟩
  · have hj0 : ¬ j < 0 := by omega
    go_enter Tryd.func33, Tryd.ntmps33
    go_wp2_with (first | (go_at_call 29; refine hc.mono ?_; rintro e w' ⟨rfl, rfl⟩) | (go_at_call 30; refine hs.mono ?_; rintro e w' ⟨rfl, rfl⟩) | (go_at_call 41; refine (hi _ (by decide)).mono ?_; rintro e w' ⟨s, rfl, hF⟩))
    go_ret2
    exact ⟨_, rfl, hF⟩
theorem field_no {w : World} {mb : Nat} {m : Mem} {wv sv : Value} (h : MemAt w mb m wv sv) (hg : Glob w) (x j : Int) (h1 : 0 ≤ x) (h2 : x ≤ 18446744073709551615) (hx : stB m.M x = false) :
    Calls Tryd.prog 33 #[.pointer (some ⟨mb, 0, none⟩), .int .u64 x, .int .i64 j] w (Fails2 1 w) := by
  have hc := find_no h hg x h1 h2 hx
  clear h hg hx
  go_enter Tryd.func33, Tryd.ntmps33
  go_wp2_with (go_at_call 29; refine hc.mono ?_; rintro e w' ⟨s, rfl, hF⟩)
  go_ret2
  exact ⟨_, rfl, hF⟩
end Go.Proofs.YtfcigjicikpabaaDoor
