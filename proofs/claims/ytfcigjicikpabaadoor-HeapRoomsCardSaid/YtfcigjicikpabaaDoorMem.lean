/- A heap's memory as lists of words and marks; what the memory's readers (start, find, field, size, hash) return. -/
import Derived.Test.YtfcigjicikpabaaDoorFault
import Derived.Test.YtfcigjicikpabaaDoorWord
namespace Go.Proofs.YtfcigjicikpabaaDoor
open Go.RowKit Go.Sort Go.Lib

/-! rows -/
theorem row_shape {w : World} {b : Nat} {e : TypeId} {v : Value} {n : Nat} {xs : List Value} (h : w.ownsRow b e 1 v n xs) : ∃ ao cap, v = .slice ao n cap := by
  rcases h.2 with ⟨rfl, rfl⟩ | ⟨g, cap, cur, rfl, _⟩
  · exact ⟨_, _, rfl⟩
  · exact ⟨_, _, rfl⟩
theorem row_at {w : World} {b : Nat} {e : TypeId} {v : Value} {n : Nat} {xs : List Value} (h : w.ownsRow b e 1 v n xs) {i : Nat} (hi : i < n) : ∃ g cap, v = .slice (some ⟨g, 0, none⟩) n cap ∧ w.cell? ⟨g, i, none⟩ = xs[i]? ∧ w.frozen? ⟨g, i, none⟩ = false ∧ n ≤ cap := by
  rcases h.2 with ⟨rfl, rfl⟩ | ⟨g, cap, cur, rfl, hb, hg, hn, hr⟩
  · omega
  · exact ⟨g, cap, rfl, h.cellAt i (by omega), h.frozenAt i, hn⟩

/-- what a memory holds: its limit, its words, for each of them whether an object begins there, the root, how many hashes were given -/
structure Mem where
  lim : Int
  W : List Int
  M : List Bool
  root : Int
  hashes : Int

/-- does a word lead to an object? -/
def stB (M : List Bool) (x : Int) : Bool := rfOk x && M[(x / 2).toNat]?.getD false
theorem stB_at {M : List Bool} {x : Int} (h : stB M x = true) : ∃ k : Nat, x = 2 * k ∧ 1 ≤ k ∧ k ≤ 2147483647 ∧ M[k]? = some true := by
  unfold stB at h
  simp only [Bool.and_eq_true] at h
  obtain ⟨h1, h2⟩ := h
  rw [rfOk_iff] at h1
  refine ⟨(x / 2).toNat, by omega, by omega, by omega, ?_⟩
  cases hm : M[(x / 2).toNat]? with
  | none => rw [hm] at h2; cases h2
  | some b => rw [hm] at h2; simp at h2; rw [h2]
theorem stB_mk {M : List Bool} {k : Nat} (h1 : 1 ≤ k) (h2 : k ≤ 2147483647) (h : M[k]? = some true) : stB M (2 * k) = true := by
  unfold stB
  have e : (2 * (k : Int) / 2).toNat = k := by omega
  rw [e, h]
  simp only [Option.getD_some, Bool.and_true]
  rw [rfOk_iff]; omega
theorem stB_no {M : List Bool} {x : Int} (h : stB M x = false) : rfOk x = false ∨ ∃ k : Nat, x = 2 * k ∧ 1 ≤ k ∧ k ≤ 2147483647 ∧ (M.length ≤ k ∨ M[k]? = some false) := by
  cases hr : rfOk x
  · exact .inl rfl
  · right
    unfold stB at h
    rw [hr] at h
    rw [rfOk_iff] at hr
    refine ⟨(x / 2).toNat, by omega, by omega, by omega, ?_⟩
    simp only [Bool.true_and] at h
    cases hm : M[(x / 2).toNat]? with
    | none => left; exact List.getElem?_eq_none_iff.1 hm
    | some b => rw [hm] at h; simp at h; right; rw [h]

/-- the memory m lies at block mb -/
structure MemAt (w : World) (mb : Nat) (m : Mem) (wv sv : Value) : Prop where
  mem : w.heap[mb]? = some (.cells #[.int .i64 m.lim, wv, sv, .int .u64 m.root, .int .i64 m.hashes] 66 (0, 0))
  words : w.ownsRow 0 23 1 wv m.W.length (m.W.map (Value.int .u64))
  starts : w.ownsRow 0 4 1 sv m.M.length (m.M.map Value.bool)
  most : m.W.length ≤ 65536
  alike : m.M.length = m.W.length

theorem start_yes {w : World} {mb : Nat} {m : Mem} {wv sv : Value} (h : MemAt w mb m wv sv) (k : Nat) (hk : m.M[k]? = some true) (h1 : 1 ≤ k) (h2 : k ≤ 2147483647) :
    Calls Tryd.prog 36 #[.pointer (some ⟨mb, 0, none⟩), .int .u64 (2 * k)] w (Gives (.tuple #[.int .i64 k, .bool true]) w) := by
  have hkl : k < m.M.length := (List.getElem?_eq_some_iff.1 hk).1
  have hm := h.most
  have ha := h.alike
  obtain ⟨g, cap, rfl, hc, _, hcap⟩ := row_at h.starts hkl
  rw [List.getElem?_map, hk] at hc
  simp only [Option.map_some] at hc
  have hs : w.cell? ⟨mb, 2, none⟩ = some (.slice (some ⟨g, 0, none⟩) m.M.length cap) := cell_of_heap h.mem rfl
  have hr := wordRef_at k w h1 h2
  have hm' : m.M.length ≤ 65536 := by omega
  clear h hk hm ha hcap
  generalize m.M.length = n at *
  go_enter Tryd.func36, Tryd.ntmps36
  go_wp2_with (go_at_call 50; refine hr.mono ?_; rintro e w' ⟨rfl, rfl⟩)
  go_ret2
  exact ⟨rfl, rfl⟩
theorem start_no {w : World} {mb : Nat} {m : Mem} {wv sv : Value} (h : MemAt w mb m wv sv) (x : Int) (h1 : 0 ≤ x) (h2 : x ≤ 18446744073709551615) (hx : stB m.M x = false) :
    Calls Tryd.prog 36 #[.pointer (some ⟨mb, 0, none⟩), .int .u64 x] w (Gives (.tuple #[.int .i64 0, .bool false]) w) := by
  have hm := h.most
  have ha := h.alike
  have hm' : m.M.length ≤ 65536 := by omega
  rcases stB_no hx with hr | ⟨k, rfl, k1, k2, hk | hk⟩
  · have hc := wordRef_no x w h1 h2 hr
    clear h hx hm ha hr
    go_enter Tryd.func36, Tryd.ntmps36
    go_wp2_with (go_at_call 50; refine hc.mono ?_; rintro e w' ⟨rfl, rfl⟩)
    go_ret2
    exact ⟨rfl, rfl⟩
  · have hr := wordRef_at k w k1 k2
    obtain ⟨ao, cap, rfl⟩ := row_shape h.starts
    have hs : w.cell? ⟨mb, 2, none⟩ = some (.slice ao m.M.length cap) := cell_of_heap h.mem rfl
    clear h hx hm ha
    generalize m.M.length = n at *
    go_enter Tryd.func36, Tryd.ntmps36
    go_wp2_with (go_at_call 50; refine hr.mono ?_; rintro e w' ⟨rfl, rfl⟩)
    go_ret2
    exact ⟨rfl, rfl⟩
  · have hkl : k < m.M.length := (List.getElem?_eq_some_iff.1 hk).1
    obtain ⟨g, cap, rfl, hc, _, hcap⟩ := row_at h.starts hkl
    rw [List.getElem?_map, hk] at hc
    simp only [Option.map_some] at hc
    have hs : w.cell? ⟨mb, 2, none⟩ = some (.slice (some ⟨g, 0, none⟩) m.M.length cap) := cell_of_heap h.mem rfl
    have hr := wordRef_at k w k1 k2
    clear h hk hm ha hcap hx
    generalize m.M.length = n at *
    go_enter Tryd.func36, Tryd.ntmps36
    go_wp2_with (go_at_call 50; refine hr.mono ?_; rintro e w' ⟨rfl, rfl⟩)
    go_ret2
    exact ⟨rfl, rfl⟩
end Go.Proofs.YtfcigjicikpabaaDoor
