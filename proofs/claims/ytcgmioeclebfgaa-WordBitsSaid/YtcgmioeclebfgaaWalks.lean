/- What each function of package word, and each function of the document's answer for it, returns, for every input of its kinds; nothing in memory changes. -/
import Derived.Test.YtcgmioeclebfgaaRows
import Derived.Test.YtcgmioeclebfgaaMath
import Derived.WalkKit
import Derived.ProofKit
import Derived.OpenShut
import Derived.Lib.Hide
namespace Go.Proofs.Ytcgmioeclebfgaa
open Go.ChangeShapes Go.WideShapes Go.ChangeAt Go.RowKit

/-- Returned, and the world as it was. -/
def Gives (v : Value) (w : World) (e : Ending) (w' : World) : Prop := e = .returned v ∧ w = w'

theorem tup2 {a b c d : Value} (h1 : a = c) (h2 : b = d) : Ending.returned (.tuple #[a, b]) = .returned (.tuple #[c, d]) := by rw [h1, h2]
theorem vi {k : IntKind} {a b : Int} (h : a = b) : Value.int k a = Value.int k b := by rw [h]
theorem vb {a b : Bool} (h : a = b) : Value.bool a = Value.bool b := by rw [h]

/-! word.FromInt, and the document's -/
theorem fi_yes (n : Int) (h : fit n = true) : fiW n = (2 * n + 1) % 18446744073709551616 ∧ fiE n = 0 := by unfold fiW fiE; simp [h]
theorem fi_no (n : Int) (h : fit n = false) : fiW n = 0 ∧ fiE n = 1 := by unfold fiW fiE; simp [h]
theorem c12_yes (n : Int) (w : World) (h : fit n = true) : Calls Try.prog 12 #[.int .i64 n] w (Gives (.tuple #[.int .u64 (fiW n), .int .i64 0]) w) := by
  have H := Lib.hid (fi_yes n h)
  rw [fit_iff] at h
  obtain ⟨h1, h2⟩ := h
  go_enter Try.func12, Try.ntmps12
  go_wp2
  go_ret2
  exact ⟨tup2 (vi (by rw [H.out.1]; exact word_or n)) rfl, rfl⟩
theorem c12_no (n : Int) (w : World) (h : fit n = false) : Calls Try.prog 12 #[.int .i64 n] w (Gives (.tuple #[.int .u64 0, .int .i64 1]) w) := by
  rw [fit_not] at h
  by_cases h1 : n < -4611686018427387904
  · clear h
    go_enter Try.func12, Try.ntmps12
    go_wp2
    go_ret2
    exact ⟨rfl, rfl⟩
  · have h2 : 4611686018427387903 < n := by omega
    clear h
    go_enter Try.func12, Try.ntmps12
    go_wp2
    go_ret2
    exact ⟨rfl, rfl⟩
theorem c12 (n : Int) (w : World) : Calls Try.prog 12 #[.int .i64 n] w (Gives (.tuple #[.int .u64 (fiW n), .int .i64 (fiE n)]) w) := by
  cases h : fit n
  · have e := fi_no n h; rw [e.1, e.2]; exact c12_no n w h
  · have e := fi_yes n h; rw [e.2]; exact c12_yes n w h
theorem ret1 {a b : Value} (h : a = b) : Ending.returned a = .returned b := by rw [h]
theorem c27 (n : Int) (w : World) : Calls Try.prog 27 #[.int .i64 n] w (Gives (.bool (fit n)) w) := by
  go_enter Try.func27, Try.ntmps27
  go_wp2
  all_goals go_ret
  · rename_i h
    exact ⟨ret1 (vb (by unfold fit; rw [decide_eq_decide]; omega)), rfl⟩
  · rename_i h
    exact ⟨ret1 (vb (by rw [eq_comm, fit_not]; omega)), rfl⟩
theorem c13 (n : Int) (w : World) : Calls Try.prog 13 #[.int .i64 n] w (Gives (.tuple #[.int .u64 (fiW n), .int .i64 (fiE n)]) w) := by
  cases h : fit n
  · have e := fi_no n h; rw [e.1, e.2]; clear e
    go_enter Try.func13, Try.ntmps13
    go_wp2_with (go_at_call 27; refine (c27 _ _).mono ?_; rintro e w' ⟨rfl, rfl⟩)
    go_ret2
    exact ⟨rfl, rfl⟩
  · have e := fi_yes n h; rw [e.1, e.2]; clear e
    go_enter Try.func13, Try.ntmps13
    go_wp2_with (go_at_call 27; refine (c27 _ _).mono ?_; rintro e w' ⟨rfl, rfl⟩)
    go_ret2
    exact ⟨tup2 (vi (by simp only [wrap_u64_eq]; omega)) rfl, rfl⟩

/-! FromRef -/
theorem frOk_iff (n : Int) : frOk n = true ↔ (1 ≤ n ∧ n ≤ 2147483647) := by unfold frOk; simp
theorem fr_yes (n : Int) (h : frOk n = true) : frW n = 2 * n ∧ frE n = 0 := by unfold frW frE; simp [h]
theorem fr_no (n : Int) (h : frOk n = false) : frW n = 0 ∧ frE n = 1 := by unfold frW frE; simp [h]
theorem c14 (n : Int) (w : World) : Calls Try.prog 14 #[.int .i64 n] w (Gives (.tuple #[.int .u64 (frW n), .int .i64 (frE n)]) w) := by
  cases h : frOk n
  · have e := fr_no n h; rw [e.1, e.2]; clear e
    have h' : ¬ (1 ≤ n ∧ n ≤ 2147483647) := by rw [← frOk_iff, h]; simp
    clear h
    by_cases h1 : n < 1
    · clear h'
      go_enter Try.func14, Try.ntmps14
      go_wp2
      go_ret2
      exact ⟨rfl, rfl⟩
    · have h2 : 2147483647 < n := by omega
      clear h'
      go_enter Try.func14, Try.ntmps14
      go_wp2
      go_ret2
      exact ⟨rfl, rfl⟩
  · have e := fr_yes n h; rw [e.1, e.2]; clear e
    rw [frOk_iff] at h
    obtain ⟨h1, h2⟩ := h
    go_enter Try.func14, Try.ntmps14
    go_wp2
    go_ret2
    exact ⟨tup2 (vi (by first | omega | (simp only [wrap_u64_eq]; omega))) rfl, rfl⟩
theorem c15 (n : Int) (w : World) : Calls Try.prog 15 #[.int .i64 n] w (Gives (.tuple #[.int .u64 (frW n), .int .i64 (frE n)]) w) := by
  cases h : frOk n
  · have e := fr_no n h; rw [e.1, e.2]; clear e
    have h' : ¬ (1 ≤ n ∧ n ≤ 2147483647) := by rw [← frOk_iff, h]; simp
    clear h
    by_cases h1 : n < 1
    · clear h'
      go_enter Try.func15, Try.ntmps15
      go_wp2
      go_ret2
      exact ⟨rfl, rfl⟩
    · have h2 : 2147483647 < n := by omega
      clear h'
      go_enter Try.func15, Try.ntmps15
      go_wp2
      go_ret2
      exact ⟨rfl, rfl⟩
  · have e := fr_yes n h; rw [e.1, e.2]; clear e
    rw [frOk_iff] at h
    obtain ⟨h1, h2⟩ := h
    go_enter Try.func15, Try.ntmps15
    go_wp2
    go_ret2
    exact ⟨tup2 (vi (by first | omega | (simp only [wrap_u64_eq]; omega))) rfl, rfl⟩

/-! IsInt -/
theorem c20 (n : Int) (w : World) (h1 : 0 ≤ n) (h2 : n ≤ 18446744073709551615) : Calls Try.prog 20 #[.int .u64 n] w (Gives (.bool (odd n)) w) := by
  go_enter Try.func20, Try.ntmps20
  go_wp2
  go_ret
  exact ⟨ret1 (vb (by rw [bits_and1_u64 n h1 h2]; unfold odd; rfl)), rfl⟩
theorem c21 (n : Int) (w : World) (h1 : 0 ≤ n) (h2 : n ≤ 18446744073709551615) : Calls Try.prog 21 #[.int .u64 n] w (Gives (.bool (odd n)) w) := by
  go_enter Try.func21, Try.ntmps21
  go_wp2
  go_ret
  exact ⟨ret1 (vb (by unfold odd; rfl)), rfl⟩

/-! Int -/
theorem in_yes (n : Int) (h : odd n = true) : inN n = wrap64 n / 2 ∧ inE n = 0 := by unfold inN inE; simp [h]
theorem in_no (n : Int) (h : odd n = false) : inN n = 0 ∧ inE n = 1 := by unfold inN inE; simp [h]
theorem odd_iff (n : Int) : odd n = true ↔ n % 2 = 1 := by unfold odd; simp
theorem odd_not (n : Int) : odd n = false ↔ n % 2 = 0 := by unfold odd; simp; omega
theorem c16 (n : Int) (w : World) (h1 : 0 ≤ n) (h2 : n ≤ 18446744073709551615) : Calls Try.prog 16 #[.int .u64 n] w (Gives (.tuple #[.int .i64 (inN n), .int .i64 (inE n)]) w) := by
  cases h : odd n
  · have e := in_no n h; rw [e.1, e.2]; clear e
    go_enter Try.func16, Try.ntmps16
    go_wp2_with (go_at_call 20; refine (c20 _ _ h1 h2).mono ?_; rintro e w' ⟨rfl, rfl⟩)
    go_ret2
    exact ⟨rfl, rfl⟩
  · have e := in_yes n h; rw [e.1, e.2]; clear e
    go_enter Try.func16, Try.ntmps16
    go_wp2_with (go_at_call 20; refine (c20 _ _ h1 h2).mono ?_; rintro e w' ⟨rfl, rfl⟩)
    go_ret2
    exact ⟨rfl, rfl⟩
theorem ref_int (n : Int) (h : n % 2 = 1) : wrap64 ((wrap64 (wrap64 n - bits .and .i64 (wrap64 n) 1)).tdiv 2) = wrap64 n / 2 := by
  rw [and1_i64]
  have hb := wrap64_bd n
  have hp : wrap64 n % 2 = 1 := by unfold wrap64; omega
  generalize wrap64 n = x at *
  rw [IntWalk.wrap64_in (x - x % 2) (by omega)]
  have e : x - x % 2 = 2 * (x / 2) := by omega
  rw [e, Int.mul_tdiv_cancel_left _ (by decide)]
  exact IntWalk.wrap64_in _ (by omega)
theorem c17 (n : Int) (w : World) (h1 : 0 ≤ n) (h2 : n ≤ 18446744073709551615) : Calls Try.prog 17 #[.int .u64 n] w (Gives (.tuple #[.int .i64 (inN n), .int .i64 (inE n)]) w) := by
  cases h : odd n
  · have e := in_no n h; rw [e.1, e.2]; clear e
    go_enter Try.func17, Try.ntmps17
    go_wp2_with (go_at_call 21; refine (c21 _ _ h1 h2).mono ?_; rintro e w' ⟨rfl, rfl⟩)
    go_ret2
    exact ⟨rfl, rfl⟩
  · have e := in_yes n h; rw [e.1, e.2]; clear e
    have H := Lib.hid (ref_int n ((odd_iff n).1 h))
    go_enter Try.func17, Try.ntmps17
    go_wp2_with (go_at_call 21; refine (c21 _ _ h1 h2).mono ?_; rintro e w' ⟨rfl, rfl⟩)
    go_ret2
    exact ⟨tup2 (vi H.out) rfl, rfl⟩

/-! Ref -/
theorem rfOk_iff (n : Int) : rfOk n = true ↔ (n % 2 = 0 ∧ 1 ≤ n / 2 ∧ n / 2 ≤ 2147483647) := by unfold rfOk; simp
theorem rf_yes (n : Int) (h : rfOk n = true) : rfN n = n / 2 ∧ rfE n = 0 := by unfold rfN rfE; simp [h]
theorem rf_no (n : Int) (h : rfOk n = false) : rfN n = 0 ∧ rfE n = 1 := by unfold rfN rfE; simp [h]
theorem c18 (n : Int) (w : World) (h1 : 0 ≤ n) (h2 : n ≤ 18446744073709551615) : Calls Try.prog 18 #[.int .u64 n] w (Gives (.tuple #[.int .i64 (rfN n), .int .i64 (rfE n)]) w) := by
  cases h : rfOk n
  · have e := rf_no n h; rw [e.1, e.2]; clear e
    have h' : ¬ (n % 2 = 0 ∧ 1 ≤ n / 2 ∧ n / 2 ≤ 2147483647) := by rw [← rfOk_iff, h]; simp
    clear h
    cases h : odd n
    · have ho := (odd_not n).1 h
      by_cases h3 : n / 2 < 1
      · clear h' ho
        go_enter Try.func18, Try.ntmps18
        go_wp2_with (go_at_call 20; refine (c20 _ _ h1 h2).mono ?_; rintro e w' ⟨rfl, rfl⟩)
        go_ret2
        exact ⟨rfl, rfl⟩
      · have h4 : 2147483647 < n / 2 := by omega
        clear h' ho
        go_enter Try.func18, Try.ntmps18
        go_wp2_with (go_at_call 20; refine (c20 _ _ h1 h2).mono ?_; rintro e w' ⟨rfl, rfl⟩)
        go_ret2
        exact ⟨rfl, rfl⟩
    · clear h'
      go_enter Try.func18, Try.ntmps18
      go_wp2_with (go_at_call 20; refine (c20 _ _ h1 h2).mono ?_; rintro e w' ⟨rfl, rfl⟩)
      go_ret2
      exact ⟨rfl, rfl⟩
  · have e := rf_yes n h; rw [e.1, e.2]; clear e
    rw [rfOk_iff] at h
    obtain ⟨h3, h4, h5⟩ := h
    have h := (odd_not n).2 h3
    clear h3
    go_enter Try.func18, Try.ntmps18
    go_wp2_with (go_at_call 20; refine (c20 _ _ h1 h2).mono ?_; rintro e w' ⟨rfl, rfl⟩)
    go_ret2
    exact ⟨rfl, rfl⟩
theorem c19 (n : Int) (w : World) (h1 : 0 ≤ n) (h2 : n ≤ 18446744073709551615) : Calls Try.prog 19 #[.int .u64 n] w (Gives (.tuple #[.int .i64 (rfN n), .int .i64 (rfE n)]) w) := by
  cases h : rfOk n
  · have e := rf_no n h; rw [e.1, e.2]; clear e
    have h' : ¬ (n % 2 = 0 ∧ 1 ≤ n / 2 ∧ n / 2 ≤ 2147483647) := by rw [← rfOk_iff, h]; simp
    clear h
    cases h : odd n
    · have ho := (odd_not n).1 h
      by_cases h3 : n / 2 < 1
      · clear h' ho
        go_enter Try.func19, Try.ntmps19
        go_wp2_with (go_at_call 21; refine (c21 _ _ h1 h2).mono ?_; rintro e w' ⟨rfl, rfl⟩)
        go_ret2
        exact ⟨rfl, rfl⟩
      · have h4 : 2147483647 < n / 2 := by omega
        clear h' ho
        go_enter Try.func19, Try.ntmps19
        go_wp2_with (go_at_call 21; refine (c21 _ _ h1 h2).mono ?_; rintro e w' ⟨rfl, rfl⟩)
        go_ret2
        exact ⟨rfl, rfl⟩
    · clear h'
      go_enter Try.func19, Try.ntmps19
      go_wp2_with (go_at_call 21; refine (c21 _ _ h1 h2).mono ?_; rintro e w' ⟨rfl, rfl⟩)
      go_ret2
      exact ⟨rfl, rfl⟩
  · have e := rf_yes n h; rw [e.1, e.2]; clear e
    rw [rfOk_iff] at h
    obtain ⟨h3, h4, h5⟩ := h
    have h := (odd_not n).2 h3
    clear h3
    go_enter Try.func19, Try.ntmps19
    go_wp2_with (go_at_call 21; refine (c21 _ _ h1 h2).mono ?_; rintro e w' ⟨rfl, rfl⟩)
    go_ret2
    exact ⟨rfl, rfl⟩

/-! of -/
theorem c26 (n : Int) (w : World) : Calls Try.prog 26 #[.int .i64 n] w (Gives (.int .u64 (fiW n)) w) := by
  go_enter Try.func26, Try.ntmps26
  go_wp2_with (go_at_call 12; refine (c12 _ _).mono ?_; rintro e w' ⟨rfl, rfl⟩)
  go_ret
  exact ⟨rfl, rfl⟩
end Go.Proofs.Ytcgmioeclebfgaa
