/- What the document's answer to arithmetic returns, for every input of its kinds: what package word's returns; and that the document's examples come out true. -/
import Derived.Test.YtcgmioeclebfgaaArith
namespace Go.Proofs.Ytcgmioeclebfgaa
open Go.ChangeShapes Go.WideShapes Go.ChangeAt Go.RowKit

theorem times_yes (a b : Int) (ha : fit a = true) (hz : b ≠ 0) (h : fit (a * b) = true) :
    (wrap64 ((wrap64 (a * b)).tdiv b) == a) = true ∧ wrap64 (a * b) = a * b := by
  rw [fit_iff] at h
  have e : wrap64 (a * b) = a * b := IntWalk.wrap64_in _ (by omega)
  refine ⟨?_, e⟩
  rw [e, Int.mul_tdiv_cancel a hz]
  rw [fit_iff] at ha
  simp; exact IntWalk.wrap64_in _ (by omega)
theorem times_no (a b : Int) (ha : fit a = true) (hb : fit b = true) (hz : b ≠ 0) (h : fit (a * b) = false) :
    (wrap64 ((wrap64 (a * b)).tdiv b) == a) = true → fit (wrap64 (a * b)) = false := by
  intro hq
  have hq' : wrap64 ((wrap64 (b * a)).tdiv b) = a := by rw [Int.mul_comm]; simpa using hq
  have e := mul_back b a hb ha hz hq'
  rw [Int.mul_comm b a] at e
  rw [e]; exact h
theorem c30 (a b : Int) (w : World) (ha : fit a = true) (hb : fit b = true) :
    Calls Try.prog 30 #[.int .i64 a, .int .i64 b] w (Drawn (.tuple #[.int .i64 (wrap64 (a * b)), .bool (fit (a * b))]) w) := by
  by_cases a0 : a = 0
  · subst a0
    have e : wrap64 (0 * b) = 0 ∧ fit (0 * b) = true := by rw [Int.zero_mul]; decide +kernel
    rw [e.1, e.2]; clear e
    go_enter Try.func30, Try.ntmps30
    go_wp2
    go_ret2
    exact ⟨rfl, Dn.refl _⟩
  by_cases b0 : b = 0
  · subst b0
    have e : wrap64 (a * 0) = 0 ∧ fit (a * 0) = true := by rw [Int.mul_zero]; decide +kernel
    rw [e.1, e.2]; clear e
    go_enter Try.func30, Try.ntmps30
    go_wp2
    go_ret2
    exact ⟨rfl, Dn.refl _⟩
  have b0' : (b == 0) = false := by simpa using b0
  have a0' : (a == 0) = false := by simpa using a0
  cases h : fit (a * b)
  · have hn := times_no a b ha hb b0 h
    clear h ha hb
    cases hc : (wrap64 ((wrap64 (a * b)).tdiv b) == a)
    · clear hn
      go_enter Try.func30, Try.ntmps30
      go_wp2_with (go_at_call 27; refine (c27 _ _).mono ?_; rintro e w' ⟨rfl, rfl⟩)
      go_ret2
      exact ⟨rfl, Dn.refl _⟩
    · have hf := hn hc
      clear hn
      go_enter Try.func30, Try.ntmps30
      go_wp2_with (go_at_call 27; refine (c27 _ _).mono ?_; rintro e w' ⟨rfl, rfl⟩)
      go_ret2
      exact ⟨rfl, Dn.refl _⟩
  · have hy := times_yes a b ha b0 h
    obtain ⟨hc, he⟩ := hy
    have hf : fit (wrap64 (a * b)) = true := by rw [he]; exact h
    clear h ha hb he
    go_enter Try.func30, Try.ntmps30
    go_wp2_with (go_at_call 27; refine (c27 _ _).mono ?_; rintro e w' ⟨rfl, rfl⟩)
    go_ret2
    exact ⟨rfl, Dn.refl _⟩
theorem c31 (n m : Int) (w : World) (hn : fit n = true) (hz : m ≠ 0) :
    Calls Try.prog 31 #[.int .i64 n, .int .i64 m] w (Drawn (.int .i64 (flQ n m)) w) := by
  have hz' : (m == 0) = false := by simpa using hz
  have hb := flQ_bd n m hn
  obtain ⟨_, _, b1, b2⟩ := hb
  have hC := flC_ref n m
  rw [fit_iff] at hn
  cases hr : (n.tmod m != 0)
  · have e := fl_no n m (by rw [← hC, hr]; rfl)
    rw [e.1]
    clear e hC
    go_enter Try.func31, Try.ntmps31
    go_wp2
    go_ret
    exact ⟨rfl, Dn.refl _⟩
  · rw [hr] at hC
    cases h1 : decide (n < 0) <;> cases h2 : decide (m < 0)
    · have e := fl_no n m (by rw [← hC, h1, h2]; rfl)
      rw [e.1]
      clear e hC
      go_enter Try.func31, Try.ntmps31
      go_wp2
      go_ret
      exact ⟨rfl, Dn.refl _⟩
    · have e := fl_yes n m (by rw [← hC, h1, h2]; rfl)
      rw [e.1]
      clear e hC
      go_enter Try.func31, Try.ntmps31
      go_wp2
      go_ret
      exact ⟨rfl, Dn.refl _⟩
    · have e := fl_yes n m (by rw [← hC, h1, h2]; rfl)
      rw [e.1]
      clear e hC
      go_enter Try.func31, Try.ntmps31
      go_wp2
      go_ret
      exact ⟨rfl, Dn.refl _⟩
    · have e := fl_no n m (by rw [← hC, h1, h2]; rfl)
      rw [e.1]
      clear e hC
      go_enter Try.func31, Try.ntmps31
      go_wp2
      go_ret
      exact ⟨rfl, Dn.refl _⟩
theorem c23_0 (v u : Int) (w : World) (h1 : 0 ≤ v) (h2 : v ≤ 18446744073709551615) (h3 : 0 ≤ u) (h4 : u ≤ 18446744073709551615) (hv : odd v = true) (hu : odd u = true) :
    Calls Try.prog 23 #[.int .i64 0, .int .u64 v, .int .u64 u] w (Drawn (.tuple #[.int .u64 (arW 0 v u), .bool (arOk 0 v u)]) w) := by
  have e1 := (in_yes v hv).2
  have e2 := (in_yes u hu).2
  have Fv := (fit_iff _).1 (inN_fit v)
  have Fu := (fit_iff _).1 (inN_fit u)
  have hr : resN 0 (inN v) (inN u) = inN v + inN u := by simp [resN]
  have ho : resOk 0 (inN v) (inN u) = true := by simp [resOk]
  cases hf : fit (inN v + inN u)
  · have e : arOk 0 v u = false := by unfold arOk; rw [hr, hf]; simp
    rw [ar_no 0 v u e, e]
    clear e hr ho hv hu
    go_enter Try.func23, Try.ntmps23
    go_wp2_with (first
      | (go_at_call 17; refine (c17 _ _ (by omega) (by omega)).mono ?_; rintro e w' ⟨rfl, rfl⟩)
      | (go_at_call 27; refine (c27 _ _).mono ?_; rintro e w' ⟨rfl, rfl⟩)
      | (go_at_call 13; refine (c13 _ _).mono ?_; rintro e w' ⟨rfl, rfl⟩))
    go_ret2
    exact ⟨rfl, Dn.refl _⟩
  · have e : arOk 0 v u = true := by unfold arOk; rw [hr, hf, ho, hv, hu]; rfl
    rw [ar_yes 0 v u e, e, hr]
    clear e hr ho hv hu
    go_enter Try.func23, Try.ntmps23
    go_wp2_with (first
      | (go_at_call 17; refine (c17 _ _ (by omega) (by omega)).mono ?_; rintro e w' ⟨rfl, rfl⟩)
      | (go_at_call 27; refine (c27 _ _).mono ?_; rintro e w' ⟨rfl, rfl⟩)
      | (go_at_call 13; refine (c13 _ _).mono ?_; rintro e w' ⟨rfl, rfl⟩))
    go_ret2
    exact ⟨rfl, Dn.refl _⟩
theorem c23_1 (v u : Int) (w : World) (h1 : 0 ≤ v) (h2 : v ≤ 18446744073709551615) (h3 : 0 ≤ u) (h4 : u ≤ 18446744073709551615) (hv : odd v = true) (hu : odd u = true) :
    Calls Try.prog 23 #[.int .i64 1, .int .u64 v, .int .u64 u] w (Drawn (.tuple #[.int .u64 (arW 1 v u), .bool (arOk 1 v u)]) w) := by
  have e1 := (in_yes v hv).2
  have e2 := (in_yes u hu).2
  have Fv := (fit_iff _).1 (inN_fit v)
  have Fu := (fit_iff _).1 (inN_fit u)
  have hr : resN 1 (inN v) (inN u) = inN v - inN u := by simp [resN]
  have ho : resOk 1 (inN v) (inN u) = true := by simp [resOk]
  cases hf : fit (inN v - inN u)
  · have e : arOk 1 v u = false := by unfold arOk; rw [hr, hf]; simp
    rw [ar_no 1 v u e, e]
    clear e hr ho hv hu
    go_enter Try.func23, Try.ntmps23
    go_wp2_with (first
      | (go_at_call 17; refine (c17 _ _ (by omega) (by omega)).mono ?_; rintro e w' ⟨rfl, rfl⟩)
      | (go_at_call 27; refine (c27 _ _).mono ?_; rintro e w' ⟨rfl, rfl⟩)
      | (go_at_call 13; refine (c13 _ _).mono ?_; rintro e w' ⟨rfl, rfl⟩))
    go_ret2
    exact ⟨rfl, Dn.refl _⟩
  · have e : arOk 1 v u = true := by unfold arOk; rw [hr, hf, ho, hv, hu]; rfl
    rw [ar_yes 1 v u e, e, hr]
    clear e hr ho hv hu
    go_enter Try.func23, Try.ntmps23
    go_wp2_with (first
      | (go_at_call 17; refine (c17 _ _ (by omega) (by omega)).mono ?_; rintro e w' ⟨rfl, rfl⟩)
      | (go_at_call 27; refine (c27 _ _).mono ?_; rintro e w' ⟨rfl, rfl⟩)
      | (go_at_call 13; refine (c13 _ _).mono ?_; rintro e w' ⟨rfl, rfl⟩))
    go_ret2
    exact ⟨rfl, Dn.refl _⟩
theorem c23_5 (v u : Int) (w : World) (h1 : 0 ≤ v) (h2 : v ≤ 18446744073709551615) (h3 : 0 ≤ u) (h4 : u ≤ 18446744073709551615) (hv : odd v = true) (hu : odd u = true) :
    Calls Try.prog 23 #[.int .i64 5, .int .u64 v, .int .u64 u] w (Drawn (.tuple #[.int .u64 (arW 5 v u), .bool (arOk 5 v u)]) w) := by
  have e1 := (in_yes v hv).2
  have e2 := (in_yes u hu).2
  have Fv := (fit_iff _).1 (inN_fit v)
  have Fu := (fit_iff _).1 (inN_fit u)
  have hr : resN 5 (inN v) (inN u) = bits .and .i64 (inN v) (inN u) := by simp [resN]
  have ho : resOk 5 (inN v) (inN u) = true := by simp [resOk]
  cases hf : fit (bits .and .i64 (inN v) (inN u))
  · have e : arOk 5 v u = false := by unfold arOk; rw [hr, hf]; simp
    rw [ar_no 5 v u e, e]
    clear e hr ho hv hu
    go_enter Try.func23, Try.ntmps23
    go_wp2_with (first
      | (go_at_call 17; refine (c17 _ _ (by omega) (by omega)).mono ?_; rintro e w' ⟨rfl, rfl⟩)
      | (go_at_call 27; refine (c27 _ _).mono ?_; rintro e w' ⟨rfl, rfl⟩)
      | (go_at_call 13; refine (c13 _ _).mono ?_; rintro e w' ⟨rfl, rfl⟩))
    go_ret2
    exact ⟨rfl, Dn.refl _⟩
  · have e : arOk 5 v u = true := by unfold arOk; rw [hr, hf, ho, hv, hu]; rfl
    rw [ar_yes 5 v u e, e, hr]
    clear e hr ho hv hu
    go_enter Try.func23, Try.ntmps23
    go_wp2_with (first
      | (go_at_call 17; refine (c17 _ _ (by omega) (by omega)).mono ?_; rintro e w' ⟨rfl, rfl⟩)
      | (go_at_call 27; refine (c27 _ _).mono ?_; rintro e w' ⟨rfl, rfl⟩)
      | (go_at_call 13; refine (c13 _ _).mono ?_; rintro e w' ⟨rfl, rfl⟩))
    go_ret2
    exact ⟨rfl, Dn.refl _⟩
theorem c23_6 (v u : Int) (w : World) (h1 : 0 ≤ v) (h2 : v ≤ 18446744073709551615) (h3 : 0 ≤ u) (h4 : u ≤ 18446744073709551615) (hv : odd v = true) (hu : odd u = true) :
    Calls Try.prog 23 #[.int .i64 6, .int .u64 v, .int .u64 u] w (Drawn (.tuple #[.int .u64 (arW 6 v u), .bool (arOk 6 v u)]) w) := by
  have e1 := (in_yes v hv).2
  have e2 := (in_yes u hu).2
  have Fv := (fit_iff _).1 (inN_fit v)
  have Fu := (fit_iff _).1 (inN_fit u)
  have hr : resN 6 (inN v) (inN u) = bits .or .i64 (inN v) (inN u) := by simp [resN]
  have ho : resOk 6 (inN v) (inN u) = true := by simp [resOk]
  cases hf : fit (bits .or .i64 (inN v) (inN u))
  · have e : arOk 6 v u = false := by unfold arOk; rw [hr, hf]; simp
    rw [ar_no 6 v u e, e]
    clear e hr ho hv hu
    go_enter Try.func23, Try.ntmps23
    go_wp2_with (first
      | (go_at_call 17; refine (c17 _ _ (by omega) (by omega)).mono ?_; rintro e w' ⟨rfl, rfl⟩)
      | (go_at_call 27; refine (c27 _ _).mono ?_; rintro e w' ⟨rfl, rfl⟩)
      | (go_at_call 13; refine (c13 _ _).mono ?_; rintro e w' ⟨rfl, rfl⟩))
    go_ret2
    exact ⟨rfl, Dn.refl _⟩
  · have e : arOk 6 v u = true := by unfold arOk; rw [hr, hf, ho, hv, hu]; rfl
    rw [ar_yes 6 v u e, e, hr]
    clear e hr ho hv hu
    go_enter Try.func23, Try.ntmps23
    go_wp2_with (first
      | (go_at_call 17; refine (c17 _ _ (by omega) (by omega)).mono ?_; rintro e w' ⟨rfl, rfl⟩)
      | (go_at_call 27; refine (c27 _ _).mono ?_; rintro e w' ⟨rfl, rfl⟩)
      | (go_at_call 13; refine (c13 _ _).mono ?_; rintro e w' ⟨rfl, rfl⟩))
    go_ret2
    exact ⟨rfl, Dn.refl _⟩
theorem c23_7 (v u : Int) (w : World) (h1 : 0 ≤ v) (h2 : v ≤ 18446744073709551615) (h3 : 0 ≤ u) (h4 : u ≤ 18446744073709551615) (hv : odd v = true) (hu : odd u = true) :
    Calls Try.prog 23 #[.int .i64 7, .int .u64 v, .int .u64 u] w (Drawn (.tuple #[.int .u64 (arW 7 v u), .bool (arOk 7 v u)]) w) := by
  have e1 := (in_yes v hv).2
  have e2 := (in_yes u hu).2
  have Fv := (fit_iff _).1 (inN_fit v)
  have Fu := (fit_iff _).1 (inN_fit u)
  have hr : resN 7 (inN v) (inN u) = bits .xor .i64 (inN v) (inN u) := by simp [resN]
  have ho : resOk 7 (inN v) (inN u) = true := by simp [resOk]
  cases hf : fit (bits .xor .i64 (inN v) (inN u))
  · have e : arOk 7 v u = false := by unfold arOk; rw [hr, hf]; simp
    rw [ar_no 7 v u e, e]
    clear e hr ho hv hu
    go_enter Try.func23, Try.ntmps23
    go_wp2_with (first
      | (go_at_call 17; refine (c17 _ _ (by omega) (by omega)).mono ?_; rintro e w' ⟨rfl, rfl⟩)
      | (go_at_call 27; refine (c27 _ _).mono ?_; rintro e w' ⟨rfl, rfl⟩)
      | (go_at_call 13; refine (c13 _ _).mono ?_; rintro e w' ⟨rfl, rfl⟩))
    go_ret2
    exact ⟨rfl, Dn.refl _⟩
  · have e : arOk 7 v u = true := by unfold arOk; rw [hr, hf, ho, hv, hu]; rfl
    rw [ar_yes 7 v u e, e, hr]
    clear e hr ho hv hu
    go_enter Try.func23, Try.ntmps23
    go_wp2_with (first
      | (go_at_call 17; refine (c17 _ _ (by omega) (by omega)).mono ?_; rintro e w' ⟨rfl, rfl⟩)
      | (go_at_call 27; refine (c27 _ _).mono ?_; rintro e w' ⟨rfl, rfl⟩)
      | (go_at_call 13; refine (c13 _ _).mono ?_; rintro e w' ⟨rfl, rfl⟩))
    go_ret2
    exact ⟨rfl, Dn.refl _⟩
theorem ar2 (v u : Int) (hv : odd v = true) (hu : odd u = true) : arOk 2 v u = fit (inN v * inN u) ∧ (fit (inN v * inN u) = true → arW 2 v u = fiW (inN v * inN u)) := by
  have hr : resN 2 (inN v) (inN u) = mulN (inN v) (inN u) := by simp [resN]
  have ho : resOk 2 (inN v) (inN u) = mulOk (inN v) (inN u) := by simp [resOk]
  have e : arOk 2 v u = fit (inN v * inN u) := by
    unfold arOk; rw [hr, ho, hv, hu]
    cases hm : mulOk (inN v) (inN u)
    · cases hf : fit (inN v * inN u)
      · rfl
      · have : mulOk (inN v) (inN u) = true := by rw [fit_iff] at hf; rw [mulOk_iff]; omega
        rw [hm] at this; cases this
    · rw [mul_yes _ _ hm]; simp
  refine ⟨e, fun h => ?_⟩
  rw [ar_yes 2 v u (by rw [e]; exact h), hr]
  have : mulOk (inN v) (inN u) = true := by rw [fit_iff] at h; rw [mulOk_iff]; omega
  rw [mul_yes _ _ this]
theorem c23_2 (v u : Int) (w : World) (h1 : 0 ≤ v) (h2 : v ≤ 18446744073709551615) (h3 : 0 ≤ u) (h4 : u ≤ 18446744073709551615) (hv : odd v = true) (hu : odd u = true) :
    Calls Try.prog 23 #[.int .i64 2, .int .u64 v, .int .u64 u] w (Drawn (.tuple #[.int .u64 (arW 2 v u), .bool (arOk 2 v u)]) w) := by
  have e1 := (in_yes v hv).2
  have e2 := (in_yes u hu).2
  have Fv := Lib.hid (inN_fit v)
  have Fu := Lib.hid (inN_fit u)
  obtain ⟨a1, a2⟩ := ar2 v u hv hu
  cases hf : fit (inN v * inN u)
  · rw [ar_no 2 v u (by rw [a1, hf]), a1, hf]
    clear a1 a2 hv hu
    go_enter Try.func23, Try.ntmps23
    go_wp2_with (first
      | (go_at_call 17; refine (c17 _ _ (by omega) (by omega)).mono ?_; rintro e w' ⟨rfl, rfl⟩)
      | (go_at_call 30; refine (c30 _ _ _ Fv.out Fu.out).mono ?_; rintro e w' ⟨rfl, hd⟩)
      | (go_at_call 27; refine (c27 _ _).mono ?_; rintro e w' ⟨rfl, rfl⟩)
      | (go_at_call 13; refine (c13 _ _).mono ?_; rintro e w' ⟨rfl, rfl⟩))
    go_ret2
    exact ⟨rfl, hd⟩
  · rw [a2 hf, a1, hf]
    have hg : fit (wrap64 (inN v * inN u)) = true := by
      rw [fit_iff] at hf; rw [IntWalk.wrap64_in _ (by omega), fit_iff]; exact hf
    have HW := Lib.hid (IntWalk.wrap64_in (inN v * inN u) (by rw [fit_iff] at hf; omega))
    clear a1 a2 hv hu
    go_enter Try.func23, Try.ntmps23
    go_wp2_with (first
      | (go_at_call 17; refine (c17 _ _ (by omega) (by omega)).mono ?_; rintro e w' ⟨rfl, rfl⟩)
      | (go_at_call 30; refine (c30 _ _ _ Fv.out Fu.out).mono ?_; rintro e w' ⟨rfl, hd⟩)
      | (go_at_call 27; refine (c27 _ _).mono ?_; rintro e w' ⟨rfl, rfl⟩)
      | (go_at_call 13; refine (c13 _ _).mono ?_; rintro e w' ⟨rfl, rfl⟩))
    go_ret2
    exact ⟨tup2 (vi (congrArg fiW HW.out)) rfl, hd⟩
theorem c23_z (k v u : Int) (w : World) (hk : k = 3 ∨ k = 4) (h1 : 0 ≤ v) (h2 : v ≤ 18446744073709551615) (h3 : 0 ≤ u) (h4 : u ≤ 18446744073709551615) (hv : odd v = true) (hu : odd u = true) (hz : inN u = 0) :
    Calls Try.prog 23 #[.int .i64 k, .int .u64 v, .int .u64 u] w (Drawn (.tuple #[.int .u64 (arW k v u), .bool (arOk k v u)]) w) := by
  have e1 := (in_yes v hv).2
  have e2 := (in_yes u hu).2
  have e : arOk k v u = false := by unfold arOk; rw [hz]; rcases hk with rfl | rfl <;> simp [resOk]
  rw [ar_no k v u e, e]
  clear e hv hu
  rcases hk with rfl | rfl
  all_goals
    go_enter Try.func23, Try.ntmps23
    go_wp2_with (go_at_call 17; refine (c17 _ _ (by omega) (by omega)).mono ?_; rintro e w' ⟨rfl, rfl⟩)
    go_ret2
    exact ⟨rfl, Dn.refl _⟩
theorem c23_3 (v u : Int) (w : World) (h1 : 0 ≤ v) (h2 : v ≤ 18446744073709551615) (h3 : 0 ≤ u) (h4 : u ≤ 18446744073709551615) (hv : odd v = true) (hu : odd u = true) (hz : inN u ≠ 0) :
    Calls Try.prog 23 #[.int .i64 3, .int .u64 v, .int .u64 u] w (Drawn (.tuple #[.int .u64 (arW 3 v u), .bool (arOk 3 v u)]) w) := by
  have e1 := (in_yes v hv).2
  have e2 := (in_yes u hu).2
  have Fv := Lib.hid (inN_fit v)
  have hz' : (inN u == 0) = false := by simpa using hz
  have hr : resN 3 (inN v) (inN u) = flQ (inN v) (inN u) := by simp [resN, hz]
  have ho : resOk 3 (inN v) (inN u) = true := by simp [resOk, hz]
  cases hf : fit (flQ (inN v) (inN u))
  · have e : arOk 3 v u = false := by unfold arOk; rw [hr, hf]; simp
    rw [ar_no 3 v u e, e]
    clear e hr ho hv hu
    go_enter Try.func23, Try.ntmps23
    go_wp2_with (first
      | (go_at_call 17; refine (c17 _ _ (by omega) (by omega)).mono ?_; rintro e w' ⟨rfl, rfl⟩)
      | (go_at_call 31; refine (c31 _ _ _ Fv.out hz).mono ?_; rintro e w' ⟨rfl, hd⟩)
      | (go_at_call 27; refine (c27 _ _).mono ?_; rintro e w' ⟨rfl, rfl⟩)
      | (go_at_call 13; refine (c13 _ _).mono ?_; rintro e w' ⟨rfl, rfl⟩))
    go_ret2
    exact ⟨rfl, hd⟩
  · have e : arOk 3 v u = true := by unfold arOk; rw [hr, hf, ho, hv, hu]; rfl
    rw [ar_yes 3 v u e, e, hr]
    clear e hr ho hv hu
    go_enter Try.func23, Try.ntmps23
    go_wp2_with (first
      | (go_at_call 17; refine (c17 _ _ (by omega) (by omega)).mono ?_; rintro e w' ⟨rfl, rfl⟩)
      | (go_at_call 31; refine (c31 _ _ _ Fv.out hz).mono ?_; rintro e w' ⟨rfl, hd⟩)
      | (go_at_call 27; refine (c27 _ _).mono ?_; rintro e w' ⟨rfl, rfl⟩)
      | (go_at_call 13; refine (c13 _ _).mono ?_; rintro e w' ⟨rfl, rfl⟩))
    go_ret2
    exact ⟨rfl, hd⟩
theorem rest_ref (n m : Int) (hn : fit n = true) (hm : fit m = true) (hz : m ≠ 0) : wrap64 (n - wrap64 (flQ n m * m)) = flR n m := by
  have h1 := fl_sum n m
  have h2 := flR_facts n m hz
  rw [fit_iff] at hn hm
  rw [Int.mul_comm] at h1
  rw [IntWalk.wrap64_in (flQ n m * m) (by omega), IntWalk.wrap64_in _ (by omega)]
  omega
theorem flR_fit (n m : Int) (hm : fit m = true) (hz : m ≠ 0) : fit (flR n m) = true := by
  have h2 := flR_facts n m hz
  rw [fit_iff] at hm
  rw [fit_iff]
  omega
theorem c23_4 (v u : Int) (w : World) (h1 : 0 ≤ v) (h2 : v ≤ 18446744073709551615) (h3 : 0 ≤ u) (h4 : u ≤ 18446744073709551615) (hv : odd v = true) (hu : odd u = true) (hz : inN u ≠ 0) :
    Calls Try.prog 23 #[.int .i64 4, .int .u64 v, .int .u64 u] w (Drawn (.tuple #[.int .u64 (arW 4 v u), .bool (arOk 4 v u)]) w) := by
  have e1 := (in_yes v hv).2
  have e2 := (in_yes u hu).2
  have Fv := Lib.hid (inN_fit v)
  have hz' : (inN u == 0) = false := by simpa using hz
  have hr : resN 4 (inN v) (inN u) = flR (inN v) (inN u) := by simp [resN, hz]
  have ho : resOk 4 (inN v) (inN u) = true := by simp [resOk, hz]
  have hf := flR_fit (inN v) (inN u) (inN_fit u) hz
  have e : arOk 4 v u = true := by unfold arOk; rw [hr, hf, ho, hv, hu]; rfl
  rw [ar_yes 4 v u e, e, hr]
  have hq := rest_ref (inN v) (inN u) (inN_fit v) (inN_fit u) hz
  clear e hr ho hv hu
  go_enter Try.func23, Try.ntmps23
  go_wp2_with (first
    | (go_at_call 17; refine (c17 _ _ (by omega) (by omega)).mono ?_; rintro e w' ⟨rfl, rfl⟩)
    | (go_at_call 31; refine (c31 _ _ _ Fv.out hz).mono ?_; rintro e w' ⟨rfl, hd⟩)
    | (go_at_call 27; refine (c27 _ _).mono ?_; rintro e w' ⟨rfl, rfl⟩)
    | (go_at_call 13; refine (c13 _ _).mono ?_; rintro e w' ⟨rfl, rfl⟩))
  go_ret2
  exact ⟨rfl, hd⟩
theorem c23_no (k v u : Int) (w : World) (k0 : k ≠ 0) (k1 : k ≠ 1) (k2 : k ≠ 2) (k3 : k ≠ 3) (k4 : k ≠ 4) (k5 : k ≠ 5) (k6 : k ≠ 6) (k7 : k ≠ 7)
    (h1 : 0 ≤ v) (h2 : v ≤ 18446744073709551615) (h3 : 0 ≤ u) (h4 : u ≤ 18446744073709551615) (hv : odd v = true) (hu : odd u = true) :
    Calls Try.prog 23 #[.int .i64 k, .int .u64 v, .int .u64 u] w (Drawn (.tuple #[.int .u64 (arW k v u), .bool (arOk k v u)]) w) := by
  have e1 := (in_yes v hv).2
  have e2 := (in_yes u hu).2
  have e : arOk k v u = false := by unfold arOk; simp [resOk, k0, k1, k2, k3, k4, k5, k6, k7]
  rw [ar_no k v u e, e]
  clear e hv hu
  go_enter Try.func23, Try.ntmps23
  go_wp2_with (go_at_call 17; refine (c17 _ _ (by omega) (by omega)).mono ?_; rintro e w' ⟨rfl, rfl⟩)
  go_ret2
  exact ⟨rfl, Dn.refl _⟩
theorem c23_odd (k v u : Int) (w : World) (h1 : 0 ≤ v) (h2 : v ≤ 18446744073709551615) (h3 : 0 ≤ u) (h4 : u ≤ 18446744073709551615) (h : (odd v && odd u) = false) :
    Calls Try.prog 23 #[.int .i64 k, .int .u64 v, .int .u64 u] w (Drawn (.tuple #[.int .u64 (arW k v u), .bool (arOk k v u)]) w) := by
  have e : arOk k v u = false := by unfold arOk; rw [← Bool.and_assoc, h]; rfl
  rw [ar_no k v u e, e]
  clear e
  cases hv : odd v
  · have e1 := (in_no v hv).2
    clear hv h
    go_enter Try.func23, Try.ntmps23
    go_wp2_with (go_at_call 17; refine (c17 _ _ (by omega) (by omega)).mono ?_; rintro e w' ⟨rfl, rfl⟩)
    go_ret2
    exact ⟨rfl, Dn.refl _⟩
  · have hu : odd u = false := by rw [hv] at h; simpa using h
    have e1 := (in_yes v hv).2
    have e2 := (in_no u hu).2
    clear hv hu h
    go_enter Try.func23, Try.ntmps23
    go_wp2_with (go_at_call 17; refine (c17 _ _ (by omega) (by omega)).mono ?_; rintro e w' ⟨rfl, rfl⟩)
    go_ret2
    exact ⟨rfl, Dn.refl _⟩
theorem c23 (k v u : Int) (w : World) (h1 : 0 ≤ v) (h2 : v ≤ 18446744073709551615) (h3 : 0 ≤ u) (h4 : u ≤ 18446744073709551615) :
    Calls Try.prog 23 #[.int .i64 k, .int .u64 v, .int .u64 u] w (Drawn (.tuple #[.int .u64 (arW k v u), .bool (arOk k v u)]) w) := by
  cases h : (odd v && odd u)
  · exact c23_odd k v u w h1 h2 h3 h4 h
  have hv : odd v = true := by simp at h; exact h.1
  have hu : odd u = true := by simp at h; exact h.2
  by_cases k0 : k = 0
  · subst k0; exact c23_0 v u w h1 h2 h3 h4 hv hu
  by_cases k1 : k = 1
  · subst k1; exact c23_1 v u w h1 h2 h3 h4 hv hu
  by_cases k2 : k = 2
  · subst k2; exact c23_2 v u w h1 h2 h3 h4 hv hu
  by_cases k3 : k = 3
  · by_cases hz : inN u = 0
    · exact c23_z k v u w (Or.inl k3) h1 h2 h3 h4 hv hu hz
    · subst k3; exact c23_3 v u w h1 h2 h3 h4 hv hu hz
  by_cases k4 : k = 4
  · by_cases hz : inN u = 0
    · exact c23_z k v u w (Or.inr k4) h1 h2 h3 h4 hv hu hz
    · subst k4; exact c23_4 v u w h1 h2 h3 h4 hv hu hz
  by_cases k5 : k = 5
  · subst k5; exact c23_5 v u w h1 h2 h3 h4 hv hu
  by_cases k6 : k = 6
  · subst k6; exact c23_6 v u w h1 h2 h3 h4 hv hu
  by_cases k7 : k = 7
  · subst k7; exact c23_7 v u w h1 h2 h3 h4 hv hu
  exact c23_no k v u w k0 k1 k2 k3 k4 k5 k6 k7 h1 h2 h3 h4 hv hu
end Go.Proofs.Ytcgmioeclebfgaa
