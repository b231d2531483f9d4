/- What package word's Arith answers to 0 minus a word. -/
import Derived.Test.YtmifnlalocoeiaaGreatDoorMCodeA
namespace Go.Proofs.YtmifnlalocoeiaaGreatDoor
open Go.RowKit

/-- minus a word; none: it is no number, or has no minus -/
def minusW (x : Int) : Option Int := if odd x = true ∧ fit (-(intOfW x)) = true then some (wordOf (-(intOfW x))) else none
def minusV (o : Option Int) : Value := match o with | some v => .tuple #[.int .u64 v, .bool true] | none => .tuple #[.int .u64 0, .bool false]
theorem numbers_yes (x : Int) (w : World) (hx : WB x) (ho : odd x = true) : Calls Tryz.prog 78 #[.int .u64 1, .int .u64 x] w (Gives (.tuple #[.int .i64 0, .int .i64 (intOfW x), .bool true]) w) := by
  have h1 := wordInt 1 w ⟨by omega, by omega⟩
  have h2 := wordInt x w hx
  rw [show odd 1 = true from rfl, if_pos rfl, if_pos rfl, show intOfW 1 = 0 by unfold intOfW wrap64; omega] at h1
  rw [ho, if_pos rfl, if_pos rfl] at h2
  generalize intOfW x = n at *
  clear ho hx
  go_enter Tryz.func78, Tryz.ntmps78
  go_wp2_with fail
  refine h1.mono ?_
  rintro e w1 ⟨rfl, rfl⟩
  go_wp2_with fail
  refine h2.mono ?_
  rintro e w2 ⟨rfl, rfl⟩
  go_wp2_with fail
  go_ret3
  exact ⟨rfl, rfl⟩
theorem numbers_no (x : Int) (w : World) (hx : WB x) (ho : odd x = false) : Calls Tryz.prog 78 #[.int .u64 1, .int .u64 x] w (Gives (.tuple #[.int .i64 0, .int .i64 0, .bool false]) w) := by
  have h1 := wordInt 1 w ⟨by omega, by omega⟩
  have h2 := wordInt x w hx
  rw [show odd 1 = true from rfl, if_pos rfl, if_pos rfl, show intOfW 1 = 0 by unfold intOfW wrap64; omega] at h1
  rw [ho, if_neg (by decide), if_neg (by decide)] at h2
  clear ho hx
  go_enter Tryz.func78, Tryz.ntmps78
  go_wp2_with fail
  refine h1.mono ?_
  rintro e w1 ⟨rfl, rfl⟩
  go_wp2_with fail
  refine h2.mono ?_
  rintro e w2 ⟨rfl, rfl⟩
  go_wp2_with fail
  go_ret3
  exact ⟨rfl, rfl⟩
set_option maxHeartbeats 1000000 in
theorem result_minus (m : Int) (w : World) (h : fit m = true) : Calls Tryz.prog 79 #[.int .i64 1, .int .i64 0, .int .i64 m] w (Gives (.tuple #[.int .i64 (-m), .bool true]) w) := by
  rw [fit_iff] at h
  obtain ⟨h1, h2⟩ := h
  go_enter Tryz.func79, Tryz.ntmps79
  go_wp2
  go_ret2
  exact ⟨tup2 (vi (by first | omega | (simp; done) | (simp only [IntWalk.wrap64_in, wrap64]; omega))) rfl, rfl⟩
theorem wordFromInt_no (n : Int) (w : World) (h : fit n = false) : Calls Tryz.prog 44 #[.int .i64 n] w (Gives (.tuple #[.int .u64 0, .int .i64 1]) w) := by
  have h' : ¬ (-4611686018427387904 ≤ n ∧ n ≤ 4611686018427387903) := by rw [← fit_iff, h]; simp
  by_cases h1 : n < -4611686018427387904
  · clear h h'
    go_enter Tryz.func44, Tryz.ntmps44
    go_wp2
    go_ret2
    exact ⟨rfl, rfl⟩
  · have h2 : 4611686018427387903 < n := by omega
    clear h h'
    go_enter Tryz.func44, Tryz.ntmps44
    go_wp2
    go_ret2
    exact ⟨rfl, rfl⟩
theorem arith_minus (x : Int) (w : World) (hx : WB x) : Calls Tryz.prog 52 #[.int .i64 1, .int .u64 1, .int .u64 x] w (Gives (minusV (minusW x)) w) := by
  unfold minusW minusV
  by_cases ho : odd x = true
  · have h1 := numbers_yes x w hx ho
    have h2 := result_minus (intOfW x) w (intOfW_fit x)
    by_cases hf : fit (-(intOfW x)) = true
    · have h3 := wordFromInt (-(intOfW x)) w hf
      simp only [ho, hf, and_self, if_true]
      generalize wordOf (-(intOfW x)) = v at *
      generalize intOfW x = n at *
      clear ho hf hx
      go_enter Tryz.func52, Tryz.ntmps52
      go_wp2_with fail
      refine h1.mono ?_
      rintro e w1 ⟨rfl, rfl⟩
      go_wp2_with fail
      refine h2.mono ?_
      rintro e w2 ⟨rfl, rfl⟩
      go_wp2_with fail
      refine h3.mono ?_
      rintro e w3 ⟨rfl, rfl⟩
      go_wp2_with fail
      go_ret2
      exact ⟨rfl, rfl⟩
    · have hf' : fit (-(intOfW x)) = false := by simpa using hf
      have h3 := wordFromInt_no (-(intOfW x)) w hf'
      simp only [ho, hf', Bool.false_eq_true, and_false, if_false]
      generalize intOfW x = n at *
      clear ho hf hf' hx
      go_enter Tryz.func52, Tryz.ntmps52
      go_wp2_with fail
      refine h1.mono ?_
      rintro e w1 ⟨rfl, rfl⟩
      go_wp2_with fail
      refine h2.mono ?_
      rintro e w2 ⟨rfl, rfl⟩
      go_wp2_with fail
      refine h3.mono ?_
      rintro e w3 ⟨rfl, rfl⟩
      go_wp2_with fail
      go_ret2
      exact ⟨rfl, rfl⟩
  · have ho' : odd x = false := by simpa using ho
    have h1 := numbers_no x w hx ho'
    simp only [ho', Bool.false_eq_true, false_and, if_false]
    clear ho ho' hx
    go_enter Tryz.func52, Tryz.ntmps52
    go_wp2_with fail
    refine h1.mono ?_
    rintro e w1 ⟨rfl, rfl⟩
    go_wp2_with fail
    go_ret2
    exact ⟨rfl, rfl⟩
end Go.Proofs.YtmifnlalocoeiaaGreatDoor
