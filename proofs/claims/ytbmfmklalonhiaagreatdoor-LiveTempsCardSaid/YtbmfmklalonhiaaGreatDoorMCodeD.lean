/- The document's answers: numbers, Pack, Unpack. The document's Unpack. -/
import Derived.Test.YtbmfmklalonhiaaGreatDoorMCodeB
import Derived.Test.YtbmfmklalonhiaaGreatDoorMRefs
namespace Go.Proofs.YtbmfmklalonhiaaGreatDoor
open Go.RowKit

theorem fit_not (n : Int) : fit n = false ↔ ¬ (-4611686018427387904 ≤ n ∧ n ≤ 4611686018427387903) := by
  rw [← fit_iff]
  simp
theorem and1_i64 (a : Int) : bits .and .i64 a 1 = a % 2 := by
  rw [and_i64]
  have e : uns 1 = 2 ^ 1 - 1 := by decide
  rw [e, Nat.and_two_pow_sub_one_eq_mod]
  unfold uns wrap64
  omega
theorem ref_int (n : Int) (h : n % 2 = 1) : wrap64 ((wrap64 (wrap64 n - bits .and .i64 (wrap64 n) 1)).tdiv 2) = wrap64 n / 2 := by
  rw [and1_i64]
  have hb : -9223372036854775808 ≤ wrap64 n ∧ wrap64 n ≤ 9223372036854775807 := by unfold wrap64; omega
  have hp : wrap64 n % 2 = 1 := by unfold wrap64; omega
  generalize wrap64 n = x at *
  rw [IntWalk.wrap64_in (x - x % 2) (by omega)]
  have e : x - x % 2 = 2 * (x / 2) := by omega
  rw [e, Int.mul_tdiv_cancel_left _ (by decide)]
  exact IntWalk.wrap64_in _ (by omega)
theorem rInt (x : Int) (w : World) (hx : WB x) : Calls Tryz.prog 98 #[.int .u64 x] w (Gives (.tuple #[.int .i64 (if odd x = true then intOfW x else 0), .int .i64 (if odd x = true then 0 else 1)]) w) := by
  have hi := rIsInt x w hx.1 hx.2
  cases h : odd x
  · rw [h] at hi
    simp only [Bool.false_eq_true, if_false]
    clear h
    go_enter Tryz.func98, Tryz.ntmps98
    go_wp2_with (go_at_call 125; refine hi.mono ?_; rintro e w' ⟨rfl, rfl⟩)
    go_ret2
    exact ⟨rfl, rfl⟩
  · have H := Lib.hid (ref_int x ((odd_iff x).1 h))
    rw [h] at hi
    simp only [if_true]
    clear h
    go_enter Tryz.func98, Tryz.ntmps98
    go_wp2_with (go_at_call 125; refine hi.mono ?_; rintro e w' ⟨rfl, rfl⟩)
    go_ret2
    exact ⟨tup2 (vi H.out) rfl, rfl⟩
theorem ins_case (i : Ins) : i.ok = (decide (1 ≤ i.op ∧ i.op ≤ 23) && decide (0 ≤ i.a ∧ i.a ≤ 4095) && decide (0 ≤ i.b ∧ i.b ≤ 4095)) := by
  rw [Bool.eq_iff_iff]
  simp [Ins.ok]
  omega
end Go.Proofs.YtbmfmklalonhiaaGreatDoor
namespace Go.Proofs.YtbmfmklalonhiaaGreatDoor
open Go.RowKit

theorem neg_ins {n : Int} (h : n < 0) : (insOf n).ok = false := by
  cases h' : (insOf n).ok
  · rfl
  · rw [Ins.ok_iff] at h'
    simp only [insOf] at h'
    omega
end Go.Proofs.YtbmfmklalonhiaaGreatDoor
