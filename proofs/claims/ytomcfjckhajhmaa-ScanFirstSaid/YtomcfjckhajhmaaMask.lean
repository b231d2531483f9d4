/- A number, cut by a mask; a place in a list out of a number. -/
import Derived.Test.YtomcfjckhajhmaaFrame
import Derived.WalkArith
namespace Go.Proofs.Ytomcfjckhajhmaa
open Go.RowKit
/-! a number, cut by a mask -/
def uns (n : Int) : Nat := (n % 18446744073709551616).toNat
theorem uns_lt (n : Int) : uns n < 18446744073709551616 := by unfold uns; omega
theorem ofInt_uns (n : Int) : BitVec.ofInt 64 n = BitVec.ofNat 64 (uns n) := by
  apply BitVec.eq_of_toNat_eq
  rw [BitVec.toNat_ofInt, BitVec.toNat_ofNat]
  unfold uns
  have : ((2 ^ 64 : Nat) : Int) = 18446744073709551616 := by decide
  rw [this]
  rw [Nat.mod_eq_of_lt (by omega)]
theorem uns_toNat (n : Int) : (BitVec.ofInt 64 n).toNat = uns n := by
  rw [ofInt_uns, BitVec.toNat_ofNat]; exact Nat.mod_eq_of_lt (uns_lt n)
theorem and_i64 (a b : Int) : bits .and .i64 a b = wrap64 ((uns a &&& uns b : Nat) : Int) := by
  show IntKind.i64.wrap ((BitVec.ofInt 64 a &&& BitVec.ofInt 64 b).toNat : Int) = _
  rw [BitVec.toNat_and, uns_toNat, uns_toNat]; exact IntWalk.i64_left _
theorem and_mask (a : Int) (b : Nat) (hb : b < 1000000) : 0 ≤ bits .and .i64 a b ∧ bits .and .i64 a b ≤ b := by
  rw [and_i64]
  have e : uns (b : Int) = b := by unfold uns; omega
  rw [e]
  have := Nat.and_le_right (n := uns a) (m := b)
  unfold wrap64
  omega
/-- a place in a list, out of a number -/
theorem pick_at {xs : List Int} (hx : 0 < xs.length) (a : Int) : ∃ i, i < xs.length ∧ (bits .and .i64 a 65535).tmod (xs.length : Int) = (i : Int) := by
  obtain ⟨h1, h2⟩ := and_mask a 65535 (by omega)
  have h2' : bits .and .i64 a 65535 ≤ 65535 := h2
  obtain ⟨k, hk⟩ : ∃ k : Nat, bits .and .i64 a 65535 = k := ⟨(bits .and .i64 a 65535).toNat, by have : 0 ≤ bits .and .i64 a 65535 := h1; omega⟩
  refine ⟨k % xs.length, Nat.mod_lt _ hx, ?_⟩
  rw [hk, Int.tmod_eq_emod_of_nonneg (by omega)]
  rfl
end Go.Proofs.Ytomcfjckhajhmaa
