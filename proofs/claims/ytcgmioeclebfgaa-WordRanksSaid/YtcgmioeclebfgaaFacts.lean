/- Plain consequences of the words' mathematics, for the laws: words and numbers there and back, and what is reckoned with words of numbers; no condition beyond those stated. -/
import Derived.Test.YtcgmioeclebfgaaAwake
namespace Go.Proofs.Ytcgmioeclebfgaa
open Go.ChangeShapes Go.WideShapes Go.ChangeAt Go.RowKit

theorem wf_u64 {n : Int} (h : (Lit.int .u64 n).wf = true) : 0 ≤ n ∧ n ≤ 18446744073709551615 := by
  simp [Lit.wf, IntKind.min, IntKind.max, IntKind.signed, IntKind.bits] at h; omega
theorem wf_i64 {n : Int} (h : (Lit.int .i64 n).wf = true) : -9223372036854775808 ≤ n ∧ n ≤ 9223372036854775807 := by
  simp [Lit.wf, IntKind.min, IntKind.max, IntKind.signed, IntKind.bits] at h; omega
theorem fiW_bd (n : Int) : 0 ≤ fiW n ∧ fiW n ≤ 18446744073709551615 := by unfold fiW; split <;> omega
theorem odd_fiW (n : Int) (h : fit n = true) : odd (fiW n) = true := by rw [odd_iff, (fi_yes n h).1]; omega
theorem odd_fiW_no (n : Int) (h : fit n = false) : odd (fiW n) = false := by rw [odd_not, (fi_no n h).1]; omega
theorem inN_fiW (n : Int) (h : fit n = true) : inN (fiW n) = n := by
  rw [(in_yes _ (odd_fiW n h)).1, (fi_yes n h).1]
  rw [fit_iff] at h
  unfold wrap64; omega
theorem fiW_inN (v : Int) (h : odd v = true) (h1 : 0 ≤ v) (h2 : v ≤ 18446744073709551615) : fiW (inN v) = v ∧ fiE (inN v) = 0 := by
  have e := fi_yes (inN v) (inN_fit v)
  refine ⟨?_, e.2⟩
  rw [e.1, (in_yes v h).1]
  rw [odd_iff] at h
  unfold wrap64; omega
theorem frW_rfN (v : Int) (h : rfOk v = true) : frW (rfN v) = v ∧ frE (rfN v) = 0 := by
  rw [(rf_yes v h).1]
  rw [rfOk_iff] at h
  have e := fr_yes (v / 2) ((frOk_iff _).2 h.2)
  refine ⟨?_, e.2⟩
  rw [e.1]; omega
theorem fiW_ne (n : Int) (h : fit n = true) : fiW n ≠ 0 := by
  intro e; have := odd_fiW n h; rw [e] at this; cases (by decide +kernel : odd 0 = false) ▸ this

/-! arithmetic with numbers' words -/
theorem ar_of (k a b : Int) (ha : fit a = true) (hb : fit b = true) (ho : resOk k a b = true) (hf : fit (resN k a b) = true) :
    arOk k (fiW a) (fiW b) = true ∧ arW k (fiW a) (fiW b) = fiW (resN k a b) := by
  have e : arOk k (fiW a) (fiW b) = true := by
    unfold arOk; rw [inN_fiW a ha, inN_fiW b hb, odd_fiW a ha, odd_fiW b hb, ho, hf]; rfl
  refine ⟨e, ?_⟩
  rw [ar_yes _ _ _ e, inN_fiW a ha, inN_fiW b hb]
theorem ar_of_no (k a b : Int) (ha : fit a = true) (hb : fit b = true) (h : (resOk k a b && fit (resN k a b)) = false) :
    arOk k (fiW a) (fiW b) = false := by
  unfold arOk; rw [inN_fiW a ha, inN_fiW b hb, h]; simp
theorem ar_left (k a v : Int) (ha : fit a = false) : arOk k (fiW a) v = false := by unfold arOk; rw [odd_fiW_no a ha]; rfl
theorem ar_right (k v b : Int) (hb : fit b = false) : arOk k v (fiW b) = false := by unfold arOk; rw [odd_fiW_no b hb]; simp
theorem le_left (k a v : Int) (ha : fit a = false) : leOk k (fiW a) v = false := by unfold leOk; rw [odd_fiW_no a ha]; rfl
theorem le_right (k v b : Int) (hb : fit b = false) : leOk k v (fiW b) = false := by unfold leOk; rw [odd_fiW_no b hb]; simp
theorem le_of (k a b : Int) (hk : k = 0 ∨ k = 1 ∨ k = 2) (ha : fit a = true) (hb : fit b = true) :
    leOk k (fiW a) (fiW b) = true ∧ leB k (fiW a) (fiW b) = (if k = 0 then decide (a < b) else if k = 1 then decide (a ≤ b) else decide (a = b)) := by
  have e : leOk k (fiW a) (fiW b) = true := by
    unfold leOk; rw [odd_fiW a ha, odd_fiW b hb]; rcases hk with rfl | rfl | rfl <;> rfl
  refine ⟨e, ?_⟩
  unfold leB; rw [e, inN_fiW a ha, inN_fiW b hb]; rfl
theorem uns_comm_and (a b : Int) : bits .and .i64 a b = bits .and .i64 b a := by rw [and_i64, and_i64, Nat.and_comm]
theorem uns_comm_or (a b : Int) : bits .or .i64 a b = bits .or .i64 b a := by rw [or_i64, or_i64, Nat.or_comm]
theorem uns_comm_xor (a b : Int) : bits .xor .i64 a b = bits .xor .i64 b a := by rw [xor_i64, xor_i64, Nat.xor_comm]
theorem res_comm (k a b : Int) (hk : k = 0 ∨ k = 2 ∨ k = 5 ∨ k = 6 ∨ k = 7) : resN k a b = resN k b a ∧ resOk k a b = resOk k b a := by
  have hm : mulOk a b = mulOk b a := by unfold mulOk; rw [Int.mul_comm]
  have hN : mulN a b = mulN b a := by unfold mulN; rw [hm, Int.mul_comm]
  rcases hk with rfl | rfl | rfl | rfl | rfl
  · exact ⟨by show a + b = b + a; omega, rfl⟩
  · exact ⟨hN, hm⟩
  · exact ⟨uns_comm_and a b, rfl⟩
  · exact ⟨uns_comm_or a b, rfl⟩
  · exact ⟨uns_comm_xor a b, rfl⟩
theorem ar_comm (k v u : Int) (hk : k = 0 ∨ k = 2 ∨ k = 5 ∨ k = 6 ∨ k = 7) : arW k v u = arW k u v ∧ arOk k v u = arOk k u v := by
  have ⟨h1, h2⟩ := res_comm k (inN v) (inN u) hk
  have e : arOk k v u = arOk k u v := by
    unfold arOk; rw [h1, h2]
    cases odd v <;> cases odd u <;> rfl
  refine ⟨?_, e⟩
  unfold arW; rw [e, h1]
end Go.Proofs.Ytcgmioeclebfgaa
