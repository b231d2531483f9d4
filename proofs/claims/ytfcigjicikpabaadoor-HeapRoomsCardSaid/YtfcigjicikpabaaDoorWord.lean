/- What package word's IsInt, Ref and FromRef return. -/
import Derived.Test.YtfcigjicikpabaaDoorFrame
import Derived.Laws.BitsAllLaws
namespace Go.Proofs.YtfcigjicikpabaaDoor
open Go.RowKit

def odd (w : Int) : Bool := decide (w % 2 = 1)
def rfOk (w : Int) : Bool := decide (w % 2 = 0 ∧ 1 ≤ w / 2 ∧ w / 2 ≤ 2147483647)
theorem odd_iff (n : Int) : odd n = true ↔ n % 2 = 1 := by unfold odd; simp
theorem odd_not (n : Int) : odd n = false ↔ n % 2 = 0 := by unfold odd; simp; omega
theorem rfOk_iff (n : Int) : rfOk n = true ↔ (n % 2 = 0 ∧ 1 ≤ n / 2 ∧ n / 2 ≤ 2147483647) := by unfold rfOk; simp
theorem bits_and1_u64 (n : Int) (h1 : 0 ≤ n) (h2 : n ≤ 18446744073709551615) : bits .and .u64 n 1 = n % 2 := by
  rw [u64_and n 1 h1 (by omega) (by omega) (by omega)]
  have e : (1 : Int).toNat = 1 := rfl
  rw [e, nat_mask1]; omega
theorem wrap_u64_eq (n : Int) : IntKind.u64.wrap n = n % 18446744073709551616 := IntKind.wrap_u64 n
theorem wordIsInt (n : Int) (w : World) (h1 : 0 ≤ n) (h2 : n ≤ 18446744073709551615) : Calls Tryd.prog 52 #[.int .u64 n] w (Gives (.bool (odd n)) w) := by
  go_enter Tryd.func52, Tryd.ntmps52
  go_wp2
  go_ret
  exact ⟨ret1 (vb (by rw [bits_and1_u64 n h1 h2]; unfold odd; rfl)), rfl⟩
theorem wordRef_no (n : Int) (w : World) (h1 : 0 ≤ n) (h2 : n ≤ 18446744073709551615) (h : rfOk n = false) : Calls Tryd.prog 50 #[.int .u64 n] w (Gives (.tuple #[.int .i64 0, .int .i64 1]) w) := by
  have h' : ¬ (n % 2 = 0 ∧ 1 ≤ n / 2 ∧ n / 2 ≤ 2147483647) := by rw [← rfOk_iff, h]; simp
  clear h
  cases h : odd n
  · have ho := (odd_not n).1 h
    by_cases h3 : n / 2 < 1
    · clear h' ho
      go_enter Tryd.func50, Tryd.ntmps50
      go_wp2_with (go_at_call 52; refine (wordIsInt _ _ h1 h2).mono ?_; rintro e w' ⟨rfl, rfl⟩)
      go_ret2
      exact ⟨rfl, rfl⟩
    · have h4 : 2147483647 < n / 2 := by omega
      clear h' ho
      go_enter Tryd.func50, Tryd.ntmps50
      go_wp2_with (go_at_call 52; refine (wordIsInt _ _ h1 h2).mono ?_; rintro e w' ⟨rfl, rfl⟩)
      go_ret2
      exact ⟨rfl, rfl⟩
  · clear h'
    go_enter Tryd.func50, Tryd.ntmps50
    go_wp2_with (go_at_call 52; refine (wordIsInt _ _ h1 h2).mono ?_; rintro e w' ⟨rfl, rfl⟩)
    go_ret2
    exact ⟨rfl, rfl⟩
theorem wordRef_yes (n : Int) (w : World) (h1 : 0 ≤ n) (h2 : n ≤ 18446744073709551615) (h : rfOk n = true) : Calls Tryd.prog 50 #[.int .u64 n] w (Gives (.tuple #[.int .i64 (n / 2), .int .i64 0]) w) := by
  rw [rfOk_iff] at h
  obtain ⟨h3, h4, h5⟩ := h
  have h := (odd_not n).2 h3
  clear h3
  go_enter Tryd.func50, Tryd.ntmps50
  go_wp2_with (go_at_call 52; refine (wordIsInt _ _ h1 h2).mono ?_; rintro e w' ⟨rfl, rfl⟩)
  go_ret2
  exact ⟨rfl, rfl⟩
/-- at the word of a reference, by its place -/
theorem wordRef_at (k : Nat) (w : World) (h1 : 1 ≤ k) (h2 : k ≤ 2147483647) : Calls Tryd.prog 50 #[.int .u64 (2 * k)] w (Gives (.tuple #[.int .i64 k, .int .i64 0]) w) := by
  have h := wordRef_yes (2 * k) w (by omega) (by omega) (by rw [rfOk_iff]; omega)
  rw [show (2 * (k : Int)) / 2 = k by omega] at h
  exact h
theorem wordFromRef (k : Nat) (w : World) (h1 : 1 ≤ k) (h2 : k ≤ 2147483647) : Calls Tryd.prog 26 #[.int .i64 k] w (Gives (.tuple #[.int .u64 (2 * k), .int .i64 0]) w) := by
  have h1' : (1 : Int) ≤ k := by omega
  have h2' : (k : Int) ≤ 2147483647 := by omega
  go_enter Tryd.func26, Tryd.ntmps26
  go_wp2
  go_ret2
  exact ⟨tup2 (vi (by first | omega | (simp only [wrap_u64_eq]; omega))) rfl, rfl⟩
end Go.Proofs.YtfcigjicikpabaaDoor
