/- word.Int and the document's, as far as register code asks. -/
import Derived.Test.YtcdpgchkdjjfgaaIrPure
import Derived.Test.YtcdpgchkdjjfgaaMask
import Derived.IntWalk
import Derived.Laws.BitsAllLaws
namespace Go.Proofs.Ytcdpgchkdjjfgaa
open Go.RowKit

/-- a word's bounds -/
def WU (x : Int) : Prop := 0 ≤ x ∧ x ≤ 18446744073709551615
/-- is a word a number's? which? -/
def iodd (x : Int) : Bool := decide (x % 2 = 1)
def inum (x : Int) : Int := wrap64 x / 2
theorem iIsInt (n : Int) (w : World) (h1 : 0 ≤ n) (h2 : n ≤ 18446744073709551615) : Calls Try.prog 51 #[.int .u64 n] w (Gives (.bool (iodd n)) w) := by
  go_enter Try.func51, Try.ntmps51
  go_wp2
  go_ret
  refine ⟨ret1 (vb ?_), rfl⟩
  rw [u64_and n 1 h1 (by omega) (by omega) (by omega)]
  have e : (1 : Int).toNat = 1 := rfl
  rw [e, nat_mask1]
  unfold iodd
  rw [Bool.eq_iff_iff]
  simp
  omega
theorem irIsInt (n : Int) (w : World) (h1 : 0 ≤ n) (h2 : n ≤ 18446744073709551615) : Calls Try.prog 49 #[.int .u64 n] w (Gives (.bool (iodd n)) w) := by
  have hw : IntKind.u64.wrap (n.tmod 2) = n % 2 := by rw [IntKind.wrap_u64, Int.tmod_eq_emod_of_nonneg h1]; omega
  go_enter Try.func49, Try.ntmps49
  go_wp2
  go_ret
  refine ⟨ret1 (vb ?_), rfl⟩
  unfold iodd
  first
    | rfl
    | (rw [Bool.eq_iff_iff]; simp; done)
    | (rw [Bool.eq_iff_iff]; simp; omega)
    | (rw [hw]; rfl)
    | (rw [hw, Bool.eq_iff_iff]; simp)
theorem iInt_no (x : Int) (w : World) (hx : WU x) (h : iodd x = false) : Calls Try.prog 50 #[.int .u64 x] w (Gives (.tuple #[.int .i64 0, .int .i64 1]) w) := by
  have hi := iIsInt x w hx.1 hx.2
  rw [h] at hi
  clear h
  go_enter Try.func50, Try.ntmps50
  go_wp2_with (go_at_call 51; refine hi.mono ?_; rintro e w' ⟨rfl, rfl⟩)
  go_ret2
  exact ⟨rfl, rfl⟩
theorem iInt_yes (x : Int) (w : World) (hx : WU x) (h : iodd x = true) : Calls Try.prog 50 #[.int .u64 x] w (Gives (.tuple #[.int .i64 (inum x), .int .i64 0]) w) := by
  have hi := iIsInt x w hx.1 hx.2
  rw [h] at hi
  clear h
  go_enter Try.func50, Try.ntmps50
  go_wp2_with (go_at_call 51; refine hi.mono ?_; rintro e w' ⟨rfl, rfl⟩)
  go_ret2
  exact ⟨rfl, rfl⟩
theorem iand1 (a : Int) : bits .and .i64 a 1 = a % 2 := by
  rw [and_i64]
  have e : uns 1 = 2 ^ 1 - 1 := by decide
  rw [e, Nat.and_two_pow_sub_one_eq_mod]
  unfold uns wrap64
  omega
theorem iref (n : Int) (h : n % 2 = 1) : wrap64 ((wrap64 (wrap64 n - bits .and .i64 (wrap64 n) 1)).tdiv 2) = wrap64 n / 2 := by
  rw [iand1]
  have hb : -9223372036854775808 ≤ wrap64 n ∧ wrap64 n ≤ 9223372036854775807 := by unfold wrap64; omega
  have hp : wrap64 n % 2 = 1 := by unfold wrap64; omega
  generalize wrap64 n = x at *
  rw [IntWalk.wrap64_in (x - x % 2) (by omega)]
  have e : x - x % 2 = 2 * (x / 2) := by omega
  rw [e, Int.mul_tdiv_cancel_left _ (by decide)]
  exact IntWalk.wrap64_in _ (by omega)
theorem irInt_no (x : Int) (w : World) (hx : WU x) (h : iodd x = false) : Calls Try.prog 43 #[.int .u64 x] w (Gives (.tuple #[.int .i64 0, .int .i64 1]) w) := by
  have hi := irIsInt x w hx.1 hx.2
  rw [h] at hi
  clear h
  go_enter Try.func43, Try.ntmps43
  go_wp2_with (go_at_call 49; refine hi.mono ?_; rintro e w' ⟨rfl, rfl⟩)
  go_ret2
  exact ⟨rfl, rfl⟩
theorem irInt_yes (x : Int) (w : World) (hx : WU x) (h : iodd x = true) : Calls Try.prog 43 #[.int .u64 x] w (Gives (.tuple #[.int .i64 (inum x), .int .i64 0]) w) := by
  have hi := irIsInt x w hx.1 hx.2
  have H := Lib.hid (iref x (by simpa [iodd] using h))
  rw [h] at hi
  clear h
  go_enter Try.func43, Try.ntmps43
  go_wp2_with (go_at_call 49; refine hi.mono ?_; rintro e w' ⟨rfl, rfl⟩)
  go_ret2
  exact ⟨tup2 (vi H.out) rfl, rfl⟩
/-- it is 0 or 1 -/
theorem inum01 {x : Int} (hx : WU x) (h : iodd x = true) : (0 ≤ inum x ∧ inum x ≤ 1) ↔ (x = 1 ∨ x = 3) := by
  have h : x % 2 = 1 := by simpa [iodd] using h
  obtain ⟨h1, h2⟩ := hx
  unfold inum wrap64
  omega
end Go.Proofs.Ytcdpgchkdjjfgaa
