/- The document's answers: numbers, Pack, Unpack. The document's Unpack. -/
import Derived.Test.YtcbplibbfoajgaaDoorMCodeB
import Derived.Test.YtcbplibbfoajgaaDoorMRefs
namespace Go.Proofs.YtcbplibbfoajgaaDoor
open Go.RowKit

theorem fit_not (n : Int) : fit n = false ↔ ¬ (-4611686018427387904 ≤ n ∧ n ≤ 4611686018427387903) := by
  rw [← fit_iff]
  simp
theorem rfits (n : Int) (w : World) : Calls Tryd.prog 65 #[.int .i64 n] w (Gives (.bool (fit n)) w) := by
  go_enter Tryd.func65, Tryd.ntmps65
  go_wp2
  all_goals go_ret
  · rename_i h
    exact ⟨ret1 (vb (by unfold fit; rw [decide_eq_decide]; omega)), rfl⟩
  · rename_i h
    exact ⟨ret1 (vb (by rw [eq_comm, fit_not]; omega)), rfl⟩
theorem rFromInt (n : Int) (w : World) (h : fit n = true) : Calls Tryd.prog 42 #[.int .i64 n] w (Gives (.tuple #[.int .u64 (wordOf n), .int .i64 0]) w) := by
  go_enter Tryd.func42, Tryd.ntmps42
  go_wp2_with (go_at_call 65; refine (rfits _ _).mono ?_; rintro e w' ⟨rfl, rfl⟩)
  go_ret2
  exact ⟨tup2 (vi (by unfold wordOf; simp only [wrap_u64_eq]; omega)) rfl, rfl⟩
theorem and1_i64 (a : Int) : bits .and .i64 a 1 = a % 2 := by
  rw [and_i64]
  have e : uns 1 = 2 ^ 1 - 1 := by decide
  rw [e, Nat.and_two_pow_sub_one_eq_mod]
  unfold uns wrap64
  omega
theorem ref_int (n : Int) (h : n % 2 = 1) : wrap64 ((wrap64 (wrap64 n - bits .and .i64 (wrap64 n) 1)).tdiv 2) = wrap64 n / 2 := by
  rw [and1_i64]
  have hb : -9223372036854775808 ≤ wrap64 n ∧ wrap64 n ≤ 9223372036854775807 := by unfold wrap64; omega
  have hp : wrap64 n % 2 = 1 := by unfold wrap64; omega
  generalize wrap64 n = x at *
  rw [IntWalk.wrap64_in (x - x % 2) (by omega)]
  have e : x - x % 2 = 2 * (x / 2) := by omega
  rw [e, Int.mul_tdiv_cancel_left _ (by decide)]
  exact IntWalk.wrap64_in _ (by omega)
theorem rwithin (x lo hi : Int) (w : World) : Calls Tryd.prog 24 #[.int .i64 x, .int .i64 lo, .int .i64 hi] w (Gives (.bool (decide (lo ≤ x ∧ x ≤ hi))) w) := by
  go_enter Tryd.func24, Tryd.ntmps24
  go_wp2
  all_goals go_ret
  · rename_i h
    exact ⟨ret1 (vb (by rw [decide_eq_decide]; omega)), rfl⟩
  · rename_i h
    exact ⟨ret1 (vb (by rw [eq_comm]; simp; omega)), rfl⟩
theorem ins_case (i : Ins) : i.ok = (decide (1 ≤ i.op ∧ i.op ≤ 23) && decide (0 ≤ i.a ∧ i.a ≤ 4095) && decide (0 ≤ i.b ∧ i.b ≤ 4095)) := by
  rw [Bool.eq_iff_iff]
  simp [Ins.ok]
  omega
set_option maxRecDepth 100000 in
set_option maxHeartbeats 1000000 in
theorem rpack_at (i : Ins) (w : World) : Calls Tryd.prog 25 #[i.v] w (Still (.tuple #[.int .u64 (if i.ok = true then wordOf i.num else 0), .int .i64 (if i.ok = true then 0 else 1)]) w) := by
  have hw := fun x lo hi W => rwithin x lo hi W
  have HFI := Lib.hid (fun W (h : i.ok = true) => rFromInt i.num W (i.fit h))
  have HCA := Lib.hid (ins_case i)
  obtain ⟨ok, hok⟩ : ∃ ok, ok = i.ok := ⟨_, rfl⟩
  have HB : Hid (ok = true → 1 ≤ i.op ∧ i.op ≤ 23 ∧ 0 ≤ i.a ∧ i.a ≤ 4095 ∧ 0 ≤ i.b ∧ i.b ≤ 4095) := Lib.hid fun h => i.ok_iff.1 (hok ▸ h)
  rw [← hok] at HFI HCA ⊢
  clear hok
  unfold Ins.num at HFI ⊢
  obtain ⟨op, a, b⟩ := i
  unfold Ins.v
  simp only at HFI HCA HB ⊢
  cases ok
  · simp only [Bool.false_eq_true, if_false]
    clear HFI HB
    by_cases h1 : 1 ≤ op ∧ op ≤ 23
    · have e1 : decide (1 ≤ op ∧ op ≤ 23) = true := decide_eq_true h1
      by_cases h2 : 0 ≤ a ∧ a ≤ 4095
      · have e2 : decide (0 ≤ a ∧ a ≤ 4095) = true := decide_eq_true h2
        have e3 : decide (0 ≤ b ∧ b ≤ 4095) = false := by have := HCA.out; rw [e1, e2] at this; simpa using this.symm
        have hw1 := fun W => hw op 1 23 W
        have hw2 := fun W => hw a 0 4095 W
        have hw3 := fun W => hw b 0 4095 W
        rw [e1] at hw1
        rw [e2] at hw2
        rw [e3] at hw3
        clear hw HCA e1 e2 e3 h1 h2
        go_enter Tryd.func25, Tryd.ntmps25
        go_wp2_with (go_at_call 24; first | ((with_reducible refine (hw1 _).mono ?_); rintro e w' ⟨rfl, rfl⟩) | ((with_reducible refine (hw2 _).mono ?_); rintro e w' ⟨rfl, rfl⟩) | ((with_reducible refine (hw3 _).mono ?_); rintro e w' ⟨rfl, rfl⟩))
        go_ret2
        exact ⟨rfl, (Fr.refl _ _).alloc _⟩
      · have e2 : decide (0 ≤ a ∧ a ≤ 4095) = false := decide_eq_false h2
        have hw1 := fun W => hw op 1 23 W
        have hw2 := fun W => hw a 0 4095 W
        rw [e1] at hw1
        rw [e2] at hw2
        clear hw HCA e1 e2 h1 h2
        go_enter Tryd.func25, Tryd.ntmps25
        go_wp2_with (go_at_call 24; first | ((with_reducible refine (hw1 _).mono ?_); rintro e w' ⟨rfl, rfl⟩) | ((with_reducible refine (hw2 _).mono ?_); rintro e w' ⟨rfl, rfl⟩))
        go_ret2
        exact ⟨rfl, (Fr.refl _ _).alloc _⟩
    · have e1 : decide (1 ≤ op ∧ op ≤ 23) = false := decide_eq_false h1
      have hw1 := fun W => hw op 1 23 W
      rw [e1] at hw1
      clear hw HCA e1 h1
      go_enter Tryd.func25, Tryd.ntmps25
      go_wp2_with (go_at_call 24; ((with_reducible refine (hw1 _).mono ?_); rintro e w' ⟨rfl, rfl⟩))
      go_ret2
      exact ⟨rfl, (Fr.refl _ _).alloc _⟩
  · simp only [if_true]
    obtain ⟨h1, h2, h3, h4, h5, h6⟩ := HB.out rfl
    have hw1 := fun W => hw op 1 23 W
    have hw2 := fun W => hw a 0 4095 W
    have hw3 := fun W => hw b 0 4095 W
    rw [decide_eq_true ⟨h1, h2⟩] at hw1
    rw [decide_eq_true ⟨h3, h4⟩] at hw2
    rw [decide_eq_true ⟨h5, h6⟩] at hw3
    have hfi := fun W => HFI.out W rfl
    clear hw HCA HB HFI
    go_enter Tryd.func25, Tryd.ntmps25
    go_wp2_with (first | (go_at_call 24; first | ((with_reducible refine (hw1 _).mono ?_); rintro e w' ⟨rfl, rfl⟩) | ((with_reducible refine (hw2 _).mono ?_); rintro e w' ⟨rfl, rfl⟩) | ((with_reducible refine (hw3 _).mono ?_); rintro e w' ⟨rfl, rfl⟩)) | (go_at_call 42; refine (hfi _).mono ?_; rintro e w' ⟨rfl, rfl⟩))
    go_ret2
    exact ⟨rfl, (Fr.refl _ _).alloc _⟩
end Go.Proofs.YtcbplibbfoajgaaDoor
namespace Go.Proofs.YtcbplibbfoajgaaDoor
open Go.RowKit

theorem neg_ins {n : Int} (h : n < 0) : (insOf n).ok = false := by
  cases h' : (insOf n).ok
  · rfl
  · rw [Ins.ok_iff] at h'
    simp only [insOf] at h'
    omega
end Go.Proofs.YtcbplibbfoajgaaDoor
