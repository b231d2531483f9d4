/- The document's answers: numbers, Pack, Unpack. The document's Unpack. The document's Same: are two methods the same? The document's examples of code: awake. -/
import Derived.Test.YtgpcidmlogbjbaaGreatDoorMCodeB
import Derived.Test.YtgpcidmlogbjbaaGreatDoorMRefs
import Derived.Test.YtgpcidmlogbjbaaGreatDoorMCodeC
import Derived.Laws.StructEq
namespace Go.Proofs.YtgpcidmlogbjbaaGreatDoor
open Go.RowKit

theorem fit_not (n : Int) : fit n = false ↔ ¬ (-4611686018427387904 ≤ n ∧ n ≤ 4611686018427387903) := by
  rw [← fit_iff]
  simp
theorem rfits (n : Int) (w : World) : Calls Tryz.prog 119 #[.int .i64 n] w (Gives (.bool (fit n)) w) := by
  go_enter Tryz.func119, Tryz.ntmps119
  go_wp2
  all_goals go_ret
  · rename_i h
    exact ⟨ret1 (vb (by unfold fit; rw [decide_eq_decide]; omega)), rfl⟩
  · rename_i h
    exact ⟨ret1 (vb (by rw [eq_comm, fit_not]; omega)), rfl⟩
theorem rFromInt (n : Int) (w : World) (h : fit n = true) : Calls Tryz.prog 79 #[.int .i64 n] w (Gives (.tuple #[.int .u64 (wordOf n), .int .i64 0]) w) := by
  go_enter Tryz.func79, Tryz.ntmps79
  go_wp2_with (go_at_call 119; refine (rfits _ _).mono ?_; rintro e w' ⟨rfl, rfl⟩)
  go_ret2
  exact ⟨tup2 (vi (by unfold wordOf; simp only [wrap_u64_eq]; omega)) rfl, rfl⟩
theorem and1_i64 (a : Int) : bits .and .i64 a 1 = a % 2 := by
  rw [and_i64]
  have e : uns 1 = 2 ^ 1 - 1 := by decide
  rw [e, Nat.and_two_pow_sub_one_eq_mod]
  unfold uns wrap64
  omega
theorem ref_int (n : Int) (h : n % 2 = 1) : wrap64 ((wrap64 (wrap64 n - bits .and .i64 (wrap64 n) 1)).tdiv 2) = wrap64 n / 2 := by
  rw [and1_i64]
  have hb : -9223372036854775808 ≤ wrap64 n ∧ wrap64 n ≤ 9223372036854775807 := by unfold wrap64; omega
  have hp : wrap64 n % 2 = 1 := by unfold wrap64; omega
  generalize wrap64 n = x at *
  rw [IntWalk.wrap64_in (x - x % 2) (by omega)]
  have e : x - x % 2 = 2 * (x / 2) := by omega
  rw [e, Int.mul_tdiv_cancel_left _ (by decide)]
  exact IntWalk.wrap64_in _ (by omega)
theorem rInt (x : Int) (w : World) (hx : WB x) : Calls Tryz.prog 81 #[.int .u64 x] w (Gives (.tuple #[.int .i64 (if odd x = true then intOfW x else 0), .int .i64 (if odd x = true then 0 else 1)]) w) := by
  have hi := rIsInt x w hx.1 hx.2
  cases h : odd x
  · rw [h] at hi
    simp only [Bool.false_eq_true, if_false]
    clear h
    go_enter Tryz.func81, Tryz.ntmps81
    go_wp2_with (go_at_call 115; refine hi.mono ?_; rintro e w' ⟨rfl, rfl⟩)
    go_ret2
    exact ⟨rfl, rfl⟩
  · have H := Lib.hid (ref_int x ((odd_iff x).1 h))
    rw [h] at hi
    simp only [if_true]
    clear h
    go_enter Tryz.func81, Tryz.ntmps81
    go_wp2_with (go_at_call 115; refine hi.mono ?_; rintro e w' ⟨rfl, rfl⟩)
    go_ret2
    exact ⟨tup2 (vi H.out) rfl, rfl⟩
theorem rwithin (x lo hi : Int) (w : World) : Calls Tryz.prog 78 #[.int .i64 x, .int .i64 lo, .int .i64 hi] w (Gives (.bool (decide (lo ≤ x ∧ x ≤ hi))) w) := by
  go_enter Tryz.func78, Tryz.ntmps78
  go_wp2
  all_goals go_ret
  · rename_i h
    exact ⟨ret1 (vb (by rw [decide_eq_decide]; omega)), rfl⟩
  · rename_i h
    exact ⟨ret1 (vb (by rw [eq_comm]; simp; omega)), rfl⟩
theorem ins_case (i : Ins) : i.ok = (decide (1 ≤ i.op ∧ i.op ≤ 23) && decide (0 ≤ i.a ∧ i.a ≤ 4095) && decide (0 ≤ i.b ∧ i.b ≤ 4095)) := by
  rw [Bool.eq_iff_iff]
  simp [Ins.ok]
  omega
set_option maxRecDepth 100000 in
set_option maxHeartbeats 1000000 in
theorem rpack_at (i : Ins) (w : World) : Calls Tryz.prog 31 #[i.v] w (Still (.tuple #[.int .u64 (if i.ok = true then wordOf i.num else 0), .int .i64 (if i.ok = true then 0 else 1)]) w) := by
  have hw := fun x lo hi W => rwithin x lo hi W
  have HFI := Lib.hid (fun W (h : i.ok = true) => rFromInt i.num W (i.fit h))
  have HCA := Lib.hid (ins_case i)
  obtain ⟨ok, hok⟩ : ∃ ok, ok = i.ok := ⟨_, rfl⟩
  have HB : Hid (ok = true → 1 ≤ i.op ∧ i.op ≤ 23 ∧ 0 ≤ i.a ∧ i.a ≤ 4095 ∧ 0 ≤ i.b ∧ i.b ≤ 4095) := Lib.hid fun h => i.ok_iff.1 (hok ▸ h)
  rw [← hok] at HFI HCA ⊢
  clear hok
  unfold Ins.num at HFI ⊢
  obtain ⟨op, a, b⟩ := i
  unfold Ins.v
  simp only at HFI HCA HB ⊢
  cases ok
  · simp only [Bool.false_eq_true, if_false]
    clear HFI HB
    by_cases h1 : 1 ≤ op ∧ op ≤ 23
    · have e1 : decide (1 ≤ op ∧ op ≤ 23) = true := decide_eq_true h1
      by_cases h2 : 0 ≤ a ∧ a ≤ 4095
      · have e2 : decide (0 ≤ a ∧ a ≤ 4095) = true := decide_eq_true h2
        have e3 : decide (0 ≤ b ∧ b ≤ 4095) = false := by have := HCA.out; rw [e1, e2] at this; simpa using this.symm
        have hw1 := fun W => hw op 1 23 W
        have hw2 := fun W => hw a 0 4095 W
        have hw3 := fun W => hw b 0 4095 W
        rw [e1] at hw1
        rw [e2] at hw2
        rw [e3] at hw3
        clear hw HCA e1 e2 e3 h1 h2
        go_enter Tryz.func31, Tryz.ntmps31
        go_wp2_with (go_at_call 78; first | ((with_reducible refine (hw1 _).mono ?_); rintro e w' ⟨rfl, rfl⟩) | ((with_reducible refine (hw2 _).mono ?_); rintro e w' ⟨rfl, rfl⟩) | ((with_reducible refine (hw3 _).mono ?_); rintro e w' ⟨rfl, rfl⟩))
        go_ret2
        exact ⟨rfl, (Fr.refl _ _).alloc _⟩
      · have e2 : decide (0 ≤ a ∧ a ≤ 4095) = false := decide_eq_false h2
        have hw1 := fun W => hw op 1 23 W
        have hw2 := fun W => hw a 0 4095 W
        rw [e1] at hw1
        rw [e2] at hw2
        clear hw HCA e1 e2 h1 h2
        go_enter Tryz.func31, Tryz.ntmps31
        go_wp2_with (go_at_call 78; first | ((with_reducible refine (hw1 _).mono ?_); rintro e w' ⟨rfl, rfl⟩) | ((with_reducible refine (hw2 _).mono ?_); rintro e w' ⟨rfl, rfl⟩))
        go_ret2
        exact ⟨rfl, (Fr.refl _ _).alloc _⟩
    · have e1 : decide (1 ≤ op ∧ op ≤ 23) = false := decide_eq_false h1
      have hw1 := fun W => hw op 1 23 W
      rw [e1] at hw1
      clear hw HCA e1 h1
      go_enter Tryz.func31, Tryz.ntmps31
      go_wp2_with (go_at_call 78; ((with_reducible refine (hw1 _).mono ?_); rintro e w' ⟨rfl, rfl⟩))
      go_ret2
      exact ⟨rfl, (Fr.refl _ _).alloc _⟩
  · simp only [if_true]
    obtain ⟨h1, h2, h3, h4, h5, h6⟩ := HB.out rfl
    have hw1 := fun W => hw op 1 23 W
    have hw2 := fun W => hw a 0 4095 W
    have hw3 := fun W => hw b 0 4095 W
    rw [decide_eq_true ⟨h1, h2⟩] at hw1
    rw [decide_eq_true ⟨h3, h4⟩] at hw2
    rw [decide_eq_true ⟨h5, h6⟩] at hw3
    have hfi := fun W => HFI.out W rfl
    clear hw HCA HB HFI
    go_enter Tryz.func31, Tryz.ntmps31
    go_wp2_with (first | (go_at_call 78; first | ((with_reducible refine (hw1 _).mono ?_); rintro e w' ⟨rfl, rfl⟩) | ((with_reducible refine (hw2 _).mono ?_); rintro e w' ⟨rfl, rfl⟩) | ((with_reducible refine (hw3 _).mono ?_); rintro e w' ⟨rfl, rfl⟩)) | (go_at_call 79; refine (hfi _).mono ?_; rintro e w' ⟨rfl, rfl⟩))
    go_ret2
    exact ⟨rfl, (Fr.refl _ _).alloc _⟩
end Go.Proofs.YtgpcidmlogbjbaaGreatDoor
namespace Go.Proofs.YtgpcidmlogbjbaaGreatDoor
open Go.RowKit

theorem neg_ins {n : Int} (h : n < 0) : (insOf n).ok = false := by
  cases h' : (insOf n).ok
  · rfl
  · rw [Ins.ok_iff] at h'
    simp only [insOf] at h'
    omega
set_option maxRecDepth 100000 in
set_option maxHeartbeats 1000000 in
theorem runpack_at (x : Int) (hx : WB x) (w : World) : Calls Tryz.prog 33 #[.int .u64 x] w (Still (.tuple #[if insOk x = true then (insOf (intOfW x)).v else .agg #[.int .i64 0, .int .i64 0, .int .i64 0], .int .i64 (if insOk x = true then 0 else 4)]) w) := by
  have hi := fun W => rInt x W hx
  obtain ⟨n, hn⟩ : ∃ n, n = intOfW x := ⟨_, rfl⟩
  have HFT := Lib.hid ((fit_iff _).1 (intOfW_fit x))
  have HWO : Hid (odd x = true → wordOf (insOf n).num = x) := Lib.hid fun h => by rw [num_insOf, hn, wordOf_int x hx h]
  have HPK := Lib.hid (fun W => rpack_at (insOf n) W)
  have HOK : Hid (insOk x = (odd x && (insOf n).ok)) := Lib.hid (by rw [hn]; rfl)
  have HNG : Hid (n < 0 → (insOf n).ok = false) := Lib.hid fun h => neg_ins h
  obtain ⟨x1, x2⟩ := hx
  rw [← hn] at hi HFT ⊢
  rw [HOK.out]
  clear hn HOK
  cases h : odd x
  · rw [h] at hi
    simp only [Bool.false_eq_true, if_false, Bool.false_and] at hi ⊢
    clear h HWO HPK HNG HFT
    go_enter Tryz.func33, Tryz.ntmps33
    go_wp2_with (go_at_call 81; refine (hi _).mono ?_; rintro e w' ⟨rfl, rfl⟩)
    (try simp only [Exit.inBlock, Exit.then])
    refine bodyPost_ret (v := .tuple #[.agg #[.int .i64 0, .int .i64 0, .int .i64 0], .int .i64 4]) ?_ rfl ⟨rfl, ?_⟩
    · rw [results_cell_tmp rfl]
      go_simp
    · (repeat (first | (with_reducible refine Fr.setCell ?_ (fun h => absurd h (Nat.lt_irrefl _)) _) | (with_reducible refine Fr.alloc ?_ _) | (with_reducible refine Fr.drew ?_) | (with_reducible exact Fr.refl _ _)))
  · have HWX := Lib.hid (HWO.out h)
    rw [h] at hi
    simp only [if_true, Bool.true_and] at hi ⊢
    obtain ⟨b1, b2⟩ := HFT.out
    clear h HWO HFT
    by_cases hneg : n < 0
    · have HOK := HNG.out hneg
      rw [HOK]
      simp only [Bool.false_eq_true, if_false]
      clear HPK HNG HWX HOK
      go_enter Tryz.func33, Tryz.ntmps33
      go_wp2_with (go_at_call 81; refine (hi _).mono ?_; rintro e w' ⟨rfl, rfl⟩)
      (try simp only [Exit.inBlock, Exit.then])
      refine bodyPost_ret (v := .tuple #[.agg #[.int .i64 0, .int .i64 0, .int .i64 0], .int .i64 4]) ?_ rfl ⟨rfl, ?_⟩
      · rw [results_cell_tmp rfl]
        go_simp
      · (repeat (first | (with_reducible refine Fr.setCell ?_ (fun h => absurd h (Nat.lt_irrefl _)) _) | (with_reducible refine Fr.alloc ?_ _) | (with_reducible refine Fr.drew ?_) | (with_reducible exact Fr.refl _ _)))
    · have hn0 : 0 ≤ n := by omega
      clear HNG hneg
      cases hok : (insOf n).ok
      · rw [hok] at HPK
        simp only [Bool.false_eq_true, if_false] at HPK ⊢
        unfold insOf Ins.v at HPK
        simp only at HPK
        clear hok HWX
        go_enter Tryz.func33, Tryz.ntmps33
        go_wp2_with (first | (go_at_call 81; refine (hi _).mono ?_; rintro e w' ⟨rfl, rfl⟩) | fail)
        refine (HPK.out _).mono ?_
        rintro e w2 ⟨rfl, hF2⟩
        have HB := Lib.hid (hF2.heap (by simp) (((Fr.refl [] _).alloc _).heap (by simp) (heap_new w _)))
        have HF2 : Hid (Fr [] w w2) := (((Fr.refl _ _).alloc _).alloc _).trans hF2
        have r0 := cell_of_heap (o := 0) HB.out rfl; have r1 := cell_of_heap (o := 1) HB.out rfl; have r2 := cell_of_heap (o := 2) HB.out rfl
        have f0 := frozen_of_heap (o := 0) HB.out; have f1 := frozen_of_heap (o := 1) HB.out; have f2 := frozen_of_heap (o := 2) HB.out
        clear hF2
        go_wp2_with fail
        (try simp only [Exit.inBlock, Exit.then])
        refine bodyPost_ret (v := .tuple #[.agg #[.int .i64 0, .int .i64 0, .int .i64 0], .int .i64 4]) ?_ rfl ⟨rfl, ?_⟩
        · rw [results_cell_tmp rfl]
          go_simp
        · (repeat (first | (with_reducible refine Fr.setCell ?_ (fun h => absurd h (Nat.lt_irrefl _)) _) | (with_reducible refine Fr.alloc ?_ _) | (with_reducible refine Fr.drew ?_) | (with_reducible exact HF2.out)))
      · rw [hok] at HPK
        simp only [if_true] at HPK ⊢
        have hpk := HPK.out
        rw [HWX.out] at hpk
        unfold insOf Ins.v at hpk ⊢
        simp only at hpk ⊢
        clear hok HWX HPK
        go_enter Tryz.func33, Tryz.ntmps33
        go_wp2_with (first | (go_at_call 81; refine (hi _).mono ?_; rintro e w' ⟨rfl, rfl⟩) | fail)
        refine (hpk _).mono ?_
        rintro e w2 ⟨rfl, hF2⟩
        have HB := Lib.hid (hF2.heap (by simp) (((Fr.refl [] _).alloc _).heap (by simp) (heap_new w _)))
        have HI := Lib.hid (hF2.heap (by simp) (heap_new _ _))
        have HF2 : Hid (Fr [] w w2) := (((Fr.refl _ _).alloc _).alloc _).trans hF2
        have hsz : (w.alloc (.cells #[.int .i64 0, .int .i64 0, .int .i64 0] 53)).heap.size = w.heap.size + 1 := by simp
        rw [hsz] at HI
        have r0 := cell_of_heap (o := 0) HB.out rfl; have r1 := cell_of_heap (o := 1) HB.out rfl; have r2 := cell_of_heap (o := 2) HB.out rfl
        have f0 := frozen_of_heap (o := 0) HB.out; have f1 := frozen_of_heap (o := 1) HB.out; have f2 := frozen_of_heap (o := 2) HB.out
        have i0 := cell_of_heap (o := 0) HI.out rfl; have i1 := cell_of_heap (o := 1) HI.out rfl; have i2 := cell_of_heap (o := 2) HI.out rfl
        clear hF2 hsz
        go_wp2_with fail
        (try simp only [Exit.inBlock, Exit.then])
        refine bodyPost_ret (v := .tuple #[.agg #[.int .i64 (n % 64), .int .i64 (n / 64 % 4096), .int .i64 (n / 262144)], .int .i64 0]) ?_ rfl ⟨rfl, ?_⟩
        · rw [results_cell_tmp rfl]
          go_simp
        · (repeat (first | (with_reducible refine Fr.setCell ?_ (fun h => absurd h (Nat.lt_irrefl _)) _) | (with_reducible refine Fr.alloc ?_ _) | (with_reducible refine Fr.drew ?_) | (with_reducible exact HF2.out)))
end Go.Proofs.YtgpcidmlogbjbaaGreatDoor
namespace Go.Proofs.YtgpcidmlogbjbaaGreatDoor
open Go.RowKit

instance : DecidableEq Ins := fun a b => decidable_of_iff (a.op = b.op ∧ a.a = b.a ∧ a.b = b.b) ⟨fun ⟨h1, h2, h3⟩ => by cases a; cases b; simp_all, fun h => by subst h; exact ⟨rfl, rfl, rfl⟩⟩
theorem neq_instr (i j : Ins) (W : World) : (binOp BinOp.neq 53 (.agg #[.int .i64 i.op, .int .i64 i.a, .int .i64 i.b]) (.agg #[.int .i64 j.op, .int .i64 j.a, .int .i64 j.b])).run Tryz.prog W = .ok (.bool (decide (i ≠ j))) W := by
  obtain ⟨a, b, c⟩ := i
  obtain ⟨d, e, f⟩ := j
  by_cases h1 : a = d
  · subst h1
    by_cases h2 : b = e
    · subst h2
      by_cases h3 : c = f
      · subst h3
        go_simp
      · have h3' : (c == f) = false := by simp [h3]
        go_simp
    · have h2' : (b == e) = false := by simp [h2]
      go_simp
  · have h1' : (a == d) = false := by simp [h1]
    go_simp
def Mth.headEq (a b : Mth) : Prop := a.args = b.args ∧ a.temps = b.temps ∧ a.stack = b.stack ∧ a.prim = b.prim ∧ a.lits = b.lits ∧ a.code.length = b.code.length
set_option maxRecDepth 100000 in
set_option maxHeartbeats 1000000 in
theorem same_head_no (a b : Mth) {w : World} {la ca la' ca' : Option Addr} {lc cc lc' cc' : Nat} (hA : MAt w a la lc ca) (hB : MAt w b la' lc' ca') (hl : a.lits.length ≤ 17592186044416) (hn : ¬ a.headEq b) : Calls Tryz.prog 42 #[a.v la lc ca cc, b.v la' lc' ca' cc'] w (Still (.bool false) w) := by
  have HSW := Lib.hid (fun W (hF : Fr [] w W) => sameWords (ac := lc) (bc := lc') a.lits b.lits (hA.lits.fr hF (fun _ _ => by simp)) (hB.lits.fr hF (fun _ _ => by simp)) hl)
  unfold Mth.headEq at hn
  unfold Mth.v
  obtain ⟨B, hB'⟩ : ∃ B, B = decide (a.lits = b.lits) := ⟨_, rfl⟩
  rw [← hB'] at HSW
  have HN : Hid (a.args = b.args → a.temps = b.temps → a.stack = b.stack → a.prim = b.prim → B = true → a.code.length = b.code.length → False) := Lib.hid fun h1 h2 h3 h4 h5 h6 => hn ⟨h1, h2, h3, h4, by rw [h5] at hB'; simpa using hB'.symm, h6⟩
  generalize a.lits.length = l1 at *
  generalize b.lits.length = l2 at *
  generalize a.code.length = n1 at *
  generalize b.code.length = n2 at *
  generalize a.args = a1 at *
  generalize a.temps = a2 at *
  generalize a.stack = a3 at *
  generalize a.prim = a4 at *
  generalize b.args = b1 at *
  generalize b.temps = b2 at *
  generalize b.stack = b3 at *
  generalize b.prim = b4 at *
  clear hA hB hl hn hB'
  go_enter Tryz.func42, Tryz.ntmps42
  by_cases h1 : a1 = b1
  · subst h1
    by_cases h2 : a2 = b2
    · subst h2
      by_cases h3 : a3 = b3
      · subst h3
        by_cases h4 : a4 = b4
        · subst h4
          cases B
          · clear HN
            go_wp2_with (go_at_call 20; refine (HSW.out _ (((Fr.refl _ _).alloc _).alloc _)).mono ?_; rintro e w' ⟨rfl, m, rfl⟩)
            go_ret
            exact ⟨rfl, (((Fr.refl _ _).alloc _).alloc _).drewN _⟩
          · have hnn : n1 ≠ n2 := fun h => HN.out rfl rfl rfl rfl rfl h
            have e6 : ((n1 : Int) == (n2 : Int)) = false := by simp; omega
            have e6' : ((n1 : Int) != (n2 : Int)) = true := by simp; omega
            have e7 : (n1 == n2) = false := by simp; omega
            have e7' : (n1 != n2) = true := by simp; omega
            clear HN hnn
            go_wp2_with (go_at_call 20; refine (HSW.out _ (((Fr.refl _ _).alloc _).alloc _)).mono ?_; rintro e w' ⟨rfl, m, rfl⟩)
            go_ret
            exact ⟨rfl, (((Fr.refl _ _).alloc _).alloc _).drewN _⟩
        · have e4 : (a4 == b4) = false := by simp [h4]
          have e4' : (a4 != b4) = true := by simp [h4]
          clear HN h4
          go_wp2_with fail
          go_ret
          exact ⟨rfl, ((Fr.refl _ _).alloc _).alloc _⟩
      · have e3 : (a3 == b3) = false := by simp [h3]
        have e3' : (a3 != b3) = true := by simp [h3]
        clear HN h3
        go_wp2_with fail
        go_ret
        exact ⟨rfl, ((Fr.refl _ _).alloc _).alloc _⟩
    · have e2 : (a2 == b2) = false := by simp [h2]
      have e2' : (a2 != b2) = true := by simp [h2]
      clear HN h2
      go_wp2_with fail
      go_ret
      exact ⟨rfl, ((Fr.refl _ _).alloc _).alloc _⟩
  · have e1 : (a1 == b1) = false := by simp [h1]
    have e1' : (a1 != b1) = true := by simp [h1]
    clear HN h1
    go_wp2_with fail
    go_ret
    exact ⟨rfl, ((Fr.refl _ _).alloc _).alloc _⟩
theorem take_ne {α : Type} {u v : List α} {k : Nat} {x y : α} (hx : u[k]? = some x) (hy : v[k]? = some y) (h : x ≠ y) : u ≠ v := fun e => h (by rw [e, hy] at hx; exact (Option.some.inj hx).symm)
set_option maxRecDepth 100000 in
set_option maxHeartbeats 1000000 in
theorem same_head_yes (a b : Mth) {w : World} {la ca la' ca' : Option Addr} {lc cc lc' cc' : Nat} (hA : MAt w a la lc ca) (hB : MAt w b la' lc' ca') (hl : a.lits.length ≤ 17592186044416) (hcl : a.code.length ≤ 17592186044416) (hn : a.headEq b) : Calls Tryz.prog 42 #[a.v la lc ca cc, b.v la' lc' ca' cc'] w (Still (.bool (decide (a.code = b.code))) w) := by
  have HSW := Lib.hid (fun W (hF : Fr [] w W) => sameWords (ac := lc) (bc := lc') a.lits b.lits (hA.lits.fr hF (fun _ _ => by simp)) (hB.lits.fr hF (fun _ _ => by simp)) hl)
  have HCA := Lib.hid hA.code
  have HCB := Lib.hid hB.code
  obtain ⟨e1, e2, e3, e4, e5, e6⟩ := hn
  obtain ⟨u, hu⟩ : ∃ u, u = a.code := ⟨_, rfl⟩
  obtain ⟨v, hv⟩ : ∃ v, v = b.code := ⟨_, rfl⟩
  obtain ⟨n, hn⟩ : ∃ n, n = a.code.length := ⟨_, rfl⟩
  rw [e5] at HSW
  simp only [decide_true] at HSW
  unfold Mth.v
  rw [e1, e2, e3, e4, e5, ← e6, ← hn, ← hu, ← hv]
  rw [← hn] at e6 hcl
  rw [← hu] at HCA hn
  rw [← hv] at HCB e6
  generalize b.args = b1 at *
  generalize b.temps = b2 at *
  generalize b.stack = b3 at *
  generalize b.prim = b4 at *
  generalize b.lits.length = l1 at *
  have HU := Lib.hid hn
  have HV := Lib.hid e6
  clear hA hB hl e1 e2 e3 e4 e5 hu hv hn e6
  have hnq := neq_instr
  go_enter Tryz.func42, Tryz.ntmps42
  go_wp2_with (go_at_call 20; refine (HSW.out _ (((Fr.refl _ _).alloc _).alloc _)).mono ?_; rintro e w' ⟨rfl, m, rfl⟩)
  obtain ⟨W1, hW1⟩ : ∃ W1, W1 = ((w.alloc (.cells #[.int .i64 b1, .int .i64 b2, .int .i64 b3, .int .i64 b4, .slice la l1 lc, .slice ca n cc] 61)).alloc (.cells #[.int .i64 b1, .int .i64 b2, .int .i64 b3, .int .i64 b4, .slice la' l1 lc', .slice ca' n cc'] 61)).drewN m := ⟨_, rfl⟩
  rw [← hW1]
  have HF1 : Hid (Fr [] w W1) := by rw [hW1]; exact (((Fr.refl _ _).alloc _).alloc _).drewN _
  have c1 : W1.cell? ⟨w.heap.size, 5, none⟩ = some (.slice ca n cc) := by rw [hW1]; exact cell_of_heap (o := 5) (((((Fr.refl [] _).alloc _).drewN m).heap (by simp) (heap_new w _))) rfl
  have c2 : W1.cell? ⟨w.heap.size + 1, 5, none⟩ = some (.slice ca' n cc') := by
    rw [hW1]
    have := heap_new (w.alloc (.cells #[.int .i64 b1, .int .i64 b2, .int .i64 b3, .int .i64 b4, .slice la l1 lc, .slice ca n cc] 61)) (.cells #[.int .i64 b1, .int .i64 b2, .int .i64 b3, .int .i64 b4, .slice la' l1 lc', .slice ca' n cc'] 61)
    have hs : (w.alloc (.cells #[.int .i64 b1, .int .i64 b2, .int .i64 b3, .int .i64 b4, .slice la l1 lc, .slice ca n cc] 61)).heap.size = w.heap.size + 1 := by simp
    rw [hs] at this
    exact cell_of_heap (o := 5) (((Fr.refl [] _).drewN m).heap (by simp) this) rfl
  clear hW1
  go_loopw [5] (fun i wr => ∃ k : Nat, k ≤ n ∧ i = .int .i64 k ∧ ∃ q, wr = W1.drewN q ∧ Hid (u.take k = v.take k)) (fun i _ => n - (intOf i).toNat)
  case atStart => exact ⟨0, Nat.zero_le _, rfl, 0, rfl, rfl⟩
  case round =>
    obtain ⟨k, hk, rfl, q, rfl, ht⟩ := hrel
    by_cases hlt : k < n
    · have hku : k < u.length := by rw [← HU.out]; exact hlt
      have hkv : k < v.length := by rw [← HV.out]; exact hlt
      obtain ⟨x, hx⟩ : ∃ x, u[k]? = some x := ⟨_, List.getElem?_eq_getElem hku⟩
      obtain ⟨y, hy⟩ : ∃ y, v[k]? = some y := ⟨_, List.getElem?_eq_getElem hkv⟩
      obtain ⟨f1, f2, f3⟩ := flatI_at hx
      obtain ⟨g, off, rfl, p1⟩ := HCA.out _ _ f1
      obtain ⟨_, _, e2, p2⟩ := HCA.out _ _ f2
      cases e2
      obtain ⟨_, _, e3, p3⟩ := HCA.out _ _ f3
      cases e3
      obtain ⟨f4, f5, f6⟩ := flatI_at hy
      obtain ⟨g', off', rfl, p4⟩ := HCB.out _ _ f4
      obtain ⟨_, _, e5, p5⟩ := HCB.out _ _ f5
      cases e5
      obtain ⟨_, _, e6, p6⟩ := HCB.out _ _ f6
      cases e6
      have d1 := HF1.out.cell (by simp) p1
      have d2 := HF1.out.cell (by simp) p2
      have d3 := HF1.out.cell (by simp) p3
      have d4 := HF1.out.cell (by simp) p4
      have d5 := HF1.out.cell (by simp) p5
      have d6 := HF1.out.cell (by simp) p6
      rw [← Nat.add_assoc] at d2 d3 d5 d6
      have k0 : (0 : Int) ≤ (k : Int) := by omega
      have k1 : (k : Int) < (n : Int) := by omega
      have HEQ : Hid (x = y → u.take (k + 1) = v.take (k + 1)) := Lib.hid fun h => by rw [List.take_add_one, List.take_add_one, hx, hy, ht.out, h]
      have HNE : Hid (x ≠ y → decide (u = v) = false) := Lib.hid fun h => by simp [take_ne hx hy h]
      have hq1 := neq_instr x y
      obtain ⟨B, hB⟩ : ∃ B, B = decide (x ≠ y) := ⟨_, rfl⟩
      rw [← hB] at hq1
      have HBB := Lib.hid hB
      clear p1 p2 p3 p4 p5 p6 f1 f2 f3 f4 f5 f6 hx hy hku hkv hB hnq
      cases B
      · have HT := Lib.hid (HEQ.out (by have := HBB.out; simpa using this.symm))
        go_wp2_with fail
        go_quiet (fail)
        go_wp2_with fail
        go_roundw
        case rel => exact ⟨k + 1, by omega, by go_num, _, rfl, HT⟩
        case measure => simp [intOf]; omega
      · have HT := Lib.hid (HNE.out (by have := HBB.out; simpa using this.symm))
        go_wp2_with fail
        go_quiet (fail)
        go_wp2_with fail
        go_ret
        exact ⟨ret1 (vb HT.out.symm), HF1.out.trans (((Fr.refl _ _).drewN _).drewN _)⟩
    · have hkn : k = n := by omega
      subst hkn
      have hkd : decide (k < k) = false := by simp
      have HT : Hid (decide (u = v) = true) := by
        have h := ht.out
        rw [List.take_of_length_le (by rw [← HU.out]; omega), List.take_of_length_le (by rw [← HV.out]; omega)] at h
        exact Lib.hid (by simp [h])
      go_wp2_with fail
      go_ret
      exact ⟨ret1 (vb HT.out.symm), HF1.out.trans ((Fr.refl _ _).drewN _)⟩
end Go.Proofs.YtgpcidmlogbjbaaGreatDoor
namespace Go.Proofs.YtgpcidmlogbjbaaGreatDoor
open Go.RowKit

/-- the examples' method -/
def mA : Mth := ⟨0, 0, 1, 0, [], [⟨8, 2053, 0⟩, ⟨17, 0, 0⟩]⟩
theorem mA_ok : mA.ok = true := by decide +kernel
theorem mA_write : (writeF 64 [] 0 mA).2.1 = 0 := by decide +kernel
theorem mA_len : mA.fs.length = 7 := by decide +kernel
theorem inv_fresh (lim : Int) (h1 : 64 ≤ lim) (h2 : lim ≤ 65536) : OInv lim [] 0 :=
  { l1 := h1, l2 := h2, fit := (by simp [endOf, flatW]; omega), h0 := (by omega), h1 := (by omega), each := (fun o h => by cases h), bd := (fun o h => by cases h), uq := ⟨by omega, by omega, fun i x h => by simp at h⟩ }
theorem fresh_abs (n : Int) : Mem.fresh n = absMem n [] 0 0 := rfl
set_option maxRecDepth 100000 in
set_option maxHeartbeats 1600000 in
theorem awake4 (w : World) (hg : Glob w) (hE : Field w) : Calls Tryz.prog 29 #[] w (Still (.bool true) w) := by
  have HG := Lib.hid hg
  have HE := Lib.hid hE
  have hpk : ∀ W, Fr [] w W → Calls Tryz.prog 30 #[.agg #[.int .i64 11, .int .i64 2, .int .i64 1]] W (Still (.tuple #[.int .u64 524567, .int .i64 0]) W) := fun W hF => pack_at ⟨11, 2, 1⟩ W (HE.out.fr hF)
  have hup : ∀ W, Fr [] w W → Calls Tryz.prog 32 #[.int .u64 49] W (Still (.tuple #[.agg #[.int .i64 0, .int .i64 0, .int .i64 0], .int .i64 4]) W) := fun W hF => by
    have := unpack_at 49 (by unfold WB; omega) W (HE.out.fr hF)
    have e : (odd 49 && (insOf (intOfW 49)).ok) = false := by decide +kernel
    rw [e] at this
    exact this
  have HPK := Lib.hid hpk
  have HUP := Lib.hid hup
  clear hpk hup hg hE
  go_enter Tryz.func29, Tryz.ntmps29
  go_wp2_with fail
  refine (HPK.out _ (Fr.refl _ _)).mono ?_
  rintro e w1 ⟨rfl, hF1⟩
  have HF1 := Lib.hid hF1
  clear hF1
  go_wp2_with fail
  refine (HUP.out _ HF1.out).mono ?_
  rintro e w2 ⟨rfl, hF2⟩
  have HF2 := Lib.hid (HF1.out.trans hF2)
  clear hF2
  go_wp2_with fail
  refine (live_new 64 _ (by omega) (by omega)).mono ?_
  rintro e w3 ⟨hb, mb, rfl, hL⟩
  have HL := Lib.hid hL
  have HF3 : Hid (Fr [] w w3) := (HF2.out.alloc _).trans hL.fr
  clear hL
  go_wp2_with fail
  obtain ⟨W4, hW4⟩ : ∃ W4, W4 = (w3.alloc (.cells #[.int .i64 8, .int .i64 2053, .int .i64 0, .int .i64 17, .int .i64 0, .int .i64 0] 53)).alloc (.cells #[.int .i64 0, .int .i64 0, .int .i64 1, .int .i64 0, .slice none 0 0, .slice (some ⟨w3.heap.size, 0, none⟩) 2 2] 61) := ⟨_, rfl⟩
  rw [← hW4]
  have HF34 : Hid (Fr [] w3 W4) := by rw [hW4]; exact ((Fr.refl _ _).alloc _).alloc _
  have HBI : Hid (W4.heap[w3.heap.size]? = some (.cells #[.int .i64 8, .int .i64 2053, .int .i64 0, .int .i64 17, .int .i64 0, .int .i64 0] 53 (0, 0))) := by rw [hW4]; exact ((Fr.refl [] _).alloc _).heap (by simp) (heap_new w3 _)
  have HBM : Hid (W4.heap[w3.heap.size + 1]? = some (.cells #[.int .i64 0, .int .i64 0, .int .i64 1, .int .i64 0, .slice none 0 0, .slice (some ⟨w3.heap.size, 0, none⟩) 2 2] 61 (0, 0))) := by
    rw [hW4]
    have hs : (w3.alloc (.cells #[.int .i64 8, .int .i64 2053, .int .i64 0, .int .i64 17, .int .i64 0, .int .i64 0] 53)).heap.size = w3.heap.size + 1 := by simp
    rw [← hs]
    exact heap_new _ _
  clear hW4
  obtain ⟨wv, sv, hH, hF0, h1, h2⟩ := HL.out
  have HH4 : Hid (HeapAt W4 hb mb (absMem 64 [] 0 0) wv sv) := hH.fr HF34.out (by simp) (fun _ _ => by simp)
  have HLT : Hid (∀ k ∈ foot mb wv sv, k < w3.heap.size) := Lib.hid fun k hk => hH.mem.lt k hk
  have HBS : Hid (Base w W4 (foot mb wv sv)) := ⟨HF3.out.trans HF34.out, fun k hk => Nat.le_trans (HF2.out.alloc _).size (h2 k hk)⟩
  have HRI : Hid (∀ W, W.heap[w3.heap.size]? = some (.cells #[.int .i64 8, .int .i64 2053, .int .i64 0, .int .i64 17, .int .i64 0, .int .i64 0] 53 (0, 0)) → MAt W mA none 0 (some ⟨w3.heap.size, 0, none⟩)) := Lib.hid fun W hW => by
    refine ⟨fun i x hx => by simp [mA] at hx, fun _ => ⟨rfl, rfl⟩, fun j u hj => ⟨w3.heap.size, 0, rfl, ?_⟩⟩
    rw [Nat.zero_add]
    exact cell_of_heap hW (by simpa [mA, flatI] using hj)
  have hwr : Calls Tryz.prog 35 #[.pointer (some ⟨hb, 0, none⟩), .int .u64 0, .agg #[.int .i64 0, .int .i64 0, .int .i64 1, .int .i64 0, .slice none 0 0, .slice (some ⟨w3.heap.size, 0, none⟩) 2 2]] W4 (Turns (.tuple #[.int .u64 2, .int .i64 0]) mb (absMem 64 [(0, 0, mA.fs)] 0 0) (foot mb wv sv) W4) := by
    have := write_at mA none (some ⟨w3.heap.size, 0, none⟩) 0 2 0 (by unfold WB; omega) (fun x hx => by simp [mA] at hx) HG.out HE.out HBS.out (inv_fresh 64 (by omega) (by omega)) HH4.out (HRI.out W4 HBI.out)
    rw [(writeF_ok mA_write).1] at this
    exact this
  clear hH hF0 h1 h2 HL
  have k0 := cell_of_heap (o := 0) HBM.out rfl; have k1 := cell_of_heap (o := 1) HBM.out rfl; have k2 := cell_of_heap (o := 2) HBM.out rfl; have k3 := cell_of_heap (o := 3) HBM.out rfl; have k4 := cell_of_heap (o := 4) HBM.out rfl; have k5 := cell_of_heap (o := 5) HBM.out rfl
  go_wp2_with fail
  refine hwr.mono ?_
  clear hwr k0 k1 k2 k3 k4 k5
  rintro e w5 ⟨rfl, wv5, sv5, hM5, hF5, hk5⟩
  have HF5 : Hid (Fr [] w w5) := HBS.out.fr.join hF5 HBS.out.new
  have HH5 : Hid (HeapAt w5 hb mb (absMem 64 [(0, 0, mA.fs)] 0 0) wv5 sv5) := ⟨hF5.heap HH4.out.apart HH4.out.heap, hM5⟩
  have HBI5 := Lib.hid (hF5.heap (fun h => absurd (HLT.out _ h) (Nat.lt_irrefl _)) HBI.out)
  have HBM5 := Lib.hid (hF5.heap (fun h => by have := HLT.out _ h; omega) HBM.out)
  have hI5 : OInv 64 [(0, 0, mA.fs)] 0 := by
    have := writeF_inv (inv_fresh 64 (by omega) (by omega)) 0 mA (by unfold WB; omega) (fun x hx => by simp [mA] at hx)
    rw [(writeF_ok mA_write).1] at this
    exact this
  have HSZ : Hid (Calls Tryz.prog 43 #[.pointer (some ⟨hb, 0, none⟩), .int .u64 2] w5 (Still (.tuple #[.int .i64 7, .int .i64 0]) w5)) := Lib.hid (by
    have := size_yes (memory_at HH5.out) (endOf []) mA.fs.length (abs_mark (pre := []) (post := [])) (endOf_pos _) (by decide) (abs_size (pre := []) (post := [])) (by rw [mA_len]; omega)
    rw [mA_len] at this
    exact this)
  have HRD : Hid (∀ W, Fr [] w5 W → Calls Tryz.prog 40 #[.pointer (some ⟨hb, 0, none⟩), .int .u64 2] W (ReadTo true mA W)) := Lib.hid fun W hF => by
    have := read_at (pre := []) (post := []) (o := (0, 0, mA.fs)) ((HE.out.fr HF5.out).fr hF) hI5 (HH5.out.fr hF (by simp) (fun _ _ => by simp))
    rw [(dec_fs mA mA_ok).1, (dec_fs mA mA_ok).2] at this
    exact this
  clear hM5 hF5 hk5 hI5
  go_wp2_with fail
  refine HSZ.out.mono ?_
  rintro e w6 ⟨rfl, hF6⟩
  have HF6 := Lib.hid hF6
  clear hF6
  go_wp2_with fail
  refine (HRD.out _ HF6.out).mono ?_
  rintro e w7 ⟨hF7, ⟨-, la, lc, ca, cc, rfl, hM7, -, -⟩ | ⟨hx, -⟩⟩
  rotate_left
  · cases hx
  have HF57 : Hid (Fr [] w5 w7) := HF6.out.trans hF7
  have HM7 := Lib.hid hM7
  have HBI7 := Lib.hid (HF57.out.heap (by simp) HBI5.out)
  have HBM7 := Lib.hid (HF57.out.heap (by simp) HBM5.out)
  have hlt7 : w3.heap.size + 1 < w7.heap.size := lt_of_heap HBM7.out
  have hsm : ∀ W, Fr [] w7 W → Calls Tryz.prog 42 #[.agg #[.int .i64 0, .int .i64 0, .int .i64 1, .int .i64 0, .slice la 0 lc, .slice ca 2 cc], .agg #[.int .i64 0, .int .i64 0, .int .i64 1, .int .i64 0, .slice none 0 0, .slice (some ⟨w3.heap.size, 0, none⟩) 2 2]] W (Still (.bool true) W) := fun W hF => by
    have := same_head_yes (cc := cc) (cc' := 2) mA mA (HM7.out.fr0 hF) (HRI.out W (hF.heap (by simp) HBI7.out)) (by decide) (by decide) ⟨rfl, rfl, rfl, rfl, rfl, rfl⟩
    simp only [decide_true] at this
    exact this
  have HSM := Lib.hid hsm
  have k0 := cell_of_heap (o := 0) HBM7.out rfl; have k1 := cell_of_heap (o := 1) HBM7.out rfl; have k2 := cell_of_heap (o := 2) HBM7.out rfl; have k3 := cell_of_heap (o := 3) HBM7.out rfl; have k4 := cell_of_heap (o := 4) HBM7.out rfl; have k5 := cell_of_heap (o := 5) HBM7.out rfl
  have hmv : mA.v la lc ca cc = .agg #[.int .i64 0, .int .i64 0, .int .i64 1, .int .i64 0, .slice la 0 lc, .slice ca 2 cc] := rfl
  rw [hmv]
  clear hF7 hM7 hsm hmv
  go_wp2_with fail
  refine (HSM.out _ ((Fr.refl _ _).alloc _)).mono ?_
  rintro e w8 ⟨rfl, hF8⟩
  have HF8 : Hid (Fr [] w w8) := (HF5.out.trans HF57.out).trans (((Fr.refl _ _).alloc _).trans hF8)
  clear hF8
  go_wp2_with fail
  go_ret
  exact ⟨rfl, HF8.out⟩
end Go.Proofs.YtgpcidmlogbjbaaGreatDoor
