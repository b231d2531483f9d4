/- The document's answers: numbers, Pack, Unpack. The document's Unpack. The document's Same: are two methods the same? The document's examples of code: awake. -/
import Derived.Test.YtjghgambieflaaaGreatDoorMCodeB
import Derived.Test.YtjghgambieflaaaGreatDoorMRefs
import Derived.Test.YtjghgambieflaaaGreatDoorMCodeC
import Derived.Laws.StructEq
namespace Go.Proofs.YtjghgambieflaaaGreatDoor
open Go.RowKit

theorem fit_not (n : Int) : fit n = false ↔ ¬ (-4611686018427387904 ≤ n ∧ n ≤ 4611686018427387903) := by
  rw [← fit_iff]
  simp
theorem rfits (n : Int) (w : World) : Calls Tryz.prog 95 #[.int .i64 n] w (Gives (.bool (fit n)) w) := by
  go_enter Tryz.func95, Tryz.ntmps95
  go_wp2
  all_goals go_ret
  · rename_i h
    exact ⟨ret1 (vb (by unfold fit; rw [decide_eq_decide]; omega)), rfl⟩
  · rename_i h
    exact ⟨ret1 (vb (by rw [eq_comm, fit_not]; omega)), rfl⟩
theorem rFromInt (n : Int) (w : World) (h : fit n = true) : Calls Tryz.prog 60 #[.int .i64 n] w (Gives (.tuple #[.int .u64 (wordOf n), .int .i64 0]) w) := by
  go_enter Tryz.func60, Tryz.ntmps60
  go_wp2_with (go_at_call 95; refine (rfits _ _).mono ?_; rintro e w' ⟨rfl, rfl⟩)
  go_ret2
  exact ⟨tup2 (vi (by unfold wordOf; simp only [wrap_u64_eq]; omega)) rfl, rfl⟩
theorem and1_i64 (a : Int) : bits .and .i64 a 1 = a % 2 := by
  rw [and_i64]
  have e : uns 1 = 2 ^ 1 - 1 := by decide
  rw [e, Nat.and_two_pow_sub_one_eq_mod]
  unfold uns wrap64
  omega
theorem ref_int (n : Int) (h : n % 2 = 1) : wrap64 ((wrap64 (wrap64 n - bits .and .i64 (wrap64 n) 1)).tdiv 2) = wrap64 n / 2 := by
  rw [and1_i64]
  have hb : -9223372036854775808 ≤ wrap64 n ∧ wrap64 n ≤ 9223372036854775807 := by unfold wrap64; omega
  have hp : wrap64 n % 2 = 1 := by unfold wrap64; omega
  generalize wrap64 n = x at *
  rw [IntWalk.wrap64_in (x - x % 2) (by omega)]
  have e : x - x % 2 = 2 * (x / 2) := by omega
  rw [e, Int.mul_tdiv_cancel_left _ (by decide)]
  exact IntWalk.wrap64_in _ (by omega)
theorem rInt (x : Int) (w : World) (hx : WB x) : Calls Tryz.prog 42 #[.int .u64 x] w (Gives (.tuple #[.int .i64 (if odd x = true then intOfW x else 0), .int .i64 (if odd x = true then 0 else 1)]) w) := by
  have hi := rIsInt x w hx.1 hx.2
  cases h : odd x
  · rw [h] at hi
    simp only [Bool.false_eq_true, if_false]
    clear h
    go_enter Tryz.func42, Tryz.ntmps42
    go_wp2_with (go_at_call 68; refine hi.mono ?_; rintro e w' ⟨rfl, rfl⟩)
    go_ret2
    exact ⟨rfl, rfl⟩
  · have H := Lib.hid (ref_int x ((odd_iff x).1 h))
    rw [h] at hi
    simp only [if_true]
    clear h
    go_enter Tryz.func42, Tryz.ntmps42
    go_wp2_with (go_at_call 68; refine hi.mono ?_; rintro e w' ⟨rfl, rfl⟩)
    go_ret2
    exact ⟨tup2 (vi H.out) rfl, rfl⟩
theorem rwithin (x lo hi : Int) (w : World) : Calls Tryz.prog 43 #[.int .i64 x, .int .i64 lo, .int .i64 hi] w (Gives (.bool (decide (lo ≤ x ∧ x ≤ hi))) w) := by
  go_enter Tryz.func43, Tryz.ntmps43
  go_wp2
  all_goals go_ret
  · rename_i h
    exact ⟨ret1 (vb (by rw [decide_eq_decide]; omega)), rfl⟩
  · rename_i h
    exact ⟨ret1 (vb (by rw [eq_comm]; simp; omega)), rfl⟩
theorem ins_case (i : Ins) : i.ok = (decide (1 ≤ i.op ∧ i.op ≤ 23) && decide (0 ≤ i.a ∧ i.a ≤ 4095) && decide (0 ≤ i.b ∧ i.b ≤ 4095)) := by
  rw [Bool.eq_iff_iff]
  simp [Ins.ok]
  omega
set_option maxRecDepth 100000 in
set_option maxHeartbeats 1000000 in
theorem rpack_at (i : Ins) (w : World) : Calls Tryz.prog 59 #[i.v] w (Still (.tuple #[.int .u64 (if i.ok = true then wordOf i.num else 0), .int .i64 (if i.ok = true then 0 else 1)]) w) := by
  have hw := fun x lo hi W => rwithin x lo hi W
  have HFI := Lib.hid (fun W (h : i.ok = true) => rFromInt i.num W (i.fit h))
  have HCA := Lib.hid (ins_case i)
  obtain ⟨ok, hok⟩ : ∃ ok, ok = i.ok := ⟨_, rfl⟩
  have HB : Hid (ok = true → 1 ≤ i.op ∧ i.op ≤ 23 ∧ 0 ≤ i.a ∧ i.a ≤ 4095 ∧ 0 ≤ i.b ∧ i.b ≤ 4095) := Lib.hid fun h => i.ok_iff.1 (hok ▸ h)
  rw [← hok] at HFI HCA ⊢
  clear hok
  unfold Ins.num at HFI ⊢
  obtain ⟨op, a, b⟩ := i
  unfold Ins.v
  simp only at HFI HCA HB ⊢
  cases ok
  · simp only [Bool.false_eq_true, if_false]
    clear HFI HB
    by_cases h1 : 1 ≤ op ∧ op ≤ 23
    · have e1 : decide (1 ≤ op ∧ op ≤ 23) = true := decide_eq_true h1
      by_cases h2 : 0 ≤ a ∧ a ≤ 4095
      · have e2 : decide (0 ≤ a ∧ a ≤ 4095) = true := decide_eq_true h2
        have e3 : decide (0 ≤ b ∧ b ≤ 4095) = false := by have := HCA.out; rw [e1, e2] at this; simpa using this.symm
        have hw1 := fun W => hw op 1 23 W
        have hw2 := fun W => hw a 0 4095 W
        have hw3 := fun W => hw b 0 4095 W
        rw [e1] at hw1
        rw [e2] at hw2
        rw [e3] at hw3
        clear hw HCA e1 e2 e3 h1 h2
        go_enter Tryz.func59, Tryz.ntmps59
        go_wp2_with (go_at_call 43; first | ((with_reducible refine (hw1 _).mono ?_); rintro e w' ⟨rfl, rfl⟩) | ((with_reducible refine (hw2 _).mono ?_); rintro e w' ⟨rfl, rfl⟩) | ((with_reducible refine (hw3 _).mono ?_); rintro e w' ⟨rfl, rfl⟩))
        go_ret2
        exact ⟨rfl, (Fr.refl _ _).alloc _⟩
      · have e2 : decide (0 ≤ a ∧ a ≤ 4095) = false := decide_eq_false h2
        have hw1 := fun W => hw op 1 23 W
        have hw2 := fun W => hw a 0 4095 W
        rw [e1] at hw1
        rw [e2] at hw2
        clear hw HCA e1 e2 h1 h2
        go_enter Tryz.func59, Tryz.ntmps59
        go_wp2_with (go_at_call 43; first | ((with_reducible refine (hw1 _).mono ?_); rintro e w' ⟨rfl, rfl⟩) | ((with_reducible refine (hw2 _).mono ?_); rintro e w' ⟨rfl, rfl⟩))
        go_ret2
        exact ⟨rfl, (Fr.refl _ _).alloc _⟩
    · have e1 : decide (1 ≤ op ∧ op ≤ 23) = false := decide_eq_false h1
      have hw1 := fun W => hw op 1 23 W
      rw [e1] at hw1
      clear hw HCA e1 h1
      go_enter Tryz.func59, Tryz.ntmps59
      go_wp2_with (go_at_call 43; ((with_reducible refine (hw1 _).mono ?_); rintro e w' ⟨rfl, rfl⟩))
      go_ret2
      exact ⟨rfl, (Fr.refl _ _).alloc _⟩
  · simp only [if_true]
    obtain ⟨h1, h2, h3, h4, h5, h6⟩ := HB.out rfl
    have hw1 := fun W => hw op 1 23 W
    have hw2 := fun W => hw a 0 4095 W
    have hw3 := fun W => hw b 0 4095 W
    rw [decide_eq_true ⟨h1, h2⟩] at hw1
    rw [decide_eq_true ⟨h3, h4⟩] at hw2
    rw [decide_eq_true ⟨h5, h6⟩] at hw3
    have hfi := fun W => HFI.out W rfl
    clear hw HCA HB HFI
    go_enter Tryz.func59, Tryz.ntmps59
    go_wp2_with (first | (go_at_call 43; first | ((with_reducible refine (hw1 _).mono ?_); rintro e w' ⟨rfl, rfl⟩) | ((with_reducible refine (hw2 _).mono ?_); rintro e w' ⟨rfl, rfl⟩) | ((with_reducible refine (hw3 _).mono ?_); rintro e w' ⟨rfl, rfl⟩)) | (go_at_call 60; refine (hfi _).mono ?_; rintro e w' ⟨rfl, rfl⟩))
    go_ret2
    exact ⟨rfl, (Fr.refl _ _).alloc _⟩
end Go.Proofs.YtjghgambieflaaaGreatDoor
namespace Go.Proofs.YtjghgambieflaaaGreatDoor
open Go.RowKit

theorem neg_ins {n : Int} (h : n < 0) : (insOf n).ok = false := by
  cases h' : (insOf n).ok
  · rfl
  · rw [Ins.ok_iff] at h'
    simp only [insOf] at h'
    omega
set_option maxRecDepth 100000 in
set_option maxHeartbeats 1000000 in
theorem runpack_at (x : Int) (hx : WB x) (w : World) : Calls Tryz.prog 44 #[.int .u64 x] w (Still (.tuple #[if insOk x = true then (insOf (intOfW x)).v else .agg #[.int .i64 0, .int .i64 0, .int .i64 0], .int .i64 (if insOk x = true then 0 else 4)]) w) := by
  have hi := fun W => rInt x W hx
  obtain ⟨n, hn⟩ : ∃ n, n = intOfW x := ⟨_, rfl⟩
  have HFT := Lib.hid ((fit_iff _).1 (intOfW_fit x))
  have HWO : Hid (odd x = true → wordOf (insOf n).num = x) := Lib.hid fun h => by rw [num_insOf, hn, wordOf_int x hx h]
  have HPK := Lib.hid (fun W => rpack_at (insOf n) W)
  have HOK : Hid (insOk x = (odd x && (insOf n).ok)) := Lib.hid (by rw [hn]; rfl)
  have HNG : Hid (n < 0 → (insOf n).ok = false) := Lib.hid fun h => neg_ins h
  obtain ⟨x1, x2⟩ := hx
  rw [← hn] at hi HFT ⊢
  rw [HOK.out]
  clear hn HOK
  cases h : odd x
  · rw [h] at hi
    simp only [Bool.false_eq_true, if_false, Bool.false_and] at hi ⊢
    clear h HWO HPK HNG HFT
    go_enter Tryz.func44, Tryz.ntmps44
    go_wp2_with (go_at_call 42; refine (hi _).mono ?_; rintro e w' ⟨rfl, rfl⟩)
    (try simp only [Exit.inBlock, Exit.then])
    refine bodyPost_ret (v := .tuple #[.agg #[.int .i64 0, .int .i64 0, .int .i64 0], .int .i64 4]) ?_ rfl ⟨rfl, ?_⟩
    · rw [results_cell_tmp rfl]
      go_simp
    · (repeat (first | (with_reducible refine Fr.setCell ?_ (fun h => absurd h (Nat.lt_irrefl _)) _) | (with_reducible refine Fr.alloc ?_ _) | (with_reducible refine Fr.drew ?_) | (with_reducible exact Fr.refl _ _)))
  · have HWX := Lib.hid (HWO.out h)
    rw [h] at hi
    simp only [if_true, Bool.true_and] at hi ⊢
    obtain ⟨b1, b2⟩ := HFT.out
    clear h HWO HFT
    by_cases hneg : n < 0
    · have HOK := HNG.out hneg
      rw [HOK]
      simp only [Bool.false_eq_true, if_false]
      clear HPK HNG HWX HOK
      go_enter Tryz.func44, Tryz.ntmps44
      go_wp2_with (go_at_call 42; refine (hi _).mono ?_; rintro e w' ⟨rfl, rfl⟩)
      (try simp only [Exit.inBlock, Exit.then])
      refine bodyPost_ret (v := .tuple #[.agg #[.int .i64 0, .int .i64 0, .int .i64 0], .int .i64 4]) ?_ rfl ⟨rfl, ?_⟩
      · rw [results_cell_tmp rfl]
        go_simp
      · (repeat (first | (with_reducible refine Fr.setCell ?_ (fun h => absurd h (Nat.lt_irrefl _)) _) | (with_reducible refine Fr.alloc ?_ _) | (with_reducible refine Fr.drew ?_) | (with_reducible exact Fr.refl _ _)))
    · have hn0 : 0 ≤ n := by omega
      clear HNG hneg
      cases hok : (insOf n).ok
      · rw [hok] at HPK
        simp only [Bool.false_eq_true, if_false] at HPK ⊢
        unfold insOf Ins.v at HPK
        simp only at HPK
        clear hok HWX
        go_enter Tryz.func44, Tryz.ntmps44
        go_wp2_with (first | (go_at_call 42; refine (hi _).mono ?_; rintro e w' ⟨rfl, rfl⟩) | fail)
        refine (HPK.out _).mono ?_
        rintro e w2 ⟨rfl, hF2⟩
        have HB := Lib.hid (hF2.heap (by simp) (((Fr.refl [] _).alloc _).heap (by simp) (heap_new w _)))
        have HF2 : Hid (Fr [] w w2) := (((Fr.refl _ _).alloc _).alloc _).trans hF2
        have r0 := cell_of_heap (o := 0) HB.out rfl; have r1 := cell_of_heap (o := 1) HB.out rfl; have r2 := cell_of_heap (o := 2) HB.out rfl
        have f0 := frozen_of_heap (o := 0) HB.out; have f1 := frozen_of_heap (o := 1) HB.out; have f2 := frozen_of_heap (o := 2) HB.out
        clear hF2
        go_wp2_with fail
        (try simp only [Exit.inBlock, Exit.then])
        refine bodyPost_ret (v := .tuple #[.agg #[.int .i64 0, .int .i64 0, .int .i64 0], .int .i64 4]) ?_ rfl ⟨rfl, ?_⟩
        · rw [results_cell_tmp rfl]
          go_simp
        · (repeat (first | (with_reducible refine Fr.setCell ?_ (fun h => absurd h (Nat.lt_irrefl _)) _) | (with_reducible refine Fr.alloc ?_ _) | (with_reducible refine Fr.drew ?_) | (with_reducible exact HF2.out)))
      · rw [hok] at HPK
        simp only [if_true] at HPK ⊢
        have hpk := HPK.out
        rw [HWX.out] at hpk
        unfold insOf Ins.v at hpk ⊢
        simp only at hpk ⊢
        clear hok HWX HPK
        go_enter Tryz.func44, Tryz.ntmps44
        go_wp2_with (first | (go_at_call 42; refine (hi _).mono ?_; rintro e w' ⟨rfl, rfl⟩) | fail)
        refine (hpk _).mono ?_
        rintro e w2 ⟨rfl, hF2⟩
        have HB := Lib.hid (hF2.heap (by simp) (((Fr.refl [] _).alloc _).heap (by simp) (heap_new w _)))
        have HI := Lib.hid (hF2.heap (by simp) (heap_new _ _))
        have HF2 : Hid (Fr [] w w2) := (((Fr.refl _ _).alloc _).alloc _).trans hF2
        have hsz : (w.alloc (.cells #[.int .i64 0, .int .i64 0, .int .i64 0] 42)).heap.size = w.heap.size + 1 := by simp
        rw [hsz] at HI
        have r0 := cell_of_heap (o := 0) HB.out rfl; have r1 := cell_of_heap (o := 1) HB.out rfl; have r2 := cell_of_heap (o := 2) HB.out rfl
        have f0 := frozen_of_heap (o := 0) HB.out; have f1 := frozen_of_heap (o := 1) HB.out; have f2 := frozen_of_heap (o := 2) HB.out
        have i0 := cell_of_heap (o := 0) HI.out rfl; have i1 := cell_of_heap (o := 1) HI.out rfl; have i2 := cell_of_heap (o := 2) HI.out rfl
        clear hF2 hsz
        go_wp2_with fail
        (try simp only [Exit.inBlock, Exit.then])
        refine bodyPost_ret (v := .tuple #[.agg #[.int .i64 (n % 64), .int .i64 (n / 64 % 4096), .int .i64 (n / 262144)], .int .i64 0]) ?_ rfl ⟨rfl, ?_⟩
        · rw [results_cell_tmp rfl]
          go_simp
        · (repeat (first | (with_reducible refine Fr.setCell ?_ (fun h => absurd h (Nat.lt_irrefl _)) _) | (with_reducible refine Fr.alloc ?_ _) | (with_reducible refine Fr.drew ?_) | (with_reducible exact HF2.out)))
end Go.Proofs.YtjghgambieflaaaGreatDoor
namespace Go.Proofs.YtjghgambieflaaaGreatDoor
open Go.RowKit

instance : DecidableEq Ins := fun a b => decidable_of_iff (a.op = b.op ∧ a.a = b.a ∧ a.b = b.b) ⟨fun ⟨h1, h2, h3⟩ => by cases a; cases b; simp_all, fun h => by subst h; exact ⟨rfl, rfl, rfl⟩⟩
theorem neq_instr (i j : Ins) (W : World) : (binOp BinOp.neq 42 (.agg #[.int .i64 i.op, .int .i64 i.a, .int .i64 i.b]) (.agg #[.int .i64 j.op, .int .i64 j.a, .int .i64 j.b])).run Tryz.prog W = .ok (.bool (decide (i ≠ j))) W := by
  obtain ⟨a, b, c⟩ := i
  obtain ⟨d, e, f⟩ := j
  by_cases h1 : a = d
  · subst h1
    by_cases h2 : b = e
    · subst h2
      by_cases h3 : c = f
      · subst h3
        go_simp
      · have h3' : (c == f) = false := by simp [h3]
        go_simp
    · have h2' : (b == e) = false := by simp [h2]
      go_simp
  · have h1' : (a == d) = false := by simp [h1]
    go_simp
def Mth.headEq (a b : Mth) : Prop := a.args = b.args ∧ a.temps = b.temps ∧ a.stack = b.stack ∧ a.prim = b.prim ∧ a.lits = b.lits ∧ a.code.length = b.code.length
theorem take_ne {α : Type} {u v : List α} {k : Nat} {x y : α} (hx : u[k]? = some x) (hy : v[k]? = some y) (h : x ≠ y) : u ≠ v := fun e => h (by rw [e, hy] at hx; exact (Option.some.inj hx).symm)
end Go.Proofs.YtjghgambieflaaaGreatDoor
namespace Go.Proofs.YtjghgambieflaaaGreatDoor
open Go.RowKit

/-- the examples' method -/
def mA : Mth := ⟨0, 0, 1, 0, [], [⟨8, 2053, 0⟩, ⟨17, 0, 0⟩]⟩
theorem mA_ok : mA.ok = true := by decide +kernel
theorem mA_write : (writeF 64 [] 0 mA).2.1 = 0 := by decide +kernel
theorem mA_len : mA.fs.length = 7 := by decide +kernel
theorem inv_fresh (lim : Int) (h1 : 64 ≤ lim) (h2 : lim ≤ 65536) : OInv lim [] 0 :=
  { l1 := h1, l2 := h2, fit := (by simp [endOf, flatW]; omega), h0 := (by omega), h1 := (by omega), each := (fun o h => by cases h), bd := (fun o h => by cases h), uq := ⟨by omega, by omega, fun i x h => by simp at h⟩ }
theorem fresh_abs (n : Int) : Mem.fresh n = absMem n [] 0 0 := rfl
end Go.Proofs.YtjghgambieflaaaGreatDoor
