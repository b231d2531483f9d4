/- ir: parts of an instruction. -/
import Derived.Test.YtcdpgchkdjjfgaaIrSrc
import Derived.Test.YtcdpgchkdjjfgaaIrOps
import Derived.Test.YtcdpgchkdjjfgaaIrWord
namespace Go.Proofs.Ytcdpgchkdjjfgaa
open Go.RowKit

theorem ir_greatest (R P S M op : Int) (w : World) (hS : 0 ≤ S ∧ S ≤ 128) (hM : 0 ≤ M ∧ M ≤ 128) : Calls Try.prog 47 #[rgV R P S M, .int .i64 op] w (Still (.int .i64 (grt S M op)) w) := by
  obtain ⟨s1, s2⟩ := hS
  obtain ⟨m1, m2⟩ := hM
  unfold rgV
  have hk : op = 2 ∨ op = 3 ∨ op = 4 ∨ op = 5 ∨ op = 6 ∨ op = 7 ∨ (op ≠ 2 ∧ op ≠ 3 ∧ op ≠ 4 ∧ op ≠ 5 ∧ op ≠ 6 ∧ op ≠ 7) := by omega
  rcases hk with rfl | rfl | rfl | rfl | rfl | rfl | ⟨h2, h3, h4, h5, h6, h7⟩
  case inr.inr.inr.inr.inr.inr =>
    have e : grt S M op = 0 := by unfold grt; rw [if_neg h2, if_neg (by omega), if_neg (by omega), if_neg h7]
    rw [e]
    clear e
    go_enter Try.func47, Try.ntmps47
    go_wp2
    go_ret
    exact ⟨rfl, by (repeat (first | (with_reducible refine Fr.setCell ?_ (fun h => absurd h (Nat.lt_irrefl _)) _) | (with_reducible refine Fr.setCell ?_ (fun h => absurd h (by first | omega | (simp; done) | (simp; omega) | (dsimp only; omega))) _) | (with_reducible refine Fr.alloc ?_ _) | (with_reducible refine Fr.drew ?_) | (with_reducible refine Fr.drewN ?_ _) | (with_reducible exact Fr.refl [] w)))⟩
  all_goals
    go_enter Try.func47, Try.ntmps47
    go_wp2
    go_ret
    exact ⟨rfl, by (repeat (first | (with_reducible refine Fr.setCell ?_ (fun h => absurd h (Nat.lt_irrefl _)) _) | (with_reducible refine Fr.setCell ?_ (fun h => absurd h (by first | omega | (simp; done) | (simp; omega) | (dsimp only; omega))) _) | (with_reducible refine Fr.alloc ?_ _) | (with_reducible refine Fr.drew ?_) | (with_reducible refine Fr.drewN ?_ _) | (with_reducible exact Fr.refl [] w)))⟩
set_option maxHeartbeats 1000000 in
theorem ir_isWord (i : Ii) (w : World) (hW : WU i.w) : Calls Try.prog 48 #[i.v] w (Still (.bool (wrdOk i)) w) := by
  obtain ⟨op, n, ⟨dk, dn, dw⟩, la, l, lc, x⟩ := i
  unfold Ii.v wrdOk
  simp only at hW ⊢
  have hk : op = 6 ∨ op = 7 ∨ (op ≠ 6 ∧ op ≠ 7) := by omega
  rcases hk with rfl | rfl | ⟨h6, h7⟩
  · simp only [if_true]
    cases ho : iodd x
    · have hi := fun W => iInt_no x W hW ho
      have e : decide (x = 1 ∨ x = 3) = false := by simp [iodd] at ho; simp; omega
      rw [e]
      clear e ho
      go_enter Try.func48, Try.ntmps48
      go_wp2_with (go_at_call 50; refine (hi _).mono ?_; rintro e w1 ⟨rfl, rfl⟩)
      go_ret
      exact ⟨rfl, by (repeat (first | (with_reducible refine Fr.setCell ?_ (fun h => absurd h (Nat.lt_irrefl _)) _) | (with_reducible refine Fr.setCell ?_ (fun h => absurd h (by first | omega | (simp; done) | (simp; omega) | (dsimp only; omega))) _) | (with_reducible refine Fr.alloc ?_ _) | (with_reducible refine Fr.drew ?_) | (with_reducible refine Fr.drewN ?_ _) | (with_reducible exact Fr.refl [] w)))⟩
    · have hi := fun W => iInt_yes x W hW ho
      have e : decide (x = 1 ∨ x = 3) = wtn (inum x) 0 1 := by unfold wtn; rw [decide_eq_decide]; exact (inum01 hW ho).symm
      rw [e]
      clear e ho
      have hj := fun W => ir_within (inum x) 0 1 W
      go_enter Try.func48, Try.ntmps48
      go_wp2_with (first | (go_at_call 50; refine (hi _).mono ?_; rintro e w1 ⟨rfl, rfl⟩) | (go_at_call 39; refine (hj _).mono ?_; rintro e w1 ⟨rfl, rfl⟩))
      go_ret
      exact ⟨rfl, by (repeat (first | (with_reducible refine Fr.setCell ?_ (fun h => absurd h (Nat.lt_irrefl _)) _) | (with_reducible refine Fr.setCell ?_ (fun h => absurd h (by first | omega | (simp; done) | (simp; omega) | (dsimp only; omega))) _) | (with_reducible refine Fr.alloc ?_ _) | (with_reducible refine Fr.drew ?_) | (with_reducible refine Fr.drewN ?_ _) | (with_reducible exact Fr.refl [] w)))⟩
  · rw [if_neg (by decide), if_pos rfl]
    go_enter Try.func48, Try.ntmps48
    go_wp2
    all_goals (go_ret; exact ⟨ret1 (vb (by first | rfl | (rw [Bool.eq_iff_iff]; simp; done) | (simp; omega))), by (repeat (first | (with_reducible refine Fr.setCell ?_ (fun h => absurd h (Nat.lt_irrefl _)) _) | (with_reducible refine Fr.setCell ?_ (fun h => absurd h (by first | omega | (simp; done) | (simp; omega) | (dsimp only; omega))) _) | (with_reducible refine Fr.alloc ?_ _) | (with_reducible refine Fr.drew ?_) | (with_reducible refine Fr.drewN ?_ _) | (with_reducible exact Fr.refl [] w)))⟩)
  · rw [if_neg h6, if_neg h7]
    go_enter Try.func48, Try.ntmps48
    go_wp2
    all_goals (go_ret; exact ⟨ret1 (vb (by first | rfl | (rw [Bool.eq_iff_iff]; simp; done) | (simp; omega))), by (repeat (first | (with_reducible refine Fr.setCell ?_ (fun h => absurd h (Nat.lt_irrefl _)) _) | (with_reducible refine Fr.setCell ?_ (fun h => absurd h (by first | omega | (simp; done) | (simp; omega) | (dsimp only; omega))) _) | (with_reducible refine Fr.alloc ?_ _) | (with_reducible refine Fr.drew ?_) | (with_reducible refine Fr.drewN ?_ _) | (with_reducible exact Fr.refl [] w)))⟩)
set_option maxHeartbeats 1000000 in
theorem ir_isResult (R P S M : Int) (i : Ii) (w : World) : Calls Try.prog 46 #[rgV R P S M, i.v] w (Still (.bool (resOk R P i)) w) := by
  have hl := fun W => ir_Leaves i.op W
  have hp := fun W => ir_Place i.d W
  have hs := fun W => ir_isSource R P S M i.d W
  obtain ⟨op, n, ⟨dk, dn, dw⟩, la, l, lc, x⟩ := i
  unfold rgV Ii.v resOk
  unfold rgV at hs
  simp only [Sr.v] at hl hp hs ⊢
  cases ho : lvs op
  · rw [if_neg (by simp)]
    simp only [ho] at hl
    have e : decide ((⟨dk, dn, dw⟩ : Sr) = zeroS) = (dk == 0 && dn == 0 && dw == 0) := by
      rw [Bool.eq_iff_iff]; simp [zeroS, and_assoc]
    rw [e]
    clear e ho
    have h1 : dk = 0 ∨ (dk == 0) = false := by by_cases h : dk = 0 <;> simp [h]
    have h2 : dn = 0 ∨ (dn == 0) = false := by by_cases h : dn = 0 <;> simp [h]
    have h3 : dw = 0 ∨ (dw == 0) = false := by by_cases h : dw = 0 <;> simp [h]
    rcases h1 with rfl | h1 <;> rcases h2 with rfl | h2 <;> rcases h3 with rfl | h3
    all_goals
      go_enter Try.func46, Try.ntmps46
      go_wp2_with (go_at_call 14; refine (hl _).mono ?_; rintro e w1 ⟨rfl, hF⟩; have hb2 := hF.heap (by simp) (hp2 _ _ _); have r0 := cell_of_heap (o := 0) hb2 rfl; have r1 := cell_of_heap (o := 1) hb2 rfl; have r2 := cell_of_heap (o := 2) hb2 rfl; have r3 := cell_of_heap (o := 3) hb2 rfl; have r4 := cell_of_heap (o := 4) hb2 rfl; have r5 := cell_of_heap (o := 5) hb2 rfl; have r6 := cell_of_heap (o := 6) hb2 rfl; have HF := Lib.hid hF; clear hF hb2)
      go_ret
      exact ⟨ret1 (vb (by simp [*])), by (repeat (first | (with_reducible refine Fr.setCell ?_ (fun h => absurd h (Nat.lt_irrefl _)) _) | (with_reducible refine Fr.setCell ?_ (fun h => absurd h (by first | omega | (simp; done) | (simp; omega) | (dsimp only; omega))) _) | (with_reducible refine Fr.alloc ?_ _) | (with_reducible refine Fr.drew ?_) | (with_reducible refine Fr.drewN ?_ _) | (with_reducible exact (((Fr.refl [] w).alloc _).alloc _).trans HF.out)))⟩
  · rw [if_pos rfl]
    simp only [ho] at hl
    clear ho
    cases hb : plc ⟨dk, dn, dw⟩
    all_goals
      simp only [hb, Bool.true_and, Bool.false_and] at hp ⊢
      clear hb
      go_enter Try.func46, Try.ntmps46
      go_wp2_with (first
        | (go_at_call 14; refine (hl _).mono ?_; rintro e w1 ⟨rfl, hF⟩; have hb1 := hF.heap (by simp) (hp1 _ _ _); have hb2 := hF.heap (by simp) (hp2 _ _ _); have r0 := cell_of_heap (o := 0) hb2 rfl; have r1 := cell_of_heap (o := 1) hb2 rfl; have r2 := cell_of_heap (o := 2) hb2 rfl; have r3 := cell_of_heap (o := 3) hb2 rfl; have r4 := cell_of_heap (o := 4) hb2 rfl; have r5 := cell_of_heap (o := 5) hb2 rfl; have r6 := cell_of_heap (o := 6) hb2 rfl; have HB1 := Lib.hid hb1; have HB2 := Lib.hid hb2; have HF := Lib.hid hF; clear hF hb1 hb2)
        | (go_at_call 16; refine (hp _).mono ?_; rintro e w2 ⟨rfl, hF2⟩; have hc1 := hF2.heap (by simp) HB1.out; have hc2 := hF2.heap (by simp) HB2.out; have k20 := cell_of_heap (o := 0) hc1 rfl; have k21 := cell_of_heap (o := 1) hc1 rfl; have k22 := cell_of_heap (o := 2) hc1 rfl; have k23 := cell_of_heap (o := 3) hc1 rfl; have r20 := cell_of_heap (o := 0) hc2 rfl; have r21 := cell_of_heap (o := 1) hc2 rfl; have r22 := cell_of_heap (o := 2) hc2 rfl; have r23 := cell_of_heap (o := 3) hc2 rfl; have r24 := cell_of_heap (o := 4) hc2 rfl; have r25 := cell_of_heap (o := 5) hc2 rfl; have r26 := cell_of_heap (o := 6) hc2 rfl; have HF2 := Lib.hid hF2; clear hF2 hc1 hc2)
        | (go_at_call 45; refine (hs _).mono ?_; rintro e w3 ⟨rfl, hF3⟩; have HF3 := Lib.hid hF3; clear hF3))
      go_ret
      exact ⟨rfl, by first | exact ((((Fr.refl [] w).alloc _).alloc _).trans HF.out).trans (HF2.out.trans HF3.out) | exact ((((Fr.refl [] w).alloc _).alloc _).trans HF.out).trans HF2.out⟩
end Go.Proofs.Ytcdpgchkdjjfgaa
