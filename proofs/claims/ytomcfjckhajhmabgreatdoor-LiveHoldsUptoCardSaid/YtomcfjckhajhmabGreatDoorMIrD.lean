/- ir: parts of an instruction. ir: may an instruction be? (written by geninst.py) ir: the instructions of a unit. ir.Check. -/
import Derived.Test.YtomcfjckhajhmabGreatDoorMIrB
import Derived.Test.YtomcfjckhajhmabGreatDoorMIrC
import Derived.Test.YtomcfjckhajhmabGreatDoorMIrA
import Derived.Deep.RegionHeld3
namespace Go.Proofs.YtomcfjckhajhmabGreatDoor
open Go.RowKit

theorem ir_greatest (R P S M op : Int) (w : World) (hS : 0 ≤ S ∧ S ≤ 128) (hM : 0 ≤ M ∧ M ≤ 128) : Calls Tryz.prog 69 #[rgV R P S M, .int .i64 op] w (Still (.int .i64 (grt S M op)) w) := by
  obtain ⟨s1, s2⟩ := hS
  obtain ⟨m1, m2⟩ := hM
  unfold rgV
  have hk : op = 2 ∨ op = 3 ∨ op = 4 ∨ op = 5 ∨ op = 6 ∨ op = 7 ∨ (op ≠ 2 ∧ op ≠ 3 ∧ op ≠ 4 ∧ op ≠ 5 ∧ op ≠ 6 ∧ op ≠ 7) := by omega
  rcases hk with rfl | rfl | rfl | rfl | rfl | rfl | ⟨h2, h3, h4, h5, h6, h7⟩
  case inr.inr.inr.inr.inr.inr =>
    have e : grt S M op = 0 := by unfold grt; rw [if_neg h2, if_neg (by omega), if_neg (by omega), if_neg h7]
    rw [e]
    clear e
    go_enter Tryz.func69, Tryz.ntmps69
    go_wp2
    go_ret
    exact ⟨rfl, by (repeat (first | (with_reducible refine Fr.setCell ?_ (fun h => absurd h (Nat.lt_irrefl _)) _) | (with_reducible refine Fr.setCell ?_ (fun h => absurd h (by first | omega | (simp; done) | (simp; omega) | (dsimp only; omega))) _) | (with_reducible refine Fr.alloc ?_ _) | (with_reducible refine Fr.drew ?_) | (with_reducible refine Fr.drewN ?_ _) | (with_reducible exact Fr.refl [] w)))⟩
  all_goals
    go_enter Tryz.func69, Tryz.ntmps69
    go_wp2
    go_ret
    exact ⟨rfl, by (repeat (first | (with_reducible refine Fr.setCell ?_ (fun h => absurd h (Nat.lt_irrefl _)) _) | (with_reducible refine Fr.setCell ?_ (fun h => absurd h (by first | omega | (simp; done) | (simp; omega) | (dsimp only; omega))) _) | (with_reducible refine Fr.alloc ?_ _) | (with_reducible refine Fr.drew ?_) | (with_reducible refine Fr.drewN ?_ _) | (with_reducible exact Fr.refl [] w)))⟩
set_option maxHeartbeats 1000000 in
theorem ir_isWord (i : Ii) (w : World) (hW : WU i.w) : Calls Tryz.prog 70 #[i.v] w (Still (.bool (wrdOk i)) w) := by
  obtain ⟨op, n, ⟨dk, dn, dw⟩, la, l, lc, x⟩ := i
  unfold Ii.v wrdOk
  simp only at hW ⊢
  have hk : op = 6 ∨ op = 7 ∨ (op ≠ 6 ∧ op ≠ 7) := by omega
  rcases hk with rfl | rfl | ⟨h6, h7⟩
  · simp only [if_true]
    cases ho : iodd x
    · have hi := fun W => iInt_no x W hW ho
      have e : decide (x = 1 ∨ x = 3) = false := by simp [iodd] at ho; simp; omega
      rw [e]
      clear e ho
      go_enter Tryz.func70, Tryz.ntmps70
      go_wp2_with (go_at_call 96; refine (hi _).mono ?_; rintro e w1 ⟨rfl, rfl⟩)
      go_ret
      exact ⟨rfl, by (repeat (first | (with_reducible refine Fr.setCell ?_ (fun h => absurd h (Nat.lt_irrefl _)) _) | (with_reducible refine Fr.setCell ?_ (fun h => absurd h (by first | omega | (simp; done) | (simp; omega) | (dsimp only; omega))) _) | (with_reducible refine Fr.alloc ?_ _) | (with_reducible refine Fr.drew ?_) | (with_reducible refine Fr.drewN ?_ _) | (with_reducible exact Fr.refl [] w)))⟩
    · have hi := fun W => iInt_yes x W hW ho
      have e : decide (x = 1 ∨ x = 3) = wtn (inum x) 0 1 := by unfold wtn; rw [decide_eq_decide]; exact (inum01 hW ho).symm
      rw [e]
      clear e ho
      have hj := fun W => ir_within (inum x) 0 1 W
      go_enter Tryz.func70, Tryz.ntmps70
      go_wp2_with (first | (go_at_call 96; refine (hi _).mono ?_; rintro e w1 ⟨rfl, rfl⟩) | (go_at_call 44; refine (hj _).mono ?_; rintro e w1 ⟨rfl, rfl⟩))
      go_ret
      exact ⟨rfl, by (repeat (first | (with_reducible refine Fr.setCell ?_ (fun h => absurd h (Nat.lt_irrefl _)) _) | (with_reducible refine Fr.setCell ?_ (fun h => absurd h (by first | omega | (simp; done) | (simp; omega) | (dsimp only; omega))) _) | (with_reducible refine Fr.alloc ?_ _) | (with_reducible refine Fr.drew ?_) | (with_reducible refine Fr.drewN ?_ _) | (with_reducible exact Fr.refl [] w)))⟩
  · rw [if_neg (by decide), if_pos rfl]
    go_enter Tryz.func70, Tryz.ntmps70
    go_wp2
    all_goals (go_ret; exact ⟨ret1 (vb (by first | rfl | (rw [Bool.eq_iff_iff]; simp; done) | (simp; omega))), by (repeat (first | (with_reducible refine Fr.setCell ?_ (fun h => absurd h (Nat.lt_irrefl _)) _) | (with_reducible refine Fr.setCell ?_ (fun h => absurd h (by first | omega | (simp; done) | (simp; omega) | (dsimp only; omega))) _) | (with_reducible refine Fr.alloc ?_ _) | (with_reducible refine Fr.drew ?_) | (with_reducible refine Fr.drewN ?_ _) | (with_reducible exact Fr.refl [] w)))⟩)
  · rw [if_neg h6, if_neg h7]
    go_enter Tryz.func70, Tryz.ntmps70
    go_wp2
    all_goals (go_ret; exact ⟨ret1 (vb (by first | rfl | (rw [Bool.eq_iff_iff]; simp; done) | (simp; omega))), by (repeat (first | (with_reducible refine Fr.setCell ?_ (fun h => absurd h (Nat.lt_irrefl _)) _) | (with_reducible refine Fr.setCell ?_ (fun h => absurd h (by first | omega | (simp; done) | (simp; omega) | (dsimp only; omega))) _) | (with_reducible refine Fr.alloc ?_ _) | (with_reducible refine Fr.drew ?_) | (with_reducible refine Fr.drewN ?_ _) | (with_reducible exact Fr.refl [] w)))⟩)
set_option maxHeartbeats 1000000 in
theorem ir_isResult (R P S M : Int) (i : Ii) (w : World) : Calls Tryz.prog 68 #[rgV R P S M, i.v] w (Still (.bool (resOk R P i)) w) := by
  have hl := fun W => ir_Leaves i.op W
  have hp := fun W => ir_Place i.d W
  have hs := fun W => ir_isSource R P S M i.d W
  obtain ⟨op, n, ⟨dk, dn, dw⟩, la, l, lc, x⟩ := i
  unfold rgV Ii.v resOk
  unfold rgV at hs
  simp only [Sr.v] at hl hp hs ⊢
  cases ho : lvs op
  · rw [if_neg (by simp)]
    simp only [ho] at hl
    have e : decide ((⟨dk, dn, dw⟩ : Sr) = zeroS) = (dk == 0 && dn == 0 && dw == 0) := by
      rw [Bool.eq_iff_iff]; simp [zeroS, and_assoc]
    rw [e]
    clear e ho
    have h1 : dk = 0 ∨ (dk == 0) = false := by by_cases h : dk = 0 <;> simp [h]
    have h2 : dn = 0 ∨ (dn == 0) = false := by by_cases h : dn = 0 <;> simp [h]
    have h3 : dw = 0 ∨ (dw == 0) = false := by by_cases h : dw = 0 <;> simp [h]
    rcases h1 with rfl | h1 <;> rcases h2 with rfl | h2 <;> rcases h3 with rfl | h3
    all_goals
      go_enter Tryz.func68, Tryz.ntmps68
      go_wp2_with (go_at_call 37; refine (hl _).mono ?_; rintro e w1 ⟨rfl, hF⟩; have hb2 := hF.heap (by simp) (hp2 _ _ _); have r0 := cell_of_heap (o := 0) hb2 rfl; have r1 := cell_of_heap (o := 1) hb2 rfl; have r2 := cell_of_heap (o := 2) hb2 rfl; have r3 := cell_of_heap (o := 3) hb2 rfl; have r4 := cell_of_heap (o := 4) hb2 rfl; have r5 := cell_of_heap (o := 5) hb2 rfl; have r6 := cell_of_heap (o := 6) hb2 rfl; have HF := Lib.hid hF; clear hF hb2)
      go_ret
      exact ⟨ret1 (vb (by simp [*])), by (repeat (first | (with_reducible refine Fr.setCell ?_ (fun h => absurd h (Nat.lt_irrefl _)) _) | (with_reducible refine Fr.setCell ?_ (fun h => absurd h (by first | omega | (simp; done) | (simp; omega) | (dsimp only; omega))) _) | (with_reducible refine Fr.alloc ?_ _) | (with_reducible refine Fr.drew ?_) | (with_reducible refine Fr.drewN ?_ _) | (with_reducible exact (((Fr.refl [] w).alloc _).alloc _).trans HF.out)))⟩
  · rw [if_pos rfl]
    simp only [ho] at hl
    clear ho
    cases hb : plc ⟨dk, dn, dw⟩
    all_goals
      simp only [hb, Bool.true_and, Bool.false_and] at hp ⊢
      clear hb
      go_enter Tryz.func68, Tryz.ntmps68
      go_wp2_with (first
        | (go_at_call 37; refine (hl _).mono ?_; rintro e w1 ⟨rfl, hF⟩; have hb1 := hF.heap (by simp) (hp1 _ _ _); have hb2 := hF.heap (by simp) (hp2 _ _ _); have r0 := cell_of_heap (o := 0) hb2 rfl; have r1 := cell_of_heap (o := 1) hb2 rfl; have r2 := cell_of_heap (o := 2) hb2 rfl; have r3 := cell_of_heap (o := 3) hb2 rfl; have r4 := cell_of_heap (o := 4) hb2 rfl; have r5 := cell_of_heap (o := 5) hb2 rfl; have r6 := cell_of_heap (o := 6) hb2 rfl; have HB1 := Lib.hid hb1; have HB2 := Lib.hid hb2; have HF := Lib.hid hF; clear hF hb1 hb2)
        | (go_at_call 36; refine (hp _).mono ?_; rintro e w2 ⟨rfl, hF2⟩; have hc1 := hF2.heap (by simp) HB1.out; have hc2 := hF2.heap (by simp) HB2.out; have k20 := cell_of_heap (o := 0) hc1 rfl; have k21 := cell_of_heap (o := 1) hc1 rfl; have k22 := cell_of_heap (o := 2) hc1 rfl; have k23 := cell_of_heap (o := 3) hc1 rfl; have r20 := cell_of_heap (o := 0) hc2 rfl; have r21 := cell_of_heap (o := 1) hc2 rfl; have r22 := cell_of_heap (o := 2) hc2 rfl; have r23 := cell_of_heap (o := 3) hc2 rfl; have r24 := cell_of_heap (o := 4) hc2 rfl; have r25 := cell_of_heap (o := 5) hc2 rfl; have r26 := cell_of_heap (o := 6) hc2 rfl; have HF2 := Lib.hid hF2; clear hF2 hc1 hc2)
        | (go_at_call 66; refine (hs _).mono ?_; rintro e w3 ⟨rfl, hF3⟩; have HF3 := Lib.hid hF3; clear hF3))
      go_ret
      exact ⟨rfl, by first | exact ((((Fr.refl [] w).alloc _).alloc _).trans HF.out).trans (HF2.out.trans HF3.out) | exact ((((Fr.refl [] w).alloc _).alloc _).trans HF.out).trans HF2.out⟩
end Go.Proofs.YtomcfjckhajhmabGreatDoor
namespace Go.Proofs.YtomcfjckhajhmabGreatDoor
open Go.RowKit

/-- Q where the region comes to its end; nothing else is let by -/
def INorm (Q : Exit → Act → World → Prop) : Exit → Act → World → Prop
  | .normal, a, w => Q .normal a w
  | _, _, _ => False
theorem INorm.imp {Q : Exit → Act → World → Prop} : ∀ (e : Exit) (a : Act) (w : World), INorm Q e a w → Q e a w := fun e a w h => by
  cases e <;> first | exact h | exact (h : False).elim
theorem INorm.mk {Q : Exit → Act → World → Prop} {a : Act} {w : World} (h : Q .normal a w) : INorm Q .normal a w := h
theorem five (a b c d : Bool) : a = false ∨ (a = true ∧ b = false) ∨ (a = true ∧ b = true ∧ c = false) ∨ (a = true ∧ b = true ∧ c = true ∧ d = false) ∨ (a = true ∧ b = true ∧ c = true ∧ d = true) := by
  revert a b c d; decide
set_option maxRecDepth 100000 in
set_option maxHeartbeats 4000000 in
theorem ir_isInstruction (R P S M : Int) (i : Ii) (w : World) (hI : IB i) (h : SrcsAt w i.la i.l) (hS : 0 ≤ S ∧ S ≤ 128) (hM : 0 ≤ M ∧ M ≤ 128) : Calls Tryz.prog 47 #[rgV R P S M, i.v] w (Still (.bool (insOkU R P S M i)) w) := by
  have ht := fun W => ir_Takes i.op W
  have hw1 := fun W => ir_within i.l.length (lst i.op) (mst i.op) W
  have hw2 := fun W => ir_within i.n 0 (grt S M i.op) W
  have hss := fun W (hF : Fr [] w W) => ir_areSources R P S M i.l i.la i.lc W hI.n (h.fr hF)
  have hr := fun W => ir_isResult R P S M i W
  have hg := fun W => ir_greatest R P S M i.op W hS hM
  have hx := fun W => ir_isWord i W hI.w
  have HO : Hid (insOkU R P S M i = (wtn i.l.length (lst i.op) (mst i.op) && i.l.all (srcOk R P) && resOk R P i && wtn i.n 0 (grt S M i.op) && wrdOk i)) := Lib.hid rfl
  generalize insOkU R P S M i = ok at *
  generalize wtn i.l.length (lst i.op) (mst i.op) = b1 at *
  generalize i.l.all (srcOk R P) = b2 at *
  generalize resOk R P i = b3 at *
  generalize wtn i.n 0 (grt S M i.op) = b4 at *
  generalize wrdOk i = b5 at *
  obtain ⟨op, n, ⟨dk, dn, dw⟩, la, l, lc, x⟩ := i
  unfold rgV Ii.v at *
  simp only at ht hw1 hw2 hss hr hg hx ⊢
  generalize grt S M op = gr at *
  generalize lst op = lo at *
  generalize mst op = hi at *
  generalize l.length = ll at *
  have HSS := Lib.hid hss
  have HTK := Lib.hid ht
  clear hI h hss ht hS hM
  rcases five b1 b2 b3 b4 with rfl | ⟨rfl, rfl⟩ | ⟨rfl, rfl, rfl⟩ | ⟨rfl, rfl, rfl, rfl⟩ | ⟨rfl, rfl, rfl, rfl⟩
  · simp only [Bool.false_and] at HO
    go_enter Tryz.func47, Tryz.ntmps47
    go_wp2_with (go_at_call 67; refine (HTK.out _).mono ?_; rintro e w1 ⟨rfl, hF⟩; have HF : Hid (Fr [] w w1) := (((Fr.refl [] w).alloc _).alloc _).trans hF; have hb1 := hF.heap (by simp) (hp1 _ _ _); have hb2 := hF.heap (by simp) (hp2 _ _ _); have k0 := cell_of_heap (o := 0) hb1 rfl; have k1 := cell_of_heap (o := 1) hb1 rfl; have k2 := cell_of_heap (o := 2) hb1 rfl; have k3 := cell_of_heap (o := 3) hb1 rfl; have r0 := cell_of_heap (o := 0) hb2 rfl; have r1 := cell_of_heap (o := 1) hb2 rfl; have r2 := cell_of_heap (o := 2) hb2 rfl; have r3 := cell_of_heap (o := 3) hb2 rfl; have r4 := cell_of_heap (o := 4) hb2 rfl; have r5 := cell_of_heap (o := 5) hb2 rfl; have r6 := cell_of_heap (o := 6) hb2 rfl; clear hF hb1 hb2)
    have hmx : Tryz.prog.follows .mixedOrders = true := by kernel_rfl
    refine Code.wp_mono INorm.imp (wp_region_held_drew (S := fun w' => w'.cell? ⟨w.heap.size, 0, none⟩ = some (.int .i64 R) ∧ w'.cell? ⟨w.heap.size, 1, none⟩ = some (.int .i64 P) ∧ w'.cell? ⟨w.heap.size, 2, none⟩ = some (.int .i64 S) ∧ w'.cell? ⟨w.heap.size, 3, none⟩ = some (.int .i64 M) ∧ w'.cell? ⟨w.heap.size + 1, 0, none⟩ = some (.int .i64 op) ∧ w'.cell? ⟨w.heap.size + 1, 1, none⟩ = some (.int .i64 n) ∧ w'.cell? ⟨w.heap.size + 1, 2, none⟩ = some (.int .i64 dk) ∧ w'.cell? ⟨w.heap.size + 1, 3, none⟩ = some (.int .i64 dn) ∧ w'.cell? ⟨w.heap.size + 1, 4, none⟩ = some (.int .u64 dw) ∧ w'.cell? ⟨w.heap.size + 1, 5, none⟩ = some (.slice la ll lc) ∧ w'.cell? ⟨w.heap.size + 1, 6, none⟩ = some (.int .u64 x)) hmx ⟨(Fr.refl [] w1).drew.cell (by simp) k0, (Fr.refl [] w1).drew.cell (by simp) k1, (Fr.refl [] w1).drew.cell (by simp) k2, (Fr.refl [] w1).drew.cell (by simp) k3, (Fr.refl [] w1).drew.cell (by simp) r0, (Fr.refl [] w1).drew.cell (by simp) r1, (Fr.refl [] w1).drew.cell (by simp) r2, (Fr.refl [] w1).drew.cell (by simp) r3, (Fr.refl [] w1).drew.cell (by simp) r4, (Fr.refl [] w1).drew.cell (by simp) r5, (Fr.refl [] w1).drew.cell (by simp) r6⟩ (fun hHeld => ?_))
    (refine wpAnyH_take (i := 0) (oi := ⟨some 13, _, _, _, _, _⟩) (v := ?_) rfl (by kernel_rfl) (by kernel_rfl) (by kernel_rfl) (fun _ _ _ h => h) (Or.inl ⟨by rfl, ?_⟩) (by assumption) ?_); rotate_left; focus (intro w hSw; (try dsimp only at hSw); go_split_ands; go_simp; try with_reducible rfl); (try simp only [Act.put, List.setIfInBounds_toArray, List.set_cons_zero, List.set_cons_succ])
    (refine wpAnyH_take (i := 1) (oi := ⟨some 14, _, _, _, _, _⟩) (v := ?_) rfl (by kernel_rfl) (by kernel_rfl) (by kernel_rfl) (fun _ _ _ h => h) (Or.inl ⟨by rfl, ?_⟩) (by assumption) ?_); rotate_left; focus (intro w hSw; (try dsimp only at hSw); go_split_ands; go_simp; try with_reducible rfl); (try simp only [Act.put, List.setIfInBounds_toArray, List.set_cons_zero, List.set_cons_succ])
    (refine wpAnyH_take (i := 2) (oi := ⟨some 15, _, _, _, _, _⟩) (v := ?_) rfl (by kernel_rfl) (by kernel_rfl) (by kernel_rfl) (fun _ _ _ h => h) (Or.inl ⟨by rfl, ?_⟩) (by assumption) ?_); rotate_left; focus (intro w hSw; (try dsimp only at hSw); go_split_ands; go_simp; try with_reducible rfl); (try simp only [Act.put, List.setIfInBounds_toArray, List.set_cons_zero, List.set_cons_succ])
    (refine wpAnyH_take (i := 3) (oi := ⟨some 16, _, _, _, _, _⟩) (v := ?_) rfl (by kernel_rfl) (by kernel_rfl) (by kernel_rfl) (fun _ _ _ h => h) (Or.inl ⟨by rfl, ?_⟩) (by assumption) ?_); rotate_left; focus (intro w hSw; (try dsimp only at hSw); go_split_ands; go_simp; try with_reducible rfl); (try simp only [Act.put, List.setIfInBounds_toArray, List.set_cons_zero, List.set_cons_succ])
    (refine wpAnyH_take (i := 4) (oi := ⟨some 17, _, _, _, _, _⟩) (v := ?_) rfl (by kernel_rfl) (by kernel_rfl) (by kernel_rfl) (fun _ _ _ h => h) (Or.inl ⟨by rfl, ?_⟩) (by assumption) ?_); rotate_left; focus (intro w hSw; (try dsimp only at hSw); go_split_ands; go_simp; try with_reducible rfl); (try simp only [Act.put, List.setIfInBounds_toArray, List.set_cons_zero, List.set_cons_succ])
    refine wpAnyH_ready (rs := [5]) (by kernel_rfl) (by simp) ?_
    refine AllReadyH.cons rfl (fun K hK => ?_) AllReadyH.nil
    go_simp
    refine (hw1 _).mono ?_
    rintro e w' ⟨rfl, rfl⟩
    refine hK.out _ _ (by assumption) (fun hHeld => ?_)
    clear hK
    (try simp only [Act.put, List.setIfInBounds_toArray, List.set_cons_zero, List.set_cons_succ])
    (refine wpAnyH_take (i := 6) (oi := ⟨some 19, _, _, _, _, _⟩) (v := ?_) rfl (by kernel_rfl) (by kernel_rfl) (by kernel_rfl) (fun _ _ _ h => h) (Or.inl ⟨by rfl, ?_⟩) (by assumption) ?_); rotate_left; focus (intro w hSw; (try dsimp only at hSw); go_split_ands; go_simp; try with_reducible rfl); (try simp only [Act.put, List.setIfInBounds_toArray, List.set_cons_zero, List.set_cons_succ])
    ((refine wpAnyH_take (i := 7) (oi := ⟨some 20, _, _, _, _, _⟩) (v := undef) rfl (by kernel_rfl) (by kernel_rfl) (by kernel_rfl) (fun _ _ _ h => h) (Or.inr ⟨by rfl, by rfl⟩) (by assumption) ?_); (try simp only [Act.put, List.setIfInBounds_toArray, List.set_cons_zero, List.set_cons_succ]))
    ((refine wpAnyH_take (i := 8) (oi := ⟨some 21, _, _, _, _, _⟩) (v := undef) rfl (by kernel_rfl) (by kernel_rfl) (by kernel_rfl) (fun _ _ _ h => h) (Or.inr ⟨by rfl, by rfl⟩) (by assumption) ?_); (try simp only [Act.put, List.setIfInBounds_toArray, List.set_cons_zero, List.set_cons_succ]))
    ((refine wpAnyH_take (i := 9) (oi := ⟨some 22, _, _, _, _, _⟩) (v := undef) rfl (by kernel_rfl) (by kernel_rfl) (by kernel_rfl) (fun _ _ _ h => h) (Or.inr ⟨by rfl, by rfl⟩) (by assumption) ?_); (try simp only [Act.put, List.setIfInBounds_toArray, List.set_cons_zero, List.set_cons_succ]))
    ((refine wpAnyH_take (i := 10) (oi := ⟨some 23, _, _, _, _, _⟩) (v := undef) rfl (by kernel_rfl) (by kernel_rfl) (by kernel_rfl) (fun _ _ _ h => h) (Or.inr ⟨by rfl, by rfl⟩) (by assumption) ?_); (try simp only [Act.put, List.setIfInBounds_toArray, List.set_cons_zero, List.set_cons_succ]))
    (refine wpAnyH_take (i := 11) (oi := ⟨some 24, _, _, _, _, _⟩) (v := ?_) rfl (by kernel_rfl) (by kernel_rfl) (by kernel_rfl) (fun _ _ _ h => h) (Or.inl ⟨by rfl, ?_⟩) (by assumption) ?_); rotate_left; focus (intro w hSw; (try dsimp only at hSw); go_split_ands; go_simp; try with_reducible rfl); (try simp only [Act.put, List.setIfInBounds_toArray, List.set_cons_zero, List.set_cons_succ])
    (refine wpAnyH_take (i := 12) (oi := ⟨some 25, _, _, _, _, _⟩) (v := ?_) rfl (by kernel_rfl) (by kernel_rfl) (by kernel_rfl) (fun _ _ _ h => h) (Or.inl ⟨by rfl, ?_⟩) (by assumption) ?_); rotate_left; focus (intro w hSw; (try dsimp only at hSw); go_split_ands; go_simp; try with_reducible rfl); (try simp only [Act.put, List.setIfInBounds_toArray, List.set_cons_zero, List.set_cons_succ])
    ((refine wpAnyH_take (i := 13) (oi := ⟨some 26, _, _, _, _, _⟩) (v := undef) rfl (by kernel_rfl) (by kernel_rfl) (by kernel_rfl) (fun _ _ _ h => h) (Or.inr ⟨by rfl, by rfl⟩) (by assumption) ?_); (try simp only [Act.put, List.setIfInBounds_toArray, List.set_cons_zero, List.set_cons_succ]))
    ((refine wpAnyH_take (i := 14) (oi := ⟨some 27, _, _, _, _, _⟩) (v := undef) rfl (by kernel_rfl) (by kernel_rfl) (by kernel_rfl) (fun _ _ _ h => h) (Or.inr ⟨by rfl, by rfl⟩) (by assumption) ?_); (try simp only [Act.put, List.setIfInBounds_toArray, List.set_cons_zero, List.set_cons_succ]))
    ((refine wpAnyH_take (i := 15) (oi := ⟨some 28, _, _, _, _, _⟩) (v := undef) rfl (by kernel_rfl) (by kernel_rfl) (by kernel_rfl) (fun _ _ _ h => h) (Or.inr ⟨by rfl, by rfl⟩) (by assumption) ?_); (try simp only [Act.put, List.setIfInBounds_toArray, List.set_cons_zero, List.set_cons_succ]))
    (refine wpAnyH_take (i := 16) (oi := ⟨some 29, _, _, _, _, _⟩) (v := ?_) rfl (by kernel_rfl) (by kernel_rfl) (by kernel_rfl) (fun _ _ _ h => h) (Or.inl ⟨by rfl, ?_⟩) (by assumption) ?_); rotate_left; focus (intro w hSw; (try dsimp only at hSw); go_split_ands; go_simp; try with_reducible rfl); (try simp only [Act.put, List.setIfInBounds_toArray, List.set_cons_zero, List.set_cons_succ])
    (refine wpAnyH_take (i := 17) (oi := ⟨some 30, _, _, _, _, _⟩) (v := ?_) rfl (by kernel_rfl) (by kernel_rfl) (by kernel_rfl) (fun _ _ _ h => h) (Or.inl ⟨by rfl, ?_⟩) (by assumption) ?_); rotate_left; focus (intro w hSw; (try dsimp only at hSw); go_split_ands; go_simp; try with_reducible rfl); (try simp only [Act.put, List.setIfInBounds_toArray, List.set_cons_zero, List.set_cons_succ])
    ((refine wpAnyH_take (i := 18) (oi := ⟨some 31, _, _, _, _, _⟩) (v := undef) rfl (by kernel_rfl) (by kernel_rfl) (by kernel_rfl) (fun _ _ _ h => h) (Or.inr ⟨by rfl, by rfl⟩) (by assumption) ?_); (try simp only [Act.put, List.setIfInBounds_toArray, List.set_cons_zero, List.set_cons_succ]))
    ((refine wpAnyH_take (i := 19) (oi := ⟨some 32, _, _, _, _, _⟩) (v := undef) rfl (by kernel_rfl) (by kernel_rfl) (by kernel_rfl) (fun _ _ _ h => h) (Or.inr ⟨by rfl, by rfl⟩) (by assumption) ?_); (try simp only [Act.put, List.setIfInBounds_toArray, List.set_cons_zero, List.set_cons_succ]))
    ((refine wpAnyH_take (i := 20) (oi := ⟨some 33, _, _, _, _, _⟩) (v := undef) rfl (by kernel_rfl) (by kernel_rfl) (by kernel_rfl) (fun _ _ _ h => h) (Or.inr ⟨by rfl, by rfl⟩) (by assumption) ?_); (try simp only [Act.put, List.setIfInBounds_toArray, List.set_cons_zero, List.set_cons_succ]))
    ((refine wpAnyH_take (i := 21) (oi := ⟨some 34, _, _, _, _, _⟩) (v := undef) rfl (by kernel_rfl) (by kernel_rfl) (by kernel_rfl) (fun _ _ _ h => h) (Or.inr ⟨by rfl, by rfl⟩) (by assumption) ?_); (try simp only [Act.put, List.setIfInBounds_toArray, List.set_cons_zero, List.set_cons_succ]))
    ((refine wpAnyH_take (i := 22) (oi := ⟨some 35, _, _, _, _, _⟩) (v := undef) rfl (by kernel_rfl) (by kernel_rfl) (by kernel_rfl) (fun _ _ _ h => h) (Or.inr ⟨by rfl, by rfl⟩) (by assumption) ?_); (try simp only [Act.put, List.setIfInBounds_toArray, List.set_cons_zero, List.set_cons_succ]))
    ((refine wpAnyH_take (i := 23) (oi := ⟨some 36, _, _, _, _, _⟩) (v := undef) rfl (by kernel_rfl) (by kernel_rfl) (by kernel_rfl) (fun _ _ _ h => h) (Or.inr ⟨by rfl, by rfl⟩) (by assumption) ?_); (try simp only [Act.put, List.setIfInBounds_toArray, List.set_cons_zero, List.set_cons_succ]))
    ((refine wpAnyH_take (i := 24) (oi := ⟨some 37, _, _, _, _, _⟩) (v := undef) rfl (by kernel_rfl) (by kernel_rfl) (by kernel_rfl) (fun _ _ _ h => h) (Or.inr ⟨by rfl, by rfl⟩) (by assumption) ?_); (try simp only [Act.put, List.setIfInBounds_toArray, List.set_cons_zero, List.set_cons_succ]))
    (refine wpAnyH_take (i := 25) (oi := ⟨some 38, _, _, _, _, _⟩) (v := ?_) rfl (by kernel_rfl) (by kernel_rfl) (by kernel_rfl) (fun _ _ _ h => h) (Or.inl ⟨by rfl, ?_⟩) (by assumption) ?_); rotate_left; focus (intro w hSw; (try dsimp only at hSw); go_split_ands; go_simp; try with_reducible rfl); (try simp only [Act.put, List.setIfInBounds_toArray, List.set_cons_zero, List.set_cons_succ])
    (refine wpAnyH_take (i := 26) (oi := ⟨some 39, _, _, _, _, _⟩) (v := ?_) rfl (by kernel_rfl) (by kernel_rfl) (by kernel_rfl) (fun _ _ _ h => h) (Or.inl ⟨by rfl, ?_⟩) (by assumption) ?_); rotate_left; focus (intro w hSw; (try dsimp only at hSw); go_split_ands; go_simp; try with_reducible rfl); (try simp only [Act.put, List.setIfInBounds_toArray, List.set_cons_zero, List.set_cons_succ])
    ((refine wpAnyH_take (i := 27) (oi := ⟨some 40, _, _, _, _, _⟩) (v := undef) rfl (by kernel_rfl) (by kernel_rfl) (by kernel_rfl) (fun _ _ _ h => h) (Or.inr ⟨by rfl, by rfl⟩) (by assumption) ?_); (try simp only [Act.put, List.setIfInBounds_toArray, List.set_cons_zero, List.set_cons_succ]))
    ((refine wpAnyH_take (i := 28) (oi := ⟨some 41, _, _, _, _, _⟩) (v := undef) rfl (by kernel_rfl) (by kernel_rfl) (by kernel_rfl) (fun _ _ _ h => h) (Or.inr ⟨by rfl, by rfl⟩) (by assumption) ?_); (try simp only [Act.put, List.setIfInBounds_toArray, List.set_cons_zero, List.set_cons_succ]))
    (refine wpAnyH_take (i := 29) (oi := ⟨some 42, _, _, _, _, _⟩) (v := ?_) rfl (by kernel_rfl) (by kernel_rfl) (by kernel_rfl) (fun _ _ _ h => h) (Or.inl ⟨by rfl, ?_⟩) (by assumption) ?_); rotate_left; focus (intro w hSw; (try dsimp only at hSw); go_split_ands; go_simp; try with_reducible rfl); (try simp only [Act.put, List.setIfInBounds_toArray, List.set_cons_zero, List.set_cons_succ])
    (refine wpAnyH_take (i := 30) (oi := ⟨some 4, _, _, _, _, _⟩) (v := ?_) rfl (by kernel_rfl) (by kernel_rfl) (by kernel_rfl) (fun _ _ _ h => h) (Or.inl ⟨by rfl, ?_⟩) (by assumption) ?_); rotate_left; focus (intro w hSw; (try dsimp only at hSw); go_split_ands; go_simp; try with_reducible rfl); (try simp only [Act.put, List.setIfInBounds_toArray, List.set_cons_zero, List.set_cons_succ])
    refine wpAnyH_done (by kernel_rfl) (INorm.mk ?_) _
    (try simp only [Act.put, List.setIfInBounds_toArray, List.set_cons_zero, List.set_cons_succ])
    go_wp2_with fail
    go_ret
    exact ⟨ret1 (vb HO.out.symm), HF.out.trans ((Fr.refl [] w1).drew)⟩
  · simp only [Bool.true_and, Bool.false_and] at HO
    go_enter Tryz.func47, Tryz.ntmps47
    go_wp2_with (go_at_call 67; refine (HTK.out _).mono ?_; rintro e w1 ⟨rfl, hF⟩; have HF : Hid (Fr [] w w1) := (((Fr.refl [] w).alloc _).alloc _).trans hF; have hb1 := hF.heap (by simp) (hp1 _ _ _); have hb2 := hF.heap (by simp) (hp2 _ _ _); have k0 := cell_of_heap (o := 0) hb1 rfl; have k1 := cell_of_heap (o := 1) hb1 rfl; have k2 := cell_of_heap (o := 2) hb1 rfl; have k3 := cell_of_heap (o := 3) hb1 rfl; have r0 := cell_of_heap (o := 0) hb2 rfl; have r1 := cell_of_heap (o := 1) hb2 rfl; have r2 := cell_of_heap (o := 2) hb2 rfl; have r3 := cell_of_heap (o := 3) hb2 rfl; have r4 := cell_of_heap (o := 4) hb2 rfl; have r5 := cell_of_heap (o := 5) hb2 rfl; have r6 := cell_of_heap (o := 6) hb2 rfl; clear hF hb1 hb2)
    have hmx : Tryz.prog.follows .mixedOrders = true := by kernel_rfl
    refine Code.wp_mono INorm.imp (wp_region_held_drew (S := fun w' => w'.cell? ⟨w.heap.size, 0, none⟩ = some (.int .i64 R) ∧ w'.cell? ⟨w.heap.size, 1, none⟩ = some (.int .i64 P) ∧ w'.cell? ⟨w.heap.size, 2, none⟩ = some (.int .i64 S) ∧ w'.cell? ⟨w.heap.size, 3, none⟩ = some (.int .i64 M) ∧ w'.cell? ⟨w.heap.size + 1, 0, none⟩ = some (.int .i64 op) ∧ w'.cell? ⟨w.heap.size + 1, 1, none⟩ = some (.int .i64 n) ∧ w'.cell? ⟨w.heap.size + 1, 2, none⟩ = some (.int .i64 dk) ∧ w'.cell? ⟨w.heap.size + 1, 3, none⟩ = some (.int .i64 dn) ∧ w'.cell? ⟨w.heap.size + 1, 4, none⟩ = some (.int .u64 dw) ∧ w'.cell? ⟨w.heap.size + 1, 5, none⟩ = some (.slice la ll lc) ∧ w'.cell? ⟨w.heap.size + 1, 6, none⟩ = some (.int .u64 x)) hmx ⟨(Fr.refl [] w1).drew.cell (by simp) k0, (Fr.refl [] w1).drew.cell (by simp) k1, (Fr.refl [] w1).drew.cell (by simp) k2, (Fr.refl [] w1).drew.cell (by simp) k3, (Fr.refl [] w1).drew.cell (by simp) r0, (Fr.refl [] w1).drew.cell (by simp) r1, (Fr.refl [] w1).drew.cell (by simp) r2, (Fr.refl [] w1).drew.cell (by simp) r3, (Fr.refl [] w1).drew.cell (by simp) r4, (Fr.refl [] w1).drew.cell (by simp) r5, (Fr.refl [] w1).drew.cell (by simp) r6⟩ (fun hHeld => ?_))
    (refine wpAnyH_take (i := 0) (oi := ⟨some 13, _, _, _, _, _⟩) (v := ?_) rfl (by kernel_rfl) (by kernel_rfl) (by kernel_rfl) (fun _ _ _ h => h) (Or.inl ⟨by rfl, ?_⟩) (by assumption) ?_); rotate_left; focus (intro w hSw; (try dsimp only at hSw); go_split_ands; go_simp; try with_reducible rfl); (try simp only [Act.put, List.setIfInBounds_toArray, List.set_cons_zero, List.set_cons_succ])
    (refine wpAnyH_take (i := 1) (oi := ⟨some 14, _, _, _, _, _⟩) (v := ?_) rfl (by kernel_rfl) (by kernel_rfl) (by kernel_rfl) (fun _ _ _ h => h) (Or.inl ⟨by rfl, ?_⟩) (by assumption) ?_); rotate_left; focus (intro w hSw; (try dsimp only at hSw); go_split_ands; go_simp; try with_reducible rfl); (try simp only [Act.put, List.setIfInBounds_toArray, List.set_cons_zero, List.set_cons_succ])
    (refine wpAnyH_take (i := 2) (oi := ⟨some 15, _, _, _, _, _⟩) (v := ?_) rfl (by kernel_rfl) (by kernel_rfl) (by kernel_rfl) (fun _ _ _ h => h) (Or.inl ⟨by rfl, ?_⟩) (by assumption) ?_); rotate_left; focus (intro w hSw; (try dsimp only at hSw); go_split_ands; go_simp; try with_reducible rfl); (try simp only [Act.put, List.setIfInBounds_toArray, List.set_cons_zero, List.set_cons_succ])
    (refine wpAnyH_take (i := 3) (oi := ⟨some 16, _, _, _, _, _⟩) (v := ?_) rfl (by kernel_rfl) (by kernel_rfl) (by kernel_rfl) (fun _ _ _ h => h) (Or.inl ⟨by rfl, ?_⟩) (by assumption) ?_); rotate_left; focus (intro w hSw; (try dsimp only at hSw); go_split_ands; go_simp; try with_reducible rfl); (try simp only [Act.put, List.setIfInBounds_toArray, List.set_cons_zero, List.set_cons_succ])
    (refine wpAnyH_take (i := 4) (oi := ⟨some 17, _, _, _, _, _⟩) (v := ?_) rfl (by kernel_rfl) (by kernel_rfl) (by kernel_rfl) (fun _ _ _ h => h) (Or.inl ⟨by rfl, ?_⟩) (by assumption) ?_); rotate_left; focus (intro w hSw; (try dsimp only at hSw); go_split_ands; go_simp; try with_reducible rfl); (try simp only [Act.put, List.setIfInBounds_toArray, List.set_cons_zero, List.set_cons_succ])
    refine wpAnyH_ready (rs := [5]) (by kernel_rfl) (by simp) ?_
    refine AllReadyH.cons rfl (fun K hK => ?_) AllReadyH.nil
    go_simp
    refine (hw1 _).mono ?_
    rintro e w' ⟨rfl, rfl⟩
    refine hK.out _ _ (by assumption) (fun hHeld => ?_)
    clear hK
    (try simp only [Act.put, List.setIfInBounds_toArray, List.set_cons_zero, List.set_cons_succ])
    (refine wpAnyH_take (i := 6) (oi := ⟨some 19, _, _, _, _, _⟩) (v := ?_) rfl (by kernel_rfl) (by kernel_rfl) (by kernel_rfl) (fun _ _ _ h => h) (Or.inl ⟨by rfl, ?_⟩) (by assumption) ?_); rotate_left; focus (intro w hSw; (try dsimp only at hSw); go_split_ands; go_simp; try with_reducible rfl); (try simp only [Act.put, List.setIfInBounds_toArray, List.set_cons_zero, List.set_cons_succ])
    (refine wpAnyH_take (i := 7) (oi := ⟨some 20, _, _, _, _, _⟩) (v := ?_) rfl (by kernel_rfl) (by kernel_rfl) (by kernel_rfl) (fun _ _ _ h => h) (Or.inl ⟨by rfl, ?_⟩) (by assumption) ?_); rotate_left; focus (intro w hSw; (try dsimp only at hSw); go_split_ands; go_simp; try with_reducible rfl); (try simp only [Act.put, List.setIfInBounds_toArray, List.set_cons_zero, List.set_cons_succ])
    (refine wpAnyH_take (i := 8) (oi := ⟨some 21, _, _, _, _, _⟩) (v := ?_) rfl (by kernel_rfl) (by kernel_rfl) (by kernel_rfl) (fun _ _ _ h => h) (Or.inl ⟨by rfl, ?_⟩) (by assumption) ?_); rotate_left; focus (intro w hSw; (try dsimp only at hSw); go_split_ands; go_simp; try with_reducible rfl); (try simp only [Act.put, List.setIfInBounds_toArray, List.set_cons_zero, List.set_cons_succ])
    (refine wpAnyH_take (i := 9) (oi := ⟨some 22, _, _, _, _, _⟩) (v := ?_) rfl (by kernel_rfl) (by kernel_rfl) (by kernel_rfl) (fun _ _ _ h => h) (Or.inl ⟨by rfl, ?_⟩) (by assumption) ?_); rotate_left; focus (intro w hSw; (try dsimp only at hSw); go_split_ands; go_simp; try with_reducible rfl); (try simp only [Act.put, List.setIfInBounds_toArray, List.set_cons_zero, List.set_cons_succ])
    refine wpAnyH_ready (rs := [10]) (by kernel_rfl) (by simp) ?_
    refine AllReadyH.cons rfl (fun K hK => ?_) AllReadyH.nil
    go_simp
    refine (HSS.out _ (HF.out.trans (Fr.refl [] w1).drew)).mono ?_
    rintro e v1 ⟨rfl, hF1⟩
    have HG1 : Hid (Fr [] w1 v1) := ((Fr.refl [] w1).drew).trans hF1
    refine hK.out _ _ ⟨HG1.out.cell (by simp) k0, HG1.out.cell (by simp) k1, HG1.out.cell (by simp) k2, HG1.out.cell (by simp) k3, HG1.out.cell (by simp) r0, HG1.out.cell (by simp) r1, HG1.out.cell (by simp) r2, HG1.out.cell (by simp) r3, HG1.out.cell (by simp) r4, HG1.out.cell (by simp) r5, HG1.out.cell (by simp) r6⟩ (fun hHeld => ?_)
    clear hF1
    clear hK
    (try simp only [Act.put, List.setIfInBounds_toArray, List.set_cons_zero, List.set_cons_succ])
    (refine wpAnyH_take (i := 11) (oi := ⟨some 24, _, _, _, _, _⟩) (v := ?_) rfl (by kernel_rfl) (by kernel_rfl) (by kernel_rfl) (fun _ _ _ h => h) (Or.inl ⟨by rfl, ?_⟩) (by assumption) ?_); rotate_left; focus (intro w hSw; (try dsimp only at hSw); go_split_ands; go_simp; try with_reducible rfl); (try simp only [Act.put, List.setIfInBounds_toArray, List.set_cons_zero, List.set_cons_succ])
    (refine wpAnyH_take (i := 12) (oi := ⟨some 25, _, _, _, _, _⟩) (v := ?_) rfl (by kernel_rfl) (by kernel_rfl) (by kernel_rfl) (fun _ _ _ h => h) (Or.inl ⟨by rfl, ?_⟩) (by assumption) ?_); rotate_left; focus (intro w hSw; (try dsimp only at hSw); go_split_ands; go_simp; try with_reducible rfl); (try simp only [Act.put, List.setIfInBounds_toArray, List.set_cons_zero, List.set_cons_succ])
    ((refine wpAnyH_take (i := 13) (oi := ⟨some 26, _, _, _, _, _⟩) (v := undef) rfl (by kernel_rfl) (by kernel_rfl) (by kernel_rfl) (fun _ _ _ h => h) (Or.inr ⟨by rfl, by rfl⟩) (by assumption) ?_); (try simp only [Act.put, List.setIfInBounds_toArray, List.set_cons_zero, List.set_cons_succ]))
    ((refine wpAnyH_take (i := 14) (oi := ⟨some 27, _, _, _, _, _⟩) (v := undef) rfl (by kernel_rfl) (by kernel_rfl) (by kernel_rfl) (fun _ _ _ h => h) (Or.inr ⟨by rfl, by rfl⟩) (by assumption) ?_); (try simp only [Act.put, List.setIfInBounds_toArray, List.set_cons_zero, List.set_cons_succ]))
    ((refine wpAnyH_take (i := 15) (oi := ⟨some 28, _, _, _, _, _⟩) (v := undef) rfl (by kernel_rfl) (by kernel_rfl) (by kernel_rfl) (fun _ _ _ h => h) (Or.inr ⟨by rfl, by rfl⟩) (by assumption) ?_); (try simp only [Act.put, List.setIfInBounds_toArray, List.set_cons_zero, List.set_cons_succ]))
    (refine wpAnyH_take (i := 16) (oi := ⟨some 29, _, _, _, _, _⟩) (v := ?_) rfl (by kernel_rfl) (by kernel_rfl) (by kernel_rfl) (fun _ _ _ h => h) (Or.inl ⟨by rfl, ?_⟩) (by assumption) ?_); rotate_left; focus (intro w hSw; (try dsimp only at hSw); go_split_ands; go_simp; try with_reducible rfl); (try simp only [Act.put, List.setIfInBounds_toArray, List.set_cons_zero, List.set_cons_succ])
    (refine wpAnyH_take (i := 17) (oi := ⟨some 30, _, _, _, _, _⟩) (v := ?_) rfl (by kernel_rfl) (by kernel_rfl) (by kernel_rfl) (fun _ _ _ h => h) (Or.inl ⟨by rfl, ?_⟩) (by assumption) ?_); rotate_left; focus (intro w hSw; (try dsimp only at hSw); go_split_ands; go_simp; try with_reducible rfl); (try simp only [Act.put, List.setIfInBounds_toArray, List.set_cons_zero, List.set_cons_succ])
    ((refine wpAnyH_take (i := 18) (oi := ⟨some 31, _, _, _, _, _⟩) (v := undef) rfl (by kernel_rfl) (by kernel_rfl) (by kernel_rfl) (fun _ _ _ h => h) (Or.inr ⟨by rfl, by rfl⟩) (by assumption) ?_); (try simp only [Act.put, List.setIfInBounds_toArray, List.set_cons_zero, List.set_cons_succ]))
    ((refine wpAnyH_take (i := 19) (oi := ⟨some 32, _, _, _, _, _⟩) (v := undef) rfl (by kernel_rfl) (by kernel_rfl) (by kernel_rfl) (fun _ _ _ h => h) (Or.inr ⟨by rfl, by rfl⟩) (by assumption) ?_); (try simp only [Act.put, List.setIfInBounds_toArray, List.set_cons_zero, List.set_cons_succ]))
    ((refine wpAnyH_take (i := 20) (oi := ⟨some 33, _, _, _, _, _⟩) (v := undef) rfl (by kernel_rfl) (by kernel_rfl) (by kernel_rfl) (fun _ _ _ h => h) (Or.inr ⟨by rfl, by rfl⟩) (by assumption) ?_); (try simp only [Act.put, List.setIfInBounds_toArray, List.set_cons_zero, List.set_cons_succ]))
    ((refine wpAnyH_take (i := 21) (oi := ⟨some 34, _, _, _, _, _⟩) (v := undef) rfl (by kernel_rfl) (by kernel_rfl) (by kernel_rfl) (fun _ _ _ h => h) (Or.inr ⟨by rfl, by rfl⟩) (by assumption) ?_); (try simp only [Act.put, List.setIfInBounds_toArray, List.set_cons_zero, List.set_cons_succ]))
    ((refine wpAnyH_take (i := 22) (oi := ⟨some 35, _, _, _, _, _⟩) (v := undef) rfl (by kernel_rfl) (by kernel_rfl) (by kernel_rfl) (fun _ _ _ h => h) (Or.inr ⟨by rfl, by rfl⟩) (by assumption) ?_); (try simp only [Act.put, List.setIfInBounds_toArray, List.set_cons_zero, List.set_cons_succ]))
    ((refine wpAnyH_take (i := 23) (oi := ⟨some 36, _, _, _, _, _⟩) (v := undef) rfl (by kernel_rfl) (by kernel_rfl) (by kernel_rfl) (fun _ _ _ h => h) (Or.inr ⟨by rfl, by rfl⟩) (by assumption) ?_); (try simp only [Act.put, List.setIfInBounds_toArray, List.set_cons_zero, List.set_cons_succ]))
    ((refine wpAnyH_take (i := 24) (oi := ⟨some 37, _, _, _, _, _⟩) (v := undef) rfl (by kernel_rfl) (by kernel_rfl) (by kernel_rfl) (fun _ _ _ h => h) (Or.inr ⟨by rfl, by rfl⟩) (by assumption) ?_); (try simp only [Act.put, List.setIfInBounds_toArray, List.set_cons_zero, List.set_cons_succ]))
    (refine wpAnyH_take (i := 25) (oi := ⟨some 38, _, _, _, _, _⟩) (v := ?_) rfl (by kernel_rfl) (by kernel_rfl) (by kernel_rfl) (fun _ _ _ h => h) (Or.inl ⟨by rfl, ?_⟩) (by assumption) ?_); rotate_left; focus (intro w hSw; (try dsimp only at hSw); go_split_ands; go_simp; try with_reducible rfl); (try simp only [Act.put, List.setIfInBounds_toArray, List.set_cons_zero, List.set_cons_succ])
    (refine wpAnyH_take (i := 26) (oi := ⟨some 39, _, _, _, _, _⟩) (v := ?_) rfl (by kernel_rfl) (by kernel_rfl) (by kernel_rfl) (fun _ _ _ h => h) (Or.inl ⟨by rfl, ?_⟩) (by assumption) ?_); rotate_left; focus (intro w hSw; (try dsimp only at hSw); go_split_ands; go_simp; try with_reducible rfl); (try simp only [Act.put, List.setIfInBounds_toArray, List.set_cons_zero, List.set_cons_succ])
    ((refine wpAnyH_take (i := 27) (oi := ⟨some 40, _, _, _, _, _⟩) (v := undef) rfl (by kernel_rfl) (by kernel_rfl) (by kernel_rfl) (fun _ _ _ h => h) (Or.inr ⟨by rfl, by rfl⟩) (by assumption) ?_); (try simp only [Act.put, List.setIfInBounds_toArray, List.set_cons_zero, List.set_cons_succ]))
    ((refine wpAnyH_take (i := 28) (oi := ⟨some 41, _, _, _, _, _⟩) (v := undef) rfl (by kernel_rfl) (by kernel_rfl) (by kernel_rfl) (fun _ _ _ h => h) (Or.inr ⟨by rfl, by rfl⟩) (by assumption) ?_); (try simp only [Act.put, List.setIfInBounds_toArray, List.set_cons_zero, List.set_cons_succ]))
    (refine wpAnyH_take (i := 29) (oi := ⟨some 42, _, _, _, _, _⟩) (v := ?_) rfl (by kernel_rfl) (by kernel_rfl) (by kernel_rfl) (fun _ _ _ h => h) (Or.inl ⟨by rfl, ?_⟩) (by assumption) ?_); rotate_left; focus (intro w hSw; (try dsimp only at hSw); go_split_ands; go_simp; try with_reducible rfl); (try simp only [Act.put, List.setIfInBounds_toArray, List.set_cons_zero, List.set_cons_succ])
    (refine wpAnyH_take (i := 30) (oi := ⟨some 4, _, _, _, _, _⟩) (v := ?_) rfl (by kernel_rfl) (by kernel_rfl) (by kernel_rfl) (fun _ _ _ h => h) (Or.inl ⟨by rfl, ?_⟩) (by assumption) ?_); rotate_left; focus (intro w hSw; (try dsimp only at hSw); go_split_ands; go_simp; try with_reducible rfl); (try simp only [Act.put, List.setIfInBounds_toArray, List.set_cons_zero, List.set_cons_succ])
    refine wpAnyH_done (by kernel_rfl) (INorm.mk ?_) _
    (try simp only [Act.put, List.setIfInBounds_toArray, List.set_cons_zero, List.set_cons_succ])
    go_wp2_with fail
    go_ret
    exact ⟨ret1 (vb HO.out.symm), HF.out.trans (HG1.out)⟩
  · simp only [Bool.true_and, Bool.false_and] at HO
    go_enter Tryz.func47, Tryz.ntmps47
    go_wp2_with (go_at_call 67; refine (HTK.out _).mono ?_; rintro e w1 ⟨rfl, hF⟩; have HF : Hid (Fr [] w w1) := (((Fr.refl [] w).alloc _).alloc _).trans hF; have hb1 := hF.heap (by simp) (hp1 _ _ _); have hb2 := hF.heap (by simp) (hp2 _ _ _); have k0 := cell_of_heap (o := 0) hb1 rfl; have k1 := cell_of_heap (o := 1) hb1 rfl; have k2 := cell_of_heap (o := 2) hb1 rfl; have k3 := cell_of_heap (o := 3) hb1 rfl; have r0 := cell_of_heap (o := 0) hb2 rfl; have r1 := cell_of_heap (o := 1) hb2 rfl; have r2 := cell_of_heap (o := 2) hb2 rfl; have r3 := cell_of_heap (o := 3) hb2 rfl; have r4 := cell_of_heap (o := 4) hb2 rfl; have r5 := cell_of_heap (o := 5) hb2 rfl; have r6 := cell_of_heap (o := 6) hb2 rfl; clear hF hb1 hb2)
    have hmx : Tryz.prog.follows .mixedOrders = true := by kernel_rfl
    refine Code.wp_mono INorm.imp (wp_region_held_drew (S := fun w' => w'.cell? ⟨w.heap.size, 0, none⟩ = some (.int .i64 R) ∧ w'.cell? ⟨w.heap.size, 1, none⟩ = some (.int .i64 P) ∧ w'.cell? ⟨w.heap.size, 2, none⟩ = some (.int .i64 S) ∧ w'.cell? ⟨w.heap.size, 3, none⟩ = some (.int .i64 M) ∧ w'.cell? ⟨w.heap.size + 1, 0, none⟩ = some (.int .i64 op) ∧ w'.cell? ⟨w.heap.size + 1, 1, none⟩ = some (.int .i64 n) ∧ w'.cell? ⟨w.heap.size + 1, 2, none⟩ = some (.int .i64 dk) ∧ w'.cell? ⟨w.heap.size + 1, 3, none⟩ = some (.int .i64 dn) ∧ w'.cell? ⟨w.heap.size + 1, 4, none⟩ = some (.int .u64 dw) ∧ w'.cell? ⟨w.heap.size + 1, 5, none⟩ = some (.slice la ll lc) ∧ w'.cell? ⟨w.heap.size + 1, 6, none⟩ = some (.int .u64 x)) hmx ⟨(Fr.refl [] w1).drew.cell (by simp) k0, (Fr.refl [] w1).drew.cell (by simp) k1, (Fr.refl [] w1).drew.cell (by simp) k2, (Fr.refl [] w1).drew.cell (by simp) k3, (Fr.refl [] w1).drew.cell (by simp) r0, (Fr.refl [] w1).drew.cell (by simp) r1, (Fr.refl [] w1).drew.cell (by simp) r2, (Fr.refl [] w1).drew.cell (by simp) r3, (Fr.refl [] w1).drew.cell (by simp) r4, (Fr.refl [] w1).drew.cell (by simp) r5, (Fr.refl [] w1).drew.cell (by simp) r6⟩ (fun hHeld => ?_))
    (refine wpAnyH_take (i := 0) (oi := ⟨some 13, _, _, _, _, _⟩) (v := ?_) rfl (by kernel_rfl) (by kernel_rfl) (by kernel_rfl) (fun _ _ _ h => h) (Or.inl ⟨by rfl, ?_⟩) (by assumption) ?_); rotate_left; focus (intro w hSw; (try dsimp only at hSw); go_split_ands; go_simp; try with_reducible rfl); (try simp only [Act.put, List.setIfInBounds_toArray, List.set_cons_zero, List.set_cons_succ])
    (refine wpAnyH_take (i := 1) (oi := ⟨some 14, _, _, _, _, _⟩) (v := ?_) rfl (by kernel_rfl) (by kernel_rfl) (by kernel_rfl) (fun _ _ _ h => h) (Or.inl ⟨by rfl, ?_⟩) (by assumption) ?_); rotate_left; focus (intro w hSw; (try dsimp only at hSw); go_split_ands; go_simp; try with_reducible rfl); (try simp only [Act.put, List.setIfInBounds_toArray, List.set_cons_zero, List.set_cons_succ])
    (refine wpAnyH_take (i := 2) (oi := ⟨some 15, _, _, _, _, _⟩) (v := ?_) rfl (by kernel_rfl) (by kernel_rfl) (by kernel_rfl) (fun _ _ _ h => h) (Or.inl ⟨by rfl, ?_⟩) (by assumption) ?_); rotate_left; focus (intro w hSw; (try dsimp only at hSw); go_split_ands; go_simp; try with_reducible rfl); (try simp only [Act.put, List.setIfInBounds_toArray, List.set_cons_zero, List.set_cons_succ])
    (refine wpAnyH_take (i := 3) (oi := ⟨some 16, _, _, _, _, _⟩) (v := ?_) rfl (by kernel_rfl) (by kernel_rfl) (by kernel_rfl) (fun _ _ _ h => h) (Or.inl ⟨by rfl, ?_⟩) (by assumption) ?_); rotate_left; focus (intro w hSw; (try dsimp only at hSw); go_split_ands; go_simp; try with_reducible rfl); (try simp only [Act.put, List.setIfInBounds_toArray, List.set_cons_zero, List.set_cons_succ])
    (refine wpAnyH_take (i := 4) (oi := ⟨some 17, _, _, _, _, _⟩) (v := ?_) rfl (by kernel_rfl) (by kernel_rfl) (by kernel_rfl) (fun _ _ _ h => h) (Or.inl ⟨by rfl, ?_⟩) (by assumption) ?_); rotate_left; focus (intro w hSw; (try dsimp only at hSw); go_split_ands; go_simp; try with_reducible rfl); (try simp only [Act.put, List.setIfInBounds_toArray, List.set_cons_zero, List.set_cons_succ])
    refine wpAnyH_ready (rs := [5]) (by kernel_rfl) (by simp) ?_
    refine AllReadyH.cons rfl (fun K hK => ?_) AllReadyH.nil
    go_simp
    refine (hw1 _).mono ?_
    rintro e w' ⟨rfl, rfl⟩
    refine hK.out _ _ (by assumption) (fun hHeld => ?_)
    clear hK
    (try simp only [Act.put, List.setIfInBounds_toArray, List.set_cons_zero, List.set_cons_succ])
    (refine wpAnyH_take (i := 6) (oi := ⟨some 19, _, _, _, _, _⟩) (v := ?_) rfl (by kernel_rfl) (by kernel_rfl) (by kernel_rfl) (fun _ _ _ h => h) (Or.inl ⟨by rfl, ?_⟩) (by assumption) ?_); rotate_left; focus (intro w hSw; (try dsimp only at hSw); go_split_ands; go_simp; try with_reducible rfl); (try simp only [Act.put, List.setIfInBounds_toArray, List.set_cons_zero, List.set_cons_succ])
    (refine wpAnyH_take (i := 7) (oi := ⟨some 20, _, _, _, _, _⟩) (v := ?_) rfl (by kernel_rfl) (by kernel_rfl) (by kernel_rfl) (fun _ _ _ h => h) (Or.inl ⟨by rfl, ?_⟩) (by assumption) ?_); rotate_left; focus (intro w hSw; (try dsimp only at hSw); go_split_ands; go_simp; try with_reducible rfl); (try simp only [Act.put, List.setIfInBounds_toArray, List.set_cons_zero, List.set_cons_succ])
    (refine wpAnyH_take (i := 8) (oi := ⟨some 21, _, _, _, _, _⟩) (v := ?_) rfl (by kernel_rfl) (by kernel_rfl) (by kernel_rfl) (fun _ _ _ h => h) (Or.inl ⟨by rfl, ?_⟩) (by assumption) ?_); rotate_left; focus (intro w hSw; (try dsimp only at hSw); go_split_ands; go_simp; try with_reducible rfl); (try simp only [Act.put, List.setIfInBounds_toArray, List.set_cons_zero, List.set_cons_succ])
    (refine wpAnyH_take (i := 9) (oi := ⟨some 22, _, _, _, _, _⟩) (v := ?_) rfl (by kernel_rfl) (by kernel_rfl) (by kernel_rfl) (fun _ _ _ h => h) (Or.inl ⟨by rfl, ?_⟩) (by assumption) ?_); rotate_left; focus (intro w hSw; (try dsimp only at hSw); go_split_ands; go_simp; try with_reducible rfl); (try simp only [Act.put, List.setIfInBounds_toArray, List.set_cons_zero, List.set_cons_succ])
    refine wpAnyH_ready (rs := [10]) (by kernel_rfl) (by simp) ?_
    refine AllReadyH.cons rfl (fun K hK => ?_) AllReadyH.nil
    go_simp
    refine (HSS.out _ (HF.out.trans (Fr.refl [] w1).drew)).mono ?_
    rintro e v1 ⟨rfl, hF1⟩
    have HG1 : Hid (Fr [] w1 v1) := ((Fr.refl [] w1).drew).trans hF1
    refine hK.out _ _ ⟨HG1.out.cell (by simp) k0, HG1.out.cell (by simp) k1, HG1.out.cell (by simp) k2, HG1.out.cell (by simp) k3, HG1.out.cell (by simp) r0, HG1.out.cell (by simp) r1, HG1.out.cell (by simp) r2, HG1.out.cell (by simp) r3, HG1.out.cell (by simp) r4, HG1.out.cell (by simp) r5, HG1.out.cell (by simp) r6⟩ (fun hHeld => ?_)
    clear hF1
    clear hK
    (try simp only [Act.put, List.setIfInBounds_toArray, List.set_cons_zero, List.set_cons_succ])
    (refine wpAnyH_take (i := 11) (oi := ⟨some 24, _, _, _, _, _⟩) (v := ?_) rfl (by kernel_rfl) (by kernel_rfl) (by kernel_rfl) (fun _ _ _ h => h) (Or.inl ⟨by rfl, ?_⟩) (by assumption) ?_); rotate_left; focus (intro w hSw; (try dsimp only at hSw); go_split_ands; go_simp; try with_reducible rfl); (try simp only [Act.put, List.setIfInBounds_toArray, List.set_cons_zero, List.set_cons_succ])
    (refine wpAnyH_take (i := 12) (oi := ⟨some 25, _, _, _, _, _⟩) (v := ?_) rfl (by kernel_rfl) (by kernel_rfl) (by kernel_rfl) (fun _ _ _ h => h) (Or.inl ⟨by rfl, ?_⟩) (by assumption) ?_); rotate_left; focus (intro w hSw; (try dsimp only at hSw); go_split_ands; go_simp; try with_reducible rfl); (try simp only [Act.put, List.setIfInBounds_toArray, List.set_cons_zero, List.set_cons_succ])
    (refine wpAnyH_take (i := 13) (oi := ⟨some 26, _, _, _, _, _⟩) (v := ?_) rfl (by kernel_rfl) (by kernel_rfl) (by kernel_rfl) (fun _ _ _ h => h) (Or.inl ⟨by rfl, ?_⟩) (by assumption) ?_); rotate_left; focus (intro w hSw; (try dsimp only at hSw); go_split_ands; go_simp; try with_reducible rfl); (try simp only [Act.put, List.setIfInBounds_toArray, List.set_cons_zero, List.set_cons_succ])
    (refine wpAnyH_take (i := 14) (oi := ⟨some 27, _, _, _, _, _⟩) (v := ?_) rfl (by kernel_rfl) (by kernel_rfl) (by kernel_rfl) (fun _ _ _ h => h) (Or.inl ⟨by rfl, ?_⟩) (by assumption) ?_); rotate_left; focus (intro w hSw; (try dsimp only at hSw); go_split_ands; go_simp; try with_reducible rfl); (try simp only [Act.put, List.setIfInBounds_toArray, List.set_cons_zero, List.set_cons_succ])
    refine wpAnyH_ready (rs := [15]) (by kernel_rfl) (by simp) ?_
    refine AllReadyH.cons rfl (fun K hK => ?_) AllReadyH.nil
    go_simp
    refine (hr _).mono ?_
    rintro e v2 ⟨rfl, hF2⟩
    have HG2 : Hid (Fr [] w1 v2) := (HG1.out).trans hF2
    refine hK.out _ _ ⟨HG2.out.cell (by simp) k0, HG2.out.cell (by simp) k1, HG2.out.cell (by simp) k2, HG2.out.cell (by simp) k3, HG2.out.cell (by simp) r0, HG2.out.cell (by simp) r1, HG2.out.cell (by simp) r2, HG2.out.cell (by simp) r3, HG2.out.cell (by simp) r4, HG2.out.cell (by simp) r5, HG2.out.cell (by simp) r6⟩ (fun hHeld => ?_)
    clear hF2
    clear hK
    (try simp only [Act.put, List.setIfInBounds_toArray, List.set_cons_zero, List.set_cons_succ])
    (refine wpAnyH_take (i := 16) (oi := ⟨some 29, _, _, _, _, _⟩) (v := ?_) rfl (by kernel_rfl) (by kernel_rfl) (by kernel_rfl) (fun _ _ _ h => h) (Or.inl ⟨by rfl, ?_⟩) (by assumption) ?_); rotate_left; focus (intro w hSw; (try dsimp only at hSw); go_split_ands; go_simp; try with_reducible rfl); (try simp only [Act.put, List.setIfInBounds_toArray, List.set_cons_zero, List.set_cons_succ])
    (refine wpAnyH_take (i := 17) (oi := ⟨some 30, _, _, _, _, _⟩) (v := ?_) rfl (by kernel_rfl) (by kernel_rfl) (by kernel_rfl) (fun _ _ _ h => h) (Or.inl ⟨by rfl, ?_⟩) (by assumption) ?_); rotate_left; focus (intro w hSw; (try dsimp only at hSw); go_split_ands; go_simp; try with_reducible rfl); (try simp only [Act.put, List.setIfInBounds_toArray, List.set_cons_zero, List.set_cons_succ])
    ((refine wpAnyH_take (i := 18) (oi := ⟨some 31, _, _, _, _, _⟩) (v := undef) rfl (by kernel_rfl) (by kernel_rfl) (by kernel_rfl) (fun _ _ _ h => h) (Or.inr ⟨by rfl, by rfl⟩) (by assumption) ?_); (try simp only [Act.put, List.setIfInBounds_toArray, List.set_cons_zero, List.set_cons_succ]))
    ((refine wpAnyH_take (i := 19) (oi := ⟨some 32, _, _, _, _, _⟩) (v := undef) rfl (by kernel_rfl) (by kernel_rfl) (by kernel_rfl) (fun _ _ _ h => h) (Or.inr ⟨by rfl, by rfl⟩) (by assumption) ?_); (try simp only [Act.put, List.setIfInBounds_toArray, List.set_cons_zero, List.set_cons_succ]))
    ((refine wpAnyH_take (i := 20) (oi := ⟨some 33, _, _, _, _, _⟩) (v := undef) rfl (by kernel_rfl) (by kernel_rfl) (by kernel_rfl) (fun _ _ _ h => h) (Or.inr ⟨by rfl, by rfl⟩) (by assumption) ?_); (try simp only [Act.put, List.setIfInBounds_toArray, List.set_cons_zero, List.set_cons_succ]))
    ((refine wpAnyH_take (i := 21) (oi := ⟨some 34, _, _, _, _, _⟩) (v := undef) rfl (by kernel_rfl) (by kernel_rfl) (by kernel_rfl) (fun _ _ _ h => h) (Or.inr ⟨by rfl, by rfl⟩) (by assumption) ?_); (try simp only [Act.put, List.setIfInBounds_toArray, List.set_cons_zero, List.set_cons_succ]))
    ((refine wpAnyH_take (i := 22) (oi := ⟨some 35, _, _, _, _, _⟩) (v := undef) rfl (by kernel_rfl) (by kernel_rfl) (by kernel_rfl) (fun _ _ _ h => h) (Or.inr ⟨by rfl, by rfl⟩) (by assumption) ?_); (try simp only [Act.put, List.setIfInBounds_toArray, List.set_cons_zero, List.set_cons_succ]))
    ((refine wpAnyH_take (i := 23) (oi := ⟨some 36, _, _, _, _, _⟩) (v := undef) rfl (by kernel_rfl) (by kernel_rfl) (by kernel_rfl) (fun _ _ _ h => h) (Or.inr ⟨by rfl, by rfl⟩) (by assumption) ?_); (try simp only [Act.put, List.setIfInBounds_toArray, List.set_cons_zero, List.set_cons_succ]))
    ((refine wpAnyH_take (i := 24) (oi := ⟨some 37, _, _, _, _, _⟩) (v := undef) rfl (by kernel_rfl) (by kernel_rfl) (by kernel_rfl) (fun _ _ _ h => h) (Or.inr ⟨by rfl, by rfl⟩) (by assumption) ?_); (try simp only [Act.put, List.setIfInBounds_toArray, List.set_cons_zero, List.set_cons_succ]))
    (refine wpAnyH_take (i := 25) (oi := ⟨some 38, _, _, _, _, _⟩) (v := ?_) rfl (by kernel_rfl) (by kernel_rfl) (by kernel_rfl) (fun _ _ _ h => h) (Or.inl ⟨by rfl, ?_⟩) (by assumption) ?_); rotate_left; focus (intro w hSw; (try dsimp only at hSw); go_split_ands; go_simp; try with_reducible rfl); (try simp only [Act.put, List.setIfInBounds_toArray, List.set_cons_zero, List.set_cons_succ])
    (refine wpAnyH_take (i := 26) (oi := ⟨some 39, _, _, _, _, _⟩) (v := ?_) rfl (by kernel_rfl) (by kernel_rfl) (by kernel_rfl) (fun _ _ _ h => h) (Or.inl ⟨by rfl, ?_⟩) (by assumption) ?_); rotate_left; focus (intro w hSw; (try dsimp only at hSw); go_split_ands; go_simp; try with_reducible rfl); (try simp only [Act.put, List.setIfInBounds_toArray, List.set_cons_zero, List.set_cons_succ])
    ((refine wpAnyH_take (i := 27) (oi := ⟨some 40, _, _, _, _, _⟩) (v := undef) rfl (by kernel_rfl) (by kernel_rfl) (by kernel_rfl) (fun _ _ _ h => h) (Or.inr ⟨by rfl, by rfl⟩) (by assumption) ?_); (try simp only [Act.put, List.setIfInBounds_toArray, List.set_cons_zero, List.set_cons_succ]))
    ((refine wpAnyH_take (i := 28) (oi := ⟨some 41, _, _, _, _, _⟩) (v := undef) rfl (by kernel_rfl) (by kernel_rfl) (by kernel_rfl) (fun _ _ _ h => h) (Or.inr ⟨by rfl, by rfl⟩) (by assumption) ?_); (try simp only [Act.put, List.setIfInBounds_toArray, List.set_cons_zero, List.set_cons_succ]))
    (refine wpAnyH_take (i := 29) (oi := ⟨some 42, _, _, _, _, _⟩) (v := ?_) rfl (by kernel_rfl) (by kernel_rfl) (by kernel_rfl) (fun _ _ _ h => h) (Or.inl ⟨by rfl, ?_⟩) (by assumption) ?_); rotate_left; focus (intro w hSw; (try dsimp only at hSw); go_split_ands; go_simp; try with_reducible rfl); (try simp only [Act.put, List.setIfInBounds_toArray, List.set_cons_zero, List.set_cons_succ])
    (refine wpAnyH_take (i := 30) (oi := ⟨some 4, _, _, _, _, _⟩) (v := ?_) rfl (by kernel_rfl) (by kernel_rfl) (by kernel_rfl) (fun _ _ _ h => h) (Or.inl ⟨by rfl, ?_⟩) (by assumption) ?_); rotate_left; focus (intro w hSw; (try dsimp only at hSw); go_split_ands; go_simp; try with_reducible rfl); (try simp only [Act.put, List.setIfInBounds_toArray, List.set_cons_zero, List.set_cons_succ])
    refine wpAnyH_done (by kernel_rfl) (INorm.mk ?_) _
    (try simp only [Act.put, List.setIfInBounds_toArray, List.set_cons_zero, List.set_cons_succ])
    go_wp2_with fail
    go_ret
    exact ⟨ret1 (vb HO.out.symm), HF.out.trans (HG2.out)⟩
  · simp only [Bool.true_and, Bool.false_and] at HO
    go_enter Tryz.func47, Tryz.ntmps47
    go_wp2_with (go_at_call 67; refine (HTK.out _).mono ?_; rintro e w1 ⟨rfl, hF⟩; have HF : Hid (Fr [] w w1) := (((Fr.refl [] w).alloc _).alloc _).trans hF; have hb1 := hF.heap (by simp) (hp1 _ _ _); have hb2 := hF.heap (by simp) (hp2 _ _ _); have k0 := cell_of_heap (o := 0) hb1 rfl; have k1 := cell_of_heap (o := 1) hb1 rfl; have k2 := cell_of_heap (o := 2) hb1 rfl; have k3 := cell_of_heap (o := 3) hb1 rfl; have r0 := cell_of_heap (o := 0) hb2 rfl; have r1 := cell_of_heap (o := 1) hb2 rfl; have r2 := cell_of_heap (o := 2) hb2 rfl; have r3 := cell_of_heap (o := 3) hb2 rfl; have r4 := cell_of_heap (o := 4) hb2 rfl; have r5 := cell_of_heap (o := 5) hb2 rfl; have r6 := cell_of_heap (o := 6) hb2 rfl; clear hF hb1 hb2)
    have hmx : Tryz.prog.follows .mixedOrders = true := by kernel_rfl
    refine Code.wp_mono INorm.imp (wp_region_held_drew (S := fun w' => w'.cell? ⟨w.heap.size, 0, none⟩ = some (.int .i64 R) ∧ w'.cell? ⟨w.heap.size, 1, none⟩ = some (.int .i64 P) ∧ w'.cell? ⟨w.heap.size, 2, none⟩ = some (.int .i64 S) ∧ w'.cell? ⟨w.heap.size, 3, none⟩ = some (.int .i64 M) ∧ w'.cell? ⟨w.heap.size + 1, 0, none⟩ = some (.int .i64 op) ∧ w'.cell? ⟨w.heap.size + 1, 1, none⟩ = some (.int .i64 n) ∧ w'.cell? ⟨w.heap.size + 1, 2, none⟩ = some (.int .i64 dk) ∧ w'.cell? ⟨w.heap.size + 1, 3, none⟩ = some (.int .i64 dn) ∧ w'.cell? ⟨w.heap.size + 1, 4, none⟩ = some (.int .u64 dw) ∧ w'.cell? ⟨w.heap.size + 1, 5, none⟩ = some (.slice la ll lc) ∧ w'.cell? ⟨w.heap.size + 1, 6, none⟩ = some (.int .u64 x)) hmx ⟨(Fr.refl [] w1).drew.cell (by simp) k0, (Fr.refl [] w1).drew.cell (by simp) k1, (Fr.refl [] w1).drew.cell (by simp) k2, (Fr.refl [] w1).drew.cell (by simp) k3, (Fr.refl [] w1).drew.cell (by simp) r0, (Fr.refl [] w1).drew.cell (by simp) r1, (Fr.refl [] w1).drew.cell (by simp) r2, (Fr.refl [] w1).drew.cell (by simp) r3, (Fr.refl [] w1).drew.cell (by simp) r4, (Fr.refl [] w1).drew.cell (by simp) r5, (Fr.refl [] w1).drew.cell (by simp) r6⟩ (fun hHeld => ?_))
    (refine wpAnyH_take (i := 0) (oi := ⟨some 13, _, _, _, _, _⟩) (v := ?_) rfl (by kernel_rfl) (by kernel_rfl) (by kernel_rfl) (fun _ _ _ h => h) (Or.inl ⟨by rfl, ?_⟩) (by assumption) ?_); rotate_left; focus (intro w hSw; (try dsimp only at hSw); go_split_ands; go_simp; try with_reducible rfl); (try simp only [Act.put, List.setIfInBounds_toArray, List.set_cons_zero, List.set_cons_succ])
    (refine wpAnyH_take (i := 1) (oi := ⟨some 14, _, _, _, _, _⟩) (v := ?_) rfl (by kernel_rfl) (by kernel_rfl) (by kernel_rfl) (fun _ _ _ h => h) (Or.inl ⟨by rfl, ?_⟩) (by assumption) ?_); rotate_left; focus (intro w hSw; (try dsimp only at hSw); go_split_ands; go_simp; try with_reducible rfl); (try simp only [Act.put, List.setIfInBounds_toArray, List.set_cons_zero, List.set_cons_succ])
    (refine wpAnyH_take (i := 2) (oi := ⟨some 15, _, _, _, _, _⟩) (v := ?_) rfl (by kernel_rfl) (by kernel_rfl) (by kernel_rfl) (fun _ _ _ h => h) (Or.inl ⟨by rfl, ?_⟩) (by assumption) ?_); rotate_left; focus (intro w hSw; (try dsimp only at hSw); go_split_ands; go_simp; try with_reducible rfl); (try simp only [Act.put, List.setIfInBounds_toArray, List.set_cons_zero, List.set_cons_succ])
    (refine wpAnyH_take (i := 3) (oi := ⟨some 16, _, _, _, _, _⟩) (v := ?_) rfl (by kernel_rfl) (by kernel_rfl) (by kernel_rfl) (fun _ _ _ h => h) (Or.inl ⟨by rfl, ?_⟩) (by assumption) ?_); rotate_left; focus (intro w hSw; (try dsimp only at hSw); go_split_ands; go_simp; try with_reducible rfl); (try simp only [Act.put, List.setIfInBounds_toArray, List.set_cons_zero, List.set_cons_succ])
    (refine wpAnyH_take (i := 4) (oi := ⟨some 17, _, _, _, _, _⟩) (v := ?_) rfl (by kernel_rfl) (by kernel_rfl) (by kernel_rfl) (fun _ _ _ h => h) (Or.inl ⟨by rfl, ?_⟩) (by assumption) ?_); rotate_left; focus (intro w hSw; (try dsimp only at hSw); go_split_ands; go_simp; try with_reducible rfl); (try simp only [Act.put, List.setIfInBounds_toArray, List.set_cons_zero, List.set_cons_succ])
    refine wpAnyH_ready (rs := [5]) (by kernel_rfl) (by simp) ?_
    refine AllReadyH.cons rfl (fun K hK => ?_) AllReadyH.nil
    go_simp
    refine (hw1 _).mono ?_
    rintro e w' ⟨rfl, rfl⟩
    refine hK.out _ _ (by assumption) (fun hHeld => ?_)
    clear hK
    (try simp only [Act.put, List.setIfInBounds_toArray, List.set_cons_zero, List.set_cons_succ])
    (refine wpAnyH_take (i := 6) (oi := ⟨some 19, _, _, _, _, _⟩) (v := ?_) rfl (by kernel_rfl) (by kernel_rfl) (by kernel_rfl) (fun _ _ _ h => h) (Or.inl ⟨by rfl, ?_⟩) (by assumption) ?_); rotate_left; focus (intro w hSw; (try dsimp only at hSw); go_split_ands; go_simp; try with_reducible rfl); (try simp only [Act.put, List.setIfInBounds_toArray, List.set_cons_zero, List.set_cons_succ])
    (refine wpAnyH_take (i := 7) (oi := ⟨some 20, _, _, _, _, _⟩) (v := ?_) rfl (by kernel_rfl) (by kernel_rfl) (by kernel_rfl) (fun _ _ _ h => h) (Or.inl ⟨by rfl, ?_⟩) (by assumption) ?_); rotate_left; focus (intro w hSw; (try dsimp only at hSw); go_split_ands; go_simp; try with_reducible rfl); (try simp only [Act.put, List.setIfInBounds_toArray, List.set_cons_zero, List.set_cons_succ])
    (refine wpAnyH_take (i := 8) (oi := ⟨some 21, _, _, _, _, _⟩) (v := ?_) rfl (by kernel_rfl) (by kernel_rfl) (by kernel_rfl) (fun _ _ _ h => h) (Or.inl ⟨by rfl, ?_⟩) (by assumption) ?_); rotate_left; focus (intro w hSw; (try dsimp only at hSw); go_split_ands; go_simp; try with_reducible rfl); (try simp only [Act.put, List.setIfInBounds_toArray, List.set_cons_zero, List.set_cons_succ])
    (refine wpAnyH_take (i := 9) (oi := ⟨some 22, _, _, _, _, _⟩) (v := ?_) rfl (by kernel_rfl) (by kernel_rfl) (by kernel_rfl) (fun _ _ _ h => h) (Or.inl ⟨by rfl, ?_⟩) (by assumption) ?_); rotate_left; focus (intro w hSw; (try dsimp only at hSw); go_split_ands; go_simp; try with_reducible rfl); (try simp only [Act.put, List.setIfInBounds_toArray, List.set_cons_zero, List.set_cons_succ])
    refine wpAnyH_ready (rs := [10]) (by kernel_rfl) (by simp) ?_
    refine AllReadyH.cons rfl (fun K hK => ?_) AllReadyH.nil
    go_simp
    refine (HSS.out _ (HF.out.trans (Fr.refl [] w1).drew)).mono ?_
    rintro e v1 ⟨rfl, hF1⟩
    have HG1 : Hid (Fr [] w1 v1) := ((Fr.refl [] w1).drew).trans hF1
    refine hK.out _ _ ⟨HG1.out.cell (by simp) k0, HG1.out.cell (by simp) k1, HG1.out.cell (by simp) k2, HG1.out.cell (by simp) k3, HG1.out.cell (by simp) r0, HG1.out.cell (by simp) r1, HG1.out.cell (by simp) r2, HG1.out.cell (by simp) r3, HG1.out.cell (by simp) r4, HG1.out.cell (by simp) r5, HG1.out.cell (by simp) r6⟩ (fun hHeld => ?_)
    clear hF1
    clear hK
    (try simp only [Act.put, List.setIfInBounds_toArray, List.set_cons_zero, List.set_cons_succ])
    (refine wpAnyH_take (i := 11) (oi := ⟨some 24, _, _, _, _, _⟩) (v := ?_) rfl (by kernel_rfl) (by kernel_rfl) (by kernel_rfl) (fun _ _ _ h => h) (Or.inl ⟨by rfl, ?_⟩) (by assumption) ?_); rotate_left; focus (intro w hSw; (try dsimp only at hSw); go_split_ands; go_simp; try with_reducible rfl); (try simp only [Act.put, List.setIfInBounds_toArray, List.set_cons_zero, List.set_cons_succ])
    (refine wpAnyH_take (i := 12) (oi := ⟨some 25, _, _, _, _, _⟩) (v := ?_) rfl (by kernel_rfl) (by kernel_rfl) (by kernel_rfl) (fun _ _ _ h => h) (Or.inl ⟨by rfl, ?_⟩) (by assumption) ?_); rotate_left; focus (intro w hSw; (try dsimp only at hSw); go_split_ands; go_simp; try with_reducible rfl); (try simp only [Act.put, List.setIfInBounds_toArray, List.set_cons_zero, List.set_cons_succ])
    (refine wpAnyH_take (i := 13) (oi := ⟨some 26, _, _, _, _, _⟩) (v := ?_) rfl (by kernel_rfl) (by kernel_rfl) (by kernel_rfl) (fun _ _ _ h => h) (Or.inl ⟨by rfl, ?_⟩) (by assumption) ?_); rotate_left; focus (intro w hSw; (try dsimp only at hSw); go_split_ands; go_simp; try with_reducible rfl); (try simp only [Act.put, List.setIfInBounds_toArray, List.set_cons_zero, List.set_cons_succ])
    (refine wpAnyH_take (i := 14) (oi := ⟨some 27, _, _, _, _, _⟩) (v := ?_) rfl (by kernel_rfl) (by kernel_rfl) (by kernel_rfl) (fun _ _ _ h => h) (Or.inl ⟨by rfl, ?_⟩) (by assumption) ?_); rotate_left; focus (intro w hSw; (try dsimp only at hSw); go_split_ands; go_simp; try with_reducible rfl); (try simp only [Act.put, List.setIfInBounds_toArray, List.set_cons_zero, List.set_cons_succ])
    refine wpAnyH_ready (rs := [15]) (by kernel_rfl) (by simp) ?_
    refine AllReadyH.cons rfl (fun K hK => ?_) AllReadyH.nil
    go_simp
    refine (hr _).mono ?_
    rintro e v2 ⟨rfl, hF2⟩
    have HG2 : Hid (Fr [] w1 v2) := (HG1.out).trans hF2
    refine hK.out _ _ ⟨HG2.out.cell (by simp) k0, HG2.out.cell (by simp) k1, HG2.out.cell (by simp) k2, HG2.out.cell (by simp) k3, HG2.out.cell (by simp) r0, HG2.out.cell (by simp) r1, HG2.out.cell (by simp) r2, HG2.out.cell (by simp) r3, HG2.out.cell (by simp) r4, HG2.out.cell (by simp) r5, HG2.out.cell (by simp) r6⟩ (fun hHeld => ?_)
    clear hF2
    clear hK
    (try simp only [Act.put, List.setIfInBounds_toArray, List.set_cons_zero, List.set_cons_succ])
    (refine wpAnyH_take (i := 16) (oi := ⟨some 29, _, _, _, _, _⟩) (v := ?_) rfl (by kernel_rfl) (by kernel_rfl) (by kernel_rfl) (fun _ _ _ h => h) (Or.inl ⟨by rfl, ?_⟩) (by assumption) ?_); rotate_left; focus (intro w hSw; (try dsimp only at hSw); go_split_ands; go_simp; try with_reducible rfl); (try simp only [Act.put, List.setIfInBounds_toArray, List.set_cons_zero, List.set_cons_succ])
    (refine wpAnyH_take (i := 17) (oi := ⟨some 30, _, _, _, _, _⟩) (v := ?_) rfl (by kernel_rfl) (by kernel_rfl) (by kernel_rfl) (fun _ _ _ h => h) (Or.inl ⟨by rfl, ?_⟩) (by assumption) ?_); rotate_left; focus (intro w hSw; (try dsimp only at hSw); go_split_ands; go_simp; try with_reducible rfl); (try simp only [Act.put, List.setIfInBounds_toArray, List.set_cons_zero, List.set_cons_succ])
    (refine wpAnyH_take (i := 18) (oi := ⟨some 31, _, _, _, _, _⟩) (v := ?_) rfl (by kernel_rfl) (by kernel_rfl) (by kernel_rfl) (fun _ _ _ h => h) (Or.inl ⟨by rfl, ?_⟩) (by assumption) ?_); rotate_left; focus (intro w hSw; (try dsimp only at hSw); go_split_ands; go_simp; try with_reducible rfl); (try simp only [Act.put, List.setIfInBounds_toArray, List.set_cons_zero, List.set_cons_succ])
    (refine wpAnyH_take (i := 19) (oi := ⟨some 32, _, _, _, _, _⟩) (v := ?_) rfl (by kernel_rfl) (by kernel_rfl) (by kernel_rfl) (fun _ _ _ h => h) (Or.inl ⟨by rfl, ?_⟩) (by assumption) ?_); rotate_left; focus (intro w hSw; (try dsimp only at hSw); go_split_ands; go_simp; try with_reducible rfl); (try simp only [Act.put, List.setIfInBounds_toArray, List.set_cons_zero, List.set_cons_succ])
    (refine wpAnyH_take (i := 20) (oi := ⟨some 33, _, _, _, _, _⟩) (v := ?_) rfl (by kernel_rfl) (by kernel_rfl) (by kernel_rfl) (fun _ _ _ h => h) (Or.inl ⟨by rfl, ?_⟩) (by assumption) ?_); rotate_left; focus (intro w hSw; (try dsimp only at hSw); go_split_ands; go_simp; try with_reducible rfl); (try simp only [Act.put, List.setIfInBounds_toArray, List.set_cons_zero, List.set_cons_succ])
    (refine wpAnyH_take (i := 21) (oi := ⟨some 34, _, _, _, _, _⟩) (v := ?_) rfl (by kernel_rfl) (by kernel_rfl) (by kernel_rfl) (fun _ _ _ h => h) (Or.inl ⟨by rfl, ?_⟩) (by assumption) ?_); rotate_left; focus (intro w hSw; (try dsimp only at hSw); go_split_ands; go_simp; try with_reducible rfl); (try simp only [Act.put, List.setIfInBounds_toArray, List.set_cons_zero, List.set_cons_succ])
    (refine wpAnyH_take (i := 22) (oi := ⟨some 35, _, _, _, _, _⟩) (v := ?_) rfl (by kernel_rfl) (by kernel_rfl) (by kernel_rfl) (fun _ _ _ h => h) (Or.inl ⟨by rfl, ?_⟩) (by assumption) ?_); rotate_left; focus (intro w hSw; (try dsimp only at hSw); go_split_ands; go_simp; try with_reducible rfl); (try simp only [Act.put, List.setIfInBounds_toArray, List.set_cons_zero, List.set_cons_succ])
    refine wpAnyH_ready (rs := [23]) (by kernel_rfl) (by simp) ?_
    refine AllReadyH.cons rfl (fun K hK => ?_) AllReadyH.nil
    go_simp
    refine (hg _).mono ?_
    rintro e v3 ⟨rfl, hF3⟩
    have HG3 : Hid (Fr [] w1 v3) := (HG2.out).trans hF3
    refine hK.out _ _ ⟨HG3.out.cell (by simp) k0, HG3.out.cell (by simp) k1, HG3.out.cell (by simp) k2, HG3.out.cell (by simp) k3, HG3.out.cell (by simp) r0, HG3.out.cell (by simp) r1, HG3.out.cell (by simp) r2, HG3.out.cell (by simp) r3, HG3.out.cell (by simp) r4, HG3.out.cell (by simp) r5, HG3.out.cell (by simp) r6⟩ (fun hHeld => ?_)
    clear hF3
    clear hK
    (try simp only [Act.put, List.setIfInBounds_toArray, List.set_cons_zero, List.set_cons_succ])
    refine wpAnyH_ready (rs := [24]) (by kernel_rfl) (by simp) ?_
    refine AllReadyH.cons rfl (fun K hK => ?_) AllReadyH.nil
    go_simp
    refine (hw2 _).mono ?_
    rintro e w' ⟨rfl, rfl⟩
    refine hK.out _ _ (by assumption) (fun hHeld => ?_)
    clear hK
    (try simp only [Act.put, List.setIfInBounds_toArray, List.set_cons_zero, List.set_cons_succ])
    (refine wpAnyH_take (i := 25) (oi := ⟨some 38, _, _, _, _, _⟩) (v := ?_) rfl (by kernel_rfl) (by kernel_rfl) (by kernel_rfl) (fun _ _ _ h => h) (Or.inl ⟨by rfl, ?_⟩) (by assumption) ?_); rotate_left; focus (intro w hSw; (try dsimp only at hSw); go_split_ands; go_simp; try with_reducible rfl); (try simp only [Act.put, List.setIfInBounds_toArray, List.set_cons_zero, List.set_cons_succ])
    (refine wpAnyH_take (i := 26) (oi := ⟨some 39, _, _, _, _, _⟩) (v := ?_) rfl (by kernel_rfl) (by kernel_rfl) (by kernel_rfl) (fun _ _ _ h => h) (Or.inl ⟨by rfl, ?_⟩) (by assumption) ?_); rotate_left; focus (intro w hSw; (try dsimp only at hSw); go_split_ands; go_simp; try with_reducible rfl); (try simp only [Act.put, List.setIfInBounds_toArray, List.set_cons_zero, List.set_cons_succ])
    ((refine wpAnyH_take (i := 27) (oi := ⟨some 40, _, _, _, _, _⟩) (v := undef) rfl (by kernel_rfl) (by kernel_rfl) (by kernel_rfl) (fun _ _ _ h => h) (Or.inr ⟨by rfl, by rfl⟩) (by assumption) ?_); (try simp only [Act.put, List.setIfInBounds_toArray, List.set_cons_zero, List.set_cons_succ]))
    ((refine wpAnyH_take (i := 28) (oi := ⟨some 41, _, _, _, _, _⟩) (v := undef) rfl (by kernel_rfl) (by kernel_rfl) (by kernel_rfl) (fun _ _ _ h => h) (Or.inr ⟨by rfl, by rfl⟩) (by assumption) ?_); (try simp only [Act.put, List.setIfInBounds_toArray, List.set_cons_zero, List.set_cons_succ]))
    (refine wpAnyH_take (i := 29) (oi := ⟨some 42, _, _, _, _, _⟩) (v := ?_) rfl (by kernel_rfl) (by kernel_rfl) (by kernel_rfl) (fun _ _ _ h => h) (Or.inl ⟨by rfl, ?_⟩) (by assumption) ?_); rotate_left; focus (intro w hSw; (try dsimp only at hSw); go_split_ands; go_simp; try with_reducible rfl); (try simp only [Act.put, List.setIfInBounds_toArray, List.set_cons_zero, List.set_cons_succ])
    (refine wpAnyH_take (i := 30) (oi := ⟨some 4, _, _, _, _, _⟩) (v := ?_) rfl (by kernel_rfl) (by kernel_rfl) (by kernel_rfl) (fun _ _ _ h => h) (Or.inl ⟨by rfl, ?_⟩) (by assumption) ?_); rotate_left; focus (intro w hSw; (try dsimp only at hSw); go_split_ands; go_simp; try with_reducible rfl); (try simp only [Act.put, List.setIfInBounds_toArray, List.set_cons_zero, List.set_cons_succ])
    refine wpAnyH_done (by kernel_rfl) (INorm.mk ?_) _
    (try simp only [Act.put, List.setIfInBounds_toArray, List.set_cons_zero, List.set_cons_succ])
    go_wp2_with fail
    go_ret
    exact ⟨ret1 (vb HO.out.symm), HF.out.trans (HG3.out)⟩
  · simp only [Bool.true_and] at HO
    go_enter Tryz.func47, Tryz.ntmps47
    go_wp2_with (go_at_call 67; refine (HTK.out _).mono ?_; rintro e w1 ⟨rfl, hF⟩; have HF : Hid (Fr [] w w1) := (((Fr.refl [] w).alloc _).alloc _).trans hF; have hb1 := hF.heap (by simp) (hp1 _ _ _); have hb2 := hF.heap (by simp) (hp2 _ _ _); have k0 := cell_of_heap (o := 0) hb1 rfl; have k1 := cell_of_heap (o := 1) hb1 rfl; have k2 := cell_of_heap (o := 2) hb1 rfl; have k3 := cell_of_heap (o := 3) hb1 rfl; have r0 := cell_of_heap (o := 0) hb2 rfl; have r1 := cell_of_heap (o := 1) hb2 rfl; have r2 := cell_of_heap (o := 2) hb2 rfl; have r3 := cell_of_heap (o := 3) hb2 rfl; have r4 := cell_of_heap (o := 4) hb2 rfl; have r5 := cell_of_heap (o := 5) hb2 rfl; have r6 := cell_of_heap (o := 6) hb2 rfl; clear hF hb1 hb2)
    have hmx : Tryz.prog.follows .mixedOrders = true := by kernel_rfl
    refine Code.wp_mono INorm.imp (wp_region_held_drew (S := fun w' => w'.cell? ⟨w.heap.size, 0, none⟩ = some (.int .i64 R) ∧ w'.cell? ⟨w.heap.size, 1, none⟩ = some (.int .i64 P) ∧ w'.cell? ⟨w.heap.size, 2, none⟩ = some (.int .i64 S) ∧ w'.cell? ⟨w.heap.size, 3, none⟩ = some (.int .i64 M) ∧ w'.cell? ⟨w.heap.size + 1, 0, none⟩ = some (.int .i64 op) ∧ w'.cell? ⟨w.heap.size + 1, 1, none⟩ = some (.int .i64 n) ∧ w'.cell? ⟨w.heap.size + 1, 2, none⟩ = some (.int .i64 dk) ∧ w'.cell? ⟨w.heap.size + 1, 3, none⟩ = some (.int .i64 dn) ∧ w'.cell? ⟨w.heap.size + 1, 4, none⟩ = some (.int .u64 dw) ∧ w'.cell? ⟨w.heap.size + 1, 5, none⟩ = some (.slice la ll lc) ∧ w'.cell? ⟨w.heap.size + 1, 6, none⟩ = some (.int .u64 x)) hmx ⟨(Fr.refl [] w1).drew.cell (by simp) k0, (Fr.refl [] w1).drew.cell (by simp) k1, (Fr.refl [] w1).drew.cell (by simp) k2, (Fr.refl [] w1).drew.cell (by simp) k3, (Fr.refl [] w1).drew.cell (by simp) r0, (Fr.refl [] w1).drew.cell (by simp) r1, (Fr.refl [] w1).drew.cell (by simp) r2, (Fr.refl [] w1).drew.cell (by simp) r3, (Fr.refl [] w1).drew.cell (by simp) r4, (Fr.refl [] w1).drew.cell (by simp) r5, (Fr.refl [] w1).drew.cell (by simp) r6⟩ (fun hHeld => ?_))
    (refine wpAnyH_take (i := 0) (oi := ⟨some 13, _, _, _, _, _⟩) (v := ?_) rfl (by kernel_rfl) (by kernel_rfl) (by kernel_rfl) (fun _ _ _ h => h) (Or.inl ⟨by rfl, ?_⟩) (by assumption) ?_); rotate_left; focus (intro w hSw; (try dsimp only at hSw); go_split_ands; go_simp; try with_reducible rfl); (try simp only [Act.put, List.setIfInBounds_toArray, List.set_cons_zero, List.set_cons_succ])
    (refine wpAnyH_take (i := 1) (oi := ⟨some 14, _, _, _, _, _⟩) (v := ?_) rfl (by kernel_rfl) (by kernel_rfl) (by kernel_rfl) (fun _ _ _ h => h) (Or.inl ⟨by rfl, ?_⟩) (by assumption) ?_); rotate_left; focus (intro w hSw; (try dsimp only at hSw); go_split_ands; go_simp; try with_reducible rfl); (try simp only [Act.put, List.setIfInBounds_toArray, List.set_cons_zero, List.set_cons_succ])
    (refine wpAnyH_take (i := 2) (oi := ⟨some 15, _, _, _, _, _⟩) (v := ?_) rfl (by kernel_rfl) (by kernel_rfl) (by kernel_rfl) (fun _ _ _ h => h) (Or.inl ⟨by rfl, ?_⟩) (by assumption) ?_); rotate_left; focus (intro w hSw; (try dsimp only at hSw); go_split_ands; go_simp; try with_reducible rfl); (try simp only [Act.put, List.setIfInBounds_toArray, List.set_cons_zero, List.set_cons_succ])
    (refine wpAnyH_take (i := 3) (oi := ⟨some 16, _, _, _, _, _⟩) (v := ?_) rfl (by kernel_rfl) (by kernel_rfl) (by kernel_rfl) (fun _ _ _ h => h) (Or.inl ⟨by rfl, ?_⟩) (by assumption) ?_); rotate_left; focus (intro w hSw; (try dsimp only at hSw); go_split_ands; go_simp; try with_reducible rfl); (try simp only [Act.put, List.setIfInBounds_toArray, List.set_cons_zero, List.set_cons_succ])
    (refine wpAnyH_take (i := 4) (oi := ⟨some 17, _, _, _, _, _⟩) (v := ?_) rfl (by kernel_rfl) (by kernel_rfl) (by kernel_rfl) (fun _ _ _ h => h) (Or.inl ⟨by rfl, ?_⟩) (by assumption) ?_); rotate_left; focus (intro w hSw; (try dsimp only at hSw); go_split_ands; go_simp; try with_reducible rfl); (try simp only [Act.put, List.setIfInBounds_toArray, List.set_cons_zero, List.set_cons_succ])
    refine wpAnyH_ready (rs := [5]) (by kernel_rfl) (by simp) ?_
    refine AllReadyH.cons rfl (fun K hK => ?_) AllReadyH.nil
    go_simp
    refine (hw1 _).mono ?_
    rintro e w' ⟨rfl, rfl⟩
    refine hK.out _ _ (by assumption) (fun hHeld => ?_)
    clear hK
    (try simp only [Act.put, List.setIfInBounds_toArray, List.set_cons_zero, List.set_cons_succ])
    (refine wpAnyH_take (i := 6) (oi := ⟨some 19, _, _, _, _, _⟩) (v := ?_) rfl (by kernel_rfl) (by kernel_rfl) (by kernel_rfl) (fun _ _ _ h => h) (Or.inl ⟨by rfl, ?_⟩) (by assumption) ?_); rotate_left; focus (intro w hSw; (try dsimp only at hSw); go_split_ands; go_simp; try with_reducible rfl); (try simp only [Act.put, List.setIfInBounds_toArray, List.set_cons_zero, List.set_cons_succ])
    (refine wpAnyH_take (i := 7) (oi := ⟨some 20, _, _, _, _, _⟩) (v := ?_) rfl (by kernel_rfl) (by kernel_rfl) (by kernel_rfl) (fun _ _ _ h => h) (Or.inl ⟨by rfl, ?_⟩) (by assumption) ?_); rotate_left; focus (intro w hSw; (try dsimp only at hSw); go_split_ands; go_simp; try with_reducible rfl); (try simp only [Act.put, List.setIfInBounds_toArray, List.set_cons_zero, List.set_cons_succ])
    (refine wpAnyH_take (i := 8) (oi := ⟨some 21, _, _, _, _, _⟩) (v := ?_) rfl (by kernel_rfl) (by kernel_rfl) (by kernel_rfl) (fun _ _ _ h => h) (Or.inl ⟨by rfl, ?_⟩) (by assumption) ?_); rotate_left; focus (intro w hSw; (try dsimp only at hSw); go_split_ands; go_simp; try with_reducible rfl); (try simp only [Act.put, List.setIfInBounds_toArray, List.set_cons_zero, List.set_cons_succ])
    (refine wpAnyH_take (i := 9) (oi := ⟨some 22, _, _, _, _, _⟩) (v := ?_) rfl (by kernel_rfl) (by kernel_rfl) (by kernel_rfl) (fun _ _ _ h => h) (Or.inl ⟨by rfl, ?_⟩) (by assumption) ?_); rotate_left; focus (intro w hSw; (try dsimp only at hSw); go_split_ands; go_simp; try with_reducible rfl); (try simp only [Act.put, List.setIfInBounds_toArray, List.set_cons_zero, List.set_cons_succ])
    refine wpAnyH_ready (rs := [10]) (by kernel_rfl) (by simp) ?_
    refine AllReadyH.cons rfl (fun K hK => ?_) AllReadyH.nil
    go_simp
    refine (HSS.out _ (HF.out.trans (Fr.refl [] w1).drew)).mono ?_
    rintro e v1 ⟨rfl, hF1⟩
    have HG1 : Hid (Fr [] w1 v1) := ((Fr.refl [] w1).drew).trans hF1
    refine hK.out _ _ ⟨HG1.out.cell (by simp) k0, HG1.out.cell (by simp) k1, HG1.out.cell (by simp) k2, HG1.out.cell (by simp) k3, HG1.out.cell (by simp) r0, HG1.out.cell (by simp) r1, HG1.out.cell (by simp) r2, HG1.out.cell (by simp) r3, HG1.out.cell (by simp) r4, HG1.out.cell (by simp) r5, HG1.out.cell (by simp) r6⟩ (fun hHeld => ?_)
    clear hF1
    clear hK
    (try simp only [Act.put, List.setIfInBounds_toArray, List.set_cons_zero, List.set_cons_succ])
    (refine wpAnyH_take (i := 11) (oi := ⟨some 24, _, _, _, _, _⟩) (v := ?_) rfl (by kernel_rfl) (by kernel_rfl) (by kernel_rfl) (fun _ _ _ h => h) (Or.inl ⟨by rfl, ?_⟩) (by assumption) ?_); rotate_left; focus (intro w hSw; (try dsimp only at hSw); go_split_ands; go_simp; try with_reducible rfl); (try simp only [Act.put, List.setIfInBounds_toArray, List.set_cons_zero, List.set_cons_succ])
    (refine wpAnyH_take (i := 12) (oi := ⟨some 25, _, _, _, _, _⟩) (v := ?_) rfl (by kernel_rfl) (by kernel_rfl) (by kernel_rfl) (fun _ _ _ h => h) (Or.inl ⟨by rfl, ?_⟩) (by assumption) ?_); rotate_left; focus (intro w hSw; (try dsimp only at hSw); go_split_ands; go_simp; try with_reducible rfl); (try simp only [Act.put, List.setIfInBounds_toArray, List.set_cons_zero, List.set_cons_succ])
    (refine wpAnyH_take (i := 13) (oi := ⟨some 26, _, _, _, _, _⟩) (v := ?_) rfl (by kernel_rfl) (by kernel_rfl) (by kernel_rfl) (fun _ _ _ h => h) (Or.inl ⟨by rfl, ?_⟩) (by assumption) ?_); rotate_left; focus (intro w hSw; (try dsimp only at hSw); go_split_ands; go_simp; try with_reducible rfl); (try simp only [Act.put, List.setIfInBounds_toArray, List.set_cons_zero, List.set_cons_succ])
    (refine wpAnyH_take (i := 14) (oi := ⟨some 27, _, _, _, _, _⟩) (v := ?_) rfl (by kernel_rfl) (by kernel_rfl) (by kernel_rfl) (fun _ _ _ h => h) (Or.inl ⟨by rfl, ?_⟩) (by assumption) ?_); rotate_left; focus (intro w hSw; (try dsimp only at hSw); go_split_ands; go_simp; try with_reducible rfl); (try simp only [Act.put, List.setIfInBounds_toArray, List.set_cons_zero, List.set_cons_succ])
    refine wpAnyH_ready (rs := [15]) (by kernel_rfl) (by simp) ?_
    refine AllReadyH.cons rfl (fun K hK => ?_) AllReadyH.nil
    go_simp
    refine (hr _).mono ?_
    rintro e v2 ⟨rfl, hF2⟩
    have HG2 : Hid (Fr [] w1 v2) := (HG1.out).trans hF2
    refine hK.out _ _ ⟨HG2.out.cell (by simp) k0, HG2.out.cell (by simp) k1, HG2.out.cell (by simp) k2, HG2.out.cell (by simp) k3, HG2.out.cell (by simp) r0, HG2.out.cell (by simp) r1, HG2.out.cell (by simp) r2, HG2.out.cell (by simp) r3, HG2.out.cell (by simp) r4, HG2.out.cell (by simp) r5, HG2.out.cell (by simp) r6⟩ (fun hHeld => ?_)
    clear hF2
    clear hK
    (try simp only [Act.put, List.setIfInBounds_toArray, List.set_cons_zero, List.set_cons_succ])
    (refine wpAnyH_take (i := 16) (oi := ⟨some 29, _, _, _, _, _⟩) (v := ?_) rfl (by kernel_rfl) (by kernel_rfl) (by kernel_rfl) (fun _ _ _ h => h) (Or.inl ⟨by rfl, ?_⟩) (by assumption) ?_); rotate_left; focus (intro w hSw; (try dsimp only at hSw); go_split_ands; go_simp; try with_reducible rfl); (try simp only [Act.put, List.setIfInBounds_toArray, List.set_cons_zero, List.set_cons_succ])
    (refine wpAnyH_take (i := 17) (oi := ⟨some 30, _, _, _, _, _⟩) (v := ?_) rfl (by kernel_rfl) (by kernel_rfl) (by kernel_rfl) (fun _ _ _ h => h) (Or.inl ⟨by rfl, ?_⟩) (by assumption) ?_); rotate_left; focus (intro w hSw; (try dsimp only at hSw); go_split_ands; go_simp; try with_reducible rfl); (try simp only [Act.put, List.setIfInBounds_toArray, List.set_cons_zero, List.set_cons_succ])
    (refine wpAnyH_take (i := 18) (oi := ⟨some 31, _, _, _, _, _⟩) (v := ?_) rfl (by kernel_rfl) (by kernel_rfl) (by kernel_rfl) (fun _ _ _ h => h) (Or.inl ⟨by rfl, ?_⟩) (by assumption) ?_); rotate_left; focus (intro w hSw; (try dsimp only at hSw); go_split_ands; go_simp; try with_reducible rfl); (try simp only [Act.put, List.setIfInBounds_toArray, List.set_cons_zero, List.set_cons_succ])
    (refine wpAnyH_take (i := 19) (oi := ⟨some 32, _, _, _, _, _⟩) (v := ?_) rfl (by kernel_rfl) (by kernel_rfl) (by kernel_rfl) (fun _ _ _ h => h) (Or.inl ⟨by rfl, ?_⟩) (by assumption) ?_); rotate_left; focus (intro w hSw; (try dsimp only at hSw); go_split_ands; go_simp; try with_reducible rfl); (try simp only [Act.put, List.setIfInBounds_toArray, List.set_cons_zero, List.set_cons_succ])
    (refine wpAnyH_take (i := 20) (oi := ⟨some 33, _, _, _, _, _⟩) (v := ?_) rfl (by kernel_rfl) (by kernel_rfl) (by kernel_rfl) (fun _ _ _ h => h) (Or.inl ⟨by rfl, ?_⟩) (by assumption) ?_); rotate_left; focus (intro w hSw; (try dsimp only at hSw); go_split_ands; go_simp; try with_reducible rfl); (try simp only [Act.put, List.setIfInBounds_toArray, List.set_cons_zero, List.set_cons_succ])
    (refine wpAnyH_take (i := 21) (oi := ⟨some 34, _, _, _, _, _⟩) (v := ?_) rfl (by kernel_rfl) (by kernel_rfl) (by kernel_rfl) (fun _ _ _ h => h) (Or.inl ⟨by rfl, ?_⟩) (by assumption) ?_); rotate_left; focus (intro w hSw; (try dsimp only at hSw); go_split_ands; go_simp; try with_reducible rfl); (try simp only [Act.put, List.setIfInBounds_toArray, List.set_cons_zero, List.set_cons_succ])
    (refine wpAnyH_take (i := 22) (oi := ⟨some 35, _, _, _, _, _⟩) (v := ?_) rfl (by kernel_rfl) (by kernel_rfl) (by kernel_rfl) (fun _ _ _ h => h) (Or.inl ⟨by rfl, ?_⟩) (by assumption) ?_); rotate_left; focus (intro w hSw; (try dsimp only at hSw); go_split_ands; go_simp; try with_reducible rfl); (try simp only [Act.put, List.setIfInBounds_toArray, List.set_cons_zero, List.set_cons_succ])
    refine wpAnyH_ready (rs := [23]) (by kernel_rfl) (by simp) ?_
    refine AllReadyH.cons rfl (fun K hK => ?_) AllReadyH.nil
    go_simp
    refine (hg _).mono ?_
    rintro e v3 ⟨rfl, hF3⟩
    have HG3 : Hid (Fr [] w1 v3) := (HG2.out).trans hF3
    refine hK.out _ _ ⟨HG3.out.cell (by simp) k0, HG3.out.cell (by simp) k1, HG3.out.cell (by simp) k2, HG3.out.cell (by simp) k3, HG3.out.cell (by simp) r0, HG3.out.cell (by simp) r1, HG3.out.cell (by simp) r2, HG3.out.cell (by simp) r3, HG3.out.cell (by simp) r4, HG3.out.cell (by simp) r5, HG3.out.cell (by simp) r6⟩ (fun hHeld => ?_)
    clear hF3
    clear hK
    (try simp only [Act.put, List.setIfInBounds_toArray, List.set_cons_zero, List.set_cons_succ])
    refine wpAnyH_ready (rs := [24]) (by kernel_rfl) (by simp) ?_
    refine AllReadyH.cons rfl (fun K hK => ?_) AllReadyH.nil
    go_simp
    refine (hw2 _).mono ?_
    rintro e w' ⟨rfl, rfl⟩
    refine hK.out _ _ (by assumption) (fun hHeld => ?_)
    clear hK
    (try simp only [Act.put, List.setIfInBounds_toArray, List.set_cons_zero, List.set_cons_succ])
    (refine wpAnyH_take (i := 25) (oi := ⟨some 38, _, _, _, _, _⟩) (v := ?_) rfl (by kernel_rfl) (by kernel_rfl) (by kernel_rfl) (fun _ _ _ h => h) (Or.inl ⟨by rfl, ?_⟩) (by assumption) ?_); rotate_left; focus (intro w hSw; (try dsimp only at hSw); go_split_ands; go_simp; try with_reducible rfl); (try simp only [Act.put, List.setIfInBounds_toArray, List.set_cons_zero, List.set_cons_succ])
    (refine wpAnyH_take (i := 26) (oi := ⟨some 39, _, _, _, _, _⟩) (v := ?_) rfl (by kernel_rfl) (by kernel_rfl) (by kernel_rfl) (fun _ _ _ h => h) (Or.inl ⟨by rfl, ?_⟩) (by assumption) ?_); rotate_left; focus (intro w hSw; (try dsimp only at hSw); go_split_ands; go_simp; try with_reducible rfl); (try simp only [Act.put, List.setIfInBounds_toArray, List.set_cons_zero, List.set_cons_succ])
    (refine wpAnyH_take (i := 27) (oi := ⟨some 40, _, _, _, _, _⟩) (v := ?_) rfl (by kernel_rfl) (by kernel_rfl) (by kernel_rfl) (fun _ _ _ h => h) (Or.inl ⟨by rfl, ?_⟩) (by assumption) ?_); rotate_left; focus (intro w hSw; (try dsimp only at hSw); go_split_ands; go_simp; try with_reducible rfl); (try simp only [Act.put, List.setIfInBounds_toArray, List.set_cons_zero, List.set_cons_succ])
    refine wpAnyH_ready (rs := [28]) (by kernel_rfl) (by simp) ?_
    refine AllReadyH.cons rfl (fun K hK => ?_) AllReadyH.nil
    go_simp
    refine (hx _).mono ?_
    rintro e v4 ⟨rfl, hF4⟩
    have HG4 : Hid (Fr [] w1 v4) := (HG3.out).trans hF4
    refine hK.out _ _ ⟨HG4.out.cell (by simp) k0, HG4.out.cell (by simp) k1, HG4.out.cell (by simp) k2, HG4.out.cell (by simp) k3, HG4.out.cell (by simp) r0, HG4.out.cell (by simp) r1, HG4.out.cell (by simp) r2, HG4.out.cell (by simp) r3, HG4.out.cell (by simp) r4, HG4.out.cell (by simp) r5, HG4.out.cell (by simp) r6⟩ (fun hHeld => ?_)
    clear hF4
    clear hK
    (try simp only [Act.put, List.setIfInBounds_toArray, List.set_cons_zero, List.set_cons_succ])
    (refine wpAnyH_take (i := 29) (oi := ⟨some 42, _, _, _, _, _⟩) (v := ?_) rfl (by kernel_rfl) (by kernel_rfl) (by kernel_rfl) (fun _ _ _ h => h) (Or.inl ⟨by rfl, ?_⟩) (by assumption) ?_); rotate_left; focus (intro w hSw; (try dsimp only at hSw); go_split_ands; go_simp; try with_reducible rfl); (try simp only [Act.put, List.setIfInBounds_toArray, List.set_cons_zero, List.set_cons_succ])
    (refine wpAnyH_take (i := 30) (oi := ⟨some 4, _, _, _, _, _⟩) (v := ?_) rfl (by kernel_rfl) (by kernel_rfl) (by kernel_rfl) (fun _ _ _ h => h) (Or.inl ⟨by rfl, ?_⟩) (by assumption) ?_); rotate_left; focus (intro w hSw; (try dsimp only at hSw); go_split_ands; go_simp; try with_reducible rfl); (try simp only [Act.put, List.setIfInBounds_toArray, List.set_cons_zero, List.set_cons_succ])
    refine wpAnyH_done (by kernel_rfl) (INorm.mk ?_) _
    (try simp only [Act.put, List.setIfInBounds_toArray, List.set_cons_zero, List.set_cons_succ])
    go_wp2_with fail
    go_ret
    exact ⟨ret1 (vb HO.out.symm), HF.out.trans (HG4.out)⟩
end Go.Proofs.YtomcfjckhajhmabGreatDoor
namespace Go.Proofs.YtomcfjckhajhmabGreatDoor
open Go.RowKit

/-- no two sends have one site -/
def apart (l : List Ii) : Prop := ∀ (i j : Nat) (a b : Ii), i < j → l[i]? = some a → l[j]? = some b → a.op = 7 → b.op = 7 → a.n ≠ b.n
/-- which sites were taken -/
def marks (S : Nat) (l : List Ii) : List Bool := (List.range S).map fun (j : Nat) => l.any fun i => decide (i.op = 7 ∧ i.n = (j : Int))
theorem marks_len (S : Nat) (l : List Ii) : (marks S l).length = S := by simp [marks]
theorem marks_nil (S : Nat) : marks S [] = List.replicate S false := by
  unfold marks
  simp only [List.any_nil]
  exact List.ext_getElem (by simp) (fun i h1 h2 => by simp)
theorem marks_at {S : Nat} {l : List Ii} {j : Nat} (h : j < S) : (marks S l)[j]? = some (l.any fun i => decide (i.op = 7 ∧ i.n = (j : Int))) := by
  simp [marks, h]
theorem marks_other {S : Nat} {l : List Ii} {i : Ii} (h : i.op ≠ 7) : marks S (l ++ [i]) = marks S l := by
  unfold marks
  simp [h]
theorem marks_set {S : Nat} {l : List Ii} {i : Ii} {n : Nat} (h : i.op = 7) (hn : i.n = (n : Int)) : marks S (l ++ [i]) = (marks S l).set n true := by
  apply List.ext_getElem?
  intro j
  by_cases hj : j < S
  · rw [marks_at hj]
    by_cases e : n = j
    · subst e
      rw [List.getElem?_set_self (by rw [marks_len]; exact hj)]
      simp [h, hn]
    · rw [List.getElem?_set_ne e, marks_at hj]
      have : ¬ ((n : Int) = (j : Int)) := by omega
      simp [hn, this]
  · rw [List.getElem?_eq_none (by rw [marks_len]; omega), List.getElem?_eq_none (by rw [List.length_set, marks_len]; omega)]
theorem apart_snoc {l : List Ii} {k : Nat} {i : Ii} (h : l[k]? = some i) (ha : apart (l.take k)) (hn : i.op = 7 → (l.take k).any (fun a => decide (a.op = 7 ∧ a.n = i.n)) = false) : apart (l.take (k + 1)) := by
  intro x y a b hxy hx hy ha7 hb7
  have hyl := (List.getElem?_eq_some_iff.1 hy).1
  rw [List.length_take] at hyl
  by_cases hyk : y = k
  · subst hyk
    rw [List.getElem?_take_of_lt (by omega)] at hx hy
    rw [h] at hy
    cases hy
    intro e
    have := hn hb7
    rw [List.any_eq_false] at this
    refine this a (List.mem_of_getElem? (i := x) ?_) (by simp [ha7, e])
    rw [List.getElem?_take_of_lt hxy]
    exact hx
  · refine ha x y a b hxy ?_ ?_ ha7 hb7
    · rw [List.getElem?_take_of_lt (by omega)] at hx ⊢; exact hx
    · rw [List.getElem?_take_of_lt (by omega)] at hy ⊢; exact hy
theorem apart_no {l : List Ii} {k : Nat} {i : Ii} (h : l[k]? = some i) (h7 : i.op = 7) (hn : (l.take k).any (fun a => decide (a.op = 7 ∧ a.n = i.n)) = true) : ¬ apart l := by
  intro hA
  obtain ⟨a, ha, hb⟩ := List.any_eq_true.1 hn
  simp only [decide_eq_true_eq] at hb
  obtain ⟨x, hx⟩ := List.getElem?_of_mem ha
  have hxl := (List.getElem?_eq_some_iff.1 hx).1
  rw [List.length_take] at hxl
  rw [List.getElem?_take_of_lt (by omega)] at hx
  exact hA x k a i (by omega) hx h hb.1 h7 hb.2
/-- a row of truths -/
def TkAt (w : World) (b : Nat) (M : List Bool) : Prop := w.heap[b]? = some (.cells (M.map Value.bool).toArray 4 (0, 0))
theorem TkAt.set {w : World} {b : Nat} {M : List Bool} (h : TkAt w b M) (k : Nat) (x : Bool) : TkAt (w.setCell ⟨b, k, none⟩ (.bool x)) b (M.set k x) := by
  unfold TkAt
  rw [heap_setCell_same h]
  simp [List.map_set]
theorem TkAt.cell {w : World} {b : Nat} {M : List Bool} (h : TkAt w b M) {k : Nat} {x : Bool} (hk : M[k]? = some x) : w.cell? ⟨b, k, none⟩ = some (.bool x) := cell_of_heap h (by simp [hk])
theorem mades_ones (z : Value) (n : Nat) (h : z.cells = #[z]) : madeCells z.cells n = (List.replicate n z).toArray := by
  apply Array.ext'
  rw [h, toList_madeCells_one]
theorem infoTk : (Tryz.prog.info? 4).map (fun i => (i.zero, i.size, i.bytes)) = some (some (.bool false), 1, 1) := by kernel_rfl
theorem makeTk (n : Nat) (h2 : n ≤ 65536) (W : World) : (Instr.makeSlice 26 (.int .i64 (n : Int)) (.int .i64 (n : Int))).run Tryz.prog W = .ok (.slice (some ⟨W.heap.size, 0, none⟩) n n) (W.alloc (.cells (List.replicate n (Value.bool false)).toArray 4)) := by
  obtain ⟨i0, hi, hz0, hz1, hz2⟩ := info_parts infoTk
  have hr := run_make (P := Tryz.prog) W 26 4 i0 (.bool false) Tryz.underlying26 hi hz0 .i64 .i64 n n (by omega) (by omega) (by rw [hz2]; omega) (by omega)
  simp only [Int.toNat_natCast, hz1, Nat.mul_one] at hr
  rw [mades_ones _ _ rfl] at hr
  exact hr
theorem made_marks (S : Nat) : List.replicate S (Value.bool false) = (marks S []).map Value.bool := by rw [marks_nil]; simp
open Classical in
/-- may the instructions be? -/
noncomputable def codeOkU (u : Un) : Bool := decide ((∀ i ∈ u.enter, i.op = 1) ∧ u.enter.all (insOkU u.regs u.spills u.sites u.maps.length) = true ∧ u.code.all (insOkU u.regs u.spills u.sites u.maps.length) = true ∧ apart u.code)
theorem codeOk_iff (u : Un) : codeOkU u = true ↔ ((∀ i ∈ u.enter, i.op = 1) ∧ u.enter.all (insOkU u.regs u.spills u.sites u.maps.length) = true ∧ u.code.all (insOkU u.regs u.spills u.sites u.maps.length) = true ∧ apart u.code) := by
  unfold codeOkU
  simp
theorem insOk_site {R P S M : Int} {i : Ii} (h : insOkU R P S M i = true) (h7 : i.op = 7) : 0 ≤ i.n ∧ i.n < S := by
  unfold insOkU at h
  simp only [Bool.and_eq_true] at h
  have h2 := h.1.2
  rw [h7] at h2
  unfold wtn grt at h2
  simp at h2
  omega
set_option maxRecDepth 100000 in
set_option maxHeartbeats 8000000 in
theorem ir_isCode (u : Un) (w : World) (hA : UAt w u) (hB : UB u) (hS : 0 ≤ u.sites ∧ u.sites ≤ 128) (hM : (u.maps.length : Int) ≤ 128) : Calls Tryz.prog 25 #[u.v] w (Still (.bool (codeOkU u)) w) := by
  have hen := hB.en
  have hcn := hB.cn
  have hr := fun W => ir_rangesOf u W
  have HE1 : Hid (∀ (i : Ii) (W : World), i ∈ u.enter → SrcsAt W i.la i.l → Calls Tryz.prog 47 #[rgV u.regs u.spills u.sites u.maps.length, i.v] W (Still (.bool (insOkU u.regs u.spills u.sites u.maps.length i)) W)) := Lib.hid fun i W hi h => ir_isInstruction u.regs u.spills u.sites u.maps.length i W (hB.enter i hi) h hS ⟨by omega, hM⟩
  have HE2 : Hid (∀ (i : Ii) (W : World), i ∈ u.code → SrcsAt W i.la i.l → Calls Tryz.prog 47 #[rgV u.regs u.spills u.sites u.maps.length, i.v] W (Still (.bool (insOkU u.regs u.spills u.sites u.maps.length i)) W)) := Lib.hid fun i W hi h => ir_isInstruction u.regs u.spills u.sites u.maps.length i W (hB.code i hi) h hS ⟨by omega, hM⟩
  have hAE := hA.enter
  have hAC := hA.code
  have hI := codeOk_iff u
  have HQS : Hid (∀ i, insOkU u.regs u.spills u.sites u.maps.length i = true → i.op = 7 → 0 ≤ i.n ∧ i.n < u.sites) := Lib.hid fun i h h7 => insOk_site h h7
  generalize codeOkU u = v at *
  generalize hq : insOkU u.regs u.spills u.sites u.maps.length = q at *
  clear hq hA hB hM
  obtain ⟨method, args, T, R, P, S, ea, en, ec, ca, co, cc, sa, st, sc, ma, mp, mc⟩ := u
  unfold Un.v at hr ⊢
  unfold rgV at hr HE1 HE2
  simp only at hen hcn hr HE1 HE2 hAE hAC hI HQS hS ⊢
  obtain ⟨s0, s1⟩ := hS
  obtain ⟨Sn, rfl⟩ : ∃ n : Nat, S = (n : Int) := ⟨S.toNat, by omega⟩
  generalize st.length = sl at *
  generalize mp.length = ml at *
  obtain ⟨el, hel⟩ : ∃ n, n = en.length := ⟨_, rfl⟩
  obtain ⟨cl, hcl⟩ : ∃ n, n = co.length := ⟨_, rfl⟩
  rw [← hel] at hen
  rw [← hcl] at hcn
  simp only [← hel, ← hcl] at hr ⊢
  have HEL := Lib.hid hel
  have HCL := Lib.hid hcl
  have HAE := Lib.hid hAE
  have HAC := Lib.hid hAC
  have HI := Lib.hid hI
  have hmk := fun W => makeTk Sn (by omega) W
  clear hel hcl hAE hAC hI
  go_enter Tryz.func25, Tryz.ntmps25
  go_wp2_with (go_at_call 45; refine (hr _).mono ?_; rintro e w1 ⟨rfl, hF⟩; have HF1 : Hid (Fr [] w w1) := ((Fr.refl [] w).alloc _).trans hF; have HU := Lib.hid (hF.heap (by simp) (heap_new w _)); have b0 := cell_of_heap (o := 0) HU.out rfl; have b1 := cell_of_heap (o := 1) HU.out rfl; have b2 := cell_of_heap (o := 2) HU.out rfl; have b3 := cell_of_heap (o := 3) HU.out rfl; have b4 := cell_of_heap (o := 4) HU.out rfl; have b5 := cell_of_heap (o := 5) HU.out rfl; have b6 := cell_of_heap (o := 6) HU.out rfl; have b7 := cell_of_heap (o := 7) HU.out rfl; have b8 := cell_of_heap (o := 8) HU.out rfl; have b9 := cell_of_heap (o := 9) HU.out rfl; have hsz1 := lt_of_heap HU.out; clear hF)
  clear b0 b1 b2 b3 b4 b5 b6 b7 b8 b9
  go_loopw [14] (fun i wr => ∃ k : Nat, k ≤ el ∧ i = .int .i64 k ∧ Hid (Fr [] w wr) ∧ Hid (wr.heap[w.heap.size]? = some (.cells #[.int .u64 method, .int .i64 args, .int .i64 T, .int .i64 R, .int .i64 P, .int .i64 Sn, .slice ea el ec, .slice ca cl cc, .slice sa sl sc, .slice ma ml mc] 34)) ∧ Hid (wr.heap[w1.heap.size]? = some (.cells #[.int .i64 R, .int .i64 P, .int .i64 Sn, .int .i64 ml] 104)) ∧ Hid ((en.take k).all q = true) ∧ Hid (∀ i ∈ en.take k, i.op = 1)) (fun i _ => el - (intOf i).toNat)
  case atStart => exact ⟨0, Nat.zero_le _, rfl, HF1.out.alloc _, ((Fr.refl [] w1).alloc _).heap (by simp) HU.out, heap_new _ _, Lib.hid (by simp), Lib.hid (by simp)⟩
  case round =>
    obtain ⟨k, hk, rfl, HF, HB, HR, HTq, HO⟩ := hrel
    have hw0 : w.heap.size < wr.heap.size := lt_of_heap HB.out
    have hw1 : w1.heap.size < wr.heap.size := lt_of_heap HR.out
    by_cases hlt : k < el
    · have hkl : k < en.length := by rw [← HEL.out]; exact hlt
      obtain ⟨m, hm⟩ : ∃ m, en[k]? = some m := ⟨_, List.getElem?_eq_getElem hkl⟩
      obtain ⟨⟨g, o, rfl, c0, c1, c2, c3, c4, c5, c6⟩, hs⟩ := (HAE.out.fr HF.out) k m hm
      have HSS : Hid (∀ W, Fr [] wr W → Calls Tryz.prog 47 #[.agg #[.int .i64 R, .int .i64 P, .int .i64 Sn, .int .i64 ml], m.v] W (Still (.bool (q m)) W)) := Lib.hid fun W hF => HE1.out m W (List.mem_of_getElem? hm) (hs.fr hF)
      have hg : g < wr.heap.size := World.block_lt_of_cell? wr _ c0
      have HY := Lib.hid (fun hp => all_snoc hm HTq.out (p := q) hp)
      have HN : Hid (m.op ≠ 1 ∨ q m = false → v = false) := Lib.hid (fun hp => by
        cases v
        · rfl
        · have h := HI.out.1 rfl
          rcases hp with hp | hp
          · exact absurd (h.1 m (List.mem_of_getElem? hm)) hp
          · rw [all_no hm hp] at h; exact absurd h.2.1 (by simp))
      have HO2 : Hid (m.op = 1 → ∀ i ∈ en.take (k + 1), i.op = 1) := Lib.hid (fun h1 i hi => by
        rw [take_snoc hm] at hi
        rcases List.mem_append.1 hi with hi | hi
        · exact HO.out i hi
        · simp at hi; rw [hi]; exact h1)
      obtain ⟨b, hb⟩ : ∃ b, b = q m := ⟨_, rfl⟩
      simp only [← hb] at HY HN HSS
      have k0 : (0 : Int) ≤ (k : Int) := by omega
      have k1 : (k : Int) < (el : Int) := by omega
      have b0 := cell_of_heap (o := 0) HB.out rfl; have b1 := cell_of_heap (o := 1) HB.out rfl; have b2 := cell_of_heap (o := 2) HB.out rfl; have b3 := cell_of_heap (o := 3) HB.out rfl; have b4 := cell_of_heap (o := 4) HB.out rfl; have b5 := cell_of_heap (o := 5) HB.out rfl; have b6 := cell_of_heap (o := 6) HB.out rfl; have b7 := cell_of_heap (o := 7) HB.out rfl; have b8 := cell_of_heap (o := 8) HB.out rfl; have b9 := cell_of_heap (o := 9) HB.out rfl
      have r0 := cell_of_heap (o := 0) HR.out rfl; have r1 := cell_of_heap (o := 1) HR.out rfl; have r2 := cell_of_heap (o := 2) HR.out rfl; have r3 := cell_of_heap (o := 3) HR.out rfl
      obtain ⟨op, n, ⟨dk, dn, dw⟩, la, l, lc, x⟩ := m
      unfold Ii.v at HSS
      simp only at c0 c1 c2 c3 c4 c5 c6 hs HSS HN HO2
      generalize l.length = ll at *
      clear hb hkl hm hs
      by_cases h1 : op = 1
      · subst h1
        cases b
        · have HE := Lib.hid (HN.out (.inr rfl))
          clear HN HY HO2
          go_wp2_with (first
            | (go_at_call 47; refine (HSS.out _ (by (repeat (first | (with_reducible refine Fr.setCell ?_ (fun h => absurd h (Nat.lt_irrefl _)) _) | (with_reducible refine Fr.setCell ?_ (fun h => absurd h (by first | omega | (simp; done) | (simp; omega) | (dsimp only; omega))) _) | (with_reducible refine Fr.alloc ?_ _) | (with_reducible refine Fr.drew ?_) | (with_reducible refine Fr.drewN ?_ _) | (with_reducible exact Fr.refl [] wr))))).mono ?_; rintro e w2 ⟨rfl, hF⟩; have HF2 : Hid (Fr [] wr w2) := ((Fr.refl [] wr).alloc _).trans hF; clear hF))
          go_ret
          exact ⟨ret1 (vb HE.out.symm), HF.out.trans HF2.out⟩
        · have HE := Lib.hid (HY.out rfl)
          have HO3 := Lib.hid (HO2.out rfl)
          clear HN HY HO2
          go_wp2_with (first
            | (go_at_call 47; refine (HSS.out _ (by (repeat (first | (with_reducible refine Fr.setCell ?_ (fun h => absurd h (Nat.lt_irrefl _)) _) | (with_reducible refine Fr.setCell ?_ (fun h => absurd h (by first | omega | (simp; done) | (simp; omega) | (dsimp only; omega))) _) | (with_reducible refine Fr.alloc ?_ _) | (with_reducible refine Fr.drew ?_) | (with_reducible refine Fr.drewN ?_ _) | (with_reducible exact Fr.refl [] wr))))).mono ?_; rintro e w2 ⟨rfl, hF⟩; have HF2 : Hid (Fr [] wr w2) := ((Fr.refl [] wr).alloc _).trans hF; clear hF))
          go_roundw
          case rel => exact ⟨k + 1, by omega, by go_num, HF.out.trans HF2.out, HF2.out.heap (by simp) HB.out, HF2.out.heap (by simp) HR.out, HE, HO3⟩
          case measure => simp [intOf]; omega
      · have HE := Lib.hid (HN.out (.inl h1))
        have e1 : (op == 1) = false := by simp [h1]
        have e2 : (op != 1) = true := by simp [h1]
        clear HN HY HO2 h1
        go_wp2_with fail
        go_ret
        exact ⟨ret1 (vb HE.out.symm), HF.out.alloc _⟩
    · have hkn : k = el := by omega
      subst hkn
      have hkd : decide (k < k) = false := by simp
      have HEA := Lib.hid (all_end HTq.out HEL.out)
      have HEO : Hid (∀ i ∈ en, i.op = 1) := Lib.hid (by have := HO.out; rw [HEL.out, List.take_length] at this; exact this)
      have b0 := cell_of_heap (o := 0) HB.out rfl; have b1 := cell_of_heap (o := 1) HB.out rfl; have b2 := cell_of_heap (o := 2) HB.out rfl; have b3 := cell_of_heap (o := 3) HB.out rfl; have b4 := cell_of_heap (o := 4) HB.out rfl; have b5 := cell_of_heap (o := 5) HB.out rfl; have b6 := cell_of_heap (o := 6) HB.out rfl; have b7 := cell_of_heap (o := 7) HB.out rfl; have b8 := cell_of_heap (o := 8) HB.out rfl; have b9 := cell_of_heap (o := 9) HB.out rfl
      have hwF := HF.out.size
      clear HTq HO
      go_wp2_with fail
      clear b0 b1 b2 b3 b4 b5 b6 b7 b8 b9
      have HB4 := Lib.hid (((Fr.refl [] wr).alloc (.cells (Array.replicate Sn (Value.bool false)) 4)).heap (by simp) HB.out)
      have HR4 := Lib.hid (((Fr.refl [] wr).alloc (.cells (Array.replicate Sn (Value.bool false)) 4)).heap (by simp) HR.out)
      have HF4 := Lib.hid (HF.out.alloc (.cells (Array.replicate Sn (Value.bool false)) 4))
      have HK4 : Hid (TkAt (wr.alloc (.cells (Array.replicate Sn (Value.bool false)) 4)) wr.heap.size (marks Sn (co.take 0))) := Lib.hid (by
        rw [List.take_zero]
        unfold TkAt
        rw [← made_marks, List.toArray_replicate]
        exact heap_new _ _)
      clear HB HR HF HU HF1 HAE HE1
      generalize wr.alloc (.cells (Array.replicate Sn (Value.bool false)) 4) = wt at *
      generalize wr.heap.size = tb at *
      go_loopw [34] (fun i wq => ∃ j : Nat, j ≤ cl ∧ i = .int .i64 j ∧ Hid (Fr [] w wq) ∧ Hid (wq.heap[w.heap.size]? = some (.cells #[.int .u64 method, .int .i64 args, .int .i64 T, .int .i64 R, .int .i64 P, .int .i64 Sn, .slice ea k ec, .slice ca cl cc, .slice sa sl sc, .slice ma ml mc] 34)) ∧ Hid (wq.heap[w1.heap.size]? = some (.cells #[.int .i64 R, .int .i64 P, .int .i64 Sn, .int .i64 ml] 104)) ∧ Hid (TkAt wq tb (marks Sn (co.take j))) ∧ Hid ((co.take j).all q = true) ∧ Hid (apart (co.take j))) (fun i _ => cl - (intOf i).toNat)
      case atStart => exact ⟨0, Nat.zero_le _, rfl, HF4, HB4, HR4, HK4, Lib.hid (by simp), Lib.hid (fun i j a b _ h => by simp at h)⟩
      case round =>
        obtain ⟨j, hj, rfl, HF, HB, HR, HK, HTq, HP⟩ := hrel
        have hw30 : w.heap.size < wr.heap.size := lt_of_heap HB.out
        have hw31 : w1.heap.size < wr.heap.size := lt_of_heap HR.out
        have hw32 : tb < wr.heap.size := lt_of_heap HK.out
        by_cases hlt : j < cl
        · have hkl : j < co.length := by rw [← HCL.out]; exact hlt
          obtain ⟨m, hm⟩ : ∃ m, co[j]? = some m := ⟨_, List.getElem?_eq_getElem hkl⟩
          obtain ⟨⟨g, o, rfl, c0, c1, c2, c3, c4, c5, c6⟩, hs⟩ := (HAC.out.fr HF.out) j m hm
          have HSS : Hid (∀ W, Fr [] wr W → Calls Tryz.prog 47 #[.agg #[.int .i64 R, .int .i64 P, .int .i64 Sn, .int .i64 ml], m.v] W (Still (.bool (q m)) W)) := Lib.hid fun W hF => HE2.out m W (List.mem_of_getElem? hm) (hs.fr hF)
          have hg : g < wr.heap.size := World.block_lt_of_cell? wr _ c0
          have HY := Lib.hid (fun hp => all_snoc hm HTq.out (p := q) hp)
          have HN : Hid (q m = false → v = false) := Lib.hid (fun hp => by
            cases v
            · rfl
            · have h := HI.out.1 rfl
              rw [all_no hm hp] at h
              exact absurd h.2.2.1 (by simp))
          have HNN : Hid (m.op = 7 → (co.take j).any (fun a => decide (a.op = 7 ∧ a.n = m.n)) = true → v = false) := Lib.hid (fun h7 hp => by
            cases v
            · rfl
            · exact absurd (HI.out.1 rfl).2.2.2 (apart_no hm h7 hp))
          have HPP : Hid ((m.op = 7 → (co.take j).any (fun a => decide (a.op = 7 ∧ a.n = m.n)) = false) → apart (co.take (j + 1))) := Lib.hid (fun h => apart_snoc hm HP.out h)
          have HMO : Hid (m.op ≠ 7 → marks Sn (co.take (j + 1)) = marks Sn (co.take j)) := Lib.hid (fun h => by rw [take_snoc hm]; exact marks_other h)
          have HMS : Hid (∀ n : Nat, m.op = 7 → m.n = (n : Int) → marks Sn (co.take (j + 1)) = (marks Sn (co.take j)).set n true) := Lib.hid (fun n h hn => by rw [take_snoc hm]; exact marks_set h hn)
          have HQ1 := Lib.hid (HQS.out m)
          obtain ⟨b, hb⟩ : ∃ b, b = q m := ⟨_, rfl⟩
          simp only [← hb] at HY HN HSS HQ1
          have k0 : (0 : Int) ≤ (j : Int) := by omega
          have k1 : (j : Int) < (cl : Int) := by omega
          have b0 := cell_of_heap (o := 0) HB.out rfl; have b1 := cell_of_heap (o := 1) HB.out rfl; have b2 := cell_of_heap (o := 2) HB.out rfl; have b3 := cell_of_heap (o := 3) HB.out rfl; have b4 := cell_of_heap (o := 4) HB.out rfl; have b5 := cell_of_heap (o := 5) HB.out rfl; have b6 := cell_of_heap (o := 6) HB.out rfl; have b7 := cell_of_heap (o := 7) HB.out rfl; have b8 := cell_of_heap (o := 8) HB.out rfl; have b9 := cell_of_heap (o := 9) HB.out rfl
          have r0 := cell_of_heap (o := 0) HR.out rfl; have r1 := cell_of_heap (o := 1) HR.out rfl; have r2 := cell_of_heap (o := 2) HR.out rfl; have r3 := cell_of_heap (o := 3) HR.out rfl
          obtain ⟨op, n, ⟨dk, dn, dw⟩, la, l, lc, x⟩ := m
          unfold Ii.v at HSS
          simp only at c0 c1 c2 c3 c4 c5 c6 hs HSS HN HNN HPP HMO HMS HQ1
          generalize l.length = ll at *
          clear hb hkl hm hs
          cases b
          · have HE := Lib.hid (HN.out rfl)
            clear HN HY HNN HPP HMO HMS HQ1
            go_wp2_with (first
              | (go_at_call 47; refine (HSS.out _ (by (repeat (first | (with_reducible refine Fr.setCell ?_ (fun h => absurd h (Nat.lt_irrefl _)) _) | (with_reducible refine Fr.setCell ?_ (fun h => absurd h (by first | omega | (simp; done) | (simp; omega) | (dsimp only; omega))) _) | (with_reducible refine Fr.alloc ?_ _) | (with_reducible refine Fr.drew ?_) | (with_reducible refine Fr.drewN ?_ _) | (with_reducible exact Fr.refl [] wr))))).mono ?_; rintro e w2 ⟨rfl, hF⟩; have HF2 : Hid (Fr [] wr w2) := ((Fr.refl [] wr).alloc _).trans hF; clear hF))
            go_ret
            exact ⟨ret1 (vb HE.out.symm), HF.out.trans HF2.out⟩
          · have HE := Lib.hid (HY.out rfl)
            clear HN HY
            by_cases h7 : op = 7
            · subst h7
              have hq7 := HQ1.out rfl rfl
              obtain ⟨nn, rfl⟩ : ∃ z : Nat, n = (z : Int) := ⟨n.toNat, by omega⟩
              have hn1 : nn < Sn := by omega
              have n0 : (0 : Int) ≤ (nn : Int) := by omega
              have n1 : (nn : Int) < (Sn : Int) := by omega
              have HMA := Lib.hid (marks_at (l := co.take j) hn1)
              have HNN2 := Lib.hid (HNN.out rfl)
              have HPP2 : Hid ((co.take j).any (fun a => decide (a.op = 7 ∧ a.n = (nn : Int))) = false → apart (co.take (j + 1))) := Lib.hid (fun h => HPP.out (fun _ => h))
              have HMS2 := Lib.hid (HMS.out nn rfl rfl)
              clear HNN HPP HMO HMS HQ1 hq7 hn1
              generalize (co.take j).any (fun a => decide (a.op = 7 ∧ a.n = (nn : Int))) = tk at *
              cases tk
              · have HP2 := Lib.hid (HPP2.out rfl)
                clear HNN2 HPP2
                go_wp2_with (first
                  | (go_at_call 47; refine (HSS.out _ (by (repeat (first | (with_reducible refine Fr.setCell ?_ (fun h => absurd h (Nat.lt_irrefl _)) _) | (with_reducible refine Fr.setCell ?_ (fun h => absurd h (by first | omega | (simp; done) | (simp; omega) | (dsimp only; omega))) _) | (with_reducible refine Fr.alloc ?_ _) | (with_reducible refine Fr.drew ?_) | (with_reducible refine Fr.drewN ?_ _) | (with_reducible exact Fr.refl [] wr))))).mono ?_; rintro e w2 ⟨rfl, hF⟩; have HF2 : Hid (Fr [] wr w2) := ((Fr.refl [] wr).alloc _).trans hF; have HI2 := Lib.hid (hF.heap (by simp) (heap_new wr _)); have i0 := cell_of_heap (o := 0) HI2.out rfl; have i1 := cell_of_heap (o := 1) HI2.out rfl; have i2 := cell_of_heap (o := 2) HI2.out rfl; have i3 := cell_of_heap (o := 3) HI2.out rfl; have i4 := cell_of_heap (o := 4) HI2.out rfl; have i5 := cell_of_heap (o := 5) HI2.out rfl; have i6 := cell_of_heap (o := 6) HI2.out rfl; have HK2 : Hid (TkAt w2 tb _) := Lib.hid (HF2.out.heap (by simp) HK.out); have ht := HK2.out.cell HMA.out; have hfz := frozen_of_heap (o := nn) HK2.out; have hw2 := lt_of_heap HI2.out; clear hF))
                go_roundw
                case rel =>
                  refine ⟨j + 1, by omega, by go_num, (HF.out.trans HF2.out).setCell (fun h => absurd h (by show ¬ tb < w.heap.size; omega)) _, ?_, ?_, ?_, HE, HP2⟩
                  · exact ((Fr.refl [tb] w2).setCell (fun _ => by simp) _).heap (by simp; omega) (HF2.out.heap (by simp) HB.out)
                  · exact ((Fr.refl [tb] w2).setCell (fun _ => by simp) _).heap (by simp; omega) (HF2.out.heap (by simp) HR.out)
                  · rw [HMS2.out]
                    exact HK2.out.set nn true
                case measure => simp [intOf]; omega
              · have HV := Lib.hid (HNN2.out rfl)
                clear HNN2 HPP2
                go_wp2_with (first
                  | (go_at_call 47; refine (HSS.out _ (by (repeat (first | (with_reducible refine Fr.setCell ?_ (fun h => absurd h (Nat.lt_irrefl _)) _) | (with_reducible refine Fr.setCell ?_ (fun h => absurd h (by first | omega | (simp; done) | (simp; omega) | (dsimp only; omega))) _) | (with_reducible refine Fr.alloc ?_ _) | (with_reducible refine Fr.drew ?_) | (with_reducible refine Fr.drewN ?_ _) | (with_reducible exact Fr.refl [] wr))))).mono ?_; rintro e w2 ⟨rfl, hF⟩; have HF2 : Hid (Fr [] wr w2) := ((Fr.refl [] wr).alloc _).trans hF; have HI2 := Lib.hid (hF.heap (by simp) (heap_new wr _)); have i0 := cell_of_heap (o := 0) HI2.out rfl; have i1 := cell_of_heap (o := 1) HI2.out rfl; have i2 := cell_of_heap (o := 2) HI2.out rfl; have i3 := cell_of_heap (o := 3) HI2.out rfl; have i4 := cell_of_heap (o := 4) HI2.out rfl; have i5 := cell_of_heap (o := 5) HI2.out rfl; have i6 := cell_of_heap (o := 6) HI2.out rfl; have HK2 : Hid (TkAt w2 tb _) := Lib.hid (HF2.out.heap (by simp) HK.out); have ht := HK2.out.cell HMA.out; have hw2 := lt_of_heap HI2.out; clear hF))
                go_ret
                exact ⟨ret1 (vb HV.out.symm), HF.out.trans HF2.out⟩
            · have HP2 := Lib.hid (HPP.out (fun h => absurd h h7))
              have HM2 := Lib.hid (HMO.out h7)
              have e1 : (op == 7) = false := by simp [h7]
              have e2 : (op != 7) = true := by simp [h7]
              clear HNN HPP HMO HMS HQ1 h7
              go_wp2_with (first
                | (go_at_call 47; refine (HSS.out _ (by (repeat (first | (with_reducible refine Fr.setCell ?_ (fun h => absurd h (Nat.lt_irrefl _)) _) | (with_reducible refine Fr.setCell ?_ (fun h => absurd h (by first | omega | (simp; done) | (simp; omega) | (dsimp only; omega))) _) | (with_reducible refine Fr.alloc ?_ _) | (with_reducible refine Fr.drew ?_) | (with_reducible refine Fr.drewN ?_ _) | (with_reducible exact Fr.refl [] wr))))).mono ?_; rintro e w2 ⟨rfl, hF⟩; have HF2 : Hid (Fr [] wr w2) := ((Fr.refl [] wr).alloc _).trans hF; have HI2 := Lib.hid (hF.heap (by simp) (heap_new wr _)); have i0 := cell_of_heap (o := 0) HI2.out rfl; have i1 := cell_of_heap (o := 1) HI2.out rfl; have i2 := cell_of_heap (o := 2) HI2.out rfl; have i3 := cell_of_heap (o := 3) HI2.out rfl; have i4 := cell_of_heap (o := 4) HI2.out rfl; have i5 := cell_of_heap (o := 5) HI2.out rfl; have i6 := cell_of_heap (o := 6) HI2.out rfl; have hw2 := lt_of_heap HI2.out; clear hF))
              go_roundw
              case rel => exact ⟨j + 1, by omega, by go_num, HF.out.trans HF2.out, HF2.out.heap (by simp) HB.out, HF2.out.heap (by simp) HR.out, Lib.hid (by rw [HM2.out]; exact HF2.out.heap (by simp) HK.out), HE, HP2⟩
              case measure => simp [intOf]; omega
        · have hkn : j = cl := by omega
          have HTA := Lib.hid (all_end HTq.out (hkn.trans HCL.out))
          have HPA : Hid (apart co) := Lib.hid (by have := HP.out; rw [hkn, HCL.out, List.take_length] at this; exact this)
          have HV : Hid (v = true) := Lib.hid (HI.out.2 ⟨HEO.out, HEA.out, HTA.out, HPA.out⟩)
          have hkd2 : decide (j < cl) = false := by simp; omega
          have hkd3 : ¬ (j : Int) < (cl : Int) := by omega
          clear hkn
          go_wp2_with fail
          go_ret
          exact ⟨ret1 (vb HV.out.symm), HF.out⟩
end Go.Proofs.YtomcfjckhajhmabGreatDoor
namespace Go.Proofs.YtomcfjckhajhmabGreatDoor
open Go.RowKit

noncomputable def okU (u : Un) : Bool := numsOk u && startsOk u && u.maps.all (mapOk u.regs u.spills u.temps) && codeOkU u
noncomputable def errU (u : Un) : Int := if okU u = true then 0 else 1
theorem numsOk_iff (u : Un) : numsOk u = true ↔ u.method ≠ 0 ∧ (0 ≤ u.args ∧ u.args ≤ 4) ∧ (u.args ≤ u.temps ∧ u.temps ≤ 16) ∧ (0 ≤ u.regs ∧ u.regs ≤ 4096) ∧ (0 ≤ u.spills ∧ u.spills ≤ 4096) ∧ (0 ≤ u.sites ∧ u.sites ≤ 128) := by
  unfold numsOk wtn
  simp [and_assoc]
theorem four (a b c d : Bool) : a = false ∨ (a = true ∧ b = false) ∨ (a = true ∧ b = true ∧ c = false) ∨ (a = true ∧ b = true ∧ c = true) := by
  cases a <;> cases b <;> cases c <;> cases d <;> simp
set_option maxRecDepth 100000 in
set_option maxHeartbeats 4000000 in
theorem ir_Check (u : Un) (w : World) (hA : UAt w u) (hB : UB u) : Calls Tryz.prog 7 #[u.v] w (Still (.int .i64 (errU u)) w) := by
  have h1 := fun W => ir_areNumbers u W
  have h2 : Hid (∀ W, Fr [] w W → Calls Tryz.prog 23 #[u.v] W (Still (.bool (startsOk u)) W)) := Lib.hid fun W hF => ir_areStarts u W (hA.starts.fr hF) hB
  have h3 : Hid (numsOk u = true → ∀ W, Fr [] w W → Calls Tryz.prog 24 #[u.v] W (Still (.bool (u.maps.all (mapOk u.regs u.spills u.temps))) W)) := Lib.hid fun hn W hF => by
    have := (numsOk_iff u).1 hn
    exact ir_areMaps u W (hA.maps.fr hF) hB ⟨by omega, by omega⟩
  have h4 : Hid (numsOk u = true → startsOk u = true → ∀ W, Fr [] w W → Calls Tryz.prog 25 #[u.v] W (Still (.bool (codeOkU u)) W)) := Lib.hid fun hn hs W hF => by
    have := (numsOk_iff u).1 hn
    have h5 := (startsOk_iff u).1 hs
    exact ir_isCode u W (hA.fr hF) hB this.2.2.2.2.2 (by omega)
  have HE : Hid (∀ b, okU u = b → errU u = if b = true then 0 else 1) := Lib.hid fun b h => by unfold errU; rw [h]
  have HO : Hid (okU u = (numsOk u && startsOk u && u.maps.all (mapOk u.regs u.spills u.temps) && codeOkU u)) := Lib.hid rfl
  generalize errU u = er at *
  generalize okU u = ok at *
  generalize numsOk u = b1 at *
  generalize startsOk u = b2 at *
  generalize u.maps.all (mapOk u.regs u.spills u.temps) = b3 at *
  generalize codeOkU u = b4 at *
  obtain ⟨method, args, T, R, P, S, ea, en, ec, ca, co, cc, sa, st, sc, ma, mp, mc⟩ := u
  unfold Un.v at *
  simp only at h1 h2 h3 h4 ⊢
  clear hA hB
  generalize en.length = el at *
  generalize co.length = cl at *
  generalize st.length = sl at *
  generalize mp.length = ml at *
  rcases four b1 b2 b3 b4 with rfl | ⟨rfl, rfl⟩ | ⟨rfl, rfl, rfl⟩ | ⟨rfl, rfl, rfl⟩
  case inr.inr.inr =>
    cases b4
    all_goals
      simp only [Bool.true_and, Bool.and_false] at HO
      have HV := Lib.hid (HE.out _ HO.out)
      simp only [if_true, if_false, Bool.false_eq_true] at HV
      have h3' := Lib.hid (h3.out rfl)
      have h4' := Lib.hid (h4.out rfl rfl)
      go_enter Tryz.func7, Tryz.ntmps7
      go_wp2_with (first
        | (go_at_call 22; refine (h1 _).mono ?_; rintro e w1 ⟨rfl, hF⟩; have HF1 : Hid (Fr [] w w1) := ((Fr.refl [] w).alloc _).trans hF; have HU1 := Lib.hid (hF.heap (by simp) (heap_new w _)); have b0 := cell_of_heap (o := 0) HU1.out rfl; have b1 := cell_of_heap (o := 1) HU1.out rfl; have b2 := cell_of_heap (o := 2) HU1.out rfl; have b3 := cell_of_heap (o := 3) HU1.out rfl; have b4 := cell_of_heap (o := 4) HU1.out rfl; have b5 := cell_of_heap (o := 5) HU1.out rfl; have b6 := cell_of_heap (o := 6) HU1.out rfl; have b7 := cell_of_heap (o := 7) HU1.out rfl; have b8 := cell_of_heap (o := 8) HU1.out rfl; have b9 := cell_of_heap (o := 9) HU1.out rfl; clear hF)
        | (go_at_call 23; refine (h2.out _ HF1.out).mono ?_; rintro e w2 ⟨rfl, hF⟩; have HF2 : Hid (Fr [] w w2) := HF1.out.trans hF; have HU2 := Lib.hid (hF.heap (by simp) HU1.out); have c0 := cell_of_heap (o := 0) HU2.out rfl; have c1 := cell_of_heap (o := 1) HU2.out rfl; have c2 := cell_of_heap (o := 2) HU2.out rfl; have c3 := cell_of_heap (o := 3) HU2.out rfl; have c4 := cell_of_heap (o := 4) HU2.out rfl; have c5 := cell_of_heap (o := 5) HU2.out rfl; have c6 := cell_of_heap (o := 6) HU2.out rfl; have c7 := cell_of_heap (o := 7) HU2.out rfl; have c8 := cell_of_heap (o := 8) HU2.out rfl; have c9 := cell_of_heap (o := 9) HU2.out rfl; clear hF)
        | (go_at_call 24; refine (h3'.out _ HF2.out).mono ?_; rintro e w3 ⟨rfl, hF⟩; have HF3 : Hid (Fr [] w w3) := HF2.out.trans hF; have HU3 := Lib.hid (hF.heap (by simp) HU2.out); have d0 := cell_of_heap (o := 0) HU3.out rfl; have d1 := cell_of_heap (o := 1) HU3.out rfl; have d2 := cell_of_heap (o := 2) HU3.out rfl; have d3 := cell_of_heap (o := 3) HU3.out rfl; have d4 := cell_of_heap (o := 4) HU3.out rfl; have d5 := cell_of_heap (o := 5) HU3.out rfl; have d6 := cell_of_heap (o := 6) HU3.out rfl; have d7 := cell_of_heap (o := 7) HU3.out rfl; have d8 := cell_of_heap (o := 8) HU3.out rfl; have d9 := cell_of_heap (o := 9) HU3.out rfl; clear hF)
        | (go_at_call 25; refine (h4'.out _ HF3.out).mono ?_; rintro e w4 ⟨rfl, hF⟩; have HF4 : Hid (Fr [] w w4) := HF3.out.trans hF; clear hF))
      go_ret
      exact ⟨ret1 (vi HV.out.symm), HF4.out⟩
  all_goals
    simp only [Bool.true_and, Bool.false_and] at HO
    have HV := Lib.hid (HE.out _ HO.out)
    simp only [if_false, Bool.false_eq_true] at HV
    have h3' := Lib.hid h3.out
    try have h3'' := Lib.hid (h3.out rfl)
    go_enter Tryz.func7, Tryz.ntmps7
    go_wp2_with (first
      | (go_at_call 22; refine (h1 _).mono ?_; rintro e w1 ⟨rfl, hF⟩; have HF1 : Hid (Fr [] w w1) := ((Fr.refl [] w).alloc _).trans hF; have HU1 := Lib.hid (hF.heap (by simp) (heap_new w _)); have b0 := cell_of_heap (o := 0) HU1.out rfl; have b1 := cell_of_heap (o := 1) HU1.out rfl; have b2 := cell_of_heap (o := 2) HU1.out rfl; have b3 := cell_of_heap (o := 3) HU1.out rfl; have b4 := cell_of_heap (o := 4) HU1.out rfl; have b5 := cell_of_heap (o := 5) HU1.out rfl; have b6 := cell_of_heap (o := 6) HU1.out rfl; have b7 := cell_of_heap (o := 7) HU1.out rfl; have b8 := cell_of_heap (o := 8) HU1.out rfl; have b9 := cell_of_heap (o := 9) HU1.out rfl; clear hF)
      | (go_at_call 23; refine (h2.out _ HF1.out).mono ?_; rintro e w2 ⟨rfl, hF⟩; have HF2 : Hid (Fr [] w w2) := HF1.out.trans hF; have HU2 := Lib.hid (hF.heap (by simp) HU1.out); have c0 := cell_of_heap (o := 0) HU2.out rfl; have c1 := cell_of_heap (o := 1) HU2.out rfl; have c2 := cell_of_heap (o := 2) HU2.out rfl; have c3 := cell_of_heap (o := 3) HU2.out rfl; have c4 := cell_of_heap (o := 4) HU2.out rfl; have c5 := cell_of_heap (o := 5) HU2.out rfl; have c6 := cell_of_heap (o := 6) HU2.out rfl; have c7 := cell_of_heap (o := 7) HU2.out rfl; have c8 := cell_of_heap (o := 8) HU2.out rfl; have c9 := cell_of_heap (o := 9) HU2.out rfl; clear hF)
      | (go_at_call 24; refine (h3''.out _ HF2.out).mono ?_; rintro e w3 ⟨rfl, hF⟩; have HF3 : Hid (Fr [] w w3) := HF2.out.trans hF; have HU3 := Lib.hid (hF.heap (by simp) HU2.out); have d0 := cell_of_heap (o := 0) HU3.out rfl; have d1 := cell_of_heap (o := 1) HU3.out rfl; have d2 := cell_of_heap (o := 2) HU3.out rfl; have d3 := cell_of_heap (o := 3) HU3.out rfl; have d4 := cell_of_heap (o := 4) HU3.out rfl; have d5 := cell_of_heap (o := 5) HU3.out rfl; have d6 := cell_of_heap (o := 6) HU3.out rfl; have d7 := cell_of_heap (o := 7) HU3.out rfl; have d8 := cell_of_heap (o := 8) HU3.out rfl; have d9 := cell_of_heap (o := 9) HU3.out rfl; clear hF))
    go_ret
    exact ⟨ret1 (vi HV.out.symm), by first | exact HF3.out | exact HF2.out | exact HF1.out⟩
end Go.Proofs.YtomcfjckhajhmabGreatDoor
