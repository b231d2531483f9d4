/- ir: may a source be? -/
import Derived.Test.YtcdpgchkdjjfgaaIrSmall
namespace Go.Proofs.Ytcdpgchkdjjfgaa
open Go.RowKit

/-- how many there are of what is named by a number -/
def rgV (R P S M : Int) : Value := .agg #[.int .i64 R, .int .i64 P, .int .i64 S, .int .i64 M]
set_option maxHeartbeats 1000000 in
theorem ir_isSource (R P S M : Int) (s : Sr) (w : World) : Calls Try.prog 45 #[rgV R P S M, s.v] w (Still (.bool (srcOk R P s)) w) := by
  have hc := fun W => ir_Place s W
  obtain ⟨k, n, x⟩ := s
  unfold rgV Sr.v
  simp only [Sr.v] at hc ⊢
  obtain ⟨b, hb⟩ : ∃ b, b = plc ⟨k, n, x⟩ := ⟨_, rfl⟩
  obtain ⟨c, hd⟩ : ∃ c, c = srcOk R P ⟨k, n, x⟩ := ⟨_, rfl⟩
  simp only [← hb] at hc
  simp only [← hd]
  have HB : Hid (b = true ↔ (k = 0 ∨ k = 3) ∧ 0 ≤ n ∧ x = 0) := Lib.hid (by rw [hb]; simp [plc])
  have HC : Hid (c = true ↔ ((k = 0 ∧ 0 ≤ n ∧ n < R ∧ x = 0) ∨ (k = 1 ∧ n = 0 ∧ x ≠ 0) ∨ (k = 2 ∧ n = 0 ∧ x = 0) ∨ (k = 3 ∧ 0 ≤ n ∧ n < P ∧ x = 0))) := Lib.hid (by rw [hd]; simp [srcOk])
  clear hb hd
  have hk : k = 0 ∨ k = 3 ∨ k = 1 ∨ k = 2 ∨ (k ≠ 0 ∧ k ≠ 3 ∧ k ≠ 1 ∧ k ≠ 2) := by omega
  rcases hk with rfl | rfl | rfl | rfl | ⟨h0, h1, h2, h3⟩
  · cases b
    all_goals
      go_enter Try.func45, Try.ntmps45
      go_wp2_with (go_at_call 16; refine (hc _).mono ?_; rintro e w1 ⟨rfl, hF⟩; have hb1 := hF.heap (by simp) (hp1 _ _ _); have hb2 := hF.heap (by simp) (hp2 _ _ _); have k0 := cell_of_heap (o := 0) hb1 rfl; have k1 := cell_of_heap (o := 1) hb1 rfl; have k2 := cell_of_heap (o := 2) hb1 rfl; have k3 := cell_of_heap (o := 3) hb1 rfl; have r0 := cell_of_heap (o := 0) hb2 rfl; have r1 := cell_of_heap (o := 1) hb2 rfl; have r2 := cell_of_heap (o := 2) hb2 rfl; have HF := Lib.hid hF; clear hF hb1 hb2)
      all_goals (go_ret; exact ⟨ret1 (vb (by have h1 := HC.out; have h2 := HB.out; rw [Bool.eq_iff_iff, h1]; simp at *; omega)), by (repeat (first | (with_reducible refine Fr.setCell ?_ (fun h => absurd h (Nat.lt_irrefl _)) _) | (with_reducible refine Fr.setCell ?_ (fun h => absurd h (by first | omega | (simp; done) | (simp; omega) | (dsimp only; omega))) _) | (with_reducible refine Fr.alloc ?_ _) | (with_reducible refine Fr.drew ?_) | (with_reducible refine Fr.drewN ?_ _) | (with_reducible exact (((Fr.refl [] w).alloc _).alloc _).trans HF.out)))⟩)
  · cases b
    all_goals
      go_enter Try.func45, Try.ntmps45
      go_wp2_with (go_at_call 16; refine (hc _).mono ?_; rintro e w1 ⟨rfl, hF⟩; have hb1 := hF.heap (by simp) (hp1 _ _ _); have hb2 := hF.heap (by simp) (hp2 _ _ _); have k0 := cell_of_heap (o := 0) hb1 rfl; have k1 := cell_of_heap (o := 1) hb1 rfl; have k2 := cell_of_heap (o := 2) hb1 rfl; have k3 := cell_of_heap (o := 3) hb1 rfl; have r0 := cell_of_heap (o := 0) hb2 rfl; have r1 := cell_of_heap (o := 1) hb2 rfl; have r2 := cell_of_heap (o := 2) hb2 rfl; have HF := Lib.hid hF; clear hF hb1 hb2)
      all_goals (go_ret; exact ⟨ret1 (vb (by have h1 := HC.out; have h2 := HB.out; rw [Bool.eq_iff_iff, h1]; simp at *; omega)), by (repeat (first | (with_reducible refine Fr.setCell ?_ (fun h => absurd h (Nat.lt_irrefl _)) _) | (with_reducible refine Fr.setCell ?_ (fun h => absurd h (by first | omega | (simp; done) | (simp; omega) | (dsimp only; omega))) _) | (with_reducible refine Fr.alloc ?_ _) | (with_reducible refine Fr.drew ?_) | (with_reducible refine Fr.drewN ?_ _) | (with_reducible exact (((Fr.refl [] w).alloc _).alloc _).trans HF.out)))⟩)
  · go_enter Try.func45, Try.ntmps45
    go_wp2
    all_goals (go_ret; exact ⟨ret1 (vb (by have h1 := HC.out; rw [Bool.eq_iff_iff, h1]; simp; try omega)), by (repeat (first | (with_reducible refine Fr.setCell ?_ (fun h => absurd h (Nat.lt_irrefl _)) _) | (with_reducible refine Fr.setCell ?_ (fun h => absurd h (by first | omega | (simp; done) | (simp; omega) | (dsimp only; omega))) _) | (with_reducible refine Fr.alloc ?_ _) | (with_reducible refine Fr.drew ?_) | (with_reducible refine Fr.drewN ?_ _) | (with_reducible exact Fr.refl [] w)))⟩)
  · go_enter Try.func45, Try.ntmps45
    go_wp2
    all_goals (go_ret; exact ⟨ret1 (vb (by have h1 := HC.out; rw [Bool.eq_iff_iff, h1]; simp; try omega)), by (repeat (first | (with_reducible refine Fr.setCell ?_ (fun h => absurd h (Nat.lt_irrefl _)) _) | (with_reducible refine Fr.setCell ?_ (fun h => absurd h (by first | omega | (simp; done) | (simp; omega) | (dsimp only; omega))) _) | (with_reducible refine Fr.alloc ?_ _) | (with_reducible refine Fr.drew ?_) | (with_reducible refine Fr.drewN ?_ _) | (with_reducible exact Fr.refl [] w)))⟩)
  · have HN : Hid (c = false) := Lib.hid (by
      cases c
      · rfl
      · have := HC.out.1 rfl; omega)
    go_enter Try.func45, Try.ntmps45
    go_wp2
    go_ret
    exact ⟨ret1 (vb HN.out.symm), by (repeat (first | (with_reducible refine Fr.setCell ?_ (fun h => absurd h (Nat.lt_irrefl _)) _) | (with_reducible refine Fr.setCell ?_ (fun h => absurd h (by first | omega | (simp; done) | (simp; omega) | (dsimp only; omega))) _) | (with_reducible refine Fr.alloc ?_ _) | (with_reducible refine Fr.drew ?_) | (with_reducible refine Fr.drewN ?_ _) | (with_reducible exact Fr.refl [] w)))⟩
set_option maxRecDepth 100000 in
set_option maxHeartbeats 1000000 in
theorem r11_source (u : Un) (s : Sr) (w : World) : Calls Try.prog 32 #[u.v, s.v] w (Still (.bool (srcOk u.regs u.spills s)) w) := by
  obtain ⟨method, args, temps, R, P, sites, ea, en, ec, ca, co, cc, sa, st, sc, ma, mp, mc⟩ := u
  obtain ⟨k, n, x⟩ := s
  unfold Un.v Sr.v
  simp only
  obtain ⟨c, hd⟩ : ∃ c, c = srcOk R P ⟨k, n, x⟩ := ⟨_, rfl⟩
  simp only [← hd]
  have HC : Hid (c = true ↔ ((k = 0 ∧ 0 ≤ n ∧ n < R ∧ x = 0) ∨ (k = 1 ∧ n = 0 ∧ x ≠ 0) ∨ (k = 2 ∧ n = 0 ∧ x = 0) ∨ (k = 3 ∧ 0 ≤ n ∧ n < P ∧ x = 0))) := Lib.hid (by rw [hd]; simp [srcOk])
  clear hd
  have hk : k = 0 ∨ k = 3 ∨ k = 1 ∨ k = 2 ∨ (k ≠ 0 ∧ k ≠ 3 ∧ k ≠ 1 ∧ k ≠ 2) := by omega
  rcases hk with rfl | rfl | rfl | rfl | ⟨h0, h1, h2, h3⟩
  all_goals
    go_enter Try.func32, Try.ntmps32
    go_wp2
    all_goals (go_ret; exact ⟨ret1 (vb (by have h1 := HC.out; rw [Bool.eq_iff_iff, h1]; simp; try omega)), by (repeat (first | (with_reducible refine Fr.setCell ?_ (fun h => absurd h (Nat.lt_irrefl _)) _) | (with_reducible refine Fr.setCell ?_ (fun h => absurd h (by first | omega | (simp; done) | (simp; omega) | (dsimp only; omega))) _) | (with_reducible refine Fr.alloc ?_ _) | (with_reducible refine Fr.drew ?_) | (with_reducible refine Fr.drewN ?_ _) | (with_reducible exact Fr.refl [] w)))⟩)
end Go.Proofs.Ytcdpgchkdjjfgaa
