/- ir: the numbers of a unit, and its ranges. -/
import Derived.Test.YtcdpgchkdjjfgaaIrSrc
import Derived.Test.YtcdpgchkdjjfgaaIrMem
namespace Go.Proofs.Ytcdpgchkdjjfgaa
open Go.RowKit

theorem six (a b c d e : Bool) : a = false ∨ (a = true ∧ b = false) ∨ (a = true ∧ b = true ∧ c = false) ∨ (a = true ∧ b = true ∧ c = true ∧ d = false) ∨ (a = true ∧ b = true ∧ c = true ∧ d = true ∧ e = false) ∨ (a = true ∧ b = true ∧ c = true ∧ d = true ∧ e = true) := by
  cases a <;> cases b <;> cases c <;> cases d <;> cases e <;> simp
set_option maxRecDepth 100000 in
set_option maxHeartbeats 1000000 in
theorem ir_rangesOf (u : Un) (w : World) : Calls Try.prog 40 #[u.v] w (Still (rgV u.regs u.spills u.sites u.maps.length) w) := by
  obtain ⟨method, args, temps, R, P, S, ea, en, ec, ca, co, cc, sa, st, sc, ma, mp, mc⟩ := u
  unfold Un.v rgV
  simp only
  generalize en.length = el at *
  generalize co.length = cl at *
  generalize st.length = sl at *
  generalize mp.length = ml at *
  go_enter Try.func40, Try.ntmps40
  go_wp2
  exact bodyPost_ret (v := .agg #[.int .i64 R, .int .i64 P, .int .i64 S, .int .i64 ml]) (by simp [results, Try.results40, go_sem]) rfl ⟨rfl, by (repeat (first | (with_reducible refine Fr.setCell ?_ (fun h => absurd h (Nat.lt_irrefl _)) _) | (with_reducible refine Fr.setCell ?_ (fun h => absurd h (by first | omega | (simp; done) | (simp; omega) | (dsimp only; omega))) _) | (with_reducible refine Fr.alloc ?_ _) | (with_reducible refine Fr.drew ?_) | (with_reducible refine Fr.drewN ?_ _) | (with_reducible exact Fr.refl [] w)))⟩
set_option maxRecDepth 100000 in
set_option maxHeartbeats 1000000 in
theorem ir_areNumbers (u : Un) (w : World) : Calls Try.prog 26 #[u.v] w (Still (.bool (numsOk u)) w) := by
  have h1 := fun W => ir_within u.args 0 4 W
  have h2 := fun W => ir_within u.temps u.args 16 W
  have h3 := fun W => ir_within u.regs 0 4096 W
  have h4 := fun W => ir_within u.spills 0 4096 W
  have h5 := fun W => ir_within u.sites 0 128 W
  unfold numsOk
  obtain ⟨b1, hb1⟩ : ∃ b, b = wtn u.args 0 4 := ⟨_, rfl⟩
  obtain ⟨b2, hb2⟩ : ∃ b, b = wtn u.temps u.args 16 := ⟨_, rfl⟩
  obtain ⟨b3, hb3⟩ : ∃ b, b = wtn u.regs 0 4096 := ⟨_, rfl⟩
  obtain ⟨b4, hb4⟩ : ∃ b, b = wtn u.spills 0 4096 := ⟨_, rfl⟩
  obtain ⟨b5, hb5⟩ : ∃ b, b = wtn u.sites 0 128 := ⟨_, rfl⟩
  simp only [← hb1, ← hb2, ← hb3, ← hb4, ← hb5] at h1 h2 h3 h4 h5 ⊢
  clear hb1 hb2 hb3 hb4 hb5
  obtain ⟨method, args, temps, R, P, S, ea, en, ec, ca, co, cc, sa, st, sc, ma, mp, mc⟩ := u
  unfold Un.v
  simp only at h1 h2 h3 h4 h5 ⊢
  generalize en.length = el at *
  generalize co.length = cl at *
  generalize st.length = sl at *
  generalize mp.length = ml at *
  have hm : decide (method ≠ 0) = false ∧ method = 0 ∨ decide (method ≠ 0) = true ∧ (method == 0) = false ∧ (method != 0) = true := by
    by_cases h : method = 0
    · exact .inl (by simp [h])
    · exact .inr (by simp [h])
  rcases hm with ⟨hm, rfl⟩ | ⟨hm, hm1, hm2⟩
  · rw [hm]
    clear hm
    simp only [Bool.false_and]
    go_enter Try.func26, Try.ntmps26
    go_wp2_with fail
    go_ret
    exact ⟨rfl, by (repeat (first | (with_reducible refine Fr.setCell ?_ (fun h => absurd h (Nat.lt_irrefl _)) _) | (with_reducible refine Fr.setCell ?_ (fun h => absurd h (by first | omega | (simp; done) | (simp; omega) | (dsimp only; omega))) _) | (with_reducible refine Fr.alloc ?_ _) | (with_reducible refine Fr.drew ?_) | (with_reducible refine Fr.drewN ?_ _) | (with_reducible exact Fr.refl [] w)))⟩
  · rw [hm]
    clear hm
    rcases six b1 b2 b3 b4 b5 with rfl | ⟨rfl, rfl⟩ | ⟨rfl, rfl, rfl⟩ | ⟨rfl, rfl, rfl, rfl⟩ | ⟨rfl, rfl, rfl, rfl, rfl⟩ | ⟨rfl, rfl, rfl, rfl, rfl⟩
    case inr.inr.inr.inr.inr =>
      simp only [Bool.true_and]
      go_enter Try.func26, Try.ntmps26
      go_wp2_with (first
        | (go_at_call 39; (with_reducible refine (h1 _).mono ?_); rintro e w' ⟨rfl, rfl⟩)
        | (go_at_call 39; (with_reducible refine (h2 _).mono ?_); rintro e w' ⟨rfl, rfl⟩)
        | (go_at_call 39; (with_reducible refine (h3 _).mono ?_); rintro e w' ⟨rfl, rfl⟩)
        | (go_at_call 39; (with_reducible refine (h4 _).mono ?_); rintro e w' ⟨rfl, rfl⟩)
        | (go_at_call 39; (with_reducible refine (h5 _).mono ?_); rintro e w' ⟨rfl, rfl⟩))
      go_ret
      exact ⟨rfl, by (repeat (first | (with_reducible refine Fr.setCell ?_ (fun h => absurd h (Nat.lt_irrefl _)) _) | (with_reducible refine Fr.setCell ?_ (fun h => absurd h (by first | omega | (simp; done) | (simp; omega) | (dsimp only; omega))) _) | (with_reducible refine Fr.alloc ?_ _) | (with_reducible refine Fr.drew ?_) | (with_reducible refine Fr.drewN ?_ _) | (with_reducible exact Fr.refl [] w)))⟩
    all_goals
      simp only [Bool.true_and, Bool.false_and, Bool.and_false]
      go_enter Try.func26, Try.ntmps26
      go_wp2_with (first
        | (go_at_call 39; (with_reducible refine (h1 _).mono ?_); rintro e w' ⟨rfl, rfl⟩)
        | (go_at_call 39; (with_reducible refine (h2 _).mono ?_); rintro e w' ⟨rfl, rfl⟩)
        | (go_at_call 39; (with_reducible refine (h3 _).mono ?_); rintro e w' ⟨rfl, rfl⟩)
        | (go_at_call 39; (with_reducible refine (h4 _).mono ?_); rintro e w' ⟨rfl, rfl⟩)
        | (go_at_call 39; (with_reducible refine (h5 _).mono ?_); rintro e w' ⟨rfl, rfl⟩))
      go_ret
      exact ⟨rfl, by (repeat (first | (with_reducible refine Fr.setCell ?_ (fun h => absurd h (Nat.lt_irrefl _)) _) | (with_reducible refine Fr.setCell ?_ (fun h => absurd h (by first | omega | (simp; done) | (simp; omega) | (dsimp only; omega))) _) | (with_reducible refine Fr.alloc ?_ _) | (with_reducible refine Fr.drew ?_) | (with_reducible refine Fr.drewN ?_ _) | (with_reducible exact Fr.refl [] w)))⟩
end Go.Proofs.Ytcdpgchkdjjfgaa
