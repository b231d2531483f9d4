/- LiveIntervals: the walk. -/
import Derived.Test.YtbmfmklalonhiaaGreatDoorMLvK
import Derived.Test.YtbmfmklalonhiaaGreatDoorMLvE
import Derived.Test.YtbmfmklalonhiaaGreatDoorMLvN
namespace Go.Proofs.YtbmfmklalonhiaaGreatDoor
open Go.RowKit

set_option maxRecDepth 100000 in
set_option maxHeartbeats 4000000 in
theorem liveIntervals_walk (u : Un) (w : World) (hA : UAt w u) (hB : UB u) (hg : VG w) : Calls Tryz.prog 4 #[u.v] w (Still (.bool true) w) := by
  have HAW := Lib.hid (fun W (hF : Fr [] w W) => awake13 W (hg.fr hF))
  have HL := Lib.hid (fun W (hF : Fr [] w W) => lv_Intervals u W (hA.fr hF) hB)
  have HR := Lib.hid (fun W (hF : Fr [] w W) => r13_Intervals u W (hA.fr hF) hB)
  have hrl : okU u = true → (ivsU u).length ≤ 4096 := fun h => by
    have := (uok_of h).regs
    have := ivs_len (evs u u.maps.length) u.regs.toNat
    unfold ivsU
    omega
  have hcs : okU u = true ∨ okU u = false := by cases okU u <;> simp
  have HSM : Hid (okU u = true → ∀ W a b ac bc, IvAt W a (ivsU u) → IvAt W b (ivsU u) → Calls Tryz.prog 18 #[.slice a (ivsU u).length ac, .slice b (ivsU u).length bc] W (Still (.bool true) W)) := Lib.hid fun h W a b ac bc h1 h2 => r13_Same (ivsU u) a b ac bc W h1 h2 (hrl h)
  have HSN : Hid (∀ W, Calls Tryz.prog 18 #[.slice none 0 0, .slice none 0 0] W (Still (.bool true) W)) := Lib.hid fun W => r13_Same [] none none 0 0 W (fun k v f t h => by simp at h) (fun k v f t h => by simp at h) (by simp)
  rcases hcs with hok | hok
  · have HSM2 := Lib.hid (HSM.out hok)
    have HL2 : Hid (∀ W, Fr [] w W → Calls Tryz.prog 16 #[u.v] W fun e w' => ∃ a c, e = .returned (.tuple #[.slice a (ivsU u).length c, .int .i64 0]) ∧ Fr [] W w' ∧ IvAt w' a (ivsU u)) := Lib.hid fun W hF => (HL.out W hF).mono (by
      rintro e w' ⟨h1, ⟨-, a, c, he, hG⟩ | ⟨hn, -⟩⟩
      · exact ⟨a, c, he, h1, ivs_of_row hG.row⟩
      · rw [hok] at hn; cases hn)
    have HR2 : Hid (∀ W, Fr [] w W → Calls Tryz.prog 17 #[u.v] W fun e w' => ∃ a c, e = .returned (.tuple #[.slice a (ivsU u).length c, .int .i64 0]) ∧ Fr [] W w' ∧ IvAt w' a (ivsU u)) := Lib.hid fun W hF => (HR.out W hF).mono (by
      rintro e w' ⟨h1, ⟨-, a, c, he, hG⟩ | ⟨hn, -⟩⟩
      · exact ⟨a, c, he, h1, ivs_of_row hG.row⟩
      · rw [hok] at hn; cases hn)
    clear HL HR HSM hA hB hg hrl hok HSN
    generalize ivsU u = iv at *
    obtain ⟨method, args, T, R, P, S, ea, en, ec, ca, co, cc, sa, st, sc, ma, mp, mc⟩ := u
    unfold Un.v at HL2 HR2 ⊢
    simp only at HL2 HR2 ⊢
    generalize en.length = el at *
    generalize co.length = cl at *
    generalize st.length = sl at *
    generalize mp.length = ml at *
    generalize iv.length = n at *
    go_enter Tryz.func4, Tryz.ntmps4
    go_wp2_with (first
      | (go_at_call 15; refine (HAW.out _ (by (repeat (first | (with_reducible refine Fr.setCell ?_ (fun h => absurd h (Nat.lt_irrefl _)) _) | (with_reducible refine Fr.setCell ?_ (fun h => absurd h (by first | omega | (simp; done) | (simp; omega) | (dsimp only; omega))) _) | (with_reducible refine Fr.alloc ?_ _) | (with_reducible refine Fr.drew ?_) | (with_reducible refine Fr.drewN ?_ _) | (with_reducible exact Fr.refl _ _))))).mono ?_; rintro e w2 ⟨rfl, hF⟩; have HF2 : Hid (Fr [] w w2) := Lib.hid (Fr.trans (by (repeat (first | (with_reducible refine Fr.setCell ?_ (fun h => absurd h (Nat.lt_irrefl _)) _) | (with_reducible refine Fr.setCell ?_ (fun h => absurd h (by first | omega | (simp; done) | (simp; omega) | (dsimp only; omega))) _) | (with_reducible refine Fr.alloc ?_ _) | (with_reducible refine Fr.drew ?_) | (with_reducible refine Fr.drewN ?_ _) | (with_reducible exact Fr.refl _ _)))) hF); have HB2 := Lib.hid (hF.heap (by simp) (heap_new w _)); have b0 := cell_of_heap (o := 0) HB2.out rfl; have b1 := cell_of_heap (o := 1) HB2.out rfl; have b2 := cell_of_heap (o := 2) HB2.out rfl; have b3 := cell_of_heap (o := 3) HB2.out rfl; have b4 := cell_of_heap (o := 4) HB2.out rfl; have b5 := cell_of_heap (o := 5) HB2.out rfl; have b6 := cell_of_heap (o := 6) HB2.out rfl; have b7 := cell_of_heap (o := 7) HB2.out rfl; have b8 := cell_of_heap (o := 8) HB2.out rfl; have b9 := cell_of_heap (o := 9) HB2.out rfl; have hl2 := lt_of_heap HB2.out; clear hF)
      | (go_at_call 16; refine (HL2.out _ (by (repeat (first | (with_reducible refine Fr.setCell ?_ (fun h => absurd h (Nat.lt_irrefl _)) _) | (with_reducible refine Fr.setCell ?_ (fun h => absurd h (by first | omega | (simp; done) | (simp; omega) | (dsimp only; omega))) _) | (with_reducible refine Fr.alloc ?_ _) | (with_reducible refine Fr.drew ?_) | (with_reducible refine Fr.drewN ?_ _) | (with_reducible exact HF2.out))))).mono ?_; rintro e w3 ⟨a3, c3, rfl, hF, hI⟩; have HF3 : Hid (Fr [] w w3) := Lib.hid (HF2.out.trans hF); have HI3 := Lib.hid hI; have HB3 := Lib.hid (hF.heap (by simp) HB2.out); clear b0 b1 b2 b3 b4 b5 b6 b7 b8 b9 hl2; have b0 := cell_of_heap (o := 0) HB3.out rfl; have b1 := cell_of_heap (o := 1) HB3.out rfl; have b2 := cell_of_heap (o := 2) HB3.out rfl; have b3 := cell_of_heap (o := 3) HB3.out rfl; have b4 := cell_of_heap (o := 4) HB3.out rfl; have b5 := cell_of_heap (o := 5) HB3.out rfl; have b6 := cell_of_heap (o := 6) HB3.out rfl; have b7 := cell_of_heap (o := 7) HB3.out rfl; have b8 := cell_of_heap (o := 8) HB3.out rfl; have b9 := cell_of_heap (o := 9) HB3.out rfl; have hl2 := lt_of_heap HB3.out; clear hF hI)
      | (go_at_call 17; refine (HR2.out _ (by (repeat (first | (with_reducible refine Fr.setCell ?_ (fun h => absurd h (Nat.lt_irrefl _)) _) | (with_reducible refine Fr.setCell ?_ (fun h => absurd h (by first | omega | (simp; done) | (simp; omega) | (dsimp only; omega))) _) | (with_reducible refine Fr.alloc ?_ _) | (with_reducible refine Fr.drew ?_) | (with_reducible refine Fr.drewN ?_ _) | (with_reducible exact HF3.out))))).mono ?_; rintro e w4 ⟨a4, c4, rfl, hF, hI⟩; have HF34 : Hid (Fr [] w3 w4) := Lib.hid (Fr.trans (by (repeat (first | (with_reducible refine Fr.setCell ?_ (fun h => absurd h (Nat.lt_irrefl _)) _) | (with_reducible refine Fr.setCell ?_ (fun h => absurd h (by first | omega | (simp; done) | (simp; omega) | (dsimp only; omega))) _) | (with_reducible refine Fr.alloc ?_ _) | (with_reducible refine Fr.drew ?_) | (with_reducible refine Fr.drewN ?_ _) | (with_reducible exact Fr.refl _ _)))) hF); have HI4 := Lib.hid hI; clear hF hI)
      | (go_at_call 18; refine (HSM2.out _ _ _ _ _ (HI3.out.fr (by (repeat (first | (with_reducible refine Fr.setCell ?_ (fun h => absurd h (Nat.lt_irrefl _)) _) | (with_reducible refine Fr.setCell ?_ (fun h => absurd h (by first | omega | (simp; done) | (simp; omega) | (dsimp only; omega))) _) | (with_reducible refine Fr.alloc ?_ _) | (with_reducible refine Fr.drew ?_) | (with_reducible refine Fr.drewN ?_ _) | (with_reducible exact HF34.out))))) (HI4.out.fr (by (repeat (first | (with_reducible refine Fr.setCell ?_ (fun h => absurd h (Nat.lt_irrefl _)) _) | (with_reducible refine Fr.setCell ?_ (fun h => absurd h (by first | omega | (simp; done) | (simp; omega) | (dsimp only; omega))) _) | (with_reducible refine Fr.alloc ?_ _) | (with_reducible refine Fr.drew ?_) | (with_reducible refine Fr.drewN ?_ _) | (with_reducible exact Fr.refl _ _)))))).mono ?_; rintro e w5 ⟨rfl, hF⟩; have HF5 : Hid (Fr [] w w5) := Lib.hid (Fr.trans (HF3.out.trans (by (repeat (first | (with_reducible refine Fr.setCell ?_ (fun h => absurd h (Nat.lt_irrefl _)) _) | (with_reducible refine Fr.setCell ?_ (fun h => absurd h (by first | omega | (simp; done) | (simp; omega) | (dsimp only; omega))) _) | (with_reducible refine Fr.alloc ?_ _) | (with_reducible refine Fr.drew ?_) | (with_reducible refine Fr.drewN ?_ _) | (with_reducible exact HF34.out))))) hF); clear hF))
    go_ret
    exact ⟨rfl, HF5.out⟩
  · have HL2 : Hid (∀ W, Fr [] w W → Calls Tryz.prog 16 #[u.v] W (Still (.tuple #[.slice none 0 0, .int .i64 1]) W)) := Lib.hid fun W hF => (HL.out W hF).mono (by
      rintro e w' ⟨h1, ⟨hn, -⟩ | ⟨-, he⟩⟩
      · rw [hok] at hn; cases hn
      · exact ⟨he, h1⟩)
    have HR2 : Hid (∀ W, Fr [] w W → Calls Tryz.prog 17 #[u.v] W (Still (.tuple #[.slice none 0 0, .int .i64 1]) W)) := Lib.hid fun W hF => (HR.out W hF).mono (by
      rintro e w' ⟨h1, ⟨hn, -⟩ | ⟨-, he⟩⟩
      · rw [hok] at hn; cases hn
      · exact ⟨he, h1⟩)
    clear HL HR HSM hA hB hg hrl hok
    obtain ⟨method, args, T, R, P, S, ea, en, ec, ca, co, cc, sa, st, sc, ma, mp, mc⟩ := u
    unfold Un.v at HL2 HR2 ⊢
    simp only at HL2 HR2 ⊢
    generalize en.length = el at *
    generalize co.length = cl at *
    generalize st.length = sl at *
    generalize mp.length = ml at *
    go_enter Tryz.func4, Tryz.ntmps4
    go_wp2_with (first
      | (go_at_call 15; refine (HAW.out _ (by (repeat (first | (with_reducible refine Fr.setCell ?_ (fun h => absurd h (Nat.lt_irrefl _)) _) | (with_reducible refine Fr.setCell ?_ (fun h => absurd h (by first | omega | (simp; done) | (simp; omega) | (dsimp only; omega))) _) | (with_reducible refine Fr.alloc ?_ _) | (with_reducible refine Fr.drew ?_) | (with_reducible refine Fr.drewN ?_ _) | (with_reducible exact Fr.refl _ _))))).mono ?_; rintro e w2 ⟨rfl, hF⟩; have HF2 : Hid (Fr [] w w2) := Lib.hid (Fr.trans (by (repeat (first | (with_reducible refine Fr.setCell ?_ (fun h => absurd h (Nat.lt_irrefl _)) _) | (with_reducible refine Fr.setCell ?_ (fun h => absurd h (by first | omega | (simp; done) | (simp; omega) | (dsimp only; omega))) _) | (with_reducible refine Fr.alloc ?_ _) | (with_reducible refine Fr.drew ?_) | (with_reducible refine Fr.drewN ?_ _) | (with_reducible exact Fr.refl _ _)))) hF); have HB2 := Lib.hid (hF.heap (by simp) (heap_new w _)); have b0 := cell_of_heap (o := 0) HB2.out rfl; have b1 := cell_of_heap (o := 1) HB2.out rfl; have b2 := cell_of_heap (o := 2) HB2.out rfl; have b3 := cell_of_heap (o := 3) HB2.out rfl; have b4 := cell_of_heap (o := 4) HB2.out rfl; have b5 := cell_of_heap (o := 5) HB2.out rfl; have b6 := cell_of_heap (o := 6) HB2.out rfl; have b7 := cell_of_heap (o := 7) HB2.out rfl; have b8 := cell_of_heap (o := 8) HB2.out rfl; have b9 := cell_of_heap (o := 9) HB2.out rfl; have hl2 := lt_of_heap HB2.out; clear hF)
      | (go_at_call 16; refine (HL2.out _ (by (repeat (first | (with_reducible refine Fr.setCell ?_ (fun h => absurd h (Nat.lt_irrefl _)) _) | (with_reducible refine Fr.setCell ?_ (fun h => absurd h (by first | omega | (simp; done) | (simp; omega) | (dsimp only; omega))) _) | (with_reducible refine Fr.alloc ?_ _) | (with_reducible refine Fr.drew ?_) | (with_reducible refine Fr.drewN ?_ _) | (with_reducible exact HF2.out))))).mono ?_; rintro e w3 ⟨rfl, hF⟩; have HF3 : Hid (Fr [] w w3) := Lib.hid (HF2.out.trans hF); have HB3 := Lib.hid (hF.heap (by simp) HB2.out); clear b0 b1 b2 b3 b4 b5 b6 b7 b8 b9 hl2; have b0 := cell_of_heap (o := 0) HB3.out rfl; have b1 := cell_of_heap (o := 1) HB3.out rfl; have b2 := cell_of_heap (o := 2) HB3.out rfl; have b3 := cell_of_heap (o := 3) HB3.out rfl; have b4 := cell_of_heap (o := 4) HB3.out rfl; have b5 := cell_of_heap (o := 5) HB3.out rfl; have b6 := cell_of_heap (o := 6) HB3.out rfl; have b7 := cell_of_heap (o := 7) HB3.out rfl; have b8 := cell_of_heap (o := 8) HB3.out rfl; have b9 := cell_of_heap (o := 9) HB3.out rfl; have hl2 := lt_of_heap HB3.out; clear hF)
      | (go_at_call 17; refine (HR2.out _ (by (repeat (first | (with_reducible refine Fr.setCell ?_ (fun h => absurd h (Nat.lt_irrefl _)) _) | (with_reducible refine Fr.setCell ?_ (fun h => absurd h (by first | omega | (simp; done) | (simp; omega) | (dsimp only; omega))) _) | (with_reducible refine Fr.alloc ?_ _) | (with_reducible refine Fr.drew ?_) | (with_reducible refine Fr.drewN ?_ _) | (with_reducible exact HF3.out))))).mono ?_; rintro e w4 ⟨rfl, hF⟩; have HF34 : Hid (Fr [] w3 w4) := Lib.hid (Fr.trans (by (repeat (first | (with_reducible refine Fr.setCell ?_ (fun h => absurd h (Nat.lt_irrefl _)) _) | (with_reducible refine Fr.setCell ?_ (fun h => absurd h (by first | omega | (simp; done) | (simp; omega) | (dsimp only; omega))) _) | (with_reducible refine Fr.alloc ?_ _) | (with_reducible refine Fr.drew ?_) | (with_reducible refine Fr.drewN ?_ _) | (with_reducible exact Fr.refl _ _)))) hF); clear hF)
      | (go_at_call 18; refine (HSN.out _).mono ?_; rintro e w5 ⟨rfl, hF⟩; have HF5 : Hid (Fr [] w w5) := Lib.hid (Fr.trans (HF3.out.trans (by (repeat (first | (with_reducible refine Fr.setCell ?_ (fun h => absurd h (Nat.lt_irrefl _)) _) | (with_reducible refine Fr.setCell ?_ (fun h => absurd h (by first | omega | (simp; done) | (simp; omega) | (dsimp only; omega))) _) | (with_reducible refine Fr.alloc ?_ _) | (with_reducible refine Fr.drew ?_) | (with_reducible refine Fr.drewN ?_ _) | (with_reducible exact HF34.out))))) hF); clear hF))
    go_ret
    exact ⟨rfl, HF5.out⟩
end Go.Proofs.YtbmfmklalonhiaaGreatDoor
