/- LiveMeets: the walk. -/
import Derived.Test.YtbmfmklalonhiaaGreatDoorMLvC
namespace Go.Proofs.YtbmfmklalonhiaaGreatDoor
open Go.RowKit

theorem meet_swap (f1 t1 f2 t2 : Int) : meetB f2 t2 f1 t1 = meetB f1 t1 f2 t2 := by unfold meetB; rw [Bool.eq_iff_iff]; simp; omega
theorem meet_self (f t : Int) : meetB f t f t = decide (f ≤ t) := by unfold meetB; simp
set_option maxRecDepth 100000 in
set_option maxHeartbeats 4000000 in
theorem liveMeets_walk (v1 f1 t1 v2 f2 t2 : Int) (w : World) (hg : VG w) : Calls Tryz.prog 5 #[ivA v1 f1 t1, ivA v2 f2 t2] w (Still (.bool true) w) := by
  have HAW := Lib.hid (fun W (hF : Fr [] w W) => awake13 W (hg.fr hF))
  have HM1 : Hid (∀ W, Calls Tryz.prog 19 #[ivA v1 f1 t1, ivA v2 f2 t2] W (Still (.bool (meetB f1 t1 f2 t2)) W)) := Lib.hid fun W => lv_Meet v1 f1 t1 v2 f2 t2 W
  have HM2 : Hid (∀ W, Calls Tryz.prog 20 #[ivA v1 f1 t1, ivA v2 f2 t2] W (Still (.bool (meetB f1 t1 f2 t2)) W)) := Lib.hid fun W => r13_Meet v1 f1 t1 v2 f2 t2 W
  have HM3 : Hid (∀ W, Calls Tryz.prog 19 #[ivA v2 f2 t2, ivA v1 f1 t1] W (Still (.bool (meetB f1 t1 f2 t2)) W)) := Lib.hid fun W => by rw [← meet_swap]; exact lv_Meet v2 f2 t2 v1 f1 t1 W
  have HM4 : Hid (∀ W, Calls Tryz.prog 19 #[ivA v1 f1 t1, ivA v1 f1 t1] W (Still (.bool (decide (f1 ≤ t1))) W)) := Lib.hid fun W => by rw [← meet_self]; exact lv_Meet v1 f1 t1 v1 f1 t1 W
  generalize meetB f1 t1 f2 t2 = mb at *
  obtain ⟨sb, hsb⟩ : ∃ sb, sb = decide (f1 ≤ t1) := ⟨_, rfl⟩
  rw [← hsb] at HM4
  have HSB : Hid (decide (f1 ≤ t1) = sb) := Lib.hid hsb.symm
  unfold ivA at *
  clear hg hsb
  go_enter Tryz.func5, Tryz.ntmps5
  have hp := hp1 w (.cells #[.int .i64 v1, .int .i64 f1, .int .i64 t1] 57) (.cells #[.int .i64 v2, .int .i64 f2, .int .i64 t2] 57)
  have hq := hp2 w (.cells #[.int .i64 v1, .int .i64 f1, .int .i64 t1] 57) (.cells #[.int .i64 v2, .int .i64 f2, .int .i64 t2] 57)
  have HP := Lib.hid hp
  have HQ := Lib.hid hq
  clear hp hq
  go_wp2_with (first
    | (go_at_call 15; refine (HAW.out _ (by (repeat (first | (with_reducible refine Fr.setCell ?_ (fun h => absurd h (Nat.lt_irrefl _)) _) | (with_reducible refine Fr.setCell ?_ (fun h => absurd h (by first | omega | (simp; done) | (simp; omega) | (dsimp only; omega))) _) | (with_reducible refine Fr.alloc ?_ _) | (with_reducible refine Fr.drew ?_) | (with_reducible refine Fr.drewN ?_ _) | (with_reducible exact Fr.refl _ _))))).mono ?_; rintro e w2 ⟨rfl, hF⟩; have HF2 : Hid (Fr [] w w2) := Lib.hid (Fr.trans (by (repeat (first | (with_reducible refine Fr.setCell ?_ (fun h => absurd h (Nat.lt_irrefl _)) _) | (with_reducible refine Fr.setCell ?_ (fun h => absurd h (by first | omega | (simp; done) | (simp; omega) | (dsimp only; omega))) _) | (with_reducible refine Fr.alloc ?_ _) | (with_reducible refine Fr.drew ?_) | (with_reducible refine Fr.drewN ?_ _) | (with_reducible exact Fr.refl _ _)))) hF); have HP2 := Lib.hid (hF.heap (by simp) HP.out); have HQ2 := Lib.hid (hF.heap (by simp) HQ.out); have p0 := cell_of_heap (o := 0) HP2.out rfl; have p1 := cell_of_heap (o := 1) HP2.out rfl; have p2 := cell_of_heap (o := 2) HP2.out rfl; have q0 := cell_of_heap (o := 0) HQ2.out rfl; have q1 := cell_of_heap (o := 1) HQ2.out rfl; have q2 := cell_of_heap (o := 2) HQ2.out rfl; have hl2 := lt_of_heap HQ2.out; have hl3 := lt_of_heap HP2.out; clear hF)
    | (go_at_call 19; refine (HM1.out _).mono ?_; rintro e w3 ⟨rfl, hF⟩; have HF3 : Hid (Fr [] w2 w3) := Lib.hid hF; have HF03 : Hid (Fr [] w w3) := Lib.hid (HF2.out.trans hF); clear p0 p1 p2 q0 q1 q2 hl2 hl3; have HP3 := Lib.hid (hF.heap (by simp) HP2.out); have HQ3 := Lib.hid (hF.heap (by simp) HQ2.out); have p0 := cell_of_heap (o := 0) HP3.out rfl; have p1 := cell_of_heap (o := 1) HP3.out rfl; have p2 := cell_of_heap (o := 2) HP3.out rfl; have q0 := cell_of_heap (o := 0) HQ3.out rfl; have q1 := cell_of_heap (o := 1) HQ3.out rfl; have q2 := cell_of_heap (o := 2) HQ3.out rfl; have hl2 := lt_of_heap HQ3.out; have hl3 := lt_of_heap HP3.out; clear hF))
  have b1 : (mb == mb) = true := by simp
  have b2 : (sb == decide (f1 ≤ t1)) = true := by rw [HSB.out]; simp
  go_region_held3 (fun w' => w'.cell? ⟨w.heap.size, 0, none⟩ = some (.int .i64 v1) ∧ w'.cell? ⟨w.heap.size, 1, none⟩ = some (.int .i64 f1) ∧ w'.cell? ⟨w.heap.size, 2, none⟩ = some (.int .i64 t1) ∧ w'.cell? ⟨w.heap.size + 1, 0, none⟩ = some (.int .i64 v2) ∧ w'.cell? ⟨w.heap.size + 1, 1, none⟩ = some (.int .i64 f2) ∧ w'.cell? ⟨w.heap.size + 1, 2, none⟩ = some (.int .i64 t2))
    (first | exact ⟨p0, p1, p2, q0, q1, q2⟩ | exact ⟨y0, y1, y2, y3, y4, y5⟩ | exact ⟨z0, z1, z2, z3, z4, z5⟩ | exact ⟨x0, x1, x2, x3, x4, x5⟩ | go_keep)
    (first
      | (go_at_call 20; refine (HM2.out _).mono ?_; rintro e w4 ⟨rfl, hF⟩; have HF4 : Hid (Fr [] w3 w4) := Lib.hid (Fr.trans (by (repeat (first | (with_reducible refine Fr.setCell ?_ (fun h => absurd h (Nat.lt_irrefl _)) _) | (with_reducible refine Fr.setCell ?_ (fun h => absurd h (by first | omega | (simp; done) | (simp; omega) | (dsimp only; omega))) _) | (with_reducible refine Fr.alloc ?_ _) | (with_reducible refine Fr.drew ?_) | (with_reducible refine Fr.drewN ?_ _) | (with_reducible exact Fr.refl _ _)))) hF); have y0 := HF4.out.cell (by simp) p0; have y1 := HF4.out.cell (by simp) p1; have y2 := HF4.out.cell (by simp) p2; have y3 := HF4.out.cell (by simp) q0; have y4 := HF4.out.cell (by simp) q1; have y5 := HF4.out.cell (by simp) q2; clear hF)
      | (go_at_call 19; (with_reducible refine (HM3.out _).mono ?_); rintro e w5 ⟨rfl, hF⟩; have HF5 : Hid (Fr [] w4 w5) := Lib.hid (Fr.trans (by (repeat (first | (with_reducible refine Fr.setCell ?_ (fun h => absurd h (Nat.lt_irrefl _)) _) | (with_reducible refine Fr.setCell ?_ (fun h => absurd h (by first | omega | (simp; done) | (simp; omega) | (dsimp only; omega))) _) | (with_reducible refine Fr.alloc ?_ _) | (with_reducible refine Fr.drew ?_) | (with_reducible refine Fr.drewN ?_ _) | (with_reducible exact Fr.refl _ _)))) hF); have z0 := HF5.out.cell (by simp) y0; have z1 := HF5.out.cell (by simp) y1; have z2 := HF5.out.cell (by simp) y2; have z3 := HF5.out.cell (by simp) y3; have z4 := HF5.out.cell (by simp) y4; have z5 := HF5.out.cell (by simp) y5; clear hF)
      | (go_at_call 19; (with_reducible refine (HM4.out _).mono ?_); rintro e w6 ⟨rfl, hF⟩; have HF6 : Hid (Fr [] w5 w6) := Lib.hid (Fr.trans (by (repeat (first | (with_reducible refine Fr.setCell ?_ (fun h => absurd h (Nat.lt_irrefl _)) _) | (with_reducible refine Fr.setCell ?_ (fun h => absurd h (by first | omega | (simp; done) | (simp; omega) | (dsimp only; omega))) _) | (with_reducible refine Fr.alloc ?_ _) | (with_reducible refine Fr.drew ?_) | (with_reducible refine Fr.drewN ?_ _) | (with_reducible exact Fr.refl _ _)))) hF); have x0 := HF6.out.cell (by simp) z0; have x1 := HF6.out.cell (by simp) z1; have x2 := HF6.out.cell (by simp) z2; have x3 := HF6.out.cell (by simp) z3; have x4 := HF6.out.cell (by simp) z4; have x5 := HF6.out.cell (by simp) z5; clear hF))
  go_wp2_with fail
  go_ret
  exact ⟨rfl, HF03.out.trans (HF4.out.trans (HF5.out.trans (Fr.trans HF6.out (by (repeat (first | (with_reducible refine Fr.setCell ?_ (fun h => absurd h (Nat.lt_irrefl _)) _) | (with_reducible refine Fr.setCell ?_ (fun h => absurd h (by first | omega | (simp; done) | (simp; omega) | (dsimp only; omega))) _) | (with_reducible refine Fr.alloc ?_ _) | (with_reducible refine Fr.drew ?_) | (with_reducible refine Fr.drewN ?_ _) | (with_reducible exact Fr.refl _ _)))))))⟩
end Go.Proofs.YtbmfmklalonhiaaGreatDoor
