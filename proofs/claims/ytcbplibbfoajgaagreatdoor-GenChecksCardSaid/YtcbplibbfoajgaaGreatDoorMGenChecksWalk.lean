/- GenChecks: the walk. -/
import Derived.Test.YtcbplibbfoajgaaGreatDoorMGlMaps
namespace Go.Proofs.YtcbplibbfoajgaaGreatDoor
open Go.RowKit

set_option maxRecDepth 100000 in
set_option maxHeartbeats 8000000 in
theorem genChecks_walk (m : Mth) (la ca : Option Addr) (lc cc : Nat) (method : Int) (w : World) (hcode : RowAt w ca (flatI m.code)) (hlits : RowAt w la (m.lits.map (Value.int .u64))) (hcl : m.code.length ≤ 5864062014805) (hwb : ∀ x ∈ m.lits, WU x) (hmw : WU method) (hg : VG w) : Calls Tryz.prog 3 #[m.v la lc ca cc, .int .u64 method] w (Still (.bool true) w) := by
  have HAW := Lib.hid (fun W (hF : Fr [] w W) => awake12 W (hg.fr hF))
  have HGN := Lib.hid (fun W (hF : Fr [] w W) => gn_Gen m method la ca lc cc W (hcode.fr0 hF) (hlits.fr0 hF) (hg.fr hF))
  have HRD := Lib.hid (fun W (hF : Fr [] w W) => rDepths_at m la ca lc cc W (hcode.fr0 hF) hcl)
  have HC := Lib.hid hcode
  have HWB := Lib.hid hwb
  have HMW := Lib.hid hmw
  unfold Mth.v at HGN HRD ⊢
  obtain ⟨n, hnn⟩ : ∃ n, n = m.code.length := ⟨_, rfl⟩
  obtain ⟨ll, hll⟩ : ∃ ll, ll = m.lits.length := ⟨_, rfl⟩
  simp only [← hnn, ← hll] at HGN HRD ⊢
  have HN := Lib.hid hnn
  clear hcode hlits hg hnn hll hcl hwb hmw
  go_enter Tryz.func3, Tryz.ntmps3
  go_wp2_with fail
  refine (HAW.out _ ((Fr.refl _ _).alloc _)).mono ?_
  rintro e w2 ⟨rfl, hF2⟩
  have HF2 : Hid (Fr [] w w2) := Lib.hid (((Fr.refl _ _).alloc _).trans hF2)
  have HB2 := Lib.hid (hF2.heap (by simp) (heap_new w _))
  have k0 := cell_of_heap (o := 0) HB2.out rfl; have k1 := cell_of_heap (o := 1) HB2.out rfl; have k2 := cell_of_heap (o := 2) HB2.out rfl; have k3 := cell_of_heap (o := 3) HB2.out rfl; have k4 := cell_of_heap (o := 4) HB2.out rfl; have k5 := cell_of_heap (o := 5) HB2.out rfl
  clear hF2
  go_wp2_with fail
  refine (HGN.out w2 HF2.out).mono ?_
  rintro e w3 ⟨hF3, ⟨hok, v, lo, rfl, hs, hO⟩ | ⟨hn, er, her, rfl⟩⟩
  · have HOK := Lib.hid hok
    have HS := Lib.hid hs
    have HA := Lib.hid hO.at
    have HF3 : Hid (Fr [] w w3) := Lib.hid (HF2.out.trans hF3)
    have HB3 := Lib.hid (hF3.heap (by simp) HB2.out)
    obtain ⟨e1, e2⟩ := gen_lens hs
    obtain ⟨e3, e4⟩ := gen_temps hs
    have HUB9 := Lib.hid (unit_UB hok HWB.out HMW.out hs hO)
    have HCK : Hid (∀ W, Fr [] w3 W → Calls Tryz.prog 8 #[v.v] W (Still (.int .i64 0) W)) := Lib.hid fun W hF => by
      have h9 := ir_Check v W (HA.out.fr hF) HUB9.out
      rw [unit_errU hok hs] at h9
      exact h9
    unfold Un.v at HCK ⊢
    dsimp only at HCK ⊢
    simp only [e1, e2, e3, e4, ← HN.out] at HCK ⊢
    obtain ⟨el, hel⟩ : ∃ x, x = v.enter.length := ⟨_, rfl⟩
    obtain ⟨cl, hcl⟩ : ∃ x, x = v.code.length := ⟨_, rfl⟩
    simp only [← hel, ← hcl] at HCK ⊢
    have HCL := Lib.hid hcl
    have HCB : Hid (cl ≤ 10000) := Lib.hid (by rw [hcl]; exact gen_code_le hok hs)
    clear hok hs hO hF3 e1 e2 e3 e4 hel hcl k0 k1 k2 k3 k4 k5
    have k0 := cell_of_heap (o := 0) HB3.out rfl; have k1 := cell_of_heap (o := 1) HB3.out rfl; have k2 := cell_of_heap (o := 2) HB3.out rfl; have k3 := cell_of_heap (o := 3) HB3.out rfl; have k4 := cell_of_heap (o := 4) HB3.out rfl; have k5 := cell_of_heap (o := 5) HB3.out rfl
    have hl3 := lt_of_heap HB3.out
    go_wp2_with fail
    refine (HRD.out _ (HF3.out.alloc _)).mono ?_
    rintro e w4 ⟨l, p, en, da, dc, hto, rfl, hF4, hR4, -⟩
    obtain ⟨rfl, rfl, rfl⟩ := DepthsTo.of_good HOK.out.good hto
    have HF34 : Hid (Fr [] w3 w4) := Lib.hid (((Fr.refl [] w3).alloc _).trans hF4)
    have hF34 : Fr [] w3 w4 := ((Fr.refl [] w3).alloc _).trans hF4
    have HF4 : Hid (Fr [] w w4) := Lib.hid (HF3.out.trans hF34)
    have HB4 := Lib.hid (hF34.heap (by simp) HB3.out)
    have HU4 := Lib.hid (hF4.heap (by simp) (heap_new w3 _))
    have HA4 : Hid (UAt w4 v) := Lib.hid (HA.out.fr hF34)
    have HD4 := Lib.hid hR4
    have HC4 : Hid (RowAt w4 ca (flatI m.code)) := Lib.hid (HC.out.fr0 HF4.out)
    rw [m.depths_len, ← HN.out]
    have HDL : Hid ((gmOf m).dep.length = n) := Lib.hid (by rw [HN.out]; exact m.depths_len)
    have hn128 : n ≤ 128 := by have := m.head_iff.1 (m.ok_iff.1 HOK.out.good.ok).1; rw [HN.out]; omega
    clear hF4 hF34 hR4 hto hl3 k0 k1 k2 k3 k4 k5
    have x0 := cell_of_heap (o := 0) HB4.out rfl; have x1 := cell_of_heap (o := 1) HB4.out rfl; have x2 := cell_of_heap (o := 2) HB4.out rfl; have x3 := cell_of_heap (o := 3) HB4.out rfl; have x4 := cell_of_heap (o := 4) HB4.out rfl; have x5 := cell_of_heap (o := 5) HB4.out rfl
    have u0 := cell_of_heap (o := 0) HU4.out rfl; have u1 := cell_of_heap (o := 1) HU4.out rfl; have u2 := cell_of_heap (o := 2) HU4.out rfl; have u3 := cell_of_heap (o := 3) HU4.out rfl; have u4 := cell_of_heap (o := 4) HU4.out rfl; have u5 := cell_of_heap (o := 5) HU4.out rfl; have u6 := cell_of_heap (o := 6) HU4.out rfl; have u7 := cell_of_heap (o := 7) HU4.out rfl; have u8 := cell_of_heap (o := 8) HU4.out rfl; have u9 := cell_of_heap (o := 9) HU4.out rfl
    have hbl := lt_of_heap HB4.out
    have hul := lt_of_heap HU4.out
    go_wp2_with (go_at_call 8; refine (HCK.out _ (by (repeat (first | (with_reducible refine Fr.setCell ?_ (fun h => absurd h (Nat.lt_irrefl _)) _) | (with_reducible refine Fr.setCell ?_ (fun h => absurd h (by first | omega | (simp; done) | (simp; omega) | (dsimp only; omega))) _) | (with_reducible refine Fr.alloc ?_ _) | (with_reducible refine Fr.drew ?_) | (with_reducible refine Fr.drewN ?_ _) | (with_reducible exact HF34.out))))).mono ?_; rintro e w5 ⟨rfl, hF⟩; have HF45 : Hid (Fr [] w4 w5) := Lib.hid (Fr.trans (by (repeat (first | (with_reducible refine Fr.setCell ?_ (fun h => absurd h (Nat.lt_irrefl _)) _) | (with_reducible refine Fr.setCell ?_ (fun h => absurd h (by first | omega | (simp; done) | (simp; omega) | (dsimp only; omega))) _) | (with_reducible refine Fr.alloc ?_ _) | (with_reducible refine Fr.drew ?_) | (with_reducible refine Fr.drewN ?_ _) | (with_reducible exact Fr.refl _ _)))) hF); clear x0 x1 x2 x3 x4 x5 u0 u1 u2 u3 u4 u5 u6 u7 u8 u9 hbl hul; have HB5 := Lib.hid (HF45.out.heap (by simp) HB4.out); have HU5 := Lib.hid (HF45.out.heap (by simp) HU4.out); have x0 := cell_of_heap (o := 0) HB5.out rfl; have x1 := cell_of_heap (o := 1) HB5.out rfl; have x2 := cell_of_heap (o := 2) HB5.out rfl; have x3 := cell_of_heap (o := 3) HB5.out rfl; have x4 := cell_of_heap (o := 4) HB5.out rfl; have x5 := cell_of_heap (o := 5) HB5.out rfl; have u0 := cell_of_heap (o := 0) HU5.out rfl; have u1 := cell_of_heap (o := 1) HU5.out rfl; have u2 := cell_of_heap (o := 2) HU5.out rfl; have u3 := cell_of_heap (o := 3) HU5.out rfl; have u4 := cell_of_heap (o := 4) HU5.out rfl; have u5 := cell_of_heap (o := 5) HU5.out rfl; have u6 := cell_of_heap (o := 6) HU5.out rfl; have u7 := cell_of_heap (o := 7) HU5.out rfl; have u8 := cell_of_heap (o := 8) HU5.out rfl; have u9 := cell_of_heap (o := 9) HU5.out rfl; have hbl := lt_of_heap HB5.out; have hul := lt_of_heap HU5.out; clear hF)
    clear x0 x1 x2 x3 x4 x5 u0 u1 u2 u3 u4 u5 u6 u7 u8 u9 hbl hul
    go_loopw [11] (fun i wr => ∃ k : Nat, k ≤ n ∧ i = .int .i64 k ∧ Hid (Fr [] w5 wr)) (fun i _ => n - (intOf i).toNat)
    case atStart => exact ⟨0, Nat.zero_le _, rfl, Lib.hid (by (repeat (first | (with_reducible refine Fr.setCell ?_ (fun h => absurd h (Nat.lt_irrefl _)) _) | (with_reducible refine Fr.setCell ?_ (fun h => absurd h (by first | omega | (simp; done) | (simp; omega) | (dsimp only; omega))) _) | (with_reducible refine Fr.alloc ?_ _) | (with_reducible refine Fr.drew ?_) | (with_reducible refine Fr.drewN ?_ _) | (with_reducible exact Fr.refl _ _))))⟩
    case round =>
      obtain ⟨k, hk, rfl, HF⟩ := hrel
      have HF4r : Hid (Fr [] w4 wr) := Lib.hid (HF45.out.trans HF.out)
      have HFw : Hid (Fr [] w wr) := Lib.hid (HF4.out.trans HF4r.out)
      have hb := HF.out.heap (by simp) HB5.out
      have hu := HF.out.heap (by simp) HU5.out
      have x0 := cell_of_heap (o := 0) hb rfl; have x1 := cell_of_heap (o := 1) hb rfl; have x2 := cell_of_heap (o := 2) hb rfl; have x3 := cell_of_heap (o := 3) hb rfl; have x4 := cell_of_heap (o := 4) hb rfl; have x5 := cell_of_heap (o := 5) hb rfl
      have u0 := cell_of_heap (o := 0) hu rfl; have u1 := cell_of_heap (o := 1) hu rfl; have u2 := cell_of_heap (o := 2) hu rfl; have u3 := cell_of_heap (o := 3) hu rfl; have u4 := cell_of_heap (o := 4) hu rfl; have u5 := cell_of_heap (o := 5) hu rfl; have u6 := cell_of_heap (o := 6) hu rfl; have u7 := cell_of_heap (o := 7) hu rfl; have u8 := cell_of_heap (o := 8) hu rfl; have u9 := cell_of_heap (o := 9) hu rfl
      have hbl := lt_of_heap hb
      have hul := lt_of_heap hu
      clear hb hu
      by_cases hlt : k < n
      · obtain ⟨i, hi⟩ : ∃ i, m.code[k]? = some i := ⟨_, List.getElem?_eq_getElem (by rw [← HN.out]; exact hlt)⟩
        obtain ⟨d, hd⟩ : ∃ d, d = (gmOf m).dep.getD k (-1) := ⟨_, rfl⟩
        obtain ⟨gd, od, rfl, cd⟩ := (HD4.out.fr0 HF4r.out) k (.int .i64 d) (by rw [List.getElem?_map, hd, List.getD_eq_getElem?_getD, show (gmOf m).dep = m.depths from rfl, List.getElem?_eq_getElem (by rw [m.depths_len, ← HN.out]; exact hlt)]; rfl)
        have hgd := World.block_lt_of_cell? wr _ cd
        have hon : (gmOf m).on k ↔ 0 ≤ d := by unfold GM.on; rw [← hd]
        obtain ⟨gm, om, a2, q, c2, e1, e2, e3, e4⟩ := map_len_at HOK.out HS.out (HA4.out.fr HF4r.out) hi
        rw [e1] at u9
        have g1 := World.block_lt_of_cell? wr _ e2
        have k0 : (0 : Int) ≤ (k : Int) := by omega
        have k1 : (k : Int) < (n : Int) := by omega
        by_cases hd0 : 0 ≤ d
        · have hda : d = (((gmOf m).at k : Nat) : Int) := by unfold GM.at; rw [← hd]; omega
          have e5 := e3 (hon.2 hd0)
          rw [← hda] at e5
          have hq9 : q ≤ 1000 := by
            have W := HOK.out.wf
            have hf := W.fits k (hon.2 hd0)
            have hst := W.stack
            have h8 := m.head_iff.1 (m.ok_iff.1 HOK.out.good.ok).1
            omega
          have hz : decide (d < 0) = false := by simp; omega
          have hz2 : decide (0 ≤ d) = true := by simp; omega
          have w1 : IntKind.i64.wrap (m.temps + d) = (q : Int) := by rw [IntWalk.i64_in _ (by omega)]; omega
          clear hon hd hi e1 e3 e4 e5 hda
          go_wp2_with fail
          go_quiet (fail)
          go_wp2_with fail
          go_roundw
          case rel => exact ⟨k + 1, by omega, by go_num, Lib.hid (by (repeat (first | (with_reducible refine Fr.setCell ?_ (fun h => absurd h (Nat.lt_irrefl _)) _) | (with_reducible refine Fr.setCell ?_ (fun h => absurd h (by first | omega | (simp; done) | (simp; omega) | (dsimp only; omega))) _) | (with_reducible refine Fr.alloc ?_ _) | (with_reducible refine Fr.drew ?_) | (with_reducible refine Fr.drewN ?_ _) | (with_reducible exact HF.out))))⟩
          case measure => simp [intOf]; omega
        · have hz : decide (d < 0) = true := by simp; omega
          have hz2 : decide (0 ≤ d) = false := by simp; omega
          obtain rfl : q = 0 := e4 (fun h => hd0 (hon.1 h))
          clear hon hd hi e1 e3 e4
          go_wp2_with fail
          go_quiet (fail)
          go_wp2_with fail
          go_roundw
          case rel => exact ⟨k + 1, by omega, by go_num, Lib.hid (by (repeat (first | (with_reducible refine Fr.setCell ?_ (fun h => absurd h (Nat.lt_irrefl _)) _) | (with_reducible refine Fr.setCell ?_ (fun h => absurd h (by first | omega | (simp; done) | (simp; omega) | (dsimp only; omega))) _) | (with_reducible refine Fr.alloc ?_ _) | (with_reducible refine Fr.drew ?_) | (with_reducible refine Fr.drewN ?_ _) | (with_reducible exact HF.out))))⟩
          case measure => simp [intOf]; omega
      · have hkd : ¬ (k : Int) < (n : Int) := by omega
        clear hlt
        go_wp2_with fail
        go_ret
        exact ⟨rfl, HFw.out⟩
  · have HF3 : Hid (Fr [] w w3) := Lib.hid (HF2.out.trans hF3)
    have HB3 := Lib.hid (hF3.heap (by simp) HB2.out)
    clear hn hF3 k0 k1 k2 k3 k4 k5
    have k0 := cell_of_heap (o := 0) HB3.out rfl; have k1 := cell_of_heap (o := 1) HB3.out rfl; have k2 := cell_of_heap (o := 2) HB3.out rfl; have k3 := cell_of_heap (o := 3) HB3.out rfl; have k4 := cell_of_heap (o := 4) HB3.out rfl; have k5 := cell_of_heap (o := 5) HB3.out rfl
    have hl3 := lt_of_heap HB3.out
    unfold noU Un.v
    dsimp only
    rcases her with rfl | rfl
    all_goals
      go_wp2_with fail
      go_ret
      exact ⟨ret1 (vb (by simp)), by (repeat (first | (with_reducible refine Fr.setCell ?_ (fun h => absurd h (Nat.lt_irrefl _)) _) | (with_reducible refine Fr.setCell ?_ (fun h => absurd h (by first | omega | (simp; done) | (simp; omega) | (dsimp only; omega))) _) | (with_reducible refine Fr.alloc ?_ _) | (with_reducible refine Fr.drew ?_) | (with_reducible refine Fr.drewN ?_ _) | (with_reducible exact HF3.out)))⟩
end Go.Proofs.YtcbplibbfoajgaaGreatDoor
