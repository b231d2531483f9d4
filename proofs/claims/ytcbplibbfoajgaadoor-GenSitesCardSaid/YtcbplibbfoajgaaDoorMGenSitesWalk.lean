/- GenSites: the walk. -/
import Derived.Test.YtcbplibbfoajgaaDoorMGlSites
namespace Go.Proofs.YtcbplibbfoajgaaDoor
open Go.RowKit

set_option maxRecDepth 100000 in
set_option maxHeartbeats 8000000 in
theorem genSites_walk (m : Mth) (la ca : Option Addr) (lc cc : Nat) (w : World) (hcode : RowAt w ca (flatI m.code)) (hlits : RowAt w la (m.lits.map (Value.int .u64))) (hcl : m.code.length ≤ 5864062014805) (hg : VG w) : Calls Tryd.prog 4 #[m.v la lc ca cc] w (Still (.bool true) w) := by
  have HAW := Lib.hid (fun W (hF : Fr [] w W) => awake12 W (hg.fr hF))
  have HGN := Lib.hid (fun W (hF : Fr [] w W) => gn_Gen m 4 la ca lc cc W (hcode.fr0 hF) (hlits.fr0 hF) (hg.fr hF))
  have HRD := Lib.hid (fun W (hF : Fr [] w W) => rDepths_at m la ca lc cc W (hcode.fr0 hF) hcl)
  have HC := Lib.hid hcode
  have HLI := Lib.hid hlits
  unfold Mth.v at HGN HRD ⊢
  obtain ⟨n, hnn⟩ : ∃ n, n = m.code.length := ⟨_, rfl⟩
  obtain ⟨ll, hll⟩ : ∃ ll, ll = m.lits.length := ⟨_, rfl⟩
  simp only [← hnn, ← hll] at HGN HRD ⊢
  have HN := Lib.hid hnn
  have HLN := Lib.hid hll
  clear hcode hlits hg hnn hll hcl
  go_enter Tryd.func4, Tryd.ntmps4
  go_wp2_with fail
  refine (HAW.out _ ((Fr.refl _ _).alloc _)).mono ?_
  rintro e w2 ⟨rfl, hF2⟩
  have HF2 : Hid (Fr [] w w2) := Lib.hid (((Fr.refl _ _).alloc _).trans hF2)
  have HB2 := Lib.hid (hF2.heap (by simp) (heap_new w _))
  have k0 := cell_of_heap (o := 0) HB2.out rfl; have k1 := cell_of_heap (o := 1) HB2.out rfl; have k2 := cell_of_heap (o := 2) HB2.out rfl; have k3 := cell_of_heap (o := 3) HB2.out rfl; have k4 := cell_of_heap (o := 4) HB2.out rfl; have k5 := cell_of_heap (o := 5) HB2.out rfl
  clear hF2
  go_wp2_with fail
  refine (HGN.out w2 HF2.out).mono ?_
  rintro e w3 ⟨hF3, ⟨hok, v, lo, rfl, hs, hO⟩ | ⟨hn, er, her, rfl⟩⟩
  · have HOK := Lib.hid hok
    have HS := Lib.hid hs
    have HA := Lib.hid hO.at
    have HF3 : Hid (Fr [] w w3) := Lib.hid (HF2.out.trans hF3)
    have HB3 := Lib.hid (hF3.heap (by simp) HB2.out)
    obtain ⟨e1, e2⟩ := gen_lens hs
    unfold Un.v
    dsimp only
    rw [e1, e2, ← HN.out]
    obtain ⟨el, hel⟩ : ∃ x, x = v.enter.length := ⟨_, rfl⟩
    obtain ⟨cl, hcl⟩ : ∃ x, x = v.code.length := ⟨_, rfl⟩
    rw [← hel, ← hcl]
    have HCL := Lib.hid hcl
    have HCB : Hid (cl ≤ 10000) := Lib.hid (by rw [hcl]; exact gen_code_le hok hs)
    clear hok hs hO hF3 e1 e2 hel hcl k0 k1 k2 k3 k4 k5
    have k0 := cell_of_heap (o := 0) HB3.out rfl; have k1 := cell_of_heap (o := 1) HB3.out rfl; have k2 := cell_of_heap (o := 2) HB3.out rfl; have k3 := cell_of_heap (o := 3) HB3.out rfl; have k4 := cell_of_heap (o := 4) HB3.out rfl; have k5 := cell_of_heap (o := 5) HB3.out rfl
    have hl3 := lt_of_heap HB3.out
    go_wp2_with fail
    refine (HRD.out _ (HF3.out.alloc _)).mono ?_
    rintro e w4 ⟨l, p, en, da, dc, hto, rfl, hF4, hR4, -⟩
    obtain ⟨rfl, rfl, rfl⟩ := DepthsTo.of_good HOK.out.good hto
    have hF34 : Fr [] w3 w4 := ((Fr.refl [] w3).alloc _).trans hF4
    have HF4 : Hid (Fr [] w w4) := Lib.hid (HF3.out.trans hF34)
    have HB4 := Lib.hid (hF34.heap (by simp) HB3.out)
    have HU4 := Lib.hid (hF4.heap (by simp) (heap_new w3 _))
    have HA4 : Hid (UAt w4 v) := Lib.hid (HA.out.fr hF34)
    have HD4 := Lib.hid hR4
    have HC4 : Hid (RowAt w4 ca (flatI m.code)) := Lib.hid (HC.out.fr0 HF4.out)
    rw [m.depths_len, ← HN.out]
    have HDL : Hid ((gmOf m).dep.length = n) := Lib.hid (by rw [HN.out]; exact m.depths_len)
    have hn128 : n ≤ 128 := by have := m.head_iff.1 (m.ok_iff.1 HOK.out.good.ok).1; rw [HN.out]; omega
    clear hF4 hF34 hR4 hto hl3 k0 k1 k2 k3 k4 k5
    have x0 := cell_of_heap (o := 0) HB4.out rfl; have x1 := cell_of_heap (o := 1) HB4.out rfl; have x2 := cell_of_heap (o := 2) HB4.out rfl; have x3 := cell_of_heap (o := 3) HB4.out rfl; have x4 := cell_of_heap (o := 4) HB4.out rfl; have x5 := cell_of_heap (o := 5) HB4.out rfl
    have u0 := cell_of_heap (o := 0) HU4.out rfl; have u1 := cell_of_heap (o := 1) HU4.out rfl; have u2 := cell_of_heap (o := 2) HU4.out rfl; have u3 := cell_of_heap (o := 3) HU4.out rfl; have u4 := cell_of_heap (o := 4) HU4.out rfl; have u5 := cell_of_heap (o := 5) HU4.out rfl; have u6 := cell_of_heap (o := 6) HU4.out rfl; have u7 := cell_of_heap (o := 7) HU4.out rfl; have u8 := cell_of_heap (o := 8) HU4.out rfl; have u9 := cell_of_heap (o := 9) HU4.out rfl
    have hbl := lt_of_heap HB4.out
    have hul := lt_of_heap HU4.out
    have HNU : Hid (numd 0 v.code = some v.sites) := Lib.hid (gen_numd HS.out)
    go_wp2_with fail
    clear x0 x1 x2 x3 x4 x5 u0 u1 u2 u3 u4 u5 u6 u7 u8 u9 hbl hul
    go_loopw [9, 10] (fun a i wr => ∃ k c : Nat, k ≤ cl ∧ i = .int .i64 k ∧ a = .int .i64 c ∧ c ≤ k ∧ Hid (Fr [] w4 wr) ∧ Hid (numd c (v.code.drop k) = some v.sites)) (fun _ i _ => cl - (intOf i).toNat)
    case atStart => exact ⟨0, 0, Nat.zero_le _, rfl, rfl, Nat.le_refl _, Lib.hid (Fr.refl _ _), HNU⟩
    case round =>
      clear HNU
      obtain ⟨k, c, hk, rfl, rfl, hck, HF, HNU⟩ := hrel
      have hcb := HCB.out
      have HFw : Hid (Fr [] w wr) := Lib.hid (HF4.out.trans HF.out)
      have hb := HF.out.heap (by simp) HB4.out
      have hu := HF.out.heap (by simp) HU4.out
      have x0 := cell_of_heap (o := 0) hb rfl; have x1 := cell_of_heap (o := 1) hb rfl; have x2 := cell_of_heap (o := 2) hb rfl; have x3 := cell_of_heap (o := 3) hb rfl; have x4 := cell_of_heap (o := 4) hb rfl; have x5 := cell_of_heap (o := 5) hb rfl
      have u0 := cell_of_heap (o := 0) hu rfl; have u1 := cell_of_heap (o := 1) hu rfl; have u2 := cell_of_heap (o := 2) hu rfl; have u3 := cell_of_heap (o := 3) hu rfl; have u4 := cell_of_heap (o := 4) hu rfl; have u5 := cell_of_heap (o := 5) hu rfl; have u6 := cell_of_heap (o := 6) hu rfl; have u7 := cell_of_heap (o := 7) hu rfl; have u8 := cell_of_heap (o := 8) hu rfl; have u9 := cell_of_heap (o := 9) hu rfl
      have hbl := lt_of_heap hb
      have hul := lt_of_heap hu
      clear hb hu
      by_cases hlt : k < cl
      · obtain ⟨y, hy⟩ : ∃ y, v.code[k]? = some y := ⟨_, List.getElem?_eq_getElem (by rw [← HCL.out]; exact hlt)⟩
        obtain ⟨⟨gv, ov, e9, f0, f1, -⟩, -⟩ := (HA4.out.fr HF.out).code k y hy
        have hnu := HNU.out
        obtain ⟨hl9, e10⟩ := List.getElem?_eq_some_iff.1 hy
        rw [List.drop_eq_getElem_cons hl9, e10, numd] at hnu
        rw [e9] at u7
        have g5 := World.block_lt_of_cell? wr _ f0
        have k0 : (0 : Int) ≤ (k : Int) := by omega
        have k1 : (k : Int) < (cl : Int) := by omega
        have k2 : IntKind.i64.wrap ((c : Int) + 1) = ((c + 1 : Nat) : Int) := by rw [IntWalk.i64_in _ (by omega)]; omega
        clear hy hl9 e10 e9
        obtain ⟨yo, yn, yd, ya, yl, yc, yw⟩ := y
        simp only at f0 f1 hnu
        by_cases h7 : yo = 7
        · rw [if_pos h7] at hnu
          by_cases hyn : yn = c
          · rw [if_pos hyn] at hnu
            have HNU2 := Lib.hid hnu
            clear hnu HNU
            subst h7 hyn
            go_wp2_with fail
            go_roundw
            case rel => exact ⟨k + 1, c + 1, by omega, by go_num, by go_num, by omega, Lib.hid (by (repeat (first | (with_reducible refine Fr.setCell ?_ (fun h => absurd h (Nat.lt_irrefl _)) _) | (with_reducible refine Fr.setCell ?_ (fun h => absurd h (by first | omega | (simp; done) | (simp; omega) | (dsimp only; omega))) _) | (with_reducible refine Fr.alloc ?_ _) | (with_reducible refine Fr.drew ?_) | (with_reducible refine Fr.drewN ?_ _) | (with_reducible exact HF.out)))), HNU2⟩
            case measure => simp [intOf]; omega
          · rw [if_neg hyn] at hnu
            cases hnu
        · rw [if_neg h7] at hnu
          have HNU2 := Lib.hid hnu
          have hq7 : (yo == 7) = false := by simpa using h7
          clear hnu HNU h7
          go_wp2_with fail
          go_roundw
          case rel => exact ⟨k + 1, c, by omega, by go_num, by go_num, by omega, Lib.hid (by (repeat (first | (with_reducible refine Fr.setCell ?_ (fun h => absurd h (Nat.lt_irrefl _)) _) | (with_reducible refine Fr.setCell ?_ (fun h => absurd h (by first | omega | (simp; done) | (simp; omega) | (dsimp only; omega))) _) | (with_reducible refine Fr.alloc ?_ _) | (with_reducible refine Fr.drew ?_) | (with_reducible refine Fr.drewN ?_ _) | (with_reducible exact HF.out)))), HNU2⟩
          case measure => simp [intOf]; omega
      · have hkd : ¬ (k : Int) < (cl : Int) := by omega
        have HVS : Hid (v.sites = (c : Int)) := Lib.hid (by
          have h9 := HNU.out
          rw [List.drop_of_length_le (by rw [← HCL.out]; omega)] at h9
          exact (Option.some.inj h9).symm)
        have HSD : Hid (((0 : Nat) : Int) + sends (gmOf m) 0 ((gmOf m).code.drop 0) = (c : Int)) := Lib.hid (by
          rw [← HVS.out, ← gen_sends HS.out]
          simp)
        clear hlt HNU
        go_wp2_with fail
        clear x0 x1 x2 x3 x4 x5 u0 u1 u2 u3 u4 u5 u6 u7 u8 u9 hbl hul hkd
        have HF0 := Lib.hid HF.out
        go_loopw [11, 12, 13] (fun a i _ wr => ∃ k q : Nat, k ≤ n ∧ i = .int .i64 k ∧ a = .int .i64 q ∧ q ≤ k ∧ Hid (Fr [] w4 wr) ∧ Hid ((q : Int) + sends (gmOf m) k ((gmOf m).code.drop k) = (c : Int))) (fun _ i _ _ => n - (intOf i).toNat)
        case atStart => exact ⟨0, 0, Nat.zero_le _, rfl, rfl, Nat.le_refl _, HF0, HSD⟩
        case round =>
          clear hk hck HF HFw HSD HF0
          rename_i k9
          obtain ⟨k, q, hk, rfl, rfl, hck, HF, HSD⟩ := hrel
          have HFw : Hid (Fr [] w wr) := Lib.hid (HF4.out.trans HF.out)
          have hb := HF.out.heap (by simp) HB4.out
          have hu := HF.out.heap (by simp) HU4.out
          have x0 := cell_of_heap (o := 0) hb rfl; have x1 := cell_of_heap (o := 1) hb rfl; have x2 := cell_of_heap (o := 2) hb rfl; have x3 := cell_of_heap (o := 3) hb rfl; have x4 := cell_of_heap (o := 4) hb rfl; have x5 := cell_of_heap (o := 5) hb rfl
          have u0 := cell_of_heap (o := 0) hu rfl; have u1 := cell_of_heap (o := 1) hu rfl; have u2 := cell_of_heap (o := 2) hu rfl; have u3 := cell_of_heap (o := 3) hu rfl; have u4 := cell_of_heap (o := 4) hu rfl; have u5 := cell_of_heap (o := 5) hu rfl; have u6 := cell_of_heap (o := 6) hu rfl; have u7 := cell_of_heap (o := 7) hu rfl; have u8 := cell_of_heap (o := 8) hu rfl; have u9 := cell_of_heap (o := 9) hu rfl
          have hbl := lt_of_heap hb
          have hul := lt_of_heap hu
          clear hb hu
          by_cases hlt : k < n
          · obtain ⟨i, hi⟩ : ∃ i, m.code[k]? = some i := ⟨_, List.getElem?_eq_getElem (by rw [← HN.out]; exact hlt)⟩
            obtain ⟨gc, oc, rfl, c0, c1, c2⟩ := code_cells (HC.out.fr0 HFw.out) hi
            have hg := World.block_lt_of_cell? wr _ c0
            obtain ⟨d, hd⟩ : ∃ d, d = (gmOf m).dep.getD k (-1) := ⟨_, rfl⟩
            obtain ⟨gd, od, rfl, cd⟩ := (HD4.out.fr0 HF.out) k (.int .i64 d) (by rw [List.getElem?_map, hd, List.getD_eq_getElem?_getD, show (gmOf m).dep = m.depths from rfl, List.getElem?_eq_getElem (by rw [m.depths_len, ← HN.out]; exact hlt)]; rfl)
            have hgd := World.block_lt_of_cell? wr _ cd
            have hon : (gmOf m).on k ↔ 0 ≤ d := by unfold GM.on; rw [← hd]
            have hsd := HSD.out
            rw [sends_step hi] at hsd
            have k0 : (0 : Int) ≤ (k : Int) := by omega
            have k1 : (k : Int) < (n : Int) := by omega
            have k2 : IntKind.i64.wrap ((k : Int) + 1) = ((k + 1 : Nat) : Int) := by rw [IntWalk.i64_in _ (by omega)]; omega
            have k3 : ((k + 1 : Nat) : Int) < ((n + 1 : Nat) : Int) := by omega
            have k6 : IntKind.i64.wrap ((q : Int) + 1) = ((q + 1 : Nat) : Int) := by rw [IntWalk.i64_in _ (by omega)]; omega
            by_cases hd0 : 0 ≤ d
            · have ho := hon.2 hd0
              have hz : decide (d < 0) = false := by simp; omega
              by_cases hb : i.op = 11
              · rw [if_pos ⟨ho, hb⟩] at hsd
                have HSD2 : Hid (((q + 1 : Nat) : Int) + sends (gmOf m) (k + 1) ((gmOf m).code.drop (k + 1)) = (c : Int)) := Lib.hid (by omega)
                obtain ⟨b, nn, nb, gv, ov, l2, m2, ⟨gs, os, e8, s1, s2⟩, e9, f0, f1, f2, f3, f4, f5, f6, f7⟩ := send_of HOK.out HS.out (HA4.out.fr HF.out) hi ho hb
                rw [← HCL.out] at f0
                rw [e8] at u8
                rw [e9] at u7
                obtain ⟨ka, hka⟩ : ∃ ka : Nat, i.a = (ka : Int) := ⟨i.a.toNat, by omega⟩
                rw [hka] at f3 f7
                rw [← HLN.out] at f7
                obtain ⟨z, hz9⟩ : ∃ z, z = (gmOf m).lit (ka : Int) := ⟨_, rfl⟩
                have hkl : ka < m.lits.length := by rw [← HLN.out]; omega
                obtain ⟨gl, ol, rfl, cz⟩ := (HLI.out.fr0 HFw.out) ka (.int .u64 z) (by rw [List.getElem?_map, List.getElem?_eq_getElem hkl, hz9]; simp [GM.lit, gmOf, List.getD_eq_getElem?_getD, hkl])
                clear hkl
                rw [← hz9] at f3
                have g4 := World.block_lt_of_cell? wr _ s1
                have g5 := World.block_lt_of_cell? wr _ f1
                have g6 := World.block_lt_of_cell? wr _ cz
                have hb9 := HCB.out
                obtain ⟨B, hB⟩ : ∃ B, B = b + nn := ⟨_, rfl⟩
                rw [← hB] at f0 f1 f2 f3
                rw [show b + (nn + 1) = B + 1 by omega] at s2
                have w3 : IntKind.i64.wrap (((B : Int) + 1) - 1) = (B : Int) := by rw [IntWalk.i64_in _ (by omega)]; omega
                have w4 : (B : Int) < (cl : Int) := by omega
                have w5 : decide ((B : Int) < 0) = false := by simp
                have w6 : decide ((cl : Int) ≤ (B : Int)) = false := by simp; omega
                have w7 : IntKind.i64.wrap ((nb : Int) + 1) = (nb : Int) + 1 := by rw [IntWalk.i64_in _ (by omega)]
                have q2 : (0 : Int) ≤ (B : Int) := by omega
                have q3 : (0 : Int) ≤ (ka : Int) := by omega
                have q4 : (ka : Int) < (ll : Int) := by omega
                clear hB hi hd hon ho e8 e9 hz9 hsd HSD
                obtain ⟨op, a, b2⟩ := i
                simp only at c0 c1 c2 hb f4 hka
                subst hb f4 hka
                go_wp2_with fail
                go_quiet (fail)
                go_wp2_with fail
                go_roundw
                case rel => exact ⟨k + 1, q + 1, by omega, by go_num, by go_num, by omega, Lib.hid (by (repeat (first | (with_reducible refine Fr.setCell ?_ (fun h => absurd h (Nat.lt_irrefl _)) _) | (with_reducible refine Fr.setCell ?_ (fun h => absurd h (by first | omega | (simp; done) | (simp; omega) | (dsimp only; omega))) _) | (with_reducible refine Fr.alloc ?_ _) | (with_reducible refine Fr.drew ?_) | (with_reducible refine Fr.drewN ?_ _) | (with_reducible exact HF.out)))), HSD2⟩
                case measure => simp [intOf]; omega
              · rw [if_neg (fun h => hb h.2), Int.zero_add] at hsd
                have HSD2 := Lib.hid hsd
                clear hi hd hon ho hsd HSD
                obtain ⟨op, a, b2⟩ := i
                simp only at c0 c1 c2 hb
                have p1 : (op != 11) = true := by simp; omega
                clear hb
                go_wp2_with fail
                go_roundw
                case rel => exact ⟨k + 1, q, by omega, by go_num, by go_num, by omega, Lib.hid (by (repeat (first | (with_reducible refine Fr.setCell ?_ (fun h => absurd h (Nat.lt_irrefl _)) _) | (with_reducible refine Fr.setCell ?_ (fun h => absurd h (by first | omega | (simp; done) | (simp; omega) | (dsimp only; omega))) _) | (with_reducible refine Fr.alloc ?_ _) | (with_reducible refine Fr.drew ?_) | (with_reducible refine Fr.drewN ?_ _) | (with_reducible exact HF.out)))), HSD2⟩
                case measure => simp [intOf]; omega
            · rw [if_neg (fun h => hd0 (hon.1 h.1)), Int.zero_add] at hsd
              have HSD2 := Lib.hid hsd
              have hz : decide (d < 0) = true := by simp; omega
              clear hon hd hi hsd HSD
              go_wp2_with fail
              go_roundw
              case rel => exact ⟨k + 1, q, by omega, by go_num, by go_num, by omega, Lib.hid (by (repeat (first | (with_reducible refine Fr.setCell ?_ (fun h => absurd h (Nat.lt_irrefl _)) _) | (with_reducible refine Fr.setCell ?_ (fun h => absurd h (by first | omega | (simp; done) | (simp; omega) | (dsimp only; omega))) _) | (with_reducible refine Fr.alloc ?_ _) | (with_reducible refine Fr.drew ?_) | (with_reducible refine Fr.drewN ?_ _) | (with_reducible exact HF.out)))), HSD2⟩
              case measure => simp [intOf]; omega
          · have hkd : ¬ (k : Int) < (n : Int) := by omega
            have hqc : q = c := by
              have h9 := HSD.out
              rw [sends_none (by rw [← HN.out]; omega)] at h9
              omega
            rw [HVS.out] at u5
            subst hqc
            clear hlt HSD
            go_wp2_with fail
            go_ret
            exact ⟨ret1 (vb (by simp)), HFw.out⟩
  · have HF3 : Hid (Fr [] w w3) := Lib.hid (HF2.out.trans hF3)
    have HB3 := Lib.hid (hF3.heap (by simp) HB2.out)
    have hq : (er != 0) = true := by rcases her with rfl | rfl <;> rfl
    clear hn her hF3 k0 k1 k2 k3 k4 k5
    have k0 := cell_of_heap (o := 0) HB3.out rfl; have k1 := cell_of_heap (o := 1) HB3.out rfl; have k2 := cell_of_heap (o := 2) HB3.out rfl; have k3 := cell_of_heap (o := 3) HB3.out rfl; have k4 := cell_of_heap (o := 4) HB3.out rfl; have k5 := cell_of_heap (o := 5) HB3.out rfl
    have hl3 := lt_of_heap HB3.out
    unfold noU Un.v
    dsimp only
    go_wp2_with fail
    refine (HRD.out _ (by (repeat (first | (with_reducible refine Fr.setCell ?_ (fun h => absurd h (Nat.lt_irrefl _)) _) | (with_reducible refine Fr.setCell ?_ (fun h => absurd h (by first | omega | (simp; done) | (simp; omega) | (dsimp only; omega))) _) | (with_reducible refine Fr.alloc ?_ _) | (with_reducible refine Fr.drew ?_) | (with_reducible refine Fr.drewN ?_ _) | (with_reducible exact HF3.out))))).mono ?_
    rintro e w4 ⟨l, p, en, da, dc, hto, rfl, hF4, hR4, -⟩
    have HF4 : Hid (Fr [] w w4) := Lib.hid (Fr.trans (by (repeat (first | (with_reducible refine Fr.setCell ?_ (fun h => absurd h (Nat.lt_irrefl _)) _) | (with_reducible refine Fr.setCell ?_ (fun h => absurd h (by first | omega | (simp; done) | (simp; omega) | (dsimp only; omega))) _) | (with_reducible refine Fr.alloc ?_ _) | (with_reducible refine Fr.drew ?_) | (with_reducible refine Fr.drewN ?_ _) | (with_reducible exact HF3.out)))) hF4)
    clear hF4 hR4 hto k0 k1 k2 k3 k4 k5
    go_wp2_with fail
    go_ret
    exact ⟨rfl, HF4.out⟩
end Go.Proofs.YtcbplibbfoajgaaDoor
