/- GenShort: the walk. -/
import Derived.Test.YtcbplibbfoajgaaDoorMGlLight
namespace Go.Proofs.YtcbplibbfoajgaaDoor
open Go.RowKit

set_option maxRecDepth 100000 in
set_option maxHeartbeats 8000000 in
theorem genShort_walk (m : Mth) (la ca : Option Addr) (lc cc : Nat) (w : World) (hcode : RowAt w ca (flatI m.code)) (hlits : RowAt w la (m.lits.map (Value.int .u64))) (hcl : m.code.length ≤ 5864062014805) (hg : VG w) : Calls Tryd.prog 5 #[m.v la lc ca cc] w (Still (.bool true) w) := by
  have HAW := Lib.hid (fun W (hF : Fr [] w W) => awake12 W (hg.fr hF))
  have HGN := Lib.hid (fun W (hF : Fr [] w W) => gn_Gen m 4 la ca lc cc W (hcode.fr0 hF) (hlits.fr0 hF) (hg.fr hF))
  have HRD := Lib.hid (fun W (hF : Fr [] w W) => rDepths_at m la ca lc cc W (hcode.fr0 hF) hcl)
  have HC := Lib.hid hcode
  have HON := Lib.hid (fun W (hF : Fr [] w W) (b : Nat) hb => oneG_at (hg.fr hF) b hb)
  unfold Mth.v at HGN HRD ⊢
  obtain ⟨n, hnn⟩ : ∃ n, n = m.code.length := ⟨_, rfl⟩
  obtain ⟨ll, hll⟩ : ∃ ll, ll = m.lits.length := ⟨_, rfl⟩
  simp only [← hnn, ← hll] at HGN HRD ⊢
  have HN := Lib.hid hnn
  clear hcode hlits hg hnn hll hcl
  go_enter Tryd.func5, Tryd.ntmps5
  go_wp2_with fail
  refine (HAW.out _ ((Fr.refl _ _).alloc _)).mono ?_
  rintro e w2 ⟨rfl, hF2⟩
  have HF2 : Hid (Fr [] w w2) := Lib.hid (((Fr.refl _ _).alloc _).trans hF2)
  have HB2 := Lib.hid (hF2.heap (by simp) (heap_new w _))
  have k0 := cell_of_heap (o := 0) HB2.out rfl; have k1 := cell_of_heap (o := 1) HB2.out rfl; have k2 := cell_of_heap (o := 2) HB2.out rfl; have k3 := cell_of_heap (o := 3) HB2.out rfl; have k4 := cell_of_heap (o := 4) HB2.out rfl; have k5 := cell_of_heap (o := 5) HB2.out rfl
  clear hF2
  go_wp2_with fail
  refine (HGN.out w2 HF2.out).mono ?_
  rintro e w3 ⟨hF3, ⟨hok, v, lo, rfl, hs, hO⟩ | ⟨hn, er, her, rfl⟩⟩
  · have HOK := Lib.hid hok
    have HS := Lib.hid hs
    have HA := Lib.hid hO.at
    have HF3 : Hid (Fr [] w w3) := Lib.hid (HF2.out.trans hF3)
    have HB3 := Lib.hid (hF3.heap (by simp) HB2.out)
    obtain ⟨e1, e2⟩ := gen_lens hs
    unfold Un.v
    dsimp only
    rw [e1, e2, ← HN.out]
    obtain ⟨el, hel⟩ : ∃ x, x = v.enter.length := ⟨_, rfl⟩
    obtain ⟨cl, hcl⟩ : ∃ x, x = v.code.length := ⟨_, rfl⟩
    rw [← hel, ← hcl]
    have HCL := Lib.hid hcl
    have HCB : Hid (cl ≤ 10000) := Lib.hid (by rw [hcl]; exact gen_code_le hok hs)
    clear hok hs hO hF3 e1 e2 hel hcl k0 k1 k2 k3 k4 k5
    have k0 := cell_of_heap (o := 0) HB3.out rfl; have k1 := cell_of_heap (o := 1) HB3.out rfl; have k2 := cell_of_heap (o := 2) HB3.out rfl; have k3 := cell_of_heap (o := 3) HB3.out rfl; have k4 := cell_of_heap (o := 4) HB3.out rfl; have k5 := cell_of_heap (o := 5) HB3.out rfl
    have hl3 := lt_of_heap HB3.out
    go_wp2_with fail
    refine (HRD.out _ (HF3.out.alloc _)).mono ?_
    rintro e w4 ⟨l, p, en, da, dc, hto, rfl, hF4, hR4, -⟩
    obtain ⟨rfl, rfl, rfl⟩ := DepthsTo.of_good HOK.out.good hto
    have hF34 : Fr [] w3 w4 := ((Fr.refl [] w3).alloc _).trans hF4
    have HF4 : Hid (Fr [] w w4) := Lib.hid (HF3.out.trans hF34)
    have HB4 := Lib.hid (hF34.heap (by simp) HB3.out)
    have HU4 := Lib.hid (hF4.heap (by simp) (heap_new w3 _))
    have HA4 : Hid (UAt w4 v) := Lib.hid (HA.out.fr hF34)
    have HD4 := Lib.hid hR4
    have HC4 : Hid (RowAt w4 ca (flatI m.code)) := Lib.hid (HC.out.fr0 HF4.out)
    rw [m.depths_len, ← HN.out]
    have HDL : Hid ((gmOf m).dep.length = n) := Lib.hid (by rw [HN.out]; exact m.depths_len)
    have hn128 : n ≤ 128 := by have := m.head_iff.1 (m.ok_iff.1 HOK.out.good.ok).1; rw [HN.out]; omega
    clear hF4 hF34 hR4 hto hl3 k0 k1 k2 k3 k4 k5
    have x0 := cell_of_heap (o := 0) HB4.out rfl; have x1 := cell_of_heap (o := 1) HB4.out rfl; have x2 := cell_of_heap (o := 2) HB4.out rfl; have x3 := cell_of_heap (o := 3) HB4.out rfl; have x4 := cell_of_heap (o := 4) HB4.out rfl; have x5 := cell_of_heap (o := 5) HB4.out rfl
    have u0 := cell_of_heap (o := 0) HU4.out rfl; have u1 := cell_of_heap (o := 1) HU4.out rfl; have u2 := cell_of_heap (o := 2) HU4.out rfl; have u3 := cell_of_heap (o := 3) HU4.out rfl; have u4 := cell_of_heap (o := 4) HU4.out rfl; have u5 := cell_of_heap (o := 5) HU4.out rfl; have u6 := cell_of_heap (o := 6) HU4.out rfl; have u7 := cell_of_heap (o := 7) HU4.out rfl; have u8 := cell_of_heap (o := 8) HU4.out rfl; have u9 := cell_of_heap (o := 9) HU4.out rfl
    have hbl := lt_of_heap HB4.out
    have hul := lt_of_heap HU4.out
    have hn1 : IntKind.i64.wrap ((n : Int) + 1) = (n : Int) + 1 := by rw [IntWalk.i64_in _ (by omega)]
    have hmk : ∀ W : World, (Instr.makeSlice 47 (.int .i64 ((n : Int) + 1)) (.int .i64 ((n : Int) + 1))).run Tryd.prog W = .ok (.slice (some ⟨W.heap.size, 0, none⟩) (n + 1) (n + 1)) (W.alloc (.cells (List.replicate (n + 1) (Value.bool false)).toArray 4)) := fun W => by
      rw [show ((n : Int) + 1) = ((n + 1 : Nat) : Int) by omega]
      exact makeLd (n + 1) (by omega) W
    obtain ⟨eb, heb⟩ : ∃ eb, eb = w4.heap.size := ⟨_, rfl⟩
    obtain ⟨W5, hW5⟩ : ∃ W5, W5 = w4.alloc (.cells (Array.replicate (n + 1) (Value.bool false)) 4) := ⟨_, rfl⟩
    have HBL0 : Hid (BlAt W5 eb (List.replicate (n + 1) false)) := Lib.hid (by
      unfold BlAt
      rw [hW5, heb, show ((List.replicate (n + 1) false).map Value.bool).toArray = Array.replicate (n + 1) (Value.bool false) by simp]
      exact heap_new _ _)
    have HF5 : Hid (Fr [] w4 W5) := Lib.hid (by rw [hW5]; exact (Fr.refl _ _).alloc _)
    have HGE : Hid (w4.heap.size = eb ∧ w.heap.size < eb ∧ w3.heap.size < eb) := Lib.hid ⟨heb.symm, by omega, by omega⟩
    go_upto_region 7 with (fail)
    rw [← hW5, ← heb]
    have HX5 : Hid (∀ (g o : Nat) (x : Value), w4.cell? ⟨g, o, none⟩ = some x → W5.cell? ⟨g, o, none⟩ = some x) := Lib.hid fun g o x h => HF5.out.cell (by simp) h
    have HB5 := Lib.hid (HF5.out.heap (by simp) HB4.out)
    have HU5 := Lib.hid (HF5.out.heap (by simp) HU4.out)
    clear hW5 heb hmk x0 x1 x2 x3 x4 x5 u0 u1 u2 u3 u4 u5 u6 u7 u8 u9 hbl hul hn1
    go_wp2_with fail
    go_loopw [10, 11] (fun i _ wr => ∃ k : Nat, k ≤ n ∧ i = .int .i64 k ∧ Hid (Fr [eb] W5 wr) ∧ Hid (∃ L : List Bool, L.length = n + 1 ∧ BlAt wr eb L ∧ Goals m.code k L)) (fun i _ _ => n - (intOf i).toNat)
    case atStart => exact ⟨0, Nat.zero_le _, rfl, Lib.hid (Fr.refl _ _), Lib.hid ⟨_, List.length_replicate .., HBL0.out, Goals.start _ _⟩⟩
    case round =>
      clear HBL0
      obtain ⟨k, hk, rfl, HF, HL⟩ := hrel
      obtain ⟨L, hLl, hbw, hgo⟩ := HL.out
      clear HL
      have hge := HGE.out
      have hb := HF.out.heap (by simp; omega) HB5.out
      have x0 := cell_of_heap (o := 0) hb rfl; have x1 := cell_of_heap (o := 1) hb rfl; have x2 := cell_of_heap (o := 2) hb rfl; have x3 := cell_of_heap (o := 3) hb rfl; have x4 := cell_of_heap (o := 4) hb rfl; have x5 := cell_of_heap (o := 5) hb rfl
      have hbl := lt_of_heap hb
      have hltb := lt_of_heap hbw
      clear hb
      by_cases hlt : k < n
      · obtain ⟨i, hi⟩ : ∃ i, m.code[k]? = some i := ⟨_, List.getElem?_eq_getElem (by rw [← HN.out]; exact hlt)⟩
        obtain ⟨gc, oc, rfl, c0, c1, c2⟩ := code_cells HC4.out hi
        have hg4 := World.block_lt_of_cell? w4 _ c0
        have hgn : gc ∉ [eb] := by simp at hg4 ⊢; omega
        replace c0 := HF.out.cell hgn (HX5.out _ _ _ c0)
        replace c1 := HF.out.cell hgn (HX5.out _ _ _ c1)
        replace c2 := HF.out.cell hgn (HX5.out _ _ _ c2)
        have hg := World.block_lt_of_cell? wr _ c0
        have k0 : (0 : Int) ≤ (k : Int) := by omega
        have k1 : (k : Int) < (n : Int) := by omega
        have k5 : (k : Int) < ((n + 1 : Nat) : Int) := by omega
        clear hg4 hgn
        by_cases hj : i.op = 14 ∨ i.op = 15 ∨ i.op = 16
        · have hji := jump_in HOK.out.good hi hj
          rw [← HN.out] at hji
          obtain ⟨ja, hja⟩ : ∃ ja : Nat, i.a = (ja : Int) := ⟨i.a.toNat, by omega⟩
          have HL2 : Hid (∃ L2 : List Bool, L2 = (L.set ja true).set k true ∧ L2.length = n + 1 ∧ Goals m.code (k + 1) L2) := Lib.hid ⟨_, rfl, by simp only [List.length_set]; exact hLl, hgo.jump hi hja (by omega) (by omega)⟩
          obtain ⟨y, hy⟩ : ∃ y, L[ja]? = some y := ⟨_, List.getElem?_eq_getElem (by omega)⟩
          obtain ⟨y2, hy2⟩ : ∃ y2, (L.set ja true)[k]? = some y2 := ⟨_, List.getElem?_eq_getElem (by rw [List.length_set]; omega)⟩
          have HY2 := Lib.hid hy2
          have HBW := Lib.hid hbw
          have e0 := hbw.cell hy
          have f0 := hbw.frozen ja
          have a0 : (0 : Int) ≤ (ja : Int) := by omega
          have a1 : (ja : Int) < ((n + 1 : Nat) : Int) := by omega
          clear hi hgo hji hy hy2 hbw hge hLl
          obtain ⟨op, a, b2⟩ := i
          simp only at c0 c1 c2 hj hja
          subst hja
          rcases hj with rfl | rfl | rfl
          all_goals
            go_upto_region 13 with (fail)
            obtain ⟨W6, hW6⟩ : ∃ W6, W6 = wr.setCell ⟨eb, ja, none⟩ (.bool true) := ⟨_, rfl⟩
            rw [← hW6]
            have hB6 : BlAt W6 eb (L.set ja true) := by rw [hW6]; exact HBW.out.set ja true
            have HB6 := Lib.hid hB6
            have HF6 : Hid (Fr [eb] W5 W6) := Lib.hid (by rw [hW6]; exact HF.out.setCell (fun _ => by simp) _)
            have v1 := hB6.cell HY2.out
            have v2 := hB6.frozen k
            have vb := lt_of_heap hB6
            clear hW6 hB6 x0 x1 x2 x3 x4 x5 hbl hltb c0 c1 c2 hg e0 f0
            go_wp2_with fail
            go_roundw
            case rel =>
              obtain ⟨L2, rfl, h8, h9⟩ := HL2.out
              exact ⟨k + 1, by omega, by go_num, Lib.hid (by (repeat (first | (with_reducible refine Fr.setCell ?_ (fun h => absurd h (Nat.lt_irrefl _)) _) | (with_reducible refine Fr.setCell ?_ (fun h => absurd h (by first | omega | (simp; done) | (simp; omega) | (dsimp only; omega))) _) | (with_reducible refine Fr.alloc ?_ _) | (with_reducible refine Fr.drew ?_) | (with_reducible refine Fr.drewN ?_ _) | (with_reducible exact HF6.out.setCell (fun _ => by simp) _)))), Lib.hid ⟨_, h8, (HB6.out.set k true).fr (by (repeat (first | (with_reducible refine Fr.setCell ?_ (fun h => absurd h (Nat.lt_irrefl _)) _) | (with_reducible refine Fr.setCell ?_ (fun h => absurd h (by first | omega | (simp; done) | (simp; omega) | (dsimp only; omega))) _) | (with_reducible refine Fr.alloc ?_ _) | (with_reducible refine Fr.drew ?_) | (with_reducible refine Fr.drewN ?_ _) | (with_reducible exact Fr.refl _ _)))), h9⟩⟩
            case measure => simp [intOf]; omega
        · have HL2 : Hid (∃ L : List Bool, L.length = n + 1 ∧ BlAt wr eb L ∧ Goals m.code (k + 1) L) := Lib.hid ⟨L, hLl, hbw, hgo.pass hi hj⟩
          clear hi hgo hbw hge
          obtain ⟨op, a, b2⟩ := i
          simp only at c0 c1 c2 hj
          have p1 : (op == 14) = false := by simp; omega
          have p2 : (op == 15) = false := by simp; omega
          have p3 : (op == 16) = false := by simp; omega
          clear hj
          go_wp2_with fail
          go_roundw
          case rel =>
            obtain ⟨L2, h7, h8, h9⟩ := HL2.out
            exact ⟨k + 1, by omega, by go_num, Lib.hid (by (repeat (first | (with_reducible refine Fr.setCell ?_ (fun h => absurd h (Nat.lt_irrefl _)) _) | (with_reducible refine Fr.setCell ?_ (fun h => absurd h (by first | omega | (simp; done) | (simp; omega) | (dsimp only; omega))) _) | (with_reducible refine Fr.alloc ?_ _) | (with_reducible refine Fr.drew ?_) | (with_reducible refine Fr.drewN ?_ _) | (with_reducible exact HF.out)))), Lib.hid ⟨L2, h7, h8.fr (by (repeat (first | (with_reducible refine Fr.setCell ?_ (fun h => absurd h (Nat.lt_irrefl _)) _) | (with_reducible refine Fr.setCell ?_ (fun h => absurd h (by first | omega | (simp; done) | (simp; omega) | (dsimp only; omega))) _) | (with_reducible refine Fr.alloc ?_ _) | (with_reducible refine Fr.drew ?_) | (with_reducible refine Fr.drewN ?_ _) | (with_reducible exact Fr.refl _ _)))), h9⟩⟩
          case measure => simp [intOf]; omega
      · have hkd : ¬ (k : Int) < (n : Int) := by omega
        have HG9 : Hid (Goals m.code m.code.length L) := Lib.hid (by rw [← HN.out, ← (show k = n by omega)]; exact hgo)
        have HLl := Lib.hid hLl
        have HF0 := Lib.hid HF.out
        have HBW0 := Lib.hid hbw
        clear hgo hlt hLl hbw hge
        go_wp2_with fail
        clear x0 x1 x2 x3 x4 x5 hbl hltb hkd
        go_loopw [12, 13, 14] (fun i _ _ wr => ∃ k : Nat, k ≤ n ∧ i = .int .i64 k ∧ Hid (Fr [eb] W5 wr) ∧ Hid (BlAt wr eb L)) (fun i _ _ _ => n - (intOf i).toNat)
        case atStart => exact ⟨0, Nat.zero_le _, rfl, HF0, HBW0⟩
        case round =>
          clear hk HF HF0 HBW0
          rename_i k9
          obtain ⟨k, hk, rfl, HF, HB⟩ := hrel
          have hge := HGE.out
          have hb := HF.out.heap (by simp; omega) HB5.out
          have hu := HF.out.heap (by simp; omega) HU5.out
          have x0 := cell_of_heap (o := 0) hb rfl; have x1 := cell_of_heap (o := 1) hb rfl; have x2 := cell_of_heap (o := 2) hb rfl; have x3 := cell_of_heap (o := 3) hb rfl; have x4 := cell_of_heap (o := 4) hb rfl; have x5 := cell_of_heap (o := 5) hb rfl
          have u0 := cell_of_heap (o := 0) hu rfl; have u1 := cell_of_heap (o := 1) hu rfl; have u2 := cell_of_heap (o := 2) hu rfl; have u3 := cell_of_heap (o := 3) hu rfl; have u4 := cell_of_heap (o := 4) hu rfl; have u5 := cell_of_heap (o := 5) hu rfl; have u6 := cell_of_heap (o := 6) hu rfl; have u7 := cell_of_heap (o := 7) hu rfl; have u8 := cell_of_heap (o := 8) hu rfl; have u9 := cell_of_heap (o := 9) hu rfl
          have hbl := lt_of_heap hb
          have hul := lt_of_heap hu
          have hltb := lt_of_heap HB.out
          clear hb hu
          have HFw : Hid (Fr [] w wr) := Lib.hid ((((HF4.out.trans HF5.out).weak).trans HF.out).mono (fun j hj hjs => by simp at hjs; have := HGE.out.2.1; omega))
          have HTR : Hid (∀ (g o : Nat) (x : Value), w4.cell? ⟨g, o, none⟩ = some x → wr.cell? ⟨g, o, none⟩ = some x) := Lib.hid fun g o x h => by
            have h4 := World.block_lt_of_cell? w4 _ h
            exact HF.out.cell (by simp at h4 ⊢; omega) (HX5.out _ _ _ h)
          by_cases hlt : k < n
          · obtain ⟨i, hi⟩ : ∃ i, m.code[k]? = some i := ⟨_, List.getElem?_eq_getElem (by rw [← HN.out]; exact hlt)⟩
            obtain ⟨gc, oc, rfl, c0, c1, c2⟩ := code_cells HC4.out hi
            replace c0 := HTR.out _ _ _ c0
            replace c1 := HTR.out _ _ _ c1
            replace c2 := HTR.out _ _ _ c2
            have hg := World.block_lt_of_cell? wr _ c0
            obtain ⟨d, hd⟩ : ∃ d, d = (gmOf m).dep.getD k (-1) := ⟨_, rfl⟩
            obtain ⟨gd, od, rfl, cd⟩ := HD4.out k (.int .i64 d) (by rw [List.getElem?_map, hd, List.getD_eq_getElem?_getD, show (gmOf m).dep = m.depths from rfl, List.getElem?_eq_getElem (by rw [m.depths_len, ← HN.out]; exact hlt)]; rfl)
            replace cd := HTR.out _ _ _ cd
            have hgd := World.block_lt_of_cell? wr _ cd
            have hon : (gmOf m).on k ↔ 0 ≤ d := by unfold GM.on; rw [← hd]
            obtain ⟨gl, hgl⟩ : ∃ gl, L[k + 1]? = some gl := ⟨_, List.getElem?_eq_getElem (by rw [HLl.out]; omega)⟩
            have b9 := HB.out.cell hgl
            have k0 : (0 : Int) ≤ (k : Int) := by omega
            have k1 : (k : Int) < (n : Int) := by omega
            have k2 : IntKind.i64.wrap ((k : Int) + 1) = ((k + 1 : Nat) : Int) := by rw [IntWalk.i64_in _ (by omega)]; omega
            have k3 : ((k + 1 : Nat) : Int) < ((n + 1 : Nat) : Int) := by omega
            have k5 : (k : Int) < ((n + 1 : Nat) : Int) := by omega
            have hn1 : IntKind.i64.wrap ((n : Int) + 1) = (n : Int) + 1 := by rw [IntWalk.i64_in _ (by omega)]
            clear hge
            have hi0 := Lib.hid hi
            obtain ⟨op, a, b2⟩ := i
            simp only at c0 c1 c2
            go_upto_region 18 with (fail)
            refine Code.wp_mono (then_mono ?_) short_r18
            rintro a' w' ⟨rfl, lb, hlb, v84, v85, v86, v87, v88, v89, v90, v91, v92, v93, v94, v95, v96, v97, v98, v99, v100, v101, v102, v103, v104, v105, rfl⟩
            clear hi
            by_cases hd0 : 0 ≤ d
            · have hz : decide (d < 0) = false := by simp; omega
              have hz2 : decide (0 ≤ d) = true := by simp; omega
              cases lb
              · clear hd hon hgl hlb
                go_wp2_with fail
                go_quiet (fail)
                go_wp2_with fail
                go_roundw
                case rel => exact ⟨k + 1, by omega, by go_num, Lib.hid (by (repeat (first | (with_reducible refine Fr.setCell ?_ (fun h => absurd h (Nat.lt_irrefl _)) _) | (with_reducible refine Fr.setCell ?_ (fun h => absurd h (by first | omega | (simp; done) | (simp; omega) | (dsimp only; omega))) _) | (with_reducible refine Fr.alloc ?_ _) | (with_reducible refine Fr.drew ?_) | (with_reducible refine Fr.drewN ?_ _) | (with_reducible exact HF.out)))), Lib.hid (HB.out.fr (by (repeat (first | (with_reducible refine Fr.setCell ?_ (fun h => absurd h (Nat.lt_irrefl _)) _) | (with_reducible refine Fr.setCell ?_ (fun h => absurd h (by first | omega | (simp; done) | (simp; omega) | (dsimp only; omega))) _) | (with_reducible refine Fr.alloc ?_ _) | (with_reducible refine Fr.drew ?_) | (with_reducible refine Fr.drewN ?_ _) | (with_reducible exact Fr.refl _ _)))))⟩
                case measure => simp [intOf]; omega
              · have hlg := hlb.1 rfl
                cases gl
                · obtain ⟨b, ⟨gs, os, e8, s1, s2⟩⟩ := short_at HS.out HA4.out HG9.out hi0.out hlg hgl
                  rw [e8] at u8
                  rw [Nat.add_zero] at s2
                  replace s1 := HTR.out _ _ _ s1
                  replace s2 := HTR.out _ _ _ s2
                  have g4 := World.block_lt_of_cell? _ _ s1
                  clear hd hon hgl e8 hlb hlg
                  go_wp2_with fail
                  go_quiet (fail)
                  go_wp2_with fail
                  go_roundw
                  case rel => exact ⟨k + 1, by omega, by go_num, Lib.hid (by (repeat (first | (with_reducible refine Fr.setCell ?_ (fun h => absurd h (Nat.lt_irrefl _)) _) | (with_reducible refine Fr.setCell ?_ (fun h => absurd h (by first | omega | (simp; done) | (simp; omega) | (dsimp only; omega))) _) | (with_reducible refine Fr.alloc ?_ _) | (with_reducible refine Fr.drew ?_) | (with_reducible refine Fr.drewN ?_ _) | (with_reducible exact HF.out)))), Lib.hid (HB.out.fr (by (repeat (first | (with_reducible refine Fr.setCell ?_ (fun h => absurd h (Nat.lt_irrefl _)) _) | (with_reducible refine Fr.setCell ?_ (fun h => absurd h (by first | omega | (simp; done) | (simp; omega) | (dsimp only; omega))) _) | (with_reducible refine Fr.alloc ?_ _) | (with_reducible refine Fr.drew ?_) | (with_reducible refine Fr.drewN ?_ _) | (with_reducible exact Fr.refl _ _)))))⟩
                  case measure => simp [intOf]; omega
                · clear hd hon hgl hlb hlg
                  go_wp2_with fail
                  go_quiet (fail)
                  go_wp2_with fail
                  go_roundw
                  case rel => exact ⟨k + 1, by omega, by go_num, Lib.hid (by (repeat (first | (with_reducible refine Fr.setCell ?_ (fun h => absurd h (Nat.lt_irrefl _)) _) | (with_reducible refine Fr.setCell ?_ (fun h => absurd h (by first | omega | (simp; done) | (simp; omega) | (dsimp only; omega))) _) | (with_reducible refine Fr.alloc ?_ _) | (with_reducible refine Fr.drew ?_) | (with_reducible refine Fr.drewN ?_ _) | (with_reducible exact HF.out)))), Lib.hid (HB.out.fr (by (repeat (first | (with_reducible refine Fr.setCell ?_ (fun h => absurd h (Nat.lt_irrefl _)) _) | (with_reducible refine Fr.setCell ?_ (fun h => absurd h (by first | omega | (simp; done) | (simp; omega) | (dsimp only; omega))) _) | (with_reducible refine Fr.alloc ?_ _) | (with_reducible refine Fr.drew ?_) | (with_reducible refine Fr.drewN ?_ _) | (with_reducible exact Fr.refl _ _)))))⟩
                  case measure => simp [intOf]; omega
            · have hz : decide (d < 0) = true := by simp; omega
              have hz2 : decide (0 ≤ d) = false := by simp; omega
              obtain ⟨b, ⟨gs, os, e8, s1, s2⟩⟩ := off_at HS.out HA4.out hi0.out (fun h => hd0 (hon.1 h))
              rw [e8] at u8
              rw [Nat.add_zero] at s2
              replace s1 := HTR.out _ _ _ s1
              replace s2 := HTR.out _ _ _ s2
              have g4 := World.block_lt_of_cell? _ _ s1
              clear hd hon hgl e8 b9 hlb
              go_wp2_with fail
              go_quiet (fail)
              go_wp2_with fail
              go_roundw
              case rel => exact ⟨k + 1, by omega, by go_num, Lib.hid (by (repeat (first | (with_reducible refine Fr.setCell ?_ (fun h => absurd h (Nat.lt_irrefl _)) _) | (with_reducible refine Fr.setCell ?_ (fun h => absurd h (by first | omega | (simp; done) | (simp; omega) | (dsimp only; omega))) _) | (with_reducible refine Fr.alloc ?_ _) | (with_reducible refine Fr.drew ?_) | (with_reducible refine Fr.drewN ?_ _) | (with_reducible exact HF.out)))), Lib.hid (HB.out.fr (by (repeat (first | (with_reducible refine Fr.setCell ?_ (fun h => absurd h (Nat.lt_irrefl _)) _) | (with_reducible refine Fr.setCell ?_ (fun h => absurd h (by first | omega | (simp; done) | (simp; omega) | (dsimp only; omega))) _) | (with_reducible refine Fr.alloc ?_ _) | (with_reducible refine Fr.drew ?_) | (with_reducible refine Fr.drewN ?_ _) | (with_reducible exact Fr.refl _ _)))))⟩
              case measure => simp [intOf]; omega
          · have hkd : ¬ (k : Int) < (n : Int) := by omega
            clear hlt hge
            go_wp2_with (go_at_call 7; refine (HON.out _ (by (repeat (first | (with_reducible refine Fr.setCell ?_ (fun h => absurd h (Nat.lt_irrefl _)) _) | (with_reducible refine Fr.setCell ?_ (fun h => absurd h (by first | omega | (simp; done) | (simp; omega) | (dsimp only; omega))) _) | (with_reducible refine Fr.alloc ?_ _) | (with_reducible refine Fr.drew ?_) | (with_reducible refine Fr.drewN ?_ _) | (with_reducible exact HFw.out)))) wr.heap.size (heap_new wr _)).mono ?_; rintro e w9 ⟨hF, v9, rfl, h1⟩; unfold Un.v; dsimp only; simp only [h1]; have HF9 : Hid (Fr [] w w9) := Lib.hid (Fr.trans (by (repeat (first | (with_reducible refine Fr.setCell ?_ (fun h => absurd h (Nat.lt_irrefl _)) _) | (with_reducible refine Fr.setCell ?_ (fun h => absurd h (by first | omega | (simp; done) | (simp; omega) | (dsimp only; omega))) _) | (with_reducible refine Fr.alloc ?_ _) | (with_reducible refine Fr.drew ?_) | (with_reducible refine Fr.drewN ?_ _) | (with_reducible exact HFw.out)))) hF); clear hF h1)
            go_ret
            exact ⟨ret1 (vb (by simp)), by (repeat (first | (with_reducible refine Fr.setCell ?_ (fun h => absurd h (Nat.lt_irrefl _)) _) | (with_reducible refine Fr.setCell ?_ (fun h => absurd h (by first | omega | (simp; done) | (simp; omega) | (dsimp only; omega))) _) | (with_reducible refine Fr.alloc ?_ _) | (with_reducible refine Fr.drew ?_) | (with_reducible refine Fr.drewN ?_ _) | (with_reducible exact HF9.out)))⟩
  · have HF3 : Hid (Fr [] w w3) := Lib.hid (HF2.out.trans hF3)
    have HB3 := Lib.hid (hF3.heap (by simp) HB2.out)
    have hq : (er != 0) = true := by rcases her with rfl | rfl <;> rfl
    clear hn her hF3 k0 k1 k2 k3 k4 k5
    have k0 := cell_of_heap (o := 0) HB3.out rfl; have k1 := cell_of_heap (o := 1) HB3.out rfl; have k2 := cell_of_heap (o := 2) HB3.out rfl; have k3 := cell_of_heap (o := 3) HB3.out rfl; have k4 := cell_of_heap (o := 4) HB3.out rfl; have k5 := cell_of_heap (o := 5) HB3.out rfl
    have hl3 := lt_of_heap HB3.out
    unfold noU Un.v
    dsimp only
    go_wp2_with fail
    refine (HRD.out _ (by (repeat (first | (with_reducible refine Fr.setCell ?_ (fun h => absurd h (Nat.lt_irrefl _)) _) | (with_reducible refine Fr.setCell ?_ (fun h => absurd h (by first | omega | (simp; done) | (simp; omega) | (dsimp only; omega))) _) | (with_reducible refine Fr.alloc ?_ _) | (with_reducible refine Fr.drew ?_) | (with_reducible refine Fr.drewN ?_ _) | (with_reducible exact HF3.out))))).mono ?_
    rintro e w4 ⟨l, p, en, da, dc, hto, rfl, hF4, hR4, -⟩
    have HF4 : Hid (Fr [] w w4) := Lib.hid (Fr.trans (by (repeat (first | (with_reducible refine Fr.setCell ?_ (fun h => absurd h (Nat.lt_irrefl _)) _) | (with_reducible refine Fr.setCell ?_ (fun h => absurd h (by first | omega | (simp; done) | (simp; omega) | (dsimp only; omega))) _) | (with_reducible refine Fr.alloc ?_ _) | (with_reducible refine Fr.drew ?_) | (with_reducible refine Fr.drewN ?_ _) | (with_reducible exact HF3.out)))) hF4)
    clear hF4 hR4 hto k0 k1 k2 k3 k4 k5
    go_wp2_with fail
    go_ret
    exact ⟨rfl, HF4.out⟩
end Go.Proofs.YtcbplibbfoajgaaDoor
