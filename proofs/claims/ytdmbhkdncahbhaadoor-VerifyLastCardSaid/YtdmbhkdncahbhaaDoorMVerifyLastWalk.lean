/- VerifyLast: an end is never missed. -/
import Derived.Test.YtdmbhkdncahbhaaDoorMVerE
import Derived.Test.YtdmbhkdncahbhaaDoorMVerF
namespace Go.Proofs.YtdmbhkdncahbhaaDoor
open Go.RowKit

set_option maxRecDepth 100000 in
set_option maxHeartbeats 1600000 in
theorem verifyLast_walk (m : Mth) (la ca : Option Addr) (lc cc : Nat) (w : World) (hcode : RowAt w ca (flatI m.code)) (hg : VG w) (hcc : m.code.length ≤ cc) : Calls Tryd.prog 6 #[m.v la lc ca cc] w (Still (.bool true) w) := by
  have HAW := Lib.hid (fun W (hF : Fr [] w W) => awake5 W (hg.fr hF))
  have HD := Lib.hid (fun W (hF : Fr [] w W) => Depths_at m la ca lc cc W (row_fr hcode hF) (hg.fr hF).errs (hg.fr hF).field (hg.fr hF).db (hg.fr hF).et)
  have HC := Lib.hid (fun (k : Nat) (hk : k < m.code.length) W (hF : Fr [] w W) => Depths_at (m.cut (k + 1)) la ca lc cc W (fun j u hj => row_fr hcode hF j u (flatI_take hj)) (hg.fr hF).errs (hg.fr hF).field (hg.fr hF).db (hg.fr hF).et)
  have HCODE := Lib.hid hcode
  unfold Mth.v at HD HC
  unfold Mth.v
  obtain ⟨ll, hll⟩ : ∃ n, n = m.lits.length := ⟨_, rfl⟩
  obtain ⟨n, hN⟩ : ∃ n, n = m.code.length := ⟨_, rfl⟩
  rw [← hll, ← hN] at HD ⊢
  rw [← hN] at hcc
  have HNN := Lib.hid hN
  have HLL := Lib.hid hll
  clear hcode hg hll hN
  go_enter Tryd.func6, Tryd.ntmps6
  go_wp2_with fail
  refine (HAW.out _ ((Fr.refl _ _).alloc _)).mono ?_
  rintro e w2 ⟨rfl, hF2⟩
  have HF2 : Hid (Fr [] w w2) := ((Fr.refl _ _).alloc _).trans hF2
  have HB2 := Lib.hid (hF2.heap (by simp) (heap_new w _))
  have k0 := cell_of_heap (o := 0) HB2.out rfl; have k1 := cell_of_heap (o := 1) HB2.out rfl; have k2 := cell_of_heap (o := 2) HB2.out rfl; have k3 := cell_of_heap (o := 3) HB2.out rfl; have k4 := cell_of_heap (o := 4) HB2.out rfl; have k5 := cell_of_heap (o := 5) HB2.out rfl
  clear hF2
  go_wp2_with fail
  refine (HD.out w2 HF2.out).mono ?_
  rintro e w3 ⟨l, p, en, ra, rc, hto, rfl, hF3, hR3, -⟩
  have HF3 : Hid (Fr [] w w3) := HF2.out.trans hF3
  have HB3 := Lib.hid (hF3.heap (by simp) HB2.out)
  have HR3 := Lib.hid hR3
  clear k0 k1 k2 k3 k4 k5 hF3 hR3
  have k0 := cell_of_heap (o := 0) HB3.out rfl; have k1 := cell_of_heap (o := 1) HB3.out rfl; have k2 := cell_of_heap (o := 2) HB3.out rfl; have k3 := cell_of_heap (o := 3) HB3.out rfl; have k4 := cell_of_heap (o := 4) HB3.out rfl; have k5 := cell_of_heap (o := 5) HB3.out rfl
  rcases hto.err with rfl | ⟨rfl, rfl⟩
  rotate_left
  · clear hto
    go_wp2_with fail
    go_ret
    exact ⟨rfl, HF3.out⟩
  obtain ⟨g, rfl, rfl⟩ := hto.ok_good
  have HG := Lib.hid g
  have HDL : Hid (m.depths.length = m.code.length) := Lib.hid m.depths_len
  rw [HDL.out, ← HNN.out]
  have hn128 : n ≤ 128 := by rw [HNN.out]; have := m.head_iff.1 (m.ok_iff.1 g.ok).1; omega
  have hqq : ((n : Int) == (n : Int)) = true := by simp
  have hqn : ((n : Int) != (n : Int)) = false := by simp
  clear hto g
  have HRA := Lib.hid hn128
  clear hqq
  go_wp2_with fail
  go_loopw [7] (fun i wr => ∃ q : Nat, q ≤ n ∧ i = .int .i64 q ∧ Hid (Fr [] w3 wr)) (fun i _ => n - (intOf i).toNat)
  case atStart => exact ⟨0, Nat.zero_le _, rfl, Lib.hid (Fr.refl _ _)⟩
  case round =>
    obtain ⟨q, hq, rfl, hF⟩ := hrel
    by_cases hlt : q < n
    · have hql : q < m.code.length := by rw [← HNN.out]; exact hlt
      obtain ⟨i, hi⟩ : ∃ i, m.code[q]? = some i := ⟨_, List.getElem?_eq_getElem hql⟩
      have hio := (m.ok_iff.1 HG.out.ok).2 i (List.mem_of_getElem? hi)
      obtain ⟨f1, f2, f3⟩ := flatI_at hi
      obtain ⟨g, off, rfl, c1⟩ := HCODE.out _ _ f1
      obtain ⟨_, _, e2, c2⟩ := HCODE.out _ _ f2
      cases e2
      obtain ⟨_, _, e3, c3⟩ := HCODE.out _ _ f3
      cases e3
      obtain ⟨g2, o2, rfl, c4⟩ := HR3.out q (.int .i64 (m.depthAt q)) (by rw [List.getElem?_map, m.depths_at hql]; rfl)
      have hFw := HF3.out.trans hF.out
      have hbr := hF.out.heap (by simp) HB3.out
      have d1 := hFw.cell (by simp) c1
      have d2 := hFw.cell (by simp) c2
      have d3 := hFw.cell (by simp) c3
      rw [← Nat.add_assoc] at d2 d3
      have hne := rneeds_at i hio wr
      unfold Ins.v at hne
      have HC1 : Hid (w3.cell? ⟨g, off + q * 3, none⟩ = some (.int .i64 i.op)) := Lib.hid (HF3.out.cell (by simp) c1)
      have HC4 := Lib.hid c4
      have HI := Lib.hid hi
      obtain ⟨D, hD⟩ : ∃ D, D = m.depthAt q := ⟨_, rfl⟩
      rw [← hD] at HC4
      have HD0 := Lib.hid hD
      obtain ⟨E, hE⟩ : ∃ E, E = i.ends := ⟨_, rfl⟩
      rw [← hE] at hne
      have HE := Lib.hid hE
      have HQL := Lib.hid hql
      have z0 : (0 : Int) ≤ (q : Int) := by omega
      have z1 : (q : Int) < (n : Int) := by omega
      clear k0 k1 k2 k3 k4 k5 hql hi hio f1 f2 f3 c1 c2 c3 c4 hFw hD hE
      have k0 := cell_of_heap (o := 0) hbr rfl; have k1 := cell_of_heap (o := 1) hbr rfl; have k2 := cell_of_heap (o := 2) hbr rfl; have k3 := cell_of_heap (o := 3) hbr rfl; have k4 := cell_of_heap (o := 4) hbr rfl; have k5 := cell_of_heap (o := 5) hbr rfl
      go_wp2_with fail
      refine hne.mono ?_
      rintro e w4 ⟨rfl, hF4⟩
      have HF4 := Lib.hid (hF.out.trans hF4)
      have HB4 := Lib.hid (HF4.out.heap (by simp) HB3.out)
      have t1 := HF4.out.cell (by simp) HC1.out
      have t4 := HF4.out.cell (by simp) HC4.out
      clear hF4 hne hbr k0 k1 k2 k3 k4 k5 d1 d2 d3
      have k0 := cell_of_heap (o := 0) HB4.out rfl; have k1 := cell_of_heap (o := 1) HB4.out rfl; have k2 := cell_of_heap (o := 2) HB4.out rfl; have k3 := cell_of_heap (o := 3) HB4.out rfl; have k4 := cell_of_heap (o := 4) HB4.out rfl; have k5 := cell_of_heap (o := 5) HB4.out rfl
      by_cases hd0 : D < 0
      · have hdd : decide (D < 0) = true := by simpa using hd0
        clear hd0
        go_wp2_with fail
        go_roundw
        case rel => exact ⟨q + 1, by omega, by go_num, HF4⟩
        case measure => simp [intOf]; omega
      · have hdd : decide (D < 0) = false := by simpa using hd0
        have HD1 := Lib.hid hd0
        clear hd0
        cases hE2 : E
        rotate_left
        · subst hE2
          go_wp2_with fail
          go_roundw
          case rel => exact ⟨q + 1, by omega, by go_num, HF4⟩
          case measure => simp [intOf]; omega
        · subst hE2
          by_cases h14 : i.op = 14
          · have h14d : (i.op == 14) = true := by simp [h14]
            clear h14
            go_wp2_with fail
            go_roundw
            case rel => exact ⟨q + 1, by omega, by go_num, HF4⟩
            case measure => simp [intOf]; omega
          · have h14d : (i.op == 14) = false := by simp [h14]
            have HCE := Lib.hid (fun l p en h => @cut_err m q i HI.out (by rw [← HD0.out]; have := HD1.out; omega) HE.out.symm h14 l p en h)
            clear h14
            go_upto_region 13 with (fail)
            obtain ⟨W5, hW5⟩ : ∃ W5, W5 = w4.alloc (.cells #[.int .i64 m.args, .int .i64 m.temps, .int .i64 m.stack, .int .i64 m.prim, .slice la ll lc, .slice (some ⟨g, off, none⟩) n cc] 25) := ⟨_, rfl⟩
            rw [← hW5]
            have HF5 : Hid (Fr [] w4 W5) := Lib.hid (by rw [hW5]; exact (Fr.refl _ _).alloc _)
            have HM5 := Lib.hid (HF5.out.heap (by simp) HB4.out)
            have HK5 : Hid (W5.heap[w4.heap.size]? = some (.cells #[.int .i64 m.args, .int .i64 m.temps, .int .i64 m.stack, .int .i64 m.prim, .slice la ll lc, .slice (some ⟨g, off, none⟩) n cc] 25 (0, 0))) := Lib.hid (by rw [hW5]; exact heap_new _ _)
            have HSZ : Hid (w3.heap.size ≤ w4.heap.size) := Lib.hid HF4.out.size
            clear hW5 k0 k1 k2 k3 k4 k5 t1 t4
            have k0 := cell_of_heap (o := 0) HM5.out rfl; have k1 := cell_of_heap (o := 1) HM5.out rfl; have k2 := cell_of_heap (o := 2) HM5.out rfl; have k3 := cell_of_heap (o := 3) HM5.out rfl; have k4 := cell_of_heap (o := 4) HM5.out rfl; have k5 := cell_of_heap (o := 5) HM5.out rfl
            have j0 := cell_of_heap (o := 0) HK5.out rfl; have j1 := cell_of_heap (o := 1) HK5.out rfl; have j2 := cell_of_heap (o := 2) HK5.out rfl; have j3 := cell_of_heap (o := 3) HK5.out rfl; have j4 := cell_of_heap (o := 4) HK5.out rfl; have j5 := cell_of_heap (o := 5) HK5.out rfl
            have z0 := frozen_of_heap (o := 0) HK5.out; have z1 := frozen_of_heap (o := 1) HK5.out; have z2 := frozen_of_heap (o := 2) HK5.out; have z3 := frozen_of_heap (o := 3) HK5.out; have z4 := frozen_of_heap (o := 4) HK5.out; have z5 := frozen_of_heap (o := 5) HK5.out
            have y0 : (0 : Int) ≤ (q : Int) + 1 := by omega
            have y1 : (q : Int) + 1 ≤ (cc : Int) := by omega
            go_upto_region 14 with (fail)
            obtain ⟨W6, hW6⟩ : ∃ W6, W6 = W5.setCell ⟨w4.heap.size, 5, none⟩ (.slice (some ⟨g, off, none⟩) (q + 1) cc) := ⟨_, rfl⟩
            rw [← hW6]
            have HF6 : Hid (Fr [] w3 W6) := Lib.hid (by rw [hW6]; exact (HF4.out.trans HF5.out).setCell (fun h => absurd h (by have := HSZ.out; simp only; omega)) _)
            have HK6 : Hid (W6.heap[w4.heap.size]? = some (.cells #[.int .i64 m.args, .int .i64 m.temps, .int .i64 m.stack, .int .i64 m.prim, .slice la ll lc, .slice (some ⟨g, off, none⟩) (q + 1) cc] 25 (0, 0))) := Lib.hid (by rw [hW6]; exact heap_setCell_same HK5.out _)
            have hdc := HC.out q (by rw [← HNN.out]; omega) W6 (HF3.out.trans HF6.out)
            rw [cut_len HQL.out, show (m.cut (q + 1)).lits.length = ll from HLL.out.symm] at hdc
            simp only [Mth.cut] at hdc
            clear hW6 k0 k1 k2 k3 k4 k5 j0 j1 j2 j3 j4 j5 z0 z1 z2 z3 z4 z5 y0 y1
            have k0 := cell_of_heap (o := 0) HK6.out rfl; have k1 := cell_of_heap (o := 1) HK6.out rfl; have k2 := cell_of_heap (o := 2) HK6.out rfl; have k3 := cell_of_heap (o := 3) HK6.out rfl; have k4 := cell_of_heap (o := 4) HK6.out rfl; have k5 := cell_of_heap (o := 5) HK6.out rfl
            go_wp2_with fail
            refine hdc.mono ?_
            rintro e w7 ⟨l7, p7, en7, ra7, rc7, hto7, rfl, hF7, -, -⟩
            have he7 : en7 = 4 := HCE.out _ _ _ hto7
            subst he7
            have HF7 := Lib.hid (HF6.out.trans hF7)
            clear hF7 hto7 hdc k0 k1 k2 k3 k4 k5
            go_wp2_with fail
            go_roundw
            case rel => exact ⟨q + 1, by omega, by go_num, HF7⟩
            case measure => simp [intOf]; omega
    · have hqe : q = n := by omega
      subst hqe
      have hqd : decide (q < q) = false := by simp
      go_wp2_with fail
      go_ret
      exact ⟨rfl, HF3.out.trans hF.out⟩
end Go.Proofs.YtdmbhkdncahbhaaDoor
