/- IrBounds: the walk. (written by genbounds.py) -/
import Derived.Test.YtcdpgchkdjjfgaaIrAwake
import Derived.Test.YtcdpgchkdjjfgaaIrReads
import Derived.IntWalk
namespace Go.Proofs.Ytcdpgchkdjjfgaa
open Go.RowKit

/-- a place that there is -/
def goodS (R P : Int) (s : Sr) : Prop := 0 ≤ s.n ∧ (s.kind = 0 ∧ s.n < R ∨ s.kind = 3 ∧ s.n < P)
theorem goodS_of {R P : Int} {s : Sr} (h1 : plc s = true) (h2 : srcOk R P s = true) : goodS R P s := by
  unfold plc at h1
  unfold srcOk at h2
  simp only [decide_eq_true_eq] at h1 h2
  unfold goodS
  omega
theorem good_reads {R P S M : Int} {i : Ii} (h : insOk R P S M i = true) : ∀ s ∈ i.l.filter plc, goodS R P s := by
  intro s hs
  obtain ⟨hm, hp⟩ := List.mem_filter.1 hs
  unfold insOk at h
  simp only [Bool.and_eq_true] at h
  exact goodS_of hp (List.all_eq_true.1 h.1.1.1.2 s hm)
theorem good_write {R P S M : Int} {i : Ii} (h : insOk R P S M i = true) (hl : lvs i.op = true) : goodS R P i.d := by
  unfold insOk at h
  simp only [Bool.and_eq_true] at h
  have h2 := h.1.1.2
  unfold resOk at h2
  rw [if_pos hl, Bool.and_eq_true] at h2
  exact goodS_of h2.1 h2.2
theorem good_jump {R P S M : Int} {i : Ii} (h : insOk R P S M i = true) : (¬ i.op = 5 ∧ ¬ i.op = 6) ∨ ((i.op = 5 ∨ i.op = 6) ∧ 0 ≤ i.n ∧ i.n + 1 ≤ M) := by
  unfold insOk at h
  simp only [Bool.and_eq_true] at h
  have h2 := h.1.2
  by_cases h5 : i.op = 5
  · rw [h5] at h2
    unfold wtn grt at h2
    simp at h2
    exact .inr ⟨.inl h5, by omega⟩
  · by_cases h6 : i.op = 6
    · rw [h6] at h2
      unfold wtn grt at h2
      simp at h2
      exact .inr ⟨.inr h6, by omega⟩
    · exact .inl ⟨h5, h6⟩
theorem rising_le {l : List Int} (h : rising l) : ∀ (d k : Nat) (a b : Int), l[k]? = some a → l[k + d]? = some b → a ≤ b
  | 0, k, a, b, ha, hb => by rw [Nat.add_zero, ha] at hb; cases hb; exact Int.le_refl _
  | d + 1, k, a, b, ha, hb => by
    have hlt := (List.getElem?_eq_some_iff.1 hb).1
    have hc : l[k + d]? = some (l[k + d]'(by omega)) := List.getElem?_eq_getElem (by omega)
    exact Int.le_trans (rising_le h d k a _ ha hc) (h (k + d) _ b hc (by rw [Nat.add_assoc]; exact hb))
set_option maxRecDepth 100000 in
set_option maxHeartbeats 16000000 in
theorem irBounds_walk (u : Un) (w : World) (hA : UAt w u) (hB : UB u) : Calls Try.prog 6 #[u.v] w (Still (.bool true) w) := by
  have h1 : Hid (∀ W, Fr [] w W → Calls Try.prog 21 #[u.v] W (Still (.int .i64 (errU u)) W)) := Lib.hid fun W hF => ir_Check u W (hA.fr hF) hB
  have he : errU u = 1 ∨ errU u = 0 ∧ okU u = true := by
    unfold errU
    cases okU u
    · exact .inl rfl
    · exact .inr ⟨rfl, rfl⟩
  rcases he with he | ⟨he, hok⟩
  · rw [he] at h1
    obtain ⟨method, args, T, R, P, S, ea, en, ec, ca, co, cc, sa, st, sc, ma, mp, mc⟩ := u
    unfold Un.v at *
    simp only at h1 ⊢
    clear hA hB he
    generalize en.length = el at *
    generalize co.length = cl at *
    generalize st.length = sl at *
    generalize mp.length = ml at *
    go_enter Try.func6, Try.ntmps6
    go_wp2_with (first
      | (go_at_call 9; refine (awake11 _).mono ?_; rintro e w1 ⟨rfl, hF⟩; have HF1 : Hid (Fr [] w w1) := Lib.hid (((Fr.refl [] w).alloc _).trans hF); have hb := hF.heap (by simp) (heap_new w _); have b0 := cell_of_heap (o := 0) hb rfl; have b1 := cell_of_heap (o := 1) hb rfl; have b2 := cell_of_heap (o := 2) hb rfl; have b3 := cell_of_heap (o := 3) hb rfl; have b4 := cell_of_heap (o := 4) hb rfl; have b5 := cell_of_heap (o := 5) hb rfl; have b6 := cell_of_heap (o := 6) hb rfl; have b7 := cell_of_heap (o := 7) hb rfl; have b8 := cell_of_heap (o := 8) hb rfl; have b9 := cell_of_heap (o := 9) hb rfl; clear hF hb)
      | (go_at_call 21; refine (h1.out _ HF1.out).mono ?_; rintro e w2 ⟨rfl, hF⟩; have HF2 : Hid (Fr [] w w2) := Lib.hid (HF1.out.trans hF); clear hF))
    go_ret
    exact ⟨rfl, HF2.out⟩
  · rw [he] at h1
    have hok' : (numsOk u = true ∧ startsOk u = true) ∧ codeOk u = true := by
      unfold okU at hok
      simp only [Bool.and_eq_true] at hok
      exact ⟨hok.1.1, hok.2⟩
    have HIN : Hid (∀ i ∈ u.code, insOk u.regs u.spills u.sites u.maps.length i = true) := Lib.hid fun i hi => List.all_eq_true.1 ((codeOk_iff u).1 hok'.2).2.2.1 i hi
    have hst := (startsOk_iff u).1 hok'.1.2
    have HIB : Hid (∀ i ∈ u.code, IB i) := Lib.hid hB.code
    have HAC := Lib.hid hA.code
    have HAS := Lib.hid hA.starts
    have hcn := hB.cn
    obtain ⟨method, args, T, R, P, S, ea, en, ec, ca, co, cc, sa, st, sc, ma, mp, mc⟩ := u
    unfold Un.v at h1 ⊢
    simp only at h1 HIN HIB HAC HAS hst hcn ⊢
    clear hA hB he hok hok'
    generalize en.length = el at *
    obtain ⟨cl, hcl⟩ : ∃ z, z = co.length := ⟨_, rfl⟩
    obtain ⟨sl, hsl⟩ : ∃ z, z = st.length := ⟨_, rfl⟩
    generalize mp.length = ml at *
    rw [← hsl, ← hcl] at hst
    simp only [← hcl, ← hsl] at h1 hcn ⊢
    obtain ⟨hs2, hs129, hsm, -, hsL, hsr⟩ := hst
    have hslB : (sl : Int) ≤ 129 := by omega
    have hsm' : (ml : Int) + 1 = (sl : Int) := by omega
    have HCL := Lib.hid hcl
    have HSL := Lib.hid hsl
    have HSLST := Lib.hid hsL
    have HSR := Lib.hid hsr
    have HSM := Lib.hid hsm'
    have HS2 := Lib.hid hs2
    clear hcl hsl hsL hsr hs129 hsm hsm' hs2
    go_enter Try.func6, Try.ntmps6
    go_wp2_with (first
      | (go_at_call 9; refine (awake11 _).mono ?_; rintro e w1 ⟨rfl, hF⟩; have HF1 : Hid (Fr [] w w1) := Lib.hid (((Fr.refl [] w).alloc _).trans hF); have HB1 := Lib.hid (hF.heap (by simp) (heap_new w _)); have b0 := cell_of_heap (o := 0) HB1.out rfl; have b1 := cell_of_heap (o := 1) HB1.out rfl; have b2 := cell_of_heap (o := 2) HB1.out rfl; have b3 := cell_of_heap (o := 3) HB1.out rfl; have b4 := cell_of_heap (o := 4) HB1.out rfl; have b5 := cell_of_heap (o := 5) HB1.out rfl; have b6 := cell_of_heap (o := 6) HB1.out rfl; have b7 := cell_of_heap (o := 7) HB1.out rfl; have b8 := cell_of_heap (o := 8) HB1.out rfl; have b9 := cell_of_heap (o := 9) HB1.out rfl; clear hF)
      | (go_at_call 21; refine (h1.out _ HF1.out).mono ?_; rintro e w2 ⟨rfl, hF⟩; have HF2 : Hid (Fr [] w w2) := Lib.hid (HF1.out.trans hF); have HB2 := Lib.hid (hF.heap (by simp) HB1.out); clear hF b0 b1 b2 b3 b4 b5 b6 b7 b8 b9))
    clear HB1 HF1 h1
    go_loopw [4] (fun i wr => ∃ k : Nat, k ≤ cl ∧ i = .int .i64 k ∧ Hid (Fr [] w wr) ∧ Hid (wr.heap[w.heap.size]? = some (.cells #[.int .u64 method, .int .i64 args, .int .i64 T, .int .i64 R, .int .i64 P, .int .i64 S, .slice ea el ec, .slice ca cl cc, .slice sa sl sc, .slice ma ml mc] 43))) (fun i _ => cl - (intOf i).toNat)
    case atStart => exact ⟨0, Nat.zero_le _, rfl, HF2, HB2⟩
    case round =>
      clear HF2 HB2
      obtain ⟨k, hk, rfl, HF, HB⟩ := hrel
      have hw0 : w.heap.size < wr.heap.size := lt_of_heap HB.out
      by_cases hlt : k < cl
      · obtain ⟨m, hm⟩ : ∃ m, co[k]? = some m := ⟨_, List.getElem?_eq_getElem (by rw [← HCL.out]; exact hlt)⟩
        obtain ⟨⟨g, o, rfl, c0, c1, c2, c3, c4, c5, c6⟩, hs⟩ := (HAC.out.fr HF.out) k m hm
        have hmm := List.mem_of_getElem? hm
        have hok := HIN.out m hmm
        have hib := HIB.out m hmm
        have HRD : Hid (∀ W, Fr [] wr W → Calls Try.prog 19 #[m.v] W (ReadsTo (m.l.filter plc) W)) := Lib.hid fun W hF => ir_Reads m W hib (hs.fr hF)
        have HWR : Hid (∀ W, Calls Try.prog 12 #[m.v] W (Still (.tuple #[(wrS m).v, .bool (lvs m.op)]) W)) := Lib.hid fun W => ir_Writes m W
        have HG1 := Lib.hid (good_reads hok)
        have HG2 : Hid (lvs m.op = true → goodS R P (wrS m)) := Lib.hid fun h => by unfold wrS; rw [if_pos h]; exact good_write hok h
        have HJ := Lib.hid (good_jump hok)
        have hfl : (m.l.filter plc).length ≤ 5864062014804 := by
          have h9 := hok
          unfold insOk at h9
          simp only [Bool.and_eq_true] at h9
          have h8 := h9.1.1.1.1
          unfold wtn at h8
          simp only [decide_eq_true_eq] at h8
          have h7 : mst m.op ≤ 5 := by unfold mst; (repeat' split) <;> omega
          have := List.length_filter_le plc m.l
          omega
        have k0 : (0 : Int) ≤ (k : Int) := by omega
        have k1 : (k : Int) < (cl : Int) := by omega
        have hg : g < wr.heap.size := World.block_lt_of_cell? wr _ c0
        have b0 := cell_of_heap (o := 0) HB.out rfl; have b1 := cell_of_heap (o := 1) HB.out rfl; have b2 := cell_of_heap (o := 2) HB.out rfl; have b3 := cell_of_heap (o := 3) HB.out rfl; have b4 := cell_of_heap (o := 4) HB.out rfl; have b5 := cell_of_heap (o := 5) HB.out rfl; have b6 := cell_of_heap (o := 6) HB.out rfl; have b7 := cell_of_heap (o := 7) HB.out rfl; have b8 := cell_of_heap (o := 8) HB.out rfl; have b9 := cell_of_heap (o := 9) HB.out rfl
        have HMK := Lib.hid hm
        generalize hF : m.l.filter plc = F at *
        generalize lvs m.op = lv at *
        generalize wrS m = wv at *
        obtain ⟨op, n, ⟨dk, dn, dw⟩, la, l, lc, x⟩ := m
        obtain ⟨wk, wn, ww⟩ := wv
        unfold Ii.v Sr.v at *
        simp only at c0 c1 c2 c3 c4 c5 c6 hs HRD HWR HJ HMK HG2
        have HOPS : Hid ((op == 5) = false ∧ (op == 6) = false ∨ (op = 5 ∨ op = 6) ∧ 0 ≤ n ∧ n + 1 < (sl : Int)) := Lib.hid (by
          have h9 := HSM.out
          rcases HJ.out with h | h
          · exact .inl (by simp [h.1, h.2])
          · exact .inr ⟨h.1, h.2.1, by omega⟩)
        obtain ⟨ll, hll⟩ : ∃ z, z = l.length := ⟨_, rfl⟩
        simp only [← hll] at c5 HRD HWR
        clear hF hll hm hmm hok hib hs HJ
        obtain ⟨i0, hi, hz0, hz1, hz2⟩ := info_parts infoSrc
        cases lv
        · go_wp2_with (first
            | (go_at_call 19; refine (HRD.out _ (Fr.refl [] wr)).mono ?_; rintro e w2 ⟨v, rfl, hG⟩; obtain ⟨ra, rc, rfl⟩ := irow_shape hG.row; have HG := Lib.hid hG; have hb2 := hG.fr.heap (by simp) HB.out; have p0 := cell_of_heap (o := 0) hb2 rfl; have p1 := cell_of_heap (o := 1) hb2 rfl; have p2 := cell_of_heap (o := 2) hb2 rfl; have p3 := cell_of_heap (o := 3) hb2 rfl; have p4 := cell_of_heap (o := 4) hb2 rfl; have p5 := cell_of_heap (o := 5) hb2 rfl; have p6 := cell_of_heap (o := 6) hb2 rfl; have p7 := cell_of_heap (o := 7) hb2 rfl; have p8 := cell_of_heap (o := 8) hb2 rfl; have p9 := cell_of_heap (o := 9) hb2 rfl; have e0 := hG.fr.cell (by simp) c0; have e1 := hG.fr.cell (by simp) c1; have e2 := hG.fr.cell (by simp) c2; have e3 := hG.fr.cell (by simp) c3; have e4 := hG.fr.cell (by simp) c4; have e5 := hG.fr.cell (by simp) c5; have e6 := hG.fr.cell (by simp) c6; have hw2 := lt_of_heap hb2; have hg2 : g < w2.heap.size := World.block_lt_of_cell? w2 _ e0; clear hG hb2)
            | (go_at_call 12; refine (HWR.out _).mono ?_; rintro e w3 ⟨rfl, hF⟩; have HF3 : Hid (Fr [] w2 w3) := Lib.hid hF; clear hF; have HFX : Hid (Fr [] w (w3.alloc (.cells #[.int .i64 wk, .int .i64 wn, .int .u64 ww] 25))) := Lib.hid (((HF.out.trans HG.out.fr).trans HF3.out).alloc _); have HBX := Lib.hid (((Fr.refl [] w3).alloc (.cells #[.int .i64 wk, .int .i64 wn, .int .u64 ww] 25)).heap (by simp) (HF3.out.heap (by simp) (HG.out.fr.heap (by simp) HB.out))); have HSX : Hid (SrcsAt (w3.alloc (.cells #[.int .i64 wk, .int .i64 wn, .int .u64 ww] 25)) ra F) := Lib.hid ((srcs_of_row HG.out.row).fr (HF3.out.alloc _))))
          clear p0 p1 p2 p3 p4 p5 p6 p7 p8 p9 e0 e1 e2 e3 e4 e5 e6 b0 b1 b2 b3 b4 b5 b6 b7 b8 b9 c0 c1 c2 c3 c4 c5 c6 hw2 hg2 hw0 hg
          have HGD : Hid (∀ s ∈ F, goodS R P s) := HG1
          obtain ⟨L, hLF⟩ : ∃ L, L = F := ⟨_, rfl⟩
          obtain ⟨LL, hLL⟩ : ∃ z, z = L.length := ⟨_, rfl⟩
          have HLL := Lib.hid hLL
          have hLB : LL ≤ 5864062014805 := by rw [hLL, hLF]; omega
          rw [← hLF] at HSX HGD ⊢
          rw [← hLL]
          clear hLL
          unfold goodS at HGD
          generalize w3.alloc (.cells #[.int .i64 wk, .int .i64 wn, .int .u64 ww] 25) = wx at *
          clear HG HRD HWR HG1 HG2 HF HB hLF
          have hw0 : w.heap.size < wx.heap.size := lt_of_heap HBX.out
          go_wp2_with fail
          clear hw0
          go_loopw [8] (fun i wr => ∃ j : Nat, j ≤ LL ∧ i = .int .i64 j ∧ Hid (Fr [] w wr) ∧ Hid (wr.heap[w.heap.size]? = some (.cells #[.int .u64 method, .int .i64 args, .int .i64 T, .int .i64 R, .int .i64 P, .int .i64 S, .slice ea el ec, .slice (some ⟨g, o, none⟩) cl cc, .slice sa sl sc, .slice ma ml mc] 43)) ∧ Hid (SrcsAt wr ra L)) (fun i _ => LL - (intOf i).toNat)
          case atStart => exact ⟨0, Nat.zero_le _, rfl, HFX, HBX, HSX⟩
          case round =>
            have HFO := Lib.hid HFX.out
            clear HFX HBX HSX
            obtain ⟨j, hj, rfl, HF, HB, HS⟩ := hrel
            have hw0 : w.heap.size < wr.heap.size := lt_of_heap HB.out
            by_cases hjl : j < LL
            · obtain ⟨s, hs⟩ : ∃ s, L[j]? = some s := ⟨_, List.getElem?_eq_getElem (by rw [← HLL.out]; exact hjl)⟩
              obtain ⟨g2, o2, rfl, d0, d1, d2⟩ := HS.out j s hs
              have hg2 : g2 < wr.heap.size := World.block_lt_of_cell? wr _ d0
              have hgd := HGD.out s (List.mem_of_getElem? hs)
              have b0 := cell_of_heap (o := 0) HB.out rfl; have b1 := cell_of_heap (o := 1) HB.out rfl; have b2 := cell_of_heap (o := 2) HB.out rfl; have b3 := cell_of_heap (o := 3) HB.out rfl; have b4 := cell_of_heap (o := 4) HB.out rfl; have b5 := cell_of_heap (o := 5) HB.out rfl; have b6 := cell_of_heap (o := 6) HB.out rfl; have b7 := cell_of_heap (o := 7) HB.out rfl; have b8 := cell_of_heap (o := 8) HB.out rfl; have b9 := cell_of_heap (o := 9) HB.out rfl
              have j0 : (0 : Int) ≤ (j : Int) := by omega
              have j1 : (j : Int) < (LL : Int) := by omega
              obtain ⟨sk, sn, sw⟩ := s
              simp only at d0 d1 d2 hgd
              obtain ⟨hn0, hk⟩ := hgd
              have n1 : decide (sn < 0) = false := by simp; omega
              clear hs d2
              rcases hk with ⟨rfl, hk⟩ | ⟨rfl, hk⟩
              · have n2 : decide (R ≤ sn) = false := by simp; omega
                go_wp2_with fail
                go_quiet (fail)
                go_wp2_with fail
                go_roundw
                case rel => exact ⟨j + 1, by omega, by go_num, HF.out.drewN _, HB.out, HS.out.fr ((Fr.refl [] wr).drewN _)⟩
                case measure => simp [intOf]; omega
              · have n2 : decide (P ≤ sn) = false := by simp; omega
                go_wp2_with fail
                go_quiet (fail)
                go_wp2_with fail
                go_roundw
                case rel => exact ⟨j + 1, by omega, by go_num, HF.out.drewN _, HB.out, HS.out.fr ((Fr.refl [] wr).drewN _)⟩
                case measure => simp [intOf]; omega
            · have hkd : ¬ (j : Int) < (LL : Int) := by omega
              obtain ⟨⟨_, _, e, c0, c1, -, -, -, -, -⟩, -⟩ := (HAC.out.fr HF.out) k _ HMK.out
              cases e
              have hg : g < wr.heap.size := World.block_lt_of_cell? wr _ c0
              have b0 := cell_of_heap (o := 0) HB.out rfl; have b1 := cell_of_heap (o := 1) HB.out rfl; have b2 := cell_of_heap (o := 2) HB.out rfl; have b3 := cell_of_heap (o := 3) HB.out rfl; have b4 := cell_of_heap (o := 4) HB.out rfl; have b5 := cell_of_heap (o := 5) HB.out rfl; have b6 := cell_of_heap (o := 6) HB.out rfl; have b7 := cell_of_heap (o := 7) HB.out rfl; have b8 := cell_of_heap (o := 8) HB.out rfl; have b9 := cell_of_heap (o := 9) HB.out rfl
              clear hjl
              rcases HOPS.out with ⟨h5, h6⟩ | ⟨h56, hn0, hn1⟩
              · go_wp2_with fail
                go_quiet (fail)
                go_wp2_with fail
                go_roundw
                case rel => exact ⟨k + 1, by omega, by go_num, HF.out.drewN _, HB.out⟩
                case measure => simp [intOf]; omega
              · have m1 : decide (n < 0) = false := by simp; omega
                have m2 : decide ((sl : Int) ≤ n + 1) = false := by simp; omega
                have m3 : IntKind.i64.wrap (n + 1) = n + 1 := IntWalk.i64_in _ (by omega)
                rcases h56 with rfl | rfl
                all_goals
                  go_wp2_with fail
                  go_quiet (fail)
                  clear m3
                  go_wp2_with fail
                  go_roundw
                  case rel => exact ⟨k + 1, by omega, by go_num, HF.out.drewN _, HB.out⟩
                  case measure => simp [intOf]; omega
        · have HGW := Lib.hid (HG2.out rfl)
          go_wp2_with (first
            | (go_at_call 19; refine (HRD.out _ (Fr.refl [] wr)).mono ?_; rintro e w2 ⟨v, rfl, hG⟩; obtain ⟨ra, rc, rfl⟩ := irow_shape hG.row; have HG := Lib.hid hG; have hb2 := hG.fr.heap (by simp) HB.out; have p0 := cell_of_heap (o := 0) hb2 rfl; have p1 := cell_of_heap (o := 1) hb2 rfl; have p2 := cell_of_heap (o := 2) hb2 rfl; have p3 := cell_of_heap (o := 3) hb2 rfl; have p4 := cell_of_heap (o := 4) hb2 rfl; have p5 := cell_of_heap (o := 5) hb2 rfl; have p6 := cell_of_heap (o := 6) hb2 rfl; have p7 := cell_of_heap (o := 7) hb2 rfl; have p8 := cell_of_heap (o := 8) hb2 rfl; have p9 := cell_of_heap (o := 9) hb2 rfl; have e0 := hG.fr.cell (by simp) c0; have e1 := hG.fr.cell (by simp) c1; have e2 := hG.fr.cell (by simp) c2; have e3 := hG.fr.cell (by simp) c3; have e4 := hG.fr.cell (by simp) c4; have e5 := hG.fr.cell (by simp) c5; have e6 := hG.fr.cell (by simp) c6; have hw2 := lt_of_heap hb2; have hg2 : g < w2.heap.size := World.block_lt_of_cell? w2 _ e0; clear hG hb2)
            | (go_at_call 12; refine (HWR.out _).mono ?_; rintro e w3 ⟨rfl, hF⟩; have HF3 : Hid (Fr [] w2 w3) := Lib.hid hF; clear hF; have HRW : Hid (((w3.alloc (.cells #[.int .i64 wk, .int .i64 wn, .int .u64 ww] 25)).alloc (.cells #[.int .i64 wk, .int .i64 wn, .int .u64 ww] 25)).ownsRow 0 25 3 (.slice ra F.length rc) F.length (flatS F)) := Lib.hid ((HG.out.fr' ((HF3.out.alloc _).alloc _)).row); have HNW := Lib.hid (hp2 w3 (.cells #[.int .i64 wk, .int .i64 wn, .int .u64 ww] 25) (.cells #[.int .i64 wk, .int .i64 wn, .int .u64 ww] 25)); have hne1 : F.length + 1 ≤ 5864062014805 := by omega)
            | (at_builtin; refine wpList_append_at _ rfl (.tmp 39) (.tmp 41) 26 rfl 25 i0 _ 3 24 Try.underlying26 hi hz0 hz1 hz2 rfl (by decide) (.slice ra F.length rc) F.length _ rfl HRW.out ⟨w3.heap.size + 1, 0, none⟩ 1 1 [.int .i64 wk, .int .i64 wn, .int .u64 ww] rfl rfl (by
                intro j u hj
                rw [Lib.add_plain, Nat.zero_add]
                exact cell_of_heap HNW.out (by simpa using hj)) (by simp [Value.oneCell']) (by unfold maxLen; omega) (by omega) ?_; intro v5 w5 ho5 hg5 hf5; obtain ⟨ra5, rc5, rfl⟩ := irow_shape ho5; have HGn := Lib.hid (HG.out.step ((HF3.out.alloc _).alloc _) ho5 hg5 hf5); clear ho5 hg5 hf5))
          have HFX : Hid (Fr [] w w5) := Lib.hid (HF.out.trans HGn.out.fr)
          have HBX := Lib.hid (HGn.out.fr.heap (by simp) HB.out)
          have HSX0 : Hid (SrcsAt w5 ra5 (F ++ [⟨wk, wn, ww⟩])) := Lib.hid (srcs_of_row (by rw [flatS_snoc]; exact HGn.out.row))
          have HGD0 : Hid (∀ s ∈ F ++ [⟨wk, wn, ww⟩], goodS R P s) := Lib.hid (fun s hs => by
            rcases List.mem_append.1 hs with hs | hs
            · exact HG1.out s hs
            · rw [List.mem_singleton.1 hs]; exact HGW.out)
          clear p0 p1 p2 p3 p4 p5 p6 p7 p8 p9 e0 e1 e2 e3 e4 e5 e6 b0 b1 b2 b3 b4 b5 b6 b7 b8 b9 c0 c1 c2 c3 c4 c5 c6 hw2 hg2 hw0 hg
          obtain ⟨L, hLF⟩ : ∃ L, L = F ++ [⟨wk, wn, ww⟩] := ⟨_, rfl⟩
          obtain ⟨LL, hLL⟩ : ∃ z, z = F.length + 1 := ⟨_, rfl⟩
          have HLL : Hid (LL = L.length) := Lib.hid (by rw [hLL, hLF]; simp)
          have hLB : LL ≤ 5864062014805 := by omega
          rw [← hLF] at HSX0 HGD0
          rw [← hLL]
          have HSX : Hid (SrcsAt w5 ra5 L) := HSX0
          have HGD : Hid (∀ s ∈ L, goodS R P s) := HGD0
          unfold goodS at HGD
          clear HGn HG HRD HWR HG1 HG2 HF HB hLF hLL HSX0 HGD0 HRW HNW HGW hfl hne1
          generalize w5 = wx at *
          have hw0 : w.heap.size < wx.heap.size := lt_of_heap HBX.out
          go_wp2_with fail
          clear hw0
          go_loopw [8] (fun i wr => ∃ j : Nat, j ≤ LL ∧ i = .int .i64 j ∧ Hid (Fr [] w wr) ∧ Hid (wr.heap[w.heap.size]? = some (.cells #[.int .u64 method, .int .i64 args, .int .i64 T, .int .i64 R, .int .i64 P, .int .i64 S, .slice ea el ec, .slice (some ⟨g, o, none⟩) cl cc, .slice sa sl sc, .slice ma ml mc] 43)) ∧ Hid (SrcsAt wr ra5 L)) (fun i _ => LL - (intOf i).toNat)
          case atStart => exact ⟨0, Nat.zero_le _, rfl, HFX, HBX, HSX⟩
          case round =>
            have HFO := Lib.hid HFX.out
            clear HFX HBX HSX
            obtain ⟨j, hj, rfl, HF, HB, HS⟩ := hrel
            have hw0 : w.heap.size < wr.heap.size := lt_of_heap HB.out
            by_cases hjl : j < LL
            · obtain ⟨s, hs⟩ : ∃ s, L[j]? = some s := ⟨_, List.getElem?_eq_getElem (by rw [← HLL.out]; exact hjl)⟩
              obtain ⟨g2, o2, rfl, d0, d1, d2⟩ := HS.out j s hs
              have hg2 : g2 < wr.heap.size := World.block_lt_of_cell? wr _ d0
              have hgd := HGD.out s (List.mem_of_getElem? hs)
              have b0 := cell_of_heap (o := 0) HB.out rfl; have b1 := cell_of_heap (o := 1) HB.out rfl; have b2 := cell_of_heap (o := 2) HB.out rfl; have b3 := cell_of_heap (o := 3) HB.out rfl; have b4 := cell_of_heap (o := 4) HB.out rfl; have b5 := cell_of_heap (o := 5) HB.out rfl; have b6 := cell_of_heap (o := 6) HB.out rfl; have b7 := cell_of_heap (o := 7) HB.out rfl; have b8 := cell_of_heap (o := 8) HB.out rfl; have b9 := cell_of_heap (o := 9) HB.out rfl
              have j0 : (0 : Int) ≤ (j : Int) := by omega
              have j1 : (j : Int) < (LL : Int) := by omega
              obtain ⟨sk, sn, sw⟩ := s
              simp only at d0 d1 d2 hgd
              obtain ⟨hn0, hk⟩ := hgd
              have n1 : decide (sn < 0) = false := by simp; omega
              clear hs d2
              rcases hk with ⟨rfl, hk⟩ | ⟨rfl, hk⟩
              · have n2 : decide (R ≤ sn) = false := by simp; omega
                go_wp2_with fail
                go_quiet (fail)
                go_wp2_with fail
                go_roundw
                case rel => exact ⟨j + 1, by omega, by go_num, HF.out.drewN _, HB.out, HS.out.fr ((Fr.refl [] wr).drewN _)⟩
                case measure => simp [intOf]; omega
              · have n2 : decide (P ≤ sn) = false := by simp; omega
                go_wp2_with fail
                go_quiet (fail)
                go_wp2_with fail
                go_roundw
                case rel => exact ⟨j + 1, by omega, by go_num, HF.out.drewN _, HB.out, HS.out.fr ((Fr.refl [] wr).drewN _)⟩
                case measure => simp [intOf]; omega
            · have hkd : ¬ (j : Int) < (LL : Int) := by omega
              obtain ⟨⟨_, _, e, c0, c1, -, -, -, -, -⟩, -⟩ := (HAC.out.fr HF.out) k _ HMK.out
              cases e
              have hg : g < wr.heap.size := World.block_lt_of_cell? wr _ c0
              have b0 := cell_of_heap (o := 0) HB.out rfl; have b1 := cell_of_heap (o := 1) HB.out rfl; have b2 := cell_of_heap (o := 2) HB.out rfl; have b3 := cell_of_heap (o := 3) HB.out rfl; have b4 := cell_of_heap (o := 4) HB.out rfl; have b5 := cell_of_heap (o := 5) HB.out rfl; have b6 := cell_of_heap (o := 6) HB.out rfl; have b7 := cell_of_heap (o := 7) HB.out rfl; have b8 := cell_of_heap (o := 8) HB.out rfl; have b9 := cell_of_heap (o := 9) HB.out rfl
              clear hjl
              rcases HOPS.out with ⟨h5, h6⟩ | ⟨h56, hn0, hn1⟩
              · go_wp2_with fail
                go_quiet (fail)
                go_wp2_with fail
                go_roundw
                case rel => exact ⟨k + 1, by omega, by go_num, HF.out.drewN _, HB.out⟩
                case measure => simp [intOf]; omega
              · have m1 : decide (n < 0) = false := by simp; omega
                have m2 : decide ((sl : Int) ≤ n + 1) = false := by simp; omega
                have m3 : IntKind.i64.wrap (n + 1) = n + 1 := IntWalk.i64_in _ (by omega)
                rcases h56 with rfl | rfl
                all_goals
                  go_wp2_with fail
                  go_quiet (fail)
                  clear m3
                  go_wp2_with fail
                  go_roundw
                  case rel => exact ⟨k + 1, by omega, by go_num, HF.out.drewN _, HB.out⟩
                  case measure => simp [intOf]; omega
      · have hkn : k = cl := by omega
        have hkd : ¬ (k : Int) < (cl : Int) := by omega
        have b0 := cell_of_heap (o := 0) HB.out rfl; have b1 := cell_of_heap (o := 1) HB.out rfl; have b2 := cell_of_heap (o := 2) HB.out rfl; have b3 := cell_of_heap (o := 3) HB.out rfl; have b4 := cell_of_heap (o := 4) HB.out rfl; have b5 := cell_of_heap (o := 5) HB.out rfl; have b6 := cell_of_heap (o := 6) HB.out rfl; have b7 := cell_of_heap (o := 7) HB.out rfl; have b8 := cell_of_heap (o := 8) HB.out rfl; have b9 := cell_of_heap (o := 9) HB.out rfl
        clear hkn hlt
        go_wp2_with fail
        clear b0 b1 b2 b3 b4 b5 b6 b7 b8 b9 hkd
        have HFO := HF
        have HBO := HB
        clear HF HB hw0
        go_loopw [10] (fun i wr => ∃ k : Nat, 1 ≤ k ∧ k ≤ sl ∧ i = .int .i64 k ∧ Hid (Fr [] w wr) ∧ Hid (wr.heap[w.heap.size]? = some (.cells #[.int .u64 method, .int .i64 args, .int .i64 T, .int .i64 R, .int .i64 P, .int .i64 S, .slice ea el ec, .slice ca cl cc, .slice sa sl sc, .slice ma ml mc] 43))) (fun i _ => sl - (intOf i).toNat)
        case atStart => exact ⟨1, Nat.le_refl _, by have := HS2.out; omega, rfl, HFO, HBO⟩
        case round =>
          clear HFO HBO
          obtain ⟨k, hk1, hk, rfl, HF, HB⟩ := hrel
          have hw0 : w.heap.size < wr.heap.size := lt_of_heap HB.out
          by_cases hlt : k < sl
          · obtain ⟨x, hx⟩ : ∃ x, st[k - 1]? = some x := ⟨_, List.getElem?_eq_getElem (by rw [← HSL.out]; omega)⟩
            obtain ⟨y, hy⟩ : ∃ y, st[k]? = some y := ⟨_, List.getElem?_eq_getElem (by rw [← HSL.out]; omega)⟩
            obtain ⟨g, o, rfl, cx⟩ := (HAS.out.fr HF.out) _ _ hx
            obtain ⟨_, _, e, cy⟩ := (HAS.out.fr HF.out) _ _ hy
            cases e
            have hg : g < wr.heap.size := World.block_lt_of_cell? wr _ cx
            have hxy : x ≤ y := HSR.out (k - 1) x y hx (by rw [show k - 1 + 1 = k by omega]; exact hy)
            have hyl : y ≤ (cl : Int) := by
              have h9 := rising_le HSR.out (sl - 1 - k) k y cl hy (by rw [show k + (sl - 1 - k) = sl - 1 by omega]; exact HSLST.out)
              exact h9
            have b0 := cell_of_heap (o := 0) HB.out rfl; have b1 := cell_of_heap (o := 1) HB.out rfl; have b2 := cell_of_heap (o := 2) HB.out rfl; have b3 := cell_of_heap (o := 3) HB.out rfl; have b4 := cell_of_heap (o := 4) HB.out rfl; have b5 := cell_of_heap (o := 5) HB.out rfl; have b6 := cell_of_heap (o := 6) HB.out rfl; have b7 := cell_of_heap (o := 7) HB.out rfl; have b8 := cell_of_heap (o := 8) HB.out rfl; have b9 := cell_of_heap (o := 9) HB.out rfl
            have k0 : (0 : Int) ≤ (k : Int) := by omega
            have k00 : (1 : Int) ≤ (k : Int) := by omega
            have k1 : (k : Int) < (sl : Int) := by omega
            have k3 : (k : Int) - 1 < (sl : Int) := by omega
            have k4 : (0 : Int) ≤ (k : Int) - 1 := by omega
            have k5 : IntKind.i64.wrap ((k : Int) - 1) = (k : Int) - 1 := IntWalk.i64_in _ (by omega)
            have k6 : ((k : Int) - 1).toNat = k - 1 := by omega
            have d1 : decide (y < x) = false := by simp; omega
            have d2 : decide ((cl : Int) < y) = false := by simp; omega
            clear hx hy hxy hyl
            go_wp2_with fail
            go_quiet (fail)
            clear k5 k6
            go_wp2_with fail
            go_roundw
            case rel => exact ⟨k + 1, by omega, by omega, by go_num, HF.out.drewN _, HB.out⟩
            case measure => simp [intOf]; omega
          · have hkd : ¬ (k : Int) < (sl : Int) := by omega
            have b0 := cell_of_heap (o := 0) HB.out rfl; have b1 := cell_of_heap (o := 1) HB.out rfl; have b2 := cell_of_heap (o := 2) HB.out rfl; have b3 := cell_of_heap (o := 3) HB.out rfl; have b4 := cell_of_heap (o := 4) HB.out rfl; have b5 := cell_of_heap (o := 5) HB.out rfl; have b6 := cell_of_heap (o := 6) HB.out rfl; have b7 := cell_of_heap (o := 7) HB.out rfl; have b8 := cell_of_heap (o := 8) HB.out rfl; have b9 := cell_of_heap (o := 9) HB.out rfl
            clear hlt
            go_wp2_with fail
            go_ret
            exact ⟨rfl, HF.out⟩
end Go.Proofs.Ytcdpgchkdjjfgaa
