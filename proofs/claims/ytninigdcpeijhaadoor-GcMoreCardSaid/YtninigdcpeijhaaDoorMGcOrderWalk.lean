/- GcOrder, walked. -/
import Derived.Test.YtninigdcpeijhaaDoorMGcRoomWalk
namespace Go.Proofs.YtninigdcpeijhaaDoor
open Go.RowKit

/-- the roots, as they lead behind a run: no further behind, in their order -/
theorem order_law {os : List Ob} {root : Int} {roots : List Int} (hl : endOf os ≤ 65536) (hall : roots.all (okB (marksOf os)) = true) {i j : Nat} {x y : Int} (hx : roots[i]? = some x) (hx0 : x ≠ 0) (hx1 : odd x = false) (hy : roots[j]? = some y) (hy0 : y ≠ 0) (hy1 : odd y = false) :
    moveW (keepR os (root :: roots)) os x ≤ x ∧ (moveW (keepR os (root :: roots)) os y < moveW (keepR os (root :: roots)) os x ↔ y < x) := by
  have hm := fun z hz => List.all_eq_true.1 hall z hz
  have lx := ok_look hl (hm x (List.mem_of_getElem? hx)) hx0 hx1
  have ly := ok_look hl (hm y (List.mem_of_getElem? hy)) hy0 hy1
  have kx : keepR os (root :: roots) x = true := keepR_iff.2 (.root (by simp [List.mem_of_getElem? hx]) lx)
  have ky : keepR os (root :: roots) y = true := keepR_iff.2 (.root (by simp [List.mem_of_getElem? hy]) ly)
  obtain ⟨r, -, e, -, h⟩ := move_le lx kx
  exact ⟨by rw [e]; exact h, move_lt ly ky lx kx⟩
theorem move_words {f : Int → Int} {xs : List Int} {W : World} {v : Value} {n : Nat} (h : W.ownsRow 0 28 1 v n ((xs.map f).map (Value.int .u64))) : ∃ va vc, v = .slice va n vc ∧ WordsAt W va (xs.map f) := by
  obtain ⟨va, vc, rfl⟩ := row_shape h
  refine ⟨va, vc, rfl, fun i x hx => ?_⟩
  obtain ⟨g, o, e, hc⟩ := row_rowAt h i (.int .u64 x) (by rw [List.getElem?_map, hx]; rfl)
  exact ⟨g, o, e, hc⟩
set_option maxRecDepth 100000 in
set_option maxHeartbeats 8000000 in
theorem gcOrder_walk {ao : Option Addr} {cap : Nat} {w : World} (its : List (It × Int)) (hG : G4 w ao its) (hB : B4 its) (root : Int) (hr : WB root) (n : Int) (n1 : -9223372036854775808 ≤ n) (n2 : n ≤ 9223372036854775807) {ra : Option Addr} {rc : Nat} (xs : List Int) (hX : WordsAt w ra xs) (hXB : ∀ x ∈ xs, WB x) (hXL : xs.length ≤ 17592186044416) (hXN : 0 < xs.length → ∃ b o, ra = some ⟨b, o, none⟩ ∧ b < w.heap.size) (hg : Glob w) :
    Calls Tryd.prog 5 #[.slice ao its.length cap, .int .u64 root, .int .i64 n, .slice ra xs.length rc] w (Still (.bool true) w) := by
  have hA := awake3 w hg
  have HG := Lib.hid hg
  have HG4 := Lib.hid hG
  have HB4 := Lib.hid hB
  have HR := Lib.hid hr
  have HX := Lib.hid hX
  have HXB := Lib.hid hXB
  have HXN := Lib.hid hXN
  obtain ⟨N, hN⟩ : ∃ N, N = its.length := ⟨_, rfl⟩
  have HN := Lib.hid hN
  obtain ⟨K, hK⟩ : ∃ K, K = xs.length := ⟨_, rfl⟩
  have HK := Lib.hid hK
  rw [← hN, ← hK]
  rw [← hK] at hXL
  clear hg hG hB hN hr hX hXB hXN hK
  go_enter Tryd.func5, Tryd.ntmps5
  go_wp2_with fail
  refine hA.mono ?_
  rintro e w1 ⟨rfl, hF1⟩
  have hld := loaded3 (cap := cap) (HG.out.fr hF1) its (HG4.out.fr0 hF1) HB4.out root n HR.out n1 n2
  rw [← HN.out] at hld
  have HF1 := Lib.hid hF1
  clear hA hF1
  go_wp2_with fail
  refine hld.mono ?_
  rintro e w2 ⟨hb, mb, ⟨h0, rfl, hL⟩ | ⟨rfl, hF2⟩⟩
  · obtain ⟨hI, hwo, hs5⟩ := loaded_inv HB4.out h0
    obtain ⟨os, hos⟩ : ∃ os, os = obsOf (its.map Prod.fst) := ⟨_, rfl⟩
    rw [← hos] at hL hI hwo hs5
    obtain ⟨wv, sv, hH, hF0, h1, h2⟩ := hL
    have he : endOf os ≤ 65536 := by have := hI.fit; omega
    have HI := Lib.hid hI
    have HWO := Lib.hid hwo
    have HS5 := Lib.hid hs5
    have HH := Lib.hid hH
    have HF0 := Lib.hid hF0
    have H2 := Lib.hid h2
    have HE := Lib.hid he
    clear hld h0 hos hI hwo hs5 hH hF0 h1 h2 he
    by_cases hbig : 100 < K
    · go_wp2_with fail
      go_ret
      exact ⟨rfl, HF1.out.trans HF0.out⟩
    · cases hall : xs.all (okB (marksOf os))
      · have hrun := gcRun_no (W := w2) (ra := ra) (rc := rc) HI.out HH.out xs (HX.out.fr0 (HF1.out.trans HF0.out)) HXB.out (by rw [← HK.out]; exact hXL) hall
        rw [← HK.out] at hrun
        clear hall
        go_wp2_with fail
        refine hrun.mono ?_
        rintro e w3 ⟨rfl, hF3⟩
        have HF3 := Lib.hid hF3
        clear hF3 hrun
        go_wp2_with fail
        go_ret
        exact ⟨rfl, (HF1.out.trans HF0.out).trans HF3.out⟩
      · have hrun := gcRun (W := w2) (ra := ra) (rc := rc) (HG.out.fr (HF1.out.trans HF0.out)) HI.out HWO.out HS5.out HH.out HR.out xs (HX.out.fr0 (HF1.out.trans HF0.out)) HXB.out (by rw [← HK.out]; exact hXL) hall (fun hne a ha hk => by
          obtain ⟨b, o, e, hlt⟩ := HXN.out (List.length_pos_iff.2 hne)
          rw [ha] at e
          cases e
          have h1 := H2.out _ hk
          have h2 := HF1.out.size
          simp only at h1
          omega)
        unfold Ran at hrun
        rw [← HK.out] at hrun
        have HALL := Lib.hid hall
        obtain ⟨f, hf⟩ : ∃ f, f = moveW (keepR os (root :: xs)) os := ⟨_, rfl⟩
        rw [← hf] at hrun
        have HF := Lib.hid hf
        clear hall hf
        go_wp2_with fail
        refine hrun.mono ?_
        rintro e w4 ⟨v, rfl, hrow, -, wv', sv', -, hF4, -⟩
        obtain ⟨va, vc, rfl, hV⟩ := move_words hrow
        have HV := Lib.hid hV
        have HE4 : Hid (Fr [] w w4) := HF1.out.trans (HF0.out.join hF4 H2.out)
        have HX4 : Hid (WordsAt w4 ra xs) := HX.out.fr0 HE4.out
        clear hrun hrow hF4 hV
        go_wp2_with fail
        go_loopw [15] (fun s wr => ∃ i : Nat, i ≤ K ∧ s = .int .i64 i ∧ Hid (Fr [] w4 wr)) (fun s _ => K - (intOf s).toNat)
        case atStart => exact ⟨0, Nat.zero_le _, rfl, Fr.refl _ _⟩
        case round =>
          obtain ⟨i, hi, rfl, hFi⟩ := hrel
          by_cases hlt : i < K
          · have hkl : i < xs.length := by rw [← HK.out]; exact hlt
            obtain ⟨x, hx⟩ : ∃ x, xs[i]? = some x := ⟨_, List.getElem?_eq_getElem hkl⟩
            obtain ⟨g, o, rfl, hc⟩ := HX4.out i x hx
            obtain ⟨g2, o2, rfl, hc2⟩ := HV.out i (f x) (by rw [List.getElem?_map, hx]; rfl)
            have d1 := hFi.out.cell (by simp) hc
            have d2 := hFi.out.cell (by simp) hc2
            have hxb := HXB.out x (List.mem_of_getElem? hx)
            obtain ⟨x1, x2⟩ := hxb
            have i0 : (0 : Int) ≤ (i : Int) := by omega
            have i1 : (i : Int) < (K : Int) := by omega
            have HXI := Lib.hid hx
            clear hkl hx hc hc2
            by_cases ho : x % 2 = 1
            · have ht : x.tmod 2 = 1 := by rw [Int.tmod_eq_emod_of_nonneg x1]; exact ho
              go_wp2
              go_roundw
              case rel => exact ⟨i + 1, by omega, by go_num, hFi⟩
              case measure => simp [intOf]; omega
            · have ht : x.tmod 2 = 0 := by rw [Int.tmod_eq_emod_of_nonneg x1]; omega
              by_cases h0 : x = 0
              · subst h0
                go_wp2
                go_roundw
                case rel => exact ⟨i + 1, by omega, by go_num, hFi⟩
                case measure => simp [intOf]; omega
              · have hz1 : (x == 0) = false := by simpa using h0
                obtain ⟨y, hy⟩ : ∃ y, y = f x := ⟨_, rfl⟩
                rw [← hy] at d2
                have hle : y ≤ x := by rw [hy, HF.out]; exact (order_law HE.out HALL.out HXI.out h0 (by simpa [odd] using ho) HXI.out h0 (by simpa [odd] using ho)).1
                have hgt : decide (x < y) = false := by simp; omega
                have HY := Lib.hid hy
                have HNO := Lib.hid ho
                clear hy ho
                go_wp2
                go_quiet (fail)
                have HF6 : Hid (Fr [] w4 (wr.drewN nq)) := hFi.out.drewN _
                generalize wr.drewN nq = w6 at *
                clear d1 d2
                go_wp2
                go_loopw [16] (fun s wr => ∃ j : Nat, j ≤ i ∧ s = .int .i64 j ∧ Hid (Fr [] w4 wr)) (fun s _ => i - (intOf s).toNat)
                case atStart => exact ⟨0, Nat.zero_le _, rfl, HF6⟩
                case round =>
                  obtain ⟨j, hj, rfl, hFj⟩ := hrel
                  by_cases hjl : j < i
                  · have hjk : j < xs.length := by rw [← HK.out]; omega
                    obtain ⟨z, hz⟩ : ∃ z, xs[j]? = some z := ⟨_, List.getElem?_eq_getElem hjk⟩
                    obtain ⟨_, _, e1, c1⟩ := HX4.out j z hz
                    cases e1
                    obtain ⟨_, _, e2, c2⟩ := HV.out j (f z) (by rw [List.getElem?_map, hz]; rfl)
                    cases e2
                    obtain ⟨_, _, e3, c3⟩ := HX4.out i x HXI.out
                    cases e3
                    obtain ⟨_, _, e4, c4⟩ := HV.out i (f x) (by rw [List.getElem?_map, HXI.out]; rfl)
                    cases e4
                    rw [← HY.out] at c4
                    have d1 := hFj.out.cell (by simp) c1
                    have d2 := hFj.out.cell (by simp) c2
                    have d3 := hFj.out.cell (by simp) c3
                    have d4 := hFj.out.cell (by simp) c4
                    obtain ⟨z1, z2⟩ := HXB.out z (List.mem_of_getElem? hz)
                    have j0 : (0 : Int) ≤ (j : Int) := by omega
                    have j1 : (j : Int) < (i : Int) := by omega
                    have j2 : (j : Int) < (K : Int) := by omega
                    have HZJ := Lib.hid hz
                    clear hjk hz c1 c2 c3 c4
                    by_cases hzo : z % 2 = 1
                    · have hzt : z.tmod 2 = 1 := by rw [Int.tmod_eq_emod_of_nonneg z1]; exact hzo
                      go_wp2
                      go_quiet (fail)
                      have HF7 : Hid (Fr [] w4 (wr.drewN nq)) := hFj.out.drewN _
                      generalize wr.drewN nq = w7 at *
                      clear d1 d2 d3 d4
                      go_wp2
                      go_roundw
                      case rel => exact ⟨j + 1, by omega, by go_num, HF7⟩
                      case measure => simp [intOf]; omega
                    · have hzt : z.tmod 2 = 0 := by rw [Int.tmod_eq_emod_of_nonneg z1]; omega
                      by_cases hz0 : z = 0
                      · subst hz0
                        go_wp2
                        go_quiet (fail)
                        have HF7 : Hid (Fr [] w4 (wr.drewN nq)) := hFj.out.drewN _
                        generalize wr.drewN nq = w7 at *
                        clear d1 d2 d3 d4
                        go_wp2
                        go_roundw
                        case rel => exact ⟨j + 1, by omega, by go_num, HF7⟩
                        case measure => simp [intOf]; omega
                      · have hq1 : (z == 0) = false := by simpa using hz0
                        have hq2 : (z != 0) = true := by simpa using hz0
                        have hq3 : decide (z = 0) = false := by simpa using hz0
                        have hol := (order_law (root := root) HE.out HALL.out HXI.out h0 (by simpa [odd] using HNO.out) HZJ.out hz0 (by simpa [odd] using hzo)).2
                        rw [← HF.out, ← HY.out] at hol
                        obtain ⟨v, hv⟩ : ∃ v, v = f z := ⟨_, rfl⟩
                        rw [← hv] at hol d2
                        clear hv
                        by_cases hzx : z < x
                        · have r1 : decide (z < x) = true := by simpa using hzx
                          have r2 : decide (v < y) = true := by simpa using hol.2 hzx
                          clear hol hzx
                          go_wp2
                          go_quiet (fail)
                          have HF7 : Hid (Fr [] w4 (wr.drewN nq)) := hFj.out.drewN _
                          generalize wr.drewN nq = w7 at *
                          clear d1 d2 d3 d4
                          go_wp2
                          go_roundw
                          case rel => exact ⟨j + 1, by omega, by go_num, HF7⟩
                          case measure => simp [intOf]; omega
                        · have r1 : decide (z < x) = false := by simpa using hzx
                          have r2 : decide (v < y) = false := by
                            simp only [decide_eq_false_iff_not]
                            exact fun h => hzx (hol.1 h)
                          clear hol hzx
                          go_wp2
                          go_quiet (fail)
                          have HF7 : Hid (Fr [] w4 (wr.drewN nq)) := hFj.out.drewN _
                          generalize wr.drewN nq = w7 at *
                          clear d1 d2 d3 d4
                          go_wp2
                          go_roundw
                          case rel => exact ⟨j + 1, by omega, by go_num, HF7⟩
                          case measure => simp [intOf]; omega
                  · have hji : j = i := by omega
                    subst hji
                    have hjd : decide (j < j) = false := by simp
                    go_wp2
                    go_roundw
                    case rel => exact ⟨j + 1, by omega, by go_num, hFj⟩
                    case measure => simp [intOf]; omega
          · go_wp2
            go_ret
            exact ⟨rfl, HE4.out.trans hFi.out⟩
  · have HF2 := Lib.hid hF2
    clear hld hF2
    go_wp2_with fail
    go_ret
    exact ⟨rfl, HF1.out.trans HF2.out⟩
end Go.Proofs.YtninigdcpeijhaaDoor
