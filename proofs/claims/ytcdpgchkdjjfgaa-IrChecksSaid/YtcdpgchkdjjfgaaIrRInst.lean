/- The document's instruction. (written by genrinst.py) -/
import Derived.Test.YtcdpgchkdjjfgaaIrSrcs
import Derived.Test.YtcdpgchkdjjfgaaIrIns
import Derived.Deep.RegionHeld3
import Derived.IntWalk
namespace Go.Proofs.Ytcdpgchkdjjfgaa
open Go.RowKit

set_option maxRecDepth 100000 in
set_option maxHeartbeats 8000000 in
theorem r11_instruction (u : Un) (i : Ii) (w : World) (hI : IB i) (h : SrcsAt w i.la i.l) (hS : 0 ≤ u.sites ∧ u.sites ≤ 128) (hM : 0 ≤ (u.maps.length : Int) ∧ (u.maps.length : Int) ≤ 128) : Calls Try.prog 33 #[u.v, i.v] w (Still (.bool (insOk u.regs u.spills u.sites u.maps.length i)) w) := by
  have ht := fun W => r11_Takes i.op W
  have HSO : Hid (∀ s W, Calls Try.prog 32 #[u.v, s.v] W (Still (.bool (srcOk u.regs u.spills s)) W)) := Lib.hid (fun s W => r11_source u s W)
  have hl := fun W => r11_Leaves i.op W
  have hp := fun W => r11_Place i.d W
  have hd := fun W => r11_source u i.d W
  have HX0 : Hid (iodd i.w = false → ∀ W, Calls Try.prog 43 #[.int .u64 i.w] W (Gives (.tuple #[.int .i64 0, .int .i64 1]) W)) := Lib.hid fun ho W => irInt_no i.w W hI.w ho
  have HX1 : Hid (iodd i.w = true → ∀ W, Calls Try.prog 43 #[.int .u64 i.w] W (Gives (.tuple #[.int .i64 (inum i.w), .int .i64 0]) W)) := Lib.hid fun ho W => irInt_yes i.w W hI.w ho
  have HX2 : Hid (iodd i.w = true → ((0 ≤ inum i.w ∧ inum i.w ≤ 1) ↔ (i.w = 1 ∨ i.w = 3))) := Lib.hid fun ho => inum01 hI.w ho
  have HO : Hid (insOk u.regs u.spills u.sites u.maps.length i = (wtn i.l.length (lst i.op) (mst i.op) && i.l.all (srcOk u.regs u.spills) && resOk u.regs u.spills i && wtn i.n 0 (grt u.sites u.maps.length i.op) && wrdOk i)) := Lib.hid rfl
  have HRS : Hid (resOk u.regs u.spills i = if lvs i.op = true then plc i.d && srcOk u.regs u.spills i.d else decide (i.d = zeroS)) := Lib.hid rfl
  generalize insOk u.regs u.spills u.sites u.maps.length i = ok at *
  generalize resOk u.regs u.spills i = b3 at *
  have hll := hI.n
  obtain ⟨op, n, ⟨dk, dn, dw⟩, la, l, lc, x⟩ := i
  obtain ⟨method, args, T, R, P, S, ea, en, ec, ca, co, cc, sa, st, sc, ma, mp, mc⟩ := u
  unfold Un.v Ii.v at *
  simp only [Sr.v, zeroS, Sr.mk.injEq] at ht HSO hl hp hd HX0 HX1 HX2 HO HRS hS hM h hll ⊢
  obtain ⟨s0, s1⟩ := hS
  obtain ⟨m0, m1⟩ := hM
  generalize en.length = el at *
  generalize co.length = cl at *
  generalize st.length = sl at *
  generalize mp.length = ml at *
  obtain ⟨ll, hlen⟩ : ∃ n, n = l.length := ⟨_, rfl⟩
  rw [← hlen] at hll HO ⊢
  have HLL := Lib.hid hlen
  have HA := Lib.hid h
  clear h hlen hI
  by_cases hb1 : lst op ≤ (ll : Int) ∧ (ll : Int) ≤ mst op
  · obtain ⟨hb1a, hb1b⟩ := hb1
    have HO1 : Hid (ok = (l.all (srcOk R P) && b3 && wtn n 0 (grt S ml op) && wrdOk ⟨op, n, ⟨dk, dn, dw⟩, la, l, lc, x⟩)) := Lib.hid (by
      rw [HO.out]; unfold wtn; simp [hb1a, hb1b])
    have HOP : Hid (op = 1 ∨ op = 2 ∨ op = 3 ∨ op = 4 ∨ op = 5 ∨ op = 6 ∨ op = 7 ∨ op = 8 ∨ op = 9) := Lib.hid (by
      rcases op_cases op with h | h
      · rw [(op_none h).2.1] at hb1b; omega
      · exact h)
    have HGT : Hid (∀ b, op = b → grt S ml op = grt S ml b) := Lib.hid (fun b h => by rw [h])
    have hb2a : decide ((ll : Int) < lst op) = false := by simp; omega
    have hb2b : decide (mst op < (ll : Int)) = false := by simp; omega
    clear HO
    have HT := Lib.hid ht
    have HBA := Lib.hid (And.intro hb1a hb1b)
    clear ht hb1a hb1b
    go_enter Try.func33, Try.ntmps33
    go_wp2_with (go_at_call 11; refine (HT.out _).mono ?_; rintro e w' ⟨rfl, rfl⟩)
    go_loopw [7] (fun i wr => ∃ k : Nat, k ≤ ll ∧ i = .int .i64 k ∧ Hid (Fr [] w wr) ∧ Hid (wr.heap[w.heap.size]? = some (.cells #[.int .u64 method, .int .i64 args, .int .i64 T, .int .i64 R, .int .i64 P, .int .i64 S, .slice ea el ec, .slice ca cl cc, .slice sa sl sc, .slice ma ml mc] 43)) ∧ Hid (wr.heap[w.heap.size + 1]? = some (.cells #[.int .i64 op, .int .i64 n, .int .i64 dk, .int .i64 dn, .int .u64 dw, .slice la ll lc, .int .u64 x] 28)) ∧ Hid ((l.take k).all (srcOk R P) = true)) (fun i _ => ll - (intOf i).toNat)
    case atStart => exact ⟨0, Nat.zero_le _, rfl, ((Fr.refl [] w).alloc _).alloc _, hp1 _ _ _, hp2 _ _ _, Lib.hid (by simp)⟩
    case round =>
      clear hb2a hb2b
      obtain ⟨k, hk, rfl, HF, HB, HI, HTT⟩ := hrel
      have hw0 : w.heap.size < wr.heap.size := lt_of_heap HB.out
      have hw1 : w.heap.size + 1 < wr.heap.size := lt_of_heap HI.out
      by_cases hlt : k < ll
      · have hkl : k < l.length := by rw [← HLL.out]; exact hlt
        obtain ⟨s, hs⟩ : ∃ s, l[k]? = some s := ⟨_, List.getElem?_eq_getElem hkl⟩
        obtain ⟨g, o, rfl, c0, c1, c2⟩ := (HA.out.fr HF.out) k s hs
        have hc := HSO.out s
        have HY := Lib.hid (fun hp => all_snoc hs HTT.out (p := srcOk R P) hp)
        have HNO := Lib.hid (fun hp => all_no (p := srcOk R P) hs hp)
        obtain ⟨b, hb⟩ : ∃ b, b = srcOk R P s := ⟨_, rfl⟩
        simp only [← hb] at hc HY HNO
        have k0 : (0 : Int) ≤ (k : Int) := by omega
        have k1 : (k : Int) < (ll : Int) := by omega
        have b0 := cell_of_heap (o := 0) HB.out rfl; have b1 := cell_of_heap (o := 1) HB.out rfl; have b2 := cell_of_heap (o := 2) HB.out rfl; have b3 := cell_of_heap (o := 3) HB.out rfl; have b4 := cell_of_heap (o := 4) HB.out rfl; have b5 := cell_of_heap (o := 5) HB.out rfl; have b6 := cell_of_heap (o := 6) HB.out rfl; have b7 := cell_of_heap (o := 7) HB.out rfl; have b8 := cell_of_heap (o := 8) HB.out rfl; have b9 := cell_of_heap (o := 9) HB.out rfl
        have r0 := cell_of_heap (o := 0) HI.out rfl; have r1 := cell_of_heap (o := 1) HI.out rfl; have r2 := cell_of_heap (o := 2) HI.out rfl; have r3 := cell_of_heap (o := 3) HI.out rfl; have r4 := cell_of_heap (o := 4) HI.out rfl; have r5 := cell_of_heap (o := 5) HI.out rfl; have r6 := cell_of_heap (o := 6) HI.out rfl
        have hg : g < wr.heap.size := World.block_lt_of_cell? wr _ c0
        clear hb hkl hs
        cases b
        · have HE : Hid (ok = false) := Lib.hid (by rw [HO1.out, HNO.out rfl]; simp)
          clear HNO HY
          go_wp2_with fail
          go_region_held3 (fun w' => w'.cell? ⟨w.heap.size, 0, none⟩ = some (.int .u64 method) ∧ w'.cell? ⟨w.heap.size, 1, none⟩ = some (.int .i64 args) ∧ w'.cell? ⟨w.heap.size, 2, none⟩ = some (.int .i64 T) ∧ w'.cell? ⟨w.heap.size, 3, none⟩ = some (.int .i64 R) ∧ w'.cell? ⟨w.heap.size, 4, none⟩ = some (.int .i64 P) ∧ w'.cell? ⟨w.heap.size, 5, none⟩ = some (.int .i64 S) ∧ w'.cell? ⟨w.heap.size, 6, none⟩ = some (.slice ea el ec) ∧ w'.cell? ⟨w.heap.size, 7, none⟩ = some (.slice ca cl cc) ∧ w'.cell? ⟨w.heap.size, 8, none⟩ = some (.slice sa sl sc) ∧ w'.cell? ⟨w.heap.size, 9, none⟩ = some (.slice ma ml mc) ∧ w'.cell? ⟨w.heap.size + 1, 5, none⟩ = some (.slice (some ⟨g, o, none⟩) ll lc) ∧ w'.cell? ⟨g, o + k * 3, none⟩ = some (.int .i64 s.kind) ∧ w'.cell? ⟨g, o + k * 3 + 1, none⟩ = some (.int .i64 s.n) ∧ w'.cell? ⟨g, o + k * 3 + 2, none⟩ = some (.int .u64 s.w))
            (first | exact ⟨HF2.out.cell (by simp) b0, HF2.out.cell (by simp) b1, HF2.out.cell (by simp) b2, HF2.out.cell (by simp) b3, HF2.out.cell (by simp) b4, HF2.out.cell (by simp) b5, HF2.out.cell (by simp) b6, HF2.out.cell (by simp) b7, HF2.out.cell (by simp) b8, HF2.out.cell (by simp) b9, HF2.out.cell (by simp) r5, HF2.out.cell (by simp) c0, HF2.out.cell (by simp) c1, HF2.out.cell (by simp) c2⟩ | go_keep)
            ((go_at_call 32; (with_reducible refine (hc _).mono ?_); rintro e w2 ⟨rfl, hF⟩; have HF2 : Hid (Fr [] wr w2) := Lib.hid ((Fr.refl [] wr).drew.trans hF); clear hF))
          go_wp2_with fail
          go_ret
          exact ⟨ret1 (vb HE.out.symm), HF.out.trans HF2.out⟩
        · have HE := Lib.hid (HY.out rfl)
          clear HNO HY
          go_wp2_with fail
          go_region_held3 (fun w' => w'.cell? ⟨w.heap.size, 0, none⟩ = some (.int .u64 method) ∧ w'.cell? ⟨w.heap.size, 1, none⟩ = some (.int .i64 args) ∧ w'.cell? ⟨w.heap.size, 2, none⟩ = some (.int .i64 T) ∧ w'.cell? ⟨w.heap.size, 3, none⟩ = some (.int .i64 R) ∧ w'.cell? ⟨w.heap.size, 4, none⟩ = some (.int .i64 P) ∧ w'.cell? ⟨w.heap.size, 5, none⟩ = some (.int .i64 S) ∧ w'.cell? ⟨w.heap.size, 6, none⟩ = some (.slice ea el ec) ∧ w'.cell? ⟨w.heap.size, 7, none⟩ = some (.slice ca cl cc) ∧ w'.cell? ⟨w.heap.size, 8, none⟩ = some (.slice sa sl sc) ∧ w'.cell? ⟨w.heap.size, 9, none⟩ = some (.slice ma ml mc) ∧ w'.cell? ⟨w.heap.size + 1, 5, none⟩ = some (.slice (some ⟨g, o, none⟩) ll lc) ∧ w'.cell? ⟨g, o + k * 3, none⟩ = some (.int .i64 s.kind) ∧ w'.cell? ⟨g, o + k * 3 + 1, none⟩ = some (.int .i64 s.n) ∧ w'.cell? ⟨g, o + k * 3 + 2, none⟩ = some (.int .u64 s.w))
            (first | exact ⟨HF2.out.cell (by simp) b0, HF2.out.cell (by simp) b1, HF2.out.cell (by simp) b2, HF2.out.cell (by simp) b3, HF2.out.cell (by simp) b4, HF2.out.cell (by simp) b5, HF2.out.cell (by simp) b6, HF2.out.cell (by simp) b7, HF2.out.cell (by simp) b8, HF2.out.cell (by simp) b9, HF2.out.cell (by simp) r5, HF2.out.cell (by simp) c0, HF2.out.cell (by simp) c1, HF2.out.cell (by simp) c2⟩ | go_keep)
            ((go_at_call 32; (with_reducible refine (hc _).mono ?_); rintro e w2 ⟨rfl, hF⟩; have HF2 : Hid (Fr [] wr w2) := Lib.hid ((Fr.refl [] wr).drew.trans hF); clear hF))
          go_wp2_with fail
          go_roundw
          case rel => exact ⟨k + 1, by omega, by go_num, HF.out.trans HF2.out, HF2.out.heap (by simp) HB.out, HF2.out.heap (by simp) HI.out, HE⟩
          case measure => simp [intOf]; omega
      · have hkn : k = ll := by omega
        have HE := Lib.hid (all_end HTT.out (hkn.trans HLL.out))
        have HO2 : Hid (ok = (b3 && wtn n 0 (grt S ml op) && wrdOk ⟨op, n, ⟨dk, dn, dw⟩, la, l, lc, x⟩)) := Lib.hid (by rw [HO1.out, HE.out]; simp)
        have hkd : ¬ (k : Int) < (ll : Int) := by omega
        have b0 := cell_of_heap (o := 0) HB.out rfl; have b1 := cell_of_heap (o := 1) HB.out rfl; have b2 := cell_of_heap (o := 2) HB.out rfl; have b3 := cell_of_heap (o := 3) HB.out rfl; have b4 := cell_of_heap (o := 4) HB.out rfl; have b5 := cell_of_heap (o := 5) HB.out rfl; have b6 := cell_of_heap (o := 6) HB.out rfl; have b7 := cell_of_heap (o := 7) HB.out rfl; have b8 := cell_of_heap (o := 8) HB.out rfl; have b9 := cell_of_heap (o := 9) HB.out rfl
        have r0 := cell_of_heap (o := 0) HI.out rfl; have r1 := cell_of_heap (o := 1) HI.out rfl; have r2 := cell_of_heap (o := 2) HI.out rfl; have r3 := cell_of_heap (o := 3) HI.out rfl; have r4 := cell_of_heap (o := 4) HI.out rfl; have r5 := cell_of_heap (o := 5) HI.out rfl; have r6 := cell_of_heap (o := 6) HI.out rfl
        clear hkn hlt HE HO1 HTT HSO
        cases hlv : lvs op
        · simp only [hlv] at hl
          have HD := Lib.hid HRS.out
          rw [hlv, if_neg (by simp)] at HD
          by_cases hz : dk = 0 ∧ dn = 0 ∧ dw = 0
          · obtain ⟨rfl, rfl, rfl⟩ := hz
            have HO3 : Hid (ok = (wtn n 0 (grt S ml op) && wrdOk ⟨op, n, ⟨0, 0, 0⟩, la, l, lc, x⟩)) := Lib.hid (by rw [HO2.out, HD.out]; simp)
            have hop : op = 4 ∨ op = 5 ∨ op = 6 ∨ op = 8 ∨ op = 9 := by
              have h1 := HOP.out
              simp [lvs] at hlv
              omega
            clear HO2 HD HRS HOP hlv HGT HBA
            rcases hop with rfl | rfl | rfl | rfl | rfl
            · cases hio : iodd x
              · have hx := HX0.out hio
                clear hio HX0 HX1 HX2
                have HV : Hid (ok = decide ((0 ≤ n ∧ n ≤ 4095) ∧ x = 0)) := Lib.hid (by rw [HO3.out, Bool.eq_iff_iff]; simp [wtn, grt, wrdOk])
                clear HO3
                go_wp2_with (first
                  | (go_at_call 15; refine (hl _).mono ?_; rintro e w' ⟨rfl, rfl⟩)
                  | (go_at_call 43; refine (hx _).mono ?_; rintro e w' ⟨rfl, rfl⟩))
                all_goals (go_ret; exact ⟨ret1 (vb (by have hv := HV.out; rw [hv, Bool.eq_iff_iff]; first | (simp; done) | (simp; omega) | (simp at *; omega))), HF.out⟩)
              · have hx := HX1.out hio
                clear hio HX0 HX1 HX2
                have HV : Hid (ok = decide ((0 ≤ n ∧ n ≤ 4095) ∧ x = 0)) := Lib.hid (by rw [HO3.out, Bool.eq_iff_iff]; simp [wtn, grt, wrdOk])
                clear HO3
                go_wp2_with (first
                  | (go_at_call 15; refine (hl _).mono ?_; rintro e w' ⟨rfl, rfl⟩)
                  | (go_at_call 43; refine (hx _).mono ?_; rintro e w' ⟨rfl, rfl⟩))
                all_goals (go_ret; exact ⟨ret1 (vb (by have hv := HV.out; rw [hv, Bool.eq_iff_iff]; first | (simp; done) | (simp; omega) | (simp at *; omega))), HF.out⟩)
            · cases hio : iodd x
              · have hx := HX0.out hio
                clear hio HX0 HX1 HX2
                have HV : Hid (ok = decide ((0 ≤ n ∧ n ≤ (ml : Int) - 1) ∧ x = 0)) := Lib.hid (by rw [HO3.out, Bool.eq_iff_iff]; simp [wtn, grt, wrdOk])
                have e1 : IntKind.i64.wrap ((ml : Int) - 1) = (ml : Int) - 1 := IntWalk.i64_in _ (by omega)
                clear HO3
                go_wp2_with (first
                  | (go_at_call 15; refine (hl _).mono ?_; rintro e w' ⟨rfl, rfl⟩)
                  | (go_at_call 43; refine (hx _).mono ?_; rintro e w' ⟨rfl, rfl⟩))
                all_goals (go_ret; exact ⟨ret1 (vb (by have hv := HV.out; rw [hv, Bool.eq_iff_iff]; first | (simp; done) | (simp; omega) | (simp at *; omega))), HF.out⟩)
              · have hx := HX1.out hio
                clear hio HX0 HX1 HX2
                have HV : Hid (ok = decide ((0 ≤ n ∧ n ≤ (ml : Int) - 1) ∧ x = 0)) := Lib.hid (by rw [HO3.out, Bool.eq_iff_iff]; simp [wtn, grt, wrdOk])
                have e1 : IntKind.i64.wrap ((ml : Int) - 1) = (ml : Int) - 1 := IntWalk.i64_in _ (by omega)
                clear HO3
                go_wp2_with (first
                  | (go_at_call 15; refine (hl _).mono ?_; rintro e w' ⟨rfl, rfl⟩)
                  | (go_at_call 43; refine (hx _).mono ?_; rintro e w' ⟨rfl, rfl⟩))
                all_goals (go_ret; exact ⟨ret1 (vb (by have hv := HV.out; rw [hv, Bool.eq_iff_iff]; first | (simp; done) | (simp; omega) | (simp at *; omega))), HF.out⟩)
            · cases hio : iodd x
              · have hx := HX0.out hio
                have HXO : Hid (¬ (x = 1 ∨ x = 3)) := Lib.hid (by simp [iodd] at hio; omega)
                clear hio HX0 HX1 HX2
                have HV : Hid (ok = decide ((0 ≤ n ∧ n ≤ (ml : Int) - 1) ∧ (x = 1 ∨ x = 3))) := Lib.hid (by rw [HO3.out, Bool.eq_iff_iff]; simp [wtn, grt, wrdOk])
                have e1 : IntKind.i64.wrap ((ml : Int) - 1) = (ml : Int) - 1 := IntWalk.i64_in _ (by omega)
                clear HO3
                go_wp2_with (first
                  | (go_at_call 15; refine (hl _).mono ?_; rintro e w' ⟨rfl, rfl⟩)
                  | (go_at_call 43; refine (hx _).mono ?_; rintro e w' ⟨rfl, rfl⟩))
                all_goals (go_ret; exact ⟨ret1 (vb (by have hv := HV.out; have hi := HXO.out; rw [hv, Bool.eq_iff_iff]; first | (simp; done) | (simp; omega) | (simp at *; omega))), HF.out⟩)
              · have hx := HX1.out hio
                have HX3 := Lib.hid (HX2.out hio)
                clear hio HX0 HX1 HX2
                have HV : Hid (ok = decide ((0 ≤ n ∧ n ≤ (ml : Int) - 1) ∧ (x = 1 ∨ x = 3))) := Lib.hid (by rw [HO3.out, Bool.eq_iff_iff]; simp [wtn, grt, wrdOk])
                have e1 : IntKind.i64.wrap ((ml : Int) - 1) = (ml : Int) - 1 := IntWalk.i64_in _ (by omega)
                clear HO3
                go_wp2_with (first
                  | (go_at_call 15; refine (hl _).mono ?_; rintro e w' ⟨rfl, rfl⟩)
                  | (go_at_call 43; refine (hx _).mono ?_; rintro e w' ⟨rfl, rfl⟩))
                all_goals (go_ret; exact ⟨ret1 (vb (by have hv := HV.out; have hi := HX3.out; rw [hv, Bool.eq_iff_iff]; first | (simp; done) | (simp; omega) | (simp at *; omega))), HF.out⟩)
            · cases hio : iodd x
              · have hx := HX0.out hio
                clear hio HX0 HX1 HX2
                have HV : Hid (ok = decide ((0 ≤ n ∧ n ≤ 0) ∧ x = 0)) := Lib.hid (by rw [HO3.out, Bool.eq_iff_iff]; simp [wtn, grt, wrdOk])
                clear HO3
                go_wp2_with (first
                  | (go_at_call 15; refine (hl _).mono ?_; rintro e w' ⟨rfl, rfl⟩)
                  | (go_at_call 43; refine (hx _).mono ?_; rintro e w' ⟨rfl, rfl⟩))
                all_goals (go_ret; exact ⟨ret1 (vb (by have hv := HV.out; rw [hv, Bool.eq_iff_iff]; first | (simp; done) | (simp; omega) | (simp at *; omega))), HF.out⟩)
              · have hx := HX1.out hio
                clear hio HX0 HX1 HX2
                have HV : Hid (ok = decide ((0 ≤ n ∧ n ≤ 0) ∧ x = 0)) := Lib.hid (by rw [HO3.out, Bool.eq_iff_iff]; simp [wtn, grt, wrdOk])
                clear HO3
                go_wp2_with (first
                  | (go_at_call 15; refine (hl _).mono ?_; rintro e w' ⟨rfl, rfl⟩)
                  | (go_at_call 43; refine (hx _).mono ?_; rintro e w' ⟨rfl, rfl⟩))
                all_goals (go_ret; exact ⟨ret1 (vb (by have hv := HV.out; rw [hv, Bool.eq_iff_iff]; first | (simp; done) | (simp; omega) | (simp at *; omega))), HF.out⟩)
            · cases hio : iodd x
              · have hx := HX0.out hio
                clear hio HX0 HX1 HX2
                have HV : Hid (ok = decide ((0 ≤ n ∧ n ≤ 0) ∧ x = 0)) := Lib.hid (by rw [HO3.out, Bool.eq_iff_iff]; simp [wtn, grt, wrdOk])
                clear HO3
                go_wp2_with (first
                  | (go_at_call 15; refine (hl _).mono ?_; rintro e w' ⟨rfl, rfl⟩)
                  | (go_at_call 43; refine (hx _).mono ?_; rintro e w' ⟨rfl, rfl⟩))
                all_goals (go_ret; exact ⟨ret1 (vb (by have hv := HV.out; rw [hv, Bool.eq_iff_iff]; first | (simp; done) | (simp; omega) | (simp at *; omega))), HF.out⟩)
              · have hx := HX1.out hio
                clear hio HX0 HX1 HX2
                have HV : Hid (ok = decide ((0 ≤ n ∧ n ≤ 0) ∧ x = 0)) := Lib.hid (by rw [HO3.out, Bool.eq_iff_iff]; simp [wtn, grt, wrdOk])
                clear HO3
                go_wp2_with (first
                  | (go_at_call 15; refine (hl _).mono ?_; rintro e w' ⟨rfl, rfl⟩)
                  | (go_at_call 43; refine (hx _).mono ?_; rintro e w' ⟨rfl, rfl⟩))
                all_goals (go_ret; exact ⟨ret1 (vb (by have hv := HV.out; rw [hv, Bool.eq_iff_iff]; first | (simp; done) | (simp; omega) | (simp at *; omega))), HF.out⟩)
          · have HV : Hid (ok = false) := Lib.hid (by rw [HO2.out, HD.out]; simp [hz])
            have hzz : (dk == 0) = false ∨ dk = 0 ∧ (dn == 0) = false ∨ dk = 0 ∧ dn = 0 ∧ (dw == 0) = false := by simp; omega
            clear HO2 HD HRS HOP hlv HGT HBA hz
            rcases hzz with hz | ⟨rfl, hz⟩ | ⟨rfl, rfl, hz⟩
            all_goals
              go_wp2_with (first | (go_at_call 15; refine (hl _).mono ?_; rintro e w' ⟨rfl, rfl⟩))
              go_ret
              exact ⟨ret1 (vb HV.out.symm), HF.out⟩
        · simp only [hlv] at hl
          have HD := Lib.hid HRS.out
          rw [hlv, if_pos rfl] at HD
          generalize plc ⟨dk, dn, dw⟩ = pl at *
          generalize srcOk R P ⟨dk, dn, dw⟩ = so at *
          cases pl
          · have HV : Hid (ok = false) := Lib.hid (by rw [HO2.out, HD.out]; simp)
            clear HO2 HD HRS HOP hlv HGT HBA
            go_wp2_with (first
              | (go_at_call 15; refine (hl _).mono ?_; rintro e w' ⟨rfl, rfl⟩)
              | (go_at_call 17; refine (hp _).mono ?_; rintro e w2 ⟨rfl, hF⟩; have HF2 : Hid (Fr [] wr w2) := Lib.hid hF; have HB2 := Lib.hid (hF.heap (by simp) HB.out); have HI2 := Lib.hid (hF.heap (by simp) HI.out); have d0 := cell_of_heap (o := 0) HB2.out rfl; have d1 := cell_of_heap (o := 1) HB2.out rfl; have d2 := cell_of_heap (o := 2) HB2.out rfl; have d3 := cell_of_heap (o := 3) HB2.out rfl; have d4 := cell_of_heap (o := 4) HB2.out rfl; have d5 := cell_of_heap (o := 5) HB2.out rfl; have d6 := cell_of_heap (o := 6) HB2.out rfl; have d7 := cell_of_heap (o := 7) HB2.out rfl; have d8 := cell_of_heap (o := 8) HB2.out rfl; have d9 := cell_of_heap (o := 9) HB2.out rfl; have q0 := cell_of_heap (o := 0) HI2.out rfl; have q1 := cell_of_heap (o := 1) HI2.out rfl; have q2 := cell_of_heap (o := 2) HI2.out rfl; have q3 := cell_of_heap (o := 3) HI2.out rfl; have q4 := cell_of_heap (o := 4) HI2.out rfl; have q5 := cell_of_heap (o := 5) HI2.out rfl; have q6 := cell_of_heap (o := 6) HI2.out rfl; have hw2 := lt_of_heap HI2.out; clear hF))
            go_ret
            exact ⟨ret1 (vb HV.out.symm), HF.out.trans HF2.out⟩
          · cases so
            · have HV : Hid (ok = false) := Lib.hid (by rw [HO2.out, HD.out]; simp)
              clear HO2 HD HRS HOP hlv HGT HBA
              go_wp2_with (first
                | (go_at_call 15; refine (hl _).mono ?_; rintro e w' ⟨rfl, rfl⟩)
                | (go_at_call 17; refine (hp _).mono ?_; rintro e w2 ⟨rfl, hF⟩; have HF2 : Hid (Fr [] wr w2) := Lib.hid hF; have HB2 := Lib.hid (hF.heap (by simp) HB.out); have HI2 := Lib.hid (hF.heap (by simp) HI.out); have d0 := cell_of_heap (o := 0) HB2.out rfl; have d1 := cell_of_heap (o := 1) HB2.out rfl; have d2 := cell_of_heap (o := 2) HB2.out rfl; have d3 := cell_of_heap (o := 3) HB2.out rfl; have d4 := cell_of_heap (o := 4) HB2.out rfl; have d5 := cell_of_heap (o := 5) HB2.out rfl; have d6 := cell_of_heap (o := 6) HB2.out rfl; have d7 := cell_of_heap (o := 7) HB2.out rfl; have d8 := cell_of_heap (o := 8) HB2.out rfl; have d9 := cell_of_heap (o := 9) HB2.out rfl; have q0 := cell_of_heap (o := 0) HI2.out rfl; have q1 := cell_of_heap (o := 1) HI2.out rfl; have q2 := cell_of_heap (o := 2) HI2.out rfl; have q3 := cell_of_heap (o := 3) HI2.out rfl; have q4 := cell_of_heap (o := 4) HI2.out rfl; have q5 := cell_of_heap (o := 5) HI2.out rfl; have q6 := cell_of_heap (o := 6) HI2.out rfl; have hw2 := lt_of_heap HI2.out; clear hF)
                | (go_at_call 32; refine (hd _).mono ?_; rintro e w3 ⟨rfl, hF⟩; have HF3 : Hid (Fr [] wr w3) := Lib.hid (HF2.out.trans hF); have HB3 := Lib.hid (hF.heap (by simp) HB2.out); have HI3 := Lib.hid (hF.heap (by simp) HI2.out); have m0 := cell_of_heap (o := 0) HB3.out rfl; have m1 := cell_of_heap (o := 1) HB3.out rfl; have m2 := cell_of_heap (o := 2) HB3.out rfl; have m3 := cell_of_heap (o := 3) HB3.out rfl; have m4 := cell_of_heap (o := 4) HB3.out rfl; have m5 := cell_of_heap (o := 5) HB3.out rfl; have m6 := cell_of_heap (o := 6) HB3.out rfl; have m7 := cell_of_heap (o := 7) HB3.out rfl; have m8 := cell_of_heap (o := 8) HB3.out rfl; have m9 := cell_of_heap (o := 9) HB3.out rfl; have p0 := cell_of_heap (o := 0) HI3.out rfl; have p1 := cell_of_heap (o := 1) HI3.out rfl; have p2 := cell_of_heap (o := 2) HI3.out rfl; have p3 := cell_of_heap (o := 3) HI3.out rfl; have p4 := cell_of_heap (o := 4) HI3.out rfl; have p5 := cell_of_heap (o := 5) HI3.out rfl; have p6 := cell_of_heap (o := 6) HI3.out rfl; have hw3 := lt_of_heap HI3.out; clear hF))
              go_ret
              exact ⟨ret1 (vb HV.out.symm), HF.out.trans HF3.out⟩
            · have HO3 : Hid (ok = (wtn n 0 (grt S ml op) && wrdOk ⟨op, n, ⟨dk, dn, dw⟩, la, l, lc, x⟩)) := Lib.hid (by rw [HO2.out, HD.out]; simp)
              have hop : op = 1 ∨ op = 2 ∨ op = 3 ∨ op = 7 := by simpa [lvs] using hlv
              clear HO2 HD HRS HOP hlv HGT HBA
              rcases hop with rfl | rfl | rfl | rfl
              · cases hio : iodd x
                · have hx := HX0.out hio
                  clear hio HX0 HX1 HX2
                  have HV : Hid (ok = decide ((0 ≤ n ∧ n ≤ 0) ∧ x = 0)) := Lib.hid (by rw [HO3.out, Bool.eq_iff_iff]; simp [wtn, grt, wrdOk])
                  clear HO3
                  go_wp2_with (first
                    | (go_at_call 15; refine (hl _).mono ?_; rintro e w' ⟨rfl, rfl⟩)
                    | (go_at_call 43; refine (hx _).mono ?_; rintro e w' ⟨rfl, rfl⟩)
                    | (go_at_call 17; refine (hp _).mono ?_; rintro e w2 ⟨rfl, hF⟩; have HF2 : Hid (Fr [] wr w2) := Lib.hid hF; have HB2 := Lib.hid (hF.heap (by simp) HB.out); have HI2 := Lib.hid (hF.heap (by simp) HI.out); have d0 := cell_of_heap (o := 0) HB2.out rfl; have d1 := cell_of_heap (o := 1) HB2.out rfl; have d2 := cell_of_heap (o := 2) HB2.out rfl; have d3 := cell_of_heap (o := 3) HB2.out rfl; have d4 := cell_of_heap (o := 4) HB2.out rfl; have d5 := cell_of_heap (o := 5) HB2.out rfl; have d6 := cell_of_heap (o := 6) HB2.out rfl; have d7 := cell_of_heap (o := 7) HB2.out rfl; have d8 := cell_of_heap (o := 8) HB2.out rfl; have d9 := cell_of_heap (o := 9) HB2.out rfl; have q0 := cell_of_heap (o := 0) HI2.out rfl; have q1 := cell_of_heap (o := 1) HI2.out rfl; have q2 := cell_of_heap (o := 2) HI2.out rfl; have q3 := cell_of_heap (o := 3) HI2.out rfl; have q4 := cell_of_heap (o := 4) HI2.out rfl; have q5 := cell_of_heap (o := 5) HI2.out rfl; have q6 := cell_of_heap (o := 6) HI2.out rfl; have hw2 := lt_of_heap HI2.out; clear hF)
                    | (go_at_call 32; refine (hd _).mono ?_; rintro e w3 ⟨rfl, hF⟩; have HF3 : Hid (Fr [] wr w3) := Lib.hid (HF2.out.trans hF); have HB3 := Lib.hid (hF.heap (by simp) HB2.out); have HI3 := Lib.hid (hF.heap (by simp) HI2.out); have m0 := cell_of_heap (o := 0) HB3.out rfl; have m1 := cell_of_heap (o := 1) HB3.out rfl; have m2 := cell_of_heap (o := 2) HB3.out rfl; have m3 := cell_of_heap (o := 3) HB3.out rfl; have m4 := cell_of_heap (o := 4) HB3.out rfl; have m5 := cell_of_heap (o := 5) HB3.out rfl; have m6 := cell_of_heap (o := 6) HB3.out rfl; have m7 := cell_of_heap (o := 7) HB3.out rfl; have m8 := cell_of_heap (o := 8) HB3.out rfl; have m9 := cell_of_heap (o := 9) HB3.out rfl; have p0 := cell_of_heap (o := 0) HI3.out rfl; have p1 := cell_of_heap (o := 1) HI3.out rfl; have p2 := cell_of_heap (o := 2) HI3.out rfl; have p3 := cell_of_heap (o := 3) HI3.out rfl; have p4 := cell_of_heap (o := 4) HI3.out rfl; have p5 := cell_of_heap (o := 5) HI3.out rfl; have p6 := cell_of_heap (o := 6) HI3.out rfl; have hw3 := lt_of_heap HI3.out; clear hF))
                  all_goals (go_ret; exact ⟨ret1 (vb (by have hv := HV.out; rw [hv, Bool.eq_iff_iff]; first | (simp; done) | (simp; omega) | (simp at *; omega))), HF.out.trans HF3.out⟩)
                · have hx := HX1.out hio
                  clear hio HX0 HX1 HX2
                  have HV : Hid (ok = decide ((0 ≤ n ∧ n ≤ 0) ∧ x = 0)) := Lib.hid (by rw [HO3.out, Bool.eq_iff_iff]; simp [wtn, grt, wrdOk])
                  clear HO3
                  go_wp2_with (first
                    | (go_at_call 15; refine (hl _).mono ?_; rintro e w' ⟨rfl, rfl⟩)
                    | (go_at_call 43; refine (hx _).mono ?_; rintro e w' ⟨rfl, rfl⟩)
                    | (go_at_call 17; refine (hp _).mono ?_; rintro e w2 ⟨rfl, hF⟩; have HF2 : Hid (Fr [] wr w2) := Lib.hid hF; have HB2 := Lib.hid (hF.heap (by simp) HB.out); have HI2 := Lib.hid (hF.heap (by simp) HI.out); have d0 := cell_of_heap (o := 0) HB2.out rfl; have d1 := cell_of_heap (o := 1) HB2.out rfl; have d2 := cell_of_heap (o := 2) HB2.out rfl; have d3 := cell_of_heap (o := 3) HB2.out rfl; have d4 := cell_of_heap (o := 4) HB2.out rfl; have d5 := cell_of_heap (o := 5) HB2.out rfl; have d6 := cell_of_heap (o := 6) HB2.out rfl; have d7 := cell_of_heap (o := 7) HB2.out rfl; have d8 := cell_of_heap (o := 8) HB2.out rfl; have d9 := cell_of_heap (o := 9) HB2.out rfl; have q0 := cell_of_heap (o := 0) HI2.out rfl; have q1 := cell_of_heap (o := 1) HI2.out rfl; have q2 := cell_of_heap (o := 2) HI2.out rfl; have q3 := cell_of_heap (o := 3) HI2.out rfl; have q4 := cell_of_heap (o := 4) HI2.out rfl; have q5 := cell_of_heap (o := 5) HI2.out rfl; have q6 := cell_of_heap (o := 6) HI2.out rfl; have hw2 := lt_of_heap HI2.out; clear hF)
                    | (go_at_call 32; refine (hd _).mono ?_; rintro e w3 ⟨rfl, hF⟩; have HF3 : Hid (Fr [] wr w3) := Lib.hid (HF2.out.trans hF); have HB3 := Lib.hid (hF.heap (by simp) HB2.out); have HI3 := Lib.hid (hF.heap (by simp) HI2.out); have m0 := cell_of_heap (o := 0) HB3.out rfl; have m1 := cell_of_heap (o := 1) HB3.out rfl; have m2 := cell_of_heap (o := 2) HB3.out rfl; have m3 := cell_of_heap (o := 3) HB3.out rfl; have m4 := cell_of_heap (o := 4) HB3.out rfl; have m5 := cell_of_heap (o := 5) HB3.out rfl; have m6 := cell_of_heap (o := 6) HB3.out rfl; have m7 := cell_of_heap (o := 7) HB3.out rfl; have m8 := cell_of_heap (o := 8) HB3.out rfl; have m9 := cell_of_heap (o := 9) HB3.out rfl; have p0 := cell_of_heap (o := 0) HI3.out rfl; have p1 := cell_of_heap (o := 1) HI3.out rfl; have p2 := cell_of_heap (o := 2) HI3.out rfl; have p3 := cell_of_heap (o := 3) HI3.out rfl; have p4 := cell_of_heap (o := 4) HI3.out rfl; have p5 := cell_of_heap (o := 5) HI3.out rfl; have p6 := cell_of_heap (o := 6) HI3.out rfl; have hw3 := lt_of_heap HI3.out; clear hF))
                  all_goals (go_ret; exact ⟨ret1 (vb (by have hv := HV.out; rw [hv, Bool.eq_iff_iff]; first | (simp; done) | (simp; omega) | (simp at *; omega))), HF.out.trans HF3.out⟩)
              · cases hio : iodd x
                · have hx := HX0.out hio
                  clear hio HX0 HX1 HX2
                  have HV : Hid (ok = decide ((0 ≤ n ∧ n ≤ 7) ∧ x = 0)) := Lib.hid (by rw [HO3.out, Bool.eq_iff_iff]; simp [wtn, grt, wrdOk])
                  clear HO3
                  go_wp2_with (first
                    | (go_at_call 15; refine (hl _).mono ?_; rintro e w' ⟨rfl, rfl⟩)
                    | (go_at_call 43; refine (hx _).mono ?_; rintro e w' ⟨rfl, rfl⟩)
                    | (go_at_call 17; refine (hp _).mono ?_; rintro e w2 ⟨rfl, hF⟩; have HF2 : Hid (Fr [] wr w2) := Lib.hid hF; have HB2 := Lib.hid (hF.heap (by simp) HB.out); have HI2 := Lib.hid (hF.heap (by simp) HI.out); have d0 := cell_of_heap (o := 0) HB2.out rfl; have d1 := cell_of_heap (o := 1) HB2.out rfl; have d2 := cell_of_heap (o := 2) HB2.out rfl; have d3 := cell_of_heap (o := 3) HB2.out rfl; have d4 := cell_of_heap (o := 4) HB2.out rfl; have d5 := cell_of_heap (o := 5) HB2.out rfl; have d6 := cell_of_heap (o := 6) HB2.out rfl; have d7 := cell_of_heap (o := 7) HB2.out rfl; have d8 := cell_of_heap (o := 8) HB2.out rfl; have d9 := cell_of_heap (o := 9) HB2.out rfl; have q0 := cell_of_heap (o := 0) HI2.out rfl; have q1 := cell_of_heap (o := 1) HI2.out rfl; have q2 := cell_of_heap (o := 2) HI2.out rfl; have q3 := cell_of_heap (o := 3) HI2.out rfl; have q4 := cell_of_heap (o := 4) HI2.out rfl; have q5 := cell_of_heap (o := 5) HI2.out rfl; have q6 := cell_of_heap (o := 6) HI2.out rfl; have hw2 := lt_of_heap HI2.out; clear hF)
                    | (go_at_call 32; refine (hd _).mono ?_; rintro e w3 ⟨rfl, hF⟩; have HF3 : Hid (Fr [] wr w3) := Lib.hid (HF2.out.trans hF); have HB3 := Lib.hid (hF.heap (by simp) HB2.out); have HI3 := Lib.hid (hF.heap (by simp) HI2.out); have m0 := cell_of_heap (o := 0) HB3.out rfl; have m1 := cell_of_heap (o := 1) HB3.out rfl; have m2 := cell_of_heap (o := 2) HB3.out rfl; have m3 := cell_of_heap (o := 3) HB3.out rfl; have m4 := cell_of_heap (o := 4) HB3.out rfl; have m5 := cell_of_heap (o := 5) HB3.out rfl; have m6 := cell_of_heap (o := 6) HB3.out rfl; have m7 := cell_of_heap (o := 7) HB3.out rfl; have m8 := cell_of_heap (o := 8) HB3.out rfl; have m9 := cell_of_heap (o := 9) HB3.out rfl; have p0 := cell_of_heap (o := 0) HI3.out rfl; have p1 := cell_of_heap (o := 1) HI3.out rfl; have p2 := cell_of_heap (o := 2) HI3.out rfl; have p3 := cell_of_heap (o := 3) HI3.out rfl; have p4 := cell_of_heap (o := 4) HI3.out rfl; have p5 := cell_of_heap (o := 5) HI3.out rfl; have p6 := cell_of_heap (o := 6) HI3.out rfl; have hw3 := lt_of_heap HI3.out; clear hF))
                  all_goals (go_ret; exact ⟨ret1 (vb (by have hv := HV.out; rw [hv, Bool.eq_iff_iff]; first | (simp; done) | (simp; omega) | (simp at *; omega))), HF.out.trans HF3.out⟩)
                · have hx := HX1.out hio
                  clear hio HX0 HX1 HX2
                  have HV : Hid (ok = decide ((0 ≤ n ∧ n ≤ 7) ∧ x = 0)) := Lib.hid (by rw [HO3.out, Bool.eq_iff_iff]; simp [wtn, grt, wrdOk])
                  clear HO3
                  go_wp2_with (first
                    | (go_at_call 15; refine (hl _).mono ?_; rintro e w' ⟨rfl, rfl⟩)
                    | (go_at_call 43; refine (hx _).mono ?_; rintro e w' ⟨rfl, rfl⟩)
                    | (go_at_call 17; refine (hp _).mono ?_; rintro e w2 ⟨rfl, hF⟩; have HF2 : Hid (Fr [] wr w2) := Lib.hid hF; have HB2 := Lib.hid (hF.heap (by simp) HB.out); have HI2 := Lib.hid (hF.heap (by simp) HI.out); have d0 := cell_of_heap (o := 0) HB2.out rfl; have d1 := cell_of_heap (o := 1) HB2.out rfl; have d2 := cell_of_heap (o := 2) HB2.out rfl; have d3 := cell_of_heap (o := 3) HB2.out rfl; have d4 := cell_of_heap (o := 4) HB2.out rfl; have d5 := cell_of_heap (o := 5) HB2.out rfl; have d6 := cell_of_heap (o := 6) HB2.out rfl; have d7 := cell_of_heap (o := 7) HB2.out rfl; have d8 := cell_of_heap (o := 8) HB2.out rfl; have d9 := cell_of_heap (o := 9) HB2.out rfl; have q0 := cell_of_heap (o := 0) HI2.out rfl; have q1 := cell_of_heap (o := 1) HI2.out rfl; have q2 := cell_of_heap (o := 2) HI2.out rfl; have q3 := cell_of_heap (o := 3) HI2.out rfl; have q4 := cell_of_heap (o := 4) HI2.out rfl; have q5 := cell_of_heap (o := 5) HI2.out rfl; have q6 := cell_of_heap (o := 6) HI2.out rfl; have hw2 := lt_of_heap HI2.out; clear hF)
                    | (go_at_call 32; refine (hd _).mono ?_; rintro e w3 ⟨rfl, hF⟩; have HF3 : Hid (Fr [] wr w3) := Lib.hid (HF2.out.trans hF); have HB3 := Lib.hid (hF.heap (by simp) HB2.out); have HI3 := Lib.hid (hF.heap (by simp) HI2.out); have m0 := cell_of_heap (o := 0) HB3.out rfl; have m1 := cell_of_heap (o := 1) HB3.out rfl; have m2 := cell_of_heap (o := 2) HB3.out rfl; have m3 := cell_of_heap (o := 3) HB3.out rfl; have m4 := cell_of_heap (o := 4) HB3.out rfl; have m5 := cell_of_heap (o := 5) HB3.out rfl; have m6 := cell_of_heap (o := 6) HB3.out rfl; have m7 := cell_of_heap (o := 7) HB3.out rfl; have m8 := cell_of_heap (o := 8) HB3.out rfl; have m9 := cell_of_heap (o := 9) HB3.out rfl; have p0 := cell_of_heap (o := 0) HI3.out rfl; have p1 := cell_of_heap (o := 1) HI3.out rfl; have p2 := cell_of_heap (o := 2) HI3.out rfl; have p3 := cell_of_heap (o := 3) HI3.out rfl; have p4 := cell_of_heap (o := 4) HI3.out rfl; have p5 := cell_of_heap (o := 5) HI3.out rfl; have p6 := cell_of_heap (o := 6) HI3.out rfl; have hw3 := lt_of_heap HI3.out; clear hF))
                  all_goals (go_ret; exact ⟨ret1 (vb (by have hv := HV.out; rw [hv, Bool.eq_iff_iff]; first | (simp; done) | (simp; omega) | (simp at *; omega))), HF.out.trans HF3.out⟩)
              · cases hio : iodd x
                · have hx := HX0.out hio
                  clear hio HX0 HX1 HX2
                  have HV : Hid (ok = decide ((0 ≤ n ∧ n ≤ 4095) ∧ x = 0)) := Lib.hid (by rw [HO3.out, Bool.eq_iff_iff]; simp [wtn, grt, wrdOk])
                  clear HO3
                  go_wp2_with (first
                    | (go_at_call 15; refine (hl _).mono ?_; rintro e w' ⟨rfl, rfl⟩)
                    | (go_at_call 43; refine (hx _).mono ?_; rintro e w' ⟨rfl, rfl⟩)
                    | (go_at_call 17; refine (hp _).mono ?_; rintro e w2 ⟨rfl, hF⟩; have HF2 : Hid (Fr [] wr w2) := Lib.hid hF; have HB2 := Lib.hid (hF.heap (by simp) HB.out); have HI2 := Lib.hid (hF.heap (by simp) HI.out); have d0 := cell_of_heap (o := 0) HB2.out rfl; have d1 := cell_of_heap (o := 1) HB2.out rfl; have d2 := cell_of_heap (o := 2) HB2.out rfl; have d3 := cell_of_heap (o := 3) HB2.out rfl; have d4 := cell_of_heap (o := 4) HB2.out rfl; have d5 := cell_of_heap (o := 5) HB2.out rfl; have d6 := cell_of_heap (o := 6) HB2.out rfl; have d7 := cell_of_heap (o := 7) HB2.out rfl; have d8 := cell_of_heap (o := 8) HB2.out rfl; have d9 := cell_of_heap (o := 9) HB2.out rfl; have q0 := cell_of_heap (o := 0) HI2.out rfl; have q1 := cell_of_heap (o := 1) HI2.out rfl; have q2 := cell_of_heap (o := 2) HI2.out rfl; have q3 := cell_of_heap (o := 3) HI2.out rfl; have q4 := cell_of_heap (o := 4) HI2.out rfl; have q5 := cell_of_heap (o := 5) HI2.out rfl; have q6 := cell_of_heap (o := 6) HI2.out rfl; have hw2 := lt_of_heap HI2.out; clear hF)
                    | (go_at_call 32; refine (hd _).mono ?_; rintro e w3 ⟨rfl, hF⟩; have HF3 : Hid (Fr [] wr w3) := Lib.hid (HF2.out.trans hF); have HB3 := Lib.hid (hF.heap (by simp) HB2.out); have HI3 := Lib.hid (hF.heap (by simp) HI2.out); have m0 := cell_of_heap (o := 0) HB3.out rfl; have m1 := cell_of_heap (o := 1) HB3.out rfl; have m2 := cell_of_heap (o := 2) HB3.out rfl; have m3 := cell_of_heap (o := 3) HB3.out rfl; have m4 := cell_of_heap (o := 4) HB3.out rfl; have m5 := cell_of_heap (o := 5) HB3.out rfl; have m6 := cell_of_heap (o := 6) HB3.out rfl; have m7 := cell_of_heap (o := 7) HB3.out rfl; have m8 := cell_of_heap (o := 8) HB3.out rfl; have m9 := cell_of_heap (o := 9) HB3.out rfl; have p0 := cell_of_heap (o := 0) HI3.out rfl; have p1 := cell_of_heap (o := 1) HI3.out rfl; have p2 := cell_of_heap (o := 2) HI3.out rfl; have p3 := cell_of_heap (o := 3) HI3.out rfl; have p4 := cell_of_heap (o := 4) HI3.out rfl; have p5 := cell_of_heap (o := 5) HI3.out rfl; have p6 := cell_of_heap (o := 6) HI3.out rfl; have hw3 := lt_of_heap HI3.out; clear hF))
                  all_goals (go_ret; exact ⟨ret1 (vb (by have hv := HV.out; rw [hv, Bool.eq_iff_iff]; first | (simp; done) | (simp; omega) | (simp at *; omega))), HF.out.trans HF3.out⟩)
                · have hx := HX1.out hio
                  clear hio HX0 HX1 HX2
                  have HV : Hid (ok = decide ((0 ≤ n ∧ n ≤ 4095) ∧ x = 0)) := Lib.hid (by rw [HO3.out, Bool.eq_iff_iff]; simp [wtn, grt, wrdOk])
                  clear HO3
                  go_wp2_with (first
                    | (go_at_call 15; refine (hl _).mono ?_; rintro e w' ⟨rfl, rfl⟩)
                    | (go_at_call 43; refine (hx _).mono ?_; rintro e w' ⟨rfl, rfl⟩)
                    | (go_at_call 17; refine (hp _).mono ?_; rintro e w2 ⟨rfl, hF⟩; have HF2 : Hid (Fr [] wr w2) := Lib.hid hF; have HB2 := Lib.hid (hF.heap (by simp) HB.out); have HI2 := Lib.hid (hF.heap (by simp) HI.out); have d0 := cell_of_heap (o := 0) HB2.out rfl; have d1 := cell_of_heap (o := 1) HB2.out rfl; have d2 := cell_of_heap (o := 2) HB2.out rfl; have d3 := cell_of_heap (o := 3) HB2.out rfl; have d4 := cell_of_heap (o := 4) HB2.out rfl; have d5 := cell_of_heap (o := 5) HB2.out rfl; have d6 := cell_of_heap (o := 6) HB2.out rfl; have d7 := cell_of_heap (o := 7) HB2.out rfl; have d8 := cell_of_heap (o := 8) HB2.out rfl; have d9 := cell_of_heap (o := 9) HB2.out rfl; have q0 := cell_of_heap (o := 0) HI2.out rfl; have q1 := cell_of_heap (o := 1) HI2.out rfl; have q2 := cell_of_heap (o := 2) HI2.out rfl; have q3 := cell_of_heap (o := 3) HI2.out rfl; have q4 := cell_of_heap (o := 4) HI2.out rfl; have q5 := cell_of_heap (o := 5) HI2.out rfl; have q6 := cell_of_heap (o := 6) HI2.out rfl; have hw2 := lt_of_heap HI2.out; clear hF)
                    | (go_at_call 32; refine (hd _).mono ?_; rintro e w3 ⟨rfl, hF⟩; have HF3 : Hid (Fr [] wr w3) := Lib.hid (HF2.out.trans hF); have HB3 := Lib.hid (hF.heap (by simp) HB2.out); have HI3 := Lib.hid (hF.heap (by simp) HI2.out); have m0 := cell_of_heap (o := 0) HB3.out rfl; have m1 := cell_of_heap (o := 1) HB3.out rfl; have m2 := cell_of_heap (o := 2) HB3.out rfl; have m3 := cell_of_heap (o := 3) HB3.out rfl; have m4 := cell_of_heap (o := 4) HB3.out rfl; have m5 := cell_of_heap (o := 5) HB3.out rfl; have m6 := cell_of_heap (o := 6) HB3.out rfl; have m7 := cell_of_heap (o := 7) HB3.out rfl; have m8 := cell_of_heap (o := 8) HB3.out rfl; have m9 := cell_of_heap (o := 9) HB3.out rfl; have p0 := cell_of_heap (o := 0) HI3.out rfl; have p1 := cell_of_heap (o := 1) HI3.out rfl; have p2 := cell_of_heap (o := 2) HI3.out rfl; have p3 := cell_of_heap (o := 3) HI3.out rfl; have p4 := cell_of_heap (o := 4) HI3.out rfl; have p5 := cell_of_heap (o := 5) HI3.out rfl; have p6 := cell_of_heap (o := 6) HI3.out rfl; have hw3 := lt_of_heap HI3.out; clear hF))
                  all_goals (go_ret; exact ⟨ret1 (vb (by have hv := HV.out; rw [hv, Bool.eq_iff_iff]; first | (simp; done) | (simp; omega) | (simp at *; omega))), HF.out.trans HF3.out⟩)
              · cases hio : iodd x
                · have hx := HX0.out hio
                  clear hio HX0 HX1 HX2
                  have HV : Hid (ok = decide ((0 ≤ n ∧ n ≤ S - 1) ∧ x ≠ 0)) := Lib.hid (by rw [HO3.out, Bool.eq_iff_iff]; simp [wtn, grt, wrdOk])
                  have e1 : IntKind.i64.wrap (S - 1) = S - 1 := IntWalk.i64_in _ (by omega)
                  clear HO3
                  go_wp2_with (first
                    | (go_at_call 15; refine (hl _).mono ?_; rintro e w' ⟨rfl, rfl⟩)
                    | (go_at_call 43; refine (hx _).mono ?_; rintro e w' ⟨rfl, rfl⟩)
                    | (go_at_call 17; refine (hp _).mono ?_; rintro e w2 ⟨rfl, hF⟩; have HF2 : Hid (Fr [] wr w2) := Lib.hid hF; have HB2 := Lib.hid (hF.heap (by simp) HB.out); have HI2 := Lib.hid (hF.heap (by simp) HI.out); have d0 := cell_of_heap (o := 0) HB2.out rfl; have d1 := cell_of_heap (o := 1) HB2.out rfl; have d2 := cell_of_heap (o := 2) HB2.out rfl; have d3 := cell_of_heap (o := 3) HB2.out rfl; have d4 := cell_of_heap (o := 4) HB2.out rfl; have d5 := cell_of_heap (o := 5) HB2.out rfl; have d6 := cell_of_heap (o := 6) HB2.out rfl; have d7 := cell_of_heap (o := 7) HB2.out rfl; have d8 := cell_of_heap (o := 8) HB2.out rfl; have d9 := cell_of_heap (o := 9) HB2.out rfl; have q0 := cell_of_heap (o := 0) HI2.out rfl; have q1 := cell_of_heap (o := 1) HI2.out rfl; have q2 := cell_of_heap (o := 2) HI2.out rfl; have q3 := cell_of_heap (o := 3) HI2.out rfl; have q4 := cell_of_heap (o := 4) HI2.out rfl; have q5 := cell_of_heap (o := 5) HI2.out rfl; have q6 := cell_of_heap (o := 6) HI2.out rfl; have hw2 := lt_of_heap HI2.out; clear hF)
                    | (go_at_call 32; refine (hd _).mono ?_; rintro e w3 ⟨rfl, hF⟩; have HF3 : Hid (Fr [] wr w3) := Lib.hid (HF2.out.trans hF); have HB3 := Lib.hid (hF.heap (by simp) HB2.out); have HI3 := Lib.hid (hF.heap (by simp) HI2.out); have m0 := cell_of_heap (o := 0) HB3.out rfl; have m1 := cell_of_heap (o := 1) HB3.out rfl; have m2 := cell_of_heap (o := 2) HB3.out rfl; have m3 := cell_of_heap (o := 3) HB3.out rfl; have m4 := cell_of_heap (o := 4) HB3.out rfl; have m5 := cell_of_heap (o := 5) HB3.out rfl; have m6 := cell_of_heap (o := 6) HB3.out rfl; have m7 := cell_of_heap (o := 7) HB3.out rfl; have m8 := cell_of_heap (o := 8) HB3.out rfl; have m9 := cell_of_heap (o := 9) HB3.out rfl; have p0 := cell_of_heap (o := 0) HI3.out rfl; have p1 := cell_of_heap (o := 1) HI3.out rfl; have p2 := cell_of_heap (o := 2) HI3.out rfl; have p3 := cell_of_heap (o := 3) HI3.out rfl; have p4 := cell_of_heap (o := 4) HI3.out rfl; have p5 := cell_of_heap (o := 5) HI3.out rfl; have p6 := cell_of_heap (o := 6) HI3.out rfl; have hw3 := lt_of_heap HI3.out; clear hF))
                  all_goals (go_ret; exact ⟨ret1 (vb (by have hv := HV.out; rw [hv, Bool.eq_iff_iff]; first | (simp; done) | (simp; omega) | (simp at *; omega))), HF.out.trans HF3.out⟩)
                · have hx := HX1.out hio
                  clear hio HX0 HX1 HX2
                  have HV : Hid (ok = decide ((0 ≤ n ∧ n ≤ S - 1) ∧ x ≠ 0)) := Lib.hid (by rw [HO3.out, Bool.eq_iff_iff]; simp [wtn, grt, wrdOk])
                  have e1 : IntKind.i64.wrap (S - 1) = S - 1 := IntWalk.i64_in _ (by omega)
                  clear HO3
                  go_wp2_with (first
                    | (go_at_call 15; refine (hl _).mono ?_; rintro e w' ⟨rfl, rfl⟩)
                    | (go_at_call 43; refine (hx _).mono ?_; rintro e w' ⟨rfl, rfl⟩)
                    | (go_at_call 17; refine (hp _).mono ?_; rintro e w2 ⟨rfl, hF⟩; have HF2 : Hid (Fr [] wr w2) := Lib.hid hF; have HB2 := Lib.hid (hF.heap (by simp) HB.out); have HI2 := Lib.hid (hF.heap (by simp) HI.out); have d0 := cell_of_heap (o := 0) HB2.out rfl; have d1 := cell_of_heap (o := 1) HB2.out rfl; have d2 := cell_of_heap (o := 2) HB2.out rfl; have d3 := cell_of_heap (o := 3) HB2.out rfl; have d4 := cell_of_heap (o := 4) HB2.out rfl; have d5 := cell_of_heap (o := 5) HB2.out rfl; have d6 := cell_of_heap (o := 6) HB2.out rfl; have d7 := cell_of_heap (o := 7) HB2.out rfl; have d8 := cell_of_heap (o := 8) HB2.out rfl; have d9 := cell_of_heap (o := 9) HB2.out rfl; have q0 := cell_of_heap (o := 0) HI2.out rfl; have q1 := cell_of_heap (o := 1) HI2.out rfl; have q2 := cell_of_heap (o := 2) HI2.out rfl; have q3 := cell_of_heap (o := 3) HI2.out rfl; have q4 := cell_of_heap (o := 4) HI2.out rfl; have q5 := cell_of_heap (o := 5) HI2.out rfl; have q6 := cell_of_heap (o := 6) HI2.out rfl; have hw2 := lt_of_heap HI2.out; clear hF)
                    | (go_at_call 32; refine (hd _).mono ?_; rintro e w3 ⟨rfl, hF⟩; have HF3 : Hid (Fr [] wr w3) := Lib.hid (HF2.out.trans hF); have HB3 := Lib.hid (hF.heap (by simp) HB2.out); have HI3 := Lib.hid (hF.heap (by simp) HI2.out); have m0 := cell_of_heap (o := 0) HB3.out rfl; have m1 := cell_of_heap (o := 1) HB3.out rfl; have m2 := cell_of_heap (o := 2) HB3.out rfl; have m3 := cell_of_heap (o := 3) HB3.out rfl; have m4 := cell_of_heap (o := 4) HB3.out rfl; have m5 := cell_of_heap (o := 5) HB3.out rfl; have m6 := cell_of_heap (o := 6) HB3.out rfl; have m7 := cell_of_heap (o := 7) HB3.out rfl; have m8 := cell_of_heap (o := 8) HB3.out rfl; have m9 := cell_of_heap (o := 9) HB3.out rfl; have p0 := cell_of_heap (o := 0) HI3.out rfl; have p1 := cell_of_heap (o := 1) HI3.out rfl; have p2 := cell_of_heap (o := 2) HI3.out rfl; have p3 := cell_of_heap (o := 3) HI3.out rfl; have p4 := cell_of_heap (o := 4) HI3.out rfl; have p5 := cell_of_heap (o := 5) HI3.out rfl; have p6 := cell_of_heap (o := 6) HI3.out rfl; have hw3 := lt_of_heap HI3.out; clear hF))
                  all_goals (go_ret; exact ⟨ret1 (vb (by have hv := HV.out; rw [hv, Bool.eq_iff_iff]; first | (simp; done) | (simp; omega) | (simp at *; omega))), HF.out.trans HF3.out⟩)
  · have HV : Hid (ok = false) := Lib.hid (by
      rw [HO.out]; unfold wtn; simp [hb1])
    have hb2 : decide ((ll : Int) < lst op) = true ∨ decide ((ll : Int) < lst op) = false ∧ decide (mst op < (ll : Int)) = true := by simp; omega
    clear hb1 HO
    rcases hb2 with hb2 | ⟨hb2, hb3⟩
    all_goals
      go_enter Try.func33, Try.ntmps33
      go_wp2_with (go_at_call 11; refine (ht _).mono ?_; rintro e w' ⟨rfl, rfl⟩)
      go_ret
      exact ⟨ret1 (vb HV.out.symm), by (repeat (first | (with_reducible refine Fr.setCell ?_ (fun h => absurd h (Nat.lt_irrefl _)) _) | (with_reducible refine Fr.setCell ?_ (fun h => absurd h (by first | omega | (simp; done) | (simp; omega) | (dsimp only; omega))) _) | (with_reducible refine Fr.alloc ?_ _) | (with_reducible refine Fr.drew ?_) | (with_reducible refine Fr.drewN ?_ _) | (with_reducible exact Fr.refl [] w)))⟩
end Go.Proofs.Ytcdpgchkdjjfgaa
